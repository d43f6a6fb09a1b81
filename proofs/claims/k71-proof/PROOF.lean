import PyProof.Rows.All
import Open.Boot
import OpenK.KLine
import OpenK.KWalk
import OpenK.KMore
import OpenK.KOwn
import OpenK.KRaise
import KE.KSortTup
import PyProof.EqAt
import PyProof.EqKinds
import PyProof.TupleCall
import PyProof.ReprLen
import KE.KIsAll
import PyProof.ExcArgsOwn
import PyProof.NsDelKeeps
import KE.KTryMore
import PyProof.InstStoreFacts
import PyProof.ExcInit
import PyProof.ExcClass2
import PyProof.Rows.ListMul
import PyProof.Draws
import PyProof.EnumMake
import PyProof.Rows.EnumRows
import KE.KItemsList
import PyProof.DictCompW
import PyProof.ListRange
import PyProof.ZipIter
import PyProof.AttrMissHeap
import KE.KDictOf
import KE.KUnpack
import PyProof.SetKind
import PyProof.Rows.SetFrom
import KE.KIntText
import KE.KMinKey
import KE.KLam
import PyProof.StrLawsReplace
import PySem.Challenge.RW_cutstree_k71_whole_text_there_and_back
set_option Elab.async false
set_option compiler.extract_closed false
set_option bootstrap.genMatcherCode false
section
set_option maxRecDepth 100000
set_option maxHeartbeats 0
namespace Q71
open PySem PySem.W PyProof.Rows
noncomputable def qv:Program:={ PySem.Challenge.rw_cutstree_k71_whole_text_there_and_back.prog with main:={ PySem.Challenge.rw_cutstree_k71_whole_text_there_and_back.prog.main with body:=(((((((PySem.Challenge.rw_cutstree_k71_whole_text_there_and_back.prog.main.body.eraseIdx 49).eraseIdx 34).eraseIdx 25).eraseIdx 20).eraseIdx 12).eraseIdx 5).eraseIdx 0) } }
noncomputable abbrev ran(w:World)(os:OsState):Option Shared:=topFrom treeTable PySem.Challenge.rw_cutstree_k71_whole_text_there_and_back.prog w 6100 { heap:=boot_heap w.params,gens:=#[],drawn:=boot_drawn,toks:=boot_toks,os:=os }
noncomputable abbrev xt(s:Shared):Bool:=xlAt qv [] s&&recOk (RowW.records (OpenRow.toRowW PySem.Challenge.rw_cutstree_k71_whole_text_there_and_back.row)) s
theorem two{c d:Type}{o:Option Shared}{f:Shared->c}{g:Shared->d}{a:c}{b:d}(e:o.map f=some a)(h:o.map g=some b):o.map (fun s=>(f s,g s))=some (a,b):=by
 cases o with
 |none=>cases e
 |some s=>cases e;cases h;rfl
theorem pk{o p γ q r s t u ι:Type}{a j:o}{b k:p}{c c':γ}{d d':q}{e l:r}{f m:s}{g g':t}{h h':u}{i n:ι}(k1:a=j)(k2:b=k)(k3:c=c')(v:(d,e)=(d',l))(k5:(f,g)=(m,g'))(w:(h,i)=(h',n)):(a,b,c,d,e,f,g,h,i)=(j,k,c',d',l,m,g',h',n):=by
 cases k1;cases k2;cases k3;cases v;cases k5;cases w;rfl
theorem t1(w:World)(os:OsState):(ran w os).map (fun s=>seen (List.map (fun x=>x.name) (recsOf qv)) (ownsOf qv) [] { heap:=s.heap,drawn:=s.drawn,toks:=s.toks,os:=s.os })=some (expectedOf qv):=by kernel_rfl
theorem t2(w:World)(os:OsState):(ran w os).map (fun s=>s.heap.bltView)=some bltViewBooted:=by kernel_rfl
theorem t3(w:World)(os:OsState):(ran w os).map (fun s=>s.heap.keysOk (looseW qv []) (List.map (fun x=>x.name) (recsOf qv)) (List.map (fun x=>x.fst) (litsOf qv)) (List.map (fun x=>x.name) (clssOf qv (looseW qv [])))&&s.heap.accountedOkI (importedModules PySem.Challenge.rw_cutstree_k71_whole_text_there_and_back.prog.main.body)&&s.heap.isNs mainGlobals&&s.heap.isNs builtinsNs&&tablesOk qv s.heap&&xt s&&if true=true then s.gens.size==0 else !leftWithCleanup s.gens)=some true:=by kernel_rfl
theorem t4(w:World)(os:OsState):(ran w os).map (fun s=>(tabsOk qv s,pinSeenD qv (drecsOf qv) s))=some (true,pinGoodD (drecsOf qv)):=by kernel_rfl
theorem t5(w:World)(os:OsState):(ran w os).map (fun s=>(plainSeenE qv (looseW qv []) s,plainSeenD qv [] s))=some (plainGoodE qv (looseW qv []),plainGoodD qv []):=by kernel_rfl
theorem t6(w:World)(os:OsState):(ran w os).map (fun s=>(wideSeen qv s,clsSeenW qv [] s))=some (wideGood qv,clsGoodW qv []):=by kernel_rfl
theorem left_boot{l:Type}{Yf:Shared->l}{Ya:World->l}(m:opening PySem.Challenge.rw_cutstree_k71_whole_text_there_and_back.prog=plainProg (PySem.Challenge.rw_cutstree_k71_whole_text_there_and_back.prog).main.scope.names)(n:Nat.ble 600 6100=true)(o:∀s:Shared,fenceModules? PySem.Challenge.rw_cutstree_k71_whole_text_there_and_back.prog s=some s)(h:∀(w:World)(os:OsState),(ran w os).map Yf=some (Ya w)):LeftO PySem.Challenge.rw_cutstree_k71_whole_text_there_and_back.prog qv [] xt Yf Ya 6100 true:=by
 intro w;have b:=boot_open m n o w;unfold openEnds;cases e:fencedOpening treeTable PySem.Challenge.rw_cutstree_k71_whole_text_there_and_back.prog w 6100 with
 |none=>rw[e]at b;cases b
 |some s=>
  rw[e]at b;obtain⟨q,r,t,p,a⟩:=s;simp only[Option.map_some,Option.some.injEq,Prod.mk.injEq]at b;obtain⟨rfl,rfl,rfl,rfl⟩:=b;have d:=t4 w a;have f:=t5 w a;have g:=t6 w a;show(ran w a).map _=_;have c:=t1 w a;have i:=t2 w a;have j:=t3 w a;have k:=h w a;revert c i j d f g k;cases ran w a with
  |none=>intro c;cases c
  |some s=>
   intro d f g c i j k;have c:=Option.some.inj c;have i:=Option.some.inj i;have j:=Option.some.inj j;have d:=Option.some.inj d;have f:=Option.some.inj f;have g:=Option.some.inj g;have k:=Option.some.inj k;refine congrArg some (Prod.ext ?_ k);exact pk c i j d f g
end Q71
open PySem PySem.W PyProof.Rows
local macro_rules | `(tactic| o_head $H) => `(tactic| (
 refine holds_open (r:=PySem.Challenge.rw_cutstree_k71_whole_text_there_and_back.row) (q:=Q71.qv) (loose:=[]) (Xt:=Q71.xt) (XP:=XL Q71.qv []) (Yf:=Hook.obs $H) (Ya:=Hook.val $H) (YP:=Hook.says $H) (N:=6100) ?hl (Hook.of $H) (Hook.keeps $H) (fun s e=>xl_of s (Bool.and_eq_true_iff.mp e).1) XL.keeps (by rfl) (by rfl) (by rfl) (fun s e=>recFacts_of (Bool.and_eq_true_iff.mp e).2) (by rfl) (by first|assumption|decide +kernel) (by decide +kernel) ⟨rfl,rfl,rfl,rfl,rfl,by decide +kernel⟩ ?hw ?hc
 (case hl=>exact Q71.left_boot rfl rfl (fun _=>rfl) (fun w os=>by kernel_rfl))))
open_top Q71.k_top for PySem.Challenge.rw_cutstree_k71_whole_text_there_and_back
end
section
set_option linter.all false
set_option maxRecDepth 100000
set_option maxHeartbeats 4000000
noncomputable abbrev Fg:=PySem.W.Frag
noncomputable section
open PySem renaming sizeLine->ba,model->bb,wpAny->bc,starEach->bf,foldedSetIterable->bg,mainGlobals->bh,compareOp->bi,codeAny->bj,letOwnedTupleGo->bn
open PySem.SeqAt renaming shaped->bo
open PySem.PyData renaming eqv->bp
abbrev T0:=List (List Int)
abbrev T1:=PySem.Value->PySem.Shared->Prop
abbrev T2:=List (PySem.Addr×PySem.Obj)
abbrev T3:=List (Option Nat)
abbrev T4:=List PySem.PyData
abbrev T5:=List PySem.Value
abbrev T7:=List Int
abbrev T8:=List PySem.Expr
abbrev T9:=List PySem.Stmt
abbrev Ta:=List PySem.Addr
abbrev Tb:=List PySem.Str
abbrev Td:=List Nat
abbrev Tf:=Option PySem.Value
abbrev Tg:=Option Nat
abbrev Th:=Option PySem.Addr
abbrev Ti:=Array PySem.Value
abbrev Tj:=Array Nat
abbrev Tk:=Option Int
abbrev Tl:=PySem.Str×PySem.NameKind
abbrev Tn:=PySem.Value->PySem.Value->PySem.Sem PySem.Value
abbrev To:=Nat->Nat->Bool
abbrev Tq:=PySem.Str->Option PySem.NameKind
abbrev Tt:=List (PySem.Str×PySem.Value)
abbrev Tv:=List
abbrev Tw:=Option
abbrev Tz:=PySem.Value
abbrev Ua:=PySem.PyData
abbrev Ub:=PySem.Shared
abbrev Uc:=PySem.Addr
abbrev Ud:=PySem.Expr
abbrev Ue:=PySem.Program
abbrev Uf:=PySem.Around
noncomputable abbrev Z{α:Type _}(x:α):=some x
noncomputable abbrev Y{α:Type _}:=@none α
abbrev A0:=@PySem.wpAny_bind
abbrev A1:=@List.length_map
abbrev A2:=@Option.bind_some
abbrev A3:=@PySem.Heap.get?_push_of_some
abbrev A4:=@if_pos
abbrev A5:=@if_neg
abbrev A6:=@PySem.wpAny_pure
abbrev A7:=@Nat.le_refl
abbrev A8:=@Bool.false_ne_true
abbrev A9:=@PySem.Heap.lt_size
abbrev B0:=@List.mem_cons_self
abbrev B1:=@List.mem_cons_of_mem
abbrev B2:=@List.map_cons
abbrev B3:=@PySem.Heap.get?_push_size
abbrev B4:=@Nat.ne_of_lt
abbrev B5:=@List.mem_append_right
abbrev B6:=@List.getElem?_set_ne
abbrev B7:=@List.map_map
abbrev B8:=@Bool.and_eq_true
abbrev B9:=@List.length_append
abbrev C0:=@List.length_cons
abbrev C2:=@Nat.lt_of_lt_of_le
abbrev C3:=@List.getElem?_set_self
abbrev C4:=@List.getElem?_eq_getElem
abbrev C5:=@Int.emod_lt_of_pos
abbrev C6:=@Nat.le_trans
abbrev C7:=@decide_eq_true
abbrev C8:=@Int.emod_nonneg
abbrev C9:=@decide_eq_false
abbrev D0:=@List.map_append
abbrev D1:=@PySem.wpAny_newObj_type
abbrev D2:=@List.getD_eq_getElem?_getD
abbrev D3:=@List.getElem?_map
abbrev D4:=@of_decide_eq_true
abbrev D5:=@Option.some.inj
abbrev D6:=@List.lookup_cons
abbrev D7:=@List.getElem?_append_right
abbrev D8:=@List.append_nil
abbrev D9:=@List.size_toArray
abbrev E1:=@List.length_set
abbrev E2:=@List.append_assoc
abbrev E3:=@PySem.wpAny_mono
abbrev E4:=@PySem.sizeLine_eq
abbrev E5:=@List.mem_append_left
abbrev E6:=@Nat.zero_le
abbrev E7:=@PySem.Heap.get?_update_other
abbrev E8:=@PySem.W.mg_none_of
abbrev E9:=@Nat.ne_of_gt
abbrev F0:=@List.length_singleton
abbrev F4:=@Array.getD_eq_getD_getElem?
abbrev F5:=@PySem.wpAny_holding
abbrev F6:=@Nat.lt_succ_self
abbrev F7:=@Int.eq_ofNat_of_zero_le
abbrev F8:=@PySem.wpAny_field
abbrev F9:=@PySem.Heap.get?_update_self
abbrev I0:=@PySem.W.mg_of
abbrev J0:=@List.getElem?_append_left
abbrev J7:=@Ne.symm
abbrev J8:=@PySem.mem_of_lookup
abbrev J9:=@PySem.StrLaws.glued_eq_join
abbrev L0:=@of_decide_eq_false
abbrev L4:=@PySem.wpAny_Call_Name_kw
abbrev L5:=@Array.length_toList
abbrev L6:=@PySem.wpAny_call_entry
abbrev L7:=@Array.getElem?_toList
abbrev L8:=@Nat.lt_irrefl
abbrev L9:=@PySem.wpAny_truthy_bool
abbrev O0:=@PyProof.Rows.callWith_type1
abbrev O1:=@PySem.PassesOwn.never
abbrev O2:=@Nat.sub_self
abbrev O3:=@PySem.wpAny_loadPart'
abbrev O4:=@PySem.Obj.data_mapFields
abbrev O5:=@List.reverse_cons
abbrev O6:=@List.flatten_cons
abbrev O7:=@List.replicate_succ
abbrev O8:=@List.map_congr_left
abbrev O9:=@PySem.wpAny_callSpecial?_slot
abbrev S0:=@List.getElem_mem
abbrev S1:=@PySem.W.Looks.here
abbrev S2:=@PySem.Heap.SameBut.update
abbrev S3:=@PySem.StrLaws.join_length_le
abbrev S4:=@List.drop_eq_getElem_cons
abbrev S5:=@PySem.Heap.size_push
abbrev S6:=@List.mem_of_getElem?
abbrev S7:=@Nat.lt_trans
abbrev S8:=@List.any_cons
abbrev S9:=@PyProof.Rows.slot_tuple_getitem
abbrev U0:=@List.filterMap_cons
abbrev U1:=@List.length_reverse
abbrev U2:=@PySem.Heap.get?_none_of_le
abbrev U3:=@congrArg
abbrev U4:=@List.filter_cons_of_pos
abbrev U5:=@List.filter_cons_of_neg
abbrev U6:=@Nat.le_of_lt
abbrev U7:=@PySem.W.callWith_K
abbrev U8:=@PySem.F.plainAttrs_str
abbrev U9:=@PySem.F.slot_str_split
abbrev Y0:=@PySem.wpAny_setField
abbrev Y1:=@List.length_filter_le
abbrev Y2:=@List.length_range
abbrev Y3:=@PySem.call_meets
abbrev Y4:=@PySem.SeqAt.canLay_of_shaped
abbrev Y5:=@PySem.wpAny_setField_rec
abbrev Y6:=@PySem.wpAny_passesOwn
abbrev Y7:=@PySem.wpAny_standAt
abbrev Y8:=@beq_self_eq_true
abbrev Y9:=@List.map_reverse
abbrev Z0:=@PySem.F.slot_tuple_iterator_next
abbrev Z1:=@Bool.eq_iff_iff
abbrev Z2:=@List.nil_append
abbrev Z3:=@PySem.Str.empty_append
abbrev Z4:=@PySem.Calls.spliced_cons
abbrev Z5:=@List.getElem?_eq_none
abbrev Z6:=@List.drop_length
abbrev Z7:=@List.sum_cons
abbrev Z8:=@Nat.le_succ
abbrev Z9:=@List.eq_nil_of_length_eq_zero
abbrev A0a:=@List.length_nil
abbrev A0b:=@Bool.or_eq_true
abbrev A0c:=@List.range_succ
abbrev A0d:=@PySem.Obj.isFreed_of_fields
abbrev A0e:=@PyProof.Rows.boot_tuple
abbrev A0f:=@PySem.typeIs_str
abbrev A0g:=@PySem.wpAny_typeNameOfWhole_itemiter
abbrev A0h:=@PySem.Paired.length
abbrev A0i:=@PySem.PyData.eqvAll.eq_def
abbrev A0j:=@PySem.wpAny_typeNameOfWhole_keyiter
abbrev A0k:=@List.map_singleton
abbrev A0l:=@PySem.wpAny_execs_nil
abbrev A0m:=@PySem.codeAny_builtin
abbrev A0n:=@PySem.codeAny_mono
abbrev A0o:=@PySem.wpAny_typeOf
abbrev A0p:=@PySem.Calls.Constant_str
abbrev A0q:=@PySem.wpAny_pyIter_tuple
abbrev A0r:=@PyProof.Rows.get?_update_seq
namespace L2
variable{H:Hp}{s:Ub}{A:Uf}{σ:St}{K:Fg}{pos:Pos}
open PySem PySem.Spec PyProof.Rows
noncomputable abbrev Key:=Sum Int Str
noncomputable def EN:Key->Tz->Bool
 |.inl k,v=>Value.isInt k v
 |.inr x,v=>Value.isStrOf x v
noncomputable def aOA(w:World):Key->Int
 |.inl k=>hashInt k
 |.inr x=>hashStr w x
def dE:∀{k:Key}{v:Tz},EN k v=true->(∃i t,k=Sum.inl i/\v=Value.int i t)\/(∃x t,k=Sum.inr x/\v=Value.str x t)
 |.inl i,v=>λh=>by
  obtain⟨t,e⟩:=Value.isInt_shape h;exact .inl ⟨i,t,rfl,e⟩
 |.inr x,v=>λh=>by
  obtain⟨t,e⟩:=Value.isStrOf_shape h;exact .inr ⟨x,t,rfl,e⟩
def ZJ(i:Int)(t:Tok):EN (.inl i) (.int i t)=true:=by simp[EN,Value.isInt]
def aAG(x:Str)(t:Tok):EN (.inr x) (.str x t)=true:=by simp[EN,Value.isStrOf]
def aLL(a b:Int):decide ((Sum.inl a:Key)=Sum.inl b)=(a==b):=by grind
def aLT(a b:Str):decide ((Sum.inr a:Key)=Sum.inr b)=decide (a=b):=by grind
def aJU(a:Int)(b:Str):decide ((Sum.inl a:Key)=Sum.inr b)=false:=C9 λq=>nomatch q
def aKa(a:Str)(b:Int):decide ((Sum.inr a:Key)=Sum.inl b)=false:=C9 λq=>nomatch q
def eM(prog:Ue)(w:World):PySem.KeyKind prog w Key where
 is:=EN
 hash:=aOA w
 inj:=λv a b ha hb=>by
  obtain⟨i,t,rfl,rfl⟩|⟨x,t,rfl,rfl⟩:=dE ha
  .obtain⟨j,u,rfl,e⟩|⟨y,u,rfl,e⟩:=dE hb
   .injection e with e1 _;rw[e1]
   .exact nomatch e
  .obtain⟨j,u,rfl,e⟩|⟨y,u,rfl,e⟩:=dE hb
   .exact nomatch e
   .injection e with e1 _;rw[e1]
 byValue:=λk v h=>by
  obtain⟨i,t,rfl,rfl⟩|⟨x,t,rfl,rfl⟩:=dE h<;>rfl
 pyHash:=λhv h=>by
  obtain⟨i,t,rfl,rfl⟩|⟨x,t,rfl,rfl⟩:=dE hv
  .exact wpAny_pyHash_int h
  .exact wpAny_pyHash_str h
 eqBool:=λhu hv h=>by
  obtain⟨i,t,rfl,rfl⟩|⟨x,t,rfl,rfl⟩:=dE hu
  .obtain⟨j,u,rfl,rfl⟩|⟨y,u,rfl,rfl⟩:=dE hv
   .rw[aLL]at h;exact wpAny_eqBool_int h
   .rw[aJU]at h;exact SeqAt.EqAt.int_str i t y u _ _ _ _ h
  .obtain⟨j,u,rfl,rfl⟩|⟨y,u,rfl,rfl⟩:=dE hv
   .rw[aKa]at h;exact SeqAt.EqAt.str_int x t j u _ _ _ _ h
   .rw[aLT]at h;exact wpAny_eqBool_str h
 «strs»:=λk x t v h=>by
  obtain⟨i,u,rfl,e⟩|⟨y,u,rfl,e⟩:=dE h
  .exact nomatch e
  .injection e with e1 _
   subst e1;cases v<;>rfl
def NJ(prog:Ue)(w:World)(i:Int)(t:Tok):(eM prog w).is (.inl i) (.int i t)=true:=ZJ i t
def OU(prog:Ue)(w:World)(x:Str)(t:Tok):(eM prog w).is (.inr x) (.str x t)=true:=aAG x t
inductive V where
 |non|bl (b:Bool)|int (i:Int)|str (x:Str)|byt (b:Array UInt8)|flt (b:UInt64)|ref (a:Uc)|ty (n:String)
 deriving DecidableEq
abbrev Tc:=Tv V
def RelV:V->Tz->Prop
 |.non,u=>u=Value.none
 |.bl b,u=>u=Value.bool b
 |.int i,u=>∃t,u=Value.int i t
 |.str x,u=>∃t,u=Value.str x t
 |.byt b,u=>∃t,u=Value.bytes b t
 |.flt b,u=>∃t,u=Value.float b t
 |.ref a,u=>u=Value.ref a
 |.ty n,u=>u=Value.type n
abbrev bA:Tc->T5->Prop:=Paired RelV
def bA.length(r:bA xs us):xs.length=us.length:=A0h r
theorem bA.get:∀{xs:Tc}{us:T5}{i:Nat}{x:V},bA xs us->xs[i]?=Z x->∃u,us[i]?=Z u/\RelV x u
 |_,_,_,_,.nil=>λe=>by simp at e
 |_,_,0,_,.cons r _=>λe=>by simp at e;subst e;exact⟨_,rfl,r⟩
 |_,_,i+1,x,.cons _ t=>λe=>by
  obtain⟨u,a,b⟩:=bA.get t (by simpa using e);exact⟨u,by simpa using a,b⟩
theorem bA.set(r:RelV x u):∀{xs:Tc}{us:T5}(i:Nat),bA xs us->bA (xs.set i x) (us.set i u)
 |_,_,_,.nil=>.nil
 |_,_,0,.cons _ t=>.cons r t
 |_,_,i+1,.cons q t=>.cons q (bA.set r i t)
theorem bA.append:∀{xs ys:Tc}{us ws:T5},bA xs us->bA ys ws->bA (xs++ys) (us++ws)
 |_,_,_,_,.nil=>λs=>s
 |_,_,_,_,.cons r t=>λs=>.cons r (bA.append t s)
theorem bA.take:∀{xs:Tc}{us:T5}(n:Nat),bA xs us->bA (xs.take n) (us.take n)
 |_,_,0,_=>.nil
 |_,_,_+1,.nil=>.nil
 |_,_,n+1,.cons r t=>.cons r (bA.take n t)
theorem bA.drop:∀{xs:Tc}{us:T5}(n:Nat),bA xs us->bA (xs.drop n) (us.drop n)
 |_,_,0,r=>r
 |_,_,_+1,.nil=>.nil
 |_,_,n+1,.cons _ t=>bA.drop n t
def zI:Tw V->Tf->Prop
 |some v,some u=>RelV v u
 |none,none=>True
 |_,_=>False
def KV{a:Type}:Tv (a×V)->Tv (a×Tz)->Prop:=Paired λ(p:a×V)(q:a×Tz)=>p.1=q.1/\RelV p.2 q.2
noncomputable def kV:Key->V
 |.inl i=>.int i
 |.inr x=>.str x
inductive HO where
 |lst (xs:Tc)
 |tup (xs:Tc)
 |dK (kvs:Tv (Key×V))|dT (kvs:Tv (Tv Key×V))
 |set (S:Int->Bool) (n:Nat)
 |ins (C dx:Uc) (fs:Tv (Str×V))
 |own (x:Uc)
 |xd (fs:Tv (Str×V))
 |met (f x:Uc)
 |rng (lo hi:Int)
 |frz (o:Obj) (u:HO)
 |tbl (ps:Ti)
 |ext (φ:Heap->Prop)
noncomputable abbrev Hp:=Uc->Tw HO
def upd(H:Hp)(a:Uc)(o:HO):Hp:=λb=>if b=a then Z o else H b
def aS:upd H a o a=Z o:=by unfold upd;rw[A4 rfl]
def aK{a b:Uc}(h:b≠a):upd H a o b=H b:=by unfold upd;rw[A5 h]
def zM{o u:HO}(h:H a=Z o)(h':H b=Z u)(d:o≠u):a≠b:=by grind
def aN{o:HO}(h:H a=Z o)(h':H b=Y):a≠b:=by
 intro e;subst e;rw[h]at h';cases h'
section
variable(P:Ue)(w:World)
def eO(H:Hp)(h:Heap)(a:Uc):HO->Prop
 |.lst xs=>xs.length<=ba/\∃(its:T5)(n:Nat),bA xs its/\h.get? a=Z { cls:=.type "list",data:=.seq its.toArray n }
 |.tup xs=>xs.length<=ba/\∃its:T5,bA xs its/\IsTup h a its.toArray
 |.dK kvs=>kvs.length<=ba/\(a==sysModules)=false/\∃vs,KV kvs vs/\h.DictOf (eM P w) a vs
 |.dT kvs=>kvs.length<=ba/\(a==sysModules)=false/\∃xs:Tv (Tv Key×Uc×Tz),
  Paired (λ(p:Tv Key×V)(q:Tv Key×Uc×Tz)=>p.1=q.1/\H q.2.1=Z (.tup (p.1.map kV))/\RelV p.2 q.2.2) kvs xs /\
  ∃o es ep,h.get? a=Z o/\o.ExactDict/\o.data=.dict es ep/\es.toList=xs.map (entryOfKey<|tupleKind<|eM P w)/\(xs.map (·.1)).Nodup
 |.set S n=>h.SetOf (intKind P w) a S n
 |.ins C dx fs=>H dx=Z (.own a)/\fs.length<=1000/\dx≠a/\h.get? a=Z (W.instObj C dx) /\
  ∃mA,h.Ns1 dx mA/\(∀f,zI (fs.lookup f)<|mA f)/\PySem.Within mA (fs.map (·.1))
 |.own _=>∃o,h.get? a=Z o
 |.xd fs=>∃mA,h.Ns1 a mA/\∀f,zI (fs.lookup f)<|mA f
 |.rng lo hi=>∃t u v,h.get? a=Z { cls:=.type "range",data:=.fields #[.int lo t,.int hi u,.int 1 v] }
 |.frz o u=>h.get? a=Z o/\eO H h a u
 |.tbl ps=>h.get? a=Z { cls:=.none,data:=.fields ps }
 |.met f x=>h.get? a=Z (W.methodObj (.ref f) (.ref x))
 |.ext b=>b h/\(∃o,h.get? a=Z o)/\∀c d:Heap,b c->(∀o,c.get? a=Z o->d.get? a=Z o)->b d
def HOk(H:Hp)(h:Heap):Prop:=∀a o,H a=Z o->eO P w H h a o
end
section
variable{P:Ue}{w:World}{H H':Hp}{h h':Heap}{a:Uc}{o:HO}
def eO.lt(x:eO P w H h a o):a<h.objs.size:=by
 cases o with
 |lst xs=>obtain⟨_,_,_,_,e⟩:=x;exact A9 e
 |tup xs=>obtain⟨_,_,_,p⟩:=x;exact p.lt
 |dK kvs=>obtain⟨_,_,_,_,o,_,_,e,_⟩:=x;exact A9 e
 |dT kvs=>obtain⟨_,_,_,_,o,_,_,e,_⟩:=x;exact A9 e
 |set S n=>obtain⟨o,_,_,_,e,_⟩:=x;exact A9 e
 |ins C dx fs=>obtain⟨_,_,_,e,_⟩:=x;exact A9 e
 |own y=>obtain⟨_,e⟩:=x;exact A9 e
 |xd fs=>obtain⟨_,⟨_,_,_,e,_⟩,_⟩:=x;exact A9 e
 |rng lo hi=>obtain⟨_,_,_,e⟩:=x;exact A9 e
 |frz ob u=>obtain⟨e,_⟩:=x;exact A9 e
 |tbl ps=>exact A9 x
 |met f y=>exact A9 x
 |ext b=>obtain⟨_,⟨_,e⟩,_⟩:=x;exact A9 e
theorem Paired.mapP{c d:Type}{F G:c->d->Prop}:∀{l₁:Tv c}{l₂:Tv d},Paired F l₁ l₂->(∀a b,F a b->G a b)->Paired G l₁ l₂
 |_,_,.nil=>λ_=>.nil
 |_,_,.cons r t=>λf=>.cons (f _ _ r) (Paired.mapP t f)
def eO.stay(x:eO P w H h a o)(k:∀b u,(b=a\/H b=Z (.own a))->h.get? b=Z u->h'.get? b=Z u)
 (g:∀b,H b=Z (.own a)->H' b=Z (.own a)) (ht:∀b xs,H b=Z (.tup xs)->H' b=Z (.tup xs)):eO P w H' h' a o:=by
 induction o with
 |lst xs=>obtain⟨z,its,n,r,e⟩:=x;exact⟨z,its,n,r,k _ _ (.inl rfl) e⟩
 |tup xs=>obtain⟨z,its,r,ob,e,c⟩:=x;exact⟨z,its,r,ob,k _ _ (.inl rfl) e,c⟩
 |dK kvs=>obtain⟨z,y,vs,r,ob,es,ep,e,c⟩:=x;exact⟨z,y,vs,r,ob,es,ep,k _ _ (.inl rfl) e,c⟩
 |dT kvs=>
  obtain⟨z,y,xs,r,ob,es,ep,e,c⟩:=x;exact⟨z,y,xs,Paired.mapP r λp q z=>⟨z.1,ht _ _ z.2.1,z.2.2⟩,ob,es,ep,k _ _ (.inl rfl) e,c⟩
 |set S n=>obtain⟨ob,es,ep,t,e,c⟩:=x;exact⟨ob,es,ep,t,k _ _ (.inl rfl) e,c⟩
 |ins C dx fs=>
  obtain⟨d,z,ne,e,mA,⟨od,es,ep,i,c⟩,r⟩:=x;exact⟨g _ d,z,ne,k _ _ (.inl rfl) e,mA,⟨od,es,ep,k _ _ (.inr d) i,c⟩,r⟩
 |own y=>obtain⟨ob,e⟩:=x;exact⟨ob,k _ _ (.inl rfl) e⟩
 |xd fs=>obtain⟨mA,⟨od,es,ep,e,c⟩,r⟩:=x;exact⟨mA,⟨od,es,ep,k _ _ (.inl rfl) e,c⟩,r⟩
 |rng lo hi=>obtain⟨t,u,v,e⟩:=x;exact⟨t,u,v,k _ _ (.inl rfl) e⟩
 |frz ob u ih=>obtain⟨e,q⟩:=x;exact⟨k _ _ (.inl rfl) e,ih q⟩
 |tbl ps=>
  have e:=x;exact k a _ (.inl rfl) e
 |met f y=>
  have e:=x;exact k a _ (.inl rfl) e
 |ext j=>obtain⟨p,⟨o,e⟩,st⟩:=x;exact⟨st _ _ p λo q=>k _ _ (.inl rfl) q,⟨o,k _ _ (.inl rfl) e⟩,st⟩
def HOk.lt(x:HOk P w H h)(e:H a=Z o):a<h.objs.size:=(x a o e).lt
def HOk.fresh(x:HOk P w H h)(e:h.objs.size<=a):H a=Y:=by
 cases q:H a with
 |none=>rfl
 |some u=>exact absurd (C2 (x.lt q) e)<|L8 _
def HOk.kept(x:HOk P w H h)(k:∀b u,h.get? b=Z u->h'.get? b=Z u):HOk P w H h':=λa o e=>
 (x a o e).stay (λb u _ q=>k b u q) (λ_ q=>q) λ_ _ q=>q
def HOk.laid(x:HOk P w H h)(k:∀b u,h.get? b=Z u->h'.get? b=Z u)(f:h.objs.size<=a)(new:eO P w (upd H a o) h' a o):HOk P w (upd H a o) h':=λb u e=>by
 have hn:=x.fresh f;by_cases d:b=a
 .subst d;rw[aS]at e;cases e;exact new
 .rw[aK d]at e;exact(x b u e).stay (λc v _ q=>k c v q) (λc q=>by rw[aK (aN q hn)];exact q) λc xs q=>by rw[aK (aN q hn)];exact q
end
def Rd(H:Hp)(a:Uc)(u:HO):Prop:=H a=Z u\/∃o,H a=Z (.frz o u)
def Rd.ok{P:Ue}(r:Rd H a u)(x:HOk P w H h):eO P w H h a u:=by
 obtain r|⟨o,r⟩:=r
 .exact x a u r
 .obtain⟨_,q⟩:=x a _ r;exact q
def Mut:Tw HO->Prop
 |some (.lst _)=>True
 |some (.dK _)=>True
 |some (.dT _)=>True
 |some (.set _ _)=>True
 |some (.ins _ _ _)=>True
 |some (.ext _)=>True
 |_=>False
section
variable{P:Ue}{w:World}{H:Hp}{h h':Heap}{x e:Uc}{o':HO}
def HOk.write(ok:HOk P w H h)(g:Mut (H x))(l:e=x\/H e=Z (.own x))(k:∀b u,b≠e->h.get? b=Z u->h'.get? b=Z u)(j:∃u,h'.get? e=Z u)
 (new:eO P w (upd H x o') h' x o'):HOk P w (upd H x o') h':=λb u q=>by
 have d:∀c y,H c=Z (.own y)->c≠x:=λc y r z=>by subst z;rw[r]at g;exact g
 have f:∀c xs,H c=Z (.tup xs)->c≠x:=λc xs r z=>by subst z;rw[r]at g;exact g
 by_cases i:b=x
 .subst i;rw[aS]at q;cases q;exact new
 .rw[aK i]at q;by_cases a:b=e
  .have m:H b=Z (.own x):=by
    obtain z|z:=l
    .exact absurd (a.trans z) i
    .rw[a];exact z
   rw[q]at m;cases m;obtain⟨v,n⟩:=j;exact⟨v,by rw[a];exact n⟩
  .refine(ok b u q).stay (λc v hc r=>k c v ?_ r) (λc r=>by rw[aK (d c b r)];exact r) λc xs r=>by rw[aK (f c xs r)];exact r
   obtain rfl|hc:=hc
   .exact a
   .rintro rfl;obtain z|z:=l
    .exact d c b hc z
    .rw[hc]at z;cases z;exact i rfl
end
structure Un(fs ex:Ta)(H H':Hp)(h h':Heap):Prop where
 keep:∀b o,h.get? b=Z o->H b=Y->b∉fs->b∉ex->h'.get? b=Z o
 slot:∀b o,h.get? b=Z o->H b=Y->b∈fs->b∉ex->∃sl,h'.get? b=Z { o with slots:=sl }
 free:∀b o,h.get? b=Z o->H b=Y->b∉ex->H' b=Y
 there:∀b o,h.get? b=Z o->b∉ex->∃o',h'.get? b=Z o'
 tups:∀b xs,H b=Z (.tup xs)->H' b=Z (.tup xs)
 frzs:∀b o u,H b=Z (.frz o u)->H' b=Z (.frz o u)
 tbls:∀b ps,H b=Z (.tbl ps)->∃more,H' b=Z (.tbl (ps++more))
section
variable{fs fs' ex ex':Ta}{H H1 H2:Hp}{h h1 h2 h':Heap}{a x e:Uc}{o:HO}
def Un.any(u:Un fs ex H H1 h h1){b:Uc}{ob:Obj}(q:h.get? b=Z ob)(n:H b=Y)(c:b∉ex):∃sl,h1.get? b=Z { ob with slots:=sl }:=by
 by_cases d:b∈fs
 .exact u.slot b ob q n d c
 .exact⟨ob.slots,u.keep b ob q n d c⟩
def Un.kept(k:∀b u,h.get? b=Z u->h'.get? b=Z u):Un fs ex H H h h':=
 ⟨λb ob q _ _ _=>k b ob q,λb ob q _ _ _=>⟨ob.slots,k b ob q⟩,λ_ _ _ n _=>n,λb ob q _=>⟨ob,k b ob q⟩,λ_ _ q=>q,λ_ _ _ q=>q,λ_ ps q=>⟨#[],by rw[q];simp⟩⟩
def Un.refl:Un fs ex H H h h:=Un.kept λ_ _ q=>q
def Un.laid(k:∀b u,h.get? b=Z u->h'.get? b=Z u)(hp:h.objs.size<=a)(hn:H a=Y):Un fs ex H (upd H a o) h h' where
 keep:=λb u q _ _ _=>k b u q
 slot:=λb u q _ _ _=>⟨u.slots,k b u q⟩
 free:=λb u q n _=>by rw[aK (B4<|C2 (A9 q) hp)];exact n
 there:=λb u q _=>⟨u,k b u q⟩
 tups:=λb xs q=>by rw[aK (aN q hn)];exact q
 frzs:=λb u xs q=>by rw[aK (aN q hn)];exact q
 tbls:=λb ps q=>⟨#[],by rw[aK (aN q hn),q];simp⟩
def Un.write(d:Mut (H x))(j:e=x\/H e=Z (.own x))(k:∀b u,b≠e->h.get? b=Z u->h'.get? b=Z u)(f:∃u,h'.get? e=Z u):Un fs ex H (upd H x o) h h':=by
 have g:∀b,H b=Y->b≠x:=λb n z=>by subst z;rw[n]at d;exact d
 have i:∀b,H b=Y->b≠e:=λb n z=>by
  subst z;obtain r|r:=j
  .exact g b n r
  .rw[n]at r;cases r
 have hm:∀b u,H b=Z u->¬Mut (Z u)->b≠x:=λb u q nm z=>by subst z;rw[q]at d;exact nm d
 refine⟨λb u q n _ _=>k b u (i b n) q,λb u q n _ _=>⟨u.slots,k b u (i b n) q⟩,λb u q n _=>by rw[aK (g b n)];exact n,λb u q _=>?_,
  λb xs q=>by rw[aK (hm b _ q λz=>z)];exact q,λb u xs q=>by rw[aK (hm b _ q λz=>z)];exact q,λb ps q=>⟨#[],by rw[aK (hm b _ q λz=>z),q];simp⟩⟩
 by_cases c:b=e
 .subst c;exact f
 .exact⟨u,k b u c q⟩
end
noncomputable def trk(h:Heap)(H:Hp):Ta:=(List.range h.objs.size).filter λa=>(H a).isSome
def PR(h:Heap)(H:Hp):Heap:=W.hideAll h<|trk h H
def YT(h:Heap)(H:Hp):(PR h H).objs.size=h.objs.size:=W.hideAll_size _ _
def aDh{h:Heap}{b:Uc}{o:Obj}(e:h.get? b=Z o)(n:H b=Y):(PR h H).get? b=Z o:=
 W.hideAll_get _ e λhm=>by
  have q:=(List.mem_filter.mp hm).2;rw[n]at q;simp at q
def aIe{b:Uc}{o:Obj}(e:(PR h H).get? b=Z o):h.get? b=Z o/\H b=Y:=by
 have a:=W.of_hideAll (trk h H) e;refine⟨a,?_⟩;cases q:H b with
 |none=>rfl
 |some x=>
  have hm:b∈trk h H:=List.mem_filter.mpr ⟨List.mem_range.mpr<|A9 a,by simp[q]⟩;have z:(PR h H).get? b=Y:=W.hideAll_none (trk h H) hm;rw[z]at e;cases e
def lY(g h:Heap)(L:Uc):T2:=(List.range h.objs.size).filterMap λa=>if a=L\/(g.get? a).isSome=true then Y else(h.get? a).map λo=>(a,o)
def lN{g h:Heap}{L a:Uc}{o:Obj}(c:a≠L)(d:g.get? a=Y)(b:h.get? a=Z o):(a,o)∈lY g h L:=
 List.mem_filterMap.mpr ⟨a,List.mem_range.mpr<|A9 b,by simp[c,d,b]⟩
def CV{p:Uc×Obj}(a:p∈lY g h L):p.1≠L/\g.get? p.1=Y/\h.get? p.1=Z p.2:=by
 obtain⟨b,_,e⟩:=List.mem_filterMap.mp a;split at e
 .cases e
 .rename_i hn;cases q:h.get? b with
  |none=>rw[q]at e;simp at e
  |some u=>
   rw[q]at e;simp only[Option.map_some,Option.some.injEq]at e;subst e;refine⟨λz=>hn (.inl z),?_,q⟩;cases r:g.get? b with
   |none=>rfl
   |some v=>exact(hn (.inr (by simp[r]))).elim
def rest(g h:Heap)(L d:Uc):T2:=(lY g h L).filter λp=>decide (p.1≠d)
def QK:News g L h (lY g h L):=λp d=>let⟨a,b,c⟩:=CV d;⟨c,a,b⟩
structure Mod(K:Fg)(mg:Str->Tf)(base:Heap):Prop where
 kin:K.In base
 glob:base.Ns bh mg
 blt:∃mb,base.Ns builtinsNs mb/\∀x:Str,x≠"__name__"->mb x=bootBuiltins x
 nolimit:base.NoLimit
 sysm:∃o es ep,base.get? sysModules=Z o/\o.data=.dict es ep
 bmn:∃bm ob,mg "__builtins__"=Z (.ref bm)/\bm≠builtinsNs/\base.get? bm=Z ob/\ob.cls=.type "module"/\ob.dict=Z builtinsNs/\ob.data=.plain
structure Cx where
 prog:Ue
 w:World
 K:Fg
 mg:Str->Tf
 base:Heap
 A:Uf
 N:Tb
 s₀:Ub
 H₀:Hp
 env:Env
 outer:Tv Env
 stack:Tv Env
 ex:Ta
 fn:Str->Bool
 calm:Bool
 pn:T2
 xe:T1
noncomputable def frs(l:Tv Env):Ta:=l.filterMap (·.frame)
abbrev Cx.fs(X:Cx):List Addr:=frs X.outer
def Vis(sc:Scope)(x:Str):Prop:=sc.names.lookup x=Z .local\/sc.names.lookup x=Z .cell\/sc.names.lookup x=Z .free
def Loc(sc:Scope)(x:Str):Prop:=sc.names.lookup x=Z .local\/sc.names.lookup x=Z .cell
def Look(env:Env)(h:Heap)(m:Str->Tf)(x:Str)(u:Tz):Prop:=
 (env.kindOf x=Z .local/\m x=Z u)\/((env.kindOf x=Z .cell\/env.kindOf x=Z .free)/\∃c,env.cells.lookup x=Z c/\h.IsCell c (Z u))
structure Cx.Ok(X:Cx):Prop where
 mod:Mod X.K X.mg X.base
 kind:X.env.scope.kind=.function
 glob:X.env.globals=bh
 blt:X.env.builtins=builtinsNs
 above:X.s₀.heap.objs.size<=X.env.locals
 inj:∀x y c,X.env.cells.lookup x=Z c->X.env.cells.lookup y=Z c->x=y
 has:∀x,(X.env.kindOf x=Z .cell\/X.env.kindOf x=Z .free)->∃c,X.env.cells.lookup x=Z c
 cab:∀x c,X.fn x=true->X.env.cells.lookup x=Z c->X.s₀.heap.objs.size<=c
 hd:X.calm=true->X.A.handled=Y
 frames:X.A.frames=Z X.stack
 stk:X.stack=X.outer\/(X.stack=X.env::X.outer/\X.env.frame=Z X.env.locals)
 exf:∀b∈X.ex,b≠X.env.locals/\∀x c,X.env.cells.lookup x=Z c->c≠b
 bs:∀b o,X.base.get? b=Z o->X.s₀.heap.get? b=Z o/\X.H₀ b=Y
 bsz:X.base.objs.size<=X.s₀.heap.objs.size
 noex:∀b o,X.base.get? b=Z o->b∉X.ex
 exfs:∀b∈X.ex,b∉X.fs
 funs:X.s₀.heap.FunFrames X.base X.outer
 frf:∀b∈X.fs,X.H₀ b=Y
structure Inv(X:Cx)(bq:T2)(σ:Tv (Tw V))(H:Hp)(s:Ub):Prop where
 ok:X.Ok
 os:s.os=X.s₀.os
 bare:AllBare s.gens
 base:Un X.fs X.ex X.H₀ H X.s₀.heap s.heap
 loc:∃m,s.heap.Ns X.env.locals m/\∀(i:Nat)(x:Str)(v:V),X.N[i]?=Z x->σ[i]?=Z (Z v)->Vis X.env.scope x->∃u,RelV v u/\Look X.env s.heap m x u
 cell:∀x c,X.env.cells.lookup x=Z c->∃v,s.heap.IsCell c v
 free:H X.env.locals=Y
 freeC:∀x c,X.env.cells.lookup x=Z c->H c=Y
 pin:∀p∈X.pn++bq,s.heap.get? p.1=Z p.2/\H p.1=Y/\p.1≠X.env.locals/\p.1∉X.fs/\∀v,p.2.data≠.cell v
 hok:HOk X.prog X.w H s.heap
 len:σ.length=X.N.length
section
variable{X:Cx}{bq:T2}{σ:Tv (Tw V)}{H H':Hp}{s:Ub}{h':Heap}
def Cx.Ok.nofr(ok:X.Ok){b:Uc}{o:Obj}(e:X.base.get? b=Z o):b∉X.fs:=λa=>by
 have:=(ok.funs.mem a).1;rw[e]at this;cases this
def Inv.bs(I:Inv X bq σ H s):∀b o,X.base.get? b=Z o->s.heap.get? b=Z o/\H b=Y:=λb o e=>
 ⟨I.base.keep b o (I.ok.bs b o e).1 (I.ok.bs b o e).2 (I.ok.nofr e) (I.ok.noex b o e),I.base.free b o (I.ok.bs b o e).1 (I.ok.bs b o e).2 (I.ok.noex b o e)⟩
def Inv.bk(I:Inv X bq σ H s):∀b o,X.base.get? b=Z o->s.heap.get? b=Z o:=λb o e=>(I.bs b o e).1
def Inv.mod(I:Inv X bq σ H s):Mod X.K X.mg X.base:=I.ok.mod
def Inv.kIn(I:Inv X bq σ H s):X.K.In s.heap:=I.ok.mod.kin.keeps I.bk
def Inv.nolimit(I:Inv X bq σ H s):s.heap.NoLimit:=I.ok.mod.nolimit.keeps I.bk
def Inv.fr(I:Inv X bq σ H s):∃m,Fr X.base X.env.locals s.heap m:=
 let⟨m,hn,_⟩:=I.loc
 ⟨m,hn,I.bk,C6 I.ok.bsz I.ok.above⟩
def Inv.lt(I:Inv X bq σ H s):X.env.locals<s.heap.objs.size:=let⟨_,hn,_⟩:=I.loc;hn.lt
def Inv.sz(I:Inv X bq σ H s):X.s₀.heap.objs.size<=s.heap.objs.size:=C6 I.ok.above<|U6 I.lt
def Inv.nofs(I:Inv X bq σ H s){a:Uc}(h:s.heap.objs.size<=a):a∉X.fs:=λb=>by
 obtain⟨_,o,c,_⟩:=I.ok.funs.mem b;exact absurd (C2 (A9 c)<|C6 I.sz h)<|L8 _
def Inv.cne(I:Inv X bq σ H s):∀x c,X.env.cells.lookup x=Z c->c≠X.env.locals:=λx c e z=>by
 obtain⟨v,o,d,hd⟩:=I.cell x c e;obtain⟨m,⟨o',es,ep,a,b,_⟩,_⟩:=I.loc;rw[z,a]at d;cases d;rw[b]at hd;cases hd
def Inv.funs(I:Inv X bq σ H s):s.heap.FunFrames X.base X.outer:=by
 have all:∀(l:Tv Env),(∀b∈frs l,b∈X.fs)->X.s₀.heap.FunFrames X.base l->s.heap.FunFrames X.base l:=by
  intro l
  induction l with
  |nil=>intro _ _;trivial
  |cons env r ih=>
   intro hs f;obtain⟨g,⟨L,o,a,hn,h,hd⟩,i⟩:=f;have c:=hs L (by unfold frs;rw[U0,a];exact B0);obtain⟨sl,e⟩:=I.base.slot L o h (I.ok.frf L c) c λz=>I.ok.exfs L z c;exact⟨g,⟨L,_,a,hn,e,hd⟩,ih (λb d=>hs b (by unfold frs;rw[U0,a];exact B1 _ d)) i⟩
 exact all X.outer (λ_ d=>d) I.ok.funs
def Inv.stack(I:Inv X bq σ H s):s.heap.FunFrames X.base X.stack:=by
 obtain e|⟨e,a⟩:=I.ok.stk
 .rw[e];exact I.funs
 .rw[e];obtain⟨m,hn,_⟩:=I.loc;refine .cons (by rw[I.ok.kind];decide) a hn ?_ I.funs;exact U2<|C6 I.ok.bsz I.ok.above
def Inv.stkSub(I:Inv X bq σ H s):∀b∈frs X.stack,b∈X.env.locals::X.fs:=λb a=>by
 obtain e|⟨e,c⟩:=I.ok.stk
 .rw[e]at a;exact B1 _ a
 .rw[e]at a;unfold frs at a;rw[U0,c]at a;exact a
def Inv.stkFree(I:Inv X bq σ H s):∀b∈frs X.stack,H b=Y:=λb hb=>by
 obtain e|hb:=List.mem_cons.mp (I.stkSub b hb)
 .rw[e];exact I.free
 .obtain⟨_,o,a,_⟩:=I.ok.funs.mem hb;exact I.base.free b o a (I.ok.frf b hb) λz=>I.ok.exfs b z hb
def Inv.step{t':Nat}{d':Drawn}{ch:Ta}(I:Inv X bq σ H s)
 (f:∀b∈ch,(b∈X.ex\/X.s₀.heap.objs.size<=b)/\b≠X.env.locals/\(∀x c,X.env.cells.lookup x=Z c->c≠b)/\∀p∈X.pn++bq,p.1≠b)
 (keep:∀b o,b≠X.env.locals->b∉X.fs->b∉ch->s.heap.get? b=Z o->H b=Y->h'.get? b=Z o)
 (slot:∀b o,b≠X.env.locals->b∈X.fs->b∉ch->s.heap.get? b=Z o->H b=Y->∃sl,h'.get? b=Z { o with slots:=sl }) (free:∀b o,b∉ch->s.heap.get? b=Z o->H b=Y->H' b=Y)
 (there:∀b o,b∉ch->s.heap.get? b=Z o->∃o',h'.get? b=Z o')
 (tups:∀b xs,H b=Z (.tup xs)->H' b=Z (.tup xs)) (frzs:∀b o u,H b=Z (.frz o u)->H' b=Z (.frz o u)) (tbls:∀b ps,H b=Z (.tbl ps)->∃more,H' b=Z (.tbl (ps++more)))
 (ns:∀m,s.heap.Ns X.env.locals m->h'.Ns X.env.locals m) (hok:HOk X.prog X.w H' h') (L:AllBare g'):
 Inv X bq σ H' { s with heap:=h',gens:=g',drawn:=d',toks:=t' }:=by
 have C:∀b o,X.s₀.heap.get? b=Z o->b≠X.env.locals:=λb o e=>B4<|C2 (A9 e) I.ok.above
 have j:∀b o,X.s₀.heap.get? b=Z o->b∉X.ex->b∉ch:=λb o e a y=>by
  obtain z|z:=(f b y).1
  .exact a z
  .exact absurd (C2 (A9 e) z)<|L8 _
 have g:∀x c,X.env.cells.lookup x=Z c->∀v,s.heap.IsCell c v->h'.IsCell c v:=λx c e v ⟨o,B,hd⟩=>by
  have h:=λz=>(f c z).2.2.1 x c e rfl;by_cases F:c∈X.fs
  .obtain⟨sl,q⟩:=slot c o (I.cne x c e) F h B<|I.freeC x c e;exact⟨_,q,hd⟩
  .exact⟨o,keep c o (I.cne x c e) F h B<|I.freeC x c e,hd⟩
 refine⟨I.ok,I.os,L,⟨λb o e n y a=>?_,λb o e n y a=>?_,λb o e n a=>?_,λb o e a=>?_,λb xs e=>tups b xs<|I.base.tups b xs e,λb o xs e=>frzs b o xs<|I.base.frzs b o xs e,λb ps e=>?_⟩,?_,λx c e=>?_,?_,λx c e=>?_,λp G=>?_,hok,I.len⟩
 .exact keep b o (C b o e) y (j b o e a) (I.base.keep b o e n y a)<|I.base.free b o e n a
 .obtain⟨sl,t⟩:=I.base.slot b o e n y a;obtain⟨E,D⟩:=slot b _ (C b o e) y (j b o e a) t<|I.base.free b o e n a;exact⟨E,D⟩
 .obtain⟨o',t⟩:=I.base.there b o e a;exact free b o' (j b o e a) t<|I.base.free b o e n a
 .obtain⟨o',t⟩:=I.base.there b o e a;exact there b o' (j b o e a) t
 .obtain⟨M,t⟩:=I.base.tbls b ps e;obtain⟨N,D⟩:=tbls b _ t;exact⟨M++N,by rw[D,Array.append_assoc]⟩
 .obtain⟨m,hn,O⟩:=I.loc;refine⟨m,ns m hn,λi x v t D P=>?_⟩;obtain⟨u,r,l⟩:=O i x v t D P;refine⟨u,r,?_⟩;obtain l|⟨k,c,e,z⟩:=l
  .exact .inl l
  .exact .inr ⟨k,c,e,g x c e _ z⟩
 .obtain⟨v,z⟩:=I.cell x c e;exact⟨v,g x c e v z⟩
 .obtain⟨m,⟨o,_,_,B,_⟩,_⟩:=I.loc;exact free _ o (λz=>(f _ z).2.1 rfl) B I.free
 .obtain⟨v,o,B,hd⟩:=I.cell x c e;exact free c o (λz=>(f c z).2.2.1 x c e rfl) B<|I.freeC x c e
 .obtain⟨e,n,ne,J,d⟩:=I.pin p G;have h:=λz=>(f p.1 z).2.2.2 p G rfl;exact⟨keep p.1 p.2 ne J h e n,free p.1 p.2 h e n,ne,J,d⟩
def Inv.un{t':Nat}(I:Inv X bq σ H s)(u:Un X.fs [] H H' s.heap h')(hok:HOk X.prog X.w H' h'):Inv X bq σ H' { s with heap:=h',toks:=t' }:=by
 obtain⟨m,⟨o,es,ep,g,r⟩,_⟩:=id I.loc;obtain⟨sl,h⟩:=u.any g I.free (by simp)
 exact I.step (ch:=[]) (λ_ z=>nomatch z) (λb o _ c _ e n=>u.keep b o e n c (by simp)) (λb o _ c _ e n=>u.slot b o e n c (by simp)) (λb o _ e n=>u.free b o e n (by simp)) (λb o _ e=>u.there b o e (by simp)) u.tups u.frzs u.tbls (λj hm=>by
  obtain⟨o',d,f,a,i⟩:=hm;rw[g]at a;cases a;exact⟨_,d,f,h,i⟩) hok I.bare
def Inv.call{t':Nat}{d':Drawn}(I:Inv X bq σ H s)(u:Un (frs X.stack) ch H H' s.heap h')(hok:HOk X.prog X.w H' h')(k:AllBare g')
 (d:∀b∈ch,(b∈X.ex\/X.s₀.heap.objs.size<=b)/\b≠X.env.locals/\(∀x c,X.env.cells.lookup x=Z c->c≠b)/\∀p∈X.pn++bq,p.1≠b):
 Inv X bq σ H' { s with heap:=h',gens:=g',drawn:=d',toks:=t' }:=by
 obtain⟨m,⟨o,es,ep,j,r⟩,_⟩:=id I.loc;obtain⟨sl,g⟩:=u.any j I.free λz=>(d _ z).2.1 rfl
 exact I.step d (λb o g l a e n=>u.keep b o e n (λz=>(List.mem_cons.mp<|I.stkSub b z).elim g l) a) (λb o _ _ a e n=>u.any e n a) (λb o a e n=>u.free b o e n a) (λb o a e=>u.there b o e a) u.tups u.frzs u.tbls (λt hm=>by
  obtain⟨o',h,i,f,q⟩:=hm;rw[j]at f;cases f;exact⟨_,h,i,g,q⟩) hok k
def Inv.turned{t':Nat}{it:Uc}(I:Inv X bq σ H s)(k:∀b o,b≠it->s.heap.get? b=Z o->h'.get? b=Z o)(hn:H it=Y)(f:it≠X.env.locals)
 (g:it∈X.ex\/X.s₀.heap.objs.size<=it) (h:∀x c,X.env.cells.lookup x=Z c->c≠it) (i:∀p∈X.pn++bq,p.1≠it):Inv X bq σ H { s with heap:=h',toks:=t' }:=by
 have d:∀b u,H b=Z u->b≠it:=λb u e z=>by rw[z,hn]at e;cases e
 refine I.step (ch:=[it]) (λb l=>?_) (λb o _ _ a e _=>k b o (λz=>a (by simp[z])) e) (λb o _ _ a e _=>⟨o.slots,k b o (λz=>a (by simp[z])) e⟩) (λ_ _ _ _ n=>n)
  (λb o a e=>⟨o,k b o (λz=>a (by simp[z])) e⟩) (λ_ _ e=>e) (λ_ _ _ e=>e) (λb ps e=>⟨#[],by rw[e];simp⟩) (λm hm=>?_) (λb u e=>?_) I.bare
 .have e:b=it:=by grind
  subst e;exact⟨g,f,h,i⟩
 .obtain⟨o,es,ep,j,r⟩:=hm;exact⟨o,es,ep,k _ o (J7 f) j,r⟩
 .refine(I.hok b u e).stay (λc v a q=>k c v ?_ q) (λ_ q=>q) λ_ _ q=>q;obtain z|z:=a
  .rw[z];exact d b u e
  .exact d c _ z
def Inv.tok(I:Inv X bq σ H s)(t:Nat):Inv X bq σ H { s with toks:=t }:=I.un Un.refl I.hok
def Inv.kept{t':Nat}(I:Inv X bq σ H s)(k:∀b u,s.heap.get? b=Z u->h'.get? b=Z u):Inv X bq σ H { s with heap:=h',toks:=t' }:=I.un (Un.kept k)<|I.hok.kept k
def Inv.laid{a:Uc}{t':Nat}(I:Inv X bq σ H s)(k:∀b u,s.heap.get? b=Z u->h'.get? b=Z u)(c:s.heap.objs.size<=a)(new:eO X.prog X.w (upd H a o) h' a o):
 Inv X bq σ (upd H a o) { s with heap:=h',toks:=t' }:=I.un (Un.laid k c<|I.hok.fresh c)<|I.hok.laid k c new
def Inv.write{e:Uc}{t':Nat}(I:Inv X bq σ H s)(c:Mut (H x))(d:e=x\/H e=Z (.own x))(k:∀b u,b≠e->s.heap.get? b=Z u->h'.get? b=Z u)(a:∃u,h'.get? e=Z u)
 (new:eO X.prog X.w (upd H x o) h' x o):Inv X bq σ (upd H x o) { s with heap:=h',toks:=t' }:=I.un (Un.write c d k a)<|I.hok.write c d k a new
def Inv.pins_of{a:T2}(I:Inv X bq σ H s)(h:∀p∈a,s.heap.get? p.1=Z p.2/\H p.1=Y/\p.1≠X.env.locals/\p.1∉X.fs/\∀v,p.2.data≠.cell v):Inv X a σ H s:=
 ⟨I.ok,I.os,I.bare,I.base,I.loc,I.cell,I.free,I.freeC,λp b=>(List.mem_append.mp b).elim (λz=>I.pin p<|E5 _ z) (h p),I.hok,I.len⟩
def CN{N:Tb}(c:N.Nodup){i j:Nat}{x:Str}(a:N[i]?=Z x)(b:N[j]?=Z x):i=j:=by
 obtain⟨f,d⟩:=List.getElem?_eq_some_iff.mp a;obtain⟨g,e⟩:=List.getElem?_eq_some_iff.mp b;exact(List.getElem_inj c).mp (d.trans e.symm)
def IU{A:Uf}{i:Nat}{x:Str}{Q:Unit->Ub->Prop}(I:Inv X bq σ H s)(hN:X.N.Nodup)(hi:X.N[i]?=Z x)(l:Loc X.env.scope x)(r:RelV v u)
 (h:∀s',Inv X bq (σ.set i<|Z v) H s'->(∃a,Heap.SameBut a s.heap s'.heap/\(a=X.env.locals\/X.env.cells.lookup x=Z a))->Q () s') (hf:X.fn x=true\/X.env.scope.names.lookup x=Z .local:=by first|exact .inl rfl|exact .inr rfl|assumption):bc M A (storeName X.env x u) Q E s:=by
 obtain⟨m,hn,hl⟩:=id I.loc;have J:(X.env.scope.kind==.class || (X.env.scope.kind==.module&&X.env.locals != X.env.globals))=false:=by rw[I.ok.kind];rfl
 have C:i<σ.length:=by rw[I.len];exact(List.getElem?_eq_some_iff.mp hi).1
 have cne:=I.cne
 have f:∀{a:Uc}{h':Heap},(∃o,s.heap.get? a=Z o/\H a=Y)->Heap.SameBut a s.heap h'->HOk X.prog X.w H h':=λ{a h'} ha hs b ob e=>by
  obtain⟨_,_,t⟩:=ha;refine(I.hok b ob e).stay (λc R hc q=>(hs.2 c ?_).trans q) (λ_ q=>q) λ_ _ q=>q;rintro rfl;obtain rfl|hc:=hc
  .rw[t]at e;cases e
  .rw[t]at hc;cases hc
 obtain hk|hk:=l
 .refine wpAny_storeName_local hk hn (λh' S hs=>?_) J;obtain⟨oL,_,_,T,_⟩:=id hn;refine h _ ⟨I.ok,I.os,I.bare,⟨λb o e n D l=>?_,λb o e n D l=>?_,I.base.free,λb o e l=>?_,I.base.tups,I.base.frzs,I.base.tbls⟩,⟨_,S,λj y U g B W=>?_⟩,λy c e=>?_,I.free,I.freeC,λp hp=>?_,f ⟨oL,T,I.free⟩ hs,by simpa using I.len⟩ ⟨_,hs,.inl rfl⟩
  .exact(hs.2 b<|B4<|C2 (A9 e) I.ok.above).trans (I.base.keep b o e n D l)
  .obtain⟨sl,g⟩:=I.base.slot b o e n D l;exact⟨sl,(hs.2 b<|B4<|C2 (A9 e) I.ok.above).trans g⟩
  .obtain⟨o',g⟩:=I.base.there b o e l;exact⟨o',(hs.2 b<|B4<|C2 (A9 e) I.ok.above).trans g⟩
  .by_cases F:j=i
   .subst F;rw[hi]at g;cases g;rw[C3 C]at B;cases B;exact⟨u,r,.inl ⟨hk,by simp⟩⟩
   .rw[B6 (J7 F)]at B;obtain⟨u',r',q⟩:=hl j y U g B W;refine⟨u',r',?_⟩;obtain⟨k,e⟩|⟨k,c,e,z⟩:=q
    .refine .inl ⟨k,?_⟩;have:y≠x:=λe=>F<|CN hN g (e▸hi);simp[this,e]
    .exact .inr ⟨k,c,e,z.sameBut hs<|cne y c e⟩
  .obtain⟨R,z⟩:=I.cell y c e;exact⟨R,z.sameBut hs<|cne y c e⟩
  .obtain⟨e,n,ne,nf,d⟩:=I.pin p hp;exact⟨(hs.2 p.1 ne).trans e,n,ne,nf,d⟩
 .have G:X.fn x=true:=by
   obtain z|z:=hf
   .exact z
   .rw[z]at hk;cases hk
  obtain⟨c,hc⟩:=I.ok.has x (.inl hk);obtain⟨R,z⟩:=I.cell x c hc;refine wpAny_storeName_cell I.ok.kind hk hc z (λh' L hs=>?_);obtain⟨oc,O,a0⟩:=id z;refine h { s with heap:=h' } ⟨I.ok,I.os,I.bare,⟨λb o e n D l=>?_,λb o e n D l=>?_,I.base.free,λb o e l=>?_,I.base.tups,I.base.frzs,I.base.tbls⟩,⟨m,hn.sameBut hs<|J7<|cne x c hc,λj y U g B W=>?_⟩,λy c' e=>?_,I.free,I.freeC,λp hp=>?_,f ⟨oc,O,I.freeC x c hc⟩ hs,by simpa using I.len⟩ ⟨c,hs,.inr hc⟩
  .exact(hs.2 b<|B4<|C2 (A9 e)<|I.ok.cab x c G hc).trans (I.base.keep b o e n D l)
  .obtain⟨sl,g⟩:=I.base.slot b o e n D l;exact⟨sl,(hs.2 b<|B4<|C2 (A9 e)<|I.ok.cab x c G hc).trans g⟩
  .obtain⟨o',g⟩:=I.base.there b o e l;exact⟨o',(hs.2 b<|B4<|C2 (A9 e)<|I.ok.cab x c G hc).trans g⟩
  .by_cases F:j=i
   .subst F;rw[hi]at g;cases g;rw[C3 C]at B;cases B;exact⟨u,r,.inr ⟨.inl hk,c,hc,L⟩⟩
   .rw[B6 (J7 F)]at B;obtain⟨u',r',q⟩:=hl j y U g B W;refine⟨u',r',?_⟩;obtain q|⟨k,c',e,z'⟩:=q
    .exact .inl q
    .refine .inr ⟨k,c',e,z'.sameBut hs ?_⟩;rintro rfl;exact F<|CN hN g (I.ok.inj _ _ _ e hc▸hi)
  .by_cases P:c'=c
   .subst P;exact⟨_,L⟩
   .obtain⟨w2,z2⟩:=I.cell y c' e;exact⟨w2,z2.sameBut hs P⟩
  .obtain⟨e,n,ne,nf,d⟩:=I.pin p hp;refine⟨(hs.2 p.1 ?_).trans e,n,ne,nf,d⟩;intro q;rw[q,O]at e;have q':=D5 e;exact d R (by grind)
def rX{A:Uf}{i:Nat}{x:Str}{Q:Unit->Ub->Prop}(I:Inv X bq σ H s)(a:X.N.Nodup)(hi:X.N[i]?=Z x)(b:Loc X.env.scope x)(r:RelV v u)
 (h:∀s',Inv X bq (σ.set i<|Z v) H s'->Q () s') (c:X.fn x=true\/X.env.scope.names.lookup x=Z .local:=by first|exact .inl rfl|exact .inr rfl|assumption):bc M A (storeName X.env x u) Q E s:=
 IU I a hi b r (λs' d _=>h s' d) c
def Inv.call'{s':Ub}(I:Inv X bq σ H s)(d:s'.os=s.os)(u:Un (frs X.stack) ch H H' s.heap s'.heap)(hok:HOk X.prog X.w H' s'.heap)(f:AllBare s'.gens)
 (a:∀b∈ch,(b∈X.ex\/X.s₀.heap.objs.size<=b)/\b≠X.env.locals/\(∀x c,X.env.cells.lookup x=Z c->c≠b)/\∀p∈X.pn++bq,p.1≠b):Inv X bq σ H' s':=by
 obtain⟨h',g,h,i,o'⟩:=s';have e:=d;subst e;exact I.call u hok f a
end
abbrev XK:=Tz->Th->Hp->Prop
noncomputable abbrev St:=Tv<|Tw V
abbrev VK:=V->Hp->Prop
abbrev TE:=St->Hp->VK->Prop
abbrev TT:=St->Hp->(Bool->Hp->Prop)->Prop
abbrev TA:=St->Hp->(Tc->Hp->Prop)->Prop
structure Ends where
 nx:St->Hp->Prop
 rt:VK
 bk:St->Hp->Prop:=λ_ _=>False
 ct:St->Hp->Prop:=λ_ _=>False
abbrev TS:=Ends->St->Hp->Prop
def EP(X:Cx)(bq:T2)(σ:St)(Q:VK)(u:Tz)(s':Ub):Prop:=∃v H',Inv X bq σ H' s'/\RelV v u/\Q v H'
def TP(X:Cx)(bq:T2)(σ:St)(Q:Bool->Hp->Prop)(b:Bool)(s':Ub):Prop:=∃H',Inv X bq σ H' s'/\Q b H'
def AP(X:Cx)(bq:T2)(σ:St)(Q:Tc->Hp->Prop)(us:T5)(s':Ub):Prop:=∃vs H',Inv X bq σ H' s'/\bA vs us/\Q vs H'
def SP(X:Cx)(bq:T2)(D:Ends)(f:Flow)(s':Ub):Prop:=
 match f with
 |.next=>∃a H',Inv X bq a H' s'/\D.nx a H'
 |.brk=>∃a H',Inv X bq a H' s'/\D.bk a H'
 |.cont=>∃a H',Inv X bq a H' s'/\D.ct a H'
 |.ret u=>∃v a H',Inv X bq a H' s'/\RelV v u/\D.rt v H'
def PE(X:Cx)(e:Ud)(t:TE):Prop:=
 ∀(bq:T2)(s:Ub)(σ:St)(H:Hp)(Q:VK),Inv X bq σ H s->t σ H Q->bc (bb X.prog X.w) X.A (eval e X.env) (EP X bq σ Q) X.xe s
def PT(X:Cx)(e:Ud)(t:TT):Prop:=
 ∀(bq:T2)(s:Ub)(σ:St)(H:Hp)(Q:Bool->Hp->Prop),Inv X bq σ H s->t σ H Q->bc (bb X.prog X.w) X.A (isTrue e X.env<|eval e X.env) (TP X bq σ Q) X.xe s
def PW(X:Cx)(e:Ud)(t:TT):Prop:=
 ∀(a:Sem Tz)(bq:T2)(s:Ub)(σ:St)(H:Hp)(Q:Bool->Hp->Prop),Inv X bq σ H s->t σ H Q->bc (bb X.prog X.w) X.A (isTrue e X.env a) (TP X bq σ Q) X.xe s
def PW.pt(h:PW X e t):PT X e t:=h _
def PA(X:Cx)(es:T8)(t:TA):Prop:=
 ∀(pos:Pos)(bq:T2)(s:Ub)(σ:St)(H:Hp)(Q:Tc->Hp->Prop),Inv X bq σ H s->t σ H Q->bc (bb X.prog X.w) X.A (spliced<|backTo pos<|bf es X.env) (AP X bq σ Q) X.xe s
def PS(X:Cx)(st:Stmt)(t:TS):Prop:=
 ∀(bq:T2)(s:Ub)(σ:St)(H:Hp)(D:Ends),Inv X bq σ H s->t D σ H->bc (bb X.prog X.w) X.A (exec st X.env) (SP X bq D) X.xe s
def PSs(X:Cx)(st:T9)(t:TS):Prop:=
 ∀(bq:T2)(s:Ub)(σ:St)(H:Hp)(D:Ends),Inv X bq σ H s->t D σ H->bc (bb X.prog X.w) X.A (execs st X.env) (SP X bq D) X.xe s
def thn{b:Type}{t:Sem b}{Q c:b->Ub->Prop}{M:Model}{E:T1}{s:Ub}(h:bc M A t Q E s)(d:∀a s,Q a s->c a s):bc M A t c E s:=E3 h d λ_ _ x=>x
section
variable{X:Cx}
def bin{a b:Ud}{i tb:TE}(ha:PE X a i)(k:PE X b tb){bq:T2}{R:V->V->Hp->Prop}(I:Inv X bq σ H s)(h:i σ H λx g=>tb σ g λy c=>R x y c)
 {j:Type} {Q:j->Ub->Prop} {f:Tz->Tz->Sem j}
 (l:∀v u s2 x y c,Inv X bq σ c s2->RelV x v->RelV y u->R x y c->bc (bb X.prog X.w) X.A (f v u) Q X.xe s2):
 bc (bb X.prog X.w) X.A (eval a X.env) (λv d=>bc (bb X.prog X.w) X.A (eval b X.env) (λu e=>bc (bb X.prog X.w) X.A (f v u) Q X.xe e) X.xe d) X.xe s:=by
 refine thn (ha bq s σ H _ I h) λv s1 ⟨x,g,m,n,o⟩=>?_;refine thn (k bq s1 σ g _ m o) λu s2 ⟨y,c,p,q,r⟩=>?_;exact l v u s2 x y c p n q r
def aEE(i:Nat):TE:=λσ H Q=>∃v,σ[i]?=Z (Z v)/\Q v H
noncomputable def tC(v:V):TE:=λ_ H Q=>Q v H
def KN{i:Nat}{x:Str}(g:X.N[i]?=Z x)(j:Vis X.env.scope x)(hd:(x==("__debug__":Str))=false:=by decide)(d:(x==("__classdict__":Str))=false:=by decide):PE X (.Name x pos) (aEE i):=by
 intro bq s σ H Q I h;obtain⟨v,e,h⟩:=h;obtain⟨m,hn,k⟩:=I.loc;obtain⟨u,r,l⟩:=k i x v g e j;have b:EP X bq σ Q u s:=⟨v,H,I,r,h⟩;obtain⟨hk,hm⟩|⟨hk,c,f,a⟩:=l
 .exact wpAny_Name (wpAny_loadName_local I.ok.kind hk hn hm b) hd
 .obtain hk|hk:=hk
  .exact wpAny_Name (wpAny_loadName_cell I.ok.kind hk f a b) hd
  .exact wpAny_Name (wpAny_loadName_free I.ok.kind hk f a b d) hd
def aLU{i j pos}:PE X (.Constant (.int i) j pos) (tC (.int i)):=λ_ _ _ H _ I h=>wpAny_Constant_int ⟨.int i,H,I.tok _,⟨_,rfl⟩,h⟩
def aNj{b j pos}:PE X (.Constant (.bool b) j pos) (tC (.bl b)):=λ_ _ _ H _ I h=>Constant_bool ⟨.bl b,H,I,rfl,h⟩
def aKZ{j pos}:PE X (.Constant .none j pos) (tC .non):=λ_ _ _ H _ I h=>Constant_none ⟨.non,H,I,rfl,h⟩
def aKH{x j pos}:PE X (.Constant (.str x) j pos) (tC (.str x)):=λ_ _ _ H _ I h=>A0p ⟨.str x,H,I.tok _,⟨_,rfl⟩,h⟩
def Gl(X:Cx)(x:Str):Prop:=X.env.kindOf x=Z .globalImplicit
def mM{u:Tz}{pos:Pos}{Q:T1}(I:Inv X bq σ H s)(a:Gl X x)(hm:X.mg x=Z u)(h:Q u s)
 (hd:(x==("__debug__":Str))=false:=by decide):bc (bb X.prog X.w) X.A (eval (.Name x pos) X.env) Q E s:=
 Calls.Name_function_global I.ok.kind a (Calls.loadGlobal_global (by rw[I.ok.glob];exact I.mod.glob.keeps I.bk) hm h) hd
def nI{u:Tz}{pos:Pos}{Q:T1}(I:Inv X bq σ H s)(a:Gl X x)(hm:X.mg x=Y)(b:bootBuiltins x=Z u)(h:Q u s)
 (hn:x≠"__name__":=by decide) (hd:(x==("__debug__":Str))=false:=by decide):bc (bb X.prog X.w) X.A (eval (.Name x pos) X.env) Q E s:=by
 obtain⟨mb,c,d⟩:=I.mod.blt;exact Calls.Name_function_global I.ok.kind a (Calls.loadGlobal_builtin (by rw[I.ok.glob];exact I.mod.glob.keeps I.bk) hm (by rw[I.ok.blt];exact c.keeps I.bk) ((d x hn).trans b) h) hd
def LM{u:Tz}(a:Gl X x)(hm:X.mg x=Z u)(r:RelV v u)(hd:(x==("__debug__":Str))=false:=by decide):PE X (.Name x pos) (tC v):=
 λ_ _ _ H _ I h=>mM I a hm ⟨v,H,I,r,h⟩ hd
def KR{u:Tz}(a:Gl X x)(hm:X.mg x=Y)(b:bootBuiltins x=Z u)(r:RelV v u)(hn:x≠"__name__":=by decide)(hd:(x==("__debug__":Str))=false:=by decide):PE X (.Name x pos) (tC v):=
 λ_ _ _ H _ I h=>nI I a hm b ⟨v,H,I,r,h⟩ hn hd
variable{a b:Ud}{ta tb:TE}{pos:Pos}
def PC(X:Cx)(op:CmpOp)(a b:Ud)(t:TE):Prop:=
 ∀(bq:T2)(s:Ub)(σ:St)(H:Hp)(Q:VK),Inv X bq σ H s->t σ H Q->
  bc (bb X.prog X.w) X.A (eval a X.env) (λv c=>bc (bb X.prog X.w) X.A (eval b X.env) (λu d=>bc (bb X.prog X.w) X.A (bi op v u) (EP X bq σ Q) X.xe d) X.xe c) X.xe s
def aEW(b:Ud){op:CmpOp}(h:op≠.In)(e:op≠.NotIn):behindInMarks op b=false:=by
 have c:(op==CmpOp.In)=false:=by grind
 have d:(op==CmpOp.NotIn)=false:=by grind
 cases b<;>simp[behindInMarks,c,d]
noncomputable def tB(t:TE):TT:=λσ H Q=>t σ H λx d=>∃c,x=.bl c/\Q c d
def aLA{op:CmpOp}{t:TE}(h:PC X op a b t)(e:behindInMarks op b=false:=by first|exact aEW _ (by decide) (by decide)|rfl):PT X (.Compare a [op] [b] pos) (tB t):=by
 intro bq s σ H Q I f;refine wpAny_isTrue_Compare1 (thn (h bq s σ H _ I f) λv s1 e=>thn e λu s2 g=>thn g λc s3 ⟨x,i,j,k,l⟩=>?_) e;obtain⟨d,rfl,q⟩:=l;cases k;exact L9 ⟨i,j,q⟩
def aLs{e:Ud}{t:TE}(h:PE X e t)(f:∀c,isTrue e X.env c=(do let v <- c;standAt e.pos;holding [v]<|truthy v):=by intro _;rfl):PT X e (tB t):=by
 intro bq s σ H Q I g;refine isTrue_plain (thn (h bq s σ H _ I g) λv s1 ⟨x,i,j,k,l⟩=>?_)<|f _;obtain⟨d,rfl,q⟩:=l;cases k;exact L9 ⟨i,j,q⟩
variable{tA tB':TT}{rest:T8}
noncomputable def aMp(t u:TT):TT:=λσ H Q=>t σ H λc d=>if c=true then u σ d Q else Q false d
noncomputable def tOr(t u:TT):TT:=λσ H Q=>t σ H λc d=>if c=true then Q true d else u σ d Q
noncomputable def aNO(t:TT):TT:=λσ H Q=>t σ H λc d=>Q (!c) d
def aGX(ha:PT X a tA):PW X (.BoolOp .And [a] pos) tA:=by
 intro d bq s σ H Q I h;refine isTrue_and (thn (ha bq s σ H Q I h) λc s1 e=>?_);cases c with
 |true=>exact isTrue_and_nil e
 |false=>exact e
def aKA(ha:PT X a tA):PW X (.BoolOp .Or [a] pos) tA:=by
 intro d bq s σ H Q I h;refine isTrue_or (thn (ha bq s σ H Q I h) λc s1 e=>?_);cases c with
 |false=>exact isTrue_or_nil e
 |true=>exact e
def aKw(ha:PT X a tA)(g:PW X (.BoolOp .And (b::rest) pos) tB'):PW X (.BoolOp .And (a::b::rest) pos) (aMp tA tB'):=by
 intro i bq s σ H Q I h;refine isTrue_and (thn (ha bq s σ H _ I h) λc s1 ⟨d,e,f⟩=>?_);cases c with
 |true=>exact g i bq s1 σ d Q e f
 |false=>exact⟨d,e,f⟩
def aNl(ha:PT X a tA)(g:PW X (.BoolOp .Or (b::rest) pos) tB'):PW X (.BoolOp .Or (a::b::rest) pos) (tOr tA tB'):=by
 intro i bq s σ H Q I h;refine isTrue_or (thn (ha bq s σ H _ I h) λc s1 ⟨d,e,f⟩=>?_);cases c with
 |true=>exact⟨d,e,f⟩
 |false=>exact g i bq s1 σ d Q e f
def aJP(ha:PT X a tA):PT X (.UnaryOp .Not a pos) (aNO tA):=by
 intro bq s σ H Q I h;exact isTrue_not<|ha bq s σ H (λc d=>Q (!c) d) I h
noncomputable def aIr(ta tb:TE):TE:=λσ H Q=>ta σ H λx d=>∃c,x=.bl c/\if c=true then tb σ d Q else Q (.bl false) d
noncomputable def aII(ta:TE):TE:=λσ H Q=>ta σ H λx d=>∃c,x=.bl c/\Q (.bl (!c)) d
def aKc{op}(h:PE X a t):PE X (.BoolOp op [a] pos) t:=λbq s σ H Q I c=>BoolOp_one<|h bq s σ H Q I c
def aJj(ha:PE X a ta)(g:PE X (.BoolOp .And (b::rest) pos) tb):PE X (.BoolOp .And (a::b::rest) pos) (aIr ta tb):=by
 intro bq s σ H Q I h;refine BoolOp_and (thn (ha bq s σ H _ I h) λv s1 ⟨x,e,f,i,d⟩=>?_);obtain⟨c,rfl,d⟩:=d;cases i;refine L9 ?_;cases c with
 |true=>exact g bq s1 σ e Q f d
 |false=>exact⟨.bl false,e,f,rfl,d⟩
def aLy(ha:PE X a ta):PE X (.UnaryOp .Not a pos) (aII ta):=by
 intro bq s σ H Q I h;refine UnaryOp_ (thn (ha bq s σ H _ I h) λv s1 ⟨x,e,f,g,d⟩=>?_);obtain⟨c,rfl,d⟩:=d;cases g;exact not_of<|L9 ⟨.bl (!c),e,f,rfl,d⟩
noncomputable def tIf(t:TT)(ta tb:TE):TE:=λσ H Q=>t σ H λc d=>if c=true then ta σ d Q else tb σ d Q
def aDc(i:PT X c tA)(ha:PE X a ta)(j:PE X b tb):PE X (.IfExp c a b pos) (tIf tA ta tb):=by
 intro bq s σ H Q I h;refine wpAny_IfExp (thn (i bq s σ H _ I h) λd s1 ⟨e,f,g⟩=>?_);cases d with
 |true=>exact ha bq s1 σ e Q f g
 |false=>exact j bq s1 σ e Q f g
end
def SqL(K:Fg)(H:Hp)(a:Uc)(xs:Tc):Prop:=
 Rd H a (.lst xs) \/
  ∃(o:Obj)(its:Ti)(n:Nat),K.lookup a=Z o/\o.cls=.type "list"/\o.dict=Y/\o.data=.seq its n/\its.size<=ba/\bA xs its.toList
def SqT(K:Fg)(H:Hp)(a:Uc)(xs:Tc):Prop:=
 Rd H a (.tup xs) \/
  ∃(o:Obj)(its:Ti)(n:Nat),K.lookup a=Z o/\o.cls=.type "tuple"/\o.data=.seq its n/\its.size<=ba/\bA xs its.toList
def aOB:Tz->Tw V
 |.none=>Z .non
 |.bool b=>Z (.bl b)
 |.int i _=>Z (.int i)
 |.str x _=>Z (.str x)
 |.bytes b _=>Z (.byt b)
 |.float b _=>Z (.flt b)
 |.ref a=>Z (.ref a)
 |.type n=>Z (.ty n)
 |_=>Y
def RelV.abs(r:RelV x u):aOB u=Z x:=by
 cases x with
 |non=>cases r;rfl
 |bl _=>cases r;rfl
 |int _=>obtain⟨t,rfl⟩:=r;rfl
 |str _=>obtain⟨t,rfl⟩:=r;rfl
 |byt _=>obtain⟨t,rfl⟩:=r;rfl
 |flt _=>obtain⟨t,rfl⟩:=r;rfl
 |ref _=>cases r;rfl
 |ty _=>cases r;rfl
def RelV.inj(r:RelV x u)(q:RelV y u):x=y:=D5<|r.abs.symm.trans q.abs
theorem bA.inj:∀{xs ys:Tc}{us:T5},bA xs us->bA ys us->xs=ys
 |_,_,_,.nil,.nil=>rfl
 |_,_,_,.cons r t,.cons a b=>by rw[r.inj a,bA.inj t b]
section
variable{X:Cx}{bq:T2}{σ:St}{H:Hp}{s:Ub}{a:Uc}{xs ys:Tc}
def SqL.of(h:H a=Z (.lst xs)):SqL K H a xs:=.inl (.inl h)
def SqT.of(h:H a=Z (.tup xs)):SqT K H a xs:=.inl (.inl h)
def Inv.list(I:Inv X bq σ H s)(h:SqL X.K H a xs):∃its:T5,bA xs its/\PlainL s.heap a its.toArray/\xs.length<=ba:=by
 obtain h|⟨o,its,n,b,c,hd,hs,d,r⟩:=h
 .obtain⟨z,its,n,r,e⟩:=h.ok I.hok;exact⟨its,r,⟨_,n,e,rfl,rfl,rfl⟩,z⟩
 .refine⟨its.toList,r,⟨o,n,I.kIn a o b,c,hd,by simpa using hs⟩,?_⟩;have e:=r.length;simp only[Array.length_toList]at e;omega
def Inv.tuple(I:Inv X bq σ H s)(h:SqT X.K H a xs):∃its:T5,bA xs its/\IsTup s.heap a its.toArray/\xs.length<=ba:=by
 obtain h|⟨o,its,n,b,c,hs,d,r⟩:=h
 .obtain⟨z,its,r,p⟩:=h.ok I.hok;exact⟨its,r,p,z⟩
 .refine⟨its.toList,r,⟨o,I.kIn a o b,c,n,by simpa using hs⟩,?_⟩;have e:=r.length;simp only[Array.length_toList]at e;omega
def Inv.list_inj(I:Inv X bq σ H s)(h:SqL X.K H a xs)(h':SqL X.K H a ys):xs=ys:=by
 obtain⟨its,r,⟨o,n,e,_,_,d⟩,_⟩:=I.list h;obtain⟨its',f,⟨o',g,b,_,_,c⟩,_⟩:=I.list h';rw[e]at b;cases b;rw[d]at c;injection c with i _
 have:its=its':=by grind
 subst this;exact r.inj f
def Inv.tuple_inj(I:Inv X bq σ H s)(h:SqT X.K H a xs)(h':SqT X.K H a ys):xs=ys:=by
 obtain⟨its,r,⟨o,e,_,n,d⟩,_⟩:=I.tuple h;obtain⟨its',f,⟨o',b,_,g,c⟩,_⟩:=I.tuple h';rw[e]at b;cases b;rw[d]at c;injection c with i _
 have:its=its':=by grind
 subst this;exact r.inj f
end
noncomputable abbrev Cx.wish(X:Cx)(E:T1):Cx:={ X with xe:=E }
abbrev Cx.nox(X:Cx):Cx:=X.wish λ_ _=>False
def Cx.Ok.wish{X:Cx}(ok:X.Ok)(E:T1):(X.wish E).Ok:=
 ⟨ok.mod,ok.kind,ok.glob,ok.blt,ok.above,ok.inj,ok.has,ok.cab,ok.hd,ok.frames,ok.stk,ok.exf,ok.bs,ok.bsz,ok.noex,ok.exfs,ok.funs,ok.frf⟩
def Cx.Ok.unwish{X:Cx}(ok:(X.wish E).Ok):X.Ok:=
 ⟨ok.mod,ok.kind,ok.glob,ok.blt,ok.above,ok.inj,ok.has,ok.cab,ok.hd,ok.frames,ok.stk,ok.exf,ok.bs,ok.bsz,ok.noex,ok.exfs,ok.funs,ok.frf⟩
section
variable{X:Cx}{bq:T2}{σ:St}{H:Hp}{s:Ub}{E:T1}
def Inv.wish(I:Inv X bq σ H s)(E:T1):Inv (X.wish E) bq σ H s:=⟨I.ok.wish E,I.os,I.bare,I.base,I.loc,I.cell,I.free,I.freeC,I.pin,I.hok,I.len⟩
def Inv.unwish(I:Inv (X.wish E) bq σ H s):Inv X bq σ H s:=⟨I.ok.unwish,I.os,I.bare,I.base,I.loc,I.cell,I.free,I.freeC,I.pin,I.hok,I.len⟩
def SP.unwish(h:SP (X.wish E) bq D f s'):SP X bq D f s':=by
 cases f with
 |next=>obtain⟨a,H',I,q⟩:=h;exact⟨a,H',I.unwish,q⟩
 |brk=>obtain⟨a,H',I,q⟩:=h;exact⟨a,H',I.unwish,q⟩
 |cont=>obtain⟨a,H',I,q⟩:=h;exact⟨a,H',I.unwish,q⟩
 |ret u=>obtain⟨v,a,H',I,r,q⟩:=h;exact⟨v,a,H',I.unwish,r,q⟩
def PSs.nox{st:T9}(h:PSs X.nox st t):PSs X st t:=λbq s σ H D I a=>
 E3 (h bq s σ H D (I.wish _) a) (λ_ _ q=>q.unwish) λ_ _ z=>False.elim z
end
section
variable{X:Cx}{st:Stmt}{rest:T9}{t u:TS}{e:Ud}{te:TE}{pos:Pos}
noncomputable def aIy:TS:=λD σ H=>D.nx σ H
noncomputable def aFW(t u:TS):TS:=λD σ H=>t { D with nx:=u D } σ H
def aFQ:PSs X [] aIy:=λ_ _ σ H _ I h=>A0l ⟨σ,H,I,h⟩
def vV(b:PS X st t)(c:PSs X rest u):PSs X (st::rest) (aFW t u):=by
 intro bq s σ H D I h;refine wpAny_execs_cons (thn (b bq s σ H { D with nx:=u D } I h) λf s1 q=>?_);cases f with
 |next=>
  obtain⟨a,H',d,q⟩:=q;exact c bq s1 a H' D d q
 |ret v=>exact q
 |brk=>exact q
 |cont=>exact q
def WI(a:PS X st t):PSs X [st] t:=by
 intro bq s σ H D I h;refine wpAny_execs_cons (thn (a bq s σ H D I h) λf s1 q=>?_);cases f with
 |next=>exact A0l q
 |ret v=>exact q
 |brk=>exact q
 |cont=>exact q
def Inv.quiet(I:Inv X bq σ H s):interactive X.env=false:=by simp[interactive,I.ok.kind]
noncomputable def aIN(te:TE):TS:=λD σ H=>te σ H λ_ a=>D.nx σ a
def aGR(a:PE X e te)(hs:swapsWith e Y pos.line X.env=pure false:=by rfl):PS X (.Expr e pos) (aIN te):=by
 intro bq s σ H D I h;exact wpAny_Expr_any (thn (a bq s σ H _ I h) λv s1 ⟨x,b,c,f,d⟩=>⟨σ,b,c,d⟩) I.quiet hs
noncomputable def aKL(te:TE):TS:=λD σ H=>te σ H D.rt
def aCl(a:PE X e te):PS X (.Return (Z e) pos) (aKL te):=by
 intro bq s σ H D I h;exact wpAny_Return_some (thn (a bq s σ H _ I h) λv s1 ⟨x,b,c,d,f⟩=>⟨x,σ,b,c,d,f⟩)
noncomputable def aLW(c:TT)(t u:TS):TS:=λD σ H=>c σ H λb a=>if b=true then t D σ a else u D σ a
def aIZ{c:Ud}{a b:T9}{f:TT}(k:PT X c f)(ha:PSs X a t)(l:PSs X b u):PS X (.If c a b pos) (aLW f t u):=by
 intro bq s σ H D I h;refine wpAny_If (thn (k bq s σ H _ I h) λd s1 ⟨g,i,j⟩=>?_);cases d with
 |true=>exact ha bq s1 σ g D i j
 |false=>exact l bq s1 σ g D i j
noncomputable def aBK:TS:=λ_ _ _=>False
def aBG:PS X st aBK:=λ_ _ _ _ _ _ h=>h.elim
end
abbrev TG:=V->St->Hp->(St->Hp->Prop)->Prop
abbrev TGs:=Tc->St->Hp->(St->Hp->Prop)->Prop
def PG(X:Cx)(a:Ud)(t:TG):Prop:=
 ∀(bq:T2)(s:Ub)(σ:St)(H:Hp)(v:V)(u:Tz)(Q:St->Hp->Prop),Inv X bq σ H s->RelV v u->t v σ H Q->
  bc (bb X.prog X.w) X.A (assign a X.env u) (λ_ s'=>∃b H',Inv X bq b H' s'/\Q b H') X.xe s
def PGs(X:Cx)(ts:T8)(t:TGs):Prop:=
 ∀(bq:T2)(s:Ub)(σ:St)(H:Hp)(vs:Tc)(us:T5)(Q:St->Hp->Prop),Inv X bq σ H s->bA vs us->t vs σ H Q->
  bc (bb X.prog X.w) X.A (assignInOrder ((assignEach ts X.env).map (·.2)) us) (λ_ s'=>∃a H',Inv X bq a H' s'/\Q a H') X.xe s
abbrev aHh:=V->V->V->Hp->(Hp->Prop)->Prop
def aLj(X:Cx)(t:aHh):Prop:=
 ∀(bq:T2)(s:Ub)(σ:St)(H:Hp)(o i v:V)(ov a u:Tz)(Q:Hp->Prop),Inv X bq σ H s->RelV o ov->RelV i a->RelV v u->t o i v H Q->
  bc (bb X.prog X.w) X.A (setItem ov a u) (λ_ s'=>∃H',Inv X bq σ H' s'/\Q H') X.xe s
section
variable{X:Cx}{pos:Pos}
def NQ(i:Nat):TG:=λv σ H Q=>Q (σ.set i<|Z v) H
def aIc{i:Nat}{x:Str}(a:X.N.Nodup)(hi:X.N[i]?=Z x)(b:Loc X.env.scope x)(c:X.fn x=true\/X.env.scope.names.lookup x=Z .local:=by first|exact .inl rfl|exact .inr rfl|assumption):PG X (.Name x pos) (NQ i):=by
 intro bq s σ H v u Q I r h;exact wpAny_assign_Name<|rX I a hi b r (λs' d=>⟨_,H,d,h⟩) c
noncomputable def aMP:TGs:=λvs σ H Q=>vs=[]/\Q σ H
noncomputable def aIF(t:TG)(u:TGs):TGs:=λvs σ H Q=>∃v r,vs=v::r/\t v σ H λa H'=>u r a H' Q
def aHm:PGs X [] aMP:=by
 intro bq s σ H vs us Q I r h;obtain⟨e,h⟩:=h;subst e;cases r;exact assignInOrder_nil ⟨σ,H,I,h⟩
def aEX{e:Ud}{es:T8}{t:TG}{u:TGs}(b:PG X e t)(c:PGs X es u)
 (hs:(assignEach (e::es) X.env).map (·.2)=assign e X.env::(assignEach es X.env).map (·.2):=by rfl):PGs X (e::es) (aIF t u):=by
 intro bq s σ H vs us Q I r h;obtain⟨v,k,d,h⟩:=h;subst d;cases r with
 |cons r f=>
  rw[hs];refine assignInOrder_cons (thn (b bq s σ H _ _ _ I r h) λ_ s1 ⟨a,g,i,j⟩=>?_);exact c bq s1 a g _ _ Q i f j
noncomputable def aEc(K:Fg)(n:Nat)(t:TGs):TG:=λv σ H Q=>∃a xs,v=.ref a/\SqT K H a xs/\xs.length=n/\t xs σ H Q
def aLn{n:Nat}(f:X.calm=true)(h:PGs X es t)
 (hn:(assignEach es X.env).length=n:=by rfl) (c:(assignEach es X.env).findIdx? (·.1)=Y:=by rfl):PG X (.Tuple es k pos) (aEc X.K n t):=by
 intro bq s σ H v u Q I r d;obtain⟨a,xs,g,i,j,d⟩:=d;subst g;cases r;obtain⟨its,l,ht,q⟩:=I.tuple i;refine assign_Tuple_tuple (I.ok.hd f) ht (by simp[hn,<- j,l.length]) c λh' m=>?_;have p:=I.kept (t':=s.toks) λb o e=>m b o (B4<|A9 e) e;exact h bq _ σ H xs _ Q p (by omega) d
noncomputable def aNH(to a:TE)(t:aHh):TG:=λv σ H Q=>to σ H λo b=>a σ b λi c=>t o i v c λd=>Q σ d
def aJf{o i:Ud}{to b:TE}{t:aHh}(c:PE X o to)(hi:PE X i b)(hs:aLj X t)
 (ha:∀v,assign (.Subscript o i pos) X.env v=(do
  let ov <- holding [v] (eval o X.env);let a <- holding [v,ov] (eval i X.env)
  standAt pos
  holding [v,ov,a] (setItem ov a v)
  release [v,ov,a] []):=by intro _;rfl):PG X (.Subscript o i pos) (aNH to b t):=by
 intro bq s σ H v u Q I r h;refine A0<|F5 (thn (c bq s σ H _ I h) λov s1 ⟨x,d,e,f,g⟩=>?_);refine A0<|F5 (thn (hi bq s1 σ d _ e g) λa s2 ⟨y,j,k,l,m⟩=>?_);refine A0<|Y7<|A0<|F5 (thn (hs bq s2 σ j x y v ov a u _ k f l r m) λ_ s3 ⟨n,p,q⟩=>?_);exact wpAny_release ⟨σ,n,p,q⟩
noncomputable def aCe(a:TE)(g:TG):TS:=λD σ H=>a σ H λx b=>g x σ b D.nx
def aKy{tg e:Ud}{a:TE}{g:TG}(b:PE X e a)(c:PG X tg g)(hs:swapsWithSole [tg] e pos.line X.env=pure false:=by rfl)(d:swappedStores [tg] e X.env=pure Y:=by rfl)
 (f:(assignEach [tg] X.env).map (·.2)=[assign tg X.env]:=by rfl):PS X (.Assign [tg] e pos) (aCe a g):=by
 intro bq s σ H D I h;refine wpAny_Assign_stores (thn (b bq s σ H _ I h) λv s1 ⟨x,i,j,k,l⟩=>?_) hs d;rw[f];exact thn (c bq s1 σ i x v _ j k l) λ_ s2 q=>q
def aEQ{i:Nat}{x:Str}{e:Ud}{b:TE}{a:Pos}(c:X.N.Nodup)(hi:X.N[i]?=Z x)(d:Loc X.env.scope x)(f:PE X e b)(hs:swapsWith e (Z (.Name x a)) pos.line X.env=pure false:=by rfl)(g:X.fn x=true\/X.env.scope.names.lookup x=Z .local:=by first|exact .inl rfl|exact .inr rfl|assumption):
 PS X (.Assign [.Name x a] e pos) (aCe b<|NQ i):=by
 intro bq s σ H D I h;refine wpAny_Assign_Name (thn (f bq s σ H _ I h) λv s1 ⟨y,j,k,l,m⟩=>?_) hs;exact rX k c hi d l (λs2 n=>⟨_,j,n,m⟩) g
def aMI(i j:Nat)(a:TA):TS:=λD σ H=>a σ H λvs b=>∃v w,vs=[v,w]/\D.nx ((σ.set i<|Z v).set j (Z w)) b
def aKD{i j:Nat}{x y:Str}{a b:Ud}{n:TA}{kt k2 pt2}(C:X.calm=true)(r:X.N.Nodup)(hi:X.N[i]?=Z x)(E:X.N[j]?=Z y)(g:i≠j)
 (t:X.env.scope.names.lookup x=Z .local) (u:X.env.scope.names.lookup y=Z .local) (ha:PA X [a,b] n)
 (F:swappedStores [.Tuple [.Name x d,.Name y f] kt pt] (.Tuple [a,b] k2 pt2) X.env=pure (Z [x,y]))
 (hs:swapsWithSole [.Tuple [.Name x d,.Name y f] kt pt] (.Tuple [a,b] k2 pt2) pos.line X.env=pure false:=by rfl):
 PS X (.Assign [.Tuple [.Name x d,.Name y f] kt pt] (.Tuple [a,b] k2 pt2) pos) (aMI i j n):=by
 intro bq s σ H D I h;refine A0<|Y7 ?_;refine A0<|A6 ?_;refine A0<|Tuple_ (thn (ha _ bq s σ H _ I h) λus s1 ⟨vs,z,G,J,k⟩=>?_);obtain⟨v,w,L,k⟩:=k;subst L
 obtain⟨u1,c,rfl,M,l⟩:∃u1 c,us=[u1,c]/\RelV v u1/\RelV w c:=by
  cases J with
  |cons p q=>
   cases q with
   |cons O P=>
    cases P;exact⟨_,_,rfl,p,O⟩
 refine D1 ?_ (by show 2<=ba;decide);have Q:Inv X bq σ z { s1 with heap:=s1.heap.push { cls:=.type "tuple",data:=.seq [u1,c].toArray } }:=G.kept λb o e=>A3 _ e;rw[F];refine A0<|A6 ?_;refine A0<|wpAny_rule<|A0 (unpackItems_tuple (items:=#[u1,c]) (I.ok.hd C) (IsTup.new s1.heap _) λh' m=>?_);have R:=Q.kept (t':=s1.toks) λb o e=>m b o (B4<|A9 e) e;refine A0<|assignInOrder_cons<|wpAny_bindName<|rX R r E (.inl u) l (λs2 S=>?_) (.inr u);refine assignInOrder_cons<|wpAny_bindName<|rX S r hi (.inl t) M (λs3 B=>assignInOrder_nil<|A6 ?_) (.inr t);rw[List.set_comm _ _ (J7 g)]at B;exact⟨_,z,B,k⟩
end
section
variable{X:Cx}{pos:Pos}
def aCt(c:TT)(tb:TS):TS:=λD σ H=>∃W:Nat->St->Hp->Prop,(∃m,W m σ H)/\∀m σ H,W m σ H->
 c σ H λb d=>if b=true then ∃N:St->Hp->Prop,(∀a H',N a H'->∃e,e<m/\W e a H')/\tb { D with nx:=N,ct:=N,bk:=D.nx } σ d else D.nx σ d
def aEB(t:PassesOwn (bb X.prog X.w) X.A X.env X.xe)(B:PT X c r)(C:PSs X e tb):PS X (.While c e [] pos) (aCt r tb):=by
 intro bq s σ H D I h;obtain⟨W,⟨E,F⟩,g⟩:=h;refine wpAny_While<|codeAny_whileLoop (λn s'=>∃i H',Inv X bq i H' s'/\W n i H') ?_ E ⟨σ,H,I,F⟩;rintro n s1 ⟨d,u,G,J⟩;refine Y6 t (thn (B bq s1 d u _ G<|g n d u J) λb s2 ⟨x,y,k⟩=>?_);cases b with
 |true=>
  obtain⟨N,z,k⟩:=k;refine Y6 t (thn (C bq s2 d x _ y k) λf s3 l=>?_);cases f with
  |next=>
   obtain⟨a,j,m,o⟩:=l;obtain⟨p,hm,q⟩:=z a j o;exact⟨p,hm,a,j,m,q⟩
  |cont=>
   obtain⟨a,j,m,o⟩:=l;obtain⟨p,hm,q⟩:=z a j o;exact⟨p,hm,a,j,m,q⟩
  |brk=>exact l
  |ret v=>exact l
 |false=>
  exact A0l ⟨d,x,y,k⟩
end
structure It where
 go:Nat->Hp->Prop
 yld:Nat->Hp->V->Hp->Prop
 stop:Nat->Hp->Prop
def nZ(X:Cx)(bq:T2)(H:Hp)(b:Uc):Prop:=
 H b=Y/\b≠X.env.locals/\b∉X.fs/\(b∈X.ex\/X.s₀.heap.objs.size<=b)/\(∀x c,X.env.cells.lookup x=Z c->c≠b)/\∀p∈X.pn++bq,p.1≠b
def Inv.fpOk{H':Hp}{b:Uc}(I:Inv X bq σ H s)(a:s.heap.objs.size<=b)(hn:H' b=Y):nZ X bq H' b:=by
 refine⟨hn,E9<|C2 I.lt a,I.nofs a,.inr (C6 I.sz a),λx c e z=>?_,λp d z=>?_⟩
 .obtain⟨v,q⟩:=I.cell x c e;exact absurd (C2 q.lt (by grind))<|L8 _
 .exact absurd (C2 (A9 (I.pin p d).1) (by grind))<|L8 _
structure Turn(P:Ue)(w:World)(K:Fg)(tg:Ud)(J:It)(fp:Ta)(it:Uc)(tn:Nat->Heap->Prop):Prop where
 mem:it∈fp
 obj:∀i h,tn i h->∀b∈fp,∃o,h.get? b=Z o/\∀v,o.data≠.cell v
 keep:∀i h h',tn i h->(∀b∈fp,∀o,h.get? b=Z o->h'.get? b=Z o)->tn i h'
 item:∀(X:Cx),X.prog=P->X.w=w->X.K=K->X.calm=true->∀(i:Nat)(bq:T2)(s:Ub)(σ:St)(H:Hp)(E:T1),Inv X bq σ H s->(∀b∈fp,nZ X bq H b)->tn i s.heap->J.go i H->
  bc (bb P w) X.A (pyNext (.ref it)) (λr s1=>∃u,r=Z u /\
   bc (bb P w) X.A (bn tg (.ref it) u) (λ_ s2=>∃x H',Inv X bq σ H' s2/\RelV x u/\J.yld i H x H'/\tn (i+1) s2.heap/\∀b∈fp,H' b=Y) E s1) E s
 done:∀(X:Cx),X.prog=P->X.w=w->X.K=K->X.calm=true->∀(i:Nat)(bq:T2)(s:Ub)(σ:St)(H:Hp)(E:T1),Inv X bq σ H s->(∀b∈fp,nZ X bq H b)->tn i s.heap->J.stop i H->
  bc (bb P w) X.A (pyNext (.ref it)) (λr s1=>r=Y/\Inv X bq σ H s1) E s
 self:∀(A:Uf)(i:Nat)(s:Ub)(Q:T1)(E:T1),tn i s.heap->Q (.ref it) s->bc (bb P w) A (pyIter (.ref it)) Q E s
abbrev TI:=St->Hp->(It->Hp->Prop)->Prop
def PIE(X:Cx)(bq:T2)(σ:St)(tg:Ud)(R:It->Hp->Prop)(a:Tz)(s2:Ub):Prop:=
 ∃(it:Uc)(fp:Ta)(tn:Nat->Heap->Prop)(J:It)(H':Hp),a=.ref it/\Inv X bq σ H' s2/\Turn X.prog X.w X.K tg J fp it tn/\tn 0 s2.heap/\(∀b∈fp,nZ X bq H' b)/\R J H'
def PI(X:Cx)(tg iter:Ud)(a:TI):Prop:=
 ∀(bq:T2)(s:Ub)(σ:St)(H:Hp)(R:It->Hp->Prop),Inv X bq σ H s->a σ H R->
  bc (bb X.prog X.w) X.A (eval iter X.env) (λv s1=>bc (bb X.prog X.w) X.A (pyIter v) (PIE X bq σ tg R) X.xe s1) X.xe s
def VY{A:Uf}{it:Uc}{o:Obj}{Q:Unit->Ub->Prop}(b:s.heap.get? it=Z o)(c:o.cls=.type n)(hd:o.data=.fields vs)
 (hn:["enumerate","zip","dict_itemiterator","dict_reverseitemiterator","odict_iterator","itertools.zip_longest","itertools.pairwise"].contains n=false) (a:Q () s):bc M A (bn tg (.ref it) u) Q E s:=by
 cases tg<;>first
  |exact A6 a
  |(cases u<;>first
   |exact A6 a
   | (refine A0 (wpAny_load b ?_)
      rw[c,hd];show bc M A (if (["enumerate","zip","dict_itemiterator","dict_reverseitemiterator","odict_iterator","itertools.zip_longest","itertools.pairwise"].contains n&&vs[0]?==Z (rawInt _))=true then _ else _) Q E s;rw[A5 (by grind)];exact A6 a))
def Itl(K:Fg)(a:Uc):It:=
 ⟨λi H=>∃xs x,SqL K H a xs/\xs[i]?=Z x,λi H x H'=>H'=H/\∀xs,SqL K H a xs->xs[i]?=Z x,λi H=>∃xs,SqL K H a xs/\xs.length<=i⟩
def Itt(K:Fg)(a:Uc):It:=
 ⟨λi H=>∃xs x,SqT K H a xs/\xs[i]?=Z x,λi H x H'=>H'=H/\∀xs,SqT K H a xs->xs[i]?=Z x,λi H=>∃xs,SqT K H a xs/\xs.length<=i⟩
noncomputable def Itr(lo:Int)(n:Nat):It:=⟨λi _=>i<n,λi H x H'=>H'=H/\x=.int (lo+i),λi _=>n<=i⟩
def aAo{P:Ue}(a it:Uc):Turn P w K tg (Itl K a) [it] it (λi h=>h.IsListIter it a i) where
 mem:=by simp
 obj:=λi h st b hb=>by
  have e:b=it:=by grind
  subst e;obtain⟨o,e,c,d⟩:=st;exact⟨o,e,λv z=>by rw[d]at z;cases z⟩
 keep:=λi h h' st k=>st.at λo e=>k it (by simp) o e
 item:=by
  intro X hP hw hK hc i bq s σ H E I hf st hg;subst hP hw hK;obtain⟨xs,x,hq,hx⟩:=hg;obtain⟨its,rv,p,hz⟩:=I.list hq;obtain⟨u,hu,ru⟩:=rv.get hx;obtain⟨f0,f1,f2,f3,f4,f5⟩:=hf it (by simp);refine wpAny_pyNext_list_item st p.isList (by simp;omega) λh' st' sb=>?_;have I1:=I.turned (t':=s.toks) (λb o hb e=>(sb.2 b hb).trans e) f0 f1 f3 f4 f5;obtain⟨o,e,c,d⟩:=id st';exact⟨u,rfl,VY e c d (by decide) ⟨x,H,I1,ru,⟨rfl,λys hy=>by rw[I.list_inj hy hq];exact hx⟩,st',λb hb=>(hf b hb).1⟩⟩
 done:=by
  intro X hP hw hK hc i bq s σ H E I hf st hg;subst hP hw hK;obtain⟨xs,hq,hx⟩:=hg;obtain⟨its,rv,p,hz⟩:=I.list hq;obtain⟨f0,f1,f2,f3,f4,f5⟩:=hf it (by simp);have hl:=rv.length;exact wpAny_pyNext_list_end (I.ok.hd hc) st p.isList (by grind) λh' eb=>⟨rfl,I.turned (λb o hb e=>eb b o hb e) f0 f1 f3 f4 f5⟩
 self:=λ_ _ _ _ _ st h=>wpAny_pyIter_listiter st h
def VF{P:Ue}(a it:Uc):Turn P w K tg (Itt K a) [it] it (λi h=>h.IsTupleIter it a i) where
 mem:=by simp
 obj:=λi h st b hb=>by
  have e:b=it:=by grind
  subst e;obtain⟨o,e,c,d⟩:=st;exact⟨o,e,λv z=>by rw[d]at z;cases z⟩
 keep:=λi h h' st k=>st.at λo e=>k it (by simp) o e
 item:=by
  intro X hP hw hK hc i bq s σ H E I hf st hg;subst hP hw hK;obtain⟨xs,x,hq,hx⟩:=hg;obtain⟨its,rv,p,hz⟩:=I.tuple hq;obtain⟨u,hu,ru⟩:=rv.get hx;obtain⟨f0,f1,f2,f3,f4,f5⟩:=hf it (by simp);refine wpAny_pyNext_tuple_item st p (by simp;omega) λh' st' sb=>?_;have I1:=I.turned (t':=s.toks) (λb o hb e=>(sb.2 b hb).trans e) f0 f1 f3 f4 f5;obtain⟨o,e,c,d⟩:=id st';exact⟨u,rfl,VY e c d (by decide) ⟨x,H,I1,ru,⟨rfl,λys hy=>by rw[I.tuple_inj hy hq];exact hx⟩,st',λb hb=>(hf b hb).1⟩⟩
 done:=by
  intro X hP hw hK hc i bq s σ H E I hf st hg;subst hP hw hK;obtain⟨xs,hq,hx⟩:=hg;obtain⟨its,rv,p,hz⟩:=I.tuple hq;obtain⟨f0,f1,f2,f3,f4,f5⟩:=hf it (by simp);have hl:=rv.length;exact wpAny_pyNext_tuple_end (I.ok.hd hc) st p (by grind) λh' eb=>⟨rfl,I.turned (λb o hb e=>eb b o hb e) f0 f1 f3 f4 f5⟩
 self:=λ_ _ _ _ _ st h=>wpAny_pyIter_tupleiter st h
def TU{P:Ue}(it:Uc)(lo:Int)(n:Nat):Turn P w K tg (Itr lo n) [it] it (λi h=>IsRangeIter h it (lo+(i:Nat)*1) ((n:Int)-(i:Nat)) 1) where
 mem:=by simp
 obj:=λi h st b hb=>by
  have e:b=it:=by grind
  subst e
  exact⟨_,st,λv z=>by
   have z':=z;cases z'⟩
 keep:=λi h h' st k=>k it (by simp) _ st
 item:=by
  intro X hP hw hK hc i bq s σ H E I hf st hg;subst hP hw hK;obtain⟨f0,f1,f2,f3,f4,f5⟩:=hf it (by simp);have W:=Walks.range (prog:=X.prog) (w:=X.w) (I.ok.hd hc) it lo 1 n;refine W.item i s _ _ hg st λv h' tk hv st' kk=>?_;obtain⟨t,rfl⟩:=hv;have I1:Inv X bq σ H { s with heap:=h',toks:=tk }:=I.turned (λb o hb e=>kk b o (by grind) e) f0 f1 f3 f4 f5;refine⟨_,rfl,VY st' rfl rfl (by decide) ⟨.int (lo+i),H,I1,⟨t,?_⟩,⟨rfl,rfl⟩,st',λb hb=>(hf b hb).1⟩⟩;rw[Int.mul_one]
 done:=by
  intro X hP hw hK hc i bq s σ H E I hf st hg;subst hP hw hK;obtain⟨f0,f1,f2,f3,f4,f5⟩:=hf it (by simp);exact wpAny_pyNext_range_end (I.ok.hd hc) st (by have:n<=i:=hg;omega) λh' eb=>⟨rfl,I.turned (λb o hb e=>eb b o hb e) f0 f1 f3 f4 f5⟩
 self:=λ_ _ _ _ _ st h=>wpAny_pyIter_rangeiter st h
section
variable{X:Cx}{tg:Ud}
def NK{R:It->Hp->Prop}{E:T1}{lo hi:Int}{t u v:Tok}{tk:Nat}(I:Inv X bq σ H s)(c:-(2 ^ 62)<=lo)(d:lo<2 ^ 62)(f:-(2 ^ 62)<=hi)(g:hi<2 ^ 62)
 (q:R (Itr lo (hi-lo).toNat) H):bc (bb X.prog X.w) X.A (pyIter (.ref s.heap.objs.size)) (PIE X bq σ tg R) E { s with heap:=s.heap.push { cls:=.type "range",data:=.fields #[.int lo t,.int hi u,.int 1 v] },toks:=tk }:=by
 refine wpAny_pyIter_range (IsRange.new ..) (small_one c d f g) ?_;have a:Inv X bq σ H { s with heap:=s.heap.push { cls:=.type "range",data:=.fields #[.int lo t,.int hi u,.int 1 v] },toks:=tk }:=I.kept λb o e=>A3 _ e
 refine⟨(s.heap.push { cls:=.type "range",data:=.fields #[.int lo t,.int hi u,.int 1 v] }).objs.size,[(s.heap.push { cls:=.type "range",data:=.fields #[.int lo t,.int hi u,.int 1 v] }).objs.size],_,_,H,rfl,
  a.kept λb o e=>A3 _ e,TU _ lo (hi-lo).toNat,?_,λb j=>?_,q⟩
 .have h:lo+((0:Nat):Int)*1=lo:=by simp
  have i:(((hi-lo).toNat:Nat):Int)-((0:Nat):Int)=Builtin.Range.rangeSize lo hi 1:=by rw[rangeSize_one];split<;>omega
  rw[h,i];exact B3 _ rfl
 .have e:b=(s.heap.push { cls:=.type "range",data:=.fields #[.int lo t,.int hi u,.int 1 v] }).objs.size:=by grind
  subst e;exact a.fpOk (A7 _)<|a.hok.fresh<|A7 _
def aIn(a:TA):TI:=λσ H R=>a σ H λvs b=>∃j:Int,vs=[.int j]/\-(2 ^ 62)<=j/\j<2 ^ 62/\R (Itr 0 j.toNat) b
def aID(a:TA):TI:=λσ H R=>a σ H λvs b=>∃i j:Int,vs=[.int i,.int j]/\(-(2 ^ 62)<=i/\i<2 ^ 62/\-(2 ^ 62)<=j/\j<2 ^ 62)/\R (Itr i (j-i).toNat) b
def aBc{a:Ud}{c:TA}{p:Pos}(d:Gl X "range")(hm:X.mg "range"=Y)(ha:PA X [a] c)(hs:bf [a] X.env=[(false,eval a X.env)]:=by rfl):PI X tg (.Call (.Name "range" p) [a] [] pos) (aIn c):=by
 intro bq s σ H R I h;refine Call_<|nI I d hm boot_range<|O0 (thn (ha pos bq s σ H _ I h) λus s1 ⟨vs,l,f,g,b⟩=>?_) hs rfl;obtain⟨j,e,b,i,q⟩:=b;subst e;cases g with
 |cons r k=>
  cases k;obtain⟨t,rfl⟩:=r;exact call_range_1<|NK f (by omega) (by omega) b i (by grind)
def aAb{a b:Ud}{g:TA}{p pos:Pos}(k:Gl X "range")(hm:X.mg "range"=Y)(ha:PA X [a,b] g)(hs:bf [a,b] X.env=[(false,eval a X.env),(false,eval b X.env)]:=by rfl)(c:bf [b] X.env=[(false,eval b X.env)]:=by rfl):
 PI X tg (.Call (.Name "range" p) [a,b] [] pos) (aID g):=by
 intro bq s σ H R I h;refine Call_<|nI I k hm boot_range<|O0 (thn (ha pos bq s σ H _ I h) λus s1 ⟨vs,w,l,m,d⟩=>?_) (by grind) (by rw[c];rfl);obtain⟨i,j,e,⟨d,n,o,u⟩,q⟩:=d;subst e;cases m with
 |cons r f=>
  cases f with
  |cons v f=>
   cases f;obtain⟨t,rfl⟩:=r;obtain⟨x,rfl⟩:=v;exact call_range_2<|NK l d n o u q
def aEn(d:TI)(g:TG)(tb:TS):TS:=λD σ H=>d σ H λJ e=>∃W:Nat->Nat->St->Hp->Prop,(∃m,W 0 m σ e)/\∀i m σ H,W i m σ H->
 (J.stop i H/\D.nx σ H)\/(J.go i H/\∃N:St->Hp->Prop,(∀a H',N a H'->∃c,c<m/\W (i+1) c a H')/\∀x H',J.yld i H x H'->g x σ H' λb f=>tb { D with nx:=N,ct:=N,bk:=D.nx } b f)
noncomputable def sG(fp:Ta)(h:Heap):T2:=fp.filterMap λb=>(h.get? b).map λo=>(b,o)
def eD{fp:Ta}{h:Heap}{b:Uc}{o:Obj}(a:b∈fp)(e:h.get? b=Z o):(b,o)∈sG fp h:=List.mem_filterMap.mpr ⟨b,a,by rw[e];rfl⟩
def HS{p:Uc×Obj}(a:p∈sG fp h):p.1∈fp/\h.get? p.1=Z p.2:=by
 obtain⟨b,c,e⟩:=List.mem_filterMap.mp a;cases q:h.get? b with
 |none=>rw[q]at e;cases e
 |some o=>
  rw[q]at e;have d:=D5 e;subst d;exact⟨c,q⟩
def Inv.pinned{fp:Ta}(I:Inv X bq σ H s)(f:∀b∈fp,nZ X bq H b)(g:∀b∈fp,∃o,s.heap.get? b=Z o/\∀v,o.data≠.cell v):Inv X (bq++sG fp s.heap) σ H s:=
 I.pins_of λp h=>(List.mem_append.mp h).elim (λz=>I.pin p<|B5 _ z) λz=>by
  obtain⟨a,e⟩:=HS z;obtain⟨f0,f1,f2,_⟩:=f p.1 a;obtain⟨o,c,d⟩:=g p.1 a;rw[e]at c;cases c;exact⟨e,f0,f1,f2,d⟩
def Inv.unpinned{bq pl:T2}(I:Inv X (bq++pl) σ H s):Inv X bq σ H s:=I.pins_of λp a=>I.pin p<|B5 _<|E5 _ a
def UB{iter:Ud}{t:T9}{S:TI}{g:TG}{tb:TS}{pos:Pos}(B:PassesOwn (bb X.prog X.w) X.A X.env X.xe)(U:X.calm=true)(hi:PI X tg iter S)(hg:PG X tg g)(c:PSs X t tb)
 (hs:∀x,bg iter X.env x=pure x:=by intro _;rfl):PS X (.For tg iter t [] pos) (aEn S g tb):=by
 intro bq s σ H D I h;refine wpAny_For (thn (hi bq s σ H _ I h) λv s1 h1=>thn h1 λa0 s2 h2=>?_) hs;obtain⟨it,fp,tn,J,H2,e,I2,T,M,f2,W,⟨m0,w0⟩,C⟩:=h2;subst e;have j:∀{H':Hp},(∀b∈fp,H' b=Y)->∀b∈fp,nZ X bq H' b:=λhn b c=>⟨hn b c,(f2 b c).2⟩;refine codeAny_forLoop_any (λn s'=>∃i k H',Inv X bq k H' s'/\tn i s'.heap/\(∀b∈fp,H' b=Y)/\W i n k H') ?_ m0 ⟨0,σ,H2,I2,M,λb c=>(f2 b c).1,w0⟩;rintro n s3 ⟨i,l,L,V,E,F,w3⟩;obtain⟨stop,qn⟩|⟨go,N,hN,step⟩:=C i n l L w3
 .refine Y6 B (thn (T.done X rfl rfl rfl U i bq s3 l L X.xe V (j F) E stop) λr s4 ⟨O,I4⟩=>?_);subst O;exact A0l ⟨l,L,I4,qn⟩
 .refine Y6 B (thn (T.item X rfl rfl rfl U i bq s3 l L X.xe V (j F) E go) λr s4 ⟨u,O,h4⟩=>?_);subst O;refine Y6 B (thn h4 λ_ s5 ⟨x,H5,I5,r5,y5,z,P⟩=>?_);have Q:=I5.pinned (j P)<|T.obj _ _ z;refine Y6 B (thn (hg _ s5 l H5 x u _ Q r5<|step x H5 y5) λ_ s6 ⟨R,H6,I6,q6⟩=>?_);refine Y6 B (thn (c _ s6 R H6 _ I6 q6) λf s7 y=>?_)
  have again:∀{a:St}{p:Hp},Inv X (bq++sG fp s5.heap) a p s7->N a p->∃m,m<n/\∃i k H',Inv X bq k H' s7/\tn i s7.heap/\(∀b∈fp,H' b=Y)/\W i m k H':=λ{a p} q G=>by
   obtain⟨m',hm,w7⟩:=hN a p G;refine⟨m',hm,i+1,a,p,q.unpinned,T.keep _ _ _ z λb c o e=>(q.pin (b,o)<|B5 _<|B5 _<|eD c e).1,λb c=>?_,w7⟩;obtain⟨o,e,d⟩:=T.obj _ _ z b c;exact(q.pin (b,o)<|B5 _<|B5 _<|eD c e).2.1
  cases f with
  |next=>obtain⟨a,p,q,G⟩:=y;exact again q G
  |cont=>obtain⟨a,p,q,G⟩:=y;exact again q G
  |brk=>obtain⟨a,p,q,y⟩:=y;exact⟨a,p,q.unpinned,y⟩
  |ret v=>obtain⟨x7,a,p,q,r7,y⟩:=y;exact⟨x7,a,p,q.unpinned,r7,y⟩
end
abbrev R2:=V->V->Hp->VK->Prop
def OpR(X:Cx)(f:Tn)(r:R2):Prop:=
 ∀(bq:T2)(s:Ub)(σ:St)(H:Hp)(x y:V)(v u:Tz)(Q:VK),Inv X bq σ H s->RelV x v->RelV y u->r x y H Q->
  bc (bb X.prog X.w) X.A (f v u) (EP X bq σ Q) X.xe s
def UnR(X:Cx)(f:Tz->Sem Tz)(r:V->Hp->VK->Prop):Prop:=
 ∀(bq:T2)(s:Ub)(σ:St)(H:Hp)(x:V)(v:Tz)(Q:VK),Inv X bq σ H s->RelV x v->r x H Q->
  bc (bb X.prog X.w) X.A (f v) (EP X bq σ Q) X.xe s
def fB(X:Cx)(f:Tz)(r:Tc->Hp->VK->Prop):Prop:=
 ∀(bq:T2)(s:Ub)(σ:St)(H:Hp)(xs:Tc)(us:T5)(Q:VK),Inv X bq σ H s->bA xs us->r xs H Q->
  bc (bb X.prog X.w) X.A (call f us) (EP X bq σ Q) X.xe s
def aOx(X:Cx)(r:V->Hp->(Bool->Hp->Prop)->Prop):Prop:=
 ∀(bq:T2)(s:Ub)(σ:St)(H:Hp)(x:V)(v:Tz)(Q:Bool->Hp->Prop),Inv X bq σ H s->RelV x v->r x H Q->
  bc (bb X.prog X.w) X.A (truthy v) (TP X bq σ Q) X.xe s
noncomputable def tOp(r:R2)(a tb:TE):TE:=λσ H Q=>a σ H λx b=>tb σ b λy c=>r x y c Q
noncomputable def tUn(r:V->Hp->VK->Prop)(a:TE):TE:=λσ H Q=>a σ H λx b=>r x b Q
noncomputable def rI(C:Int->Int->Prop)(g:Int->Int->V):R2:=λx y H Q=>∃i j,x=.int i/\y=.int j/\C i j/\Q (g i j) H
noncomputable def rI0(g:Int->Int->V):R2:=λx y H Q=>∃i j,x=.int i/\y=.int j/\Q (g i j) H
def rU(g:Int->V):V->Hp->VK->Prop:=λx H Q=>∃i,x=.int i/\Q (g i) H
section
variable{X:Cx}{a b c:Ud}{ta tb tc:TE}{pos:Pos}
def aLI(ha:PE X a ta)(j:PE X b tb){bq:T2}{R:V->V->Hp->Prop}(I:Inv X bq σ H s)
 (h:ta σ H λx i=>tb σ i λy d=>R x y d) {Q:T1} {f:Tn}
 (k:∀v u s2 x y d,Inv X bq σ d s2->RelV x v->RelV y u->R x y d->bc (bb X.prog X.w) X.A (f v u) Q X.xe s2):
 bc (bb X.prog X.w) X.A (eval a X.env) (λv e=>bc (bb X.prog X.w) X.A (eval b X.env) (λu g=>bc (bb X.prog X.w) X.A (f v u) Q X.xe g) X.xe e) X.xe s:=by
 refine thn (ha bq s σ H _ I h) λv s1 ⟨x,i,l,m,n⟩=>?_;refine thn (j bq s1 σ i _ l n) λu s2 ⟨y,d,o,p,q⟩=>?_;exact k v u s2 x y d o m p q
def aMo(d:OpR X (binaryOp op) r)(ha:PE X a ta)(e:PE X b tb):PE X (.BinOp a op b pos) (tOp r ta tb):=by
 intro bq s σ H Q I h;exact wpAny_BinOp (aLI ha e I h λv u s2 x y f g i j q=>d bq s2 σ f x y v u Q g i j q)
def aNE{op:UnaryOp}{r:V->Hp->VK->Prop}(d:UnR X (unaryOp op) r)(ha:PE X a ta):PE X (.UnaryOp op a pos) (tUn r ta):=by
 intro bq s σ H Q I h;exact UnaryOp_ (thn (ha bq s σ H _ I h) λv s1 ⟨x,e,f,g,i⟩=>d bq s1 σ e x v Q f g i)
def opI{f:Tn}{C:Int->Int->Prop}{g:Int->Int->Int}
 (rule:∀(i j:Int)(t u:Tok)(s:Ub)(Q:T1)(E:T1),C i j->Q (.int (g i j) s.toks) { s with toks:=s.toks+1 }->bc (bb X.prog X.w) X.A (f (.int i t) (.int j u)) Q E s):
 OpR X f (rI C λi j=>.int (g i j)):=by
 intro bq s σ H x y v u Q I d e h;obtain⟨i,j,rfl,rfl,k,q⟩:=h;obtain⟨t,rfl⟩:=d;obtain⟨l,rfl⟩:=e;exact rule i j t l s _ _ k ⟨.int (g i j),H,I.tok _,⟨_,rfl⟩,q⟩
def aNf{f:Tn}{g:Int->Int->Int}
 (rule:∀(i j:Int)(t u:Tok)(s:Ub)(Q:T1)(E:T1),Q (.int (g i j) s.toks) { s with toks:=s.toks+1 }->bc (bb X.prog X.w) X.A (f (.int i t) (.int j u)) Q E s):
 OpR X f (rI0 λi j=>.int (g i j)):=by
 intro bq s σ H x y v u Q I d e h;obtain⟨i,j,rfl,rfl,q⟩:=h;obtain⟨t,rfl⟩:=d;obtain⟨k,rfl⟩:=e;exact rule i j t k s _ _ ⟨.int (g i j),H,I.tok _,⟨_,rfl⟩,q⟩
def aIf{f:Tn}{g:Int->Int->Bool}
 (rule:∀(i j:Int)(t u:Tok)(s:Ub)(Q:T1)(E:T1),Q (.bool (g i j)) s->bc (bb X.prog X.w) X.A (f (.int i t) (.int j u)) Q E s):
 OpR X f (rI0 λi j=>.bl (g i j)):=by
 intro bq s σ H x y v u Q I d e h;obtain⟨i,j,rfl,rfl,q⟩:=h;obtain⟨t,rfl⟩:=d;obtain⟨k,rfl⟩:=e;exact rule i j t k s _ _ ⟨.bl (g i j),H,I,rfl,q⟩
def aMR(i j:Int):Prop:=0<=j/\j<=1000000/\i.natAbs<2 ^ 64
def aLd(i j:Int):Prop:=(-(2 ^ 64)<i/\i<2 ^ 64)\/(-(2 ^ 64)<j/\j<2 ^ 64)
def aLd.ok(h:aLd i j):IntMulOk i j:=by
 obtain⟨d,e⟩|⟨d,e⟩:=h
 .exact .of_left (intBits_le_64 d e)
 .exact .of_right (intBits_le_64 d e)
def op_add:OpR X (binaryOp .Add) (rI0 λi j=>.int (i+j)):=aNf λ_ _ _ _ _ _ _ q=>add_int q
def aJs:OpR X (binaryOp .Sub) (rI0 λi j=>.int (i-j)):=aNf λ_ _ _ _ _ _ _ q=>sub_int q
def aJK:OpR X (binaryOp .Mod) (rI (λ_ j=>0<j) λi j=>.int (i % j)):=opI λi j _ _ _ _ _ d q=>by
 exact mod_int' (by omega) (by grind)
def aLw:OpR X (binaryOp .Pow) (rI aMR λi j=>.int (i ^ j.toNat)):=opI λ_ _ _ _ _ _ _ d q=>pow_int_small d.1 d.2.1 d.2.2 q
def unI{f:Tz->Sem Tz}{g:Int->Int}
 (rule:∀(i:Int)(t:Tok)(s:Ub)(Q:T1)(E:T1),Q (.int (g i) s.toks) { s with toks:=s.toks+1 }->bc (bb X.prog X.w) X.A (f (.int i t)) Q E s):
 UnR X f (rU λi=>.int (g i)):=by
 intro bq s σ H x v Q I d h;obtain⟨i,rfl,q⟩:=h;obtain⟨t,rfl⟩:=d;exact rule i t s _ _ ⟨.int (g i),H,I.tok _,⟨_,rfl⟩,q⟩
def aKf:UnR X (unaryOp .USub) (rU λi=>.int (-i)):=unI λ_ _ _ _ _ q=>neg_int q
end
noncomputable def aNo:V->V->Bool
 |.non,.non=>true|.non,.int _=>true|.int _,.non=>true|.non,.bl _=>true|.bl _,.non=>true|.non,.str _=>true|.str _,.non=>true
 |.int _,.int _=>true|.bl _,.bl _=>true|.str _,.str _=>true|.byt _,.byt _=>true
 |.int _,.str _=>true|.str _,.int _=>true|.bl _,.str _=>true|.str _,.bl _=>true
 |_,_=>false
def rEq:R2:=λx y H Q=>aNo x y=true/\Q (.bl (decide (x=y))) H
def rNe:R2:=λx y H Q=>aNo x y=true/\Q (.bl (!decide (x=y))) H
def XJ:decide (V.int i=V.int j)=(i==j):=by
 rw[Z1];simp
def aCY:decide (V.bl i=V.bl j)=(i==j):=by
 rw[Z1];simp
def WQ:decide (V.str i=V.str j)=(i==j):=by
 rw[Z1];simp
def YQ:decide (V.byt i=V.byt j)=(i.toList==j.toList):=by
 rw[Z1];cases i;cases j;simp
section
variable{X:Cx}{a b c:Ud}{ta tb tc:TE}{pos:Pos}
def bV{Q:VK}{d:Bool}(I:Inv X bq σ H s)(q:Q (.bl k) H)(e:k=d):EP X bq σ Q (.bool d) s:=by
 subst e;exact⟨.bl k,H,I,rfl,q⟩
def op_eq:OpR X (bi .Eq) rEq:=by
 intro bq s σ H x y v u Q I f d h;obtain⟨hs,q⟩:=h;cases x with
 |non=>
  cases f;cases y with
  |non=>cases d;exact PySem.EqNone.eq_none_none<|bV I q (by simp)
  |bl j=>cases d;exact PySem.EqNone.eq_none_bool<|bV I q (by simp)
  |int j=>obtain⟨e,rfl⟩:=d;exact PySem.EqNone.eq_none_int<|bV I q (by simp)
  |str j=>obtain⟨e,rfl⟩:=d;exact PySem.EqNone.eq_none_str<|bV I q (by simp)
  |_=>exact absurd hs A8
 |bl i=>
  cases f;cases y with
  |non=>cases d;exact PySem.EqNone.eq_bool_none<|bV I q (by simp)
  |bl j=>cases d;exact eq_bool<|bV I q aCY
  |str j=>obtain⟨e,rfl⟩:=d;exact PySem.EqMixed.eq_bool_str<|bV I q (by simp)
  |_=>exact absurd hs A8
 |int i=>
  obtain⟨t,rfl⟩:=f;cases y with
  |non=>cases d;exact PySem.EqNone.eq_int_none<|bV I q (by simp)
  |int j=>obtain⟨e,rfl⟩:=d;exact eq_int<|bV I q XJ
  |str j=>obtain⟨e,rfl⟩:=d;exact PySem.EqMixed.eq_int_str<|bV I q (by simp)
  |_=>exact absurd hs A8
 |str i=>
  obtain⟨t,rfl⟩:=f;cases y with
  |non=>cases d;exact PySem.EqNone.eq_str_none<|bV I q (by simp)
  |bl j=>cases d;exact PySem.EqMixed.eq_str_bool<|bV I q (by simp)
  |int j=>obtain⟨e,rfl⟩:=d;exact PySem.EqMixed.eq_str_int<|bV I q (by simp)
  |str j=>obtain⟨e,rfl⟩:=d;exact eq_str<|bV I q WQ
  |_=>exact absurd hs A8
 |byt i=>
  obtain⟨t,rfl⟩:=f;cases y with
  |byt j=>obtain⟨e,rfl⟩:=d;exact W.eq_bytes<|bV I q YQ
  |_=>exact absurd hs A8
 |_=>cases y<;>exact absurd hs A8
def op_ne:OpR X (bi .NotEq) rNe:=by
 intro bq s σ H x y v u Q I f d h;obtain⟨hs,q⟩:=h;cases x with
 |non=>
  cases f;cases y with
  |non=>cases d;exact PySem.EqNone.ne_none_none<|bV I q (by simp)
  |bl j=>cases d;exact PySem.EqNone.ne_none_bool<|bV I q (by simp)
  |int j=>obtain⟨e,rfl⟩:=d;exact PySem.EqNone.ne_none_int<|bV I q (by simp)
  |str j=>obtain⟨e,rfl⟩:=d;exact PySem.EqNone.ne_none_str<|bV I q (by simp)
  |_=>exact absurd hs A8
 |bl i=>
  cases f;cases y with
  |non=>cases d;exact PySem.EqNone.ne_bool_none<|bV I q (by simp)
  |bl j=>cases d;exact ne_bool<|bV I q<|U3 not aCY
  |str j=>obtain⟨e,rfl⟩:=d;exact PySem.EqMixed.ne_bool_str<|bV I q (by simp)
  |_=>exact absurd hs A8
 |int i=>
  obtain⟨t,rfl⟩:=f;cases y with
  |non=>cases d;exact PySem.EqNone.ne_int_none<|bV I q (by simp)
  |int j=>obtain⟨e,rfl⟩:=d;exact ne_int<|bV I q<|U3 not XJ
  |str j=>obtain⟨e,rfl⟩:=d;exact PySem.EqMixed.ne_int_str<|bV I q (by simp)
  |_=>exact absurd hs A8
 |str i=>
  obtain⟨t,rfl⟩:=f;cases y with
  |non=>cases d;exact PySem.EqNone.ne_str_none<|bV I q (by simp)
  |bl j=>cases d;exact PySem.EqMixed.ne_str_bool<|bV I q (by simp)
  |int j=>obtain⟨e,rfl⟩:=d;exact PySem.EqMixed.ne_str_int<|bV I q (by simp)
  |str j=>obtain⟨e,rfl⟩:=d;exact ne_str<|bV I q<|U3 not WQ
  |_=>exact absurd hs A8
 |byt i=>
  obtain⟨t,rfl⟩:=f;cases y with
  |byt j=>obtain⟨e,rfl⟩:=d;exact W.ne_bytes<|bV I q<|U3 not YQ
  |_=>exact absurd hs A8
 |_=>cases y<;>exact absurd hs A8
def aNF:OpR X (bi .Lt) (rI0 λi j=>.bl (decide (i<j))):=aIf λ_ _ _ _ _ _ _ q=>lt_int q
def aMq:OpR X (bi .LtE) (rI0 λi j=>.bl (decide (i<=j))):=aIf λ_ _ _ _ _ _ _ q=>le_int q
def aMU:OpR X (bi .Gt) (rI0 λi j=>.bl (decide (j<i))):=aIf λ_ _ _ _ _ _ _ q=>gt_int q
def aNd:OpR X (bi .GtE) (rI0 λi j=>.bl (decide (j<=i))):=aIf λ_ _ _ _ _ _ _ q=>ge_int q
def ZQ:OpR X (bi .In) (λx y H Q=>∃i j,x=.str i/\y=.str j/\Q (.bl (!(Builtin.Str.occurrences j i 0 j.length 1).isEmpty)) H):=by
 intro bq s σ H x y v u Q I d e h;obtain⟨i,j,rfl,rfl,q⟩:=h;obtain⟨t,rfl⟩:=d;obtain⟨f,rfl⟩:=e;exact in_str<|bV I q rfl
def aJh:OpR X (bi .Is) (λx y H Q=>y=.non/\Q (.bl (decide (x=.non))) H):=by
 intro bq s σ H x y v u Q I d e h;obtain⟨rfl,q⟩:=h;cases e;refine is_none_gen<|bV I q ?_
 cases x<;>first
  |(cases d;rfl)
  |(obtain⟨t,rfl⟩:=d;rfl)
def aGr:OpR X (bi .IsNot) (λx y H Q=>y=.non/\Q (.bl (!decide (x=.non))) H):=by
 intro bq s σ H x y v u Q I d e h;obtain⟨rfl,q⟩:=h;cases e;refine isnot_none_gen<|bV I q ?_
 cases x<;>first
  |(cases d;rfl)
  |(obtain⟨t,rfl⟩:=d;rfl)
def OpR.or(h:OpR X f r)(h':OpR X f d):OpR X f (λx y H Q=>r x y H Q\/d x y H Q):=by
 intro bq s σ H x y v u Q I e g q;obtain q|q:=q
 .exact h bq s σ H x y v u Q I e g q
 .exact h' bq s σ H x y v u Q I e g q
def aHr(d:OpR X (bi op) r)(ha:PE X a ta)(e:PE X b tb)(hm:behindInMarks op b=false):PE X (.Compare a [op] [b] pos) (tOp r ta tb):=by
 intro bq s σ H Q I h;exact wpAny_Compare1 (aLI ha e I h λv u s2 x y f g i j q=>d bq s2 σ f x y v u Q g i j q) hm
noncomputable def aDd(t:TE):TT:=λσ H Q=>t σ H λx H'=>∃k,x=.bl k/\Q k H'
def aGo{op:CmpOp}{r:R2}(d:OpR X (bi op) r)(ha:PE X a ta)(f:PE X b tb)(hm:behindInMarks op b=false):PT X (.Compare a [op] [b] pos) (aDd<|tOp r ta tb):=by
 intro bq s σ H Q I h
 refine wpAny_isTrue_Compare1 (thn (ha bq s σ H _ I h) λv s1 ⟨x,g,i,j,l⟩=>thn (f bq s1 σ g _ i l) λu s2 ⟨y,m,n,o,p⟩=>
  thn (d bq s2 σ m x y v u _ n j o p) λc s3 ⟨z,q,t,w,k,e,B⟩=>?_) hm
 subst e;cases w;exact L9 ⟨q,t,B⟩
noncomputable def SD(r e:R2)(ta tb tc:TE):TE:=λσ H Q=>ta σ H λx f=>tb σ f λy g=>r x y g λz d=>∃k,z=.bl k /\
 (if k=true then tc σ d λh i=>e y h i Q else Q (.bl false) d)
def aDD{op f:CmpOp}{r i:R2}(o:OpR X (bi op) r)(g:OpR X (bi f) i)(ha:PE X a ta)(p:PE X b tb)(q:PE X c tc)
 (hm:lastMarks [op,f] [b,c]=false:=by with_unfolding_all rfl):PE X (.Compare a [op,f] [b,c] pos) (SD r i ta tb tc):=by
 intro bq s σ H Q I h
 refine Compare_chain (thn (ha bq s σ H _ I h) λv s1 ⟨x,t,w,B,C⟩=>chain_link (thn (p bq s1 σ t _ w C) λu s2 ⟨y,D,E,j,F⟩=>
  thn (o bq s2 σ D x y v u _ E B j F) λd s3 ⟨z,l,m,G,k,e,n⟩=>?_)) hm
 subst e;cases G;refine L9 ?_;cases k with
 |false=>exact ite_ff ⟨.bl false,l,m,rfl,n⟩
 |true=>exact ite_tt<|chain_last (thn (q bq s3 σ l _ m n) λJ s4 ⟨L,M,N,O,P⟩=>g bq s4 σ M y L u J Q N j O P)
def aDU(o:OpR X (bi op) r)(g:OpR X (bi f) i)(ha:PE X a ta)(p:PE X b tb)(q:PE X c tc)
 (hm:lastMarks [op,f] [b,c]=false:=by with_unfolding_all rfl):PT X (.Compare a [op,f] [b,c] pos) (aDd<|SD r i ta tb tc):=by
 intro bq s σ H Q I h
 refine isTrue_chain (thn (ha bq s σ H _ I h) λv s1 ⟨x,t,w,B,C⟩=>test_link (thn (p bq s1 σ t _ w C) λu s2 ⟨y,D,E,j,F⟩=>
  thn (o bq s2 σ D x y v u _ E B j F) λd s3 ⟨z,l,m,G,k,e,n⟩=>?_)) hm
 subst e;cases G;refine L9 ?_;cases k with
 |false=>
  obtain⟨k',J,L⟩:=n;cases J;exact ite_ff ⟨l,m,L⟩
 |true=>
  refine ite_tt<|test_last (thn (q bq s3 σ l _ m n) λM s4 ⟨N,O,P,R,S⟩=>thn (g bq s4 σ O y N u M _ P j R S) λd' s5 ⟨z2,T,U,V,k2,W,q5⟩=>?_);subst W;cases V;exact L9 ⟨T,U,q5⟩
def aEq(K:Fg)(x:V)(H:Hp)(k:Bool):Prop:=
 match x with
 |.non=>k=false
 |.bl b=>k=b
 |.int i=>k=(i != 0)
 |.str y=>y.length<=ba/\k=((y.length:Int) != 0)
 |.byt y=>y.size<=ba/\k=((y.size:Int) != 0)
 |.ref p=>(∃xs,SqL K H p xs/\k=!xs.isEmpty)\/(∃xs,SqT K H p xs/\k=!xs.isEmpty)\/∃kvs,H p=Z (.dK kvs)/\k=!kvs.isEmpty
 |_=>False
def VC{d:Type}{kvs:Tv (d×V)}{vs:Tv (d×Tz)}(r:KV kvs vs):(!vs.isEmpty)=!kvs.isEmpty:=by
 cases r<;>rfl
def CB(r:bA xs its):(!its.toArray.isEmpty)=!xs.isEmpty:=by
 cases r<;>simp
def yK:(ba:Nat)<2 ^ 63:=by rw[E4];decide
def aKg:aOx X (λx H Q=>∃k,aEq X.K x H k/\Q k H):=by
 intro bq s σ H x v Q I g h;obtain⟨k,e,q⟩:=h;have hs:=E4;cases x with
 |non=>
  cases g;have d:=e;subst d;exact truthy_none ⟨H,I,q⟩
 |bl b=>
  cases g;have d:=e;subst d;exact L9 ⟨H,I,q⟩
 |int i=>
  obtain⟨t,rfl⟩:=g;have d:=e;subst d;exact PySem.P.truthy_int ⟨H,I,q⟩
 |str y=>
  obtain⟨t,rfl⟩:=g;obtain⟨n,d⟩:=e;subst d;exact PySem.P.truthy_str (by omega) ⟨H,I.tok _,q⟩
 |byt y=>
  obtain⟨t,rfl⟩:=g;obtain⟨n,d⟩:=e;subst d;exact W.truthy_bytes (by omega) ⟨H,I.tok _,q⟩
 |ref p=>
  cases g;have d:=e;obtain⟨xs,j,d⟩|⟨xs,j,d⟩|⟨kvs,j,d⟩:=d
  .subst d;obtain⟨its,r,pl,l⟩:=I.list j;have f:=r.length;exact wpAny_truthy_list pl.isList (by grind) ⟨H,I.tok _,by rw[CB r];exact q⟩
  .subst d;obtain⟨its,r,pl,l⟩:=I.tuple j;have f:=r.length;exact truthy_tuple pl (by grind) ⟨H,I.tok _,by rw[CB r];exact q⟩
  .subst d;obtain⟨l,hS,vs,r,m⟩:=I.hok p _ j;have f:=A0h r;exact wpAny_truthy_dict hS m (by omega) ⟨H,I.tok _,by rw[VC r];exact q⟩
 |_=>exact e.elim
def aCN(ha:PE X a ta)(e:∀d,isTrue a X.env d=(do let v <- d;standAt a.pos;holding [v]<|truthy v)):
 PT X a (λσ H Q=>ta σ H λx H'=>∃k,aEq X.K x H' k/\Q k H'):=by
 intro bq s σ H Q I h;exact isTrue_plain (thn (ha bq s σ H _ I h) λv s1 ⟨x,f,g,i,j⟩=>aKg bq s1 σ f x v Q g i j)<|e _
def SX:OpR X (binaryOp .Add) (λx y H Q=>∃i j,x=.str i/\y=.str j/\i.length+j.length<=ba/\Q (.str (i++j)) H):=by
 intro bq s σ H x y v u Q I d e h;obtain⟨i,j,rfl,rfl,f,q⟩:=h;obtain⟨t,rfl⟩:=d;obtain⟨g,rfl⟩:=e;exact add_str (λg tk=>⟨.str (i++j),H,I.tok _,⟨_,rfl⟩,q⟩) f
def vals1{x:V}{us:T5}(r:bA [x] us):∃u,us=[u]/\RelV x u:=by
 cases r with
 |cons d e=>cases e;exact⟨_,rfl,d⟩
def vals2{x y:V}{us:T5}(r:bA [x,y] us):∃u d,us=[u,d]/\RelV x u/\RelV y d:=by
 cases r with
 |cons e f=>
  cases f with
  |cons g h=>cases h;exact⟨_,_,rfl,e,g⟩
def aAp(e:X.calm=true):fB X (.builtin "max") (λxs H Q=>∃i j,xs=[.int i,.int j]/\Q (.int (if j > i then j else i)) H):=by
 intro bq s σ H xs us Q I r h;obtain⟨i,j,rfl,q⟩:=h;obtain⟨u,f,rfl,⟨t,rfl⟩,⟨g,rfl⟩⟩:=vals2 r;refine max_two_ints (I.ok.hd e) λh' tk k=>⟨_,H,I.kept k,?_,q⟩;by_cases d:j > i
 .rw[A4 d,A4 d];exact⟨_,rfl⟩
 .rw[A5 d,A5 d];exact⟨_,rfl⟩
def ZD(e:X.calm=true):fB X (.builtin "min") (λxs H Q=>∃i j,xs=[.int i,.int j]/\Q (.int (if j<i then j else i)) H):=by
 intro bq s σ H xs us Q I r h;obtain⟨i,j,rfl,q⟩:=h;obtain⟨u,f,rfl,⟨t,rfl⟩,⟨g,rfl⟩⟩:=vals2 r;refine min_two_ints (I.ok.hd e) λh' tk k=>⟨_,H,I.kept k,?_,q⟩;by_cases d:j<i
 .rw[A4 d,A4 d];exact⟨_,rfl⟩
 .rw[A5 d,A5 d];exact⟨_,rfl⟩
def aAu:fB X (.type "int") (λxs H Q=>(∃i,xs=[.int i]/\Q (.int i) H)\/∃k,xs=[.bl k]/\Q (.int (if k then 1 else 0)) H):=by
 intro bq s σ H xs us Q I r h;obtain⟨i,rfl,q⟩|⟨k,rfl,q⟩:=h
 .obtain⟨u,rfl,t,rfl⟩:=vals1 r;exact call_int_int ⟨.int i,H,I,⟨_,rfl⟩,q⟩
 .obtain⟨u,rfl,d⟩:=vals1 r;cases d;exact call_int_bool ⟨.int (if k then 1 else 0),H,I.tok _,⟨_,rfl⟩,q⟩
def LR:fB X (.type "str") (λxs H Q=>∃i,xs=[.int i]/\i.natAbs.log2<1920/\Q (.str (toString i)) H):=by
 intro bq s σ H xs us Q I r h;obtain⟨i,rfl,d,q⟩:=h;obtain⟨u,rfl,t,rfl⟩:=vals1 r;exact PySem.P.str_of_int d ⟨.str _,H,I.tok _,⟨_,rfl⟩,q⟩
def aMJ(K:Fg)(x:V)(H:Hp)(n:Nat):Prop:=
 match x with
 |.str y=>y.length<=ba/\n=y.length
 |.byt y=>y.size<=ba/\n=y.size
 |.ref p=>(∃xs,SqL K H p xs/\n=xs.length)\/∃xs,SqT K H p xs/\n=xs.length
 |_=>False
def aDZ:fB X (.builtin "len") (λxs H Q=>∃x n,xs=[x]/\aMJ X.K x H n/\Q (.int n) H):=by
 intro bq s σ H xs us Q I r h;obtain⟨x,n,rfl,e,q⟩:=h;obtain⟨u,rfl,g⟩:=vals1 r;have m:=yK;have hs:ba=16777216:=E4;cases x with
 |str y=>
  obtain⟨t,rfl⟩:=g;obtain⟨k,f⟩:y.length<=ba/\n=y.length:=e;subst f;exact len_str (by omega) ⟨.int _,H,I.tok _,⟨_,rfl⟩,q⟩
 |byt y=>
  obtain⟨t,rfl⟩:=g;obtain⟨k,f⟩:y.size<=ba/\n=y.size:=e;subst f;exact W.len_bytes (by omega) ⟨.int _,H,I.tok _,⟨_,rfl⟩,q⟩
 |ref p=>
  cases g;have f:(∃xs,SqL X.K H p xs/\n=xs.length)\/∃xs,SqT X.K H p xs/\n=xs.length:=e;obtain⟨xs,i,f⟩|⟨xs,i,f⟩:=f
  .subst f;obtain⟨its,j,pl,l⟩:=I.list i;have d:=j.length;exact Calls.call_len_list pl.isList (by simp only[List.size_toArray];omega) ⟨.int xs.length,H,I.tok _,⟨_,by simp only[List.size_toArray];rw[d]⟩,q⟩
  .subst f;obtain⟨its,j,pl,l⟩:=I.tuple i;have d:=j.length;exact len_tuple pl (by simp only[List.size_toArray];omega) ⟨.int xs.length,H,I.tok _,⟨_,by simp only[List.size_toArray];rw[d]⟩,q⟩
 |_=>exact(show False from e).elim
end
structure aAY(h:Heap)(x dx C:Uc)(mA:Str->Tf):Prop where
 obj:h.get? x=Z (W.instObj C dx)
 ns:h.Ns1 dx mA
 ne:dx≠x
def aAH{h:Heap}(n:h.Ns1 dx mA):∃od,h.get? dx=Z od/\∀name,W.lookIn name od=Z (mA name):=by
 obtain⟨o,es,ep,c,hd,d,_,hm⟩:=n;refine⟨o,c,λname=>?_⟩;have e:=hm name;unfold nsFind findBy at e;rw[<- Array.find?_toList]at e;unfold W.lookIn;rw[hd];dsimp only;split
 .rename_i y q;rw[q]at e;exact U3 Z e
 .rename_i q;rw[q]at e
  have a:es.toList.any (·.refKey)=false:=by
   rw[List.any_eq_false];intro y f;obtain⟨z,t,b⟩:=d y<|Array.mem_toList_iff.mp f;simp[DictEntry.refKey,b]
  have g:¬es.toList.any (·.refKey)=true:=by grind
  rw[A5 g];exact U3 Z e
def aAY.look(I:aAY h x dx C mA):∃od,W.InstAt h x (W.instObj C dx) C (Z od)/\∀name,W.lookIn name od=Z (mA name):=
 let⟨od,a,b⟩:=aAH I.ns
 ⟨od,⟨I.obj,rfl,rfl,a⟩,b⟩
section
variable{prog:Ue}{w:World}{A:Uf}{E:T1}{s:Ub}{K:Fg}{x dx C f:Uc}{mA:Str->Tf}{name:Str}{v:Tz}
def get_map{Q:T1}(X:K.In s.heap)(I:aAY s.heap x dx C mA)(c:W.plainGet K C name=true)(d:W.hasDictIn K C=true)
 (ha:W.findIn K (.ref C) name=Z Y) (e:mA name=Z v) (b:W.handedIn v=true) (h:Q v { s with toks:=s.toks+1 }):
 bc (bb prog w) A (getAttr (.ref x) name a) Q E s:=by
 obtain⟨od,J,g⟩:=I.look;exact W.get_value X J (W.plainGet_of c).1 (W.findObj_own d ha rfl (by grind)) b h
def aGW{Q:Unit->Ub->Prop}(X:K.In s.heap)(I:aAY s.heap x dx C mA)
 (hs:W.findIn K (.ref C) "__setattr__"=Z (Z (.builtin "object.__setattr__"))) (j:W.plainOver K C=true) (ht:W.takerIn K C name=Z Y) (k:W.hasDictIn K C=true)
 (l:PySem.Within mA ns) (m:ns.length<=ba)
 (h:∀h',aAY h' x dx C (λy=>if y=name then Z v else mA y)->Heap.SameBut dx s.heap h'->Q () { s with heap:=h',toks:=s.toks+2 }):
 bc (bb prog w) A (setAttr (.ref x) name v) Q E s:=by
 obtain⟨od,J,r⟩:=I.look;refine W.set_plain X J hs (W.osa_open X J j ht λb=>?_);obtain⟨t,n,d⟩:=W.any_some k;have o:=I.obj;refine A0<|A6<|A0<|A0<|wpAny_loadPart o<|A0<|S1 (W.looks_clsIn X n) ?_;rw[d];refine A6<|A0<|A6<|A0 ?_;refine wpAny_nsSet1 I.ns λh' a c=>?_;obtain⟨u,p,q,e,g,i⟩:=a.count<|PySem.Within.cons name v l;refine A0<|wpAny_lookBehind e (by rw[g];exact pastItsLine_dict<|C6 i (by grind)) ?_;exact A6<|h _ ⟨(c.2 _<|J7 I.ne).trans I.obj,a,I.ne⟩ c
def aEJ{R:Result->Ub->Prop}{vs:T5}{a:Tt}(X:K.In s.heap)(hm:W.makesIn K C=true)
 (hi:W.findIn K (.ref C) "__init__"=Z (Z (.ref f))) (b:W.typeIn K (.ref f)=Z (.type "function"))
 (h:bj (bb prog w) (A.under (.builtin "type.__call__" ⟨.ref C::vs,a⟩)) (.call (.ref f) ⟨.ref (s.heap.objs.size+1)::vs,a⟩) (W.InitBack (s.heap.objs.size+1) R)
  { s with heap:=(s.heap.push W.emptyDict).push (W.instObj C s.heap.objs.size) }):
 bj (bb prog w) A (.call (.ref C) ⟨vs,a⟩) R s:=by
 obtain⟨c,g,d,t,os⟩:=s;exact W.make_core (W.makes_of X hm) (W.looks_findIn X hi) (λself=>W.bind_fn X self b) (.inl rfl) h
end
noncomputable def nQ(f:Str)(v:V):Tv (Str×V)->Tv (Str×V)
 |[]=>[(f,v)]
 |(g,x)::r=>if g=f then(g,v)::r else(g,x)::nQ f v r
theorem zK(f g:Str)(v:V):∀fs:Tv (Str×V),(nQ f v fs).lookup g=if g=f then Z v else fs.lookup g
 |[]=>by
  show List.lookup g [(f,v)]=_;by_cases h:g=f
  .have a:=beq_iff_eq.mpr h;simp only[List.lookup,a,if_pos h]
  .have a:=beq_eq_false_iff_ne.mpr h;simp only[List.lookup,a,if_neg h]
 |(k,x)::r=>by
  have ih:=zK f g v r;rw[show nQ f v ((k,x)::r)=(if k=f then(k,v)::r else(k,x)::nQ f v r)from rfl];by_cases b:k=f
  .rw[A4 b];by_cases h:g=k
   .have a:=beq_iff_eq.mpr h;simp only[List.lookup,a,if_pos<|h.trans b]
   .have a:=beq_eq_false_iff_ne.mpr h;simp only[List.lookup,a,if_neg (λe:g=f=>h<|e.trans b.symm)]
  .rw[A5 b];by_cases h:g=k
   .have a:=beq_iff_eq.mpr h;simp only[List.lookup,a,if_neg (λe:g=f=>b<|h.symm.trans e)]
   .have a:=beq_eq_false_iff_ne.mpr h;simp only[List.lookup,a];exact ih
theorem yA(f:Str)(v:V):∀fs:Tv (Str×V),f∈(nQ f v fs).map (·.1)/\∀g,g∈fs.map (·.1)->g∈(nQ f v fs).map (·.1)
 |[]=>⟨by simp[nQ],λg h=>by simp at h⟩
 |(k,x)::r=>by
  obtain⟨b,c⟩:=yA f v r;rw[show nQ f v ((k,x)::r)=(if k=f then(k,v)::r else(k,x)::nQ f v r)from rfl];by_cases a:k=f
  .rw[A4 a];subst a;exact⟨by simp,λg h=>by simpa using h⟩
  .rw[A5 a];refine⟨?_,λg h=>?_⟩
   .rw[B2];exact B1 _ b
   .rw[B2]at h ⊢;obtain e|e:=List.mem_cons.mp h
    .exact List.mem_cons.mpr (.inl e)
    .exact B1 _<|c g e
theorem zZ(f:Str)(v:V):∀fs:Tv (Str×V),(nQ f v fs).length<=fs.length+1
 |[]=>by simp[nQ]
 |(k,x)::r=>by
  have ih:=zZ f v r;rw[show nQ f v ((k,x)::r)=(if k=f then(k,v)::r else(k,x)::nQ f v r)from rfl];by_cases a:k=f
  .rw[A4 a,C0,C0];omega
  .rw[A5 a,C0,C0];omega
def zI.some_of{v:V}(r:zI (Z v) o):∃u,o=Z u/\RelV v u:=by
 cases o with
 |none=>exact r.elim
 |some u=>exact⟨u,rfl,r⟩
def aAV(r:RelV v u):W.handedIn u=true:=by
 cases v with
 |non=>cases r;rfl
 |bl b=>cases r;rfl
 |int i=>obtain⟨t,e⟩:=r;cases e;rfl
 |str x=>obtain⟨t,e⟩:=r;cases e;rfl
 |byt b=>obtain⟨t,e⟩:=r;cases e;rfl
 |flt b=>obtain⟨t,e⟩:=r;cases e;rfl
 |ref a=>cases r;rfl
 |ty n=>cases r;rfl
section
variable{P:Ue}{w:World}{H H':Hp}{h h':Heap}{a C dx:Uc}{fs fs':Tv (Str×V)}
def XH(hok:HOk P w H h)(e:H a=Z (.ins C dx fs)):∃mA,aAY h a dx C mA/\(∀f,zI (fs.lookup f)<|mA f)/\PySem.Within mA (fs.map (·.1))/\fs.length<=1000/\H dx=Z (.own a):=by
 obtain⟨d,z,ne,ob,mA,n,r,q⟩:=(hok a _ e);exact⟨mA,⟨ob,n,ne⟩,r,q,z,d⟩
end
structure Cls(K:Fg)(C:Uc):Prop where
 pg:W.plainGet K C Str.empty=true
 hd:W.hasDictIn K C=true
 po:W.plainOver K C=true
 sa:W.findIn K (.ref C) "__setattr__"=Z (Z (.builtin "object.__setattr__"))
def Cls.get(c:Cls K C)(f:Str):W.plainGet K C f=true:=c.pg
def gU(K:Fg)(C:Uc)(f:Str):Prop:=W.findIn K (.ref C) f=Z Y
def gU.taker(n:gU K C f):W.takerIn K C f=Z Y:=by
 unfold W.takerIn;rw[show W.findIn K (.ref C) f=Z Y from n];rfl
section
variable{X:Cx}{bq:T2}{σ:St}{H:Hp}{s:Ub}{a C dx:Uc}{fs:Tv (Str×V)}{f:Str}{v:V}{A:Uf}{E:T1}
def VD{Q:T1}(I:Inv X bq σ H s)(e:H a=Z (.ins C dx fs))(c:Cls X.K C)(n:gU X.K C f)(l:fs.lookup f=Z v)
 (h:∀u s',Inv X bq σ H s'->RelV v u->Q u s'):bc (bb X.prog X.w) A (getAttr (.ref a) f b) Q E s:=by
 obtain⟨mA,O,r,_,_,_⟩:=XH I.hok e;obtain⟨u,g,d⟩:=zI.some_of (by rw[<- l];exact r f);exact get_map I.kIn O (c.get f) c.hd n g (aAV d)<|h u _ (I.tok _) d
def UT{Q:Unit->Ub->Prop}(I:Inv X bq σ H s)(e:H a=Z (.ins C dx fs))(c:Cls X.K C)(n:gU X.K C f)(B:fs.length<1000)(k:RelV y u)
 (h:∀s',Inv X bq σ (upd H a (.ins C dx (nQ f y fs))) s'->Q () s'):bc (bb X.prog X.w) A (setAttr (.ref a) f u) Q E s:=by
 obtain⟨mA,O,r,i,_,j⟩:=XH I.hok e;have l:(fs.map (·.1)).length<=ba:=by rw[A1,E4];omega
 refine aGW I.kIn O c.sa c.po n.taker c.hd i l λh' d m=>h _ ?_;have hd:∃o,h'.get? dx=Z o:=let⟨o,_,_,p,_⟩:=d.ns;⟨o,p⟩;refine I.write (by rw[e];exact True.intro) (.inr j) (λb q t z=>(m.2 b t).trans z) hd ?_;refine⟨by rw[aK O.ne];exact j,?_,O.ne,d.obj,_,d.ns,λg=>?_,λg x=>?_⟩
 .have:=zZ f y fs;omega
 .show zI ((nQ f y fs).lookup g) (if g=f then Z u else mA g);rw[zK];by_cases q:g=f
  .rw[A4 q,A4 q];exact k
  .rw[A5 q,A5 q];exact r g
 .by_cases q:g=f
  .rw[q];exact(yA f y fs).1
  .refine(yA f y fs).2 g (i g λz=>x ?_);show(if g=f then Z u else mA g)=Y;rw[A5 q];exact z
def Inv.made(I:Inv X bq σ H s):Inv X bq σ (upd (upd H s.heap.objs.size (.own (s.heap.objs.size+1))) (s.heap.objs.size+1) (.ins C s.heap.objs.size []))
 { s with heap:=(s.heap.push W.emptyDict).push (W.instObj C s.heap.objs.size) }:=by
 have c:(s.heap.push W.emptyDict).get? s.heap.objs.size=Z W.emptyDict:=B3 s.heap rfl
 have d:((s.heap.push W.emptyDict).push (W.instObj C s.heap.objs.size)).get? (s.heap.objs.size+1)=Z (W.instObj C s.heap.objs.size):=by
  have:=B3 (s.heap.push W.emptyDict) (o:=W.instObj C s.heap.objs.size) rfl
  rwa [S5]at this
 have g:(s.heap.push W.emptyDict).Ns s.heap.objs.size (λ_=>Y):=⟨W.emptyDict,#[],_,c,rfl,(λe h=>absurd h (by simp)),λ_=>rfl⟩;have i:=I.laid (o:=.own (s.heap.objs.size+1)) (t':=s.toks) (λb u q=>A3 _ q) (A7 _) ⟨_,c⟩;refine i.laid (λb u q=>A3 _ q) (Nat.le_of_eq<|S5 _ _) ?_;have ne:s.heap.objs.size≠s.heap.objs.size+1:=B4<|F6 _;refine⟨by rw[aK ne,aS],E6 _,ne,d,λ_=>Y,(Heap.Ns1.of_empty g).at λo q=>A3 _ q,λ_=>True.intro,λy j=>absurd rfl j⟩
def aHF{f:Str}{pos:Pos}{s:Ub}(c:attributeBase e f env (eval e env)=eval e env)
 (h:bc (bb prog w) A (eval e env) (λo b=>bc (bb prog w) A (getAttr o f true) Q E b) E s):bc (bb prog w) A (eval (.Attribute e f pos) env) Q E s:=
 Attribute_any_ h (by rw[arm_eval_Attribute,c])
end
def aMx(K:Fg)(c:TE)(f:Str):TE:=λσ H Q=>c σ H λx b=>∃a C dx fs v,x=.ref a/\b a=Z (.ins C dx fs)/\Cls K C/\gU K C f/\fs.lookup f=Z v/\Q v b
def aFL(K:Fg)(c d:TE)(f:Str):TS:=λD σ H=>d σ H λy e=>c σ e λx b=>∃a C dx fs,x=.ref a/\b a=Z (.ins C dx fs)/\Cls K C/\gU K C f/\fs.length<1000 /\
 D.nx σ (upd b a (.ins C dx (nQ f y fs)))
section
variable{X:Cx}{o e value:Ud}{f:Str}{pos pos' tpos:Pos}{ta tv:TE}
def aKU(b:PE X e ta)(d:attributeBase e f X.env (eval e X.env)=eval e X.env):PE X (.Attribute e f pos) (aMx X.K ta f):=by
 intro bq s σ H Q I h;refine aHF d (thn (b bq s σ H _ I h) λu s1 g=>?_);obtain⟨x,i,j,k,a,C,dx,fs,v,ex,m,c,n,l,q⟩:=g;subst ex;obtain rfl:=k;exact VD j m c n l λt s2 p r=>⟨v,i,p,r,q⟩
def aBT(ha:PE X o ta)(b:PE X value tv)(hs:swapsWith value (Z (.Attribute o f pos')) pos.line X.env=pure false):PS X (.Assign [.Attribute o f pos'] value pos) (aFL X.K ta tv f):=by
 intro bq s σ H D I h;refine plainObj_wpAny_Assign_Attribute (thn (b bq s σ H _ I h) λu s1 ⟨y,d,g,i,q⟩=>thn (ha bq s1 σ d _ g q) λov s2 j=>?_) hs;obtain⟨x,v,k,m,a,C,dx,fs,ex,p,c,n,l,r⟩:=j;subst ex;obtain rfl:=m;exact UT k p c n l i λs3 t=>⟨σ,_,t,r⟩
end
structure cE(k:Nat)(A:Uf)(q:Bool:=true):Prop where
 hd:q=true->A.handled=Y
 dp:A.depth+3*k+5<recursionLimit
 un:A.units+16*k+200<cLine
 gd:A.guards=Z []
def cE.mono{j:Nat}(r:cE k A q)(h:j<=k):cE j A q:=⟨r.hd,by have:=r.dp;omega,by have:=r.un;omega,r.gd⟩
def cE.deeper{k:Nat}(r:cE (k+1) A q)(env:Env):cE k (A.deeper env) q:=
 ⟨r.hd,by have:=r.dp;show A.depth+1+3*k+5<_;omega,by have:=r.un;show A.units+3+16*k+200<_;omega,r.gd⟩
def VP{C:Uc}{us:T5}{a:Tt}:(A.under (.builtin "type.__call__" ⟨.ref C::us,a⟩)).depth=A.depth+1:=rfl
def VL{C:Uc}{us:T5}{a:Tt}:(A.under (.builtin "type.__call__" ⟨.ref C::us,a⟩)).units=A.units+1:=rfl
def PD{C:Uc}{us:T5}{a:Tt}:(A.under (.builtin "type.__call__" ⟨.ref C::us,a⟩)).guards=A.guards:=rfl
def cE.make{k:Nat}(r:cE (k+1) A q)(C:Uc)(us:T5)(a:Tt):cE k (A.under (.builtin "type.__call__" ⟨.ref C::us,a⟩)) q:=
 ⟨r.hd,by have:=r.dp;rw[VP];omega,by have:=r.un;rw[VL];omega,by rw[PD];exact r.gd⟩
def cE.depth(r:cE k A q):A.depth<recursionLimit:=by have:=r.dp;omega
def cE.units(r:cE k A q):A.units+64<cLine:=by have:=r.un;omega
noncomputable def aAa:TA:=λ_ H Q=>Q [] H
noncomputable def wO(a:TE)(tr:TA):TA:=λσ H Q=>a σ H λx b=>tr σ b λxs c=>Q (x::xs) c
section
variable{X:Cx}{e:Ud}{es:T8}{te:TE}{t:TA}{pos:Pos}
def EC:PA X [] aAa:=λ_ _ _ _ H Q I h=>Calls.spliced_nil ⟨[],H,I,.nil,h⟩
def lW(ha:PE X e te)(a:PA X es t)(hs:bf (e::es) X.env=(false,eval e X.env)::bf es X.env:=by rfl):PA X (e::es) (wO te t):=by
 intro pos bq s σ H Q I h;rw[hs];refine Z4 (thn (ha bq s σ H _ I h) λu s1 ⟨x,b,c,d,f⟩=>?_);exact thn (a pos bq s1 σ b _ c f) λus s2 ⟨xs,g,i,j,k⟩=>⟨x::xs,g,i,.cons d j,k⟩
def aDq(t:TA):TE:=λσ H Q=>t σ H λxs a=>xs.length<=ba/\∀p,a p=Y->Q (.ref p) (upd a p (.tup xs))
def aFz(t:TA):TE:=λσ H Q=>t σ H λxs a=>xs.length<=ba/\∀p,a p=Y->Q (.ref p) (upd a p (.lst xs))
def JP{x1}(h:PA X es t):PE X (.Tuple es x1 pos) (aDq t):=by
 intro bq s σ H Q I c;refine wpAny_Tuple_spliced (thn (h pos bq s σ H _ I c) λus s1 ⟨xs,d,a,r,z,q⟩=>⟨by rw[<- r.length];exact z,?_⟩);have f:=a.hok.fresh<|A7 _;refine⟨.ref s1.heap.objs.size,upd d s1.heap.objs.size (.tup xs),a.laid (λb u e=>A3 _ e) (A7 _) ?_,rfl,q _ f⟩;exact⟨z,us,r,⟨_,B3 _ rfl,rfl,_,rfl⟩⟩
def VN(h:PA X es t):PE X (.List es pos) (aFz t):=by
 intro bq s σ H Q I c;refine wpAny_List_spliced (thn (h pos bq s σ H _ I c) λus s1 ⟨xs,d,a,r,z,q⟩=>⟨by rw[<- r.length];exact z,?_⟩);have f:=a.hok.fresh<|A7 _;refine⟨.ref s1.heap.objs.size,upd d s1.heap.objs.size (.lst xs),a.laid (λb u e=>A3 _ e) (A7 _) ?_,rfl,q _ f⟩;exact⟨z,us,0,r,B3 _ rfl⟩
end
abbrev Sp:=Tc->Hp->VK->XK->Prop
abbrev CXT:=List Env->Hp->Shared->XK->Value->Shared->Prop
structure TC(P:Ue)(w:World)(K:Fg)(mg:Str->Tf)(base:Heap)(A:Uf)(outer:Tv Env)(s:Ub)(H:Hp):Prop where
 frames:A.frames=Z outer
 mod:Mod K mg base
 bs:∀b o,base.get? b=Z o->s.heap.get? b=Z o/\H b=Y
 bsz:base.objs.size<=s.heap.objs.size
 funs:s.heap.FunFrames base outer
 frf:∀b∈frs outer,H b=Y
 hok:HOk P w H s.heap
 bare:AllBare s.gens
def CE(outer:Tv Env)(P:Ue)(w:World)(H:Hp)(s:Ub)(Q:VK)(u:Tz)(s':Ub):Prop:=
 ∃v H',s'.os=s.os/\AllBare s'.gens/\Un (frs outer) [] H H' s.heap s'.heap/\HOk P w H' s'.heap/\RelV v u/\Q v H'
def CR(CX:CXT)(outer:Tv Env)(P:Ue)(w:World)(H:Hp)(s:Ub)(Q:VK)(E:XK)(r:Result)(s':Ub):Prop:=
 match r with
 |.ok (.ret u)=>CE outer P w H s Q u s'
 |.ok _=>False
 |.error e=>CX outer H s E e s'
structure jH(P:Ue)(w:World)(K:Fg)(mg:Str->Tf)(base:Heap)(CX:CXT)(k:Nat)(f:Uc)(fd:FuncData)(ps:Tb)(sp:Sp)(q:Bool:=true):Prop where
 len:∀vs H Q E,sp vs H Q E->vs.length=ps.length
 run:∀(A:Uf)(outer:Tv Env)(s:Ub)(H:Hp)(args:Args)(us:T5)(vs:Tc)(Q:VK)(E:XK),cE k A q->TC P w K mg base A outer s H->BindsTo s fd args (ps.zip us)->bA vs us->sp vs H Q E->
  bj (bb P w) A (.call (.ref f) args) (CR CX outer P w H s Q E) s
def TC.make{P:Ue}(e:TC P w K mg base A outer s H)(C:Uc)(us:T5)(a:Tt):
 TC P w K mg base (A.under (.builtin "type.__call__" ⟨.ref C::us,a⟩)) outer s H:=⟨by first|exact e.frames|(simpa[Around.under,Code.envs,Code.isFrame,pushEnvs]using e.frames),e.mod,e.bs,e.bsz,e.funs,e.frf,e.hok,e.bare⟩
section
variable{X:Cx}{bq:T2}{σ:St}{H:Hp}{s s':Ub}
def Inv.env0(I:Inv X bq σ H s):TC X.prog X.w X.K X.mg X.base X.A X.stack s H:=
 ⟨I.ok.frames,I.ok.mod,I.bs,C6 I.ok.bsz I.sz,I.stack,I.stkFree,I.hok,I.bare⟩
def Inv.after(I:Inv X bq σ H s)(h:CE X.stack X.prog X.w H s Q u s'):EP X bq σ Q u s':=by
 obtain⟨v,H',os,bare,un,hok,r,q⟩:=h;obtain⟨c,g,d,t,a⟩:=s';obtain rfl:=os;exact⟨v,H',I.call un hok bare (λb z=>absurd z (by simp)),r,q⟩
end
noncomputable def aCn(sp:Sp)(a:Tc)(E:XK)(t:TA):TE:=λσ H Q=>t σ H λvs b=>sp (vs++a) b Q E
def aNt(C:Uc)(sp:Sp)(a:Tc)(E:XK)(t:TA):TE:=λσ H Q=>t σ H λvs b=>∀x dx,b x=Y->b dx=Y->dx≠x->
 sp (.ref x::(vs++a)) (upd (upd b dx (.own x)) x (.ins C dx [])) (λv c=>v=.non/\Q (.ref x) c) E
def Binds(K:Fg)(fd:FuncData)(ps:Tb)(ds:T5):Prop:=
 ∀(s:Ub)(us:T5),K.In s.heap->(us++ds).length=ps.length->BindsTo s fd ⟨us,[]⟩ (ps.zip (us++ds))
def Binds.all{ps:Tb}(h:∀us:T5,us.length=ps.length->bindArgs fd ⟨us,[]⟩=pure (ps.zip us)):Binds K fd ps []:=λs us _ a=>by
 rw[D8]at a ⊢;exact .of_eq (h us a)
def UF(CX:CXT)(X:Cx)(E:XK):Prop:=∀(bq:T2)(σ:St)(H:Hp)(s:Ub)(e:Tz)(s':Ub),Inv X bq σ H s->CX X.stack H s E e s'->X.xe e s'
section
variable{X:Cx}{CX:CXT}{k:Nat}{f C:Uc}{fd:FuncData}{ps:Tb}{sp:Sp}{dvs:Tc}{ds:T5}{E:XK}{x m:Str}{p pos apos:Pos}{e o:Ud}{es:T8}{ta:TE}{t:TA}
def aFj{σ:St}{H:Hp}{s:Ub}{vs:Tc}(F:jH X.prog X.w X.K X.mg X.base CX k f fd ps sp q)(c:cE k X.A q)(d:Binds X.K fd ps ds)(hd:bA dvs ds)(g:UF CX X E)
 (I:Inv X bq σ H s) (r:bA vs us) (h:sp (vs++dvs) H Q E):bc (bb X.prog X.w) X.A (call (.ref f) us) (EP X bq σ Q) X.xe s:=by
 have b:=r.append hd;have i:(us++ds).length=ps.length:=by rw[<- b.length];exact F.len _ _ _ _ h
 refine wpAny_call (A0n (F.run X.A X.stack s H ⟨us,[]⟩ (us++ds) (vs++dvs) Q E c I.env0 (d s us I.kIn i) b h) λr s' a=>?_);cases r with
 |error e=>exact g bq σ H s e s' I a
 |ok j=>
  cases j with
  |ret u=>exact I.after a
  |next=>exact False.elim a
  |brk=>exact False.elim a
  |cont=>exact False.elim a
def aGe{q:Bool}(F:jH X.prog X.w X.K X.mg X.base CX k f fd ps sp q)(d:cE k X.A q)(g:Gl X x)(hm:X.mg x=Z (.ref f))(i:W.keepIn X.K (.ref f)=true)(j:Binds X.K fd ps ds)(hd:bA dvs ds)(l:UF CX X E)
 (ha:PA X (e::es) t) (a:(x==("__debug__":Str))=false:=by decide) (n:bf (e::es) X.env=(false,eval e X.env)::bf es X.env:=by rfl) (b:(backTo pos<|bf es X.env).any (·.1)=false:=by rfl):
 PE X (.Call (.Name x p) (e::es) [] pos) (aCn sp dvs E t):=by
 intro bq s σ H Q I h;refine L4<|mM I g hm ?_ a;refine U7 I.ok.mod.kin i (thn (ha pos bq s σ H _ I h) λus s1 ⟨vs,u,c,r,q⟩=>⟨c.kIn,?_⟩) n b;exact aFj F d j hd l c r q
structure Mk(K:Fg)(C f:Uc):Prop where
 makes:W.makesIn K C=true
 init:W.findIn K (.ref C) "__init__"=Z (Z (.ref f))
 fn:W.isFn K (.ref f)=true
 kp:W.keepIn K (.ref C)=true
def NN{σ:St}{H:Hp}{s:Ub}{Q:VK}(M:Mk X.K C f)(F:jH X.prog X.w X.K X.mg X.base CX k f fd ps sp)(g:cE (k+1) X.A)(i:Binds X.K fd ps ds)(hd:bA dvs ds)
 (j:∀H s e s',Inv X bq σ H s->CX X.stack H s E e s'->X.xe e s') (I:Inv X bq σ H s) (r:bA vs us)
 (h:∀x dx,H x=Y->H dx=Y->dx≠x->sp (.ref x::(vs++dvs)) (upd (upd H dx (.own x)) x (.ins C dx [])) (λv l=>v=.non/\Q (.ref x) l) E):
 bc (bb X.prog X.w) X.A (call (.ref C) us) (EP X bq σ Q) X.xe s:=by
 have c:=h (s.heap.objs.size+1) s.heap.objs.size (I.hok.fresh<|Z8 _) (I.hok.fresh<|A7 _)<|B4<|F6 _;have b:=Inv.made (C:=C) I;have d:bA (V.ref (s.heap.objs.size+1)::(vs++dvs)) (Value.ref (s.heap.objs.size+1)::(us++ds)):=.cons rfl (r.append hd)
 have n:(Value.ref (s.heap.objs.size+1)::us++ds).length=ps.length:=by
  have e:=d.length;rw[F.len _ _ _ _ c]at e;exact e.symm
 refine wpAny_call (aEJ I.kIn M.makes M.init (beq_iff_eq.mp M.fn) (A0n (F.run _ X.stack _ _ ⟨Value.ref (s.heap.objs.size+1)::us,[]⟩ (Value.ref (s.heap.objs.size+1)::(us++ds)) _ _ E (g.make C us [])
  (b.env0.make C us []) (i _ (Value.ref (s.heap.objs.size+1)::us) b.kIn n) d c) λr s' a=>?_))
 cases r with
 |error e=>exact j _ _ e s' b a
 |ok q=>
  cases q with
  |ret u=>
   obtain⟨v,H',y,z,ev,B⟩:=b.after a;subst ev;exact⟨z,⟨V.ref (s.heap.objs.size+1),H',y,rfl,B⟩⟩
  |next=>exact False.elim a
  |brk=>exact False.elim a
  |cont=>exact False.elim a
end
structure aU(N P:Tb)(sc:Scope):Prop where
 kind:sc.kind=.function
 co:sc.isCoroutine=false
 gen:sc.isGenerator=false
 nd:N.Nodup
 pre:N.take P.length=P
 par:∀x∈P,sc.names.lookup x=Z .local\/sc.names.lookup x=Z .cell
 nofree:∀y∈sc.names,y.2≠.free
theorem IE{kindOf:Tq}{x:Str}:∀{binds:Tt}{m:Str->Tf},(∀v,(x,v)∉binds)->bindL kindOf binds m x=m x
 |[],_=>λ_=>rfl
 |(n,v)::r,m=>λh=>by
  unfold bindL;rw[IE λw a=>h w<|B1 _ a];split
  .have:x≠n:=by grind
   simp[this]
  .rfl
theorem JA{kindOf:Tq}{x:Str}:∀{binds:Tt}{m:Str->Tf},(∀v,(x,v)∉binds)->bindC kindOf binds m x=m x
 |[],_=>λ_=>rfl
 |(n,v)::r,m=>λh=>by
  unfold bindC;rw[JA λw a=>h w<|B1 _ a];split
  .rfl
  .have:x≠n:=by grind
   simp[this]
theorem HF{kindOf:Tq}{x:Str}{v:Tz}:∀{P:Tb}{vs:T5}{i:Nat}{m:Str->Tf},P.Nodup->P[i]?=Z x->vs[i]?=Z v->kindOf x=Z .local->
 bindL kindOf (P.zip vs) m x=Z v
 |[],_,_,_=>λ_ h _ _=>by simp at h
 |_::_,[],_,_=>λ_ _ h _=>by simp at h
 |p::P,w::vs,0,m=>λnd a b c=>by
  simp at a b;subst a;subst b;show bindL kindOf ((p,w)::P.zip vs) m p=_;unfold bindL;rw[IE λv d=>(List.nodup_cons.mp nd).1 (List.of_mem_zip d).1,A4 c];simp
 |p::P,w::vs,i+1,m=>λnd a b c=>by
  unfold bindL;exact HF (List.nodup_cons.mp nd).2 (by assumption) (by grind) c
theorem IZ{kindOf:Tq}{x:Str}{v:Tz}:∀{P:Tb}{vs:T5}{i:Nat}{m:Str->Tf},P.Nodup->P[i]?=Z x->vs[i]?=Z v->kindOf x≠Z .local->
 bindC kindOf (P.zip vs) m x=Z v
 |[],_,_,_=>λ_ h _ _=>by simp at h
 |_::_,[],_,_=>λ_ _ h _=>by simp at h
 |p::P,w::vs,0,m=>λnd a b c=>by
  simp at a b;subst a;subst b;show bindC kindOf ((p,w)::P.zip vs) m p=_;unfold bindC;rw[JA λv d=>(List.nodup_cons.mp nd).1 (List.of_mem_zip d).1,A5 c];simp
 |p::P,w::vs,i+1,m=>λnd a b c=>by
  unfold bindC;exact IZ (List.nodup_cons.mp nd).2 (by assumption) (by grind) c
def start(N:Tb)(vs:Tc):St:=vs.map Z++List.replicate (N.length-vs.length) Y
noncomputable def mZ(CX:CXT)(P:Ue)(w:World)(K:Fg)(mg:Str->Tf)(base:Heap)(N:Tb)(qual:Str)(scope:Scope)(f:Uc)(cd:Tz)(A:Uf)(outer:Tv Env)(s:Ub)(H:Hp)(E:XK)(q:Bool:=true):Cx where
 prog:=P
 w:=w
 K:=K
 mg:=mg
 base:=base
 A:=A.deeper<|envOfC qual scope s.heap.objs.size f cd
 N:=N
 s₀:=s
 H₀:=H
 env:=envOfC qual scope s.heap.objs.size f cd
 outer:=outer
 stack:=envOfC qual scope s.heap.objs.size f cd::outer
 ex:=[]
 calm:=q
 fn:=λ_=>true
 pn:=[]
 xe:=λe s'=>bc (bb P w) (A.deeper<|envOfC qual scope s.heap.objs.size f cd) (leaving (envOfC qual scope s.heap.objs.size f cd) e) (λ_ s''=>CX outer H s E e s'') (λe' s''=>CX outer H s E e' s'') s'
def OK{sc:Scope}(h:sc.names.lookup x=Z .cell):∃c,(cellsFrom n sc.names []).lookup x=Z c:=by
 have q:=W.cellsFrom_some sc.names n [] (.inl h);exact Option.isSome_iff_exists.mp q
def aAj{P:Ue}{K:Fg}{A:Uf}{s s1:Ub}{H:Hp}{vs:Tc}{q:Bool}
 (S:aU N ps scope) (hd:q=true->A.handled=Y) (g:TC P w K mg base A outer s H) (F:vs.length=ps.length) (r:bA vs us)
 (x:InCallC s s.heap.objs.size (bindL (envOfC qual scope s.heap.objs.size f n).kindOf (ps.zip us) λ_=>Y) (cellsFrom (s.heap.objs.size+1) scope.names []) (bindC (envOfC qual scope s.heap.objs.size f n).kindOf (ps.zip us) λ_=>Y) s1):
 Inv (mZ CX P w K mg base N qual scope f n A outer s H E q) [] (start N vs) H s1:=by
 have C:ps.length<=N.length:=by have:=U3 List.length S.pre;rw[List.length_take]at this;omega
 obtain⟨o,tk,rfl,t⟩:=x.done;have j:∀b:Uc,b∉(mZ CX P w K mg base N qual scope f n A outer s H E q).ex:=λb z=>absurd (show b∈([]:Ta)from z) (by simp)
 refine⟨⟨g.mod,S.kind,rfl,rfl,A7 _,λy z c o d=>?_,λy hy=>?_,λy c _ h=>?_,hd,Around.frames_deeper g.frames,.inr ⟨rfl,rfl⟩,λb z=>absurd z<|j b,g.bs,g.bsz,λb _ _=>j b,λb z=>absurd z<|j b,g.funs,g.frf⟩,
  rfl,g.bare,Un.kept t,⟨_,x.toInCall.ns,λi y v o d G=>?_⟩,λy c h=>⟨_,x.cell y c h⟩,g.hok.fresh (A7 _),λy c h=>?_,λp l=>absurd (show p∈([]:T2)from l) (by simp),g.hok.kept t,?_⟩
 .exact name_of_addr x.apart (J8 o)<|J8 d
 .have hy:=hy;obtain hy|hy:=hy
  .exact OK hy
  .exact absurd rfl<|S.nofree _<|J8 hy
 .exact U6<|x.above y c<|J8 h
 .have hi:i<vs.length:=by
   unfold start at d;by_cases hi:i<vs.length
   .exact hi
   .rw[D7 (by grind)]at d;rw[List.getElem?_replicate]at d;split at d<;>cases d
  have ha:vs[i]?=Z v:=by
   unfold start at d;rw[J0 (by grind),D3]at d;cases e:vs[i]? with
   |none=>rw[e]at d;cases d
   |some a=>rw[e]at d;cases d;rfl
  obtain⟨u,B,D⟩:=r.get ha
  have l:ps[i]?=Z y:=by
   rw[<- S.pre,List.getElem?_take_of_lt (by omega)];exact o
  have m:ps.Nodup:=by rw[<- S.pre];exact S.nd.sublist<|List.take_sublist _ _
  refine⟨u,D,?_⟩;obtain k|k:=S.par y (S6 l)
  .exact .inl ⟨k,HF m l B k⟩
  .obtain⟨c,e⟩:=OK k;refine .inr ⟨.inl k,c,e,?_⟩;have q:=x.cell y c e;rw[IZ m l B (by show scope.names.lookup y≠_;rw[k];decide)]at q;exact q
 .exact g.hok.fresh<|U6<|x.above y c<|J8 h
 .unfold start;show _=N.length;rw[B9,A1,List.length_replicate];omega
def aIj{P:Ue}{K:Fg}{kV doc oc:Tz}{od:Th}
 {osl:Array (Tf)} {sp:Sp} {q:Bool} (D:K.lookup f=Z ⟨oc,od,.func (W.fnOf name qual a c scope C kV doc pm an cdv ct),osl⟩) (m:W.codeIn K cdv qual=true) (S:aU N ps scope)
 (len:∀vs H Q E,sp vs H Q E->vs.length=ps.length)
 (g:∀(A:Uf)(outer:Tv Env)(s:Ub)(H:Hp)(vs:Tc)(Q:VK)(E:XK),cE k (A.deeper<|envOfC qual scope s.heap.objs.size f cdv) q->sp vs H Q E->
  ∃t,PSs (mZ CX P w K mg base N qual scope f cdv A outer s H E q) c t/\t { nx:=λ_ H'=>Q .non H',rt:=Q } (start N vs) H):
 jH P w K mg base CX (k+1) f (W.fnOf name qual a c scope C kV doc pm an cdv ct) ps sp q:=by
 refine⟨len,λA outer s H args us vs Q E p i F r j=>?_⟩;have G:=len _ _ _ _ j;have KX:=i.mod.kin.keeps λb o e=>(i.bs b o e).1;have z:=i.mod.nolimit.keeps λb o e=>(i.bs b o e).1
 have h:∀y∈ps.zip us,scope.names.lookup y.1=Z .local\/(scope.names.lookup y.1=Z .cell/\((cellsFrom (s.heap.objs.size+1) scope.names []).lookup y.1).isSome=true):=λ⟨n,v⟩ L=>by
  obtain q|q:=S.par n (List.of_mem_zip L).1
  .exact .inl q
  .exact .inr ⟨q,W.cellsFrom_some _ _ _ (.inl q)⟩
 refine codeAny_call_function p.depth (KX _ _ D) rfl S.co S.gen rfl (W.codeRec_of KX m)<|F _ _ _ _ ?_;refine wpAny_newFunctionEnv_cells S.kind h λenv M s1 x=>?_;subst M;refine⟨z.keeps x.toInCall.keep,codeAny_func ?_⟩;obtain⟨t,ht,O⟩:=g A outer s H vs Q E (p.deeper _) j;have I:Inv (mZ CX P w K mg base N qual scope f cdv A outer s H E q) [] (start N vs) H s1:=aAj S p.hd i G r x;refine E3 (ht [] s1 (start N vs) H _ I O) (λR s' hs=>?_) λe s' hs=>hs
 have l:∀{d:St}{H':Hp}{v:V}{u:Tz},Inv (mZ CX P w K mg base N qual scope f cdv A outer s H E q) [] d H' s'->RelV v u->Q v H'->CE outer P w H s Q u s':=
  λ{d H' v u} J B q=>⟨v,H',J.os,J.bare,J.base,J.hok,B,q⟩
 cases R with
 |ret u=>
  obtain⟨v,d,H',J,B,q⟩:=hs;exact l J B q
 |next=>
  obtain⟨d,H',J,q⟩:=hs;exact l (v:=V.non) J rfl q
 |brk=>
  obtain⟨_,_,_,q⟩:=hs;exact False.elim q
 |cont=>
  obtain⟨_,_,_,q⟩:=hs;exact False.elim q
section
variable{X:Cx}{x:Str}{p pos:Pos}{e:Ud}{es:T8}{t:TA}{id T:String}{r:Tc->Hp->VK->Prop}
noncomputable def tCB(r:Tc->Hp->VK->Prop)(t:TA):TE:=λσ H Q=>t σ H λvs a=>r vs a Q
def FL(c:fB X (.builtin id) r)(d:Gl X x)(hm:X.mg x=Y)(f:bootBuiltins x=Z (.builtin id))(ha:PA X (e::es) t)(hn:x≠"__name__":=by decide)(a:(x==("__debug__":Str))=false:=by decide)
 (g:bf (e::es) X.env=(false,eval e X.env)::bf es X.env:=by rfl) (b:(backTo pos<|bf es X.env).any (·.1)=false:=by rfl):PE X (.Call (.Name x p) (e::es) [] pos) (tCB r t):=by
 intro bq s σ H Q I h;refine L4<|nI I d hm f ?_ hn a;exact PyProof.Rows.callWith_builtin1 (thn (ha pos bq s σ H _ I h) λus s1 ⟨vs,i,j,k,l⟩=>c bq s1 σ i vs us Q j k l) g b
def aAJ(c:fB X (.type T) r)(d:Gl X x)(hm:X.mg x=Y)(f:bootBuiltins x=Z (.type T))(ha:PA X (e::es) t)(hn:x≠"__name__":=by decide)(a:(x==("__debug__":Str))=false:=by decide)
 (g:bf (e::es) X.env=(false,eval e X.env)::bf es X.env:=by rfl) (b:(backTo pos<|bf es X.env).any (·.1)=false:=by rfl):PE X (.Call (.Name x p) (e::es) [] pos) (tCB r t):=by
 intro bq s σ H Q I h;refine L4<|nI I d hm f ?_ hn a;exact O0 (thn (ha pos bq s σ H _ I h) λus s1 ⟨vs,i,j,k,l⟩=>c bq s1 σ i vs us Q j k l) g b
end
end L2
namespace HT
open PySem PyProof.Rows
noncomputable def lexLt:T7->T7->Bool
 |[],[]=>false
 |[],_::_=>true
 |_::_,[]=>false
 |x::xs,y::a=>if x=y then lexLt xs a else decide (x<y)
def lexLt_cons(x y:Int)(xs ys:T7):lexLt (x::xs) (y::ys)=if x=y then lexLt xs ys else decide (x<y):=rfl
def lexLt_nil_nil:lexLt [] []=false:=rfl
def lexLt_nil_cons(y:Int)(ys:T7):lexLt [] (y::ys)=true:=rfl
def lexLt_cons_nil(x:Int)(xs:T7):lexLt (x::xs) []=false:=rfl
def aDm(A:Uf)(s:Ub)(a:Int)(t:Tok)(c:Int)(u:Tok):∃e,SeqAt.EqAt A s (.int a t) (.int c u) e/\(e=true↔a=c):=
 ⟨(a==c),SeqAt.EqAt.int_int a t c u,by simp⟩
def aBj(A:Uf)(s:Ub)(a:Int)(t:Tok)(c:Int)(u:Tok)(prog:Ue)(w:World)(E:T1)(Q:T1)(h:Q (.bool (decide (a<c))) s):
 bc (bb prog w) A (richCompare .Lt (.int a t) (.int c u)) Q E s:=
 (PyProof.Rows.lt_int h:bc (bb prog w) A (bi .Lt (.int a t) (.int c u)) Q E s)
section
open PySem.SeqAt
open PySem.AutoSeq1 (wpAny_loadPart')
open PySem.MeetsSeq PySem.MeetsSeq2 PySem.MeetsSeq3
def GP(l b:Uc)(items f:Ti)(n M:Nat)(dd G:Th)(sl H:Array (Tf))(ns ms:T7)(hi:IntsAre items.toList ns)(K:IntsAre f.toList ms):
 Meets (Builtin.«tuple.__lt__» ⟨[.ref l,.ref b],[]⟩)
  (λ_ R s=>s.heap.get? l=Z { cls:=.type "tuple",dict:=dd,data:=.seq items n,slots:=sl }/\s.heap.get? b=Z { cls:=.type "tuple",dict:=G,data:=.seq f M,slots:=H } /\
   R (.ok (.ret (.bool (lexLt ns ms)))) s):=
 .of_wp λprog w A R s h=>by
  obtain⟨E,g,d,tk,os⟩:=s;obtain⟨N,O,h⟩:=h;have f2:=AutoSeq1.sub_tuple_tuple;have U:items.size=ns.length:=by rw[<- hi.length];simp
  have V:f.size=ms.length:=by rw[<- K.length];simp
  wp_walk using O3 N,O3 O,wpAny_forIn_list _ (λrest b s'=>b.1=Y/\s'=⟨E,g,d,tk,os⟩/\∃(vs F:T5)(j k:T7),rest=vs.zip F /\
   IntsAre vs j/\IntsAre F k/\j.length+f.size=k.length+items.size/\R (.ok (.ret (.bool (lexLt j k)))) ⟨E,g,d,tk,os⟩) _
  case turn=>
   rintro⟨y,x⟩ rest b s' ⟨B,rfl,vs,F,j,k,r,v,m,i,o⟩;cases v with
   |nil=>rw[List.zip_nil_left]at r;cases r
   |cons a t C=>
    cases m with
    |nil=>rw[List.zip_nil_right]at r;cases r
    |cons c u D=>
     injection r with I z
     injection I with P Q
     subst P Q;rw[lexLt_cons]at o;simp only[List.length_cons]at i;obtain⟨e,S,p⟩:=aDm A.in1 ⟨E,g,d,tk,os⟩ a t c u;refine A0<|S prog w _ _ ?_;cases e with
     |true=>
      rw[A4 (p.mp rfl)]at o
      wp_walk
      exact⟨rfl,rfl,_,_,_,_,z,C,D,by omega,o⟩
     |false=>
      rw[A5 λq=>absurd (p.mpr q) A8]at o;have J:=aBj A.in1 ⟨E,g,d,tk,os⟩ a t c u prog w
      wp_walk using J
      exact⟨_,rfl,by simpa using o⟩
  case fin=>
   rintro⟨W,X⟩ s' ⟨B,rfl,vs,F,j,k,r,v,m,i,o⟩;subst B
   have L:lexLt j k=decide (items.size<f.size):=by
    cases v with
    |nil=>
     cases m with
     |nil=>
      exact(C9 (by omega)).symm
     |cons c u T=>
      simp only[List.length_nil,List.length_cons]at i;exact(C7 (by omega)).symm
    |cons a t L=>
     cases m with
     |nil=>
      simp only[List.length_nil,List.length_cons]at i;exact(C9 (by omega)).symm
     |cons c u T=>
      cases r
   rw[L]at o
   wp_walk
   exact⟨_,rfl,by simpa[Builtin.Tuple.tupleCompareSizes]using o⟩
  case h=>
   exact⟨rfl,rfl,items.toList,f.toList,ns,ms,rfl,hi,K,by omega,h⟩
end
section
variable{prog:Ue}{w:World}{A:Uf}{E:T1}{s:Ub}
def lt_tupInts{Q:T1}(k:IsTup s.heap l items)(m:IsTup s.heap b a)(hi:IntsAre items.toList ns)(o:IntsAre a.toList ms)
 (p:A.units<cLine) (h:Q (.bool (lexLt ns ms)) s):bc (bb prog w) A (bi .Lt (.ref l) (.ref b)) Q E s:=by
 obtain⟨⟨cls,q,data,sl⟩,i,r,n,hd⟩:=id k;obtain⟨⟨j,d,data2,e⟩,c,f,t,g⟩:=id m;subst r hd f g
 exact richCompare_meets_room (op:=.Lt) ⟨_,i,rfl⟩ ⟨_,c,rfl⟩ F.slot_tuple_lt F.entry_tuple_lt (F.args_tuple_lt_2 _ _) (GP l b items a n t q d sl e ns ms hi o)
  ⟨i,c,show Value.bool (lexLt ns ms)≠Value.notImplemented/\Q (.bool (lexLt ns ms)) s from⟨(λx=>nomatch x),h⟩⟩ p
def cat_tup{vs ws:T5}{Q:T1}(ht:IsTup s.heap t vs.toArray)(m:IsTup s.heap b ws.toArray)(u:vs≠[])
 (o:ws=[]->Q (.ref t) s) (p:ws≠[]->Q (.ref s.heap.objs.size) { s with heap:=s.heap.push { cls:=.type "tuple",data:=.seq (vs++ws).toArray } })
 (q:vs.length+ws.length<=ba):bc (bb prog w) A (binaryOp .Add (.ref t) (.ref b)) Q E s:=by
 obtain⟨⟨cls,j,data,sl⟩,f,r,n,hd⟩:=id ht;obtain⟨⟨k,c,data2,d⟩,a,g,l,h⟩:=id m;subst r hd g h;have e:vs.toArray++ws.toArray=(vs++ws).toArray:=by simp
 by_cases i:ws=[]
 .exact concat_meets ⟨_,f,rfl⟩ ⟨_,a,rfl⟩ noFill_tuple_add seq_tuple_add F.slot_tuple_add F.entry_tuple_add (F.args_tuple_add_2 _ _)
   (tuple_addW1 t b vs.toArray ws.toArray n l j c sl d (by grind) (by simp[i])) ⟨f,a,o i⟩
 .refine concat_meets ⟨_,f,rfl⟩ ⟨_,a,rfl⟩ noFill_tuple_add seq_tuple_add F.slot_tuple_add F.entry_tuple_add (F.args_tuple_add_2 _ _)
   (tuple_addW2 t b vs.toArray ws.toArray n l j c sl d (by grind) (by grind) (by omega)) ⟨f,a,?_⟩
  rw[e];exact p i
def sIx(n d:Nat):Tk->Nat
 |none=>d
 |some v=>if v<0 then(v+(n:Int)).toNat else min v.toNat n
def sIx_le(n d:Nat)(hd:d<=n)(o:Tk):sIx n d o<=n:=by
 cases o with
 |none=>exact hd
 |some v=>
  show(if v<0 then(v+(n:Int)).toNat else min v.toNat n)<=n;by_cases a:v<0
  .rw[A4 a];omega
  .rw[A5 a];exact Nat.min_le_right _ _
def WG(v:Int)(n d:Nat):(if v<0 then max (v+(n:Int)) 0 else min v (n:Int))=((sIx n d (Z v):Nat):Int):=by
 show(if v<0 then max (v+(n:Int)) 0 else min v (n:Int))=(((if v<0 then(v+(n:Int)).toNat else min v.toNat n):Nat):Int);by_cases a:v<0
 .simp only[if_pos a];omega
 .simp only[if_neg a];omega
def TB(lo hi:Tk)(n:Nat):Builtin.Slice.sliceAdjust lo hi 1 (n:Int)=(((sIx n 0 lo:Nat):Int),((sIx n n hi:Nat):Int)):=by
 have a:¬((1:Int)<0):=by omega
 unfold Builtin.Slice.sliceAdjust;refine Prod.ext ?_ ?_
 .cases lo with
  |none=>rfl
  |some v=>exact WG v n 0
 .cases hi with
  |none=>rfl
  |some v=>exact WG v n n
def UO(i j:Nat):Builtin.Slice.slicePlaces (i:Int) (j:Int) 1=j-i:=by
 unfold Builtin.Slice.slicePlaces;split<;>omega
def FJ{Q:Tk->Ub->Prop}(p:IsPart v o)(h:Q o s):bc (bb prog w) A (Builtin.Slice.slicePartIndex v) Q E s:=by
 cases p with
 |none=>exact slicePart_none h
 |int i t=>exact slicePart_int h
def nW{lo:Tk}{n:Nat}{Q:Int×Int×Nat->Ub->Prop}(hs:s.heap.IsSliceOf sl vl c .none)(pl:IsPart vl lo)(d:IsPart c hi)
 (h:Q (((sIx n 0 lo:Nat):Int),1,sIx n n hi-sIx n 0 lo) s):bc (bb prog w) A (Builtin.Slice.sliceApplied (.ref sl)<|pure (n:Int)) Q E s:=by
 obtain⟨os,a,e,b⟩:=id hs;refine A0<|A0<|F8 a b rfl<|A0<|F8 a b rfl<|A0<|F8 a b rfl<|A6 ?_;refine A0<|slicePart_none ?_;refine A0<|FJ pl<|A0<|FJ d<|A0<|A6 ?_;show bc _ _ (match Builtin.Slice.sliceAdjust lo hi 1 (n:Int)with|(lo,hi)=>pure (lo,(1:Int),Builtin.Slice.slicePlaces lo hi 1)) _ _ s;rw[TB lo hi n];show bc _ _ (pure (((sIx n 0 lo:Nat):Int),(1:Int),Builtin.Slice.slicePlaces ((sIx n 0 lo:Nat):Int) ((sIx n n hi:Nat):Int) 1)) _ _ s;rw[UO];exact A6 h
def aDz(xs:Ti)(i k:Nat):((List.range k).filterMap λ(m:Nat)=>xs[((i:Int)+(m:Int)*1).toNat]?).toArray=((xs.toList.drop i).take k).toArray:=by
 have e:(λ(m:Nat)=>xs[((i:Int)+(m:Int)*1).toNat]?)=λm=>xs[i+m]?:=by
  funext m;have:((i:Int)+(m:Int)*1).toNat=i+m:=by omega
  rw[this]
 rw[e];have:=pick_run xs i k;rw[List.filterMap_map]at this;have a:((λx=>xs[x]?) ∘ λx=>i+x)=λm=>xs[i+m]?:=rfl;rw[a]at this;rw[this]
def getItem_tuple_cut{lo:Tk}{Q:T1}(ht:IsTup s.heap t items)(hs:s.heap.IsSliceOf sl vl f .none)(pl:IsPart vl lo)(g:IsPart f hi)
 (i:¬(sIx items.size 0 lo=0/\sIx items.size items.size hi=items.size))
 (h:Q (.ref s.heap.objs.size) { s with heap:=s.heap.push { cls:=.type "tuple",data:=.seq ((items.toList.drop<|sIx items.size 0 lo).take (sIx items.size items.size hi-sIx items.size 0 lo)).toArray } })
 (j:items.size<=ba):bc (bb prog w) A (getItem (.ref t) (.ref sl)) Q E s:=by
 have a:sizeOk (.seq ((items.toList.drop<|sIx items.size 0 lo).take (sIx items.size items.size hi-sIx items.size 0 lo)).toArray):=by
  show((items.toList.drop<|sIx items.size 0 lo).take (sIx items.size items.size hi-sIx items.size 0 lo)).toArray.size<=ba;rw[D9,List.length_take,List.length_drop,L5];omega
 obtain⟨os,b,c,k⟩:=id hs;have d:s.TypeIs (.ref sl) "slice":=⟨os,b,c⟩;unfold getItem
 try with_reducible refine F5 ?_
 first|refine A0 (A6 ?_)|skip
 refine A0<|wpAny_sequenceKey ht.typeIs (by decide) ?_
 refine A0 (O9 ht.typeIs S9
  (L6 S9 ht.typeIs entry_tuple_getitem ?_ (args_tuple_getitem _ _)))
 show bc _ _ (Builtin.Tuple.tupleItemsOf (.ref t) >>= _) _ _ s;refine A0<|tupleItemsOf_ ht ?_;refine A0<|A0o d ?_;refine A0<|nW hs pl g ?_
 have e:¬((((sIx items.size 0 lo:Nat):Int)==0&&(1:Int)==1&&(sIx items.size items.size hi-sIx items.size 0 lo)==items.size)=true):=by
  intro q;rw[B8,B8]at q;have l:=eq_of_beq q.1.1;have m:=eq_of_beq q.2;exact i ⟨by omega,by omega⟩
 show bc _ _ (if (((sIx items.size 0 lo:Nat):Int)==0&&(1:Int)==1&&(sIx items.size items.size hi-sIx items.size 0 lo)==items.size)=true then _ else _) _ _ s;rw[A5 e,aDz]
 first
  |exact A0<|D1 (A6 ⟨_,rfl,A6 h⟩) a
  |exact A0<|D1 (A0<|A6<|A6 ⟨_,rfl,A6 h⟩) a
  |exact A0<|A0<|D1 (A6<|A6 ⟨_,rfl,A6 h⟩) a
  |exact A0<|A0<|D1 (A6 ⟨_,rfl,A6 h⟩) a
end
end HT
namespace L2
variable{H:Hp}{σ:St}{s:Ub}
open PySem PySem.Spec PyProof.Rows
abbrev TO:=St->Hp->(Tk->Hp->Prop)->Prop
def PO(X:Cx)(e:Tw Ud)(t:TO):Prop:=
 ∀(bq:T2)(s:Ub)(σ:St)(H:Hp)(Q:Tk->Hp->Prop),Inv X bq σ H s->t σ H Q->
  bc (bb X.prog X.w) X.A (evalPart e X.env) (λu s'=>∃o H',Inv X bq σ H' s'/\IsPart u o/\Q o H') X.xe s
def YD:TO:=λ_ H Q=>Q Y H
def aIu(t:TE):TO:=λσ H Q=>t σ H λx a=>∃i,x=.int i/\Q (Z i) a
section
variable{X:Cx}{e:Ud}{te:TE}{lo hi:Tw Ud}{tl th:TO}{pos p2:Pos}
def aGz:PO X Y YD:=by
 intro bq s σ H Q I h;exact A6 ⟨Y,H,I,.none,h⟩
def aGV(h:PE X e te):PO X (Z e) (aIu te):=by
 intro bq s σ H Q I a;refine thn (h bq s σ H _ I a) λu s1 ⟨x,b,c,d,f⟩=>?_;obtain⟨i,rfl,q⟩:=f;obtain⟨t,rfl⟩:=d;exact⟨Z i,b,c,.int i t,q⟩
def SlR(X:Cx)(r:V->Tk->Tk->Hp->VK->Prop):Prop:=
 ∀(bq:T2)(s:Ub)(σ:St)(H:Hp)(x:V)(v vl a:Tz)(lo hi:Tk)(sl:Uc)(Q:VK),Inv X bq σ H s->RelV x v->s.heap.IsSliceOf sl vl a .none->IsPart vl lo->IsPart a hi->r x lo hi H Q->
  ∃T id,typeLookup (.type T) "__getitem__"=pure (Z (.builtin id))/\s.TypeIs v T/\bc (bb X.prog X.w) X.A (getItem v (.ref sl)) (EP X bq σ Q) X.xe s
def SlR.or(h:SlR X r)(h':SlR X a):SlR X (λx lo hi H Q=>r x lo hi H Q\/a x lo hi H Q):=by
 intro bq s σ H x v vl b lo hi sl Q I c hs pl d q;obtain q|q:=q
 .exact h bq s σ H x v vl b lo hi sl Q I c hs pl d q
 .exact h' bq s σ H x v vl b lo hi sl Q I c hs pl d q
noncomputable def tSl(r:V->Tk->Tk->Hp->VK->Prop)(te:TE)(tl th:TO):TE:=λσ H Q=>te σ H λx a=>tl σ a λl b=>th σ b λu c=>r x l u c Q
def PX{r:V->Tk->Tk->Hp->VK->Prop}(d:SlR X r)(f:PE X e te)(g:PO X lo tl)(i:PO X hi th):PE X (.Subscript e (.Slice lo hi Y p2) pos) (tSl r te tl th):=by
 intro bq s σ H Q I h;refine Subscript_ (thn (f bq s σ H _ I h) λv s1 ⟨x,j,k,m,n⟩=>?_);refine wpAny_Slice (thn (g bq s1 σ j _ k n) λvl s2 ⟨l,o,p,pl,t⟩=>thn (i bq s2 σ o _ p t) λa s3 ⟨u,c,w,y,z⟩=>?_);refine A6 ?_;have A:Inv X bq σ c { s3 with heap:=s3.heap.push { cls:=.type "slice",data:=.fields #[vl,a,.none] } }:=w.kept λb ob q=>A3 _ q;obtain⟨T,id,hT,ht,B⟩:=d bq { s3 with heap:=s3.heap.push { cls:=.type "slice",data:=.fields #[vl,a,.none] } } σ c x v vl a l u s3.heap.objs.size Q A m (Heap.IsSliceOf.new ..) pl y z;exact tail_any ht hT B rfl
def OM(xs:Tc)(lo hi:Tk):Tc:=(xs.drop<|HT.sIx xs.length 0 lo).take (HT.sIx xs.length xs.length hi-HT.sIx xs.length 0 lo)
def zN(xs:Tc)(lo hi:Tk):(OM xs lo hi).length<=xs.length:=by
 unfold OM;rw[List.length_take,List.length_drop];omega
def aNw(K:Fg):V->Tk->Tk->Hp->VK->Prop:=λx lo hi H Q=>∃a xs,x=.ref a/\SqT K H a xs /\
 ¬(HT.sIx xs.length 0 lo=0/\HT.sIx xs.length xs.length hi=xs.length)/\∀p,H p=Y->Q (.ref p) (upd H p (.tup (OM xs lo hi)))
def sl_tup:SlR X (aNw X.K):=by
 intro bq s σ H x v vl j lo hi sl Q I d hs pl f h;obtain⟨a,xs,rfl,g,k,q⟩:=h;cases d;obtain⟨its,r,ht,i⟩:=I.tuple g;have c:its.toArray.size=xs.length:=by rw[D9];exact r.length.symm
 refine⟨"tuple",_,PyProof.Rows.slot_tuple_getitem.lookup,ht.typeIs,?_⟩;refine HT.getItem_tuple_cut ht hs pl f (by grind) ?_ (by omega);rw[c];refine⟨.ref s.heap.objs.size,_,I.laid (λb ob q=>A3 _ q) (A7 _) ?_,rfl,q _<|I.hok.fresh<|A7 _⟩;exact⟨C6 (zN xs lo hi) i,_,(r.drop<|HT.sIx xs.length 0 lo).take (HT.sIx xs.length xs.length hi-HT.sIx xs.length 0 lo),IsTup.new _ _⟩
def aCy(K:Fg):R2:=λx y H Q=>∃a b xs c,x=.ref a/\y=.ref b/\SqT K H a xs/\SqT K H b c/\xs≠[]/\xs.length+c.length<=ba /\
 (c=[]->Q (.ref a) H)/\(c≠[]->∀p,H p=Y->Q (.ref p) (upd H p (.tup (xs++c))))
def bA.nil_iff(r:bA xs us):us=[]↔xs=[]:=by
 cases r with
 |nil=>simp
 |cons _ _=>simp
def aGm:OpR X (binaryOp .Add) (aCy X.K):=by
 intro bq s σ H x y v u Q I i j h;obtain⟨a,b,xs,p,rfl,rfl,ha,k,l,f,m,n⟩:=h;cases i;cases j;obtain⟨its,d,o,_⟩:=I.tuple ha;obtain⟨g,c,p2,_⟩:=I.tuple k;refine HT.cat_tup o p2 (λz=>l<|d.nil_iff.mp z) (λz=>⟨.ref a,H,I,rfl,m<|c.nil_iff.mp z⟩) (λz=>?_) (by rw[<- d.length,<- c.length];exact f);refine⟨.ref s.heap.objs.size,_,I.laid (λb ob q=>A3 _ q) (A7 _) ?_,rfl,n (λw=>z<|c.nil_iff.mpr w) _<|I.hok.fresh<|A7 _⟩;exact⟨by rw[B9];exact f,_,d.append c,IsTup.new _ _⟩
end
def ixN(n:Nat)(i:Int):Tg:=if 0<=i then(if i<n then Z i.toNat else Y)else if -(n:Int)<=i then Z (i+n).toNat else Y
def atI{a:Type}(xs:Tv a)(i:Int):Tw a:=(ixN xs.length i).bind λj=>xs[j]?
def WR{n:Nat}{j:Nat}(h:ixN n i=Z j):seqIndex? i n=Z j/\j<n/\-(n:Int)<=i/\i<n:=by
 unfold ixN at h;by_cases b:0<=i
 .rw[A4 b]at h;by_cases a:i<n
  .rw[A4 a]at h;have e:=D5 h;exact⟨by rw[seqIndex_of b a,e],by omega,by omega,a⟩
  .rw[A5 a]at h;cases h
 .rw[A5 b]at h;by_cases a:-(n:Int)<=i
  .rw[A4 a]at h;have e:=D5 h;exact⟨by rw[seqIndex_neg (by omega) a,e],by omega,a,by omega⟩
  .rw[A5 a]at h;cases h
def JN{a:Type}{xs:Tv a}{v:a}(h:atI xs i=Z v):∃j,seqIndex? i xs.length=Z j/\xs[j]?=Z v/\j<xs.length/\-(xs.length:Int)<=i/\i<xs.length:=by
 unfold atI at h;cases e:ixN xs.length i with
 |none=>rw[e]at h;cases h
 |some j=>
  rw[e]at h;obtain⟨b,c,d,f⟩:=WR e;exact⟨j,b,h,c,d,f⟩
def jY{a:Type}{xs:Tv a}{j:Nat}{v:a}(h:xs[j]?=Z v):atI xs (j:Int)=Z v:=by
 have b:=(List.getElem?_eq_some_iff.mp h).1
 have e:ixN xs.length (j:Int)=Z j:=by
  unfold ixN;rw[A4 (by omega),A4 (by omega)];simp
 unfold atI;rw[e];exact h
def XO(b:Ud):Prop:=∀o i,subscripted b false o i=operate [o,i] (getItem o i)
def IxR(X:Cx)(r:R2):Prop:=
 ∀(b a:Ud)(bq:T2)(s:Ub)(σ:St)(H:Hp)(x y:V)(v u:Tz)(Q:VK),Inv X bq σ H s->RelV x v->RelV y u->r x y H Q->
  subscripted a false v u=operate [v,u] (getItem v u)->bc (bb X.prog X.w) X.A (subscriptTail b a v u) (EP X bq σ Q) X.xe s
def MtR(X:Cx)(id:String)(r:V->Tc->Hp->VK->Prop):Prop:=
 ∀(bq:T2)(s:Ub)(σ:St)(H:Hp)(x:V)(xs:Tc)(v:Tz)(us:T5)(Q:VK),Inv X bq σ H s->RelV x v->bA xs us->r x xs H Q->
  bc (bb X.prog X.w) X.A (call (.builtin id) (v::us)) (EP X bq σ Q) X.xe s
section
variable{X:Cx}{a b:Ud}{ta tb:TE}{pos:Pos}
def IxR.or(h:IxR X r)(h':IxR X e):IxR X (λx y H Q=>r x y H Q\/e x y H Q):=by
 intro c d bq s σ H x y v u Q I f g q hs;obtain q|q:=q
 .exact h c d bq s σ H x y v u Q I f g q hs
 .exact h' c d bq s σ H x y v u Q I f g q hs
def aMW(c:IxR X r)(ha:PE X a ta)(d:PE X b tb)(hs:XO b):PE X (.Subscript a b pos) (tOp r ta tb):=by
 intro bq s σ H Q I h;exact Subscript_ (aLI ha d I h λv u s2 x y e f g i q=>c a b bq s2 σ e x y v u Q f g i q<|hs _ _)
def aNn(K:Fg):R2:=λx y H Q=>∃p xs i v,x=.ref p/\y=.int i/\SqL K H p xs/\atI xs i=Z v/\Q v H
def aMr(K:Fg):R2:=λx y H Q=>∃p xs i v,x=.ref p/\y=.int i/\SqT K H p xs/\atI xs i=Z v/\Q v H
def aJu:R2:=λx y H Q=>∃z i c,x=.str z/\y=.int i/\z.length<=ba/\atI z.cps.toList i=Z c/\Q (.str ⟨#[c]⟩) H
def ix_list:IxR X (aNn X.K):=by
 intro e f bq s σ H x y v u Q I l m h hs;obtain⟨p,xs,i,z,rfl,rfl,n,o,q⟩:=h;cases l;obtain⟨t,rfl⟩:=m;obtain⟨its,r,pl,F⟩:=I.list n;obtain⟨j,d,A,G,B,C⟩:=JN o;obtain⟨w,J,g⟩:=r.get A;have D:=r.length;have hn:=yK;have c:EP X bq σ Q w s:=⟨z,H,I,g,q⟩;by_cases k:0<=i
 .have E:i.toNat=j:=by
   rw[seqIndex_of k C]at d;exact D5 d
  exact item_listR pl.isList k (by omega) (by grind) c hs
 .have E:(i+(its.toArray.size:Int)).toNat=j:=by
   rw[seqIndex_neg (by omega) B]at d;rw[D9,<- D];exact D5 d
  exact subscriptTail_builtinR pl.isList.typeIs slot_list_getitem.lookup
   (wpAny_getItem_list_neg pl.isList (by omega) (by grind) (by omega) (by grind) ⟨rfl,c⟩) hs
def ix_tup:IxR X (aMr X.K):=by
 intro c d bq s σ H x y v u Q I g k h hs;obtain⟨p,xs,i,z,rfl,rfl,l,m,q⟩:=h;cases g;obtain⟨t,rfl⟩:=k;obtain⟨its,r,pl,B⟩:=I.tuple l;obtain⟨j,n,o,C,D,E⟩:=JN m;obtain⟨w,F,e⟩:=r.get o;have A:=r.length;have hn:=yK;have f:EP X bq σ Q w s:=⟨z,H,I,e,q⟩
 exact subscriptTail_builtinR pl.typeIs slot_tuple_getitem.lookup
  (getItem_tuple pl (by omega) (by omega) (by rw[D9,<- A];exact n) (by grind) ⟨rfl,f⟩) hs
def aDk:IxR X aJu:=by
 intro d e bq s σ H x y v u Q I f g h hs;obtain⟨z,i,c,rfl,rfl,w,k,q⟩:=h;obtain⟨t,rfl⟩:=f;obtain⟨A,rfl⟩:=g;obtain⟨j,l,B,C,m,n⟩:=JN k;have o:z.cps.toList.length=z.length:=by rfl
 rw[o]at l m n;have hn:=yK
 exact tail_any (A0f s z t) slot_str_getitem.lookup (getItem_str (by
  have p:decide (i < -(2 ^ 63:Int))=false:=C9 (by omega);have r:decide (i>=2 ^ 63)=false:=C9 (by omega);rw[p,r,Bool.or_false]) (by grind) ⟨.str ⟨#[c]⟩,H,I.tok _,⟨_,rfl⟩,q⟩) hs
def rIx(K:Fg):R2:=λx y H Q=>aNn K x y H Q\/aMr K x y H Q\/aJu x y H Q
def aLD:IxR X (rIx X.K):=ix_list.or<|ix_tup.or aDk
def SN(its:T5)(n j:Nat)(u:Tz):Obj.mapSeq (·.setIfInBounds j u) { cls:=.type "list",data:=.seq its.toArray n }={ cls:=.type "list",data:=.seq (its.set j u).toArray n }:=by
 simp[Obj.mapSeq]
def Inv.lst(I:Inv X bq σ H s)(h:H p=Z (.lst xs)):
 ∃(its:T5)(n:Nat),bA xs its/\s.heap.get? p=Z { cls:=.type "list",data:=.seq its.toArray n }/\xs.length<=ba:=by
 obtain⟨z,its,n,r,e⟩:=I.hok p _ h;exact⟨its,n,r,e,z⟩
def Inv.lstUpd{its its':T5}{f:Obj->Obj}(I:Inv X bq σ H s)(h:H p=Z (.lst xs))
 (g:s.heap.get? p=Z { cls:=.type "list",data:=.seq its.toArray n }) (d:f { cls:=.type "list",data:=.seq its.toArray n }={ cls:=.type "list",data:=.seq its'.toArray c }) (r:bA ys its') (i:ys.length<=ba) (t:Nat):
 Inv X bq σ (upd H p (.lst ys)) { s with heap:=s.heap.update p f,toks:=t }:=by
 have e:(s.heap.update p f).get? p=Z { cls:=.type "list",data:=.seq its'.toArray c }:=by
  rw[F9 f g (by rw[d]<;>rfl),d]
 refine I.write (by rw[h];trivial) (.inl rfl) (λb u j q=>(E7 _ _<|J7 j).trans q) ⟨_,e⟩ ?_;exact⟨i,its',c,r,e⟩
def aIp:V->V->V->Hp->(Hp->Prop)->Prop:=λo i v H Q=>∃p xs k j,o=.ref p/\i=.int k/\H p=Z (.lst xs)/\ixN xs.length k=Z j/\Q (upd H p (.lst (xs.set j v)))
def set_list:aLj X aIp:=by
 intro bq s σ H o i v ov B u Q I g l m h;obtain⟨p,xs,k,j,rfl,rfl,e,w,q⟩:=h;cases g;obtain⟨t,rfl⟩:=l;obtain⟨its,n,r,d,C⟩:=I.lst e;obtain⟨c,D,x,y⟩:=WR w;have z:=r.length;have hn:=yK
 have E:Inv X bq σ (upd H p (.lst (xs.set j v))) { s with heap:=s.heap.update p (Obj.mapSeq (·.setIfInBounds j u)) }:=
  I.lstUpd e d (SN its n j u) (r.set m j) (by grind) s.toks
 by_cases f:0<=k
 .have A:k.toNat=j:=by
   rw[seqIndex_of f y]at c;exact D5 c
  exact W.ki_setAt d f (by omega) (by grind) (by grind)
 .have A:(k+(its.toArray.size:Int)).toNat=j:=by
   rw[seqIndex_neg (by omega) x]at c;rw[D9,<- z];exact D5 c
  exact W.ki_setBack d (by omega) (by grind) (by omega) (by grind)
def LK(lo hi:Tk)(n:Nat):(sliceBounds lo hi Y n).1=((HT.sIx n 0 lo:Nat):Int)/\(sliceBounds lo hi Y n).2.1=((HT.sIx n n hi:Nat):Int)/\(sliceBounds lo hi Y n).2.2=1:=by
 refine⟨?_,?_,rfl⟩
 .cases lo with
  |none=>simp[sliceBounds,HT.sIx]
  |some i=>
   simp only[sliceBounds,HT.sIx,Option.getD_none];by_cases h:i<0
   .simp only[h,if_true]<;>omega
   .simp only[h,if_false]<;>omega
 .cases hi with
  |none=>simp[sliceBounds,HT.sIx]
  |some i=>
   simp only[sliceBounds,HT.sIx,Option.getD_none];by_cases h:i<0
   .simp only[h,if_true]<;>omega
   .simp only[h,if_false]<;>omega
def GC(its:T5)(lo hi:Tk):slicePick its.toArray lo hi Y=((its.drop<|HT.sIx its.length 0 lo).take (HT.sIx its.length its.length hi-HT.sIx its.length 0 lo)).toArray:=by
 obtain⟨c,d,e⟩:=LK lo hi its.toArray.size;unfold slicePick;rw[c,d,e];simp only[sliceRange_one,pick_run]<;>rfl
def aMV(K:Fg):V->Tk->Tk->Hp->VK->Prop:=λx lo hi H Q=>∃a xs,x=.ref a/\SqL K H a xs/\∀p,H p=Y->Q (.ref p) (upd H p (.lst (OM xs lo hi)))
def sl_list:SlR X (aMV X.K):=by
 intro bq s σ H x v vl i lo hi sl Q I d hs pl e h;obtain⟨a,xs,rfl,f,q⟩:=h;cases d;obtain⟨its,r,ht,g⟩:=I.list f;have c:=r.length;refine⟨"list",_,slot_list_getitem.lookup,ht.isList.typeIs,?_⟩;refine wpAny_getItem_list_slice ht.isList hs pl e .none (by simp) ?_ (by grind);rw[GC,<- c];refine⟨.ref s.heap.objs.size,_,I.laid (λb ob q=>A3 _ q) (A7 _) ?_,rfl,q _<|I.hok.fresh<|A7 _⟩;exact⟨C6 (zN xs lo hi) g,_,0,(r.drop<|HT.sIx xs.length 0 lo).take (HT.sIx xs.length xs.length hi-HT.sIx xs.length 0 lo),B3 _ rfl⟩
def KI:fB X (.builtin "len") (λxs H Q=>∃p ys,xs=[.ref p]/\(SqL X.K H p ys\/SqT X.K H p ys)/\Q (.int ys.length) H):=by
 intro bq s σ H xs us Q I r h;obtain⟨p,ys,rfl,hq,q⟩:=h;obtain⟨u,rfl,e⟩:=vals1 r;cases e;have hn:=yK;obtain hq|hq:=hq
 .obtain⟨its,d,pl,f⟩:=I.list hq;have c:=d.length;exact Calls.call_len_list pl.isList (by grind) ⟨.int ys.length,H,I.tok _,⟨s.toks+1,by rw[D9,c]⟩,q⟩
 .obtain⟨its,d,pl,f⟩:=I.tuple hq;have c:=d.length;exact len_tuple pl (by grind) ⟨.int ys.length,H,I.tok _,⟨s.toks+1,by rw[D9,c]⟩,q⟩
def MU:fB X (.type "list") (λxs H Q=>∃p ys,xs=[.ref p]/\(SqL X.K H p ys\/SqT X.K H p ys)/\∀l,H l=Y->Q (.ref l) (upd H l (.lst ys))):=by
 intro bq s σ H xs us Q I r h;obtain⟨p,ys,rfl,hq,q⟩:=h;obtain⟨u,rfl,k⟩:=vals1 r;cases k
 have d:∀(its:T5),bA ys its->ys.length<=ba->∀(h':Heap)(c':Nat),(∀b o',s.heap.get? b=Z o'->h'.get? b=Z o')->
  h'.get? s.heap.objs.size=Z { cls:=.type "list",dict:=Y,data:=.seq its.toArray c',slots:=#[] }->EP X bq σ Q (.ref s.heap.objs.size) { s with heap:=h' }:=λits c f h' c' kp e=>
  ⟨.ref s.heap.objs.size,_,I.laid kp (A7 _) (show eO X.prog X.w _ h' _ (.lst ys)from⟨f,its,c',c,e⟩),rfl,q _<|I.hok.fresh<|A7 _⟩
 obtain hq|hq:=hq
 .obtain⟨its,c,pl,f⟩:=I.list hq;have g:=c.length;obtain⟨o,i,j,n,hd⟩:=pl.isList;exact call_list_seq p (.inl rfl) i j hd (λh' c' kp e=>d its c f h' c' kp e) (by grind)
 .obtain⟨its,c,pl,f⟩:=I.tuple hq;have g:=c.length;obtain⟨o,i,j,n,hd⟩:=pl;exact call_list_seq p (.inr rfl) i j hd (λh' c' kp e=>d its c f h' c' kp e) (by grind)
def GQ:fB X (.type "tuple") (λxs H Q=>∃p ys,xs=[.ref p]/\((SqL X.K H p ys/\∀l,H l=Y->Q (.ref l) (upd H l (.tup ys)))\/(SqT X.K H p ys/\Q (.ref p) H))):=by
 intro bq s σ H xs us Q I r h;obtain⟨p,ys,rfl,h⟩:=h;obtain⟨u,rfl,j⟩:=vals1 r;cases j;obtain⟨c,q⟩|⟨c,q⟩:=h
 .obtain⟨its,d,pl,f⟩:=I.list c;have g:=d.length;refine call_tuple_list pl.isList (λh' kp=>?_) (by grind);have i:=I.kept (t':=s.toks) kp
  have k:Inv X bq σ (upd H h'.objs.size (.tup ys)) { s with heap:=h'.push { cls:=.type "tuple",data:=.seq its.toArray } }:=
   i.laid (λb o e=>A3 _ e) (A7 _) (⟨f,its,d,IsTup.new _ _⟩)
  exact⟨.ref h'.objs.size,_,k,rfl,q _<|i.hok.fresh<|A7 _⟩
 .obtain⟨its,d,pl,f⟩:=I.tuple c;exact call_tuple_same pl ⟨.ref p,H,I,rfl,q⟩
def tyV(K:Fg)(T:String)(x:V)(H:Hp):Prop:=match x with
 |.str _=>T="str"
 |.int _=>T="int"
 |.ref p=>(T="list"/\∃xs,SqL K H p xs)\/(T="tuple"/\∃o,K.lookup p=Z o/\o.cls=.type "tuple"/\o.dict=Y) \/
  (T="dict"/\((∃kvs,H p=Z (.dK kvs))\/∃kvs,H p=Z (.dT kvs)))\/(T="set"/\∃S n,H p=Z (.set S n))
 |_=>False
def aCE(I:Inv X bq σ H s)(r:RelV x v)(ty:tyV X.K T x H):
 s.TypeIs v T/\∀a,v=.ref a->∃ob,s.heap.get? a=Z ob/\ob.dict=Y:=by
 cases x with
 |str z=>
  obtain⟨t,rfl⟩:=r;cases ty;exact⟨A0f s z t,λ_ e=>nomatch e⟩
 |int i=>
  obtain⟨t,rfl⟩:=r;cases ty;exact⟨typeIs_int s i t,λ_ e=>nomatch e⟩
 |ref p=>
  cases r;obtain⟨rfl,xs,g⟩|⟨rfl,o,d,h,hd⟩|⟨rfl,d⟩|⟨rfl,S,n,d⟩:=ty
  .obtain⟨its,_,pl,_⟩:=I.list g;refine⟨pl.isList.typeIs,λa e=>?_⟩;cases e;obtain⟨o,n,e,c,hd,_⟩:=pl;exact⟨o,e,hd⟩
  .refine⟨⟨o,I.kIn p o d,h⟩,λa e=>?_⟩;cases e;exact⟨o,I.kIn _ o d,hd⟩
  .have z:∃o,s.heap.get? p=Z o/\o.ExactDict:=by
    obtain⟨kvs,d⟩|⟨kvs,d⟩:=d
    .obtain⟨_,_,_,_,o,_,_,e,ex,_⟩:=I.hok p _ d;exact⟨o,e,ex⟩
    .obtain⟨_,_,_,_,o,_,_,e,ex,_⟩:=I.hok p _ d;exact⟨o,e,ex⟩
   obtain⟨o,e,ex⟩:=z;refine⟨⟨o,e,ex.1⟩,λa f=>?_⟩;cases f;exact⟨o,e,ex.2.1⟩
  .obtain⟨o,_,_,_,e,ex,_⟩:=I.hok p _ d;refine⟨⟨o,e,ex.1⟩,λa f=>?_⟩;cases f;exact⟨o,e,ex.2.1⟩
 |_=>exact False.elim ty
noncomputable def aNz(K:Fg)(T:String)(r:V->Tc->Hp->VK->Prop)(to:TE):TE:=λσ H Q=>to σ H λx c=>tyV K T x c/\r x [] c Q
noncomputable def tBM(K:Fg)(T:String)(r:V->Tc->Hp->VK->Prop)(to:TE)(t:TA):TE:=λσ H Q=>to σ H λx c=>tyV K T x c/\t σ c λxs d=>r x xs d Q
variable{o e:Ud}{es:T8}{to:TE}{t:TA}{name:Str}{apos cpos:Pos}{T id:String}{r:V->Tc->Hp->VK->Prop}
def aCp(j:PlainAttrs T)(slot:Slot T name id)(f:typeOf (.builtin id)=pure (.type "method_descriptor"))(hm:MtR X id r)(k:PE X o to)
 (c:attributeBase o name X.env (eval o X.env)=eval o X.env:=by rfl) (d:(apos.endLine==cpos.line)=true:=by rfl):PE X (.Call (.Attribute o name apos) [] [] cpos) (aNz X.K T r to):=by
 intro bq s σ H Q I h;refine wpAny_Call_method0_late c d (thn (k bq s σ H _ I h) λv s1 ⟨x,l,g,i,ty,m⟩=>?_);obtain⟨n,p⟩:=aCE g i ty;exact⟨T,id,j,slot,f,n,p,Calls.callWith_builtin rfl<|PySem.evalArgs_none<|hm bq s1 σ l x [] v [] Q g i .nil m⟩
def RB(m:PlainAttrs T)(slot:Slot T name id)(i:typeOf (.builtin id)=pure (.type "method_descriptor"))(hm:MtR X id r)(n:PE X o to)(ha:PA X (e::es) t)
 (c:attributeBase o name X.env (eval o X.env)=eval o X.env:=by rfl)
 (f:((backTo cpos<|bf (e::es) X.env).all (λx=>!x.1)&&(backToKw cpos<|keywordEach [] X.env).all (λx=>x.1.isSome)
  && decide ((e::es).length+([]:Tv Keyword).length+(if ([]:Tv Keyword).isEmpty then 0 else 1)<30))=true:=by rfl)
 (d:(apos.endLine==cpos.line)=true:=by rfl) (hs:bf (e::es) X.env=(false,eval e X.env)::bf es X.env:=by rfl) (g:(backTo cpos<|bf es X.env).any (·.1)=false:=by rfl):
 PE X (.Call (.Attribute o name apos) (e::es) [] cpos) (tBM X.K T r to t):=by
 intro bq s σ H Q I h;refine wpAny_Call_method_late c f d rfl (thn (n bq s σ H _ I h) λv s1 ⟨x,p,j,k,ty,q⟩=>?_);obtain⟨u,w⟩:=aCE j k ty;refine⟨T,id,m,slot,i,u,w,?_⟩;have l:=ha cpos bq s1 σ p _ j q;rw[hs]at l ⊢;refine Calls.callWith_builtin (by grind)<|Calls.evalArgs_plain ?_;exact thn l λus s2 ⟨vs,y,z,A,B⟩=>hm bq s2 σ y x vs v us Q z k A B
end
def MtM(X:Cx)(id:String)(r:V->Tc->Hp->VK->Prop):Prop:=
 ∀(bq:T2)(s:Ub)(σ:St)(H:Hp)(x:V)(xs:Tc)(v:Tz)(us:T5)(Q:VK),Inv X bq σ H s->RelV x v->bA xs us->r x xs H Q->
  bc (bb X.prog X.w) X.A (call (.builtin id) (v::us)) (EP X bq σ Q) X.xe s
def bA.one{x:V}{us:T5}(h:bA [x] us):∃u,us=[u]/\RelV x u:=by
 cases h with
 |cons r h=>cases h;exact⟨_,rfl,r⟩
def bA.zero:∀{us:T5},bA [] us->us=[]
 |_,.nil=>rfl
def bA.dropLast(h:bA xs us):bA xs.dropLast us.dropLast:=by
 induction h with
 |nil=>exact .nil
 |cons r t ih=>
  cases t with
  |nil=>exact .nil
  |cons q a=>exact .cons r ih
def bA.reverse(h:bA xs us):bA xs.reverse us.reverse:=by
 induction h with
 |nil=>exact .nil
 |cons r t ih=>rw[O5,O5];exact bA.append ih (.cons r .nil)
def SL{a:Type}(l:Tv a):l.eraseIdx (l.length-1)=l.dropLast:=by grind
section
variable{X:Cx}{bq:T2}{σ:St}{H:Hp}{s:Ub}{l b:Uc}{xs ys zs:Tc}
def Inv.lset{its its':T5}{f:Ti->Ti}{t':Nat}(I:Inv X bq σ H s)(a:H l=Z (.lst xs))
 (e:s.heap.get? l=Z { cls:=.type "list",data:=.seq its.toArray n }) (c:f its.toArray=its'.toArray) (d:bA ys its') (g:ys.length<=ba):
 Inv X bq σ (upd H l (.lst ys)) { s with heap:=s.heap.update l<|Obj.mapSeq f,toks:=t' }:=by
 have q:=PySem.IsL.update e f;rw[c]at q;refine I.write (by rw[a];exact trivial) (.inl rfl) (λj u h i=>(E7 s.heap (Obj.mapSeq f)<|J7 h).trans i) ⟨_,q⟩ ?_;exact⟨g,its',_,d,q⟩
def Inv.lnew{t':Nat}(I:Inv X bq σ H s)(a:bA ys its)(c:ys.length<=ba):
 Inv X bq σ (upd H s.heap.objs.size (.lst ys)) { s with heap:=s.heap.push { cls:=.type "list",data:=.seq its.toArray },toks:=t' }:=
 I.laid (λ_ _ q=>A3 _ q) (A7 _) ⟨c,its,0,a,B3 _ rfl⟩
def Inv.fresh(I:Inv X bq σ H s):H s.heap.objs.size=Y:=I.hok.fresh<|A7 _
def Inv.lstM(I:Inv X bq σ H s)(a:H l=Z (.lst xs)):xs.length<=ba/\∃(its:T5)(n:Nat),bA xs its/\xs.length=its.length/\s.heap.get? l=Z { cls:=.type "list",data:=.seq its.toArray n }:=by
 obtain⟨z,its,n,r,e⟩:=I.hok l _ a;exact⟨z,its,n,r,r.length,e⟩
end
section
variable{X:Cx}
def XN:V->Tc->Hp->VK->Prop:=λx vs H Q=>∃l xs y,x=.ref l/\vs=[y]/\H l=Z (.lst xs)/\xs.length<ba/\Q .non (upd H l (.lst (xs++[y])))
def aAr:MtM X "list.append" XN:=by
 intro bq s σ H x vs v us Q I b c h;obtain⟨l,xs,y,rfl,rfl,a,f,q⟩:=h;cases b;obtain⟨u,rfl,d⟩:=c.one;obtain⟨z,its,n,r,g,e⟩:=I.lstM a;refine Y3 F.slot_list_append ⟨_,e,rfl⟩ F.entry_list_append (F.args_list_append_2 _ _) (PySem.list_append l its.toArray n u (by grind)) ⟨e,?_⟩;refine⟨.non,_,I.lset a e (by simp) (r.append (.cons d .nil)) ?_,rfl,q⟩;rw[B9,F0];omega
def aNm:V->Tc->Hp->VK->Prop:=λx vs H Q=>∃l xs y,x=.ref l/\vs=[]/\H l=Z (.lst xs)/\xs[xs.length-1]?=Z y/\Q y (upd H l (.lst xs.dropLast))
def aKq:MtM X "list.pop" aNm:=by
 intro bq s σ H x vs v us Q I d f h;obtain⟨l,xs,y,rfl,rfl,c,g,q⟩:=h;cases d;have a:=f.zero;subst a;obtain⟨z,its,n,r,i,e⟩:=I.lstM c;obtain⟨u,j,k⟩:=r.get g
 have b:its.toArray[its.toArray.size-1]?=Z u:=by
  show its.toArray[its.length-1]?=Z u;rw[<- L7,<- i];exact j
 refine Y3 F.slot_list_pop ⟨_,e,rfl⟩ F.entry_list_pop (F.args_list_pop_1 _) (MeetsSeq.list_pop_last l its.toArray n u b (by grind)) ⟨e,?_⟩;refine⟨y,_,I.lset c e ?_ r.dropLast ?_,k,q⟩
 .show its.toArray.eraseIdxIfInBounds (its.toArray.size-1)=its.dropLast.toArray;rw[D9,List.eraseIdxIfInBounds_toArray,SL]
 .rw[List.length_dropLast];omega
def RS:V->Tc->Hp->VK->Prop:=λx vs H Q=>∃l xs,x=.ref l/\vs=[]/\H l=Z (.lst xs)/\Q .non (upd H l (.lst xs.reverse))
def TL:MtM X "list.reverse" RS:=by
 intro bq s σ H x vs v us Q I c d h;obtain⟨l,xs,rfl,rfl,b,q⟩:=h;cases c;have a:=d.zero;subst a;obtain⟨z,its,n,r,f,e⟩:=I.lstM b;refine Y3 F.slot_list_reverse ⟨_,e,rfl⟩ F.entry_list_reverse (F.args_list_reverse_1 _) (AutoSeq1.list_reverse_list_0 l its.toArray n (by grind)) ⟨e,?_⟩;refine⟨.non,_,I.lset b e (by simp) r.reverse ?_,rfl,q⟩;rw[U1];omega
def len_rep{a:Type}(xs:Tv a)(k:Nat):(List.replicate k xs).flatten.length=k*xs.length:=by
 induction k with
 |zero=>simp
 |succ k ih=>rw[O7,O6,B9,ih,Nat.succ_mul,Nat.add_comm]
end
section
variable{κ:Type}[DecidableEq κ]
noncomputable def iP(kvs:Tv (κ×V))(k:κ):Tw V:=(kvs.find? λa=>decide (a.1=k)).map (·.2)
noncomputable def putK(kvs:Tv (κ×V))(k:κ)(v:V):Tv (κ×V):=
 if (kvs.any λa=>decide (a.1=k))=true then kvs.map (λa=>if a.1=k then(a.1,v)else a)else kvs++[(k,v)]
def EY{p:κ×V}{r:Tv (κ×V)}{k:κ}(e:p.1=k):iP (p::r) k=Z p.2:=by simp[iP,List.find?_cons,e]
def DX{p:κ×V}{r:Tv (κ×V)}{k:κ}(e:¬p.1=k):iP (p::r) k=iP r k:=by simp[iP,List.find?_cons,e]
theorem OQ(k:κ):∀kvs:Tv (κ×V),(kvs.any λa=>decide (a.1=k))=(iP kvs k).isSome
 |[]=>rfl
 |p::r=>by
  rw[S8];by_cases e:p.1=k
  .simp only[EY e,decide_eq_true e,Bool.true_or,Option.isSome_some]
  .rw[DX e,C9 e,Bool.false_or];exact OQ k r
def mK(kvs:Tv (κ×V))(k:κ)(v:V):(putK kvs k v).length<=kvs.length+1:=by
 unfold putK;split
 .rw[A1];omega
 .rw[B9,C0,A0a];omega
def zI.isSome_eq(r:zI o u):o.isSome=u.isSome:=by
 cases o with
 |none=>cases u with
  |none=>rfl
  |some _=>exact r.elim
 |some _=>cases u with
  |none=>exact r.elim
  |some _=>rfl
def KV.val(r:KV kvs vs)(k:κ):zI (iP kvs k) (valueAt vs k):=by
 induction r with
 |nil=>exact True.intro
 |@cons p q ps a h t ih=>
  obtain⟨d,f⟩:=h;by_cases e:p.1=k
  .have c:=d.symm.trans e;have b:valueAt (q::a) k=Z q.2:=by simp[valueAt,List.find?_cons,c]
   rw[EY e,b];exact f
  .have c:¬q.1=k:=λz=>e<|d.trans z;have b:valueAt (q::a) k=valueAt a k:=by simp[valueAt,List.find?_cons,c]
   rw[DX e,b];exact ih
def KV.any(r:KV kvs vs)(k:κ):(kvs.any λa=>decide (a.1=k))=vs.any λa=>decide (a.1=k):=by
 induction r with
 |nil=>rfl
 |cons h t ih=>rw[S8,S8,ih,h.1]
def KV.repl(r:KV kvs vs)(k:κ)(c:RelV y u):
 KV (kvs.map λa=>if a.1=k then(a.1,y)else a) (vs.map λa=>if a.1=k then(a.1,u)else a):=by
 induction r with
 |nil=>exact .nil
 |@cons p q ps f h t ih=>
  rw[B2,B2];refine .cons ?_ ih;obtain⟨b,d⟩:=h;by_cases e:p.1=k
  .rw[A4 e,A4<|b.symm.trans e];exact⟨b,c⟩
  .rw[A5 e,A5 λz=>e<|b.trans z];exact⟨b,d⟩
def KV.put(r:KV kvs vs)(k:κ)(a:RelV y u):KV (putK kvs k y) (stored vs k u):=by
 unfold putK stored;rw[r.any k];by_cases e:(vs.any λb=>decide (b.1=k))=true
 .rw[A4 e,A4 e];exact r.repl k a
 .rw[A5 e,A5 e];exact Paired.snoc r ⟨rfl,a⟩
def KV.length(r:KV kvs vs):kvs.length=vs.length:=A0h r
end
def YR{P:Ue}(r:RelV (kV k) u):(eM P w).is k u=true:=by
 cases k with
 |inl i=>obtain⟨t,e⟩:=r;subst e;exact NJ P w i t
 |inr x=>obtain⟨t,e⟩:=r;subst e;exact OU P w x t
theorem yB{P:Ue}:∀{ks:Tv Key}{us:T5},bA (ks.map kV) us->ItemsAre (eM P w) ks us
 |[],_=>λr=>by rw[List.map_nil]at r;cases r;exact .nil
 |k::ks,_=>λr=>by
  cases r with
  |cons h t=>exact .cons (YR h) (yB t)
abbrev KT(H:Hp):Tv (Tv Key×V)->Tv (Tv Key×Uc×Tz)->Prop:=Paired λp q=>p.1=q.1/\H q.2.1=Z (.tup (p.1.map kV))/\RelV p.2 q.2.2
def KT.val(r:KT H kvs xs)(k:Tv Key):zI (iP kvs k) ((atKey xs k).map (·.2)):=by
 induction r with
 |nil=>exact True.intro
 |@cons p q ps a h t ih=>
  obtain⟨d,_,f⟩:=h;by_cases e:p.1=k
  .have c:=d.symm.trans e;have b:atKey (q::a) k=Z q.2:=by simp[atKey,List.find?_cons,c]
   rw[EY e,b];exact f
  .have c:¬q.1=k:=λz=>e<|d.trans z;have b:atKey (q::a) k=atKey a k:=by simp[atKey,List.find?_cons,c]
   rw[DX e,b];exact ih
def KT.repl(r:KT H kvs xs)(k:Tv Key)(d:RelV y u):
 KT H (kvs.map λb=>if b.1=k then(b.1,y)else b) (xs.map<|putAt k u):=by
 induction r with
 |nil=>exact .nil
 |@cons p q ps g h t ih=>
  rw[B2,B2];refine .cons ?_ ih;obtain⟨a,c,f⟩:=h;unfold putAt;by_cases e:p.1=k
  .rw[A4 e,A4<|a.symm.trans e];exact⟨a,c,d⟩
  .rw[A5 e,A5 λz=>e<|a.trans z];exact⟨a,c,f⟩
def KT.put(r:KT H kvs xs)(k:Tv Key)(c:H b=Z (.tup (k.map kV)))(a:RelV y u):
 KT H (putK kvs k y) (storedH xs k b u):=by
 have e:(kvs.any λd=>decide (d.1=k))=(atKey xs k).isSome:=by
  rw[OQ,(r.val k).isSome_eq,Option.isSome_map]
 unfold putK storedH;rw[e];by_cases q:(atKey xs k).isSome=true
 .rw[A4 q,A4 q];exact r.repl k a
 .rw[A5 q,A5 q];exact Paired.snoc r ⟨rfl,c,a⟩
def KT.keeps{H':Hp}(r:KT H kvs xs)(ht:∀b ys,H b=Z (.tup ys)->H' b=Z (.tup ys)):KT H' kvs xs:=
 Paired.mapP r λ_ _ z=>⟨z.1,ht _ _ z.2.1,z.2.2⟩
section
variable{P:Ue}{w:World}{H:Hp}{h:Heap}{a:Uc}
def IT(ok:HOk P w H h)(e:Rd H a u):eO P w H h a u:=e.ok ok
def aJd(ok:HOk P w H h)(e:Rd H a (.dK kvs)):kvs.length<=ba/\(a==sysModules)=false/\∃vs,KV kvs vs/\h.DictOf (eM P w) a vs:=
 show eO P w H h a (.dK kvs)from IT ok e
def aIS(ok:HOk P w H h)(e:H a=Z (.dK kvs)):kvs.length<=ba/\(a==sysModules)=false/\∃vs,KV kvs vs/\h.DictOf (eM P w) a vs:=aJd ok (.inl e)
def LQ{ks:Tv Key}(ok:HOk P w H h)(e:H a=Z (.tup (ks.map kV))):(tupleKind<|eM P w).is h ks a:=by
 obtain⟨_,its,r,o,b,c,n,d⟩:=(ok a _ e);exact⟨o,its.toArray,n,b,c,d,by simpa using yB r⟩
def aEz(ok:HOk P w H h)(e:Rd H a (.dT kvs)):kvs.length<=ba/\(a==sysModules)=false /\
 ∃xs,KT H kvs xs/\h.DictOfH (tupleKind<|eM P w) a xs:=by
 obtain⟨z,y,xs,r,o,es,ep,b,c,d,f,g⟩:=(IT ok e);refine⟨z,y,xs,r,o,es,ep,b,c,d,f,λx hx=>?_,g⟩
 have all:∀{l:Tv (Tv Key×V)}{m:Tv (Tv Key×Uc×Tz)},KT H l m->∀x∈m,(tupleKind<|eM P w).is h x.1 x.2.1:=by
  intro l m q
  induction q with
  |nil=>intro x hx;exact nomatch hx
  |@cons p q ps i j t ih=>
   intro x hx;obtain e|hx:=List.mem_cons.mp hx
   .subst e;exact LQ ok (by grind)
   .exact ih x hx
 exact all r x hx
def aIo(ok:HOk P w H h)(e:H a=Z (.dT kvs)):kvs.length<=ba/\(a==sysModules)=false /\
 ∃xs,KT H kvs xs/\h.DictOfH (tupleKind<|eM P w) a xs:=aEz ok (.inl e)
end
def JT(H:Hp)(a:Uc)(y:V)(r:Tw V):Prop:=
 (∃kvs k,Rd H a (.dK kvs)/\y=kV k/\r=iP kvs k)\/∃kvs k b,Rd H a (.dT kvs)/\y=.ref b/\H b=Z (.tup (k.map kV))/\r=iP kvs k
def BG(H:Hp)(a:Uc)(y v:V)(H':Hp):Prop:=
 (∃kvs k,H a=Z (.dK kvs)/\y=kV k/\kvs.length<ba/\H'=upd H a (.dK (putK kvs k v))) \/
 ∃kvs k b,H a=Z (.dT kvs)/\y=.ref b/\H b=Z (.tup (k.map kV))/\kvs.length<ba/\H'=upd H a (.dT (putK kvs k v))
def JT.k{a:Uc}{kvs:Tv (Key×V)}{k:Key}(e:H a=Z (.dK kvs)):JT H a (kV k) (iP kvs k):=.inl ⟨kvs,k,.inl e,rfl,rfl⟩
def JT.t{k:Tv Key}(e:H a=Z (.dT kvs))(c:H b=Z (.tup (k.map kV))):JT H a (.ref b) (iP kvs k):=.inr ⟨kvs,k,b,.inl e,rfl,c,rfl⟩
def BG.k{a:Uc}{kvs:Tv (Key×V)}{k:Key}{v:V}(e:H a=Z (.dK kvs))(b:kvs.length<ba):BG H a (kV k) v (upd H a (.dK (putK kvs k v))):=.inl ⟨kvs,k,e,rfl,b,rfl⟩
def BG.t{k:Tv Key}(e:H a=Z (.dT kvs))(c:H b=Z (.tup (k.map kV)))(d:kvs.length<ba):
 BG H a (.ref b) v (upd H a (.dT (putK kvs k v))):=.inr ⟨kvs,k,b,e,rfl,c,d,rfl⟩
section
variable{X:Cx}{bq:T2}{σ:St}{H:Hp}{s:Ub}{a:Uc}{y v:V}{u r:Tz}{o:Tw V}{A:Uf}{E:T1}
def Inv.big(I:Inv X bq σ H s):sysModules<s.heap.objs.size:=by
 have h:=(I.mod.glob.keeps I.bk).lt;exact S7 (by decide) h
def aOz{Q:T1}(j:A.units+1<cLine)(I:Inv X bq σ H s)(g:JT H a y o)(i:RelV y u)(h:∀s',Inv X bq σ H s'->Q (.bool o.isSome) s'):
 bc (bb X.prog X.w) A (bi .In u (.ref a)) Q E s:=by
 obtain⟨kvs,k,e,d,l⟩|⟨kvs,k,b,e,d,m,l⟩:=g
 .subst d;obtain⟨z,hd,vs,c,f⟩:=aJd I.hok e;refine wpAny_in_of (YR i) hd f.mapOf ?_;rw[<- (c.val k).isSome_eq,<- l];exact h _<|I.tok _
 .subst d;cases i;obtain⟨z,hd,xs,c,f⟩:=aEz I.hok e;refine wpAny_in_heap (tupleKind_room_in1 j) (LQ I.hok m) hd f ?_;have q:=(c.val k).isSome_eq;rw[Option.isSome_map]at q;rw[<- q,<- l];exact h _<|I.tok _
def BJ{t':Nat}(I:Inv X bq σ H s)(c:Mut (H a))(hs:Heap.SameBut a s.heap h')(d:∃q,h'.get? a=Z q)(new:eO X.prog X.w (upd H a ob) h' a ob):
 Inv X bq σ (upd H a ob) { s with heap:=h',toks:=t' }:=
 I.write c (.inl rfl) (λb q e z=>(hs.2 b e).trans z) d new
def aBH{P:Ue}{h':Heap}{kvs:Tv (Key×V)}(z:kvs.length<=ba)(hd:(a==sysModules)=false)(b:KV kvs vs)(dd:h'.DictOf (eM P w) a vs):
 eO P w H' h' a (.dK kvs):=⟨z,hd,vs,b,dd⟩
def ZX{Q:Unit->Ub->Prop}(D:A.units+1<cLine)(I:Inv X bq σ H s)(g:BG H a y v H')(t:RelV y u)(x:RelV v r)(h:∀s',Inv X bq σ H' s'->Q () s'):
 bc (bb X.prog X.w) A (setItem (.ref a) u r) Q E s:=by
 obtain⟨kvs,k,e,j,l,m⟩|⟨kvs,k,b,e,j,B,l,m⟩:=g
 .subst j m;obtain⟨z,hd,vs,d,n⟩:=aIS I.hok e;have F:vs.length<=ba:=by rw[<- d.length];exact z
  have p:(putK kvs k v).length<=ba:=by have:=mK kvs k v;omega
  refine wpAny_setItem_pairs (YR t) n λh' f hs=>h _ ?_;have G:∃q,h'.get? a=Z q:=let⟨q,_,_,i,_⟩:=f;⟨q,i⟩;exact BJ I (by rw[e];exact True.intro) hs G<|aBH p hd (d.put k x) f
 .subst j m;cases t;obtain⟨z,hd,xs,d,n⟩:=aIo I.hok e;have F:xs.length<=ba:=by rw[<- A0h d];exact z
  have p:(putK kvs k v).length<=ba:=by have:=mK kvs k v;omega
  refine wpAny_setItem_heap (tupleKind_room_in1 D) (LQ I.hok B) n λh' f hs=>h _ ?_;obtain⟨q,es,ep,i,J,K,L,_,M⟩:=f;refine BJ I (by rw[e];exact True.intro) hs ⟨q,i⟩ ⟨p,hd,_,(d.put k B x).keeps λc N C=>?_,q,es,ep,i,J,K,L,M⟩;rw[aK (zM C e λz=>nomatch z)];exact C
end
def aGM(i:Ud):Prop:=∀ov a,subscripted i false ov a=operate [ov,a] (getItem ov a)
def aHP{s:Ub}{id:String}
 (l:typeLookup (.type T) "__getitem__"=pure (Z (.builtin id))) (hs:aGM a)
 (h:bc (bb prog w) A (eval b env) (λo e=>bc (bb prog w) A (eval a env) (λi c=>c.TypeIs o T/\bc (bb prog w) A (getItem o i) Q E c) E e) E s):
 bc (bb prog w) A (eval (.Subscript b a pos) env) Q E s:=by
 refine Subscript_ (E3 h (λo e j=>E3 j (λi c d=>?_) λ_ _ x=>x) λ_ _ x=>x);obtain⟨hT,d⟩:=d;refine A0 ?_;refine A0<|wpAny_specialOf hT l ?_
 have g:bc (bb prog w) A (subscripted a false o i) (λr f=>bc (bb prog w) A (letTemporaryGo b o r >>= λ_=>pure r) Q E f) E c:=by
  rw[hs o i];exact wpAny_operating (E3 d (λr f k=>A0<|wpAny_letTemporaryGo<|A6 k) λ_ _ x=>x)
 first
  |exact A6<|A0 g
  |exact A0<|A6<|A0 g
  |exact A0 g
noncomputable def aNP(ty c:TE):TE:=λσ H Q=>ty σ H λy d=>c σ d λx b=>∃a o,x=.ref a/\JT b a y o/\Q (.bl o.isSome) b
noncomputable def aIs(c ty d:TE):TS:=λD σ H=>d σ H λv e=>c σ e λx f=>ty σ f λy g=>∃a b,x=.ref a/\BG g a y v b/\D.nx σ b
section
variable{X:Cx}{o i e value:Ud}{pos pos' tpos:Pos}{td ty tv:TE}
def aKJ(b:X.A.units+1<cLine)(hi:PE X i ty)(c:PE X o td):PC X .In i o (aNP ty td):=by
 intro bq s σ H Q I h;refine thn (hi bq s σ H _ I h) λr s1 ⟨y,d,f,j,k⟩=>thn (c bq s1 σ d _ f k) λu s2 ⟨x,l,m,n,a,ov,ex,g,p⟩=>?_;subst ex;obtain rfl:=n;exact aOz b m g j λs3 q=>⟨.bl ov.isSome,l,q,rfl,p⟩
def aFO(b:X.A.units+1<cLine)(c:PE X o td)(hi:PE X i ty)(d:PE X value tv)(hs:swapsWith value (Z (.Subscript o i pos')) pos.line X.env=pure false):
 PS X (.Assign [.Subscript o i pos'] value pos) (aIs td ty tv):=by
 intro bq s σ H D I h;refine wpAny_Assign_Subscript (thn (d bq s σ H _ I h) λr s1 ⟨v,f,j,k,l⟩=>thn (c bq s1 σ f _ j l) λu s2 ⟨x,m,n,p,q⟩=>thn (hi bq s2 σ m _ n q) λF s3 t=>?_) hs;obtain⟨y,G,w,z,a,B,ex,g,C⟩:=t;subst ex;obtain rfl:=p;exact ZX b w g z k λs4 E=>⟨σ,B,E,C⟩
end
def aCJ{P:Ue}(h:Heap)(a:sysModules<h.objs.size):eO P w H (h.push { cls:=.type "dict",data:=.dict #[] }) h.objs.size (.dK []):=
 ⟨E6 _,beq_eq_false_iff_ne.mpr<|J7<|B4 a,[],.nil,Heap.DictOf.new h⟩
def PZ{P:Ue}(h:Heap)(a:sysModules<h.objs.size):eO P w H (h.push { cls:=.type "dict",data:=.dict #[] }) h.objs.size (.dT []):=
 ⟨E6 _,beq_eq_false_iff_ne.mpr<|J7<|B4 a,[],.nil,_,#[],0,B3 _ rfl,⟨rfl,rfl,rfl⟩,rfl,rfl,List.nodup_nil⟩
def aCX:TE:=λ_ H Q=>∀p,H p=Y->Q (.ref p) (upd H p (.dT []))
section
variable{X:Cx}{pos:Pos}
def aEK:PE X (.Dict [] [] pos) aCX:=λbq s σ H Q I h=>
 wpAny_Dict_empty ⟨.ref s.heap.objs.size,_,I.laid (λ_ _ q=>A3 _ q) (A7 _)<|PZ s.heap I.big,rfl,h _<|I.hok.fresh<|A7 _⟩
end
structure M1(X:Cx)(o:Ud)(m:Str)(apos:Pos)(e:Ud)(cpos:Pos):Prop where
 base:attributeBase o m X.env (eval o X.env)=eval o X.env
 few:((backTo cpos<|bf [e] X.env).all (λx=>!x.1)&&(backToKw cpos<|keywordEach [] X.env).all (λx=>x.1.isSome)
  && decide (([e]:T8).length+([]:Tv Keyword).length+(if ([]:Tv Keyword).isEmpty then 0 else 1)<30))=true
 line:(apos.endLine==cpos.line)=true
 trees:backTo cpos (bf [e] X.env)=[(false,eval e X.env)]
structure M2(X:Cx)(o:Ud)(m:Str)(apos:Pos)(e f:Ud)(cpos:Pos):Prop where
 base:attributeBase o m X.env (eval o X.env)=eval o X.env
 few:((backTo cpos<|bf [e,f] X.env).all (λx=>!x.1)&&(backToKw cpos<|keywordEach [] X.env).all (λx=>x.1.isSome)
  && decide (([e,f]:T8).length+([]:Tv Keyword).length+(if ([]:Tv Keyword).isEmpty then 0 else 1)<30))=true
 line:(apos.endLine==cpos.line)=true
 trees:backTo cpos (bf [e,f] X.env)=[(false,eval e X.env),(false,eval f X.env)]
end L2
namespace Att
open PySem PySem.W PySem.Calls PyProof.Rows
def BF{P:Params}:∀(ns:T7)(vs:T5),WellAll P h vs (ns.map WData.int)->IntsAre vs ns:=by
 intro ns
 induction ns with
 |nil=>
  intro vs w;cases w;exact .nil
 |cons n ns ih=>
  intro vs w;cases w with
  |cons a b=>
   cases a;exact .cons _ _ (ih _ b)
def aBb{l:OpenLaw}{n:Nat}(hn:l.most=Z n){P:Params}
 (c:l.row.toRowW.claim.pre args=true) (i:WellAll P h b args):
 ∃a vs ns,b=[Value.ref a]/\args=[WData.list (ns.map WData.int)]/\h.get? a=Z { cls:=.type "list",data:=.seq vs.toArray }/\IntsAre vs ns/\ns.length<=n:=by
 have j:=(pre_splitW c).1;have m:l.pre.holds [] { args:=args }=true:=(pre_splitW c).2;obtain⟨d,r,rfl,o,p⟩:=hasAllW_cons j;obtain rfl:=hasAllW_nil p;obtain⟨xs,rfl,s⟩:=hasW_list o;obtain⟨ns,rfl⟩:=items_int s
 have e:ns.length<=n:=by
  have g:(WTm.not (.lt (.lit (.int (n:Int))) (.len (.arg 0)))).holds [] { args:=[.list (ns.map .int)] }=true:=by
   have g:=(holds_andW m).1;rw[hn]at g;exact g
  have k:=condW_of g<|w_not<|w_lt w_lit<|w_len_list<|w_arg rfl;refine Nat.le_of_not_lt λq=>?_
  first
   |(rw[C7 w]at k;exact absurd k (by decide))
   |(simp at k;omega)
 cases i with
 |cons t u=>
  cases u;cases t with
  |list v f=>exact⟨_,_,ns,rfl,rfl,v,BF ns _ f,e⟩
def aAt(l:OpenLaw)(args:Tv WData):l.row.toRowW.claim.post args (.bool true) args=true:=
 postW_of
  rfl
  (w_eq_bool (w_res rfl) w_lit) rfl
def attach_call{l:OpenLaw}{n:Nat}{XP:(Str->Tf)->Heap->Prop}{YP:World->Heap->Prop}{d:DefRec}
 (hn:l.most=Z n) (k:d.params.defaults=[])
 (call:∀(w:World)(s₀ c:Ub)(mg mb:Str->Tf)(fa:Uc)(o:Obj)(pm j doc:Tz)(a:Uc)(vs:T5)(ns:T7),
  Ground q loose [] XP w s₀ mg mb c.heap->YP w c.heap->
  c.heap.get? fa=Z o->o.data=.func (docDef d.name d.params d.body d.scope pm j doc)->c.heap.CodeRec j d.name->mg d.name=Z (.ref fa)->
  c.heap.get? a=Z { cls:=.type "list",data:=.seq vs.toArray }->IntsAre vs ns->ns.length<=n->c.gens=#[]->
  bj (bb l.prog w) callerA (.call (.ref fa) ⟨[.ref a],[]⟩) (λr s'=>r=.ok (.ret (.bool true))/\OldK c.heap s'.heap/\s'.os=c.os/\AllBare s'.gens) c):
 WalkO q loose XP YP l.row.toRowW d [] (λf vs=>PySem.call f vs):=by
 intro w s₀ c mg mb G b fa o pm j doc F kV x hd m t p y args u as g v z s A;obtain rfl:=Dflts.none t k;obtain rfl:=Dflts.noKw t;obtain⟨a,vs,ns,rfl,rfl,h,e,i⟩:=aBb hn g s;refine enter_call (A0n (call w s₀ c mg mb fa o pm j doc a vs ns G b x (fd_plain hd) m p h e i y) λr s' B=>?_);obtain⟨rfl,C,D,E⟩:=B;exact⟨.inl ⟨.bool true,.bool true,[],rfl,λ_=>rfl,.bool true,aAt l _,λ_=>⟨List.Pairwise.nil,λ_ hm=>(nomatch hm)⟩⟩,C,D,E⟩
section
variable{prog:Ue}{w:World}{A:Uf}{E:T1}{s:Ub}{K:Frag}
end
end Att
namespace L2
open PySem PySem.Spec PyProof.Rows
theorem GX:∀{vs:T5}{ns:T7},IntsAre vs ns->bA (ns.map V.int) vs
 |_,_,.nil=>.nil
 |_,_,.cons n t h=>.cons ⟨t,rfl⟩ (GX h)
def aLv(H:Hp):Prop:=∀b,H b=Y\/∃o xs,H b=Z (.frz o (.lst xs))
def aDs{P:Ue}{K:Fg}{a:Uc}{x:Str}{sp:Sp}{c:Ub}{vs:T5}
 (KX:K.In c.heap) (p:c.heap.Ns bh mg) (g:c.heap.Ns builtinsNs mb) (E:∀x:Str,x≠"__name__"->mb x=bootBuiltins x) (t:c.heap.NoLimit) (G:∃U,c.heap.Ns sysModules U) (I:∃bm ob,mg "__builtins__"=Z (.ref bm)/\bm≠builtinsNs/\c.heap.get? bm=Z ob/\ob.cls=.type "module"/\ob.dict=Z builtinsNs/\ob.data=.plain) (hg:c.gens=#[])
 (ha:c.heap.get? a=Z { cls:=.type "list",data:=.seq vs.toArray }) (hi:IntsAre vs ns) (W:ns.length<=ba) (hr:cE k callerA)
 (F:∀base:Heap,K.In base->base.Ns bh mg->jH P w K mg base CX k fa fd [x] sp) (l:∀(s:Ub)(u:Tz),BindsTo s fd ⟨[u],[]⟩ [(x,u)])
 (J:∀H:Hp,aLv H->SqL K H a (ns.map V.int)->sp [.ref a] H (λv _=>v=.bl true) λ_ _ _=>False)
 (L:∀H e s',CX [] H c (λ_ _ _=>False) e s'->False):
 bj (bb P w) callerA (.call (.ref fa) ⟨[.ref a],[]⟩) (λr s'=>r=.ok (.ret (.bool true))/\OldK c.heap s'.heap/\s'.os=c.os/\AllBare s'.gens) c:=by
 have X:=GX hi;have y:=hi.length
 have j:∀H:Hp,aLv H->SqL K H a (ns.map V.int)->HOk P w H c.heap->(∀b,H b≠Y->b=a)->(H a≠Y->K.lookup a=Y)->
  bj (bb P w) callerA (.call (.ref fa) ⟨[.ref a],[]⟩) (λr s'=>r=.ok (.ret (.bool true))/\OldK c.heap s'.heap/\s'.os=c.os/\AllBare s'.gens) c:=by
  intro H hO hS hok M hK;have f:∀{b:Uc}{o:Obj},c.heap.get? b=Z o->H b=Y->(PR c.heap H).get? b=Z o:=λe n=>aDh e n
  have N:∀{b:Uc}{o:Obj}{es:Array DictEntry}{ep:Nat},c.heap.get? b=Z o->o.data=.dict es ep->H b=Y:=λ{b o es ep} e d=>by
   cases q:H b with
   |none=>rfl
   |some u=>
    have A:=M b (by grind);subst A;rw[ha]at e;cases e;have d':=d;cases d'
  have i:∀{b:Uc}{m:Str->Tf},c.heap.Ns b m->(PR c.heap H).Ns b m:=λ{b m} ⟨o,es,ep,e,d,r⟩=>⟨o,es,ep,f e<|N e d,d,r⟩
  have B:=λb o e=>f (KX b o e) (by
   cases q:H b with
   |none=>rfl
   |some u=>
    have A:=M b (by grind);subst A;rw[hK (by grind)]at e;cases e)
  have hM:Mod K mg (PR c.heap H):=⟨B,i p,⟨mb,i g,E⟩,(let⟨mc,O,Q⟩:=t;⟨mc,i O,Q⟩),(let⟨U,R⟩:=G;let⟨o,es,ep,O,Q,_⟩:=i R;⟨o,es,ep,O,Q⟩),(let⟨bm,ob,b1,b2,S,b4,b5,b6⟩:=I;⟨bm,ob,b1,b2,f S (by
   cases q:H bm with
   |none=>rfl
   |some u=>
    have A:=M bm (by grind);rw[A,ha]at S;cases S;cases b6),b4,b5,b6⟩)⟩
  have e0:TC P w K mg (PR c.heap H) callerA [] c H:=⟨rfl,hM,λb o e=>aIe e,Nat.le_of_eq<|YT _ _,trivial,λb g=>absurd (show b∈([]:Ta)from g) (by simp),hok,.of_eq hg⟩;refine A0n ((F _ B<|i p).run callerA [] c H ⟨[.ref a],[]⟩ [.ref a] [.ref a] _ _ hr e0 (l c (.ref a)) (.cons rfl .nil) (J H hO hS)) λr s' h=>?_;cases r with
  |error e=>exact(L H e s' h).elim
  |ok fl=>
   cases fl with
   |next=>exact False.elim h
   |brk=>exact False.elim h
   |cont=>exact False.elim h
   |ret u=>
    obtain⟨v,H',os,bare,un,C,r',q⟩:=h;have q':=q;subst q';obtain rfl:=r';refine⟨rfl,OldK.of_keep λb o e=>?_,os,bare⟩;cases q:H b with
    |none=>exact un.keep b o e q (by intro z;exact absurd (show b∈([]:Ta)from z) (by simp)) (by simp)
    |some u=>
     obtain z|⟨ob,xs,z⟩:=hO b
     .rw[q]at z;cases z
     .have z2:=un.frzs b ob _ z;obtain⟨e1,_⟩:=hok b _ z;obtain⟨e2,_⟩:=C b _ z2;rw[e]at e1;cases e1;exact e2
 cases T:K.lookup a with
 |some o=>
  have e:=KX a o T;rw[ha]at e;cases e;refine j (λ_=>Y) (λ_=>.inl rfl) (.inr ⟨_,vs.toArray,_,T,rfl,rfl,rfl,by rw[D9,y];exact W,by simpa using X⟩) (λb u z=>by have D:=z;cases D) (λb z=>absurd rfl z) λz=>absurd rfl z
 |none=>
  refine j (λb=>if b=a then Z (.frz { cls:=.type "list",data:=.seq vs.toArray } (.lst (ns.map V.int)))else Y) (λb=>?_) (.inl (.inr ⟨{ cls:=.type "list",data:=.seq vs.toArray },A4 rfl⟩)) (λb u z=>?_) (λb z=>?_) λ_=>T
  .by_cases g:b=a
   .exact .inr ⟨_,_,A4 g⟩
   .exact .inl (A5 g)
  .by_cases g:b=a
   .have D:=(A4 g).symm.trans z;cases D;subst g;exact⟨ha,by rw[A1];exact W,vs,_,X,ha⟩
   .have D:=(A5 g).symm.trans z;cases D
  .by_cases g:b=a
   .exact g
   .exact absurd (A5 g) z
noncomputable abbrev KOf{K:Fg}{h:Heap}(_:K.In h):Fg:=K
def walk_of{l:W.OpenLaw}{n:Nat}(C:PyProof.Rows.importsNone q=true){YP:World->Heap->Prop}{d:DefRec}{K:Params->Fg}{CX:World->CXT}{sp:World->Sp}{x:Str}
 (hn:l.most=Z n) (r:n<=ba) (t:d.params.defaults=[]) (D:cE k callerA)
 (E:∀(w:World)(h:Heap),YP w h->(K w.params).In h)
 (F:∀(w:World)(mg:Str->Tf)(fa:Uc)(h:Heap),(K w.params).In h->h.Ns bh mg->mg d.name=Z (.ref fa)->
  ∃fd:FuncData,(∀(s:Ub)(u:Tz),BindsTo s fd ⟨[u],[]⟩ [(x,u)]) /\
   ∀base:Heap,(K w.params).In base->base.Ns bh mg->jH l.prog w (K w.params) mg base (CX w) k fa fd [x] (sp w))
 (y:∀(w:World)(H:Hp)(a:Uc)(ns:T7),ns.length<=n->aLv H->SqL (K w.params) H a (ns.map V.int)->sp w [.ref a] H (λv _=>v=.bl true) λ_ _ _=>False)
 (z:∀(w:World)(H:Hp)(s:Ub)(e:Tz)(s':Ub),CX w [] H s (λ_ _ _=>False) e s'->False):
 W.WalkO q loose XP YP l.row.toRowW d [] (λf vs=>PySem.call f vs):=by
 refine Att.attach_call hn t λw s₀ m mg mb fa o pm P doc a vs ns G c Q hd I A p j i J=>?_;have KX:=E w _ c;obtain⟨fd,L,M⟩:=F w mg fa _ KX G.T.g A;exact aDs KX G.T.g G.T.b G.T.builtins G.T.nolimit (let⟨N,B,_⟩:=(G.T.seer C).mods;⟨N,B⟩) G.T.bmain J p j (C6 i r) D M L (λH O hS=>y w H a ns i O hS) λH e s'=>z w H m e s'
end L2
namespace L2
variable{F H H':Hp}{W:Wd}{K:Fg}{M:Sto}{γ:Ga}
open PySem PySem.Spec PyProof.Rows
noncomputable def inClass(s:Stmt)(j:Nat):Stmt:=match s with
 |.ClassDef _ _ _ a _ _ _ _ _ _ _=>a.getD j (.Pass ⟨0,0,0,0⟩)
 |_=>.Pass ⟨0,0,0,0⟩
def eE(s:Stmt):Arguments:=match s with
 |.FunctionDef _ a _ _ _ _ _ _ _ _=>a
 |_=>{ posonlyargs:=[],args:=[],vararg:=Y,kwonlyargs:=[],kw_defaults:=[],kwarg:=Y,defaults:=[] }
noncomputable def bU(s:Stmt):T9:=match s with
 |.FunctionDef _ _ b _ _ _ _ _ _ _=>b
 |_=>[]
noncomputable def aI(s:Stmt):Scope:=match s with
 |.FunctionDef _ _ _ _ _ _ sc _ _ _=>sc
 |_=>{ kind:=.function,names:=[],isGenerator:=false,isCoroutine:=false }
noncomputable abbrev CX0:CXT:=λ_ _ _ _ _ _=>False
noncomputable abbrev E0:XK:=λ_ _ _=>False
def aIM:UF CX0 X E0:=λ_ _ _ _ _ _ _ h=>h.elim
structure Fun(K:Fg)(x qual:Str)(st:Stmt)(f:Uc)(fd:FuncData):Prop where
 ex:∃(oc:Tz)(od:Th)(kV doc pm:Tz)(an:Th)(cdv ct:Tz)(osl:Array (Tf)),
  fd=PySem.W.fnOf x qual (eE st) (bU st) (aI st) .none kV doc pm an cdv ct/\K.lookup f=Z ⟨oc,od,.func fd,osl⟩/\PySem.W.codeIn K cdv qual=true
 kp:PySem.W.keepIn K (.ref f)=true
section
variable{P:Ue}{w:World}{K:Fg}{mg:Str->Tf}{base:Heap}
def Fun.ok{st:Stmt}{sp:Sp}{q:Bool}(F:Fun K x qual st f fd)(S:aU N ps (aI st))(len:∀vs H Q E,sp vs H Q E->vs.length=ps.length)
 (a:∀(cdv:Tz)(A:Uf)(outer:Tv Env)(s:Ub)(H:Hp)(vs:Tc)(Q:VK)(E:XK),cE k (A.deeper<|envOfC qual (aI st) s.heap.objs.size f cdv) q->sp vs H Q E->
  ∃t,PSs (mZ CX0 P w K mg base N qual (aI st) f cdv A outer s H E q).nox (bU st) t/\t { nx:=λ_ H'=>Q .non H',rt:=Q } (start N vs) H):jH P w K mg base CX0 (k+1) f fd ps sp q:=by
 obtain⟨oc,od,kV,doc,pm,an,cdv,ct,osl,rfl,d,b⟩:=F.ex;refine aIj d b S len λA outer s H vs Q E e c=>?_;obtain⟨t,h,z⟩:=a cdv A outer s H vs Q E e c;exact⟨t,h.nox,z⟩
def Fun.binds{x qual:Str}{st:Stmt}{f:Uc}{fd:FuncData}{ps:Tb}(F:Fun K x qual st f fd)
 (h:∀(kV doc pm:Tz)(an:Th)(cdv ct:Tz)(us:T5),us.length=ps.length->bindArgs (PySem.W.fnOf x qual (eE st) (bU st) (aI st) .none kV doc pm an cdv ct) ⟨us,[]⟩=pure (ps.zip us)):Binds K fd ps []:=by
 obtain⟨oc,od,kV,doc,pm,an,cdv,ct,osl,rfl,b,a⟩:=F.ex;exact .all (h kV doc pm an cdv ct)
def aEh{x qual:Str}{st:Stmt}{f:Uc}{oc:Tz}{od an:Th}{osl:Array (Tf)}{kV doc pm cdv ct:Tz}(l:K.lookup f=Z ⟨oc,od,.func (PySem.W.fnOf x qual (eE st) (bU st) (aI st) .none kV doc pm an cdv ct),osl⟩)
 (c:PySem.W.codeIn K cdv qual=true) (k:PySem.W.keepIn K (.ref f)=true):Fun K x qual st f (PySem.W.fnOf x qual (eE st) (bU st) (aI st) .none kV doc pm an cdv ct):=⟨⟨oc,od,kV,doc,pm,an,cdv,ct,osl,rfl,l,c⟩,k⟩
end
section
variable{X:Cx}
def pv(i:Nat){x:Str}(b:X.N[i]?=Z x:=by rfl)(c:Vis X.env.scope x:=by first|exact Or.inl rfl|exact Or.inr (Or.inl rfl)|exact Or.inr<|Or.inr rfl)(hd:(x==("__debug__":Str))=false:=by decide)
 (a:(x==("__classdict__":Str))=false:=by decide):PE X (.Name x pos) (aEE i):=KN b c hd a
end
def jK(H H':Hp):Prop:=∀b o,H b=Z o->H' b=Z o
def jK.refl(H:Hp):jK H H:=λ_ _ h=>h
def jK.trans(a:jK H d)(b:jK d e):jK H e:=λc o h=>b c o<|a c o h
def jK.free(e:jK H H')(h:H' l=Option.none):H l=Option.none:=by
 cases q:H l with
 |none=>rfl
 |some o=>
  rw[e l o q]at h;cases h
def jK.seq(e:jK H H')(h:SqL K H a xs):SqL K H' a xs:=by
 obtain(h|⟨o,h⟩)|h:=h
 .exact .inl (.inl (e _ _ h))
 .exact .inl (.inr ⟨o,e _ _ h⟩)
 .exact .inr h
noncomputable def eZ(env:Env):Tv (Tl)->Tv (Str×Uc)->Tv (Str×Uc)
 |[],cs=>cs
 |y::r,cs=>eZ env r (if (y.2==NameKind.free)=true then(y.1,(env.cells.lookup y.1).getD 0)::cs else cs)
theorem uR{env:Env}:∀(l:Tv (Tl))(cs:Tv (Str×Uc)),(∀y∈l,y.2=.free->∃c,env.cells.lookup y.1=Z c)->
 (forIn l cs λ(x:Tl)(r:Tv (Str×Uc))=>if (x.2==NameKind.free)=true then(do
  let a <- cellOf env x.1
  pure (ForInStep.yield ((x.1,a)::r)))else pure (ForInStep.yield r))=(pure (eZ env l cs):Sem (Tv (Str×Uc)))
 |[]=>λcs _=>rfl
 |y::l=>λcs h=>by
  rw[List.forIn_cons];by_cases b:(y.2==NameKind.free)=true
  .obtain⟨c,e⟩:=h y B0 (by grind);have f:cellOf env y.1=pure c:=by unfold cellOf;rw[e]
   rw[A4 b,f];show(forIn l ((y.1,c)::cs) _:Sem _)=_;rw[uR l _ λz d=>h z<|B1 _ d]
   conv=>rhs;unfold eZ
   rw[A4 b,e];rfl
  .rw[A5 b];show(forIn l cs _:Sem _)=_;rw[uR l _ λz d=>h z<|B1 _ d]
   conv=>rhs;unfold eZ
   rw[A5 b]
def vJ{scope:Scope}{env:Env}(h:∀y∈scope.names,y.2=.free->∃c,env.cells.lookup y.1=Z c):closureFor scope env=pure (eZ env scope.names []):=by
 have e:=uR scope.names [] h
 show((forIn scope.names ([]:Tv (Str×Uc)) λx (r:Tv (Str×Uc))=>if (x.2==NameKind.free)=true then(do
  let a <- cellOf env x.1
  pure (ForInStep.yield ((x.1,a)::r)))else pure (ForInStep.yield r)) >>= λz=>pure z:Sem (Tv (Str×Uc)))=_
 rw[e];rfl
theorem HM{env:Env}:∀(l:Tv (Tl))(cs:Tv (Str×Uc)),(∀y∈l,y.2=.free->∃c,env.cells.lookup y.1=Z c)->(∀x c,cs.lookup x=Z c->env.cells.lookup x=Z c)->
 ∀x c,(eZ env l cs).lookup x=Z c->env.cells.lookup x=Z c
 |[]=>λcs _ h x c e=>h x c e
 |y::l=>λcs i h x c e=>by
  refine HM l _ (λz g=>i z<|B1 _ g) ?_ x c e;intro z d a;by_cases j:(y.2==NameKind.free)=true
  .rw[A4 j]at a;obtain⟨c',f⟩:=i y B0 (by grind);rw[f]at a;rw[D6]at a;by_cases g:(z==y.1)=true
   .rw[g]at a;have b:z=y.1:=by grind
    rw[b,f];exact a
   .have b:(z==y.1)=false:=by grind
    rw[b]at a;exact h z d a
  .rw[A5 j]at a;exact h z d a
theorem yG:∀(l:Tv (Tl))(cs:Tv (Str×Uc))(x:Str),((x,NameKind.free)∈l\/∃c,cs.lookup x=Z c)->∃c,(eZ env l cs).lookup x=Z c
 |[]=>λcs x h=>by
  obtain h|h:=h
  .exact absurd h (by simp)
  .exact h
 |y::l=>λcs x h=>by
  refine yG l _ x ?_;obtain h|⟨c,b⟩:=h
  .obtain e|e:=List.mem_cons.mp h
   .subst e;refine .inr ?_;rw[A4 (by rfl)];exact⟨(env.cells.lookup x).getD 0,by rw[D6];simp⟩
   .exact .inl e
  .refine .inr ?_;by_cases d:(y.2==NameKind.free)=true
   .rw[A4 d,D6];by_cases f:(x==y.1)=true
    .rw[f];exact⟨_,rfl⟩
    .have a:(x==y.1)=false:=by grind
     rw[a];exact⟨c,b⟩
   .rw[A5 d];exact⟨c,b⟩
theorem uL{env:Env}:∀{names:Tv (Tl)}{x:Str}{k:NameKind},
 (names.map λ(y:Tl)=>if (y.2==NameKind.free&&env.scope.kind==.function&&env.kindOf y.1==Z .cell)=true then(y.1,NameKind.cell)else(y.1,y.2)).lookup x=Z k->
 (names.lookup x=Z k)\/(names.lookup x=Z .free/\k=.cell)
 |[],x,k=>λh=>by simp at h
 |y::r,x,k=>λh=>by
  rw[B2]at h;by_cases c:(x==y.1)=true
  .by_cases b:(y.2==NameKind.free&&env.scope.kind==.function&&env.kindOf y.1==Z .cell)=true
   .rw[A4 b,D6,c]at h;rw[D6,c];have:y.2=.free:=by grind
    refine .inr ⟨by rw[this],?_⟩;cases h;rfl
   .rw[A5 b,D6,c]at h;rw[D6,c];exact .inl h
  .have a:(x==y.1)=false:=by grind
   have h':(r.map λy=>if (y.2==NameKind.free&&env.scope.kind==.function&&env.kindOf y.1==Z .cell)=true then(y.1,NameKind.cell)else(y.1,y.2)).lookup x=Z k:=by
    by_cases b:(y.2==NameKind.free&&env.scope.kind==.function&&env.kindOf y.1==Z .cell)=true
    .rw[A4 b,D6,a]at h;exact h
    .rw[A5 b,D6,a]at h;exact h
   rw[D6,a];exact uL h'
theorem DL{env:Env}:∀{names:Tv (Tl)}{x:Str},names.lookup x=Z .free->
 (names.map λ(y:Tl)=>if (y.2==NameKind.free&&env.scope.kind==.function&&env.kindOf y.1==Z .cell)=true then(y.1,NameKind.cell)else(y.1,y.2)).lookup x=Z .cell \/
 (names.map λ(y:Tl)=>if (y.2==NameKind.free&&env.scope.kind==.function&&env.kindOf y.1==Z .cell)=true then(y.1,NameKind.cell)else(y.1,y.2)).lookup x=Z .free
 |[],x=>λh=>by simp at h
 |y::r,x=>λh=>by
  rw[B2];by_cases c:(x==y.1)=true
  .rw[D6,c]at h;have d:=D5 h;by_cases b:(y.2==NameKind.free&&env.scope.kind==.function&&env.kindOf y.1==Z .cell)=true
   .rw[A4 b,D6,c];exact .inl rfl
   .rw[A5 b,D6,c];exact .inr (by rw[d])
  .have a:(x==y.1)=false:=by grind
   rw[D6,a]at h;have ih:=DL (env:=env) h;by_cases b:(y.2==NameKind.free&&env.scope.kind==.function&&env.kindOf y.1==Z .cell)=true
   .rw[A4 b,D6,a];exact ih
   .rw[A5 b,D6,a];exact ih
def GB(X:Cx)(ifs:T8)(t:TT):Prop:=
 ∀(bq:T2)(s:Ub)(a:St)(H:Hp)(Q:Bool->Hp->Prop),Inv X bq a H s->t a H Q->
  bc (bb X.prog X.w) X.A (forIn ifs true λc r=>if r=true then(do
   let ok <- isTrue c X.env (eval c X.env)
   pure (ForInStep.yield ok))else pure (ForInStep.yield r)) (TP X bq a Q) X.xe s
noncomputable def aMK:TT:=λ_ H Q=>Q true H
def aEr:GB X [] aMK:=λ_ _ _ H _ I h=>wpAny_tests_nil ⟨H,I,h⟩
def aFb(h:PT X c t):GB X [c] t:=λbq s a H Q I b=>wpAny_tests_one<|h bq s a H Q I b
section
variable{prog:Ue}{w:World}{A:Uf}{R:Result->Ub->Prop}{s:Ub}
def WA{iter:Ud}{scope:Scope}{acc:Tz}(I:Nat->Ub->Prop)
 (b:∀n s,I n s->bc (bb prog w) A (pyNext it) (λr s1=>(r=Y/\R (.ok .next) s1)\/∃v,r=Z v /\
  bc (bb prog w) A (bn a it v) (λ_ s2=>bc (bb prog w) A (assign a env v) (λ_ s3=>
   bc (bb prog w) A (forIn ifs true λc r=>if r=true then(do
    let ok <- isTrue c env (eval c env)
    pure (ForInStep.yield ok))else pure (ForInStep.yield r)) (λok s4=>
     (ok=true/\bc (bb prog w) A (eval elt env) (λx g=>bc (bb prog w) A (call (.builtin "list.append") [acc,x]) (λ_ i=>∃m,m<n/\I m i) (λ_ _=>False) g) (λ_ _=>False) s4) \/
     (ok=false/\∃m,m<n/\I m s4)) (λ_ _=>False) s3) (λ_ _=>False) s2) (λ_ _=>False) s1) (λ_ _=>False) s)
 (n:Nat) (h:I n s):bj (bb prog w) A (.compLoop (.ListComp elt [⟨a,iter,ifs,0⟩] scope pos) 0 it acc env) R s:=by
 refine codeAny_loop rfl I (λn s j=>?_) n h
 show bc _ A ((compTurn (.ListComp elt [⟨a,iter,ifs,0⟩] scope pos) 0 it acc env).onRaise λx=>do
  noteFrame x env
  theTreesLotGoes x) _ _ s
 refine wpAny_noted ?_;refine A0<|Y7<|A0 (E3 (b n s j) (λr s1 d=>?_) λ_ _ f=>f.elim);obtain⟨rfl,d⟩|⟨v,rfl,d⟩:=d
 .exact A6 d
 .refine A0 (E3 d (λ_ s2 k=>?_) λ_ _ f=>f.elim);refine A0 (E3 k (λ_ s3 l=>?_) λ_ _ f=>f.elim);refine A0 (E3 l (λok s4 e=>?_) λ_ _ f=>f.elim);obtain⟨rfl,e⟩|⟨rfl,e⟩:=e
  .refine A0<|A0 (E3 e (λx g o=>?_) λ_ _ f=>f.elim);exact A0 (E3 o (λ_ i p=>A6<|A6 ⟨rfl,p⟩) λ_ _ f=>f.elim)
  .exact A6 ⟨rfl,e⟩
end
def cO(X:Cx)(N':Tb)(scope:Scope)(C:Uc)(s2:Ub)(a:Hp)(fp:Ta)(pn:T2):Cx:=
 { X with N:=N',s₀:=s2,H₀:=a,env:=compEnvC scope (eZ X.env scope.names []) C X.env,outer:=X.stack,stack:=X.stack,ex:=fp,fn:=λ_=>false,pn:=X.pn++pn,xe:=λ_ _=>False }
noncomputable def tM(cap:T3)(a:St):St:=cap.map λo=>o.bind λj=>(a[j]?).join
structure nU(X:Cx)(N':Tb)(cap:T3)(scope:Scope):Prop where
 nocell:∀y∈scope.names,y.2≠.cell
 kind:scope.kind=.function
 names:∀y∈scope.names,y.2=.local->scope.names.lookup y.1=Z .local
 frees:∀y∈scope.names,y.2=.free->X.env.kindOf y.1=Z .cell\/X.env.kindOf y.1=Z .free
 len:cap.length=N'.length
 cap:∀(i j:Nat),cap[i]?=Z (Z j)->∃x,N'[i]?=Z x/\X.N[j]?=Z x/\scope.names.lookup x=Z .free
section
variable{X:Cx}{N':Tb}{cap:T3}{scope:Scope}{bq:T2}{σ:St}{H:Hp}{s:Ub}
def nU.cells(S:nU X N' cap scope)(ok:X.Ok):∀y∈scope.names,y.2=.free->∃c,X.env.cells.lookup y.1=Z c:=λy a b=>ok.has y.1<|S.frees y a b
def nU.sub(S:nU X N' cap scope)(ok:X.Ok):∀x c,(eZ X.env scope.names []).lookup x=Z c->X.env.cells.lookup x=Z c:=
 HM scope.names [] (S.cells ok) λx c e=>by simp at e
def nU.kinds(S:nU X N' cap scope)(h:(compEnvC scope cl C X.env).kindOf x=Z .cell\/(compEnvC scope cl C X.env).kindOf x=Z .free):scope.names.lookup x=Z .free:=by
 obtain h|h:=h
 .obtain q|⟨q,_⟩:=uL h
  .exact absurd rfl<|S.nocell _<|J8 q
  .exact q
 .obtain q|⟨q,_⟩:=uL h
  .exact q
  .exact q
def Inv.stkAll(I:Inv X bq σ H s){b:Uc}(a:b≠X.env.locals)(c:b∉X.fs):b∉frs X.stack:=λd=>(List.mem_cons.mp<|I.stkSub b d).elim a c
def EH(S:nU X N' cap scope)(I:Inv X bq σ H s){fp:Ta}{E:Heap}{C:Uc}{tk:Nat}(w:∀b∈fp,nZ X bq H b)(G:∀b∈fp,b<s.heap.objs.size)
 (A:s.heap.objs.size<=C) (hn:E.Ns C λ_=>Y) (h:∀b o,s.heap.get? b=Z o->E.get? b=Z o):
 Inv (cO X N' scope C s H fp bq) [] (tM cap σ) H { s with heap:=E,toks:=tk }:=by
 have B:∀x c,X.env.cells.lookup x=Z c->c<s.heap.objs.size:=λx c e=>by
  obtain⟨v,q⟩:=I.cell x c e;exact q.lt
 have fresh:=I.hok.fresh A
 have ok:(cO X N' scope C s H fp bq).Ok:=by
  refine⟨I.ok.mod,S.kind,I.ok.glob,I.ok.blt,A,λx y c J L=>?_,λx N=>?_,λx c N _=>?_,I.ok.hd,I.ok.frames,.inl rfl,λb g=>⟨?_,λx c e=>?_⟩,I.bs,C6 I.ok.bsz I.sz,λb o e g=>?_,λb g=>?_,I.stack,I.stkFree⟩
  .exact I.ok.inj x y c (S.sub I.ok x c J)<|S.sub I.ok y c L
  .exact yG scope.names [] x (.inl (J8<|S.kinds N))
  .exact absurd N (by show ¬(false=true);decide)
  .exact B4<|C2 (G b g) A
  .exact(w b g).2.2.2.2.1 x c (S.sub I.ok x c e)
  .obtain z|z:=(w b g).2.2.2.1
   .exact I.ok.noex b o e z
   .exact absurd (C2 (A9 (I.ok.bs b o e).1) z)<|L8 _
  .exact I.stkAll (w b g).2.1 (w b g).2.2.1
 refine⟨ok,rfl,I.bare,Un.kept h,⟨_,hn,λi x v J L h3=>?_⟩,λx c e=>?_,fresh,λx c e=>I.freeC x c<|S.sub I.ok x c e,λp T=>?_,I.hok.kept h,?_⟩
 .
  have a:(cap[i]?).map (λo=>o.bind λj=>(σ[j]?).join)=Z (Z v):=by
   have:(tM cap σ)[i]?=Z (Z v):=L;unfold tM at this;rw[D3]at this;exact this
  cases e:cap[i]? with
  |none=>rw[e]at a;simp at a
  |some o=>
   cases o with
   |none=>rw[e]at a;simp at a
   |some j=>
    rw[e]at a;obtain⟨D,U,V,O⟩:=S.cap i j e
    have ex:D=x:=by
     have:N'[i]?=Z x:=J;rw[U]at this;exact D5 this
    subst ex
    have sv:σ[j]?=Z (Z v):=by
     have q:(σ[j]?).join=Z v:=D5 a;cases f:σ[j]? with
     |none=>rw[f]at q;simp at q
     |some o=>rw[f]at q;cases o with
      |none=>simp at q
      |some v'=>simp at q;rw[q]
    have R:=S.frees _ (J8 O) rfl;obtain⟨m,hm,hl⟩:=I.loc;obtain⟨u,r,l⟩:=hl j D v V sv (R.elim (λz=>.inr (.inl z)) λz=>.inr (.inr z));refine⟨u,r,.inr ⟨?_,?_⟩⟩
    .exact DL O
    .obtain⟨k,_⟩|⟨_,c,hc,o,P,hd⟩:=l
     .obtain z|z:=R<;>rw[z]at k<;>cases k
     .obtain⟨c',t⟩:=yG scope.names [] D (.inl (J8 O));have:=S.sub I.ok D c' t;rw[hc]at this;cases this;exact⟨c,t,o,h c o P,hd⟩
 .obtain⟨v,o,P,hd⟩:=I.cell x c<|S.sub I.ok x c e;exact⟨v,o,h c o P,hd⟩
 .have Q:p∈X.pn++bq:=by
   obtain z|z:=List.mem_append.mp T
   .exact z
   .exact absurd z (by simp)
  obtain⟨e,n,ne,nf,d⟩:=I.pin p Q;exact⟨h _ _ e,n,B4<|C2 (A9 e) A,I.stkAll ne nf,d⟩
 .show(tM cap σ).length=N'.length;unfold tM;rw[A1];exact S.len
end
def tLc(cap:T3)(j:TI)(g:TG)(k:TT)(l:TE):TE:=λe H Q=>j e H λJ n=>∃W:Nat->Nat->Tc->St->Hp->Prop,(∃m,W 0 m [] (tM cap e) n)/\∀i m acc c H',W i m acc c H'->
 (J.stop i H'/\∀p,H' p=Y->Q (.ref p) (upd H' p (.lst acc))) \/
 (J.go i H'/\acc.length<ba/\∃N:Tc->St->Hp->Prop,(∀acc' a d,N acc' a d->∃f,f<m/\W (i+1) f acc' a d)/\∀x d,J.yld i H' x d->g x c d λa o=>k a o λb h=>(b=true/\l a h λv q=>N (acc++[v]) a q)\/(b=false/\N acc a h))
section
variable{X:Cx}{N':Tb}{cap:T3}{scope:Scope}
def aCM{elt tg iter:Ud}{ifs:T8}{pos:Pos}{wi:TI}{g:TG}{tc:TT}{te:TE}(hc:X.calm=true)(S:nU X N' cap scope)(hi:PI X tg iter wi)
 (hg:∀C s H fp pn,PG (cO X N' scope C s H fp pn) tg g) (ac:∀C s H fp pn,GB (cO X N' scope C s H fp pn) ifs tc) (he:∀C s H fp pn,PE (cO X N' scope C s H fp pn) elt te)
 (hs:∀x,bg iter X.env x=pure x) {bq:T2} {s:Ub} {σ:St} {H:Hp} {Q:VK} (I:Inv X bq σ H s) (h:tLc cap wi g tc te σ H Q)
 {P:Tw (Tz->Sem Unit)} {QQ:T1}
 (a1:∀(D C:Uc)(H':Hp)(acc:Tc)(s':Ub),D≠C->(∃m,s'.heap.Ns C m)->(∀h',Heap.SameBut C s'.heap h'->Inv X bq σ (upd H' D (.lst acc)) { s' with heap:=h' })->nZ X bq (upd H' D (.lst acc)) C->Q (.ref D) (upd H' D (.lst acc))->compPost (bb X.prog X.w) X.A X.xe P QQ (.ref D) C (.ok .next) s'):
 bc (bb X.prog X.w) X.A (comprehension (.ListComp elt [⟨tg,iter,ifs,0⟩] scope pos) scope X.env (firstIterPos [⟨tg,iter,ifs,0⟩] pos) (newList []) false (firstIter [⟨tg,iter,ifs,0⟩] X.env) P) QQ X.xe s:=by
 refine wpAny_comprehension_free rfl hs (vJ<|S.cells I.ok) S.kind S.names ?_;refine thn (hi bq s σ H _ I h) λv s1 h1=>thn h1 λar s2 h2=>?_;obtain⟨it,fp,tn,J,k,e,G,T,R,f2,W,⟨m0,w0⟩,a2⟩:=h2;subst e
 have f:∀b∈fp,b<s2.heap.objs.size:=λb a=>by
  obtain⟨o,e,_⟩:=T.obj _ _ R b a;exact A9 e
 refine D1<|wpAny_newFunctionEnv S.nocell (λy hy=>by simp at hy) (λa3 a4 a5=>?_) S.kind;generalize hP:s2.heap.push { cls:=.type "list",dict:=Y,data:=.seq ([]:T5).toArray }=P2 at a4 a5 ⊢;have a6:P2.objs.size=s2.heap.objs.size+1:=by rw[<- hP,S5]
 have j:s2.heap.objs.size≠P2.objs.size:=by rw[a6];exact B4<|F6 _
 have hC:s2.heap.objs.size<=P2.objs.size:=by rw[a6];exact Z8 _
 have l:=λb o e a=>a5.extBut b o a<|A3 _ e;have U:=λb o e=>l b o (by rw[<- hP];exact A3 _ e)<|B4<|C2 (A9 e) hC;have ae:=l _ _ (by rw[<- hP];exact B3 _ rfl) j
 have I4:Inv (cO X N' scope P2.objs.size s2 k fp bq) [] (tM cap σ) k { s2 with heap:=a3,toks:=s2.toks+([]:Tt).length }:=
  EH S G f2 f hC (by simpa using a4) U
 have O:∀s4:Ub,s4={ s2 with heap:=a3,toks:=s2.toks+([]:Tt).length }->
  bj (bb X.prog X.w) X.A (.compLoop (.ListComp elt [⟨tg,iter,ifs,0⟩] scope pos) 0 (.ref it) (.ref s2.heap.objs.size) (compEnvC scope (eZ X.env scope.names []) P2.objs.size X.env)) (compPost (bb X.prog X.w) X.A X.xe P QQ (.ref s2.heap.objs.size) P2.objs.size) s4:=by
  rintro s4 rfl
  have a7:s2.heap.objs.size∉frs X.stack:=λa=>by
   obtain⟨_,o,ho,_⟩:=G.stack.mem a;exact absurd (A9 ho)<|L8 _
  have cne:∀x c,(eZ X.env scope.names []).lookup x=Z c->c<s2.heap.objs.size:=λx c e=>by
   obtain⟨v,q⟩:=G.cell x c<|S.sub G.ok x c e;exact q.lt
  have t:∀{Hx:Hp}{ob:Obj},(∀b∈fp,Hx b=Y)->∀b∈fp,nZ (cO X N' scope P2.objs.size s2 k fp bq) [(s2.heap.objs.size,ob)] Hx b:=λ{Hx ob} hn b a=>by
   refine⟨hn b a,B4<|C2 (f b a) hC,G.stkAll (f2 b a).2.1 (f2 b a).2.2.1,.inl a,λx c e=>(f2 b a).2.2.2.2.1 x c (S.sub G.ok x c e),λp B=>?_⟩;obtain z|z:=List.mem_append.mp B
   .exact(f2 b a).2.2.2.2.2 p z
   .rw[List.mem_singleton.mp z];exact E9<|f b a
  refine WA (λn s'=>∃(i:Nat)(d:St)(H':Hp)(acc:Tc)(its:T5)(nn:Nat),Inv (cO X N' scope P2.objs.size s2 k fp bq) [] d H' s'/\tn i s'.heap/\(∀b∈fp,H' b=Y)/\H' s2.heap.objs.size=Y /\
   s'.heap.get? s2.heap.objs.size=Z { cls:=.type "list",data:=.seq its.toArray nn }/\bA acc its/\acc.length<=ba/\W i n acc d H') ?_ m0
   ⟨0,tM cap σ,k,[],[],0,I4,T.keep _ _ _ R λb _ o e=>U b o e,λb a=>(f2 b a).1,G.hok.fresh<|A7 _,ae,.nil,E6 _,w0⟩
  rintro n s5 ⟨i,d,H',acc,its,nn,I5,t5,a8,d5,g5,va,la,w5⟩
  have I5p:Inv (cO X N' scope P2.objs.size s2 k fp bq) [(s2.heap.objs.size,{ cls:=.type "list",data:=.seq its.toArray nn })] d H' s5:=I5.pins_of λp B=>by
   rw[List.mem_singleton.mp B];exact⟨g5,d5,j,a7,λv z=>by cases z⟩
  obtain⟨stop,q⟩|⟨go,lt,N,hN,step⟩:=a2 i n acc d H' w5
  .refine thn (T.done (cO X N' scope P2.objs.size s2 k fp bq) rfl rfl rfl hc i _ s5 d H' _ I5p (t a8) t5 stop) λr s6 ⟨hr,I6⟩=>.inl ⟨hr,?_⟩;have d6:=(I6.pin (s2.heap.objs.size,{ cls:=.type "list",data:=.seq its.toArray nn }) (by simp)).1;have nC:=I6.free;refine a1 _ _ H' acc s6 j (let⟨m,hn,_⟩:=I6.loc;⟨m,hn⟩) (λh' a0=>?_) (G.fpOk hC (by rw[aK j.symm];exact nC))<|q _ d5;have up:=λb o a e=>a0.extBut b o a e;have L:∀b o,s2.heap.get? b=Z o->b≠P2.objs.size/\b≠s2.heap.objs.size:=λb o e=>⟨B4<|C2 (A9 e) hC,B4<|A9 e⟩;have u6:=I6.base
   have u7:Un (frs X.stack) fp k (upd H' s2.heap.objs.size (.lst acc)) s2.heap h':=by
    refine⟨λb o e n a hx=>up b o (L b o e).1 (u6.keep b o e n a hx),λb o e n a hx=>?_,λb o e n hx=>?_,λb o e hx=>?_,λb xs e=>?_,λb o u e=>?_,λb ps e=>?_⟩
    .obtain⟨sl,q⟩:=u6.slot b o e n a hx;exact⟨sl,up b _ (L b o e).1 q⟩
    .rw[aK (L b o e).2];exact u6.free b o e n hx
    .obtain⟨o',q⟩:=u6.there b o e hx;exact⟨o',up b o' (L b o e).1 q⟩
    .have z:=u6.tups b xs e;rw[aK (aN z d5)];exact z
    .have z:=u6.frzs b o u e;rw[aK (aN z d5)];exact z
    .obtain⟨more,z⟩:=u6.tbls b ps e;exact⟨more,by rw[aK (aN z d5)];exact z⟩
   have af:HOk X.prog X.w (upd H' s2.heap.objs.size (.lst acc)) h':=λb u e=>by
    by_cases a:b=s2.heap.objs.size
    .subst a;rw[aS]at e;cases e;exact⟨la,its,nn,va,up _ _ j d6⟩
    .rw[aK a]at e;refine(I6.hok b u e).stay (λc v ag z=>up c v ?_ z) (λc z=>by rw[aK (aN z d5)];exact z) λc xs z=>by rw[aK (aN z d5)];exact z
     obtain rfl|z:=ag
     .exact aN e nC
     .exact aN z nC
   have ah:=I6.os;have ai:=I6.bare;obtain⟨hh,gg,dd,tt,oo⟩:=s6;subst ah;have z7:=G.call (d':=dd) (t':=tt) u7 af ai λb a=>⟨(f2 b a).2.2.2.1,(f2 b a).2.1,(f2 b a).2.2.2.2.1,(f2 b a).2.2.2.2.2⟩;exact z7
  .refine thn (T.item (cO X N' scope P2.objs.size s2 k fp bq) rfl rfl rfl hc i _ s5 d H' _ I5p (t a8) t5 go) λr s6 ⟨u,hr,h6⟩=>.inr ⟨u,hr,?_⟩;refine thn h6 λ_ s7 ⟨x,H7,I7,r7,y7,t7,aj⟩=>?_;have ak:=I7.pinned (t aj) (T.obj _ _ t7)
   have back:∀{a9:St}{Hx:Hp}{sx:Ub},Inv (cO X N' scope P2.objs.size s2 k fp bq) ([(s2.heap.objs.size,{ cls:=.type "list",data:=.seq its.toArray nn })]++sG fp s7.heap) a9 Hx sx->
    (∀b∈fp,∀o,s7.heap.get? b=Z o->sx.heap.get? b=Z o)/\(∀b∈fp,Hx b=Y)/\sx.heap.get? s2.heap.objs.size=Z { cls:=.type "list",data:=.seq its.toArray nn }/\Hx s2.heap.objs.size=Y:=λ{a9 Hx sx} Ix=>by
    refine⟨λb a o e=>(Ix.pin (b,o)<|B5 _<|B5 _<|eD a e).1,λb a=>?_,?_,?_⟩
    .obtain⟨o,e,_⟩:=T.obj _ _ t7 b a;exact(Ix.pin (b,o)<|B5 _<|B5 _<|eD a e).2.1
    .exact(Ix.pin (s2.heap.objs.size,_)<|B5 _<|E5 _<|List.mem_singleton.mpr rfl).1
    .exact(Ix.pin (s2.heap.objs.size,{ cls:=.type "list",data:=.seq its.toArray nn })<|B5 _<|E5 _<|List.mem_singleton.mpr rfl).2.1
   refine thn (hg _ _ _ _ _ _ s7 d H7 x u _ ak r7<|step x H7 y7) λ_ s8 ⟨E,H8,I8,q8⟩=>?_;refine thn (ac _ _ _ _ _ _ s8 E H8 _ I8 q8) λb s9 ⟨H9,I9,q9⟩=>?_;obtain⟨rfl,q9⟩|⟨rfl,n9⟩:=q9
   .refine .inl ⟨rfl,thn (he _ _ _ _ _ _ s9 E H9 _ I9 q9) λuv am ⟨v,aa,ab,rv,ao⟩=>?_⟩;obtain⟨m',hm,ap⟩:=hN _ _ _ ao;obtain⟨b1,b2,b3,b4⟩:=back ab;refine wpAny_list_append_plain ⟨nn,b3⟩ (λh' B a0=>?_) (by rw[D9,<- va.length];exact la);obtain⟨n2,e2⟩:=B;have up:=λb o a e=>a0.extBut b o a e;have I10':Inv (cO X N' scope P2.objs.size s2 k fp bq) [] E aa am:=ab.pins_of λp B=>absurd B (by simp);refine⟨m',hm,i+1,E,aa,acc++[v],its++[uv],n2,I10'.turned up b4 j (.inr (A7 _)) (λx c e=>B4<|cne x c e) λp B=>?_,T.keep _ _ _ t7 λb a o e=>up b o (B4<|f b a)<|b1 b a o e,b2,b4,?_,va.append (.cons rv .nil),?_,ap⟩
    .have aq:p∈X.pn++bq:=by
      obtain z|z:=List.mem_append.mp B
      .exact z
      .exact absurd z (by simp)
     exact B4<|A9 (G.pin p aq).1
    .rw[e2];simp
    .rw[B9,F0];exact lt
   .obtain⟨m',hm,w9⟩:=hN _ _ _ n9;obtain⟨b1,b2,b3,b4⟩:=back I9;exact .inr ⟨rfl,m',hm,i+1,E,H9,acc,its,nn,I9.pins_of λp B=>absurd B (by simp),T.keep _ _ _ t7 b1,b2,b4,b3,va,la,w9⟩
 exact codeAny_compStart_list (O _ rfl)<|T.self _ 0 _ _ _ (T.keep _ _ _ R λb _ o e=>U b o e)<|O _ rfl
def pe_lc(f:X.calm=true)(S:nU X N' cap scope)(hi:PI X tg iter c)
 (i:∀C s H fp pn,PG (cO X N' scope C s H fp pn) tg g) (a:∀C s H fp pn,GB (cO X N' scope C s H fp pn) ifs d) (j:∀C s H fp pn,PE (cO X N' scope C s H fp pn) elt e)
 (hs:∀x,bg iter X.env x=pure x:=by intro _;rfl):PE X (.ListComp elt [⟨tg,iter,ifs,0⟩] scope pos) (tLc cap c g d e):=by
 intro bq s o H Q I h;refine aCM f S hi i a j hs I h λD C H' acc s' k ⟨m,hn⟩ l _ n=>⟨m,hn,λh' b=>?_⟩;exact⟨.ref D,_,l h' b,rfl,n⟩
def aBp{i:Nat}{x:Str}{elt tg iter:Ud}{ifs:T8}{pos d c:Pos}{r:TI}{g:TG}{t:TT}{u:TE}(A:X.N.Nodup)(f:X.N[i]?=Z x)(B:X.calm=true)(S:nU X N' cap scope)(hi:PI X tg iter r)
 (G:∀C s H fp pn,PG (cO X N' scope C s H fp pn) tg g) (j:∀C s H fp pn,GB (cO X N' scope C s H fp pn) ifs t) (J:∀C s H fp pn,PE (cO X N' scope C s H fp pn) elt u)
 (k:swapsWith (.ListComp elt [⟨tg,iter,ifs,0⟩] scope pos) (Z (.Name x d)) c.line X.env=pure true:=by rfl) (y:X.env.scope.names.lookup x=Z .local:=by rfl)
 (hs:∀x,bg iter X.env x=pure x:=by intro _;rfl):PS X (.Assign [.Name x d] (.ListComp elt [⟨tg,iter,ifs,0⟩] scope pos) c) (aCe (tLc cap r g t u)<|NQ i):=by
 intro bq s V H D I h;rw[exec_Assign_Name_used _ _ _ _ k];refine A0<|Y7<|A0 ?_;refine A0 (thn (aCM B S hi G j J hs I h λE C H' acc s' L ⟨m,hn⟩ O fC P=>?_) λ_ s' Q=>A6<|A6 Q);have R:=O s'.heap<|Heap.SameBut.refl ..;refine wpAny_assign_Name<|IU R A f (.inl y) (v:=.ref E) rfl (λs2 T l=>?_) (.inr y);obtain⟨a,n,ha⟩:=l
 have p:C≠a:=by
  obtain z|z:=ha
  .rw[z];exact fC.2.1
  .exact λw=>fC.2.2.2.2.1 x a z w.symm
 refine⟨m,hn.extBut n.extBut p,λh' q=>?_⟩;exact⟨_,_,T.turned (λb o U e=>q.extBut b o U e) fC.1 fC.2.1 fC.2.2.2.1 fC.2.2.2.2.1 fC.2.2.2.2.2,P⟩
end
noncomputable def GR:Key->Ua
 |.inl i=>.int i
 |.inr x=>.str x
mutual
noncomputable def Rep(K:Fg)(H:Hp):Ua->V->Prop
 |.none,v=>v=.non
 |.bool b,v=>v=.bl b
 |.int i,v=>v=.int i
 |.str x,v=>v=.str x
 |.list xs,v=>∃a vs,v=.ref a/\SqL K H a vs/\aM K H xs vs
 |.tuple xs,v=>∃a vs,v=.ref a/\SqT K H a vs/\aM K H xs vs
 |.dict kvs,v=>∃a ks,v=.ref a/\H a=Z (.dK ks)/\sJ K H kvs ks
noncomputable def aM(K:Fg)(H:Hp):T4->Tc->Prop
 |[],vs=>vs=[]
 |d::e,vs=>∃v r,vs=v::r/\Rep K H d v/\aM K H e r
noncomputable def sJ(K:Fg)(H:Hp):Tv (Ua×Ua)->Tv (Key×V)->Prop
 |[],ks=>ks=[]
 |(k,d)::kvs,ks=>∃c v r,ks=(c,v)::r/\k=GR c/\Rep K H d v/\sJ K H kvs r
end
def jK.seqT(e:jK H H')(h:SqT K H a xs):SqT K H' a xs:=by
 obtain h|h:=h
 .refine .inl ?_;obtain h|⟨o,h⟩:=h
  .exact .inl (e _ _ h)
  .exact .inr ⟨o,e _ _ h⟩
 .exact .inr h
mutual
theorem Rep.same{K:Fg}{H H':Hp}(e:jK H H'):∀(d:Ua)(v:V),Rep K H d v->Rep K H' d v
 |.none=>λv h=>h
 |.bool b=>λv h=>h
 |.int i=>λv h=>h
 |.str x=>λv h=>h
 |.list xs=>λv h=>by
  obtain⟨a,vs,c,f,g⟩:=h;exact⟨a,vs,c,e.seq f,aM.same e xs vs g⟩
 |.tuple xs=>λv h=>by
  obtain⟨a,vs,c,f,g⟩:=h;exact⟨a,vs,c,e.seqT f,aM.same e xs vs g⟩
 |.dict kvs=>λv h=>by
  obtain⟨a,ks,c,f,g⟩:=h;exact⟨a,ks,c,e _ _ f,sJ.same e kvs ks g⟩
theorem aM.same{K:Fg}{H H':Hp}(e:jK H H'):∀(j:T4)(vs:Tc),aM K H j vs->aM K H' j vs
 |[]=>λvs h=>h
 |d::j=>λvs h=>by
  obtain⟨v,r,c,f,g⟩:=h;exact⟨v,r,c,Rep.same e d v f,aM.same e j r g⟩
theorem sJ.same{K:Fg}{H H':Hp}(e:jK H H'):∀(kvs:Tv (Ua×Ua))(ks:Tv (Key×V)),sJ K H kvs ks->sJ K H' kvs ks
 |[]=>λks h=>h
 |(k,d)::kvs=>λks h=>by
  obtain⟨l,v,r,c,f,g,m⟩:=h;exact⟨l,v,r,c,f,Rep.same e d v g,sJ.same e kvs r m⟩
end
theorem aM.length{K:Fg}{H:Hp}:∀{ds:T4}{vs:Tc},aM K H ds vs->ds.length=vs.length
 |[],vs=>λh=>by rw[show vs=[]from h];rfl
 |d::ds,vs=>λh=>by
  obtain⟨v,r,a,_,b⟩:=h;rw[a,C0,C0,aM.length b]
theorem aM.get{K:Fg}{H:Hp}:∀{ds:T4}{vs:Tc}{i:Nat}{v:V},aM K H ds vs->vs[i]?=Z v->∃d,ds[i]?=Z d/\Rep K H d v
 |[],vs,i,v=>λh e=>by rw[show vs=[]from h]at e;simp at e
 |d::ds,vs,0,v=>λh e=>by
  obtain⟨w,r,a,b,c⟩:=h;rw[a]at e;simp at e;subst e;exact⟨d,rfl,b⟩
 |d::ds,vs,i+1,v=>λh e=>by
  obtain⟨w,r,a,b,c⟩:=h;rw[a]at e;exact aM.get (i:=i) c (by simpa using e)
theorem aM.app{K:Fg}{H:Hp}:∀{ds es:T4}{vs ws:Tc},aM K H ds vs->aM K H es ws->aM K H (ds++es) (vs++ws)
 |[],es,vs,ws=>λh k=>by rw[show vs=[]from h];exact k
 |d::ds,es,vs,ws=>λh k=>by
  obtain⟨v,r,a,b,c⟩:=h;exact⟨v,r++ws,by rw[a];rfl,b,aM.app c k⟩
section
variable{X:Cx}{bq:T2}{σ:St}{H:Hp}{s:Ub}
def Inv.sysN(I:Inv X bq σ H s):H sysModules=Y:=by
 obtain⟨o,es,ep,h,_⟩:=I.mod.sysm;exact(I.bs _ _ h).2
def Inv.sysL(I:Inv X bq σ H s)(h:SqL X.K H a xs):sysModules≠a:=by
 intro e;subst e;have hn:=I.sysN;obtain(h|⟨o,h⟩)|⟨o,its,n,c,_,_,hd,_⟩:=h
 .rw[hn]at h;cases h
 .rw[hn]at h;cases h
 .obtain⟨o',es,ep,h',b⟩:=I.mod.sysm;have:=I.mod.kin _ _ c;rw[h']at this;cases this;rw[hd]at b;cases b
mutual
theorem Rep.reads'(I:Inv X bq σ H s):∀(d:Ua)(v:V)(u:Tz),Rep X.K H d v->RelV v u->∃as,Reads s.heap u d as/\sysModules∉as
 |.none=>λv u r q=>by
  rw[show v=.non from r]at q;rw[show u=Value.none from q];exact⟨_,.none,by simp⟩
 |.bool b=>λv u r q=>by
  rw[show v=.bl b from r]at q;rw[show u=Value.bool b from q];exact⟨_,.bool b,by simp⟩
 |.int i=>λv u r q=>by
  rw[show v=.int i from r]at q;obtain⟨t,rfl⟩:=(show ∃t,u=Value.int i t from q);exact⟨_,.int i t,by simp⟩
 |.str x=>λv u r q=>by
  rw[show v=.str x from r]at q;obtain⟨t,rfl⟩:=(show ∃t,u=Value.str x t from q);exact⟨_,.str x t,by simp⟩
 |.list xs=>λv u r q=>by
  obtain⟨a,vs,rfl,c,f⟩:=r;rw[show u=Value.ref a from q];obtain⟨its,B,⟨o,n,g,h,_,hd⟩,_⟩:=I.list c;obtain⟨as,ha,hs⟩:=aM.reads' I xs vs its f B;exact⟨_,.list g h hd (by simpa using ha),λz=>(List.mem_cons.mp z).elim (I.sysL c) hs⟩
 |.tuple xs=>λv u r q=>by
  obtain⟨a,vs,rfl,c,f⟩:=r;rw[show u=Value.ref a from q];obtain⟨its,B,⟨o,g,h,n,hd⟩,_⟩:=I.tuple c;obtain⟨as,ha,hs⟩:=aM.reads' I xs vs its f B;exact⟨_,.tuple g h hd (by simpa using ha),hs⟩
 |.dict kvs=>λv u r q=>by
  obtain⟨a,ks,rfl,c,f⟩:=r;rw[show u=Value.ref a from q];obtain⟨_,hS,vs,C,o,es,ep,g,D,hd,_,O,_⟩:=(show eO X.prog X.w H s.heap a (.dK ks)from I.hok a _ c);obtain⟨as,bs,P,Q,n1,j⟩:=sJ.reads' I kvs ks vs es.toList f C O;refine⟨_,.dict g D.1 hd P Q,λz=>?_⟩;obtain z|z:=List.mem_append.mp z
  .obtain z|z:=List.mem_cons.mp z
   .rw[z]at hS;simp at hS
   .exact n1 z
  .exact j z
theorem aM.reads'(I:Inv X bq σ H s):∀(y:T4)(vs:Tc)(us:T5),aM X.K H y vs->bA vs us->∃as,ReadsAll s.heap us y as/\sysModules∉as
 |[]=>λvs us r q=>by
  rw[show vs=[]from r]at q;cases q;exact⟨_,.nil,by simp⟩
 |d::y=>λvs us r q=>by
  obtain⟨v,t,rfl,c,f⟩:=r;cases q with
  |cons A E=>
   obtain⟨as,ha,n1⟩:=Rep.reads' I d v _ c A;obtain⟨bs,G,j⟩:=aM.reads' I y t _ f E;exact⟨_,.cons ha G,λz=>(List.mem_append.mp z).elim n1 j⟩
theorem sJ.reads'(I:Inv X bq σ H s):∀(kvs:Tv (Ua×Ua))(ks:Tv (Key×V))(vs:Tv (Key×Tz))(es:Tv DictEntry),sJ X.K H kvs ks->KV ks vs->Pairs (eM X.prog X.w) es vs->
 ∃as bs,ReadsAll s.heap (es.map (·.key)) (kvs.map (·.1)) as/\ReadsAll s.heap (es.map (·.val)) (kvs.map (·.2)) bs/\sysModules∉as/\sysModules∉bs
 |[]=>λks vs es r q p=>by
  rw[show ks=[]from r]at q;cases q;cases p;exact⟨_,_,.nil,.nil,by simp,by simp⟩
 |(k,d)::kvs=>λks vs es r q p=>by
  obtain⟨R,v,t,rfl,S,c,f⟩:=r;cases q with
  |@cons _ N _ T A E=>
   cases p with
   |@cons e _ U _ p1 p2 p3=>
    obtain⟨as,bs,ha,G,n1,j⟩:=sJ.reads' I kvs t _ _ f E p3;obtain⟨cs,h,n3⟩:=Rep.reads' I d v _ c A.2
    have l:Reads s.heap e.key k []:=by
     rw[S];have m:EN N.1 e.key=true:=p1;rw[<- show R=N.1 from A.1]at m;obtain⟨i,J,rfl,L⟩|⟨x,J,rfl,L⟩:=dE m
     .rw[L];exact .int i J
     .rw[L];exact .str x J
    refine⟨_,_,.cons l ha,.cons (show Reads s.heap e.val d cs by rw[p2];exact h) G,by simpa using n1,λz=>(List.mem_append.mp z).elim n3 j⟩
end
def Rep.reads(I:Inv X bq σ H s)(d:Ua)(v:V)(u:Tz)(r:Rep X.K H d v)(q:RelV v u):∃as,Reads s.heap u d as:=let⟨as,h,_⟩:=Rep.reads' I d v u r q;⟨as,h⟩
def aM.reads(I:Inv X bq σ H s)(ds:T4)(vs:Tc)(us:T5)(r:aM X.K H ds vs)(q:bA vs us):∃as,ReadsAll s.heap us ds as:=let⟨as,h,_⟩:=aM.reads' I ds vs us r q;⟨as,h⟩
end
section
variable{X:Cx}
def aAm(K:Fg)(neg:Bool):R2:=λx y H Q=>∃dx a,Rep K H dx x/\Rep K H a y/\bo dx=true/\bo a=true/\Q (.bl (if neg then !bp dx a else bp dx a)) H
def aDX(a:X.A.units+64<cLine):OpR X (bi .Eq) (aAm X.K false):=by
 intro bq s k H x y v u Q I b c h;obtain⟨dx,d,e,f,g,i,q⟩:=h;obtain⟨as,ha⟩:=Rep.reads I dx x v e b;obtain⟨bs,j⟩:=Rep.reads I d y u f c;exact eq_dataH ha j g i a ⟨.bl _,H,I,rfl,q⟩
def aMc(a:X.A.units+64<cLine):OpR X (bi .NotEq) (aAm X.K true):=by
 intro bq s k H x y v u Q I b c h;obtain⟨dx,d,e,f,g,i,q⟩:=h;obtain⟨as,ha⟩:=Rep.reads I dx x v e b;obtain⟨bs,j⟩:=Rep.reads I d y u f c;exact ne_dataH ha j g i a ⟨.bl _,H,I,rfl,q⟩
open Classical in
noncomputable def FY(h:Heap)(dv:Ua)(u:Tz):Bool:=if ∃d as,Reads h u d as/\bp d dv=true then true else false
def aFS(r:Reads h u d as)(b:d.canLay0=true):FY h dv u=bp d dv:=by
 unfold FY;by_cases e:bp d dv=true
 .rw[A4 ⟨d,as,r,e⟩,e]
 .rw[A5,Bool.eq_false_iff.mpr e];rintro⟨c,a,f,g⟩;have:=SeqAt.Reads.unique d c u as a b r f;subst this;exact e g
theorem DC{A:Uf}{s:Ub}(b:Reads s.heap v dv h)(c:bo dv=true)(f:A.units+64<cLine):
 ∀(us:T5)(ds:T4)(as:Ta),ReadsAll s.heap us ds as->ds.all bo=true->(∀y∈us,SeqAt.EqAt A s y v<|FY s.heap dv y)/\us.any (FY s.heap dv)=ds.any λd=>bp d dv
 |[]=>λds as r _=>by
  cases r;exact⟨λy a=>absurd a (by simp),rfl⟩
 |y::us=>λds as r hs=>by
  cases r with
  |@cons _ _ d i j k g l=>
   rw[List.all_cons,B8]at hs;obtain⟨m,n⟩:=DC b c f us _ _ l hs.2;have e:=aFS (dv:=dv) g<|Y4 hs.1;have a:SeqAt.EqAt A s y v (bp d dv):=SeqAt.eqAt_reads d dv A s y v _ _ g b (Y4 hs.1) (Y4 c)<|SeqAt.room_of_shaped hs.1 f;refine⟨λz o=>?_,by rw[S8,S8,e,n]⟩;obtain q|q:=List.mem_cons.mp o
   .rw[q,e];exact a
   .exact m z q
def aLu(K:Fg)(neg:Bool):R2:=λx y H Q=>∃dx a p vs,Rep K H dx x/\y=.ref p/\(SqL K H p vs\/SqT K H p vs)/\aM K H a vs/\bo dx=true/\a.all bo=true /\
 Q (.bl (if neg then !a.any λd=>bp d dx else a.any λd=>bp d dx)) H
def aKs(i:X.A.in1.units+64<cLine):OpR X (bi .In) (aLu X.K false):=by
 intro bq s o H x y v u Q I k l h;obtain⟨dx,c,p,vs,m,rfl,hp,a,j,b,q⟩:=h;cases l;obtain⟨as,ha⟩:=Rep.reads I dx x v m k;obtain hp|hp:=hp
 .obtain⟨its,r,pl,n⟩:=I.list hp;obtain⟨bs,d⟩:=aM.reads I c vs its a r;obtain⟨e,f⟩:=DC (A:=X.A.in1) ha j i its c bs d b;refine SeqAt.in_listAt (FY s.heap dx) pl.isList (λw g=>e w (by simpa using g)) ⟨.bl _,H,I,rfl,?_⟩;rw[show its.toArray.any (FY s.heap dx)=its.any (FY s.heap dx)by simp,f];exact q
 .obtain⟨its,r,pl,n⟩:=I.tuple hp;obtain⟨bs,d⟩:=aM.reads I c vs its a r;obtain⟨e,f⟩:=DC (A:=X.A.in1) ha j i its c bs d b;refine SeqAt.in_tupleAt (FY s.heap dx) pl (λw g=>e w (by simpa using g)) ⟨.bl _,H,I,rfl,?_⟩;rw[show its.toArray.any (FY s.heap dx)=its.any (FY s.heap dx)by simp,f];exact q
theorem bA.types:∀{Ts:Tv String}{its:T5},bA (Ts.map V.ty) its->its=Ts.map Value.type
 |[],_=>λh=>by cases h;rfl
 |t::Ts,its=>λh=>by
  cases h with
  |cons a b=>rw[show _=Value.type t from a,bA.types b];rfl
theorem bA.bools:∀{bs:Tv Bool}{its:T5},bA (bs.map V.bl) its->its=bs.map Value.bool
 |[],_=>λh=>by cases h;rfl
 |b::bs,its=>λh=>by
  cases h with
  |cons a c=>rw[show _=Value.bool b from a,bA.bools c];rfl
def all_range(bs:Tv Bool):(List.range bs.length).all (λi=>bs.getD i false)=bs.all id:=by
 rw[Z1];simp only[List.all_eq_true,List.mem_range];constructor
 .intro h b a;obtain⟨i,hi,rfl⟩:=List.mem_iff_getElem.mp a;have:=h i hi;rw[D2,C4 hi]at this;exact this
 .intro h i hi;rw[D2,C4 hi];exact h _<|S0 hi
def OE{bs:Tv Bool}:TruthOf prog w A (λi v=>(bs.map Value.bool).toArray[i]?=Z v) (λi=>bs.getD i false):=by
 intro i v s Q E a d;rw[List.getElem?_toArray,D3]at a;cases e:bs[i]? with
 |none=>rw[e]at a;cases a
 |some b=>
  rw[e]at a;cases a;have f:bs.getD i false=b:=by rw[D2,e];rfl
  have c:Q (bs.getD i false) s:=d;rw[f]at c;exact L9 c
noncomputable def AA:Nat:=2 ^ 8000
def aDH(i:Int):Prop:=i.natAbs<AA
def NL(h:aDH j):j.natAbs.log2<9000:=by
 by_cases a:j.natAbs=0
 .rw[a];decide +kernel
 .exact S7 ((Nat.log2_lt a).mpr h) (by decide)
def aMX(i j:Int):Prop:=aDH i/\aDH j
def HX(h:aDH j):Builtin.Int.intBits j<=2 ^ 20:=by
 unfold Builtin.Int.intBits;by_cases a:(j==0)=true
 .rw[A4 a];exact E6 _
 .rw[A5 a];have:=NL h;omega
end
structure Callee(P:Ue)(w:World)(K:Fg)(mg:Str->Tf)(base:Heap)(k:Nat)(x:Str)(ps:Tb)(sp:Sp)(q:Bool:=true):Prop where
 ex:∃f fd,jH P w K mg base CX0 k f fd ps sp q/\mg x=Z (.ref f)/\PySem.W.keepIn K (.ref f)=true/\Binds K fd ps []
structure Def(K:Fg)(mg:Str->Tf)(x:Str)(st:Stmt):Prop where
 ex:∃f fd,Fun K x x st f fd/\mg x=Z (.ref f)
section
variable{P:Ue}{w:World}{K:Fg}{mg:Str->Tf}{base:Heap}{X:Cx}
def Def.ok{st:Stmt}{ps:Tb}{sp:Sp}{q:Bool}(D:Def K mg x st)(S:aU N ps (aI st))
 (b:∀(kV doc pm:Tz)(an:Th)(cdv ct:Tz)(us:T5),us.length=ps.length->bindArgs (PySem.W.fnOf x x (eE st) (bU st) (aI st) .none kV doc pm an cdv ct) ⟨us,[]⟩=pure (ps.zip us))
 (len:∀vs H Q E,sp vs H Q E->vs.length=ps.length)
 (a:∀(f:Uc)(cdv:Tz)(A:Uf)(outer:Tv Env)(s:Ub)(H:Hp)(vs:Tc)(Q:VK)(E:XK),cE k (A.deeper<|envOfC x (aI st) s.heap.objs.size f cdv) q->sp vs H Q E->
  ∃t,PSs (mZ CX0 P w K mg base N x (aI st) f cdv A outer s H E q).nox (bU st) t/\t { nx:=λ_ H'=>Q .non H',rt:=Q } (start N vs) H):Callee P w K mg base (k+1) x ps sp q:=by
 obtain⟨f,fd,F,m⟩:=D.ex;exact⟨f,fd,F.ok S len λcdv A outer s H vs Q E c h=>a f cdv A outer s H vs Q E c h,m,F.kp,F.binds b⟩
def def_mk{st:Stmt}{oc:Tz}{od:Th}{osl:Array (Tf)}{kV doc:Tz}(X:K.In h)(G:h.Ns bh mg)(a:PySem.W.nsIn K bh x=Z (Z (.ref f)))
 (l:K.lookup f=Z ⟨oc,od,.func (PySem.W.fnOf x x (eE st) (bU st) (aI st) .none kV doc pm an cdv ct),osl⟩) (c:PySem.W.codeIn K cdv x=true) (k:PySem.W.keepIn K (.ref f)=true):Def K mg x st:=
 ⟨f,_,aEh l c k,I0 X G a⟩
def aMg{e:Ud}{es:T8}(C:Callee X.prog X.w X.K X.mg X.base k x ps sp q)(d:cE k X.A q)(ha:PA X (e::es) t)(g:Gl X x:=by rfl)
 (a:(x==("__debug__":Str))=false:=by decide) (h:bf (e::es) X.env=(false,eval e X.env)::bf es X.env:=by rfl) (c:(backTo pos<|bf es X.env).any (·.1)=false:=by rfl):
 PE X (.Call (.Name x p) (e::es) [] pos) (aCn sp [] E0 t):=by
 obtain⟨f,fd,F,m,kp,b⟩:=C.ex;exact aGe F d g m kp b .nil aIM ha a h c
def cE.units1(r:cE k A):A.in1.units+64<cLine:=by have:=r.un;show A.units+1+64<_;omega
def ZL(mg:Str->Tf)(xs:Tb):Prop:=∀x∈xs,mg x=Y
def ZL.of(h:ZL mg xs)(x:Str)(a:x∈xs:=by decide +kernel):mg x=Y:=h x a
def aEN:ZL mg []:=λ_ h=>absurd h (by simp)
def dG{x:Str}(h:mg x=Y)(a:ZL mg xs):ZL mg (x::xs):=λy b=>(List.mem_cons.mp b).elim (λe=>e▸h) (a y)
def QV(i j:Int):Prop:=aLd i j\/aMX i j
def QV.ok(h:QV i j):IntMulOk i j:=by
 obtain h|h:=h
 .exact h.ok
 .exact IntMulOk.of_bits (HX h.1)<|HX h.2
def aGP:OpR X (binaryOp .Mult) (rI QV λi j=>.int (i*j)):=opI λ_ _ _ _ _ _ _ a q=>mul_int q a.ok
def aIV(_ j:Int):Prop:=0<j/\aDH j
def aEk:OpR X (binaryOp .FloorDiv) (rI aIV λi j=>.int (i / j)):=opI λi j _ _ _ _ _ a q=>by
 refine floordiv_int (Int.ne_of_gt a.1) ?_ (.inl (PyProof.noPylong_of_log2<|NL a.2));rw[Int.fdiv_eq_ediv_of_nonneg _ (Int.le_of_lt a.1)];exact q
end
def aBf(sc0:Scope)(N N':Tb)(cap:T3)(scope:Scope):Bool:=
 scope.names.all (λy=>y.2 != .cell)&&(scope.kind==.function)&&scope.names.all (λy=>y.2 != .local || scope.names.lookup y.1==Z .local) &&
 scope.names.all (λy=>y.2 != .free || (sc0.names.lookup y.1==Z .cell || sc0.names.lookup y.1==Z .free))&&(cap.length==N'.length) &&
 (List.range cap.length).all λi=>match cap[i]? with
  |some (some j)=>(match N'[i]?,N[j]? with
   |some x,some y=>x==y&&scope.names.lookup x==Z .free
   |_,_=>false)
  |_=>true
def WC{X:Cx}{sc0:Scope}{N:Tb}(n:X.env.scope=sc0)(o:X.N=N)(h:aBf sc0 N N' cap scope=true):nU X N' cap scope:=by
 unfold aBf at h;simp only[Bool.and_eq_true,List.all_eq_true,beq_iff_eq,bne_iff_ne,Bool.or_eq_true,List.mem_range]at h;obtain⟨⟨⟨⟨⟨a,b⟩,c⟩,d⟩,e⟩,f⟩:=h;refine⟨a,b,λy l m=>?_,λy l m=>?_,e,λi j k=>?_⟩
 .obtain z|z:=c y l
  .exact absurd m z
  .exact z
 .show X.env.scope.names.lookup y.1=_\/X.env.scope.names.lookup y.1=_;rw[n];obtain z|z:=d y l
  .exact absurd m z
  .exact z
 .have hi:=(List.getElem?_eq_some_iff.mp k).1;have g:=f i hi;rw[k]at g;dsimp only at g;rw[o];split at g
  .rename_i x y ex p;rw[B8,beq_iff_eq,beq_iff_eq]at g;exact⟨x,ex,by rw[p,g.1],g.2⟩
  .cases g
noncomputable def tyName:Ua->String
 |.none=>"NoneType"
 |.bool _=>"bool"
 |.int _=>"int"
 |.str _=>"str"
 |.list _=>"list"
 |.tuple _=>"tuple"
 |.dict _=>"dict"
noncomputable def asked:Tv String:=["int","bool","str","list","tuple","dict"]
noncomputable def isT(T S:String):Bool:=T==S || (T=="int"&&S=="bool")
def FB(T:String)(d:Ua):Bool:=isT T<|tyName d
def aMz(S T:String):Tw Bool:=if (Value.type S==Value.type T)=true then Z true else if PySem.W.kitMeta T=true then(PySem.fastBuiltinMro S).map (·.contains (Value.type T))else Y
def aDn:(["NoneType","bool","int","str","list","tuple","dict"].all λS=>asked.all λT=>aMz S T==Z (isT T S))=true:=by decide +kernel
def aFk{T:String}(h:T∈asked):PySem.W.kitOne K (.type (tyName d)) (.type T)=Z (FB T d):=by
 have e:PySem.W.kitOne K (.type (tyName d)) (.type T)=aMz (tyName d) T:=rfl;have a:=aDn;rw[List.all_eq_true]at a;have b:=a (tyName d) (by cases d<;>simp[tyName]);rw[List.all_eq_true]at b;exact eq_of_beq<|b T h
theorem XE{K:Fg}:∀{Ts:Tv String},(∀T∈Ts,T∈asked)->PySem.W.kitAny K (.type (tyName d)) (Ts.map Value.type)=Z (Ts.any λT=>FB T d)
 |[]=>λ_=>rfl
 |T::Ts=>λh=>by
  rw[B2];unfold PySem.W.kitAny;rw[aFk (h T B0),S8];cases FB T d with
  |true=>rfl
  |false=>rw[Bool.false_or];exact XE λU a=>h U<|B1 _ a
section
variable{X:Cx}
def WS{H:Hp}(I:Inv X bq g H s):∀{d:Ua}{v:V}{u:Tz},Rep X.K H d v->RelV v u->∃Hc:Heap->Prop,PySem.W.KitX X.K u (.type (tyName d)) Hc/\Hc s.heap/\u≠.builtin "__main__.__loader__#opaque"
 |.none,v,u=>λh r=>by
  rw[show v=.non from h]at r;cases r;exact⟨_,PySem.W.kitx_none,True.intro,λz=>nomatch z⟩
 |.bool b,v,u=>λh r=>by
  rw[show v=.bl b from h]at r;cases r;exact⟨_,PySem.W.kitx_bool,True.intro,λz=>nomatch z⟩
 |.int i,v,u=>λh r=>by
  rw[show v=.int i from h]at r;obtain⟨t,q⟩:=r;cases q;exact⟨_,PySem.W.kitx_int,True.intro,λz=>nomatch z⟩
 |.str x,v,u=>λh r=>by
  rw[show v=.str x from h]at r;obtain⟨t,q⟩:=r;cases q;exact⟨_,PySem.W.kitx_str,True.intro,λz=>nomatch z⟩
 |.list xs,v,u=>λh r=>by
  obtain⟨a,vs,rfl,c,_⟩:=h;cases r;obtain⟨its,j,⟨o,n,e,f,_,hd⟩,_⟩:=I.list c;exact⟨_,PySem.W.kitx_list,⟨o,e,f⟩,λz=>nomatch z⟩
 |.tuple xs,v,u=>λh r=>by
  obtain⟨a,vs,rfl,c,_⟩:=h;cases r;obtain⟨its,j,⟨o,e,f,n,hd⟩,_⟩:=I.tuple c;exact⟨_,PySem.W.kitx_tuple,⟨o,e,f⟩,λz=>nomatch z⟩
 |.dict kvs,v,u=>λh r=>by
  obtain⟨a,ks,rfl,c,_⟩:=h;cases r;obtain⟨_,_,vs,_,o,es,ep,k,l,_⟩:=(I.hok a _ c);exact⟨_,PySem.W.kitx_dict,⟨o,k,l.1⟩,λz=>nomatch z⟩
def aKm(K:Fg):Tc->Hp->VK->Prop:=λxs H Q=>∃x T d,xs=[x,.ty T]/\T∈asked/\Rep K H d x/\Q (.bl (FB T d)) H
def YZ:fB X (.builtin "isinstance") (aKm X.K):=by
 intro bq s g H xs us Q I r h;obtain⟨x,T,d,rfl,hT,hd,q⟩:=h;obtain⟨u,i,rfl,e,b⟩:=vals2 r;cases b;obtain⟨Hc,a,f,c⟩:=WS I hd e;exact PySem.W.kia_one a I.kIn f (aFk hT) c λtk=>⟨.bl _,H,I.tok tk,rfl,q⟩
def aDo(K:Fg):Tc->Hp->VK->Prop:=λxs H Q=>∃(x:V)(p:Uc)(Ts:Tv String)(d:Ua),xs=[x,.ref p]/\H p=Z (.tup (Ts.map V.ty))/\(∀T∈Ts,T∈asked)/\Rep K H d x/\Q (.bl (Ts.any λT=>FB T d)) H
def VH:fB X (.builtin "isinstance") (aDo X.K):=by
 intro bq s v H xs us Q I r h;obtain⟨x,p,Ts,d,rfl,i,hT,hd,q⟩:=h;obtain⟨u,w,rfl,j,c⟩:=vals2 r;cases c;obtain⟨_,its,k,o,l,e,n,f⟩:=(I.hok p _ i);have b:=bA.types k;subst b;obtain⟨oc,od,m,osl⟩:=o;subst e f;obtain⟨Hc,a,t,g⟩:=WS I hd j;exact PySem.W.kia_tup a I.kIn t l (XE hT) g λtk=>⟨.bl _,H,I.tok tk,rfl,q⟩
end
def jK.upd(h:H p=Y):jK H (upd H p o):=λb u e=>by rw[aK (aN e h)];exact e
def bW:Ua->Tw (T4)
 |.list xs=>Z xs
 |.tuple xs=>Z xs
 |_=>Y
def pQ{K:Fg}{H:Hp}:∀{d:Ua}{v:V}{ds:T4},Rep K H d v->bW d=Z ds->∃a vs,v=.ref a/\(SqL K H a vs\/SqT K H a vs)/\aM K H ds vs
 |.list xs,v,ds=>λh e=>by
  obtain⟨a,vs,b,c,f⟩:=h;cases e;exact⟨a,vs,b,.inl c,f⟩
 |.tuple xs,v,ds=>λh e=>by
  obtain⟨a,vs,b,c,f⟩:=h;cases e;exact⟨a,vs,b,.inr c,f⟩
 |.none,_,_=>λ_ e=>by cases e
 |.bool _,_,_=>λ_ e=>by cases e
 |.int _,_,_=>λ_ e=>by cases e
 |.str _,_,_=>λ_ e=>by cases e
 |.dict _,_,_=>λ_ e=>by cases e
section
variable{X:Cx}{tg:Ud}
def aBs(K:Fg)(c:TE):TI:=λd H R=>c d H λx b=>∃a,x=.ref a/\((∃xs,SqL K b a xs/\R (Itl K a) b)\/(∃xs,SqT K b a xs/\R (Itt K a) b))
def aLm{l:Ud}{i:TE}(j:PE X l i):PI X tg l (aBs X.K i):=by
 intro bq s k H R I h;refine thn (j bq s k H _ I h) λv s1 d=>?_;obtain⟨x,f,c,m,a,e,n⟩:=d;subst e;cases m
 have fp:∀b∈[s1.heap.objs.size],nZ X bq f b:=λb r=>by
  have e:=List.mem_singleton.mp r;subst e;exact c.fpOk (A7 _)<|c.hok.fresh<|A7 _
 obtain⟨xs,g,q⟩|⟨xs,g,q⟩:=n
 .obtain⟨its,t,p,d⟩:=c.list g;refine wpAny_pyIter_list p.isList ?_;exact⟨s1.heap.objs.size,[s1.heap.objs.size],_,_,f,rfl,c.kept λb o e=>A3 _ e,aAo a _,⟨_,B3 _ rfl,rfl,rfl⟩,fp,q⟩
 .obtain⟨its,t,p,d⟩:=c.tuple g;refine A0q p ?_;exact⟨s1.heap.objs.size,[s1.heap.objs.size],_,_,f,rfl,c.kept λb o e=>A3 _ e,VF a _,⟨_,B3 _ rfl,rfl,rfl⟩,fp,q⟩
end
inductive CD where
 |d (x:Ua)
 |c (n:Nat)
 |t (xs:Tv (Ua ⊕ Nat))
 |f (kvs:Tv (Tv Key×Ua))
 |g (nm:Str)
abbrev Tu:=Tv (Str×CD)
abbrev Te:=Tw CD
abbrev T6:=Tv CD
inductive Cell where
 |lst (xs:T6)
 |dk (kvs:Tv (Key×CD))
 |dt (kvs:Tv (Tv Key×CD))
 |obj (nm:Str) (fs:Tu)
 |exc (fr:Bool) (nm:Str) (fs:Tu)
 |dead
structure Wd where
 F:Hp
 α:Nat->Uc
 n:Nat
structure Wd.Ext(W W':Wd):Prop where
 ff:jK W.F W'.F
 ln:W.n<=W'.n
 al:∀i,i<W.n->W'.α i=W.α i
def Wd.Ext.refl(W:Wd):W.Ext W:=⟨jK.refl _,A7 _,λ_ _=>rfl⟩
def Wd.Ext.trans(a:W.Ext c)(b:c.Ext d):W.Ext d:=⟨a.ff.trans b.ff,C6 a.ln b.ln,λi h=>(b.al i<|C2 h a.ln).trans (a.al i h)⟩
def ZI(K:Fg)(W:Wd):Ua ⊕ Nat->V->Prop
 |.inl x,v=>Rep K W.F x v
 |.inr i,v=>i<W.n/\v=.ref (W.α i)
noncomputable def cdA:Ua ⊕ Nat->CD
 |.inl x=>.d x
 |.inr i=>.c i
def bK(K:Fg)(nm:Str):Uc:=match PySem.W.nsIn K bh nm with
 |some (some (.ref C))=>C
 |_=>0
def cK(K:Fg)(W:Wd):CD->V->Prop
 |.d x,v=>Rep K W.F x v
 |.c i,v=>i<W.n/\v=.ref (W.α i)
 |.t xs,v=>∃a vs,v=.ref a/\W.F a=Z (.tup vs)/\Paired (ZI K W) xs vs
 |.f kvs,v=>∃a o us,v=.ref a/\W.F a=Z (.frz o (.dT us))/\Paired (λp q=>p.1=q.1/\Rep K W.F p.2 q.2) kvs us
 |.g nm,v=>v=.ref (bK K nm)
abbrev bX(K:Fg)(W:Wd):T6->Tc->Prop:=Paired<|cK K W
def TN(K:Fg)(W:Wd):Te->Tw V->Prop
 |none,none=>True
 |some x,some v=>cK K W x v
 |_,_=>False
abbrev cN(K:Fg)(W:Wd):Tv (Te)->St->Prop:=Paired<|TN K W
noncomputable def chA:T5:=[.ref 75]
def YX(c:Tz):Bool:=!chA.contains c
def tJ(a:Uc)(c:Tz)(dx:Th)(fr:Bool)(h:Heap):Prop:=∃o vs,h.get? a=Z o/\o.cls=c/\o.dict=dx/\o.data=.fields vs/\(fr=true->4<vs.size/\vs[1]?=Z .none/\vs[2]?=Z .none)/\(YX c=true->vs[2]?=Z .none)
def YU(K:Fg)(W:Wd)(dx:Th)(fs:Tu):Prop:=match dx with
 |none=>fs=[]
 |some d=>fs≠[]/\∃us,W.F d=Z (.xd us)/\Paired (λp q=>p.1=q.1/\cK K W p.2 q.2) fs us
def LN(K:Fg)(W:Wd)(a:Uc):Cell->HO->Prop
 |.lst xs,.lst vs=>bX K W xs vs
 |.dk kvs,.dK us=>Paired (λp q=>p.1=q.1/\cK K W p.2 q.2) kvs us
 |.dt kvs,.dT us=>Paired (λp q=>p.1=q.1/\cK K W p.2 q.2) kvs us
 |.obj nm fs,.ins C _ us=>C=bK K nm/\Paired (λp q=>p.1=q.1/\cK K W p.2 q.2) fs us
 |.exc fr nm fs,.ext b=>∃dx,b=tJ a (.ref (bK K nm)) dx fr/\YU K W dx fs
 |_,_=>False
noncomputable def aCD:Tb:=["straight_within"]
def tabOf(K:Fg):Tz->Th
 |.ref c=>match K.lookup c with
  |some o=>(match o.data with
   |.fields vs=>(match (vs[11]?:Tf)with
    |some (Value.ref P)=>Z P
    |_=>Y)
   |_=>Y)
  |none=>Y
 |_=>Y
def aEp(K:Fg):Tv (Uc×Str):=K.filterMap λp=>match p.2.data with
 |.func fd=>if aCD.contains fd.name=true then(tabOf K fd.code).map λP=>(P,fd.qualname++".<locals>.<lambda>")else Y
 |_=>Y
def TabAt(H:Hp)(x:Uc×Str):Prop:=∃ps,H x.1=Z (.tbl ps)/\TriplesOk ps.toList/\∀pos a,codeAmong pos ps.toList=Z a->∃c' oc u vs t,a=.ref c'/\H c'=Z (.frz oc u)/\oc.data=.fields vs/\vs[1]?=Z (.str x.2 t)
def TabAt.upd(h:TabAt H x)(b:∀ps,H p≠Z (.tbl ps))(d:∀ob u,H p≠Z (.frz ob u)):TabAt (upd H p o) x:=by
 obtain⟨ps,e,t,k⟩:=h;refine⟨ps,by rw[aK (show x.1≠p from λz=>b ps (z▸e))];exact e,t,λpos f c=>?_⟩;obtain⟨c',oc,u,vs,g,i,a,j⟩:=k pos f c;exact⟨c',oc,u,vs,g,i,by rw[aK (show c'≠p from λz=>d oc u (z▸a))];exact a,j⟩
def TabsOk(K:Fg)(F H:Hp):Prop:=∀x∈aEp K,F x.1=Y/\TabAt H x
def TabsOk.upd(h:TabsOk K F H)(b:∀ps,H p≠Z (.tbl ps))(c:∀ob u,H p≠Z (.frz ob u)):TabsOk K F (upd H p o):=λx a=>⟨(h x a).1,(h x a).2.upd b c⟩
def TabsOk.fresh(h:TabsOk K F H)(a:H p=Y):TabsOk K F (L2.upd H p o):=h.upd (λps e=>by rw[a]at e;cases e) λob u e=>by rw[a]at e;cases e
def TabsOk.updF{p:Uc}{o:HO}(h:TabsOk K F H)(b:∀ps,H p≠Z (.tbl ps)):TabsOk K (L2.upd F p o) H:=λx a=>⟨by
 obtain⟨ps,e,_⟩:=(h x a).2;rw[aK (show x.1≠p from λz=>b ps (z▸e))];exact(h x a).1,(h x a).2⟩
def LN.nt(r:LN K W a c o):(∀ps,o≠.tbl ps)/\∀ob u,o≠.frz ob u:=by
 cases c<;>cases o<;>first|exact False.elim r|exact⟨λ_ e=>(by cases e),λ_ _ e=>(by cases e)⟩
def TabsOk.cell{o:HO}(h:TabsOk K F H)(e:H a=Z o)(r:LN K W a c o):TabsOk K F (L2.upd H a o'):=
 h.upd (λps z=>r.nt.1 ps<|D5<|e.symm.trans z) λob u z=>r.nt.2 ob u<|D5<|e.symm.trans z
structure Good(K:Fg)(W:Wd)(M:Tv Cell)(H:Hp):Prop where
 fh:jK W.F H
 n:W.n=M.length
 cs:∀i c,M[i]?=Z c->c≠.dead->W.F (W.α i)=Y/\∃o,H (W.α i)=Z o/\LN K W (W.α i) c o
 inj:∀i j c c',M[i]?=Z c->M[j]?=Z c'->c≠.dead->c'≠.dead->W.α i=W.α j->i=j
 tb:TabsOk K W.F H
section
variable{K:Fg}{W W':Wd}{M M':Tv Cell}{H H':Hp}
def ZI.up(h:ZI K W x v)(e:W.Ext W'):ZI K W' x v:=by
 cases x with
 |inl x=>exact Rep.same e.ff _ _ h
 |inr i=>exact⟨C2 h.1 e.ln,by rw[e.al i h.1];exact h.2⟩
def cK.up(h:cK K W x v)(e:W.Ext W'):cK K W' x v:=by
 cases x with
 |d x=>exact Rep.same e.ff _ _ h
 |c i=>exact⟨C2 h.1 e.ln,by rw[e.al i h.1];exact h.2⟩
 |t xs=>
  obtain⟨a,vs,b,j,k⟩:=h;exact⟨a,vs,b,e.ff _ _ j,Paired.mapP k λ_ _ r=>ZI.up r e⟩
 |f kvs=>
  obtain⟨a,o,us,b,j,k⟩:=h;exact⟨a,o,us,b,e.ff _ _ j,Paired.mapP k λ_ _ r=>⟨r.1,Rep.same e.ff _ _ r.2⟩⟩
 |g nm=>exact h
def bX.up(h:bX K W xs vs)(e:W.Ext W'):bX K W' xs vs:=Paired.mapP h λ_ _ r=>cK.up r e
def cN.up{γ:Tv (Te)}(h:cN K W γ c)(e:W.Ext W'):cN K W' γ c:=Paired.mapP h λa b r=>by
 cases a<;>cases b
 .exact True.intro
 .exact False.elim r
 .exact False.elim r
 .exact cK.up r e
def YU.up(h:YU K W dx fs)(e:W.Ext W'):YU K W' dx fs:=by
 cases dx with
 |none=>exact h
 |some d=>
  obtain⟨a,us,b,c⟩:=h;exact⟨a,us,e.ff _ _ b,Paired.mapP c λ_ _ r=>⟨r.1,cK.up r.2 e⟩⟩
def LN.up(h:LN K W a c o)(e:W.Ext W'):LN K W' a c o:=by
 cases c<;>cases o<;>first|exact(let⟨dx,b,d⟩:=h;⟨dx,b,d.up e⟩)|exact False.elim h|exact bX.up h e|exact Paired.mapP h λ_ _ r=>⟨r.1,cK.up r.2 e⟩|exact⟨h.1,Paired.mapP h.2 λ_ _ r=>⟨r.1,cK.up r.2 e⟩⟩
def Good.lay(g:Good K W M H){o:HO}(d:H p=Y):W.Ext { W with F:=upd W.F p o }/\Good K { W with F:=upd W.F p o } M (upd H p o):=by
 have fp:=g.fh.free d;have e:W.Ext { W with F:=upd W.F p o }:=⟨jK.upd fp,A7 _,λ_ _=>rfl⟩;refine⟨e,?_,g.n,λi c hi h=>?_,g.inj,(g.tb.updF λps e=>by rw[d]at e;cases e).fresh d⟩
 .intro b u a;have a:upd W.F p o b=Z u:=a;by_cases q:b=p
  .subst q;rw[aS]at a;rw[aS];exact a
  .rw[aK q]at a;rw[aK q];exact g.fh b u a
 .obtain⟨j,o',f,k⟩:=g.cs i c hi h;have ne:=aN f d;exact⟨by show upd W.F p o (W.α i)=Y;rw[aK ne];exact j,o',by rw[aK ne];exact f,k.up e⟩
noncomputable def Wd.more(W:Wd)(p:Uc):Wd:={ W with α:=λi=>if i=W.n then p else W.α i,n:=W.n+1 }
def Wd.ext_more(W:Wd)(p:Uc):W.Ext (W.more p):=⟨jK.refl _,Z8 _,λi h=>A5<|B4 h⟩
def Good.new(g:Good K W M H)(f:H p=Y)(r:LN K W p c o):Good K (W.more p) (M++[c]) (upd H p o):=by
 have e:=W.ext_more p
 have at_:∀i c',(M++[c])[i]?=Z c'->(i<M.length/\M[i]?=Z c')\/(i=M.length/\c'=c):=λi c' h=>by
  by_cases q:i<M.length
  .rw[J0 q]at h;exact .inl ⟨q,h⟩
  .rw[D7 (Nat.le_of_not_lt q)]at h
   have h':i-M.length=0:=by
    cases k:i-M.length with
    |zero=>rfl
    |succ m=>rw[k]at h;simp at h
   rw[h']at h;refine .inr ⟨by omega,?_⟩;simpa using h.symm
 have al:=λi h=>e.al i (by rw[g.n];exact h);have an:(W.more p).α M.length=p:=by show(if M.length=W.n then p else _)=p;rw[A4 g.n.symm]
 have a:∀i c',M[i]?=Z c'->c'≠.dead->W.α i≠p:=λi c' h l=>by
  obtain⟨_,o',t,_⟩:=g.cs i c' h l;exact aN t f
 refine⟨?_,?_,λi c' hi l=>?_,λi j v s hi x y z d=>?_,g.tb.fresh f⟩
 .intro b u A;have:=g.fh b u A;rw[aK (aN this f)];exact this
 .show W.n+1=_;rw[g.n,B9];rfl
 .obtain⟨q,h⟩|⟨rfl,rfl⟩:=at_ i c' hi
  .obtain⟨B,o',t,C⟩:=g.cs i c' h l;rw[al i q];exact⟨B,o',by rw[aK (a i c' h l)];exact t,C.up e⟩
  .rw[an];exact⟨g.fh.free f,o,aS,r.up e⟩
 .obtain⟨q,h⟩|⟨rfl,rfl⟩:=at_ i v hi
  .obtain⟨w,h'⟩|⟨rfl,rfl⟩:=at_ j s x
   .rw[al i q,al j w]at d;exact g.inj i j v s h h' y z d
   .rw[al i q,an]at d;exact absurd d<|a i v h y
  .obtain⟨w,h'⟩|⟨rfl,rfl⟩:=at_ j s x
   .rw[an,al j w]at d;exact absurd d.symm<|a j s h' z
   .rfl
def Good.set(g:Good K W M H){i:Nat}{c:Cell}(hi:M[i]?=Z c)(a:c≠.dead)(r:LN K W (W.α i) c' o'):Good K W (M.set i c') (upd H (W.α i) o'):=by
 obtain⟨p,o,w,x⟩:=g.cs i c hi a;have lt:=(List.getElem?_eq_some_iff.mp hi).1
 have at_:∀j d,(M.set i c')[j]?=Z d->(j=i/\d=c')\/(j≠i/\M[j]?=Z d):=λj d h=>by
  by_cases q:i=j
  .subst q;rw[C3 lt]at h;exact .inl ⟨rfl,(D5 h).symm⟩
  .rw[B6 q]at h;exact .inr ⟨λz=>q z.symm,h⟩
 refine⟨?_,by rw[g.n,E1],λj d e hd=>?_,λj k f l e y s t m=>?_,g.tb.cell w x⟩
 .intro b u v;rw[aK (aN v p)];exact g.fh b u v
 .obtain⟨rfl,rfl⟩|⟨q,h⟩:=at_ j d e
  .exact⟨p,o',aS,r⟩
  .obtain⟨A,u,B,C⟩:=g.cs j d h hd;have ne:=λz=>q<|g.inj j i d c h hi hd a z;exact⟨A,u,by rw[aK ne];exact B,C⟩
 .obtain⟨rfl,rfl⟩|⟨q,h⟩:=at_ j f e<;>obtain⟨rfl,rfl⟩|⟨D,h'⟩:=at_ k l y
  .rfl
  .exact g.inj _ k c l hi h' a t m
  .exact g.inj j _ f c h hi s a m
  .exact g.inj j k f l h h' s t m
end
noncomputable abbrev Ga:=Tv<|Te
noncomputable abbrev Sto:=Tv Cell
abbrev EF:=Ga->Sto->Option (CD×Sto)
abbrev TF:=Ga->Sto->Tw (Bool×Sto)
abbrev AF:=Ga->Sto->Option (List CD×Sto)
inductive Out where
 |nx (γ:Ga)|bk (γ:Ga)|ct (γ:Ga)|rt (x:CD)
abbrev SF:=Ga->Sto->Tw (Out×Sto)
abbrev GF:=CD->Ga->Sto->Tw (Ga×Sto)
abbrev GsF:=T6->Ga->Sto->Tw (Ga×Sto)
abbrev F1:=CD->Sto->Tw (CD×Sto)
abbrev F2:=CD->CD->Sto->Tw (CD×Sto)
abbrev FN:=T6->Sto->Tw (CD×Sto)
section
variable(K:Fg)
def SE(t:TE)(f:EF):Prop:=∀γ M x M',f γ M=Z (x,M')->∀(W:Wd)(H:Hp)(a:St)(Q:VK),Good K W M H->cN K W γ a->(∀v W' H',W.Ext W'->Good K W' M' H'->cK K W' x v->Q v H')->t a H Q
def STt(t:TT)(f:TF):Prop:=∀γ M b M',f γ M=Z (b,M')->∀(W:Wd)(H:Hp)(a:St)(Q:Bool->Hp->Prop),Good K W M H->cN K W γ a->(∀W' H',W.Ext W'->Good K W' M' H'->Q b H')->t a H Q
def SA(t:TA)(f:AF):Prop:=∀γ M xs M',f γ M=Z (xs,M')->∀(W:Wd)(H:Hp)(a:St)(Q:Tc->Hp->Prop),Good K W M H->cN K W γ a->(∀vs W' H',W.Ext W'->Good K W' M' H'->bX K W' xs vs->Q vs H')->t a H Q
def aEv(D:Ends)(W:Wd)(H:Hp):Out->Prop
 |.nx γ=>∀a,cN K W γ a->D.nx a H
 |.bk γ=>∀a,cN K W γ a->D.bk a H
 |.ct γ=>∀a,cN K W γ a->D.ct a H
 |.rt x=>∀v,cK K W x v->D.rt v H
def SS(t:TS)(f:SF):Prop:=∀γ M o M',f γ M=Z (o,M')->∀(W:Wd)(H:Hp)(a:St)(D:Ends),Good K W M H->cN K W γ a->(∀W' H',W.Ext W'->Good K W' M' H'->aEv K D W' H' o)->t D a H
def SG(t:TG)(f:GF):Prop:=∀x γ M a M',f x γ M=Z (a,M')->∀(W:Wd)(H:Hp)(c:St)(v:V)(Q:St->Hp->Prop),Good K W M H->cN K W γ c->cK K W x v->(∀b W' H',W.Ext W'->Good K W' M' H'->cN K W' a b->Q b H')->t v c H Q
def SGs(t:TGs)(f:GsF):Prop:=∀xs γ M a M',f xs γ M=Z (a,M')->∀(W:Wd)(H:Hp)(c:St)(vs:Tc)(Q:St->Hp->Prop),Good K W M H->cN K W γ c->bX K W xs vs->(∀b W' H',W.Ext W'->Good K W' M' H'->cN K W' a b->Q b H')->t vs c H Q
def P2(r:R2)(f:F2):Prop:=∀x y M z M',f x y M=Z (z,M')->∀(W:Wd)(H:Hp)(v u:V)(Q:VK),Good K W M H->cK K W x v->cK K W y u->(∀w W' H',W.Ext W'->Good K W' M' H'->cK K W' z w->Q w H')->r v u H Q
def P1(r:V->Hp->VK->Prop)(f:F1):Prop:=∀x M z M',f x M=Z (z,M')->∀(W:Wd)(H:Hp)(v:V)(Q:VK),Good K W M H->cK K W x v->(∀w W' H',W.Ext W'->Good K W' M' H'->cK K W' z w->Q w H')->r v H Q
def PN(r:Tc->Hp->VK->Prop)(f:FN):Prop:=∀xs M z M',f xs M=Z (z,M')->∀(W:Wd)(H:Hp)(vs:Tc)(Q:VK),Good K W M H->bX K W xs vs->(∀w W' H',W.Ext W'->Good K W' M' H'->cK K W' z w->Q w H')->r vs H Q
def spM(f:FN):Sp:=λvs H Q _=>∃xs M W y M',Good K W M H/\bX K W xs vs/\f xs M=Z (y,M')/\∀v W' H',W.Ext W'->Good K W' M' H'->cK K W' y v->Q v H'
end
def aB(i:Nat):EF:=λγ M=>match γ[i]? with
 |some (some x)=>Z (x,M)
 |_=>Y
def fC(x:Ua):EF:=λ_ M=>Z (.d x,M)
noncomputable def fOp(h:F2)(f g:EF):EF:=λγ M=>(f γ M).bind λr=>(g γ r.2).bind λq=>h r.1 q.1 q.2
noncomputable def fUn(h:F1)(f:EF):EF:=λγ M=>(f γ M).bind λr=>h r.1 r.2
def asB:CD->Tw Bool
 |.d (.bool b)=>Z b
 |_=>Y
def qE(f g:EF):EF:=λγ M=>(f γ M).bind λr=>(asB r.1).bind λb=>if b=true then g γ r.2 else Z (.d (.bool false),r.2)
def fOr(f g:EF):EF:=λγ M=>(f γ M).bind λr=>(asB r.1).bind λb=>if b=true then Z (.d (.bool true),r.2)else g γ r.2
def aHb(f:EF):EF:=λγ M=>(f γ M).bind λr=>(asB r.1).bind λb=>Z (.d (.bool (!b)),r.2)
noncomputable def fIf(t:TF)(f g:EF):EF:=λγ M=>(t γ M).bind λr=>if r.1=true then f γ r.2 else g γ r.2
def yE(f g:TF):TF:=λγ M=>(f γ M).bind λr=>if r.1=true then g γ r.2 else Z (false,r.2)
def gOr(f g:TF):TF:=λγ M=>(f γ M).bind λr=>if r.1=true then Z (true,r.2)else g γ r.2
def qG(f:TF):TF:=λγ M=>(f γ M).bind λr=>Z (!r.1,r.2)
def gB(f:EF):TF:=λγ M=>(f γ M).bind λr=>(asB r.1).bind λb=>Z (b,r.2)
def pO(h h':F2)(f g e:EF):EF:=λγ M=>(f γ M).bind λr=>(g γ r.2).bind λq=>(h r.1 q.1 q.2).bind λz=>(asB z.1).bind λb=>if b=true then(e γ z.2).bind λw=>h' q.1 w.1 w.2 else Z (.d (.bool false),z.2)
def aF:AF:=λ_ M=>Z ([],M)
def aA(f:EF)(g:AF):AF:=λγ M=>(f γ M).bind λr=>(g γ r.2).bind λq=>Z (r.1::q.1,q.2)
def nB:T6->Tw (T4)
 |[]=>Z []
 |.d x::r=>(nB r).map (x::·)
 |.c _::_=>Y
 |.t _::_=>Y
 |.f _::_=>Y
 |.g _::_=>Y
def eF(f:AF):EF:=λγ M=>(f γ M).bind λr=>(nB r.1).bind λa=>if a.length<=ba then Z (.d (.tuple a),r.2)else Y
def dP(f:AF):EF:=λγ M=>(f γ M).bind λr=>(nB r.1).bind λa=>if a.length<=ba then Z (.d (.list a),r.2)else Y
def yN(f:AF):EF:=λγ M=>(f γ M).bind λr=>if r.1.length<=ba then Z (.c r.2.length,r.2++[.lst r.1])else Y
noncomputable def aL(h:FN)(f:AF):EF:=λγ M=>(f γ M).bind λr=>h r.1 r.2
def cV:SF:=λγ M=>Z (.nx γ,M)
def bF(f g:SF):SF:=λγ M=>(f γ M).bind λr=>match r.1 with
 |.nx a=>g a r.2
 |o=>Z (o,r.2)
def tX(f:EF):SF:=λγ M=>(f γ M).bind λr=>Z (.nx γ,r.2)
def bP(f:EF):SF:=λγ M=>(f γ M).bind λr=>Z (.rt r.1,r.2)
def aNr:SF:=λ_ M=>Z (.rt (.d .none),M)
noncomputable def sIf(c:TF)(f g:SF):SF:=λγ M=>(c γ M).bind λr=>if r.1=true then f γ r.2 else g γ r.2
def aZ(f:EF)(g:GF):SF:=λγ M=>(f γ M).bind λr=>(g r.1 γ r.2).bind λq=>Z (.nx q.1,q.2)
def br(i:Nat):GF:=λx γ M=>Z (γ.set i<|Z x,M)
def gG:GsF:=λxs γ M=>match xs with
 |[]=>Z (γ,M)
 |_=>Y
def bC(f:GF)(g:GsF):GsF:=λxs γ M=>match xs with
 |x::r=>(f x γ M).bind λq=>g r q.1 q.2
 |[]=>Y
def iG(n:Nat)(g:GsF):GF:=λx γ M=>match x with
 |.d (.tuple a)=>if a.length=n then g (a.map .d) γ M else Y
 |.t xs=>if xs.length=n then g (xs.map cdA) γ M else Y
 |_=>Y
abbrev F3:=CD->CD->CD->Sto->Tw Sto
def hSub(fo a:EF)(s:F3):GF:=λx γ M=>(fo γ M).bind λr=>(a γ r.2).bind λq=>(s r.1 q.1 x q.2).bind λM'=>Z (γ,M')
def GU(i j:Nat)(f:AF):SF:=λγ M=>(f γ M).bind λr=>match r.1 with
 |[x,y]=>Z (.nx ((γ.set i<|Z x).set j (Z y)),r.2)
 |_=>Y
def wR(g:GF)(b:SF):T6->Ga->Sto->Tw (Out×Sto)
 |[],γ,M=>Z (.nx γ,M)
 |x::xs,γ,M=>(g x γ M).bind λr=>(b r.1 r.2).bind λq=>match q.1 with
  |.nx a=>wR g b xs a q.2
  |.ct a=>wR g b xs a q.2
  |.bk a=>Z (.nx a,q.2)
  |.rt x=>Z (.rt x,q.2)
def xO(f:AF)(g:GF)(b:SF):SF:=λγ M=>(f γ M).bind λr=>wR g b r.1 γ r.2
def fX(c:TF)(b:SF):Nat->Ga->Sto->Tw (Out×Sto)
 |0,_,_=>Y
 |n+1,γ,M=>(c γ M).bind λr=>if r.1=true then(b γ r.2).bind λq=>match q.1 with
  |.nx a=>fX c b n a q.2
  |.ct a=>fX c b n a q.2
  |.bk a=>Z (.nx a,q.2)
  |.rt x=>Z (.rt x,q.2)else Z (.nx γ,r.2)
open Classical in
noncomputable def vQ(c:TF)(b:SF):SF:=λγ M=>if h:∃n,(fX c b n γ M).isSome=true then fX c b h.choose γ M else Y
def lcF(g:GF)(c:TF)(e:EF):T6->Ga->Sto->Tw (T6×Sto)
 |[],γ,M=>Z ([],M)
 |x::xs,γ,M=>(g x γ M).bind λa=>(c a.1 a.2).bind λb=>if b.1=true then(e a.1 b.2).bind λr=>(lcF g c e xs a.1 r.2).bind λq=>Z (r.1::q.1,q.2)else lcF g c e xs a.1 b.2
noncomputable def lJ(cap:T3)(γ:Ga):Ga:=cap.map λo=>o.bind λj=>(γ[j]?).join
def eP:TF:=λ_ M=>Z (true,M)
def OH(cap:T3)(f:AF)(g:GF)(c:TF)(e:EF):AF:=λγ M=>(f γ M).bind λr=>if r.1.length<=ba then lcF g c e r.1 (lJ cap γ) r.2 else Y
def fLc(cap:T3)(f:AF)(g:GF)(c:TF)(e:EF):EF:=dP<|OH cap f g c e
def fnF(ps N:Nat)(b:SF):FN:=λxs M=>if xs.length=ps then(b (xs.map Z++List.replicate (N-xs.length) Y) M).bind λr=>match r.1 with
 |.rt x=>Z (x,r.2)
 |.nx _=>Z (.d .none,r.2)
 |_=>Y else Y
def aJ{b c:Type}{o:Tw b}{k:b->Tw c}{r:c}(h:o.bind k=Z r):∃a,o=Z a/\k a=Z r:=by
 cases o with
 |none=>cases h
 |some a=>exact⟨a,rfl,h⟩
theorem Paired.get{a b:Type}{R:a->b->Prop}:∀{xs:Tv a}{ys:Tv b}{i:Nat}{x:a},Paired R xs ys->xs[i]?=Z x->∃y,ys[i]?=Z y/\R x y
 |_,_,_,_,.nil=>λe=>by simp at e
 |_,_,0,_,.cons r _=>λe=>by simp at e;subst e;exact⟨_,rfl,r⟩
 |_,_,i+1,x,.cons _ t=>λe=>by
  obtain⟨u,c,d⟩:=Paired.get t (by simpa using e);exact⟨u,by simpa using c,d⟩
theorem Paired.set{a b:Type}{R:a->b->Prop}{x:a}{y:b}(r:R x y):∀{xs:Tv a}{ys:Tv b}(i:Nat),Paired R xs ys->Paired R (xs.set i x) (ys.set i y)
 |_,_,_,.nil=>.nil
 |_,_,0,.cons _ t=>.cons r t
 |_,_,i+1,.cons q t=>.cons q (Paired.set r i t)
theorem Paired.app{c d:Type}{R:c->d->Prop}:∀{xs a:Tv c}{ys b:Tv d},Paired R xs ys->Paired R a b->Paired R (xs++a) (ys++b)
 |_,_,_,_,.nil=>λs=>s
 |_,_,_,_,.cons r t=>λs=>.cons r (Paired.app t s)
def Paired.len{a b:Type}{R:a->b->Prop}{xs:Tv a}{ys:Tv b}(p:Paired R xs ys):xs.length=ys.length:=A0h p
section
variable{K:Fg}
theorem hX{W:Wd}:∀{xs:T6}{ds:T4}{vs:Tc},nB xs=Z ds->bX K W xs vs->aM K W.F ds vs
 |[],ds,vs=>λe h=>by
  cases e;cases h;rfl
 |.c _::_,ds,vs=>λe h=>by cases e
 |.t _::_,ds,vs=>λe h=>by cases e
 |.f _::_,ds,vs=>λe h=>by cases e
 |.g _::_,ds,vs=>λe h=>by cases e
 |.d x::r,ds,vs=>λe h=>by
  cases h with
  |@cons _ v _ a b i=>
   unfold nB at e;cases q:nB r with
   |none=>rw[q]at e;cases e
   |some es=>
    rw[q]at e;cases e;exact⟨v,a,rfl,b,hX q i⟩
def XR(h:Paired (ZI K W) xs vs):bX K W (xs.map cdA) vs:=by
 induction h with
 |nil=>exact .nil
 |@cons x v _ _ r _ ih=>exact .cons (by cases x<;>exact r) ih
theorem lA{W:Wd}:∀{ds:T4}{vs:Tc},aM K W.F ds vs->bX K W (ds.map .d) vs
 |[],vs=>λh=>by rw[show vs=[]from h];exact .nil
 |d::ds,vs=>λh=>by
  obtain⟨v,r,rfl,a,b⟩:=h;exact .cons a (lA b)
theorem QM:∀{xs:T6}{ds:T4},nB xs=Z ds->ds.length=xs.length
 |[],ds=>λe=>by cases e;rfl
 |.c _::_,ds=>λe=>by cases e
 |.t _::_,ds=>λe=>by cases e
 |.f _::_,ds=>λe=>by cases e
 |.g _::_,ds=>λe=>by cases e
 |.d x::r,ds=>λe=>by
  unfold nB at e;cases q:nB r with
  |none=>rw[q]at e;cases e
  |some es=>
   rw[q]at e;cases e;rw[C0,C0,QM q]
def aJW:SE K (aEE i) (aB i):=by
 intro γ M x M' h W H c Q g r k;unfold aB at h;cases e:γ[i]? with
 |none=>rw[e]at h;cases h
 |some o=>
  cases o with
  |none=>rw[e]at h;cases h
  |some y=>
   rw[e]at h;cases h;obtain⟨v,b,a⟩:=Paired.get r e;cases v with
   |none=>exact False.elim a
   |some v=>exact⟨v,b,k v W H (.refl _) g a⟩
def aBL:SE K (tC (.int i)) (fC (.int i)):=by
 intro γ M x M' h W H a Q g r k;cases h;exact k _ W H (.refl _) g rfl
def aNY:SE K (tC (.bl b)) (fC (.bool b)):=by
 intro γ M x M' h W H a Q g r k;cases h;exact k _ W H (.refl _) g rfl
def aJx:SE K (tC .non) (fC .none):=by
 intro γ M x M' h W H a Q g r k;cases h;exact k _ W H (.refl _) g rfl
def SQ:SE K (tC (.str x)) (fC (.str x)):=by
 intro γ M x M' h W H a Q g r k;cases h;exact k _ W H (.refl _) g rfl
variable{ta tb tc:TE}{f g e:EF}{tt uu:TT}{ft gt:TF}{tA:TA}{fa:AF}
def HD{r:R2}{h:F2}(p:P2 K r h)(a:SE K ta f)(b:SE K tb g):SE K (tOp r ta tb) (fOp h f g):=by
 intro γ M x M' c W H d Q G R k;obtain⟨⟨y,M1⟩,l,c⟩:=aJ c;obtain⟨⟨z,M2⟩,m,c⟩:=aJ c;refine a _ _ _ _ l W H d _ G R λv n o i q s=>?_;refine b _ _ _ _ m n o d _ q (R.up i) λu t A j G2 B=>?_;exact p _ _ _ _ _ c t A v u Q G2 (s.up j) B λw C D E I J=>k w C D ((i.trans j).trans E) I J
def aNe{r:V->Hp->VK->Prop}{h:F1}(p:P1 K r h)(a:SE K ta f):SE K (tUn r ta) (fUn h f):=by
 intro γ M x M' b W H c Q G R k;obtain⟨⟨y,M1⟩,d,b⟩:=aJ b;refine a _ _ _ _ d W H c _ G R λv i j l m n=>?_;exact p _ _ _ _ b i j v Q m n λw o q s t u=>k w o q (l.trans s) t u
def LF{b:Bool}(h:asB x=Z b):x=.d (.bool b):=by
 cases x with
 |c n=>cases h
 |t n=>cases h
 |f n=>cases h
 |g _=>cases h
 |d x=>cases x<;>first|cases h;rfl|cases h
def aJv(a:SE K ta f)(b:SE K tb g):SE K (aIr ta tb) (qE f g):=by
 intro γ M x M' d W H i Q G R k;obtain⟨⟨y,M1⟩,n,d⟩:=aJ d;obtain⟨c,o,d⟩:=aJ d;refine a _ _ _ _ n W H i _ G R λv j l h m p=>?_;have q:=LF o;subst q;refine⟨c,p,?_⟩;cases c with
 |true=>rw[A4 rfl];rw[A4 rfl]at d;exact b _ _ _ _ d j l i Q m (R.up h) λw r s t u z=>k w r s (h.trans t) u z
 |false=>
  cases d;exact k _ j l h m rfl
def aKG(a:SE K ta f):SE K (aII ta) (aHb f):=by
 intro γ M x M' b W H d Q G R k;obtain⟨⟨y,M1⟩,h,b⟩:=aJ b;obtain⟨c,i,b⟩:=aJ b;refine a _ _ _ _ h W H d _ G R λv j l m n o=>?_;have p:=LF i;subst p;cases b;exact⟨c,o,k _ j l m n rfl⟩
def aMY(t:STt K tt ft)(a:SE K ta f)(b:SE K tb g):SE K (tIf tt ta tb) (fIf ft f g):=by
 intro γ M x M' d W H i Q G R k;obtain⟨⟨c,M1⟩,s,d⟩:=aJ d;refine t _ _ _ _ s W H i _ G R λp q h r=>?_;cases c with
 |true=>rw[A4 rfl];rw[A4 rfl]at d;exact a _ _ _ _ d p q i Q r (R.up h) λw j l m n o=>k w j l (h.trans m) n o
 |false=>rw[A5 A8];rw[A5 A8]at d;exact b _ _ _ _ d p q i Q r (R.up h) λw j l m n o=>k w j l (h.trans m) n o
def QX{r l:R2}{h h':F2}(p:P2 K r h)(J:P2 K l h')(a:SE K ta f)(b:SE K tb g)(c:SE K tc e):SE K (SD r l ta tb tc) (pO h h' f g e):=by
 intro γ M x M' d W H j Q G R k;obtain⟨⟨y,M1⟩,L,d⟩:=aJ d;obtain⟨⟨z,M2⟩,N,d⟩:=aJ d;obtain⟨⟨w,M3⟩,O,d⟩:=aJ d;obtain⟨q,P,d⟩:=aJ d;refine a _ _ _ _ L W H j _ G R λv S T n U V=>?_;refine b _ _ _ _ N S T j _ U (R.up n) λu X H2 s G2 A=>?_;refine p _ _ _ _ _ O X H2 v u _ G2 (V.up s) A λt B C D E r3=>?_;have hy:=LF P;subst hy;refine⟨q,r3,?_⟩;have i:=(n.trans s).trans D;cases q with
 |true=>
  obtain⟨⟨m,M4⟩,h5,d⟩:=aJ d;refine c _ _ _ _ h5 B C j _ E (R.up i) λo W4 H4 I G4 r4=>?_;exact J _ _ _ _ _ d W4 H4 u o Q G4 (A.up<|D.trans I) r4 λw W5 H5 e5 G5 r5=>k w W5 H5 ((i.trans I).trans e5) G5 r5
 |false=>
  cases d;exact k _ B C i E rfl
def aLV(a:STt K tt ft)(b:STt K uu gt):STt K (aMp tt uu) (yE ft gt):=by
 intro γ M x M' d W H i Q G R k;obtain⟨⟨c,M1⟩,n,d⟩:=aJ d;refine a _ _ _ _ n W H i _ G R λj l h m=>?_;cases c with
 |true=>rw[A4 rfl];rw[A4 rfl]at d;exact b _ _ _ _ d j l i Q m (R.up h) λo p q r=>k o p (h.trans q) r
 |false=>rw[A5 A8];rw[A5 A8]at d;cases d;exact k j l h m
def aMN(a:STt K tt ft)(b:STt K uu gt):STt K (tOr tt uu) (gOr ft gt):=by
 intro γ M x M' d W H i Q G R k;obtain⟨⟨c,M1⟩,n,d⟩:=aJ d;refine a _ _ _ _ n W H i _ G R λj l h m=>?_;cases c with
 |true=>rw[A4 rfl];rw[A4 rfl]at d;cases d;exact k j l h m
 |false=>rw[A5 A8];rw[A5 A8]at d;exact b _ _ _ _ d j l i Q m (R.up h) λo p q r=>k o p (h.trans q) r
def aLe(a:STt K tt ft):STt K (aNO tt) (qG ft):=by
 intro γ M x M' b W H d Q G R k;obtain⟨⟨c,M1⟩,h,b⟩:=aJ b;cases b;exact a _ _ _ _ h W H d _ G R λi j l m=>k i j l m
def aJq(a:SE K ta f):STt K (tB ta) (gB f):=by
 intro γ M x M' b W H d Q G R k;obtain⟨⟨y,M1⟩,h,b⟩:=aJ b;obtain⟨c,i,b⟩:=aJ b;refine a _ _ _ _ h W H d _ G R λv j l m n o=>?_;have p:=LF i;subst p;cases b;exact⟨_,o,k j l m n⟩
def WN(a:SE K ta f):STt K (aDd ta) (gB f):=aJq a
def aJp:SA K aAa aF:=by
 intro γ M x M' a W H b Q G R k;cases a;exact k [] W H (.refl _) G .nil
def aGC(a:SE K ta f)(b:SA K tA fa):SA K (wO ta tA) (aA f fa):=by
 intro γ M x M' c W H d Q G R k;obtain⟨⟨y,M1⟩,j,c⟩:=aJ c;obtain⟨⟨t,M2⟩,l,c⟩:=aJ c;cases c;refine a _ _ _ _ j W H d _ G R λv m n h o p=>?_;exact b _ _ _ _ l m n d _ o (R.up h) λvs q r i G2 s=>k _ q r (h.trans i) G2 (.cons (p.up i) s)
def aKB(b:SA K tA fa):SE K (aDq tA) (eF fa):=by
 intro γ M x M' a W H i Q G R k;obtain⟨⟨s,M1⟩,j,a⟩:=aJ a;obtain⟨l,m,a⟩:=aJ a;by_cases c:l.length<=ba
 .rw[A4 c]at a;cases a;refine b _ _ _ _ j W H i _ G R λvs t u n o q=>?_;have d:=hX m q;refine⟨by rw[<- d.length];exact c,λp r=>?_⟩;obtain⟨h,G2⟩:=o.lay r;exact k _ _ _ (n.trans h) G2 ⟨p,vs,rfl,SqT.of aS,aM.same h.ff _ _ d⟩
 .rw[A5 c]at a;cases a
def aJl(b:SA K tA fa):SE K (aFz tA) (dP fa):=by
 intro γ M x M' a W H i Q G R k;obtain⟨⟨s,M1⟩,j,a⟩:=aJ a;obtain⟨l,m,a⟩:=aJ a;by_cases c:l.length<=ba
 .rw[A4 c]at a;cases a;refine b _ _ _ _ j W H i _ G R λvs t u n o q=>?_;have d:=hX m q;refine⟨by rw[<- d.length];exact c,λp r=>?_⟩;obtain⟨h,G2⟩:=o.lay r;exact k _ _ _ (n.trans h) G2 ⟨p,vs,rfl,SqL.of aS,aM.same h.ff _ _ d⟩
 .rw[A5 c]at a;cases a
def Good.newV(g:Good K W M H):cK K (W.more p) (.c M.length) (.ref p):=by
 refine⟨?_,?_⟩
 .show M.length<W.n+1;rw[g.n];exact F6 _
 .show V.ref p=.ref (if M.length=W.n then p else W.α M.length);rw[A4 g.n.symm]
def aLN(b:SA K tA fa):SE K (aFz tA) (yN fa):=by
 intro γ M x M' a W H i Q G R k;obtain⟨⟨j,M1⟩,l,a⟩:=aJ a;by_cases c:j.length<=ba
 .have a:=a;rw[A4 c]at a;cases a;refine b _ _ _ _ l W H i _ G R λvs m q n d h=>?_;refine⟨by rw[<- Paired.len h];exact c,λp o=>?_⟩;exact k _ _ _ (n.trans<|m.ext_more p) (d.new o h) d.newV
 .have a:=a;rw[A5 c]at a;cases a
def aHj{h:FN}(b:SA K tA fa):SE K (aCn (spM K h) [] E0 tA) (aL h fa):=by
 intro γ M x M' a W H c Q G R k;obtain⟨⟨d,M1⟩,i,a⟩:=aJ a;refine b _ _ _ _ i W H c _ G R λvs j s l m n=>?_;rw[D8];exact⟨d,M1,j,x,M',m,n,a,λv o p q G2 r=>k v o p (l.trans q) G2 r⟩
def aIR{r:Tc->Hp->VK->Prop}{h:FN}(p:PN K r h)(b:SA K tA fa):SE K (tCB r tA) (aL h fa):=by
 intro γ M x M' a W H c Q G R k;obtain⟨⟨u,M1⟩,d,a⟩:=aJ a;refine b _ _ _ _ d W H c _ G R λvs i j l m n=>?_;exact p _ _ _ _ a i j vs Q m n λv o q s G2 t=>k v o q (l.trans s) G2 t
end
section
variable{K:Fg}{ta tb tc:TE}{f g e:EF}{tt uu:TT}{ft gt:TF}{tA:TA}{fa:AF}{t u:TS}{p q:SF}{tg:TG}{hg:GF}{tgs:TGs}{hgs:GsF}
def aFt:SS K aIy cV:=by
 intro γ M o M' a W H b D G R k;cases a;exact k W H (.refl _) G b R
def aEi(a:SS K t p)(b:SS K u q):SS K (aFW t u) (bF p q):=by
 intro γ M o M' c W H n D G R k;obtain⟨⟨r,M1⟩,s,c⟩:=aJ c;refine a _ _ _ _ s W H n _ G R λh i j l=>?_;cases r with
 |nx d=>
  intro m v;exact b _ _ _ _ c h i m D l v λw y z G2=>k w y (j.trans z) G2
 |bk d=>cases c;exact k h i j l
 |ct d=>cases c;exact k h i j l
 |rt x=>cases c;exact k h i j l
def aFE(a:SE K ta f):SS K (aIN ta) (tX f):=by
 intro γ M o M' b W H c D G R k;obtain⟨⟨y,M1⟩,h,b⟩:=aJ b;cases b;exact a _ _ _ _ h W H c _ G R λv i j d l m=>k i j d l c<|R.up d
def aJm(a:SE K ta f):SS K (aKL ta) (bP f):=by
 intro γ M o M' b W H c D G R k;obtain⟨⟨y,M1⟩,d,b⟩:=aJ b;cases b;exact a _ _ _ _ d W H c _ G R λv h i j l m=>k h i j l v m
def aMF(c:STt K tt ft)(a:SS K t p)(b:SS K u q):SS K (aLW tt t u) (sIf ft p q):=by
 intro γ M o M' d W H i D G R k;obtain⟨⟨w,M1⟩,x,d⟩:=aJ d;refine c _ _ _ _ x W H i _ G R λr s h v=>?_;cases w with
 |true=>rw[A4 rfl];rw[A4 rfl]at d;exact a _ _ _ _ d r s i D v (R.up h) λj l m n=>k j l (h.trans m) n
 |false=>rw[A5 A8];rw[A5 A8]at d;exact b _ _ _ _ d r s i D v (R.up h) λj l m n=>k j l (h.trans m) n
def UJ(a:SE K ta f)(b:SG K tg hg):SS K (aCe ta tg) (aZ f hg):=by
 intro γ M o M' c W H h D G R k;obtain⟨⟨y,M1⟩,j,c⟩:=aJ c;obtain⟨⟨l,M2⟩,m,c⟩:=aJ c;cases c;refine a _ _ _ _ j W H h _ G R λv n r i s w=>?_;exact b _ _ _ _ _ m n r h v _ s (R.up i) w λd x z A G2 R2=>k x z (i.trans A) G2 d R2
def cN.set{a:St}{x:CD}{v:V}(R:cN K W γ a)(i:Nat)(r:cK K W x v):cN K W (γ.set i<|Z x) (a.set i<|Z v):=Paired.set (show TN K W (Z x) (Z v)from r) i R
def LJ:SG K (NQ i) (br i):=by
 intro x γ M a M' b W H c v Q G R r k;cases b;exact k _ W H (.refl _) G<|cN.set R i r
def aHa:SGs K aMP gG:=by
 intro xs γ M b M' a W H c vs Q G R r k;cases r with
 |nil=>cases a;exact⟨rfl,k c W H (.refl _) G R⟩
 |cons _ _=>cases a
def aCv(a:SG K tg hg)(b:SGs K tgs hgs):SGs K (aIF tg tgs) (bC hg hgs):=by
 intro xs γ M j M' c W H l vs Q G R r k;cases r with
 |nil=>cases c
 |@cons x v xs vs m n=>
  obtain⟨⟨o,M1⟩,s,c⟩:=aJ c;refine⟨v,vs,rfl,a _ _ _ _ _ s W H l v _ G R m λd w y i z A=>?_⟩;exact b _ _ _ _ _ c w y d vs _ z A (bX.up n i) λh B C D G2 R2=>k h B C (i.trans D) G2 R2
def aJT{n:Nat}(b:SGs K tgs hgs):SG K (aEc K n tgs) (iG n hgs):=by
 intro x γ M j M' h W H s v Q G R r k;cases x with
 |c _=>cases h
 |f _=>cases h
 |g _=>cases h
 |t xs=>
  have h:(if xs.length=n then hgs (xs.map cdA) γ M else Y)=Z (j,M'):=h;by_cases i:xs.length=n
  .rw[A4 i]at h;obtain⟨a,vs,rfl,m,l⟩:=r;have w:=XR l;exact⟨a,vs,rfl,SqT.of<|G.fh _ _ m,by rw[<- i];simpa using(Paired.len l).symm,b _ _ _ _ _ h W H s vs Q G R w k⟩
  .rw[A5 i]at h;cases h
 |d x=>
  cases x with
  |tuple o=>
   have h:(if o.length=n then hgs (o.map .d) γ M else Y)=Z (j,M'):=h;by_cases i:o.length=n
   .rw[A4 i]at h;obtain⟨a,vs,rfl,m,l⟩:=r;exact⟨a,vs,rfl,G.fh.seqT m,by rw[<- l.length];exact i,b _ _ _ _ _ h W H s vs Q G R (lA l) k⟩
   .rw[A5 i]at h;cases h
  |_=>cases h
def P3(K:Fg)(r:V->V->V->Hp->(Hp->Prop)->Prop)(f:F3):Prop:=∀x y z M M',f x y z M=Z M'->∀(W:Wd)(H:Hp)(v u w:V)(Q:Hp->Prop),Good K W M H->cK K W x v->cK K W y u->cK K W z w->(∀W' H',W.Ext W'->Good K W' M' H'->Q H')->r v u w H Q
def aKN{r:aHh}{s:F3}(p:P3 K r s)(a:SE K ta f)(b:SE K tb g):SG K (aNH ta tb r) (hSub f g s):=by
 intro x γ M m M' c W H j v Q G R n k;obtain⟨⟨o,M1⟩,w,c⟩:=aJ c;obtain⟨⟨i,M2⟩,y,c⟩:=aJ c;obtain⟨T,z,c⟩:=aJ c;cases c;refine a _ _ _ _ w W H j _ G R λA B C d D E=>?_;refine b _ _ _ _ y B C j _ D (R.up d) λI J L h G2 N=>?_;exact p _ _ _ _ _ z J L A I v _ G2 (E.up h) N (n.up<|d.trans h) λO P l S=>k j O P ((d.trans h).trans l) S<|R.up<|(d.trans h).trans l
def aJO(b:SA K tA fa):SS K (aMI i j tA) (GU i j fa):=by
 intro γ M o M' a W H d D G R k;obtain⟨⟨w,M1⟩,h,a⟩:=aJ a;refine b _ _ _ _ h W H d _ G R λvs l m c n r=>?_;obtain _|⟨s,_|⟨v,_|_⟩⟩:=r
 .cases a
 .cases a
 .cases a;exact⟨_,_,rfl,k l m c n _<|cN.set (cN.set (R.up c) i s) j v⟩
 .cases a
def JO(K:Fg)(J:It)(xs:T6)(W:Wd):Prop:=∀W' M' H',W.Ext W'->Good K W' M' H'->
 (∀i x,xs[i]?=Z x->J.go i H'/\∀y b,J.yld i H' y b->∃a,W'.Ext a/\Good K a M' b/\cK K a x y)/\J.stop xs.length H'
def SI(K:Fg)(b:TI)(f:AF):Prop:=∀γ M xs M',f γ M=Z (xs,M')->∀(W:Wd)(H:Hp)(a:St)(R:It->Hp->Prop),Good K W M H->cN K W γ a->(∀J W' H',W.Ext W'->Good K W' M' H'->JO K J xs W'->R J H')->b a H R
def bD(f:EF):AF:=λγ M=>(f γ M).bind λr=>match r.1 with
 |.d x=>(bW x).bind λa=>Z (a.map .d,r.2)
 |_=>Y
def aJV(a:SE K ta f):SI K (aBs K ta) (bD f):=by
 intro γ M xs M' h W H I R G Rs k;obtain⟨⟨y,M1⟩,J,h⟩:=aJ h;cases y with
 |c _=>cases h
 |t _=>cases h
 |f _=>cases h
 |g _=>cases h
 |d y=>
  obtain⟨B,L,h⟩:=aJ h;cases h;refine a _ _ _ _ J W H I _ G Rs λv z C D w N=>?_;obtain⟨p,vs,rfl,hs,E⟩:=pQ N L;refine⟨p,rfl,?_⟩
  have item:∀(i:Nat)(x:CD)(j:Wd),z.Ext j->(B.map CD.d)[i]?=Z x->∃u,vs[i]?=Z u/\cK K j x u:=λi x j m o=>by
   obtain⟨u,n,r⟩:=Paired.get (lA E) o;exact⟨u,n,r.up m⟩
  have l:(B.map CD.d).length=vs.length:=by rw[A1];exact E.length
  obtain hs|hs:=hs
  .refine .inl ⟨vs,w.fh.seq hs,k _ z C D w λj M2 O m G2=>?_⟩;have b:=G2.fh.seq<|m.ff.seq hs;refine⟨λi x o=>?_,?_⟩
   .obtain⟨u,n,r⟩:=item i x j m o;refine⟨⟨vs,u,b,n⟩,λP A s=>⟨j,.refl _,by rw[s.1];exact G2,?_⟩⟩;have:=s.2 vs b;rw[n]at this;cases this;exact r
   .rw[l];exact⟨vs,b,A7 _⟩
  .refine .inr ⟨vs,w.fh.seqT hs,k _ z C D w λj M2 O m G2=>?_⟩;have b:=G2.fh.seqT<|m.ff.seqT hs;refine⟨λi x o=>?_,?_⟩
   .obtain⟨u,n,r⟩:=item i x j m o;refine⟨⟨vs,u,b,n⟩,λP A s=>⟨j,.refl _,by rw[s.1];exact G2,?_⟩⟩;have:=s.2 vs b;rw[n]at this;cases this;exact r
   .rw[l];exact⟨vs,b,A7 _⟩
noncomputable def gO(lo:Int)(n:Nat):T6:=(List.range n).map λi=>.d (.int (lo+(i:Nat)))
def OV{lo:Int}{i:Nat}{x:CD}(h:(gO lo n)[i]?=Z x):i<n/\x=.d (.int (lo+i)):=by
 unfold gO at h;rw[D3]at h;by_cases hi:i<n
 .rw[List.getElem?_range hi]at h;exact⟨hi,(D5 h).symm⟩
 .rw[List.getElem?_eq_none_iff.mpr (by grind)]at h;cases h
noncomputable def dR(i:Int):Bool:=decide (-(2 ^ 62)<=i)&&decide (i<2 ^ 62)
def fA(f:AF):AF:=λγ M=>(f γ M).bind λr=>match r.1 with
 |[.d (.int j)]=>if dR j=true then Z (gO 0 j.toNat,r.2)else Y
 |_=>Y
def HI(f:AF):AF:=λγ M=>(f γ M).bind λr=>match r.1 with
 |[.d (.int i),.d (.int j)]=>if dR i=true/\dR j=true then Z (gO i (j-i).toNat,r.2)else Y
 |_=>Y
def HH{lo:Int}:JO K (Itr lo n) (gO lo n) W:=λW' M' H' e G=>
 ⟨λi x a=>⟨(OV a).1,λy c b=>⟨W',.refl _,by rw[b.1];exact G,by rw[(OV a).2];exact b.2⟩⟩,by show n<=_;simp[gO]⟩
def fE(h:dR i=true):-(2 ^ 62)<=i/\i<2 ^ 62:=by
 unfold dR at h;rw[B8]at h;exact⟨D4 h.1,D4 h.2⟩
def aFG(b:SA K tA fa):SI K (aIn tA) (fA fa):=by
 intro γ M xs M' a W H c R G Rs k;obtain⟨⟨s,M1⟩,d,a⟩:=aJ a;refine b _ _ _ _ d W H c _ G Rs λvs h i l m n=>?_;revert a;dsimp only;split
 .rename_i j;intro a;by_cases hs:dR j=true
  .rw[A4 hs]at a;cases a;cases n with
   |cons r o=>
    cases o;exact⟨j,by rw[show _=V.int j from r],(fE hs).1,(fE hs).2,k _ h i l m HH⟩
  .rw[A5 hs]at a;cases a
 .intro a;cases a
def aHK(b:SA K tA fa):SI K (aID tA) (HI fa):=by
 intro γ M xs M' a W H d R G Rs k;obtain⟨⟨x,M1⟩,h,a⟩:=aJ a;refine b _ _ _ _ h W H d _ G Rs λvs l m n o s=>?_;revert a;dsimp only;split
 .rename_i i j;intro a;by_cases hs:dR i=true/\dR j=true
  .rw[A4 hs]at a;cases a;cases s with
   |cons r v=>
    cases v with
    |cons w c=>
     cases c;exact⟨i,j,by rw[show _=V.int i from r,show _=V.int j from w],⟨(fE hs.1).1,(fE hs.1).2,(fE hs.2).1,(fE hs.2).2⟩,k _ l m n o HH⟩
  .rw[A5 hs]at a;cases a
 .intro a;cases a
def aLZ{U:TI}(i:SI K U fa)(a:SG K tg hg)(b:SS K t p):SS K (aEn U tg t) (xO fa hg p):=by
 intro γ M o M' N W H σ D G R k;obtain⟨⟨xs,M1⟩,h1,N⟩:=aJ N;refine i _ _ _ _ h1 W H σ _ G R λJ V H1 B G1 gv=>?_;refine⟨λj m d H'=>∃r M2 s,j<=xs.length/\m=xs.length-j/\V.Ext s/\Good K s M2 H'/\cN K s r d/\wR hg p (xs.drop j) r M2=Z (o,M'),⟨_,γ,M1,V,E6 _,rfl,.refl _,G1,R.up B,N⟩,?_⟩;rintro j m d H' ⟨r,M2,s,hj,rfl,w,G2,R2,c⟩;obtain⟨O,P⟩:=gv s M2 H' w G2;by_cases v:j<xs.length
 .obtain⟨go,yl⟩:=O j xs[j]<|C4 v;rw[S4 v]at c;refine .inr ⟨go,λz C=>∃h E A,s.Ext A/\Good K A E C/\cN K A h z/\wR hg p (xs.drop (j+1)) h E=Z (o,M'),?_,λy C hy=>?_⟩
  .rintro z C ⟨h,E,A,e3,G3,R3,h3⟩;exact⟨_,by omega,h,E,A,v,rfl,w.trans e3,G3,R3,h3⟩
  .obtain⟨W8,X,G8,ry⟩:=yl y C hy;obtain⟨⟨a0,M4⟩,h4,c⟩:=aJ c;obtain⟨⟨o5,M5⟩,h5,c⟩:=aJ c;refine a _ _ _ _ _ h4 W8 _ d y _ G8 (R2.up X) ry λQ W4 H4 e4 G4 R4=>?_;refine b _ _ _ _ h5 W4 H4 Q _ G4 R4 λI H5 e5 L=>?_;have l:=(X.trans e4).trans e5;cases o5 with
   |nx n=>exact λS T=>⟨n,M5,I,l,L,T,c⟩
   |ct n=>exact λS T=>⟨n,M5,I,l,L,T,c⟩
   |bk n=>cases c;exact k I H5 ((B.trans w).trans l) L
   |rt x=>cases c;exact k I H5 ((B.trans w).trans l) L
 .have e:j=xs.length:=by omega
  subst e;rw[Z6]at c;cases c;exact .inl ⟨P,k s H' (B.trans w) G2 d R2⟩
def aDu(c:STt K tt ft)(b:SS K t p):SS K (aCt tt t) (vQ ft p):=by
 intro γ M o M' v W H σ D G R k;unfold vQ at v;by_cases l:∃n,(fX ft p n γ M).isSome=true
 .rw[dif_pos l]at v;generalize l.choose=n at v;refine⟨λm a H'=>∃r M2 w,W.Ext w/\Good K w M2 H'/\cN K w r a/\fX ft p m r M2=Z (o,M'),⟨n,γ,M,W,.refl _,G,R,v⟩,?_⟩;rintro m a H' ⟨r,M2,w,A,G2,R2,d⟩;cases m with
  |zero=>cases d
  |succ m=>
   obtain⟨⟨T,M3⟩,U,d⟩:=aJ d;refine c _ _ _ _ U w H' a _ G2 R2 λN O B P=>?_;cases T with
   |true=>
    obtain⟨⟨V,s⟩,I,d⟩:=aJ d;refine⟨λy Q=>∃h s z,w.Ext z/\Good K z s Q/\cN K z h y/\fX ft p m h s=Z (o,M'),?_,?_⟩
    .rintro y Q ⟨h,s,z,X,G4,R4,I⟩;exact⟨m,F6 _,h,s,z,A.trans X,G4,R4,I⟩
    .refine b _ _ _ _ I N O a _ P (R2.up B) λC S e5 E=>?_;have i:=B.trans e5;cases V with
     |nx j=>exact λJ L=>⟨j,s,C,i,E,L,d⟩
     |ct j=>exact λJ L=>⟨j,s,C,i,E,L,d⟩
     |bk j=>cases d;exact k C S (A.trans i) E
     |rt x=>cases d;exact k C S (A.trans i) E
   |false=>
    cases d;exact k N O (A.trans B) P a<|R2.up B
 .rw[dif_neg l]at v;cases v
theorem mH:∀{n m:Nat}{γ:Ga}{M:Sto}{r:Out×Sto},fX c b n γ M=Z r->n<=m->fX c b m γ M=Z r
 |0,_,_,_,_=>λh _=>by cases h
 |n+1,0,_,_,_=>λ_ h=>by omega
 |n+1,m+1,γ,M,r=>λh k=>by
  obtain⟨⟨d,M1⟩,i,h⟩:=aJ h;show(c γ M).bind _=_;rw[i];show(if d=true then _ else _)=_;cases d with
  |false=>exact h
  |true=>
   obtain⟨⟨o,M2⟩,j,h⟩:=aJ h;rw[j];cases o with
   |nx a=>exact mH h (by omega)
   |ct a=>exact mH h (by omega)
   |bk a=>exact h
   |rt x=>exact h
def OO{r:Out×Sto}(h:fX c b n γ M=Z r):vQ c b γ M=Z r:=by
 unfold vQ;have a:∃n,(fX c b n γ M).isSome=true:=⟨n,by rw[h];rfl⟩;rw[dif_pos a];have hs:=a.choose_spec;cases q:fX c b a.choose γ M with
 |none=>rw[q]at hs;cases hs
 |some d=>
  obtain z|z:=Nat.le_total n a.choose
  .rw[mH h z]at q;exact q.symm▸rfl
  .rw[mH q z]at h;exact h
theorem LO{W:Wd}{γ:Ga}{a:St}(R:cN K W γ a):∀cap:T3,cN K W (lJ cap γ) (tM cap a)
 |[]=>.nil
 |none::r=>.cons True.intro (LO R r)
 |some j::r=>by
  refine .cons ?_ (LO R r);show TN K W ((γ[j]?).join) ((a[j]?).join);cases e:γ[j]? with
  |none=>
   have:a[j]?=Y:=by
    have d:=Paired.len R;exact List.getElem?_eq_none_iff.mpr (by grind)
   rw[this];exact True.intro
  |some x=>
   obtain⟨y,b,c⟩:=Paired.get R e;rw[b];exact c
def MZ{wi:TI}{cap:T3}{te:TE}{O:EF}(i:SI K wi fa)(a:SG K tg hg)(c:STt K tt ft)(b:SE K te O){xs:T6}{M':Sto}(D:OH cap fa hg ft O γ M=Z (xs,M'))
 {W:Wd} {H:Hp} {X:St} {Q:VK} (G:Good K W M H) (R:cN K W γ X) (k:∀vs W' H',W.Ext W'->Good K W' M' H'->bX K W' xs vs->∀p,H' p=Y->Q (.ref p) (upd H' p (.lst vs))):tLc cap wi tg tt te X H Q:=by
 obtain⟨⟨w,M1⟩,h1,D⟩:=aJ D;by_cases hl:w.length<=ba
 .rw[A4 hl]at D;refine i _ _ _ _ h1 W H X _ G R λJ W1 H1 e1 G1 gv=>?_
  refine⟨λj m acc A H'=>∃B M2 x pre o,j<=w.length/\m=w.length-j/\acc.length<=j/\W1.Ext x/\Good K x M2 H'/\cN K x B A/\bX K x pre acc/\pre++o=xs/\lcF hg ft O (w.drop j) B M2=Z (o,M'),
   ⟨_,lJ cap γ,M1,W1,[],xs,E6 _,rfl,E6 _,.refl _,G1,LO (R.up e1) cap,.nil,rfl,D⟩,?_⟩
  rintro j m acc A H' ⟨B,M2,x,pre,o,hj,rfl,a5,e2,G2,R2,rp,P,l⟩;obtain⟨a0,a1⟩:=gv x M2 H' e2 G2;by_cases C:j<w.length
  .obtain⟨go,yl⟩:=a0 j w[j]<|C4 C;rw[S4 C]at l;refine .inr ⟨go,by omega,λn I S=>∃r T E d h,n.length<=j+1/\x.Ext E/\Good K E T S/\cN K E r I/\bX K E d n/\d++h=xs/\lcF hg ft O (w.drop (j+1)) r T=Z (h,M'),?_,λy S hy=>?_⟩
   .rintro n I S ⟨r,T,E,d,h,a2,e3,G3,R3,a3,a4,h3⟩;exact⟨_,by omega,r,T,E,d,h,C,rfl,a2,e2.trans e3,G3,R3,a3,a4,h3⟩
   .obtain⟨W8,e8,G8,ry⟩:=yl y S hy;obtain⟨⟨L,M4⟩,h4,l⟩:=aJ l;obtain⟨⟨b5,M5⟩,h5,l⟩:=aJ l;refine a _ _ _ _ _ h4 W8 _ A y _ G8 (R2.up e8) ry λN W4 H4 e4 G4 U=>?_;refine c _ _ _ _ h5 W4 H4 N _ G4 U λW5 H5 V G5=>?_;have s:=(e8.trans e4).trans V;cases b5 with
    |true=>
     obtain⟨⟨z,M6⟩,h6,l⟩:=aJ l;obtain⟨⟨zs,M7⟩,h7,l⟩:=aJ l;cases l;refine .inl ⟨rfl,b _ _ _ _ h6 W5 H5 N _ G5 (U.up V) λv W6 H6 e6 G6 r6=>?_⟩;refine⟨L,M6,W6,pre++[z],zs,by rw[B9];simp only[List.length_singleton];omega,s.trans e6,G6,U.up<|V.trans e6,Paired.app (bX.up rp<|s.trans e6) (.cons r6 .nil),by rw[<- P,E2];rfl,h7⟩
    |false=>
     exact .inr ⟨rfl,L,M5,W5,pre,o,by omega,s,G5,U.up V,bX.up rp s,P,l⟩
  .have e:j=w.length:=by omega
   subst e;rw[Z6]at l;cases l;rw[D8]at P;subst P;exact .inl ⟨a1,k acc x H' (e1.trans e2) G2 rp⟩
 .rw[A5 hl]at D;cases D
def aIi{h:TI}{cap:T3}{j:TE}{l:EF}(i:SI K h fa)(a:SG K tg hg)(c:STt K tt ft)(b:SE K j l):SE K (tLc cap h tg tt j) (fLc cap fa hg ft l):=by
 intro γ M x M' d W H A Q G R k;obtain⟨⟨B,M1⟩,o,d⟩:=aJ d;obtain⟨r,s,d⟩:=aJ d;by_cases m:r.length<=ba
 .rw[A4 m]at d;cases d;refine MZ i a c b o G R λvs C D v w y p z=>?_;obtain⟨n,G2⟩:=w.lay z;exact k _ _ _ (v.trans n) G2 ⟨p,vs,rfl,SqL.of aS,aM.same n.ff _ _<|hX s y⟩
 .rw[A5 m]at d;cases d
def aKY:STt K aMK eP:=by
 intro γ M x M' a W H b Q G R k;cases a;exact k W H (.refl _) G
theorem bX.some{W:Wd}:∀{xs:T6}{vs:Tc},bX K W xs vs->cN K W (xs.map Z) (vs.map Z)
 |_,_,.nil=>.nil
 |_,_,.cons r t=>.cons r (bX.some t)
theorem sP{W:Wd}:∀n:Nat,cN K W (List.replicate n Y) (List.replicate n Y)
 |0=>.nil
 |n+1=>.cons True.intro (sP n)
def Def.okM{P:Ue}{w:World}{mg:Str->Tf}{base:Heap}{x:Str}{st:Stmt}{N ps:Tb}{k:Nat}{b:SF}{q:Bool}(D:Def K mg x st)(S:aU N ps (aI st))
 (n:∀(kV doc pm:Tz)(an:Th)(cdv ct:Tz)(us:T5),us.length=ps.length->bindArgs (PySem.W.fnOf x x (eE st) (bU st) (aI st) .none kV doc pm an cdv ct) ⟨us,[]⟩=pure (ps.zip us))
 (c:∀(f:Uc)(cdv:Tz)(A:Uf)(outer:Tv Env)(s:Ub)(H:Hp)(E:XK),cE k (A.deeper<|envOfC x (aI st) s.heap.objs.size f cdv) q->
  ∃t,PSs (mZ CX0 P w K mg base N x (aI st) f cdv A outer s H E q).nox (bU st) t/\SS K t b):Callee P w K mg base (k+1) x ps (spM K (fnF ps.length N.length b)) q:=by
 have len:∀vs H Q E,spM K (fnF ps.length N.length b) vs H Q E->vs.length=ps.length:=λvs H Q E h=>by
  obtain⟨xs,M,W,y,M',G,R,a,_⟩:=h;by_cases d:xs.length=ps.length
  .rw[<- Paired.len R];exact d
  .unfold fnF at a;rw[A5 d]at a;cases a
 refine D.ok S n len λf cdv A outer s H vs Q E z h=>?_;obtain⟨t,B,hS⟩:=c f cdv A outer s H E z;refine⟨t,B,?_⟩;obtain⟨xs,M,W,y,M',G,R,a,k⟩:=h;by_cases d:xs.length=ps.length
 .unfold fnF at a;rw[A4 d]at a;obtain⟨⟨o,M1⟩,C,a⟩:=aJ a
  have I:cN K W (xs.map Z++List.replicate (N.length-xs.length) Y) (start N vs):=by
   unfold start;rw[<- Paired.len R];exact Paired.app (bX.some R)<|sP _
  refine hS _ _ _ _ C W H _ _ G I λi j l m=>?_;cases o with
  |rt x=>cases a;exact λv r=>k v i j l m r
  |nx γ=>cases a;exact λJ r=>k .non i j l m rfl
  |bk γ=>cases a
  |ct γ=>cases a
 .unfold fnF at a;rw[A5 d]at a;cases a
end
def yF(h h':F2):F2:=λx y M=>match h x y M with
 |some r=>Z r
 |none=>h' x y M
def pI(g:Int->Int->Tw Ua):F2:=λx y M=>match x,y with
 |.d (.int i),.d (.int j)=>(g i j).bind λz=>Z (.d z,M)
 |_,_=>Y
def aCI{g:Int->Int->Tw Ua}{x y:CD}{z:CD}{M':Sto}(h:pI g x y M=Z (z,M')):∃i j w,x=.d (.int i)/\y=.d (.int j)/\g i j=Z w/\z=.d w/\M'=M:=by
 unfold pI at h;split at h
 .rename_i i j;obtain⟨w,a,h⟩:=aJ h;cases h;exact⟨i,j,w,rfl,rfl,a,rfl,rfl⟩
 .cases h
section
variable{X:Cx}{K:Fg}
def aJb{g:Int->Int->Int}:P2 K (rI0 λi j=>.int (g i j)) (pI λi j=>Z (.int (g i j))):=by
 intro x y M z M' h W H v u Q G a b k;obtain⟨i,j,w,rfl,rfl,c,rfl,rfl⟩:=aCI h;cases c;exact⟨i,j,a,b,k _ W H (.refl _) G rfl⟩
def YH{g:Int->Int->Bool}:P2 K (rI0 λi j=>.bl (g i j)) (pI λi j=>Z (.bool (g i j))):=by
 intro x y M z M' h W H v u Q G a b k;obtain⟨i,j,w,rfl,rfl,c,rfl,rfl⟩:=aCI h;cases c;exact⟨i,j,a,b,k _ W H (.refl _) G rfl⟩
def ifS(c:Bool)(x:Ua):Tw Ua:=if c=true then Z x else Y
def aMd{y:Ua}(h:ifS c x=Z y):c=true/\y=x:=by
 unfold ifS at h;cases c with
 |true=>rw[A4 rfl]at h;cases h;exact⟨rfl,rfl⟩
 |false=>rw[A5 A8]at h;cases h
def aGI{C:Int->Int->Prop}{c:Int->Int->Bool}{g:Int->Int->Int}(a:∀i j,c i j=true->C i j):P2 K (rI C λi j=>.int (g i j)) (pI λi j=>ifS (c i j) (.int (g i j))):=by
 intro x y M z M' h W H v u Q G b d k;obtain⟨i,j,w,rfl,rfl,e,rfl,rfl⟩:=aCI h;obtain⟨f,rfl⟩:=aMd e;exact⟨i,j,b,d,a i j f,k _ W H (.refl _) G rfl⟩
def aLG:F2:=pI λi j=>Z (.int (i+j))
def yW:F2:=pI λi j=>Z (.int (i-j))
def nO(i j:Int):Bool:=decide (i.natAbs<2 ^ 64) || decide (j.natAbs<2 ^ 64) || (decide (i.natAbs<AA)&&decide (j.natAbs<AA))
def mR:F2:=pI λi j=>ifS (nO i j) (.int (i*j))
def zQ(_ j:Int):Bool:=decide (0<j)&&decide (j.natAbs<AA)
def bR:F2:=pI λi j=>ifS (zQ i j) (.int (i / j))
noncomputable def sR(_ j:Int):Bool:=decide (0<j)
def bB:F2:=pI λi j=>ifS (sR i j) (.int (i % j))
noncomputable def aJa(i j:Int):Bool:=decide (0<=j)&&decide (j<=1000000)&&decide (i.natAbs<2 ^ 64)
def wJ:F2:=pI λi j=>ifS (aJa i j) (.int (i ^ j.toNat))
def mulOk_of(h:nO i j=true):QV i j:=by
 unfold nO at h;simp only[Bool.or_eq_true,Bool.and_eq_true,decide_eq_true_eq]at h;obtain(h|h)|h:=h
 .exact .inl (.inl ⟨by omega,by omega⟩)
 .exact .inl (.inr ⟨by omega,by omega⟩)
 .exact .inr h
def ltI:F2:=pI λi j=>Z (.bool (decide (i<j)))
def leI:F2:=pI λi j=>Z (.bool (decide (i<=j)))
def gtI:F2:=pI λi j=>Z (.bool (decide (j<i)))
def geI:F2:=pI λi j=>Z (.bool (decide (j<=i)))
def eqD(neg:Bool):F2:=λx y M=>match x,y with
 |.d a,.d b=>if (bo a&&bo b)=true then Z (.d (.bool (if neg then !bp a b else bp a b)),M)else Y
 |_,_=>Y
def aIw:P2 K (aAm K neg) (eqD neg):=by
 intro x y M z M' h W H v u Q G c d k;unfold eqD at h;split at h
 .rename_i a b;by_cases hs:(bo a&&bo b)=true
  .rw[A4 hs]at h;cases h;rw[B8]at hs;exact⟨a,b,Rep.same G.fh _ _ c,Rep.same G.fh _ _ d,hs.1,hs.2,k _ W H (.refl _) G rfl⟩
  .rw[A5 hs]at h;cases h
 .cases h
def inD(neg:Bool):F2:=λx y M=>match x,y with
 |.d a,.d b=>(bW b).bind λc=>if (bo a&&c.all bo)=true then Z (.d (.bool (if neg then !c.any λd=>bp d a else c.any λd=>bp d a)),M)else Y
 |_,_=>Y
def aMs{neg:Bool}:P2 K (aLu K neg) (inD neg):=by
 intro x y M z M' h W H v u Q G d e k;unfold inD at h;split at h
 .rename_i a b;obtain⟨c,f,h⟩:=aJ h;by_cases hs:(bo a&&c.all bo)=true
  .rw[A4 hs]at h;cases h;rw[B8]at hs;obtain⟨p,vs,rfl,g,i⟩:=pQ (Rep.same G.fh _ _ e) f;exact⟨a,c,p,vs,Rep.same G.fh _ _ d,rfl,g,i,hs.1,hs.2,k _ W H (.refl _) G rfl⟩
  .rw[A5 hs]at h;cases h
 .cases h
def aM.nth{i:Nat}{d:Ua}(h:aM K H ds vs)(e:ds[i]?=Z d):∃v,vs[i]?=Z v/\Rep K H d v:=by
 have b:i<vs.length:=by rw[<- h.length];exact(List.getElem?_eq_some_iff.mp e).1
 have c:=C4 b;obtain⟨f,a,r⟩:=h.get c;rw[e]at a;cases a;exact⟨_,c,r⟩
def TZ{a:Type}{xs:Tv a}{i:Int}{x:a}(h:atI xs i=Z x):∃j,ixN xs.length i=Z j/\xs[j]?=Z x:=by
 exact aJ h
def VE{a:Type}{xs:Tv a}{j:Nat}{x:a}(h:ixN xs.length i=Z j)(e:xs[j]?=Z x):atI xs i=Z x:=by
 unfold atI;rw[h];exact e
def ixF:F2:=λx y M=>match x,y with
 |.d a,.d (.int n)=>(bW a).bind λb=>(atI b n).bind λe=>Z (.d e,M)
 |.c i,.d (.int n)=>match M[i]? with
  |some (.lst xs)=>(atI xs n).bind λe=>Z (e,M)
  |_=>Y
 |.t xs,.d (.int n)=>(atI xs n).bind λe=>Z (cdA e,M)
 |_,_=>Y
def Good.lstAt{i:Nat}(G:Good K W M H)(h:M[i]?=Z (.lst xs)):∃vs,H (W.α i)=Z (.lst vs)/\bX K W xs vs:=by
 obtain⟨_,o,b,a⟩:=G.cs i _ h (by simp);cases o with
 |lst vs=>exact⟨vs,b,a⟩
 |_=>exact False.elim a
def aNS:P2 K (rIx K) ixF:=by
 intro x y M z M' h W H v u Q G t A k;unfold ixF at h;split at h
 .rename_i a n;obtain⟨O,D,h⟩:=aJ h;obtain⟨e,r,h⟩:=aJ h;cases h;obtain⟨p,vs,rfl,P,c⟩:=pQ (Rep.same G.fh _ _ t) D;obtain⟨j,s,d⟩:=TZ r;obtain⟨w,B,I⟩:=c.nth d;obtain⟨R,f,J,hq',g⟩:=pQ t D;cases J
  have same:∀o,f[j]?=Z o->Rep K W.F e o:=λo l=>by
   obtain⟨S,E,L⟩:=g.nth d;rw[l]at E;cases E;exact L
  obtain⟨o,l,q⟩:=g.nth d;have b:=VE (by rw[<- g.length];exact s) l;obtain hq'|hq':=hq'
  .exact .inl ⟨p,f,n,o,rfl,A,G.fh.seq hq',b,k _ W H (.refl _) G q⟩
  .exact .inr (.inl ⟨p,f,n,o,rfl,A,G.fh.seqT hq',b,k _ W H (.refl _) G q⟩)
 .rename_i i n;split at h
  .rename_i xs N;obtain⟨e,r,h⟩:=aJ h;cases h;obtain⟨vs,C,c⟩:=G.lstAt N;obtain⟨j,s,d⟩:=TZ r;obtain⟨w,B,q⟩:=Paired.get c d;have m:=VE (by rw[<- Paired.len c];exact s) B;rw[show v=.ref (W.α i)from t.2];exact .inl ⟨_,vs,n,w,rfl,A,SqL.of C,m,k _ W H (.refl _) G q⟩
  .cases h
 .rename_i xs n;obtain⟨e,r,h⟩:=aJ h;cases h;obtain⟨a,vs,rfl,C,c⟩:=t;obtain⟨j,s,d⟩:=TZ r;obtain⟨w,B,q⟩:=Paired.get c d;have m:=VE (by rw[<- Paired.len c];exact s) B;exact .inr (.inl ⟨_,vs,n,w,rfl,A,SqT.of<|G.fh _ _ C,m,k _ W H (.refl _) G (by cases e<;>exact q)⟩)
 .cases h
def iA:FN:=λxs M=>match xs with
 |[.d a]=>(bW a).bind λb=>Z (.d (.int b.length),M)
 |[.c i]=>match M[i]? with
  |some (.lst e)=>Z (.d (.int e.length),M)
  |_=>Y
 |[.t xs]=>Z (.d (.int xs.length),M)
 |_=>Y
def aKE:PN K (λxs H Q=>∃p ys,xs=[.ref p]/\(SqL K H p ys\/SqT K H p ys)/\Q (.int ys.length) H) iA:=by
 intro xs M z M' h W H vs Q G r k;unfold iA at h;split at h
 .rename_i a;obtain⟨j,e,h⟩:=aJ h;cases h;obtain _|⟨b,_|_⟩:=r;obtain⟨p,us,rfl,f,c⟩:=pQ (Rep.same G.fh _ _ b) e;refine⟨p,us,rfl,f,?_⟩;rw[<- c.length];exact k _ W H (.refl _) G rfl
 .rename_i i;split at h
  .rename_i ys g;cases h;obtain _|⟨b,_|_⟩:=r;obtain⟨us,d,c⟩:=G.lstAt g;rw[b.2];refine⟨_,us,rfl,.inl (SqL.of d),?_⟩;rw[<- Paired.len c];exact k _ W H (.refl _) G rfl
  .cases h
 .rename_i xs;cases h;obtain _|⟨b,_|_⟩:=r;obtain⟨a,us,rfl,d,c⟩:=b;refine⟨_,us,rfl,.inr (SqT.of<|G.fh _ _ d),?_⟩;rw[<- Paired.len c];exact k _ W H (.refl _) G rfl
 .cases h
def listF:FN:=λxs M=>match xs with
 |[.d a]=>(bW a).bind λb=>Z (.d (.list b),M)
 |[.c i]=>match M[i]? with
  |some (.lst e)=>(nB e).bind λb=>Z (.d (.list b),M)
  |_=>Y
 |_=>Y
def cH:FN:=λxs M=>match xs with
 |[.d (.list a)]=>Z (.d (.tuple a),M)
 |[.d (.tuple a)]=>Z (.d (.tuple a),M)
 |[.c i]=>match M[i]? with
  |some (.lst b)=>(nB b).bind λa=>Z (.d (.tuple a),M)
  |_=>Y
 |_=>Y
def aFl:PN K (λxs H Q=>∃p ys,xs=[.ref p]/\((SqL K H p ys/\∀l,H l=Y->Q (.ref l) (upd H l (.tup ys)))\/(SqT K H p ys/\Q (.ref p) H))) cH:=by
 intro xs M z M' h W H vs Q G r k;unfold cH at h;split at h
 .rename_i f;cases h;obtain _|⟨a,_|_⟩:=r;obtain⟨p,us,rfl,d,b⟩:=a;refine⟨p,us,rfl,.inl ⟨G.fh.seq d,λl e=>?_⟩⟩;obtain⟨c,G2⟩:=G.lay e;exact k _ _ _ c G2 ⟨l,us,rfl,SqT.of aS,aM.same c.ff _ _ b⟩
 .rename_i f;cases h;obtain _|⟨a,_|_⟩:=r;obtain⟨p,us,rfl,d,b⟩:=a;exact⟨p,us,rfl,.inr ⟨G.fh.seqT d,k _ W H (.refl _) G ⟨p,us,rfl,d,b⟩⟩⟩
 .rename_i i;split at h
  .rename_i ys g;obtain⟨f,j,h⟩:=aJ h;cases h;obtain _|⟨a,_|_⟩:=r;obtain⟨us,m,b⟩:=G.lstAt g;rw[a.2];refine⟨_,us,rfl,.inl ⟨SqL.of m,λl e=>?_⟩⟩;obtain⟨c,G2⟩:=G.lay e;exact k _ _ _ c G2 ⟨l,us,rfl,SqT.of aS,aM.same c.ff _ _<|hX j b⟩
  .cases h
 .cases h
def aEH(T:String)(f:EF):EF:=λγ M=>(f γ M).bind λr=>match r.1 with
 |.d a=>Z (.d (.bool (FB T a)),r.2)
 |_=>Y
def aKK{T:String}{e:TE}{f:EF}(hT:T∈asked)(a:SE K e f):SE K (tCB (aKm K)<|wO e<|wO (tC (.ty T)) aAa) (aEH T f):=by
 intro γ M x M' b W H i Q G R k;obtain⟨⟨y,M1⟩,j,b⟩:=aJ b;cases y with
 |c _=>cases b
 |t _=>cases b
 |f _=>cases b
 |g _=>cases b
 |d y=>
  cases b;refine a _ _ _ _ j W H i _ G R λv l m n h o=>?_;exact⟨v,T,y,rfl,hT,Rep.same h.fh _ _ o,k _ l m n h rfl⟩
def VT(T U:String)(f:EF):EF:=λγ M=>(f γ M).bind λr=>match r.1 with
 |.d a=>Z (.d (.bool (FB T a || FB U a)),r.2)
 |_=>Y
def aGx{T U:String}{h:TE}{f:EF}(hT:T∈asked)(j:U∈asked)(a:SE K h f):SE K (tCB (aDo K)<|wO h<|wO (aDq<|wO (tC (.ty T))<|wO (tC (.ty U)) aAa) aAa) (VT T U f):=by
 intro γ M x M' b W H l Q G R k;obtain⟨⟨y,M1⟩,m,b⟩:=aJ b;cases y with
 |c _=>cases b
 |t _=>cases b
 |f _=>cases b
 |g _=>cases b
 |d y=>
  cases b;refine a _ _ _ _ m W H l _ G R λv s u n o q=>?_;refine⟨by show 2<=ba;decide,λp r=>?_⟩;obtain⟨i,G2⟩:=o.lay r;refine⟨v,p,[T,U],y,rfl,aS,λS hS=>?_,Rep.same (i.ff.trans G2.fh) _ _ q,?_⟩
  .obtain rfl|hS:=List.mem_cons.mp hS
   .exact hT
   .rw[List.mem_singleton.mp hS];exact j
  .have e:([T,U].any λT=>FB T y)=(FB T y || FB U y):=by simp
   rw[e];exact k _ _ _ (n.trans i) G2 rfl
def aFy(M:Sto):CD->Tw Bool
 |.d .none=>Z false
 |.d (.bool b)=>Z b
 |.d (.int i)=>Z (i != 0)
 |.d (.list a)=>Z (!a.isEmpty)
 |.d (.tuple a)=>Z (!a.isEmpty)
 |.c i=>match M[i]? with
  |some (.lst xs)=>Z (!xs.isEmpty)
  |some (.dk kvs)=>Z (!kvs.isEmpty)
  |_=>Y
 |_=>Y
def vZ(f:EF):TF:=λγ M=>(f γ M).bind λr=>(aFy r.2 r.1).bind λb=>Z (b,r.2)
def mB{a b:Type}{xs:Tv a}{ys:Tv b}(h:xs.length=ys.length):xs.isEmpty=ys.isEmpty:=by
 cases xs<;>cases ys<;>simp at h ⊢
def aKF{s:TE}{f:EF}(a:SE K s f):STt K (λn H Q=>s n H λx H'=>∃k,aEq K x H' k/\Q k H') (vZ f):=by
 intro γ M b M' j W H n Q G R k;obtain⟨⟨y,M1⟩,w,j⟩:=aJ j;obtain⟨I,e,j⟩:=aJ j;cases j;refine a _ _ _ _ w W H n _ G R λv z A B l h=>⟨_,?_,k z A B l⟩;cases y with
 |d y=>
  cases y with
  |none=>cases e;rw[show v=.non from h];rfl
  |bool c=>cases e;rw[show v=.bl _ from h];rfl
  |int i=>cases e;rw[show v=.int _ from h];rfl
  |str x=>cases e
  |list C=>
   cases e;obtain⟨p,us,rfl,q,m⟩:=h;exact .inl ⟨us,l.fh.seq q,by rw[mB m.length]⟩
  |tuple C=>
   cases e;obtain⟨p,us,rfl,q,m⟩:=h;exact .inr (.inl ⟨us,l.fh.seqT q,by rw[mB m.length]⟩)
  |dict kvs=>cases e
 |t _=>cases e
 |f _=>cases e
 |g _=>cases e
 |c i=>
  rw[h.2];unfold aFy at e;dsimp only at e;split at e
  .rename_i xs r;cases e;obtain⟨us,D,m⟩:=l.lstAt r;exact .inl ⟨us,SqL.of D,by rw[mB (Paired.len m)]⟩
  .rename_i kvs r;cases e;obtain⟨_,o,E,u⟩:=l.cs i _ r (by simp);cases o with
   |dK us=>exact .inr (.inr ⟨us,E,by rw[mB (Paired.len u)]⟩)
   |_=>exact False.elim u
  .cases e
def boolsOf:T4->Tw (Tv Bool)
 |[]=>Z []
 |.bool b::r=>(boolsOf r).bind λbs=>Z (b::bs)
 |_::_=>Y
def GE:FN:=λxs M=>match xs with
 |[.d (.list a)]=>(boolsOf a).bind λbs=>Z (.d (.bool (bs.all id)),M)
 |_=>Y
theorem HV{H:Hp}:∀{ds:T4}{bs:Tv Bool}{vs:Tc},boolsOf ds=Z bs->aM K H ds vs->vs=bs.map V.bl
 |[],bs,vs=>λe h=>by cases e;exact h
 |.bool b::r,bs,vs=>λe h=>by
  obtain⟨cs,a,e⟩:=aJ e;cases e;obtain⟨v,us,rfl,c,d⟩:=h;rw[show v=V.bl b from c,HV a d];rfl
 |.none::_,_,_=>λe _=>by cases e
 |.int _::_,_,_=>λe _=>by cases e
 |.str _::_,_,_=>λe _=>by cases e
 |.list _::_,_,_=>λe _=>by cases e
 |.tuple _::_,_,_=>λe _=>by cases e
 |.dict _::_,_,_=>λe _=>by cases e
def aAn(d:X.calm=true):fB X (.builtin "all") (λxs H Q=>∃(p:Uc)(bs:Tv Bool),xs=[.ref p]/\SqL X.K H p (bs.map V.bl)/\Q (.bl (bs.all id)) H):=by
 intro bq s m H xs us Q I r h;obtain⟨p,bs,rfl,f,q⟩:=h;obtain⟨u,rfl,g⟩:=vals1 r;cases g;obtain⟨its,j,pl,n⟩:=I.list f;have a:=bA.bools j;subst a;refine call_all_walk<|wpAny_pyIter_list pl.isList ?_;have c:=pl.lt;refine⟨_,_,_,_,_,_,(λi=>bs.getD i false),rfl,Walks.list (A:=X.A.in1) (I.ok.hd d) s.heap.objs.size p (B4 c) (bs.map Value.bool).toArray,⟨⟨_,B3 _ rfl,rfl,rfl⟩,pl.isList.at λo e=>A3 _ e⟩,OE,λh' tk k=>?_⟩;have l:((bs.map Value.bool).toArray).size=bs.length:=by simp
 rw[l,all_range];refine⟨.bl _,H,I.kept λb o e=>?_,rfl,q⟩;exact k b o (λz=>by rw[List.mem_singleton]at z;exact absurd (A9 e) (by grind))<|A3 _ e
def aJA:PN K (λxs H Q=>∃(p:Uc)(bs:Tv Bool),xs=[.ref p]/\SqL K H p (bs.map V.bl)/\Q (.bl (bs.all id)) H) GE:=by
 intro xs M z M' h W H vs Q G r k;unfold GE at h;split at h
 .rename_i f;obtain⟨bs,a,h⟩:=aJ h;cases h;obtain _|⟨b,_|_⟩:=r;obtain⟨p,us,rfl,c,d⟩:=b;have e:=HV a d;subst e;exact⟨p,bs,rfl,G.fh.seq c,k _ W H (.refl _) G rfl⟩
 .cases h
def tK:F3:=λx y z M=>match x,y with
 |.c i,.d (.int k)=>match M[i]? with
  |some (.lst xs)=>(ixN xs.length k).bind λj=>Z<|M.set i (.lst (xs.set j z))
  |_=>Y
 |_,_=>Y
def aLi:P3 K aIp tK:=by
 intro x y z M M' h W H v u w Q G c d e k;unfold tK at h;split at h
 .rename_i i n;split at h
  .rename_i xs a;obtain⟨j,f,h⟩:=aJ h;cases h;obtain⟨us,g,b⟩:=G.lstAt a;refine⟨W.α i,us,n,j,c.2,d,g,by rw[<- Paired.len b];exact f,?_⟩;exact k W _ (.refl _)<|G.set a (by simp)<|Paired.set e j b
  .cases h
 .cases h
end
section
variable{X:Cx}{K:Fg}
def aEo(K:Fg):R2:=λx y H Q=>∃l b xs a,x=.ref l/\y=.ref b/\SqL K H l xs/\SqL K H b a/\xs.length+a.length<=ba/\∀p,H p=Y->Q (.ref p) (upd H p (.lst (xs++a)))
def op_catS:OpR X (binaryOp .Add) (aEo X.K):=by
 intro bq s D H x y v u Q I o p h;obtain⟨l,b,xs,E,rfl,rfl,t,hB,G,q⟩:=h;cases o;cases p;obtain⟨its,r,⟨⟨cls,w,data,sl⟩,n,i,z,A,hd⟩,_⟩:=I.list t;obtain⟨a,j,⟨⟨k,d,data2,e⟩,B,c,f,m,g⟩,_⟩:=I.list hB;subst z hd f g;have J:=r.length;have L:=j.length;refine concat_meets ⟨_,i,rfl⟩ ⟨_,c,rfl⟩ noFill_list_add seq_list_add PySem.F.slot_list_add PySem.F.entry_list_add (PySem.F.args_list_add_2 _ _) (list_addW l b its.toArray a.toArray n B w d sl e (by grind)) ⟨i,c,?_⟩;have C:its.toArray++a.toArray=(its++a).toArray:=by simp
 rw[C];exact⟨.ref _,_,I.lnew (r.append j) (by grind),rfl,q _ I.fresh⟩
def YJ(M:Sto):CD->Tw (T6)
 |.d (.list a)=>Z<|a.map .d
 |.c i=>match M[i]? with
  |some (.lst xs)=>Z xs
  |_=>Y
 |_=>Y
def IF{xs:T6}(G:Good K W M H)(h:YJ M x=Z xs)(r:cK K W x v):∃p vs,v=.ref p/\SqL K H p vs/\bX K W xs vs:=by
 unfold YJ at h;split at h
 .rename_i e;cases h;obtain⟨p,us,rfl,b,a⟩:=r;exact⟨p,us,rfl,G.fh.seq b,lA a⟩
 .rename_i i;split at h
  .rename_i f c;cases h;obtain⟨us,d,a⟩:=G.lstAt c;exact⟨_,us,r.2,SqL.of d,a⟩
  .cases h
 .cases h
def aMf:F2:=λx y M=>(YJ M x).bind λxs=>(YJ M y).bind λb=>(nB (xs++b)).bind λa=>if a.length<=ba then Z (.d (.list a),M)else Y
def aHU:P2 K (aEo K) aMf:=by
 intro x y M z M' h W H v u Q G e f k;obtain⟨xs,g,h⟩:=aJ h;obtain⟨o,i,h⟩:=aJ h;obtain⟨j,b,h⟩:=aJ h;by_cases a:j.length<=ba
 .rw[A4 a]at h;cases h;obtain⟨p,vs,rfl,m,c⟩:=IF G g e;obtain⟨q,us,rfl,n,hs⟩:=IF G i f;have el:=QM b;rw[B9]at el;refine⟨p,q,vs,us,rfl,rfl,m,n,by rw[<- Paired.len c,<- Paired.len hs];omega,λl a=>?_⟩;obtain⟨d,G2⟩:=G.lay a;exact k _ _ _ d G2 ⟨l,_,rfl,SqL.of aS,aM.same d.ff _ _<|hX b<|Paired.app c hs⟩
 .rw[A5 a]at h;cases h
def aLK:F2:=λx y M=>match x,y with
 |.d (.tuple xs),.d (.tuple a)=>if xs≠[]/\xs.length+a.length<=ba then Z (.d (.tuple (xs++a)),M)else Y
 |_,_=>Y
def aM.nil_iff(r:aM K H ds vs):vs=[]↔ds=[]:=by
 have:=r.length;constructor<;>intro h<;>subst h<;>simp at this
 .exact this
 .exact Z9 this.symm
def aHQ:P2 K (aCy K) aLK:=by
 intro x y M z M' h W H v u Q G f g k;unfold aLK at h;split at h
 .rename_i xs c;by_cases a:xs≠[]/\xs.length+c.length<=ba
  .rw[A4 a]at h;cases h;obtain⟨p,vs,rfl,d,b⟩:=f;obtain⟨q,us,rfl,i,hs⟩:=g;refine⟨p,q,vs,us,rfl,rfl,G.fh.seqT d,G.fh.seqT i,λz=>a.1<|b.nil_iff.mp z,by rw[<- b.length,<- hs.length];exact a.2,λz=>?_,λz l j=>?_⟩
   .have:c=[]:=hs.nil_iff.mp z;subst this;rw[D8]at k;exact k _ W H (.refl _) G ⟨p,vs,rfl,d,b⟩
   .obtain⟨e,G2⟩:=G.lay j;exact k _ _ _ e G2 ⟨l,_,rfl,SqT.of aS,aM.same e.ff _ _<|aM.app b hs⟩
  .rw[A5 a]at h;cases h
 .cases h
def P2.or(a:P2 K r h)(b:P2 K d h'):P2 K (λx y H Q=>r x y H Q\/d x y H Q) (yF h h'):=by
 intro x y M z M' c W H v u Q G f g k;unfold yF at c;cases e:h x y M with
 |some q=>
  rw[e]at c;cases c;exact .inl (a _ _ _ _ _ e W H v u Q G f g k)
 |none=>
  rw[e]at c;exact .inr (b _ _ _ _ _ c W H v u Q G f g k)
noncomputable def UC(K:Fg):R2:=λx y H Q=>∃a b c,x=.ref a/\y=.ref b/\SqT K H a []/\SqT K H b c/\Q (.ref b) H
def op_catT0:OpR X (binaryOp .Add) (UC X.K):=by
 intro bq s z H x y v u Q I l m h;obtain⟨a,b,A,rfl,rfl,ha,o,q⟩:=h;cases l;cases m;obtain⟨its,p,⟨⟨cls,r,data,sl⟩,j,t,n,hd⟩,_⟩:=I.tuple ha;obtain⟨c,B,⟨⟨k,e,data2,f⟩,d,g,w,i⟩,_⟩:=I.tuple o;subst t hd g i;cases p;exact concat_meets ⟨_,j,rfl⟩ ⟨_,d,rfl⟩ noFill_tuple_add seq_tuple_add PySem.F.slot_tuple_add PySem.F.entry_tuple_add (PySem.F.args_tuple_add_2 _ _) (tuple_addW0 a b #[] c.toArray n w r e sl f rfl) ⟨j,d,⟨.ref b,H,I,rfl,q⟩⟩
def aBq:F2:=λx y M=>match x,y with
 |.d (.tuple []),.d (.tuple a)=>Z (.d (.tuple a),M)
 |_,_=>Y
def aDI:P2 K (UC K) aBq:=by
 intro x y M z M' h W H v u Q G c d k;unfold aBq at h;split at h
 .rename_i f;cases h;obtain⟨p,vs,rfl,a,e⟩:=c;obtain⟨q,us,rfl,b,hs⟩:=d;rw[show vs=[]from e]at a;exact⟨p,q,us,rfl,rfl,G.fh.seqT a,G.fh.seqT b,k _ W H (.refl _) G ⟨q,us,rfl,b,hs⟩⟩
 .cases h
def bY:F2:=yF aLG<|yF aMf<|yF aBq aLK
def aEM(K:Fg):R2:=λx y H Q=>(rI0 λi j=>.int (i+j)) x y H Q\/aEo K x y H Q\/UC K x y H Q\/aCy K x y H Q
def aHs:OpR X (binaryOp .Add) (aEM X.K):=op_add.or<|op_catS.or<|op_catT0.or aGm
def VR:P2 K (aEM K) bY:=P2.or aJb<|P2.or aHU<|P2.or aDI aHQ
def eqS(neg:Bool):F2:=λx y M=>match x,y with
 |.d (.str a),.d (.str b)=>Z (.d (.bool (if neg then !(a==b)else a==b)),M)
 |_,_=>Y
def eqX(neg:Bool):F2:=yF (eqS neg)<|eqD neg
def aJg(K:Fg):R2:=λx y H Q=>rEq x y H Q\/aAm K false x y H Q
def aLg(K:Fg):R2:=λx y H Q=>rNe x y H Q\/aAm K true x y H Q
def aDC:decide (V.str a=V.str b)=(a==b):=by grind
def aLM:P2 K rEq (eqS false):=by
 intro x y M z M' h W H v u Q G c d k;unfold eqS at h;split at h
 .rename_i a b;cases h;rw[show v=.str a from c,show u=.str b from d];refine⟨rfl,?_⟩;rw[aDC];exact k _ W H (.refl _) G rfl
 .cases h
def aJo:P2 K rNe (eqS true):=by
 intro x y M z M' h W H v u Q G c d k;unfold eqS at h;split at h
 .rename_i a b;cases h;rw[show v=.str a from c,show u=.str b from d];refine⟨rfl,?_⟩;rw[aDC];exact k _ W H (.refl _) G rfl
 .cases h
def aBI:P2 K (aJg K) (eqX false):=P2.or aLM aIw
def aJr:P2 K (aLg K) (eqX true):=P2.or aJo aIw
def aKl(a:X.A.units+64<cLine):OpR X (bi .Eq) (aJg X.K):=op_eq.or<|aDX a
def aJL(a:X.A.units+64<cLine):OpR X (bi .NotEq) (aLg X.K):=op_ne.or<|aMc a
def aJw:P2 K (rI0 λi j=>.int (i-j)) yW:=aJb
def aKe:P2 K (rI QV λi j=>.int (i*j)) mR:=aGI λ_ _ h=>mulOk_of h
def aGG:P2 K (rI aIV λi j=>.int (i / j)) bR:=aGI λi j h=>by
 unfold zQ at h;rw[B8]at h;exact⟨D4 h.1,D4 (p:=j.natAbs<AA) h.2⟩
def aMj:P2 K (rI (λ_ j=>0<j) λi j=>.int (i % j)) bB:=aGI λi j h=>D4 h
def aMh:P2 K (rI aMR λi j=>.int (i ^ j.toNat)) wJ:=aGI λi j h=>by
 unfold aJa at h;rw[B8,B8]at h;exact⟨D4 h.1.1,D4 h.1.2,D4 h.2⟩
def aNh:P2 K (rI0 λi j=>.bl (decide (i<j))) ltI:=YH
def aOb:P2 K (rI0 λi j=>.bl (decide (i<=j))) leI:=YH
def aNV:P2 K (rI0 λi j=>.bl (decide (j<i))) gtI:=YH
def aMM:P2 K (rI0 λi j=>.bl (decide (j<=i))) geI:=YH
def vP:F1:=λx M=>match x with
 |.d (.int i)=>Z (.d (.int (-i)),M)
 |_=>Y
def aLO:P1 K (rU λi=>.int (-i)) vP:=by
 intro x M z M' h W H v Q G r k;unfold vP at h;split at h
 .rename_i i;cases h;exact⟨i,r,k _ W H (.refl _) G rfl⟩
 .cases h
end
section
variable{X:Cx}{K:Fg}
def aOe(h:X.K=K):fB X (.builtin "isinstance") (aKm K):=by subst h;exact YZ
def aNu(h:X.K=K):fB X (.builtin "isinstance") (aDo K):=by subst h;exact VH
def aMu(K:Fg):R2:=rIx K
def kIx(h:X.K=K):IxR X (aMu K):=by subst h;exact aLD
def aLt:P2 K (aMu K) ixF:=aNS
def aIg(K:Fg):Tc->Hp->VK->Prop:=λxs H Q=>∃p a,xs=[.ref p]/\(SqL K H p a\/SqT K H p a)/\Q (.int a.length) H
def aOj(h:X.K=K):fB X (.builtin "len") (aIg K):=by subst h;exact KI
def aFn:PN K (aIg K) iA:=aKE
def aEV(K:Fg):Tc->Hp->VK->Prop:=λxs H Q=>∃p a,xs=[.ref p]/\(SqL K H p a\/SqT K H p a)/\∀l,H l=Y->Q (.ref l) (upd H l (.lst a))
def aMv(h:X.K=K):fB X (.type "list") (aEV K):=by subst h;exact MU
def YF(K:Fg):Tc->Hp->VK->Prop:=λxs H Q=>∃p a,xs=[.ref p]/\((SqL K H p a/\∀l,H l=Y->Q (.ref l) (upd H l (.tup a)))\/(SqT K H p a/\Q (.ref p) H))
def aJJ(h:X.K=K):fB X (.type "tuple") (YF K):=by subst h;exact GQ
def aAl:PN K (YF K) cH:=aFl
def aIY(K:Fg):Tc->Hp->VK->Prop:=λxs H Q=>∃(p:Uc)(bs:Tv Bool),xs=[.ref p]/\SqL K H p (bs.map V.bl)/\Q (.bl (bs.all id)) H
def aOl(h:X.K=K)(a:X.calm=true):fB X (.builtin "all") (aIY K):=by subst h;exact aAn a
def aHC:PN K (aIY K) GE:=aJA
def kEq(h:X.K=K)(a:X.A.units+64<cLine):OpR X (bi .Eq) (aJg K):=by subst h;exact aKl a
def kNe(h:X.K=K)(a:X.A.units+64<cLine):OpR X (bi .NotEq) (aLg K):=by subst h;exact aJL a
def kIn(h:X.K=K)(a:X.A.in1.units+64<cLine):OpR X (bi .In) (aLu K false):=by subst h;exact aKs a
def aNa(h:X.K=K):OpR X (binaryOp .Add) (aEM K):=by subst h;exact aHs
def XY(h:X.K=K)(b:PE X l a):PI X tg l (aBs K a):=by subst h;exact aLm b
def VV{n:Nat}(b:X.K=K)(c:X.calm=true)(h:PGs X es t)
 (hn:(assignEach es X.env).length=n:=by rfl) (a:(assignEach es X.env).findIdx? (·.1)=Y:=by rfl):PG X (.Tuple es k pos) (aEc K n t):=by subst b;exact aLn c h hn a
noncomputable def aNg(K:Fg)(a:TE):TT:=λb H Q=>a b H λx H'=>∃k,aEq K x H' k/\Q k H'
def XX(d:X.K=K)(ha:PE X a c)(e:∀b,isTrue a X.env b=(do let v <- b;standAt a.pos;holding [v]<|truthy v)):PT X a (aNg K c):=by subst d;exact aCN ha e
def aGT(a:SE K b f):STt K (aNg K b) (vZ f):=aKF a
end
section
variable{es:T8}{env:Env}
def iQ{a b}:bf (.Name a b::es) env=(false,eval (.Name a b) env)::bf es env:=rfl
def DD{a b c}:bf (.Tuple a b c::es) env=(false,eval (.Tuple a b c) env)::bf es env:=rfl
def IW{a b c d}:bf (.Call a b c d::es) env=(false,eval (.Call a b c d) env)::bf es env:=rfl
def HU:(backTo pos<|bf [] env).any (·.1)=false:=rfl
def uW{e:Ud}(hs:bf (e::es) env=(false,eval e env)::bf es env)(h:(backTo pos<|bf es env).any (·.1)=false):(backTo pos<|bf (e::es) env).any (·.1)=false:=by
 rw[hs];have a:backTo pos ((false,eval e env)::bf es env)=(false,(do let v <- eval e env;standAt pos;pure v:Sem Tz))::backTo pos (bf es env)\/(backTo pos ((false,eval e env)::bf es env)).any (·.1)=(backTo pos<|bf es env).any (·.1):=.inr rfl;obtain q|q:=a
 .rw[q,S8,h];rfl
 .rw[q];exact h
end
section
variable{P:Ue}{w:World}{K:Fg}{mg:Str->Tf}
def Fun.okM{base:Heap}{x:Str}{st:Stmt}{N ps:Tb}{k:Nat}{b:SF}{f:Uc}{fd:FuncData}(F:Fun K x x st f fd)(S:aU N ps (aI st))
 (c:∀(f:Uc)(cdv:Tz)(A:Uf)(outer:Tv Env)(s:Ub)(H:Hp)(E:XK),cE k (A.deeper<|envOfC x (aI st) s.heap.objs.size f cdv)->
  ∃t,PSs (mZ CX0 P w K mg base N x (aI st) f cdv A outer s H E).nox (bU st) t/\SS K t b):jH P w K mg base CX0 (k+1) f fd ps (spM K (fnF ps.length N.length b)):=by
 have len:∀vs H Q E,spM K (fnF ps.length N.length b) vs H Q E->vs.length=ps.length:=λvs H Q E h=>by
  obtain⟨xs,M,W,y,M',G,R,a,_⟩:=h;by_cases d:xs.length=ps.length
  .rw[<- Paired.len R];exact d
  .unfold fnF at a;rw[A5 d]at a;cases a
 refine F.ok S len λcdv A outer s H vs Q E l h=>?_;obtain⟨t,m,hS⟩:=c f cdv A outer s H E l;refine⟨t,m,?_⟩;obtain⟨xs,M,W,y,M',G,R,a,k⟩:=h;by_cases d:xs.length=ps.length
 .unfold fnF at a;rw[A4 d]at a;obtain⟨⟨o,M1⟩,n,a⟩:=aJ a
  have p:cN K W (xs.map Z++List.replicate (N.length-xs.length) Y) (start N vs):=by
   unfold start;rw[<- Paired.len R];exact Paired.app (bX.some R)<|sP _
  refine hS _ _ _ _ n W H _ _ G p λe g i j=>?_;cases o with
  |rt x=>cases a;exact λv r=>k v e g i j r
  |nx γ=>cases a;exact λq r=>k .non e g i j rfl
  |bk γ=>cases a
  |ct γ=>cases a
 .unfold fnF at a;rw[A5 d]at a;cases a
def Def.okL{p:Str}{st:Stmt}{F:FN}(D:Def K mg x st)(S:aU N [p] (aI st))(c:F=fnF 1 N.length b)
 (d:∀(kV doc pm:Tz)(an:Th)(cdv ct:Tz)(us:T5),us.length=[p].length->bindArgs (PySem.W.fnOf x x (eE st) (bU st) (aI st) .none kV doc pm an cdv ct) ⟨us,[]⟩=pure ([p].zip us))
 (a:∀(base:Heap)(f:Uc)(cdv:Tz)(A:Uf)(outer:Tv Env)(s:Ub)(H:Hp)(E:XK),cE k (A.deeper<|envOfC x (aI st) s.heap.objs.size f cdv)->
  ∃t,PSs (mZ CX0 P w K mg base N x (aI st) f cdv A outer s H E).nox (bU st) t/\SS K t b):
 ∃f fd,mg x=Z (.ref f)/\(∀(s:Ub)(u:Tz),BindsTo s fd ⟨[u],[]⟩ [(p,u)])/\∀base,jH P w K mg base CX0 (k+1) f fd [p] (spM K F):=by
 subst c;obtain⟨f,fd,Fu,m⟩:=D.ex;refine⟨f,fd,m,λs u=>?_,λbase=>Fu.okM S<|a base⟩;obtain⟨oc,od,kV,doc,pm,an,cdv,ct,osl,rfl,g,e⟩:=Fu.ex;exact .of_eq (d kV doc pm an cdv ct [u] rfl)
theorem OA{H:Hp}:∀ns:T7,aM K H (ns.map .int) (ns.map V.int)
 |[]=>rfl
 |n::ns=>⟨.int n,ns.map V.int,rfl,rfl,OA ns⟩
def aKt{F:FN}(b:∀ns:T7,ns.length<=63->∃M',F [.d (.list (ns.map .int))] []=Z (.d (.bool true),M')){ns:T7}(e:ns.length<=63)(hS:SqL K H a (ns.map V.int))(ht:TabsOk K H H)(E:XK):
 spM K F [.ref a] H (λv _=>v=.bl true) E:=by
 obtain⟨M',h⟩:=b ns e;refine⟨[.d (.list (ns.map .int))],[],⟨H,λ_=>0,0⟩,_,M',⟨jK.refl H,rfl,λi c h=>by simp at h,λi j c c' h=>by simp at h,ht⟩,.cons (⟨a,ns.map V.int,rfl,hS,OA ns⟩) .nil,h,λv W' H' _ _ r=>r⟩
def law_walk{l:PySem.W.OpenLaw}{YP:World->Heap->Prop}{d:DefRec}{K:Params->Fg}{F:FN}{p:Str}(i:PyProof.Rows.importsNone q=true)(hn:l.most=Z 63)(b:d.params.defaults=[])(j:cE k callerA)
 (n:∀(w:World)(h:Heap),YP w h->(K w.params).In h)
 (hT:∀(w:World)(mg:Str->Tf)(h:Heap),(K w.params).In h->h.Ns bh mg->∃f fd,mg d.name=Z (.ref f)/\(∀(s:Ub)(u:Tz),BindsTo s fd ⟨[u],[]⟩ [(p,u)])/\∀base,jH l.prog w (K w.params) mg base CX0 k f fd [p]<|spM (K w.params) F)
 (o:∀ns:T7,ns.length<=63->∃M',F [.d (.list (ns.map .int))] []=Z (.d (.bool true),M')) (ht:∀w:World,aEp (K w.params)=[]):
 PySem.W.WalkO q loose XP YP l.row.toRowW d [] (λf vs=>PySem.call f vs):=
 L2.walk_of i hn (by decide) b j n
  (λw mg y h KX G c=>by
   obtain⟨f,fd,m,r,t⟩:=hT w mg h KX G;have e:=m.symm.trans c;cases e;exact⟨fd,r,λbase _ _=>t base⟩)
  (λw H a ns v _ hS=>aKt o v hS (λx g=>by rw[ht w]at g;cases g) _) λ_ _ _ _ _ z=>z
end
def aEg(e:Ud)(es:T8):Prop:=∀env:Env,bf (e::es) env=(false,eval e env)::bf es env
def QA:T8->Prop
 |[]=>True
 |e::es=>aEg e es/\QA es
def QA.plain:∀{es:T8},QA es->∀(env:Env)(pos:Pos),(backTo pos<|bf es env).any (·.1)=false
 |[]=>λ_ _ _=>rfl
 |_::_=>λh env pos=>uW (h.1 env)<|h.2.plain env pos
section
variable{ι:Type}
structure ME(K:Fg)(X:ι->Cx)(e:Ud)(f:EF):Prop where
 ex:∃t,(∀i,PE (X i) e t)/\SE K t f
structure MT(K:Fg)(X:ι->Cx)(e:Ud)(f:TF):Prop where
 ex:∃t,(∀i,PT (X i) e t)/\STt K t f
structure MW(K:Fg)(X:ι->Cx)(e:Ud)(f:TF):Prop where
 ex:∃t,(∀i,PW (X i) e t)/\STt K t f
structure MA(K:Fg)(X:ι->Cx)(es:T8)(f:AF):Prop where
 ex:∃t,(∀i,PA (X i) es t)/\SA K t f
 st:QA es
structure MG(K:Fg)(X:ι->Cx)(e:Ud)(f:GF):Prop where
 ex:∃t,(∀i,PG (X i) e t)/\SG K t f
structure MGs(K:Fg)(X:ι->Cx)(es:T8)(f:GsF):Prop where
 ex:∃t,(∀i,PGs (X i) es t)/\SGs K t f
structure MI(K:Fg)(X:ι->Cx)(tg e:Ud)(f:AF):Prop where
 ex:∃t,(∀i,PI (X i) tg e t)/\SI K t f
structure MF(K:Fg)(X:ι->Cx)(es:T8)(f:TF):Prop where
 ex:∃t,(∀i,GB (X i) es t)/\STt K t f
structure MS(K:Fg)(X:ι->Cx)(st:Stmt)(f:SF):Prop where
 ex:∃t,(∀i,PS (X i) st t)/\SS K t f
structure ML(K:Fg)(X:ι->Cx)(st:T9)(f:SF):Prop where
 ex:∃t,(∀i,PSs (X i) st t)/\SS K t f
structure Q2(K:Fg)(X:ι->Cx)(o:Tn)(h:F2):Prop where
 ex:∃r,(∀i,OpR (X i) o r)/\P2 K r h
structure Q1(K:Fg)(X:ι->Cx)(o:Tz->Sem Tz)(h:F1):Prop where
 ex:∃r,(∀i,UnR (X i) o r)/\P1 K r h
structure QN(K:Fg)(X:ι->Cx)(f:Tz)(h:FN):Prop where
 ex:∃r,(∀i,fB (X i) f r)/\PN K r h
structure QI(K:Fg)(X:ι->Cx)(h:F2):Prop where
 ex:∃r,(∀i,IxR (X i) r)/\P2 K r h
structure QS(K:Fg)(X:ι->Cx)(h:F3):Prop where
 ex:∃r,(∀i,aLj (X i) r)/\P3 K r h
variable{K:Fg}{X:ι->Cx}{a b c e:Ud}{es:T8}{f g h:EF}{ft gt:TF}{fa:AF}{pos:Pos}
def aD(i:Nat){x:Str}(k:∀j,(X j).N[i]?=Z x:=by intro _;rfl)(l:∀j,Vis (X j).env.scope x:=by intro _;first|exact Or.inl rfl|exact Or.inr (Or.inl rfl)|exact Or.inr<|Or.inr rfl)(hd:(x==("__debug__":Str))=false:=by decide)(d:(x==("__classdict__":Str))=false:=by decide):
 ME K X (.Name x pos) (aB i):=⟨_,λj=>KN (k j) (l j) hd d,aJW⟩
def aE:ME K X (.Constant (.int i) j pos) (fC (.int i)):=⟨_,λ_=>aLU,aBL⟩
def OX:ME K X (.Constant (.bool i) j pos) (fC (.bool i)):=⟨_,λ_=>aNj,aNY⟩
def gQ:ME K X (.Constant .none j pos) (fC .none):=⟨_,λ_=>aKZ,aJx⟩
def cM:ME K X (.Constant (.str i) j pos) (fC (.str i)):=⟨_,λ_=>aKH,SQ⟩
def kS(hm:∀i,∃t:Tok,(X i).mg x=Z (.int n t))(d:∀i,Gl (X i) x:=by intro _;rfl)(hd:(x==("__debug__":Str))=false:=by decide):ME K X (.Name x pos) (fC (.int n)):=
 ⟨_,λi=>LM (v:=.int n) (d i) (hm i).choose_spec ⟨_,rfl⟩ hd,aBL⟩
def aR(q:Q2 K X (binaryOp op) k)(x:ME K X a f)(y:ME K X b g):ME K X (.BinOp a op b pos) (fOp k f g):=by
 obtain⟨r,d,j⟩:=q.ex;obtain⟨t,l,m⟩:=x.ex;obtain⟨u,n,o⟩:=y.ex;exact⟨_,λi=>aMo (d i) (l i)<|n i,HD j m o⟩
def aEm(q:Q1 K X (unaryOp op) k)(x:ME K X a f):ME K X (.UnaryOp op a pos) (fUn k f):=by
 obtain⟨r,d,j⟩:=q.ex;obtain⟨t,l,m⟩:=x.ex;exact⟨_,λi=>aNE (d i)<|l i,aNe j m⟩
def iO{rest:T8}(x:ME K X a f)(y:ME K X (.BoolOp .And (b::rest) pos) g):ME K X (.BoolOp .And (a::b::rest) pos) (qE f g):=by
 obtain⟨t,d,j⟩:=x.ex;obtain⟨u,k,l⟩:=y.ex;exact⟨_,λi=>aJj (d i)<|k i,aJv j l⟩
def nK(x:ME K X a f):ME K X (.BoolOp op [a] pos) f:=by
 obtain⟨t,d,j⟩:=x.ex;exact⟨_,λi=>aKc<|d i,j⟩
def aKT(x:ME K X a f):ME K X (.UnaryOp .Not a pos) (aHb f):=by
 obtain⟨t,d,j⟩:=x.ex;exact⟨_,λi=>aLy<|d i,aKG j⟩
def lD(q:Q2 K X (bi op) k)(x:ME K X a f)(y:ME K X b g)(hm:behindInMarks op b=false:=by rfl):ME K X (.Compare a [op] [b] pos) (fOp k f g):=by
 obtain⟨r,d,j⟩:=q.ex;obtain⟨t,l,m⟩:=x.ex;obtain⟨u,n,o⟩:=y.ex;exact⟨_,λi=>aHr (d i) (l i) (n i) hm,HD j m o⟩
def aED(q:Q2 K X (bi op) k)(n:Q2 K X (bi d) m)(x:ME K X a f)(y:ME K X b g)(z:ME K X c h)(hm:lastMarks [op,d] [b,c]=false:=by with_unfolding_all rfl):ME K X (.Compare a [op,d] [b,c] pos) (pO k m f g h):=by
 obtain⟨r,o,p⟩:=q.ex;obtain⟨E,j,l⟩:=n.ex;obtain⟨t,s,w⟩:=x.ex;obtain⟨u,A,B⟩:=y.ex;obtain⟨v,C,D⟩:=z.ex;exact⟨_,λi=>aDD (o i) (j i) (s i) (A i) (C i) hm,QX p l w B D⟩
def zY(x:MT K X c ft)(y:ME K X a f)(z:ME K X b g):ME K X (.IfExp c a b pos) (fIf ft f g):=by
 obtain⟨t,d,j⟩:=x.ex;obtain⟨u,k,l⟩:=y.ex;obtain⟨v,m,n⟩:=z.ex;exact⟨_,λi=>aDc (d i) (k i)<|m i,aMY j l n⟩
def aG:MA K X [] aF:=⟨⟨_,λ_=>EC,aJp⟩,trivial⟩
def aC(x:ME K X e f)(y:MA K X es fa)(hs:aEg e es:=by intro _;rfl):MA K X (e::es) (aA f fa):=by
 obtain⟨t,d,j⟩:=x.ex;obtain⟨u,k,l⟩:=y.ex;exact⟨⟨_,λi=>lW (d i) (k i)<|hs _,aGC j l⟩,hs,y.st⟩
def cP(x:MA K X es fa):ME K X (.Tuple es k pos) (eF fa):=by
 obtain⟨t,d,j⟩:=x.ex;exact⟨_,λi=>JP<|d i,aKB j⟩
def gL(x:MA K X es fa):ME K X (.List es pos) (dP fa):=by
 obtain⟨t,d,j⟩:=x.ex;exact⟨_,λi=>VN<|d i,aJl j⟩
def LP(x:MA K X es fa):ME K X (.List es pos) (yN fa):=by
 obtain⟨t,d,j⟩:=x.ex;exact⟨_,λi=>VN<|d i,aLN j⟩
def bT(q:QI K X k)(x:ME K X a f)(y:ME K X b g)(hs:XO b:=by intro _ _;rfl):ME K X (.Subscript a b pos) (fOp k f g):=by
 obtain⟨r,d,j⟩:=q.ex;obtain⟨t,l,m⟩:=x.ex;obtain⟨u,n,o⟩:=y.ex;exact⟨_,λi=>aMW (d i) (l i) (n i) hs,HD j m o⟩
def aQ{F:FN}(C:∀i,Callee (X i).prog (X i).w (X i).K (X i).mg (X i).base k x ps (spM K F) q)(d:∀i,cE k (X i).A q)(y:MA K X (e::es) fa)(j:∀i,Gl (X i) x:=by intro _;rfl)(hd:(x==("__debug__":Str))=false:=by decide):
 ME K X (.Call (.Name x p) (e::es) [] pos) (aL F fa):=by
 obtain⟨u,l,m⟩:=y.ex;exact⟨_,λi=>aMg (C i) (d i) (l i) (j i) hd (y.st.1 _)<|y.st.2.plain _ _,aHj m⟩
def eQ{id:String}{F:FN}(q:QN K X (.builtin id) F)(hm:∀i,(X i).mg x=Y)(d:bootBuiltins x=Z (.builtin id))(y:MA K X (e::es) fa)(j:∀i,Gl (X i) x:=by intro _;rfl)(hn:x≠"__name__":=by decide)(hd:(x==("__debug__":Str))=false:=by decide):
 ME K X (.Call (.Name x p) (e::es) [] pos) (aL F fa):=by
 obtain⟨r,k,l⟩:=q.ex;obtain⟨u,m,n⟩:=y.ex;exact⟨_,λi=>FL (k i) (j i) (hm i) d (m i) hn hd (y.st.1 _)<|y.st.2.plain _ _,aIR l n⟩
def eG{id:String}{F:FN}(q:QN K X (.type id) F)(hm:∀i,(X i).mg x=Y)(d:bootBuiltins x=Z (.type id))(y:MA K X (e::es) fa)(j:∀i,Gl (X i) x:=by intro _;rfl)(hn:x≠"__name__":=by decide)(hd:(x==("__debug__":Str))=false:=by decide):
 ME K X (.Call (.Name x p) (e::es) [] pos) (aL F fa):=by
 obtain⟨r,k,l⟩:=q.ex;obtain⟨u,m,n⟩:=y.ex;exact⟨_,λi=>aAJ (k i) (j i) (hm i) d (m i) hn hd (y.st.1 _)<|y.st.2.plain _ _,aIR l n⟩
def aCz{T:String}{p:Pos}(l:∀i,(X i).K=K)(hT:T∈asked)(x:ME K X a f)(hs:aEg a [.Name y k])(hm:∀i,(X i).mg "isinstance"=Y)(d:∀i,(X i).mg y=Y)(m:bootBuiltins y=Z (.type T))(n:∀i,Gl (X i) "isinstance":=by intro _;rfl)(j:∀i,Gl (X i) y:=by intro _;rfl)
 (hn:y≠"__name__":=by decide) (hd:(y==("__debug__":Str))=false:=by decide):ME K X (.Call (.Name "isinstance" p) [a,.Name y k] [] pos) (aEH T f):=by
 obtain⟨t,o,q⟩:=x.ex;refine⟨_,λi=>FL (aOe<|l i) (n i) (hm i) boot_isinstance (lW (o i) (lW (KR (v:=.ty T) (j i) (d i) m rfl hn hd) EC iQ)<|hs _) (by decide) (by decide) (hs _)<|uW iQ HU,aKK hT q⟩
def aHu{T U:String}{p:Pos}{k:Nat}(w:∀i,(X i).K=K)(hT:T∈asked)(A:U∈asked)(x:ME K X a f)(hs:aEg a [.Tuple [.Name y s,.Name z d] k u])(hm:∀i,(X i).mg "isinstance"=Y)(j:∀i,(X i).mg y=Y)(l:∀i,(X i).mg z=Y)
 (B:bootBuiltins y=Z (.type T)) (m:bootBuiltins z=Z (.type U)) (C:∀i,Gl (X i) "isinstance":=by intro _;rfl) (n:∀i,Gl (X i) y:=by intro _;rfl) (o:∀i,Gl (X i) z:=by intro _;rfl)
 (hn:y≠"__name__":=by decide) (hd:(y==("__debug__":Str))=false:=by decide) (q:z≠"__name__":=by decide) (r:(z==("__debug__":Str))=false:=by decide):ME K X (.Call (.Name "isinstance" p) [a,.Tuple [.Name y s,.Name z d] k u] [] pos) (VT T U f):=by
 obtain⟨t,D,E⟩:=x.ex;refine⟨_,λi=>FL (aNu<|w i) (C i) (hm i) boot_isinstance (lW (D i) (lW (JP<|lW (KR (v:=.ty T) (n i) (j i) B rfl hn hd) (lW (KR (v:=.ty U) (o i) (l i) m rfl q r) EC iQ) iQ) EC DD)<|hs _) (by decide) (by decide) (hs _)<|uW DD HU,aGx hT A E⟩
def oQ(x:MT K X a ft):MT K X (.UnaryOp .Not a pos) (qG ft):=by
 obtain⟨t,d,j⟩:=x.ex;exact⟨_,λi=>aJP<|d i,aLe j⟩
def RV{rest:T8}(x:MT K X a ft)(y:MW K X (.BoolOp .And (b::rest) pos) gt):MW K X (.BoolOp .And (a::b::rest) pos) (yE ft gt):=by
 obtain⟨t,d,j⟩:=x.ex;obtain⟨u,k,l⟩:=y.ex;exact⟨_,λi=>aKw (d i)<|k i,aLV j l⟩
def ND(x:MT K X a ft):MW K X (.BoolOp .And [a] pos) ft:=by
 obtain⟨t,d,j⟩:=x.ex;exact⟨_,λi=>aGX<|d i,j⟩
def qC{rest:T8}(x:MT K X a ft)(y:MW K X (.BoolOp .Or (b::rest) pos) gt):MW K X (.BoolOp .Or (a::b::rest) pos) (gOr ft gt):=by
 obtain⟨t,d,j⟩:=x.ex;obtain⟨u,k,l⟩:=y.ex;exact⟨_,λi=>aNl (d i)<|k i,aMN j l⟩
def pD(x:MT K X a ft):MW K X (.BoolOp .Or [a] pos) ft:=by
 obtain⟨t,d,j⟩:=x.ex;exact⟨_,λi=>aKA<|d i,j⟩
def BC(x:MW K X a ft):MT K X a ft:=by
 obtain⟨t,d,j⟩:=x.ex;exact⟨_,λi=>(d i).pt,j⟩
def cD(q:Q2 K X (bi op) k)(x:ME K X a f)(y:ME K X b g)(hm:behindInMarks op b=false:=by rfl):MT K X (.Compare a [op] [b] pos) (gB<|fOp k f g):=by
 obtain⟨r,d,j⟩:=q.ex;obtain⟨t,l,m⟩:=x.ex;obtain⟨u,n,o⟩:=y.ex;exact⟨_,λi=>aGo (d i) (l i) (n i) hm,WN<|HD j m o⟩
def PP(q:Q2 K X (bi op) k)(n:Q2 K X (bi d) m)(x:ME K X a f)(y:ME K X b g)(z:ME K X c h)(hm:lastMarks [op,d] [b,c]=false:=by with_unfolding_all rfl):MT K X (.Compare a [op,d] [b,c] pos) (gB<|pO k m f g h):=by
 obtain⟨r,o,p⟩:=q.ex;obtain⟨E,j,l⟩:=n.ex;obtain⟨t,s,w⟩:=x.ex;obtain⟨u,A,B⟩:=y.ex;obtain⟨v,C,D⟩:=z.ex;exact⟨_,λi=>aDU (o i) (j i) (s i) (A i) (C i) hm,WN<|QX p l w B D⟩
def rG(x:ME K X a f)(j:∀(env:Env)(d:Sem Tz),isTrue a env d=(do let v <- d;standAt a.pos;holding [v]<|truthy v):=by intro _ _;rfl):MT K X a (gB f):=by
 obtain⟨t,k,l⟩:=x.ex;exact⟨_,λi=>aLs (k i)<|j _,aJq l⟩
def JU(j:∀i,(X i).K=K)(x:ME K X a f)(k:∀(env:Env)(d:Sem Tz),isTrue a env d=(do let v <- d;standAt a.pos;holding [v]<|truthy v):=by intro _ _;rfl):MT K X a (vZ f):=by
 obtain⟨t,l,m⟩:=x.ex;exact⟨_,λi=>XX (j i) (l i)<|k _,aGT m⟩
def mF{p:Pos}(hm:∀i,(X i).mg "range"=Y)(x:MA K X [a] fa)(d:∀i,Gl (X i) "range":=by intro _;rfl):MI K X tg (.Call (.Name "range" p) [a] [] pos) (fA fa):=by
 obtain⟨t,j,k⟩:=x.ex;exact⟨_,λi=>aBc (d i) (hm i) (j i)<|x.st.1 _,aFG k⟩
def aGZ{p:Pos}(hm:∀i,(X i).mg "range"=Y)(x:MA K X [a,b] fa)(d:∀i,Gl (X i) "range":=by intro _;rfl):MI K X tg (.Call (.Name "range" p) [a,b] [] pos) (HI fa):=by
 obtain⟨t,j,k⟩:=x.ex;exact⟨_,λi=>aAb (d i) (hm i) (j i) (by rw[x.st.1,x.st.2.1];rfl) (by rw[x.st.2.1];rfl),aHK k⟩
def eN(d:∀i,(X i).K=K)(x:ME K X a f):MI K X tg a (bD f):=by
 obtain⟨t,j,k⟩:=x.ex;exact⟨_,λi=>XY (d i)<|j i,aJV k⟩
def aW(i:Nat){x:Str}(d:∀j,(X j).N.Nodup)(hi:∀j,(X j).N[i]?=Z x:=by intro _;rfl)(k:∀j,Loc (X j).env.scope x:=by intro _;first|exact Or.inl rfl|exact Or.inr rfl)(l:∀j,(X j).fn x=true\/(X j).env.scope.names.lookup x=Z .local:=by intro _;first|exact .inl rfl|exact .inr rfl):
 MG K X (.Name x pos) (br i):=⟨_,λj=>aIc (d j) (hi j) (k j)<|l j,LJ⟩
def eL:MGs K X [] gG:=⟨_,λ_=>aHm,aHa⟩
def bE(x:MG K X e d)(y:MGs K X es gs)(hs:∀env:Env,(assignEach (e::es) env).map (·.2)=assign e env::(assignEach es env).map (·.2):=by intro _;rfl):MGs K X (e::es) (bC d gs):=by
 obtain⟨t,j,k⟩:=x.ex;obtain⟨u,l,m⟩:=y.ex;exact⟨_,λi=>aEX (j i) (l i)<|hs _,aCv k m⟩
def iE{n:Nat}(j:∀i,(X i).K=K)(l:∀i,(X i).calm=true)(x:MGs K X es gs)(hn:∀env:Env,(assignEach es env).length=n:=by intro _;rfl)(d:∀env:Env,(assignEach es env).findIdx? (·.1)=Y:=by intro _;rfl):MG K X (.Tuple es k pos) (iG n gs):=by
 obtain⟨t,m,o⟩:=x.ex;exact⟨_,λi=>VV (j i) (l i) (m i) (hn _)<|d _,aJT o⟩
def KP(q:QS K X s)(x:ME K X a f)(y:ME K X b g) (hs:∀(env:Env)(v:Tz),assign (.Subscript a b pos) env v=(do
 let ov <- holding [v] (eval a env);let d <- holding [v,ov] (eval b env)
 standAt pos
 holding [v,ov,d] (setItem ov d v)
 release [v,ov,d] []):=by intro _ _;rfl):MG K X (.Subscript a b pos) (hSub f g s):=by
 obtain⟨r,j,k⟩:=q.ex;obtain⟨t,l,m⟩:=x.ex;obtain⟨u,n,o⟩:=y.ex;exact⟨_,λi=>aJf (l i) (n i) (j i)<|hs _,aKN k m o⟩
def eX:MF K X [] eP:=⟨_,λ_=>aEr,aKY⟩
def MB(x:MT K X c ft):MF K X [c] ft:=by
 obtain⟨t,d,j⟩:=x.ex;exact⟨_,λi=>aFb<|d i,j⟩
abbrev LcI(ι:Type):Type:=ι×Uc×Ub×Hp×Ta×T2
def mL(X:ι->Cx)(N':Tb)(scope:Scope):LcI ι->Cx:=λj=>cO (X j.1) N' scope j.2.1 j.2.2.1 j.2.2.2.1 j.2.2.2.2.1 j.2.2.2.2.2
variable{N':Tb}{cap:T3}{scope:Scope}{tg iter elt:Ud}{ifs:T8}{gf:GF}
def aDS(i:Nat){l:Str}{d:Pos}(p:∀j,(X j).N.Nodup)(q:∀i,(X i).calm=true)(S:∀i,nU (X i) N' cap scope)(x:MI K X tg iter fa)(y:MG K (mL X N' scope) tg gf)(z:MF K (mL X N' scope) ifs ft)(w:ME K (mL X N' scope) elt f)
 (m:∀j,(X j).N[i]?=Z l:=by intro _;rfl) (n:∀j,swapsWith (.ListComp elt [⟨tg,iter,ifs,0⟩] scope pos) (Z (.Name l k)) d.line (X j).env=pure true:=by intro _;rfl) (r:∀j,(X j).env.scope.names.lookup l=Z .local:=by intro _;rfl) (hs:∀(env:Env)(x:Tz),bg iter env x=pure x:=by intro _ _;rfl):
 MS K X (.Assign [.Name l k] (.ListComp elt [⟨tg,iter,ifs,0⟩] scope pos) d) (aZ (fLc cap fa gf ft f)<|br i):=by
 obtain⟨t,A,B⟩:=x.ex;obtain⟨u,D,E⟩:=y.ex;obtain⟨v,G,I⟩:=z.ex;obtain⟨o,J,L⟩:=w.ex;exact⟨_,λj=>aBp (p j) (m j) (q j) (S j) (A j) (λC s H fp pn=>D (j,C,s,H,fp,pn)) (λC s H fp pn=>G (j,C,s,H,fp,pn)) (λC s H fp pn=>J (j,C,s,H,fp,pn)) (n j) (r j)<|hs _,UJ (aIi B E I L) LJ⟩
variable{st:Stmt}{sts:T9}{sf sg:SF}
def eU:ML K X [] cV:=⟨_,λ_=>aFQ,aFt⟩
def aT(x:MS K X st sf):ML K X [st] sf:=by
 obtain⟨t,d,j⟩:=x.ex;exact⟨_,λi=>WI<|d i,j⟩
def aO(x:MS K X st sf)(y:ML K X sts sg):ML K X (st::sts) (bF sf sg):=by
 obtain⟨t,d,j⟩:=x.ex;obtain⟨u,k,l⟩:=y.ex;exact⟨_,λi=>vV (d i)<|k i,aEi j l⟩
def bH(x:ME K X e f):MS K X (.Return (Z e) pos) (bP f):=by
 obtain⟨t,d,j⟩:=x.ex;exact⟨_,λi=>aCl<|d i,aJm j⟩
def vF:SF:=λ_ _=>Y
def xH:MS K X st vF:=⟨aBK,λ_=>aBG,λ_ _ _ _ h=>by cases h⟩
def BK(x:ME K X e f)(hs:∀i,swapsWith e Y pos.line (X i).env=pure false:=by intro _;rfl):MS K X (.Expr e pos) (tX f):=by
 obtain⟨t,d,j⟩:=x.ex;exact⟨_,λi=>aGR (d i)<|hs i,aFE j⟩
def jP(x:MT K X c ft)(y:ML K X sts sf)(z:ML K X d sg):MS K X (.If c sts d pos) (sIf ft sf sg):=by
 obtain⟨t,j,k⟩:=x.ex;obtain⟨u,l,m⟩:=y.ex;obtain⟨v,n,o⟩:=z.ex;exact⟨_,λi=>aIZ (j i) (l i)<|n i,aMF k m o⟩
def OW(d:∀i,PassesOwn (bb (X i).prog (X i).w) (X i).A (X i).env (X i).xe)(x:MT K X c ft)(y:ML K X sts sf):MS K X (.While c sts [] pos) (vQ ft sf):=by
 obtain⟨t,j,k⟩:=x.ex;obtain⟨u,l,m⟩:=y.ex;exact⟨_,λi=>aEB (d i) (j i)<|l i,aDu k m⟩
def sV(d:∀i,PassesOwn (bb (X i).prog (X i).w) (X i).A (X i).env (X i).xe)(j:∀i,(X i).calm=true)(x:MI K X tg iter fa)(y:MG K X tg gf)(z:ML K X sts sf)(hs:∀(env:Env)(x:Tz),bg iter env x=pure x:=by intro _ _;rfl):MS K X (.For tg iter sts [] pos) (xO fa gf sf):=by
 obtain⟨t,k,l⟩:=x.ex;obtain⟨u,m,n⟩:=y.ex;obtain⟨v,o,p⟩:=z.ex;exact⟨_,λi=>UB (d i) (j i) (k i) (m i) (o i)<|hs _,aLZ l n p⟩
def bJ(i:Nat){k:Str}(l:∀j,(X j).N.Nodup)(x:ME K X e f)(hi:∀j,(X j).N[i]?=Z k:=by intro _;rfl)(m:∀j,Loc (X j).env.scope k:=by intro _;first|exact Or.inl rfl|exact Or.inr rfl)(hs:∀j,swapsWith e (Z (.Name k d)) pos.line (X j).env=pure false:=by intro _;rfl)
 (n:∀j,(X j).fn k=true\/(X j).env.scope.names.lookup k=Z .local:=by intro _;first|exact .inl rfl|exact .inr rfl):MS K X (.Assign [.Name k d] e pos) (aZ f<|br i):=by
 obtain⟨t,o,p⟩:=x.ex;exact⟨_,λj=>aEQ (l j) (hi j) (m j) (o j) (hs j)<|n j,UJ p LJ⟩
def UR(i j:Nat){l m:Str}{p k2:Nat}(r:∀j,(X j).calm=true)(s:∀j,(X j).N.Nodup)(x:MA K X [a,b] fa)(q:i≠j:=by decide)(hi:∀k,(X k).N[i]?=Z l:=by intro _;rfl)(u:∀k,(X k).N[j]?=Z m:=by intro _;rfl)(v:∀k,(X k).env.scope.names.lookup l=Z .local:=by intro _;rfl)(w:∀k,(X k).env.scope.names.lookup m=Z .local:=by intro _;rfl)
 (y:∀k,swappedStores [.Tuple [.Name l n,.Name m o] p pt] (.Tuple [a,b] k2 d) (X k).env=pure (Z [l,m]):=by intro _;rfl) (z:∀k,swapsWithSole [.Tuple [.Name l n,.Name m o] p pt] (.Tuple [a,b] k2 d) pos.line (X k).env=pure false:=by intro _;rfl):
 MS K X (.Assign [.Tuple [.Name l n,.Name m o] p pt] (.Tuple [a,b] k2 d) pos) (GU i j fa):=by
 obtain⟨t,A,B⟩:=x.ex;exact⟨_,λk=>aKD (r k) (s k) (hi k) (u k) q (v k) (w k) (A k) (y k)<|z k,aJO B⟩
def uP(x:ME K X e f)(y:MG K X tg gf)(d:∀k,swapsWithSole [tg] e pos.line (X k).env=pure false:=by intro _;rfl)(i:∀k,swappedStores [tg] e (X k).env=pure Y:=by intro _;rfl)(j:∀env:Env,(assignEach [tg] env).map (·.2)=[assign tg env]:=by intro _;rfl):MS K X (.Assign [tg] e pos) (aZ f gf):=by
 obtain⟨t,l,m⟩:=x.ex;obtain⟨u,n,o⟩:=y.ex;exact⟨_,λk=>aKy (l k) (n k) (d k) (i k)<|j _,UJ m o⟩
def gE(d:∀i,(X i).K=K:=by intro _;rfl):Q2 K X (binaryOp .Add) bY:=⟨_,λi=>aNa<|d i,VR⟩
def OS:Q2 K X (binaryOp .Sub) yW:=⟨_,λ_=>aJs,aJw⟩
def xP:Q2 K X (binaryOp .Mult) mR:=⟨_,λ_=>aGP,aKe⟩
def eV:Q2 K X (binaryOp .FloorDiv) bR:=⟨_,λ_=>aEk,aGG⟩
def cA:Q2 K X (binaryOp .Mod) bB:=⟨_,λ_=>aJK,aMj⟩
def GY:Q2 K X (binaryOp .Pow) wJ:=⟨_,λ_=>aLw,aMh⟩
def aCQ:Q1 K X (unaryOp .USub) vP:=⟨_,λ_=>aKf,aLO⟩
def aDw:Q2 K X (bi .Lt) ltI:=⟨_,λ_=>aNF,aNh⟩
def aFa:Q2 K X (bi .LtE) leI:=⟨_,λ_=>aMq,aOb⟩
def aLc:Q2 K X (bi .Gt) gtI:=⟨_,λ_=>aMU,aNV⟩
def aNI:Q2 K X (bi .GtE) geI:=⟨_,λ_=>aNd,aMM⟩
def zG(d:∀i,(X i).K=K)(j:∀i,(X i).A.units+64<cLine):Q2 K X (bi .Eq) (eqX false):=⟨_,λi=>kEq (d i)<|j i,aBI⟩
def AV(d:∀i,(X i).K=K)(j:∀i,(X i).A.units+64<cLine):Q2 K X (bi .NotEq) (eqX true):=⟨_,λi=>kNe (d i)<|j i,aJr⟩
def aMB(d:∀i,(X i).K=K)(j:∀i,(X i).A.in1.units+64<cLine):Q2 K X (bi .In) (inD false):=⟨_,λi=>kIn (d i)<|j i,aMs⟩
def dM(d:∀i,(X i).K=K:=by intro _;rfl):QI K X ixF:=⟨_,λi=>kIx<|d i,aLt⟩
def CY(d:∀i,(X i).K=K:=by intro _;rfl):QN K X (.builtin "len") iA:=⟨_,λi=>aOj<|d i,aFn⟩
def oK(d:∀i,(X i).K=K):QN K X (.type "tuple") cH:=⟨_,λi=>aJJ<|d i,aAl⟩
def aNW(d:∀i,(X i).K=K)(j:∀i,(X i).calm=true):QN K X (.builtin "all") GE:=⟨_,λi=>aOl (d i)<|j i,aHC⟩
def VU:QS K X tK:=⟨_,λ_=>set_list,aLi⟩
end
section
variable{P:Ue}{w:World}{K:Fg}{mg:Str->Tf}
def Def.okG{st:Stmt}{ps:Tb}{b:SF}{q:Bool}(D:Def K mg x st)(S:aU N ps (aI st))
 (c:∀(kV doc pm:Tz)(an:Th)(cdv ct:Tz)(us:T5),us.length=ps.length->bindArgs (PySem.W.fnOf x x (eE st) (bU st) (aI st) .none kV doc pm an cdv ct) ⟨us,[]⟩=pure (ps.zip us))
 (a:∀(f:Uc)(cdv:Tz)(A:Uf)(outer:Tv Env)(s:Ub)(H:Hp)(E:XK),cE k (A.deeper<|envOfC x (aI st) s.heap.objs.size f cdv) q->
  ML K (λ_:Unit=>(mZ CX0 P w K mg base N x (aI st) f cdv A outer s H E q).nox) (bU st) b):Callee P w K mg base (k+1) x ps (spM K (fnF ps.length N.length b)) q:=
 D.okM S c λf cdv A outer s H E d=>by
  obtain⟨t,e,g⟩:=(a f cdv A outer s H E d).ex;exact⟨t,e (),g⟩
def Def.okLG{p:Str}{st:Stmt}{F:FN}(D:Def K mg x st)(S:aU N [p] (aI st))(c:F=fnF 1 N.length b)
 (d:∀(kV doc pm:Tz)(an:Th)(cdv ct:Tz)(us:T5),us.length=[p].length->bindArgs (PySem.W.fnOf x x (eE st) (bU st) (aI st) .none kV doc pm an cdv ct) ⟨us,[]⟩=pure ([p].zip us))
 (a:∀(base:Heap)(f:Uc)(cdv:Tz)(A:Uf)(outer:Tv Env)(s:Ub)(H:Hp)(E:XK),cE k (A.deeper<|envOfC x (aI st) s.heap.objs.size f cdv)->
  ML K (λ_:Unit=>(mZ CX0 P w K mg base N x (aI st) f cdv A outer s H E).nox) (bU st) b):
 ∃f fd,mg x=Z (.ref f)/\(∀(s:Ub)(u:Tz),BindsTo s fd ⟨[u],[]⟩ [(p,u)])/\∀base,jH P w K mg base CX0 (k+1) f fd [p] (spM K F):=
 D.okL S c d λbase f cdv A outer s H E e=>by
  obtain⟨t,g,h⟩:=(a base f cdv A outer s H E e).ex;exact⟨t,g (),h⟩
end
end L2
namespace HT
open PySem PyProof.Rows PySem.Spec
section
variable{prog:Ue}{w:World}{A:Uf}{E:T1}{s:Ub}
def getItem_tuple_whole{lo:Tk}{Q:T1}(ht:IsTup s.heap t items)(hs:s.heap.IsSliceOf sl vl e .none)(pl:IsPart vl lo)(g:IsPart e hi)
 (f:sIx items.size 0 lo=0/\sIx items.size items.size hi=items.size) (h:Q (.ref t) s):bc (bb prog w) A (getItem (.ref t) (.ref sl)) Q E s:=by
 obtain⟨os,b,c,i⟩:=id hs;have d:s.TypeIs (.ref sl) "slice":=⟨os,b,c⟩;unfold getItem
 try with_reducible refine F5 ?_
 first|refine A0 (A6 ?_)|skip
 refine A0<|wpAny_sequenceKey ht.typeIs (by decide) ?_
 refine A0 (O9 ht.typeIs S9
  (L6 S9 ht.typeIs entry_tuple_getitem ?_ (args_tuple_getitem _ _)))
 show bc _ _ (Builtin.Tuple.tupleItemsOf (.ref t) >>= _) _ _ s;refine A0<|tupleItemsOf_ ht ?_;refine A0<|A0o d ?_;refine A0<|nW hs pl g ?_
 have a:(((sIx items.size 0 lo:Nat):Int)==0&&(1:Int)==1&&(sIx items.size items.size hi-sIx items.size 0 lo)==items.size)=true:=by
  rw[f.1,f.2];simp
 show bc _ _ (if (((sIx items.size 0 lo:Nat):Int)==0&&(1:Int)==1&&(sIx items.size items.size hi-sIx items.size 0 lo)==items.size)=true then _ else _) _ _ s;rw[A4 a];refine A0 ?_;refine A0<|A0o ht.typeIs<|A6 ?_;exact A0<|wpAny_rule<|A6 ⟨_,rfl,A6 h⟩
end
end HT
namespace L2
variable{W:Wd}{H:Hp}{M:Sto}{apos cpos:Pos}
open PySem PySem.Spec PyProof.Rows
def aNK(K:Fg):V->Tk->Tk->Hp->VK->Prop:=λx lo hi H Q=>∃a xs,x=.ref a/\SqT K H a xs/\(HT.sIx xs.length 0 lo=0/\HT.sIx xs.length xs.length hi=xs.length)/\Q (.ref a) H
def aCG:SlR X (aNK X.K):=by
 intro bq s f H x v vl g lo hi sl Q I c hs pl d h;obtain⟨a,xs,rfl,e,i,q⟩:=h;cases c;obtain⟨its,r,ht,j⟩:=I.tuple e;have b:its.toArray.size=xs.length:=by rw[D9];exact r.length.symm
 refine⟨"tuple",_,PyProof.Rows.slot_tuple_getitem.lookup,ht.typeIs,?_⟩;exact HT.getItem_tuple_whole ht hs pl d (by grind) ⟨.ref a,H,I,rfl,q⟩
def nT{a:Type}(xs:Tv a)(lo hi:Tk):Tv a:=(xs.drop<|HT.sIx xs.length 0 lo).take (HT.sIx xs.length xs.length hi-HT.sIx xs.length 0 lo)
abbrev OF:=Ga->Sto->Tw (Tk×Sto)
def cW:OF:=λ_ M=>Z (Y,M)
def asI:CD->Tk
 |.d (.int i)=>Z i
 |_=>Y
def dX(f:EF):OF:=λa M=>(f a M).bind λr=>(asI r.1).bind λi=>Z (Z i,r.2)
def slF(x:CD)(lo hi:Tk)(M:Sto):Tw (CD×Sto):=match x with
 |.d (.list a)=>Z (.d (.list (nT a lo hi)),M)
 |.d (.tuple a)=>Z (.d (.tuple (nT a lo hi)),M)
 |.c i=>match M[i]? with
  |some (.lst xs)=>(nB<|nT xs lo hi).bind λa=>Z (.d (.list a),M)
  |_=>Y
 |_=>Y
def fSl(f:EF)(l u:OF):EF:=λa M=>(f a M).bind λr=>(l a r.2).bind λp=>(u a p.2).bind λq=>slF r.1 p.1 q.1 q.2
def aKS(K:Fg):V->Tk->Tk->Hp->VK->Prop:=λx lo hi H Q=>aMV K x lo hi H Q\/aNw K x lo hi H Q\/aNK K x lo hi H Q
def kSl{X:Cx}{K:Fg}(h:X.K=K):SlR X (aKS K):=by subst h;exact sl_list.or<|sl_tup.or aCG
section
variable{K:Fg}
def SO(K:Fg)(t:TO)(f:OF):Prop:=∀a M b M',f a M=Z (b,M')->∀(W:Wd)(H:Hp)(c:St)(Q:Tk->Hp->Prop),Good K W M H->cN K W a c->(∀W' H',W.Ext W'->Good K W' M' H'->Q b H')->t c H Q
def aGv:SO K YD cW:=by
 intro b M x M' a W H c Q G R k;cases a;exact k W H (.refl _) G
def aMa{i:Int}(h:asI x=Z i):x=.d (.int i):=by
 cases x with
 |c n=>cases h
 |t n=>cases h
 |f n=>cases h
 |g _=>cases h
 |d x=>cases x<;>first|cases h;rfl|cases h
def aFB{c:TE}{f:EF}(a:SE K c f):SO K (aIu c) (dX f):=by
 intro p M x M' b W H d Q G R k;obtain⟨⟨y,M1⟩,e,b⟩:=aJ b;obtain⟨i,g,b⟩:=aJ b;cases b;refine a _ _ _ _ e W H d _ G R λv h j l m n=>?_;have o:=aMa g;subst o;exact⟨i,n,k h j l m⟩
theorem aM.drop{H:Hp}:∀{ds:T4}{vs:Tc}(n:Nat),aM K H ds vs->aM K H (ds.drop n) (vs.drop n)
 |_,_,0=>λh=>h
 |[],vs,n+1=>λh=>by rw[show vs=[]from h];rfl
 |d::ds,vs,n+1=>λh=>by
  obtain⟨v,r,rfl,_,a⟩:=h;exact aM.drop n a
theorem aM.take{H:Hp}:∀{ds:T4}{vs:Tc}(n:Nat),aM K H ds vs->aM K H (ds.take n) (vs.take n)
 |_,_,0=>λh=>rfl
 |[],vs,n+1=>λh=>by rw[show vs=[]from h];rfl
 |d::ds,vs,n+1=>λh=>by
  obtain⟨v,r,rfl,a,b⟩:=h;exact⟨v,r.take n,rfl,a,aM.take n b⟩
def aM.cut(h:aM K H ds vs)(lo hi:Tk):aM K H (nT ds lo hi) (OM vs lo hi):=by
 unfold nT OM;rw[h.length];exact(h.drop _).take _
theorem DA{a b:Type}{R:a->b->Prop}:∀{xs:Tv a}{ys:Tv b}(n:Nat),Paired R xs ys->Paired R (xs.drop n) (ys.drop n)
 |_,_,0,h=>h
 |_,_,_+1,.nil=>.nil
 |_,_,n+1,.cons _ t=>DA n t
theorem uQ{a b:Type}{R:a->b->Prop}:∀{xs:Tv a}{ys:Tv b}(n:Nat),Paired R xs ys->Paired R (xs.take n) (ys.take n)
 |_,_,0,h=>.nil
 |_,_,_+1,.nil=>.nil
 |_,_,n+1,.cons r t=>.cons r (uQ n t)
def aAX{xs:T6}{vs:Tc}(h:bX K W xs vs)(lo hi:Tk):bX K W (nT xs lo hi) (OM vs lo hi):=by
 unfold nT OM;rw[Paired.len h];exact uQ _<|DA _ h
def aCu{x:CD}{lo hi:Tk}{z:CD}{M':Sto}(h:slF x lo hi M=Z (z,M')){v:V}{Q:VK}(G:Good K W M H)(j:cK K W x v)(k:∀w W' H',W.Ext W'->Good K W' M' H'->cK K W' z w->Q w H'):aKS K v lo hi H Q:=by
 unfold slF at h;split at h
 .rename_i f;cases h;obtain⟨p,us,rfl,c,a⟩:=j;refine .inl ⟨p,us,rfl,G.fh.seq c,λl d=>?_⟩;obtain⟨b,G2⟩:=G.lay d;exact k _ _ _ b G2 ⟨l,_,rfl,SqL.of aS,aM.same b.ff _ _<|a.cut lo hi⟩
 .rename_i f;cases h;obtain⟨p,us,rfl,c,a⟩:=j;by_cases g:HT.sIx us.length 0 lo=0/\HT.sIx us.length us.length hi=us.length
  .refine .inr (.inr ⟨p,us,rfl,G.fh.seqT c,g,?_⟩)
   have e:nT f lo hi=f:=by
    unfold nT;rw[a.length,g.1,g.2,<- a.length];simp
   rw[e]at k;exact k _ W H (.refl _) G ⟨p,us,rfl,c,a⟩
  .refine .inr (.inl ⟨p,us,rfl,G.fh.seqT c,g,λl d=>?_⟩);obtain⟨b,G2⟩:=G.lay d;exact k _ _ _ b G2 ⟨l,_,rfl,SqT.of aS,aM.same b.ff _ _<|a.cut lo hi⟩
 .rename_i i;split at h
  .rename_i xs m;obtain⟨f,n,h⟩:=aJ h;cases h;obtain⟨us,o,a⟩:=G.lstAt m;rw[j.2];refine .inl ⟨_,us,rfl,SqL.of o,λl d=>?_⟩;obtain⟨b,G2⟩:=G.lay d;exact k _ _ _ b G2 ⟨l,_,rfl,SqL.of aS,aM.same b.ff _ _<|hX n<|aAX a lo hi⟩
  .cases h
 .cases h
def aMZ{i:TE}{f:EF}{j m:TO}{l u:OF}(a:SE K i f)(b:SO K j l)(c:SO K m u):SE K (tSl (aKS K) i j m) (fSl f l u):=by
 intro O M x M' d W H e Q G R k;obtain⟨⟨y,M1⟩,o,d⟩:=aJ d;obtain⟨⟨p,M2⟩,r,d⟩:=aJ d;obtain⟨⟨q,P⟩,s,d⟩:=aJ d;refine a _ _ _ _ o W H e _ G R λv t z g A B=>?_;refine b _ _ _ _ r t z e _ A (R.up g) λC D h G2=>?_;refine c _ _ _ _ s C D e _ G2 (R.up<|g.trans h) λS T n E=>?_;exact aCu d E (B.up<|h.trans n) λw F I J L N=>k w F I (((g.trans h).trans n).trans J) L N
def FZ:FN:=λxs M=>match xs with
 |[.d (.int i)]=>Z (.d (.int i),M)
 |[.d (.bool b)]=>Z (.d (.int (if b then 1 else 0)),M)
 |_=>Y
def aMl:PN K (λxs H Q=>(∃i,xs=[.int i]/\Q (.int i) H)\/∃k,xs=[.bl k]/\Q (.int (if k then 1 else 0)) H) FZ:=by
 intro xs M z M' h W H vs Q G r k;unfold FZ at h;split at h
 .rename_i i;cases h;obtain _|⟨a,_|_⟩:=r;exact .inl ⟨i,by rw[show _=V.int i from a],k _ W H (.refl _) G rfl⟩
 .rename_i b;cases h;obtain _|⟨a,_|_⟩:=r;exact .inr ⟨b,by rw[show _=V.bl b from a],k _ W H (.refl _) G rfl⟩
 .cases h
noncomputable def tyB(T:String)(M:Sto):CD->Bool
 |.d (.list _)=>T=="list"
 |.d (.str _)=>T=="str"
 |.c i=>match M[i]? with
  |some (.lst _)=>T=="list"
  |some (.dk _)=>T=="dict"
  |some (.dt _)=>T=="dict"
  |_=>false
 |_=>false
def aBn(h:tyB T M x=true)(G:Good K W M H)(r:cK K W x v):tyV K T v H:=by
 unfold tyB at h;split at h
 .rename_i g;obtain⟨p,us,rfl,d,e⟩:=r;exact .inl ⟨eq_of_beq h,us,G.fh.seq d⟩
 .rename_i x;rw[show v=.str x from r];exact eq_of_beq h
 .rename_i i;rw[r.2];split at h
  .rename_i xs a;obtain⟨us,f,e⟩:=G.lstAt a;exact .inl ⟨eq_of_beq h,us,SqL.of f⟩
  .rename_i kvs a;obtain⟨_,o,b,c⟩:=G.cs i _ a (by simp);cases o with
   |dK us=>exact .inr (.inr (.inl ⟨eq_of_beq h,.inl ⟨us,b⟩⟩))
   |_=>exact False.elim c
  .rename_i kvs a;obtain⟨_,o,b,c⟩:=G.cs i _ a (by simp);cases o with
   |dT us=>exact .inr (.inr (.inl ⟨eq_of_beq h,.inr ⟨us,b⟩⟩))
   |_=>exact False.elim c
  .cases h
 .cases h
abbrev FM:=CD->T6->Sto->Tw (CD×Sto)
def aX(T:String)(h:FM)(f:EF)(fa:AF):EF:=λa M=>(f a M).bind λr=>if tyB T r.2 r.1=true then(fa a r.2).bind λq=>h r.1 q.1 q.2 else Y
def PM(K:Fg)(r:V->Tc->Hp->VK->Prop)(f:FM):Prop:=∀x xs M z M',f x xs M=Z (z,M')->∀(W:Wd)(H:Hp)(v:V)(vs:Tc)(Q:VK),Good K W M H->cK K W x v->bX K W xs vs->(∀w W' H',W.Ext W'->Good K W' M' H'->cK K W' z w->Q w H')->r v vs H Q
def xK{T:String}{r:V->Tc->Hp->VK->Prop}{h:FM}{d:TE}{f:EF}{e:TA}{fa:AF}(p:PM K r h)(a:SE K d f)(b:SA K e fa):SE K (tBM K T r d e) (aX T h f fa):=by
 intro F M x M' c W H g Q G R k;obtain⟨⟨y,M1⟩,n,c⟩:=aJ c;by_cases hT:tyB T M1 y=true
 .have c:=c;rw[A4 hT]at c;obtain⟨⟨I,M2⟩,o,c⟩:=aJ c;refine a _ _ _ _ n W H g _ G R λv q s i j l=>⟨aBn hT j l,?_⟩;refine b _ _ _ _ o q s g _ j (R.up i) λvs t u m G2 z=>?_;exact p _ _ _ _ _ c t u v vs Q G2 (l.up m) z λw A B C D E=>k w A B ((i.trans m).trans C) D E
 .have c:=c;rw[A5 hT]at c;cases c
def QZ{T:String}{r:V->Tc->Hp->VK->Prop}{h:FM}{c:TE}{f:EF}(p:PM K r h)(a:SE K c f):SE K (aNz K T r c) (aX T h f aF):=by
 intro u M x M' b W H g Q G R k;obtain⟨⟨y,M1⟩,i,b⟩:=aJ b;by_cases hT:tyB T M1 y=true
 .rw[A4 hT]at b;refine a _ _ _ _ i W H g _ G R λv j l m d e=>⟨aBn hT d e,?_⟩;exact p _ _ _ _ _ b j l v [] Q d e .nil λw n o q s t=>k w n o (m.trans q) s t
 .rw[A5 hT]at b;cases b
def iU:FM:=λx a M=>match x,a with
 |.c i,[y]=>match M[i]? with
  |some (.lst xs)=>if xs.length<ba then Z (.d .none,M.set i (.lst (xs++[y])))else Y
  |_=>Y
 |_,_=>Y
def ZF:PM K XN iU:=by
 intro x g M z M' h W H v vs Q G d rs k;unfold iU at h;split at h
 .rename_i i y;split at h
  .rename_i xs b;by_cases a:xs.length<ba
   .rw[A4 a]at h;cases h;obtain⟨us,e,c⟩:=G.lstAt b;obtain _|⟨f,_|_⟩:=rs;refine⟨W.α i,us,_,d.2,rfl,e,by rw[<- Paired.len c];exact a,?_⟩;exact k _ W _ (.refl _) (G.set b (by simp)<|Paired.app c (.cons f .nil)) rfl
   .rw[A5 a]at h;cases h
  .cases h
 .cases h
def dU:FM:=λx a M=>match x,a with
 |.c i,[]=>match M[i]? with
  |some (.lst xs)=>(xs[xs.length-1]?).bind λy=>Z (y,M.set i (.lst xs.dropLast))
  |_=>Y
 |_,_=>Y
def EW{a b:Type}{R:a->b->Prop}{xs:Tv a}{ys:Tv b}(h:Paired R xs ys):Paired R xs.dropLast ys.dropLast:=by
 rw[List.dropLast_eq_take,List.dropLast_eq_take,Paired.len h];exact uQ _ h
def aLE:PM K aNm dU:=by
 intro x j M z M' h W H v vs Q G c rs k;unfold dU at h;split at h
 .rename_i i;split at h
  .rename_i xs b;obtain⟨y,d,h⟩:=aJ h;cases h;obtain⟨us,e,a⟩:=G.lstAt b;obtain⟨u,f,g⟩:=Paired.get a d;cases rs;refine⟨W.α i,us,u,c.2,rfl,e,by rw[<- Paired.len a];exact f,?_⟩;exact k _ W _ (.refl _) (G.set b (by simp)<|EW a) g
  .cases h
 .cases h
end
section
variable{ι:Type}{K:Fg}{X:ι->Cx}{a b c e o:Ud}{es:T8}{f g h:EF}{fa:AF}{pos:Pos}
structure MO(K:Fg)(X:ι->Cx)(e:Tw Ud)(f:OF):Prop where
 ex:∃t,(∀i,PO (X i) e t)/\SO K t f
def wB:MO K X Y cW:=⟨_,λ_=>aGz,aGv⟩
def pT(x:ME K X e f):MO K X (Z e) (dX f):=by
 obtain⟨t,d,j⟩:=x.ex;exact⟨_,λi=>aGV<|d i,aFB j⟩
def WD{lo:Tw Ud}(d:∀i,(X i).K=K)(x:ME K X a f)(y:MO K X lo l)(z:MO K X hi u):ME K X (.Subscript a (.Slice lo hi Y p2) pos) (fSl f l u):=by
 obtain⟨t,j,k⟩:=x.ex;obtain⟨s,m,n⟩:=y.ex;obtain⟨p,q,r⟩:=z.ex;exact⟨_,λi=>PX (kSl<|d i) (j i) (m i)<|q i,aMZ k n r⟩
def aIh:QN K X (.type "int") FZ:=⟨_,λ_=>aAu,aMl⟩
def xU(d:∀i,(X i).K=K)(x:ME K X o f)(y:MA K X [e] fa)(j:∀env:Env,attributeBase o "append" env (eval o env)=eval o env:=by intro _;rfl)(k:(apos.endLine==cpos.line)=true:=by rfl):
 ME K X (.Call (.Attribute o "append" apos) [e] [] cpos) (aX "list" iU f fa):=by
 obtain⟨t,l,m⟩:=x.ex;obtain⟨u,n,p⟩:=y.ex;refine⟨_,λi=>?_,xK ZF m p⟩;have:=RB F.plainAttrs_list F.slot_list_append F.type_list_append aAr (l i) (n i) (j _) (by rw[y.st.1];rfl) k (y.st.1 _)<|y.st.2.plain _ _;rw[d i]at this;exact this
def gN(d:∀i,(X i).K=K)(x:ME K X o f)(j:∀env:Env,attributeBase o "pop" env (eval o env)=eval o env:=by intro _;rfl)(k:(apos.endLine==cpos.line)=true:=by rfl):
 ME K X (.Call (.Attribute o "pop" apos) [] [] cpos) (aX "list" dU f aF):=by
 obtain⟨t,l,m⟩:=x.ex;refine⟨_,λi=>?_,QZ aLE m⟩;have:=aCp F.plainAttrs_list F.slot_list_pop F.type_list_pop aKq (l i) (j _) k;rw[d i]at this;exact this
end
def keyOf:CD->Tw Key
 |.d (.int i)=>Z (.inl i)
 |.d (.str x)=>Z (.inr x)
 |_=>Y
section
variable{K:Fg}
def aAw{k:Key}(h:keyOf x=Z k)(r:cK K W x v):v=kV k:=by
 unfold keyOf at h;split at h
 .cases h;exact r
 .cases h;exact r
 .cases h
end
def NA{i:Int}(h:i.natAbs<2 ^ 1900):i.natAbs.log2<1900:=by
 by_cases a:i.natAbs=0
 .rw[a];decide +kernel
 .exact(Nat.log2_lt a).mpr h
def aHi{i:Int}(h:i.natAbs<2 ^ 1900):((toString i:String):Str).length<=2000:=by
 have a:=int_text_length_le (k:=1900) (by decide)<|NA h;show(Str.ofString<|toString i).length<=2000;rw[PySem.ofString_length];omega
noncomputable def GJ(f:Str)(v:CD):Tu->Tu
 |[]=>[(f,v)]
 |(g,x)::r=>if g=f then(g,v)::r else(g,x)::GJ f v r
section
variable{K:Fg}
theorem FP{W:Wd}(r:cK K W x v):∀{fs:Tu}{us:Tv (Str×V)},Paired (λp q=>p.1=q.1/\cK K W p.2 q.2) fs us->Paired (λp q=>p.1=q.1/\cK K W p.2 q.2) (GJ f x fs) (nQ f v us)
 |_,_,.nil=>.cons ⟨rfl,r⟩ .nil
 |(g,y)::fs,(c,u)::us,.cons h t=>by
  obtain⟨a,b⟩:=h;subst a;unfold GJ nQ;by_cases e:g=f
  .rw[A4 e,A4 e];exact .cons ⟨rfl,r⟩ t
  .rw[A5 e,A5 e];exact .cons ⟨rfl,b⟩ (FP r t)
theorem HQ{W:Wd}{x:CD}:∀{fs:Tu}{us:Tv (Str×V)},Paired (λp q=>p.1=q.1/\cK K W p.2 q.2) fs us->fs.lookup f=Z x->∃v,us.lookup f=Z v/\cK K W x v
 |_,_,.nil=>λh=>by cases h
 |(g,y)::fs,(d,u)::us,.cons h t=>λe=>by
  obtain⟨a,b⟩:=h;subst a;rw[D6]at e ⊢;by_cases q:(f==g)=true
  .rw[q]at e ⊢;cases e;exact⟨u,rfl,b⟩
  .have c:(f==g)=false:=by grind
   rw[c]at e ⊢;exact HQ t e
def Good.objAt{i:Nat}(G:Good K W M H)(h:M[i]?=Z (.obj nm fs)):∃dx us,H (W.α i)=Z (.ins (bK K nm) dx us)/\Paired (λp q=>p.1=q.1/\cK K W p.2 q.2) fs us:=by
 obtain⟨_,o,b,a⟩:=G.cs i _ h (by simp);cases o with
 |ins C dx us=>
  obtain⟨e,p⟩:=a;subst e;exact⟨dx,us,b,p⟩
 |_=>exact False.elim a
def Good.extra(g:Good K W M H)(a:H p=Y):Good K W M (upd H p o):=by
 refine⟨λb u e=>?_,g.n,λi c hi f=>?_,g.inj,g.tb.fresh a⟩
 .have:=g.fh b u e;rw[aK (aN this a)];exact this
 .obtain⟨h,o',d,j⟩:=g.cs i c hi f;exact⟨h,o',by rw[aK (aN d a)];exact d,j⟩
def objOf(nm:Str)(M:Sto):CD->Tw (Nat×Tu)
 |.c i=>match M[i]? with
  |some (.obj a fs)=>if a=nm then Z (i,fs)else Y
  |_=>Y
 |_=>Y
def FO{i:Nat}{fs:Tu}(h:objOf nm M x=Z (i,fs)):x=.c i/\M[i]?=Z (.obj nm fs):=by
 unfold objOf at h;split at h
 .rename_i j;split at h
  .rename_i a b d;by_cases e:a=nm
   .rw[A4 e]at h;cases h;subst e;exact⟨rfl,d⟩
   .rw[A5 e]at h;cases h
  .cases h
 .cases h
def kW(nm f:Str)(e:EF):EF:=λa M=>(e a M).bind λr=>(objOf nm r.2 r.1).bind λp=>(p.2.lookup f).bind λv=>Z (v,r.2)
def aJI(c:Cls K (bK K nm))(n:gU K (bK K nm) f)(a:SE K g e):SE K (aMx K g f) (kW nm f e):=by
 intro C M x M' b W H l Q G R k;obtain⟨⟨y,M1⟩,m,b⟩:=aJ b;obtain⟨⟨i,fs⟩,o,b⟩:=aJ b;obtain⟨v,p,b⟩:=aJ b;cases b;refine a _ _ _ _ m W H l _ G R λu h q r j s=>?_;obtain⟨rfl,t⟩:=FO o;obtain⟨dx,us,z,A⟩:=j.objAt t;obtain⟨w,B,d⟩:=HQ A p;exact⟨h.α i,_,dx,us,w,s.2,z,c,n,B,k w h q r j d⟩
def OJ(nm f:Str)(b ev:EF):SF:=λa M=>(ev a M).bind λv=>(b a v.2).bind λo=>(objOf nm o.2 o.1).bind λp=>if p.2.length<1000 then Z (.nx a,o.2.set p.1 (.obj nm (GJ f v.1 p.2)))else Y
def aKo(c:Cls K (bK K nm))(n:gU K (bK K nm) f)(a:SE K l p)(b:SE K m ev):SS K (aFL K l m f) (OJ nm f p ev):=by
 intro J M o M' d W H e D G R k;obtain⟨⟨y,M1⟩,t,d⟩:=aJ d;obtain⟨⟨z,M2⟩,w,d⟩:=aJ d;obtain⟨⟨i,fs⟩,x,d⟩:=aJ d;by_cases g:fs.length<1000
 .have d:=d;rw[A4 g]at d;cases d;refine b _ _ _ _ t W H e _ G R λv A B h C E=>?_;refine a _ _ _ _ w A B e _ C (R.up h) λu q L j G2 F=>?_;obtain⟨rfl,r⟩:=FO x;obtain⟨dx,us,I,s⟩:=G2.objAt r;refine⟨q.α i,_,dx,us,F.2,I,c,n,by rw[<- Paired.len s];exact g,?_⟩;exact k q _ (h.trans j) (G2.set r (by simp) (o':=.ins (bK K nm) dx (nQ f v us)) ⟨rfl,FP (E.up j) s⟩) e<|R.up<|h.trans j
 .have d:=d;rw[A5 g]at d;cases d
noncomputable def jL:CD->Bool
 |.d .none=>true
 |_=>false
def ET(h:jL x=true):x=.d .none:=by
 cases x with
 |c n=>cases h
 |t n=>cases h
 |f n=>cases h
 |g _=>cases h
 |d x=>cases x<;>first|rfl|cases h
end
section
variable{ι:Type}{K:Fg}{X:ι->Cx}{a b c e o:Ud}{es:T8}{f g h:EF}{fa:AF}{pos:Pos}
def uV(j:∀i,(X i).K=K)(k:Cls K (bK K nm))(hn:gU K (bK K nm) d)(x:ME K X o f)(l:∀env:Env,attributeBase o d env (eval o env)=eval o env:=by intro _;rfl):ME K X (.Attribute o d pos) (kW nm d f):=by
 obtain⟨t,m,n⟩:=x.ex;refine⟨_,λi=>?_,aJI k hn n⟩;have:=aKU (m i) (l _) (pos:=pos);rw[j i]at this;exact this
def aDR(k:∀i,(X i).K=K)(l:Cls K (bK K nm))(hn:gU K (bK K nm) j)(x:ME K X o f)(y:ME K X e g)(hs:∀i,swapsWith e (Z (.Attribute o j d)) pos.line (X i).env=pure false:=by intro _;rfl):MS K X (.Assign [.Attribute o j d] e pos) (OJ nm j f g):=by
 obtain⟨t,m,n⟩:=x.ex;obtain⟨u,p,q⟩:=y.ex;refine⟨_,λi=>?_,aKo l hn n q⟩;have:=aBT (m i) (p i)<|hs i;rw[k i]at this;exact this
end
structure UV(K:Fg)(nm m qual:Str)(st:Stmt):Prop where
 ex:∃f fd,Fun K m qual st f fd/\PySem.W.findIn K (.ref (bK K nm)) m=Z (Z (.ref f))/\PySem.W.isFn K (.ref f)=true
section
variable{P:Ue}{w:World}{K:Fg}{mg:Str->Tf}{base:Heap}
def Fun.okQ{st:Stmt}{b:SF}{f:Uc}{qq:Bool}(F:Fun K x qual st f fd)(S:aU N ps (aI st))
 (c:∀(f:Uc)(cdv:Tz)(A:Uf)(outer:Tv Env)(s:Ub)(H:Hp)(E:XK),cE k (A.deeper<|envOfC qual (aI st) s.heap.objs.size f cdv) qq->
  ML K (λ_:Unit=>(mZ CX0 P w K mg base N qual (aI st) f cdv A outer s H E qq).nox) (bU st) b):jH P w K mg base CX0 (k+1) f fd ps (spM K (fnF ps.length N.length b)) qq:=by
 have len:∀vs H Q E,spM K (fnF ps.length N.length b) vs H Q E->vs.length=ps.length:=λvs H Q E h=>by
  obtain⟨xs,M,W,y,M',G,R,a,_⟩:=h;by_cases d:xs.length=ps.length
  .rw[<- Paired.len R];exact d
  .unfold fnF at a;rw[A5 d]at a;cases a
 refine F.ok S len λcdv A outer s H vs Q E m h=>?_;obtain⟨t,n,hS⟩:=(c f cdv A outer s H E m).ex;refine⟨t,n (),?_⟩;obtain⟨xs,M,W,y,M',G,R,a,k⟩:=h;by_cases d:xs.length=ps.length
 .unfold fnF at a;rw[A4 d]at a;obtain⟨⟨o,M1⟩,p,a⟩:=aJ a
  have q:cN K W (xs.map Z++List.replicate (N.length-xs.length) Y) (start N vs):=by
   unfold start;rw[<- Paired.len R];exact Paired.app (bX.some R)<|sP _
  refine hS _ _ _ _ p W H _ _ G q λe g i j=>?_;cases o with
  |rt x=>cases a;exact λv r=>k v e g i j r
  |nx l=>cases a;exact λu r=>k .non e g i j rfl
  |bk l=>cases a
  |ct l=>cases a
 .unfold fnF at a;rw[A5 d]at a;cases a
end
section
variable{K:Fg}
theorem HZ{a b:Type}{R:a->b->Prop}:∀{xs:Tv a}{ys:Tv b},Paired R xs ys->Paired R xs.reverse ys.reverse
 |_,_,.nil=>.nil
 |_,_,.cons h t=>by
  rw[O5,O5];exact Paired.app (HZ t) (.cons h .nil)
def kJ:FM:=λx a M=>match x,a with
 |.c i,[]=>match M[i]? with
  |some (.lst xs)=>Z (.d .none,M.set i (.lst xs.reverse))
  |_=>Y
 |_,_=>Y
def UK:PM K RS kJ:=by
 intro x e M z M' h W H v vs Q G b rs k;unfold kJ at h;split at h
 .rename_i i;split at h
  .rename_i xs a;cases h;obtain⟨us,c,d⟩:=G.lstAt a;cases rs;refine⟨W.α i,us,b.2,rfl,c,?_⟩;exact k _ W _ (.refl _) (G.set a (by simp)<|HZ d) rfl
  .cases h
 .cases h
def aNv:Tc->Hp->VK->Prop:=λxs H Q=>∃i j,xs=[.int i,.int j]/\Q (.int (if j > i then j else i)) H
def aMO:Tc->Hp->VK->Prop:=λxs H Q=>∃i j,xs=[.int i,.int j]/\Q (.int (if j<i then j else i)) H
def HE:FN:=λxs M=>match xs with
 |[.d (.int i),.d (.int j)]=>Z (.d (.int (if j > i then j else i)),M)
 |_=>Y
def IY:FN:=λxs M=>match xs with
 |[.d (.int i),.d (.int j)]=>Z (.d (.int (if j<i then j else i)),M)
 |_=>Y
def aHI:PN K aNv HE:=by
 intro xs M z M' h W H vs Q G r k;unfold HE at h;split at h
 .rename_i i j;cases h;obtain _|⟨a,_|⟨b,_|_⟩⟩:=r;exact⟨i,j,by rw[show _=V.int i from a,show _=V.int j from b],k _ W H (.refl _) G rfl⟩
 .cases h
def aFJ:PN K aMO IY:=by
 intro xs M z M' h W H vs Q G r k;unfold IY at h;split at h
 .rename_i i j;cases h;obtain _|⟨a,_|⟨b,_|_⟩⟩:=r;exact⟨i,j,by rw[show _=V.int i from a,show _=V.int j from b],k _ W H (.refl _) G rfl⟩
 .cases h
end
section
variable{ι:Type}{K:Fg}{X:ι->Cx}{a b c e o:Ud}{es:T8}{f g h:EF}{fa:AF}{pos:Pos}
def aJE(d:∀i,(X i).calm=true):QN K X (.builtin "max") HE:=⟨_,λi=>aAp<|d i,aHI⟩
def aKu(d:∀i,(X i).calm=true):QN K X (.builtin "min") IY:=⟨_,λi=>ZD<|d i,aFJ⟩
def RZ(d:∀i,(X i).K=K)(x:ME K X o f)(j:∀env:Env,attributeBase o "reverse" env (eval o env)=eval o env:=by intro _;rfl)(k:(apos.endLine==cpos.line)=true:=by rfl):
 ME K X (.Call (.Attribute o "reverse" apos) [] [] cpos) (aX "list" kJ f aF):=by
 obtain⟨t,l,m⟩:=x.ex;refine⟨_,λi=>?_,QZ UK m⟩;have:=aCp F.plainAttrs_list F.slot_list_reverse F.type_list_reverse TL (l i) (j _) k;rw[d i]at this;exact this
end
open PySem PySem.W PyProof.Rows
def KS{b:Type}(lt:To)(n:Nat):KasT b->(b->Prop)->Prop
 |.ret a,Q=>Q a
 |.ask i j k,Q=>i<n/\j<n/\KS lt n (k<|lt i j) Q
theorem KS.bind{b c:Type}{lt:To}{n:Nat}{f:b->KasT c}{Q:c->Prop}:∀{t:KasT b},KS lt n t (λa=>KS lt n (f a) Q)->KS lt n (t.bind f) Q
 |.ret _=>λh=>h
 |.ask _ _ _=>λh=>⟨h.1,h.2.1,KS.bind h.2.2⟩
theorem KS.mono{b:Type}{Q R:b->Prop}(m:∀a,Q a->R a):∀{t:KasT b},KS lt n t Q->KS lt n t R
 |.ret _=>λh=>m _ h
 |.ask _ _ _=>λh=>⟨h.1,h.2.1,KS.mono m h.2.2⟩
theorem KS.wp{c:Type}{lt:To}{n:Nat}{Q:c->Prop}{R:c->Ub->Prop}{b:Nat->Nat->(Bool->Ub->Prop)->Ub->Prop}
 (d:∀i j C,i<n->j<n->C (lt i j) s->b i j C s) (m:∀a,Q a->R a s):∀{t:KasT c},KS lt n t Q->KasT.kasWp b t R s
 |.ret _=>λh=>m _ h
 |.ask _ _ _=>λh=>d _ _ _ h.1 h.2.1<|KS.wp d m h.2.2
section
variable{lt:To}{n:Nat}
structure vS(lt:To):Prop where
 as:∀a b,lt a b=true->lt b a=false
 tr:∀a b c,lt b a=false->lt c b=false->lt c a=false
def vS.up(o:vS lt)(h:lt c a=true)(h':lt b a=false):lt c b=true:=by
 cases e:lt c b with
 |true=>rfl
 |false=>rw[o.tr _ _ _ h' e]at h;cases h
def Inv2(n:Nat)(p:Tj):Prop:=p.Perm (List.range n).toArray
def Inv2.sz(h:Inv2 n p):p.size=n:=by
 have:=(Array.perm_iff_toList_perm.mp h).length_eq;simpa using this
def Inv2.ent(h:Inv2 n p)(a:0<n)(k:Nat):p.getD k 0<n:=by
 rw[F4];cases e:p[k]? with
 |none=>exact a
 |some x=>
  have hm:=Array.mem_of_getElem? e;have:=(h.mem_iff).mp hm;simpa using this
def iF(lt:To)(p:Tj)(n:Nat):Prop:=∀i j,i<j->j<n->lt (p.getD j 0) (p.getD i 0)=false
def wG(lt:To)(p:Tj)(n:Nat):Prop:=∀i j,i<j->j<n->lt (p.getD i 0) (p.getD j 0)=false
def aDP(lt:To)(p:Tj)(n q:Nat):Prop:=∀i j,n<=i+q+1->i<j->j<n->lt (p.getD j 0) (p.getD i 0)=false
def iF.ext(o:vS lt)(h:iF lt p m)(d:1<=m)(b:lt (p.getD m 0) (p.getD (m-1) 0)=false):iF lt p (m+1):=by
 intro i j a f;by_cases e:j=m
 .subst e;by_cases c:i=j-1
  .subst c;exact b
  .exact o.tr _ _ _ (h i (j-1) (by omega) (by omega)) b
 .exact h i j a (by omega)
def wG.ext(o:vS lt)(h:wG lt p m)(d:1<=m)(b:lt (p.getD (m-1) 0) (p.getD m 0)=false):wG lt p (m+1):=by
 intro i j a f;by_cases e:j=m
 .subst e;by_cases c:i=j-1
  .subst c;exact b
  .exact o.tr _ _ _ b<|h i (j-1) (by omega) (by omega)
 .exact h i j a (by omega)
theorem VB(o:vS lt)(g:Inv2 n p)(i:0<n){Q:Nat->Prop}:∀(f m:Nat),1<=m->iF lt p m->(∀r,m<=r->r<=m+f->iF lt p r->(r<m+f->lt (p.getD r 0) (p.getD (r-1) 0)=true)->Q r)->KS lt n (kas_asc p f m) Q
 |0=>λm j hs k=>by
  rw[kas_asc.eq_def];exact k m (A7 _) (A7 _) hs λh=>absurd h<|L8 _
 |f+1=>λm j hs k=>by
  rw[kas_asc.eq_def];refine⟨g.ent i _,g.ent i _,?_⟩;cases e:lt (p.getD m 0) (p.getD (m-1) 0)with
  |true=>exact k m (A7 _) (by omega) hs λ_=>e
  |false=>exact VB o g i f (m+1) (by omega) (hs.ext o j e) λr a b c d=>k r (by omega) (by omega) c (λz=>d (by omega))
def fQ(a:Inv2 n p)(i j:Nat):Inv2 n (kas_rev p i j):=(mirror_perm p i j _).trans a
def oR{p:Tj}{j:Nat}(a:j<=p.size)(k:Nat):(kas_rev p i j).getD k 0=if i<=k/\k<j then p.getD (i+j-1-k) 0 else p.getD k 0:=by
 rw[F4,show(kas_rev p i j)[k]?=_ from getElem?_mirror_all a k];by_cases e:i<=k/\k<j
 .rw[A4 e,A4 e,F4]
 .rw[A5 e,A5 e,F4]
def RP(o:vS lt){p:Tj}{lo hi m:Nat}(hm:m<=p.size)(g:hi<=m)(d:wG lt p m)(e:∀i j,lo<=i->i<j->j<hi->lt (p.getD j 0) (p.getD i 0)=false):wG lt (kas_rev p lo hi) m:=by
 intro i j c f;rw[oR (by omega),oR (by omega)];by_cases a:lo<=i/\i<hi
 .rw[A4 a];by_cases b:lo<=j/\j<hi
  .rw[A4 b];exact e _ _ (by omega) (by omega) (by omega)
  .rw[A5 b];exact d _ _ (by omega) f
 .rw[A5 a];by_cases b:lo<=j/\j<hi
  .rw[A4 b];exact d _ _ (by omega) (by omega)
  .rw[A5 b];exact d _ _ c f
theorem BR(o:vS lt)(t:0<n){Q:Tj×Nat×Nat->Prop}:∀(f:Nat)(p:Tj)(m q:Nat),Inv2 n p->1<=m->m+f<=n->wG lt p m->aDP lt p m q->q+1<=m->
 (∀h l s,Inv2 n h->m<=l->l<=m+f->wG lt h l->aDP lt h l s->s+1<=l->Q (h,l,s))->KS lt n (kas_desc f p m q) Q
 |0=>λp m q r x A hd u y k=>by
  rw[kas_desc.eq_def];exact k p m q r (A7 _) (A7 _) hd u y
 |f+1=>λp m q r x A hd u y k=>by
  rw[kas_desc.eq_def];refine⟨r.ent t _,r.ent t _,?_⟩;have B:=r.sz;have z:∀h:Tj,aDP lt h (m+1) 0:=λh i j a b c=>by omega
  cases c:lt (p.getD m 0) (p.getD (m-1) 0)with
  |true=>
   have v:=hd.ext o x<|o.as _ _ c;dsimp only;rw[A4 rfl];by_cases w:q > 0
   .rw[A4 w];exact BR o t f _ (m+1) 0 (fQ r _ _) (by omega) (by omega) (RP o (by omega) (by omega) v (λi j a b d=>u i j (by omega) b (by omega))) (z _) (by omega) λh l s a b c' d e g=>k h l s a (by omega) (by omega) d e g
   .rw[A5 w];exact BR o t f _ (m+1) 0 r (by omega) (by omega) v (z _) (by omega) λh l s a b c' d e g=>k h l s a (by omega) (by omega) d e g
  |false=>
   dsimp only;rw[A5 A8];refine⟨r.ent t _,r.ent t _,?_⟩;cases d:lt (p.getD (m-1) 0) (p.getD m 0)with
   |true=>
    dsimp only;rw[A4 rfl];exact k p m q r (A7 _) (by omega) hd u y
   |false=>
    dsimp only;rw[A5 A8];refine BR o t f p (m+1) (q+1) r (by omega) (by omega) (hd.ext o x d) ?_ (by omega) λh l s a b c' d e g=>k h l s a (by omega) (by omega) d e g;intro i j a b e;by_cases C:j=m
    .subst C;by_cases D:i=j-1
     .subst D;exact c
     .exact o.tr _ _ _ (u i (j-1) (by omega) (by omega) (by omega)) c
    .exact u i j (by omega) b (by omega)
def Part(lt:To)(n:Nat)(r:Nat×Tj):Prop:=Inv2 n r.2/\1<=r.1/\r.1<=n/\iF lt r.2 r.1
def NS(o:vS lt)(e:0<n){p:Tj}{m:Nat}(d:Inv2 n p)(f:1<=m)(k:m<=n)(hd:wG lt p m):KS lt n (kas_tail3 m n p) (Part lt n):=by
 have g:=d.sz;rw[kas_tail3.eq_def];refine KS.bind (VB o (fQ d 0 m) e _ _ f ?_ λr a b c _=>⟨fQ d 0 m,by omega,by omega,c⟩);intro i j h l;rw[oR (by omega),oR (by omega),A4 (by omega),A4 (by omega)];exact hd _ _ (by omega) (by omega)
def AG(o:vS lt)(h:0<n){p:Tj}{m:Nat}(r:Inv2 n p)(t:m+1<=n)(hd:wG lt p (m+1)):KS lt n (kas_descPart m n p) (Part lt n):=by
 rw[kas_descPart.eq_def];refine KS.bind (BR o h _ _ _ _ r (by omega) (by omega) hd (λi j a b c=>by omega) (by omega) λl f k a b c d e g=>?_);have s:=a.sz;show KS lt n (if k > 0 then kas_tail3 f n (kas_rev l (f-(k+1)) f)else kas_tail3 f n l) _;by_cases q:k > 0
 .rw[A4 q];exact NS o h (fQ a _ _) (by omega) (by omega) (RP o (by omega) (A7 _) d λi j x y z=>e i j (by omega) y z)
 .rw[A5 q];exact NS o h a (by omega) (by omega) d
def aCO(o:vS lt)(h:0<n){p:Tj}(f:Inv2 n p):KS lt n (kas_count n p) (Part lt n):=by
 have u:=f.sz;rw[kas_count.eq_def];refine KS.bind (VB o f h _ _ (A7 _) (λi j a b=>by omega) λr a b c d=>?_);by_cases e:(r==n)=true
 .rw[A4 e];exact⟨f,a,by omega,c⟩
 .rw[A5 e];have A:r≠n:=by simpa using e
  have t:=d (by omega);by_cases g:r > 1
  .rw[A4 g];refine⟨f.ent h _,f.ent h _,?_⟩;cases l:lt (p.getD 0 0) (p.getD (r-1) 0)with
   |true=>dsimp only;rw[A4 rfl];exact⟨f,a,by omega,c⟩
   |false=>
    dsimp only;rw[A5 A8];have le:∀i j,i<=j->j<r->i<j\/i=j:=λi j x y=>by omega
    have k:∀x,lt x x=false:=λx=>by
     cases q:lt x x with
     |false=>rfl
     |true=>rw[o.as _ _ q]at q;cases q
    have up:∀i,i<r->lt (p.getD i 0) (p.getD (r-1) 0)=false:=λi hi=>by
     have v:lt (p.getD i 0) (p.getD 0 0)=false:=by
      by_cases z:i=0
      .subst z;exact k _
      .exact c 0 i (by omega) hi
     exact o.tr _ _ _ l v
    have w:∀i,i<r->lt (p.getD (r-1) 0) (p.getD i 0)=false:=λi hi=>by
     by_cases z:i=r-1
     .subst z;exact k _
     .exact c i (r-1) (by omega) (by omega)
    have al:∀i j,i<r->j<r->lt (p.getD i 0) (p.getD j 0)=false:=λi j hi m=>o.tr _ _ _ (w j m)<|up i hi;refine AG o h (fQ f _ _) (by omega) ?_;intro i j s m;rw[oR (by omega),oR (by omega),A4 (by omega)];by_cases z:j<r
    .rw[A4 (by omega)];exact al _ _ (by omega) (by omega)
    .rw[A5 (by omega)];have:j=r:=by omega
     subst this;exact o.tr _ _ _ (o.as _ _ t)<|up _ (by omega)
  .rw[A5 g];have:r=1:=by omega
   subst this;refine AG o h f (by omega) ?_;intro i j s m;have:i=0:=by omega
   have:j=1:=by omega
   subst i;subst j;exact o.as _ _ t
theorem DO(o:vS lt)(d:0<n)(e:Inv2 n p)(hs:iF lt p k){Q:Nat->Prop}(q:∀l,l<=k->(∀i,i<l->lt (p.getD k 0) (p.getD i 0)=false)->(∀i,l<=i->i<k->lt (p.getD k 0) (p.getD i 0)=true)->Q l):
 ∀(f l r:Nat),l<=r->r<=k->r-l<=f->(∀i,i<l->lt (p.getD k 0) (p.getD i 0)=false)->(∀i,r<=i->i<k->lt (p.getD k 0) (p.getD i 0)=true)->KS lt n (kas_place p k f l r) Q
 |0=>λl r j h m a b=>by
  rw[kas_place.eq_def];have:l=r:=by omega
  subst this;exact q l h a b
 |f+1=>λl r j h m a b=>by
  rw[kas_place.eq_def];show KS lt n (if l>=r then _ else _) Q;by_cases g:l>=r
  .rw[A4 g];have:l=r:=by omega
   subst this;exact q l h a b
  .rw[A5 g];refine⟨e.ent d _,e.ent d _,?_⟩;cases c:lt (p.getD k 0) (p.getD ((l+r) / 2) 0)with
   |true=>
    dsimp only;rw[A4 rfl];refine DO o d e hs q f _ _ (by omega) (by omega) (by omega) a λi x y=>?_;by_cases z:i=(l+r) / 2
    .subst z;exact c
    .exact o.up c<|hs _ _ (by omega) y
   |false=>
    dsimp only;rw[A5 A8];refine DO o d e hs q f _ _ (by omega) (by omega) (by omega) (λi x=>?_) b;by_cases z:i=(l+r) / 2
    .subst z;exact c
    .exact o.tr _ _ _ (hs i ((l+r) / 2) (by omega) (by omega)) c
def WE{p:Tj}{a d:Nat}(h:a<p.size)(hd:d<=a)(k:Nat):(bubble p a d).getD k 0=if k=a-d then p.getD a 0 else if a-d<k/\k<=a then p.getD (k-1) 0 else p.getD k 0:=by
 rw[F4,getElem?_bubble h d hd k];by_cases e:k=a-d
 .rw[A4 e,A4 e,F4]
 .rw[A5 e,A5 e];by_cases b:a-d<k/\k<=a
  .rw[A4 b,A4 b,F4]
  .rw[A5 b,A5 b,F4]
theorem aCd(o:vS lt)(g:0<n){Q:Tj->Prop}(q:∀p,Inv2 n p->iF lt p n->Q p):∀(f:Nat)(p:Tj)(k:Nat),Inv2 n p->k+f=n->iF lt p k->KS lt n (kas_bin f p k) Q
 |0=>λp k c t hs=>by
  rw[kas_bin.eq_def];have:k=n:=by omega
  subst this;exact q p c hs
 |f+1=>λp k c t hs=>by
  rw[kas_bin.eq_def];have u:=c.sz;refine KS.bind<|DO o g c hs (λl v a b=>?_) k 0 k (by omega) (by omega) (by omega) (λi x=>by omega) (λi x y=>by omega);refine aCd o g q f _ (k+1) ((bubble_perm p k (k-l)).trans c) (by omega) ?_;intro i j d w;rw[WE (by omega) (by omega),WE (by omega) (by omega)];have e:k-(k-l)=l:=by omega
  rw[e];by_cases h:j=l
  .rw[A4 h,A5 (by omega),A5 (by omega)];exact a i (by omega)
  .rw[A5 h];by_cases m:l<j/\j<=k
   .rw[A4 m];by_cases r:i=l
    .rw[A4 r];exact o.as _ _<|b _ (by omega) (by omega)
    .rw[A5 r];by_cases s:l<i/\i<=k
     .rw[A4 s];exact hs _ _ (by omega) (by omega)
     .rw[A5 s];exact hs _ _ (by omega) (by omega)
   .rw[A5 m,A5 (by omega),A5 (by omega)];exact hs _ _ d (by omega)
def aGl(o:vS lt)(f:0<n):KS lt n (kas_sort n) (λp=>Inv2 n p/\iF lt p n):=by
 unfold kas_sort;refine KS.bind<|KS.mono (λr h=>?_)<|aCO o f (p:=(List.range n).toArray)<|Array.Perm.refl _;obtain⟨a,b,c,d⟩:=h;by_cases e:r.fst<n
 .rw[A4 e];have hm:max r.fst 1=r.fst:=by omega
  rw[hm];exact aCd o f (λp x y=>⟨x,y⟩) _ _ _ a (by omega) d
 .rw[A5 e];have:r.fst=n:=by omega
  exact⟨a,this▸d⟩
end
end L2
namespace L2
open PySem PySem.Spec PyProof.Rows
def lR:T4->Tw (T7)
 |[]=>Z []
 |.int n::r=>(lR r).bind λns=>Z (n::ns)
 |_=>Y
theorem zA:∀{ds:T4}{us:T5}{as:Ta}{ns:T7},ReadsAll h us ds as->lR ds=Z ns->IntsAre us ns
 |[],_,_,_=>λr e=>by cases r;cases e;exact .nil
 |d::ds,_,_,_=>λr e=>by
  cases r with
  |cons a b=>
   cases d with
   |int n=>
    obtain⟨ms,c,f⟩:=Option.bind_eq_some_iff.mp e;cases f;cases a;exact .cons _ _ (zA b c)
   |_=>cases e
def fV:Ua->Ua->Tw Bool
 |.int a,.int b=>Z<|decide (a<b)
 |.tuple xs,.tuple c=>(lR xs).bind λns=>(lR c).bind λms=>Z<|HT.lexLt ns ms
 |_,_=>Y
def cY:T4->T4->Tw Bool
 |[],a=>Z<|decide (0<a.length)
 |_::_,[]=>Z false
 |x::xs,y::a=>if bp x y=true then cY xs a else fV x y
noncomputable def isI:Ua->Bool
 |.int _=>true
 |_=>false
section
variable{prog:Ue}{w:World}{A:Uf}{E:T1}{s:Ub}
def aHN{c d:Bool}{Q:Bool->Ub->Prop}(g:A.units<cLine)(e:Reads s.heap p x as)(f:Reads s.heap q y bs)(h:fV x y=Z c)(i:d=true->isI x=true/\isI y=true)(k:Q c s):
 bc (bb prog w) A (oneLt' d p q) Q E s:=by
 unfold fV at h;split at h
 .rename_i a b;cases e;cases f;cases h;cases d with
  |true=>exact oneLt_int k
  |false=>exact W.kat_one _ _<|lt_int k
 .rename_i xs C;obtain⟨ns,j,h⟩:=Option.bind_eq_some_iff.mp h;obtain⟨ms,l,h⟩:=Option.bind_eq_some_iff.mp h;cases h;cases d with
  |true=>exact absurd (i rfl).1 (by intro z;cases z)
  |false=>
   cases e with
   |tuple m n o r=>
    cases f with
    |tuple t u v B=>
     exact W.kat_one _ _<|HT.lt_tupInts ⟨_,m,n,_,o⟩ ⟨_,t,u,_,v⟩ (zA r j) (zA B l) g k
 .cases h
theorem WY{b d:Bool}{Q:Bool->Ub->Prop}(l:A.units+64<cLine)(k:Q c s):∀(xs ys:T4)(us ws:T5)(as bs:Ta)(i:Nat),ReadsAll s.heap us xs as->ReadsAll s.heap ws ys bs->xs.all bo=true->ys.all bo=true->
 cY xs ys=Z c->d=decide (us.length<ws.length)->((b&&i==0)=true->xs.head?.all isI=true/\ys.head?.all isI=true)->W.KatLex prog w A b d Q (us.zip ws) i s
 |[],ys=>λus ws as bs i g f s1 s2 h a j=>by
  cases g
  have o:ws.length=ys.length:=by
   clear k h a j s2
   induction f using ReadsAll.rec (motive_1:=λ_ _ _ _=>True)with
   |nil=>rfl
   |cons _ _ _ ih=>simp[ih]
   |_=>trivial
  refine W.kat_nil ?_;cases h;rw[a,o];exact k
 |x::xs,[]=>λus ws as bs i g f s1 s2 h a j=>by
  cases f;rw[List.zip_nil_right];refine W.kat_nil ?_;cases h;rw[a];simpa using k
 |x::xs,y::ys=>λus ws as bs i g f s1 s2 h a j=>by
  cases g with
  |cons m p=>
   cases f with
   |cons n q=>
    rw[List.all_cons,B8]at s1 s2;refine W.kat_cons ?_;refine SeqAt.eqAt_reads x y A s _ _ _ _ m n (Y4 s1.1) (Y4 s2.1) (SeqAt.room_of_shaped s1.1 l) _ _ _ _ ?_;have h:(if bp x y=true then cY xs ys else fV x y)=Z c:=h;cases e:bp x y with
    |true=>
     rw[e,A4 rfl]at h;refine W.kat_yes<|WY l k xs ys _ _ _ _ (i+1) p q s1.2 s2.2 h ?_ λz=>?_
     .rw[a];simp
     .simp at z
    |false=>
     rw[e,A5 A8]at h;refine W.kat_no<|aHN (by omega) m n h (λz=>?_) k;have:=j z;simpa using this
end
open PySem PySem.W PyProof.Rows
noncomputable def nR{b:Type}(lt:To):KasT b->b
 |.ret a=>a
 |.ask i j k=>nR lt<|k<|lt i j
def KA{c:Type}(n:Nat):KasT c->(c->Prop)->Prop
 |.ret a,Q=>Q a
 |.ask i j k,Q=>i<n/\j<n/\∀b,KA n (k b) Q
section
variable{n:Nat}
theorem KA.bind{c d:Type}{f:c->KasT d}{Q:d->Prop}:∀{t:KasT c},KA n t (λa=>KA n (f a) Q)->KA n (t.bind f) Q
 |.ret _=>λh=>h
 |.ask _ _ _=>λh=>⟨h.1,h.2.1,λb=>KA.bind<|h.2.2 b⟩
theorem KA.ks{b:Type}{lt:To}{Q:b->Prop}:∀{t:KasT b},KA n t Q->KS lt n t (λa=>a=nR lt t/\Q a)
 |.ret _=>λh=>⟨rfl,h⟩
 |.ask i j _=>λh=>⟨h.1,h.2.1,KA.ks<|h.2.2<|lt i j⟩
theorem KS.run{a:Type}{lt:To}{Q:a->Prop}:∀{t:KasT a},KS lt n t Q->Q (nR lt t)
 |.ret _=>λh=>h
 |.ask i j k=>λh=>KS.run (t:=k<|lt i j) h.2.2
theorem VA(a:Inv2 n p)(c:0<n){Q:Nat->Prop}(q:∀r,Q r):∀(f m:Nat),KA n (kas_asc p f m) Q
 |0=>λm=>by rw[kas_asc.eq_def];exact q m
 |f+1=>λm=>by
  refine⟨a.ent c _,a.ent c _,λb=>?_⟩;cases b with
  |true=>exact q m
  |false=>exact VA a c q f (m+1)
theorem BN(c:0<n){Q:Tj×Nat×Nat->Prop}(k:∀p m q,Inv2 n p->Q (p,m,q)):∀(f:Nat)(p:Tj)(m q:Nat),Inv2 n p->KA n (kas_desc f p m q) Q
 |0=>λp m q a=>by rw[kas_desc.eq_def];exact k p m q a
 |f+1=>λp m q a=>by
  refine⟨a.ent c _,a.ent c _,λb=>?_⟩;cases b with
  |true=>
   by_cases d:q > 0
   .rw[A4 d];exact BN c k f _ _ _<|fQ a _ _
   .rw[A5 d];exact BN c k f _ _ _ a
  |false=>
   refine⟨a.ent c _,a.ent c _,λb=>?_⟩;cases b with
   |true=>exact k p m q a
   |false=>exact BN c k f _ _ _ a
def NF(b:0<n){p:Tj}{m:Nat}(a:Inv2 n p):KA n (kas_tail3 m n p) (λr=>Inv2 n r.2):=by
 exact KA.bind<|VA (fQ a 0 m) b (λr=>fQ a 0 m) _ _
def AR(b:0<n){p:Tj}{m:Nat}(d:Inv2 n p):KA n (kas_descPart m n p) (λr=>Inv2 n r.2):=by
 refine KA.bind<|BN b (λf g e a=>?_) _ _ _ _ d;by_cases c:e > 0
 .rw[A4 c];exact NF b<|fQ a _ _
 .rw[A5 c];exact NF b a
def OP(c:0<n){p:Tj}(a:Inv2 n p):KA n (kas_count n p) (λr=>Inv2 n r.2):=by
 refine KA.bind<|VA a c (λr=>?_) _ _;by_cases e:(r==n)=true
 .rw[A4 e];exact a
 .rw[A5 e];by_cases g:r > 1
  .rw[A4 g];refine⟨a.ent c _,a.ent c _,λb=>?_⟩;cases b with
   |true=>exact a
   |false=>exact AR c<|fQ a _ _
  .rw[A5 g];exact AR c a
theorem BZ(a:0<n)(c:Inv2 n p){Q:Nat->Prop}(q:∀l,Q l):∀(f l r:Nat),KA n (kas_place p k f l r) Q
 |0=>λl r=>by rw[kas_place.eq_def];exact q l
 |f+1=>λl r=>by
  show KA n (if l>=r then _ else _) Q;by_cases g:l>=r
  .rw[A4 g];exact q l
  .rw[A5 g];refine⟨c.ent a _,c.ent a _,λb=>?_⟩;cases b with
   |true=>exact BZ a c q f _ _
   |false=>exact BZ a c q f _ _
theorem aBv(b:0<n):∀(f:Nat)(p:Tj)(k:Nat),Inv2 n p->KA n (kas_bin f p k) (Inv2 n)
 |0=>λp k a=>by rw[kas_bin.eq_def];exact a
 |f+1=>λp k a=>by
  exact KA.bind<|BZ b a (λl=>aBv b f _ (k+1)<|(bubble_perm p k (k-l)).trans a) k 0 k
def MQ(d:0<n):KA n (kas_sort n) (Inv2 n):=by
 have:=OP d<|Array.Perm.refl _;refine KA.bind ?_
 have mono:∀{c:Type}{Q R:c->Prop}(m:∀a,Q a->R a)(t:KasT c),KA n t Q->KA n t R:=by
  intro c Q R m t
  induction t with
  |ret a=>exact m a
  |ask i j k ih=>exact λh=>⟨h.1,h.2.1,λb=>ih b<|h.2.2 b⟩
 refine mono (λr a=>?_) _ this;by_cases e:r.fst<n
 .rw[A4 e];exact aBv d _ _ _ a
 .rw[A5 e];exact a
def cX(lt:To)(n:Nat):Td:=(nR lt<|kas_sort n).toList
def lZ(lt:To)(a:0<n):(cX lt n).Perm (List.range n):=by
 have:=KS.run<|KA.ks (lt:=lt)<|MQ a;simpa[cX]using Array.perm_iff_toList_perm.mp this.2
end
end L2
namespace L2
variable{H:Hp}{W:Wd}
open PySem PySem.Spec PyProof.Rows
mutual
noncomputable def eJ:Ua->Bool
 |.int _=>true
 |.tuple xs=>cB xs
 |_=>false
noncomputable def cB:T4->Bool
 |[]=>true
 |x::r=>eJ x&&cB r
end
mutual
theorem rk{h h':Heap}(k:∀b o vs n,h.get? b=Z o->o.data=.seq vs n->h'.get? b=Z o):∀(d:Ua)(v:Tz)(as:Ta),eJ d=true->Reads h v d as->Reads h' v d as
 |.int n=>λ_ _ _ r=>by cases r;exact .int _ _
 |.tuple xs=>λ_ _ e r=>by
  cases r with
  |tuple a b c d=>exact .tuple (k _ _ _ _ a c) b c (XU k xs _ _ (by unfold eJ at e;exact e) d)
 |.none=>λ_ _ e _=>by unfold eJ at e;cases e
 |.bool _=>λ_ _ e _=>by unfold eJ at e;cases e
 |.str _=>λ_ _ e _=>by unfold eJ at e;cases e
 |.list _=>λ_ _ e _=>by unfold eJ at e;cases e
 |.dict _=>λ_ _ e _=>by unfold eJ at e;cases e
theorem XU{h h':Heap}(k:∀b o vs n,h.get? b=Z o->o.data=.seq vs n->h'.get? b=Z o):∀(f:T4)(vs:T5)(as:Ta),cB f=true->ReadsAll h vs f as->ReadsAll h' vs f as
 |[]=>λ_ _ _ r=>by cases r;exact .nil
 |d::f=>λ_ _ e r=>by
  cases r with
  |cons a b=>
   unfold cB at e;rw[B8]at e;exact .cons (rk k d _ _ e.1 a) (XU k f _ _ e.2 b)
end
theorem ReadsAll.at:∀{ds:T4}{vs:T5}{as:Ta}(i:Nat),ReadsAll h vs ds as->i<ds.length->∃bs,Reads h (vs.getD i .none) (ds.getD i .none) bs
 |[],_,_,i=>λ_ hi=>absurd hi<|Nat.not_lt_zero _
 |d::ds,_,_,0=>λr _=>by cases r with|cons a b=>exact⟨_,a⟩
 |d::ds,_,_,i+1=>λr hi=>by
  cases r with
  |cons a b=>
   obtain⟨bs,x⟩:=ReadsAll.at i b<|Nat.lt_of_succ_lt_succ hi;exact⟨bs,x⟩
theorem ReadsAll.len:∀{ds:T4}{vs:T5}{as:Ta},ReadsAll h vs ds as->vs.length=ds.length
 |[],_,_=>λr=>by cases r;rfl
 |d::ds,_,_=>λr=>by
  cases r with
  |cons a b=>simp[ReadsAll.len b]
section
variable{prog:Ue}{w:World}{A:Uf}{E:T1}{s:Ub}
def aEd{b c:Bool}{Q:Bool->Ub->Prop}(a:A.units+64<cLine)(d:Reads s.heap p (.tuple xs) as)(e:Reads s.heap q (.tuple ys) bs)
 (s1:xs.all bo=true) (s2:ys.all bo=true) (h:cY xs ys=Z c) (f:b=true->xs.head?.all isI=true/\ys.head?.all isI=true) (k:Q c s):bc (bb prog w) A (keyLt' (tuples' b) p q) Q E s:=by
 cases d with
 |tuple g o i j=>
  cases e with
  |tuple l r m n=>
   refine PySem.W.kat_lt g i l m<|WY a k xs ys _ _ _ _ 0 j n s1 s2 h (by simp) λz=>f ?_;simpa using z
noncomputable def iD(a:Tv (T4)):Bool:=a.all λr=>match r with
 |.int _::_=>true
 |_=>false
noncomputable def kK(a:Tv (T4)):Bool:=a.all λr=>match r with
 |.tuple _::_=>true
 |_=>false
def aJQ(n:Int)(t:Tok):PySem.W.Looks M h (typeOf (.int n t)) (.type "int"):=λA Q E s _ q=>by
 show bc M A (pure _) Q E s;exact A6 q
theorem firstsI:∀{c:Tv (T4)}{vs:T5}{as:Ta},ReadsAll h vs (c.map .tuple) as->iD c=true->∃fs,PySem.W.KatTups h vs fs/\fs.length=c.length/\∀v∈fs,∃n t,v=.int n t
 |[],_,_=>λr _=>by cases r;exact⟨[],.nil,rfl,λv g=>nomatch g⟩
 |x::c,_,_=>λr e=>by
  unfold iD at e;rw[List.all_cons,B8]at e;cases r with
  |cons a b=>
   obtain⟨fs,k,m,p⟩:=firstsI b (by unfold iD;exact e.2);cases x with
   |nil=>exact absurd e.1 (by decide)
   |cons d C=>
    cases d with
    |int n=>
     cases a with
     |tuple q u y j=>
      rename_i o vs D ;generalize g:vs.toList=l at j;cases j with
      |cons B F=>
       cases B with
       |int _ t=>
        refine⟨.int n t::fs,.cons q u y (f:=.int n t) ?_ k,by simp[m],?_⟩
        .rw[<- L7,g];rfl
        .intro v i;obtain z|z:=List.mem_cons.mp i
         .exact⟨_,_,z⟩
         .exact p v z
    |_=>exact absurd e.1 (by intro z;cases z)
end
section
variable{prog:Ue}{w:World}{A:Uf}{E:T1}{s:Ub}
def aJX{h:Heap}{a:Uc}{o:Obj}(g:h.get? a=Z o)(c:o.cls=.type "tuple"):PySem.W.Looks M h (typeOf (.ref a)) (.type "tuple"):=λA Q E s k q=>A0o (⟨o,k _ _ g,c⟩) q
theorem WX:∀{c:Tv (T4)}{vs:T5}{as:Ta},ReadsAll h vs (c.map .tuple) as->kK c=true->∃fs,PySem.W.KatTups h vs fs/\fs.length=c.length/\∀v∈fs,∃a o,v=.ref a/\h.get? a=Z o/\o.cls=.type "tuple"
 |[],_,_=>λr _=>by cases r;exact⟨[],.nil,rfl,λv f=>nomatch f⟩
 |x::c,_,_=>λr e=>by
  unfold kK at e;rw[List.all_cons,B8]at e;cases r with
  |cons a b=>
   obtain⟨fs,j,k,m⟩:=WX b (by unfold kK;exact e.2);cases x with
   |nil=>exact absurd e.1 (by decide)
   |cons d C=>
    cases d with
    |tuple D=>
     cases a with
     |tuple n p q i=>
      rename_i o vs F;generalize f:vs.toList=l at i;cases i with
      |cons t G=>
       cases t with
       |@tuple u _ _ _ _ _ y B I J=>
        refine⟨.ref u::fs,.cons n p q ?_ j,by simp[k],?_⟩
        .rw[<- L7,f];rfl
        .intro v g;obtain z|z:=List.mem_cons.mp g
         .exact⟨_,_,z,y,B⟩
         .exact m v z
    |_=>exact absurd e.1 (by simp)
def HJ{b:Tv (T4)}{Q:SortKind->Ub->Prop}(r:ReadsAll s.heap vs (b.map .tuple) as)(j:0<b.length)(hk:iD b=true\/kK b=true)(q:Q (tuples'<|iD b) s):bc M A (keyKind' vs.toArray) Q E s:=by
 obtain hk|hk:=hk
 .obtain⟨fs,f,k,h⟩:=firstsI r hk;rw[hk]at q;refine PySem.W.kat_kind (T:=.type "int") f (by omega) (λv i=>?_) (by decide) q;obtain⟨n,t,rfl⟩:=h v i;exact aJQ n t
 .obtain⟨fs,f,k,h⟩:=WX r hk
  have e:iD b=false:=by
   cases b with
   |nil=>cases j
   |cons x r=>
    unfold kK at hk;rw[List.all_cons,B8]at hk;cases x with
    |nil=>rfl
    |cons d l=>cases d<;>first|rfl|exact absurd hk.1 (by simp)
  rw[e]at q;refine PySem.W.kat_kind (T:=.type "tuple") f (by omega) (λv i=>?_) (by decide) q;obtain⟨a,o,rfl,g,c⟩:=h v i;exact aJX g c
end
section
variable{X:Cx}{bq:T2}{σ:St}{H:Hp}{s:Ub}{h':Heap}
def eO.there{P:Ue}(x:eO P w H h a o):∃u,h.get? a=Z u:=by
 induction o with
 |lst xs=>obtain⟨_,_,_,_,e⟩:=x;exact⟨_,e⟩
 |tup xs=>obtain⟨_,_,_,_,e,_⟩:=x;exact⟨_,e⟩
 |dK kvs=>obtain⟨_,_,_,_,o,_,_,e,_⟩:=x;exact⟨_,e⟩
 |dT kvs=>obtain⟨_,_,_,_,o,_,_,e,_⟩:=x;exact⟨_,e⟩
 |set S n=>obtain⟨o,_,_,_,e,_⟩:=x;exact⟨_,e⟩
 |ins C dx fs=>obtain⟨_,_,_,e,_⟩:=x;exact⟨_,e⟩
 |own y=>exact x
 |xd fs=>obtain⟨_,⟨_,_,_,e,_⟩,_⟩:=x;exact⟨_,e⟩
 |rng lo hi=>obtain⟨_,_,_,e⟩:=x;exact⟨_,e⟩
 |frz o u=>exact⟨_,x.1⟩
 |tbl ps=>exact⟨_,x⟩
 |met f b=>exact⟨_,x⟩
 |ext c=>exact x.2.1
def HOk.none{P:Ue}{a:Uc}(x:HOk P w H h)(e:h.get? a=Y):H a=Y:=by
 cases q:H a with
 |none=>rfl
 |some o=>
  obtain⟨u,z⟩:=(x a o q).there;rw[e]at z;cases z
def Inv.laidL{a:Uc}(I:Inv X bq σ H s)(k:∀b u,b≠X.env.locals->s.heap.get? b=Z u->h'.get? b=Z u)(ns:∀m,s.heap.Ns X.env.locals m->h'.Ns X.env.locals m)(f:s.heap.get? a=Y)(new:eO X.prog X.w (upd H a o) h' a o):
 Inv X bq σ (upd H a o) { s with heap:=h' }:=by
 have hn:=I.hok.none f;have nt:∀b u,H b=Z u->b≠X.env.locals:=λb u e z=>by rw[z,I.free]at e;cases e
 refine I.step (ch:=[]) (λ_ z=>nomatch z) (λb o d _ _ e _=>k b o d e) (λb o d _ _ e _=>⟨o.slots,k b o d e⟩) (λb o _ e n=>?_) (λb o _ e=>?_) (λb xs e=>?_) (λb o u e=>?_) (λb ps e=>⟨#[],?_⟩) ns ?_ I.bare
 .rw[aK (λz=>by subst z;rw[f]at e;cases e)];exact n
 .by_cases z:b=X.env.locals
  .subst z;obtain⟨m,hm,_⟩:=I.loc;obtain⟨o',_,_,q,_⟩:=ns m hm;exact⟨o',q⟩
  .exact⟨o,k b o z e⟩
 .rw[aK (aN e hn)];exact e
 .rw[aK (aN e hn)];exact e
 .rw[aK (aN e hn)];simpa using e
 .intro b u e;by_cases g:b=a
  .subst g;rw[aS]at e;cases e;exact new
  .rw[aK g]at e;refine(I.hok b u e).stay (λc v h q=>k c v ?_ q) (λc q=>by rw[aK (aN q hn)];exact q) λc xs q=>by rw[aK (aN q hn)];exact q
   obtain z|z:=h
   .rw[z];exact nt b _ e
   .exact nt c _ z
def XB{h:Heap}(a:h.Ns L m)(b:h.Ns L c):m=c:=by
 obtain⟨o,es,ep,f,g,_,i⟩:=a;obtain⟨o',j,k,d,e,_,l⟩:=b;rw[f]at d;cases d;rw[g]at e;cases e;funext x;rw[<- i x,l x]
def dH(a:Tv (T4))(i j:Nat):Bool:=(cY (a.getD i [])<|a.getD j []).getD false
theorem zC(r:bA vs us):∀ps:Td,bA (ps.map λi=>vs.getD i .non) (ps.map λi=>us.getD i .none)
 |[]=>.nil
 |p::ps=>by
  refine .cons ?_ (zC r ps)
  have go:∀{vs:Tc}{us:T5}(i:Nat),bA vs us->RelV (vs.getD i .non) (us.getD i .none):=by
   intro vs us i r
   induction r generalizing i with
   |nil=>exact rfl
   |cons a b ih=>cases i with
    |zero=>exact a
    |succ i=>exact ih i
  exact go p r
end
def sortable(a:Tv (T4)):Bool:=decide (2<=a.length)&&decide (a.length<64)&&a.all (λr=>r.all bo&&cB r)&&(iD a || kK a)&&(List.range a.length).all λi=>(List.range a.length).all λj=>(cY (a.getD i [])<|a.getD j []).isSome
def JC(a:Tv (T4)):T4:=(cX (dH a) a.length).map λi=>.tuple (a.getD i [])
def qP(h:sortable a=true):2<=a.length/\a.length<64/\(∀r∈a,r.all bo=true/\cB r=true)/\(iD a=true\/kK a=true)/\(∀i j,i<a.length->j<a.length->(cY (a.getD i [])<|a.getD j []).isSome=true):=by
 unfold sortable at h;rw[B8,B8,B8,B8,A0b]at h;obtain⟨⟨⟨⟨b,c⟩,d⟩,e⟩,f⟩:=h;refine⟨D4 b,D4 c,λr g=>?_,e,λi j hi k=>?_⟩
 .have:=List.all_eq_true.mp d r g
  rwa [B8]at this
 .exact List.all_eq_true.mp (List.all_eq_true.mp f i<|List.mem_range.mpr hi) j<|List.mem_range.mpr k
section
variable{K:Fg}
theorem aM.len{H:Hp}:∀{ds:T4}{vs:Tc},aM K H ds vs->vs.length=ds.length
 |[],_=>λh=>by
  rw[h];rfl
 |d::ds,_=>λh=>by
  obtain⟨v,r,rfl,_,a⟩:=h;simp[aM.len a]
theorem FT{H:Hp}{a:Tv (T4)}(r:aM K H (a.map .tuple) us):∀ps:Td,(∀i∈ps,i<a.length)->aM K H (ps.map λi=>.tuple (a.getD i [])) (ps.map λi=>us.getD i .non)
 |[]=>λ_=>rfl
 |p::ps=>λb=>by
  refine⟨_,_,rfl,?_,FT r ps λi hi=>b i<|B1 _ hi⟩;have hi:=b p B0;have f:=aM.len r;rw[A1]at f
  have g:us[p]?=Z (us.getD p .non):=by
   rw[D2,C4 (by omega)];rfl
  obtain⟨d,c,h⟩:=aM.get r g;rw[D3,C4 hi]at c;cases c;have e:a.getD p []=a[p]:=by grind
  show Rep K H (.tuple (a.getD p [])) (us.getD p .non);rw[e];exact h
def aIX{lt:To}{n:Nat}(a:0<n):∀i∈cX lt n,i<n:=λi hi=>List.mem_range.mp<|(lZ lt a).mem_iff.mp hi
end
def cE.units2(r:cE k A):A.in1.in1.units+64<cLine:=by have:=r.un;show A.units+1+1+64<_;omega
section
variable{prog:Ue}{w:World}{A:Uf}{E:T1}{s:Ub}
def AU{a:Uc}{vs:T5}{P:PySem.Fin->Ub->Prop}(g:s.heap.get? a=Z (seqObj "list" vs.toArray n))(d:vs.length<2)
 (k:P (.done (.ret .none)) { s with heap:=sortedHeap s.heap a vs vs.toArray }):bc (bb prog w) A (Builtin.«list.sort» ⟨[.ref a],[]⟩) P E s:=by
 rw[list_sort_plain];have e:vs.toArray.size<=ba:=by rw[D9,E4];omega
 refine A0<|listItems_at g rfl ?_;refine A0<|listUpdate_at g rfl ?_ e (by simp);have b:=A0r g (λ_=>#[]);refine A0<|seqEpoch_at b rfl ?_;refine A0<|wpAny_newTuple ?_ (by omega);refine A0<|wpAny_newList ?_;refine F5 ?_;have hs:vs.toArray.size<2:=by omega
 rw[A4 hs,A4 hs];refine A0<|A6 ?_;refine A0 ?_;refine A6 ?_;have f:=A3 { cls:=.type "tuple",data:=.seq vs.toArray.toList.toArray } b;have c:=A3 { cls:=.type "list",data:=.seq ([]:T5).toArray } f;refine A0<|seqEpoch_at c rfl ?_
 have hm:Array.map (λx=>x.snd) (arrOf<|SortSt.mk' general' (vs.toArray.zip vs.toArray) #[] 7 Y)=vs.toArray:=by
  show Array.map (λx=>x.snd) (vs.toArray.zip vs.toArray)=vs.toArray
  apply Array.ext
  .simp
  .intro i h d;simp
 rw[hm];refine A0<|listUpdate_at c rfl ?_ (by simp) (by omega);rw[A5 (by simp)];exact A6 k
end
mutual
theorem JV:∀(x y:Ua),eJ x=true->eJ y=true->(bp x y=true↔x=y)
 |.int a,.int b=>λ_ _=>by rw[PyData.eqv.eq_def];simp
 |.int a,.tuple b=>λ_ _=>by rw[PyData.eqv.eq_def];simp
 |.tuple a,.int b=>λ_ _=>by rw[PyData.eqv.eq_def];simp
 |.tuple xs,.tuple c=>λh k=>by
  unfold eJ at h k;rw[PyData.eqv.eq_def];have:=aIv xs c h k;simpa using this
 |.none,_=>λh _=>by unfold eJ at h;cases h
 |.bool _,_=>λh _=>by unfold eJ at h;cases h
 |.str _,_=>λh _=>by unfold eJ at h;cases h
 |.list _,_=>λh _=>by unfold eJ at h;cases h
 |.dict _,_=>λh _=>by unfold eJ at h;cases h
 |.int _,.none=>λ_ h=>by unfold eJ at h;cases h
 |.int _,.bool _=>λ_ h=>by unfold eJ at h;cases h
 |.int _,.str _=>λ_ h=>by unfold eJ at h;cases h
 |.int _,.list _=>λ_ h=>by unfold eJ at h;cases h
 |.int _,.dict _=>λ_ h=>by unfold eJ at h;cases h
 |.tuple _,.none=>λ_ h=>by unfold eJ at h;cases h
 |.tuple _,.bool _=>λ_ h=>by unfold eJ at h;cases h
 |.tuple _,.str _=>λ_ h=>by unfold eJ at h;cases h
 |.tuple _,.list _=>λ_ h=>by unfold eJ at h;cases h
 |.tuple _,.dict _=>λ_ h=>by unfold eJ at h;cases h
theorem aIv:∀(xs c:T4),cB xs=true->cB c=true->(PyData.eqvAll xs c=true↔xs=c)
 |[],[]=>λ_ _=>by rw[A0i];simp
 |[],_::_=>λ_ _=>by rw[A0i];simp
 |_::_,[]=>λ_ _=>by rw[A0i];simp
 |x::xs,y::c=>λh k=>by
  unfold cB at h k;rw[B8]at h k;rw[A0i];show(bp x y&&PyData.eqvAll xs c)=true↔_;rw[B8,JV x y h.1 k.1,aIv xs c h.2 k.2,List.cons.injEq]
end
theorem aCV:∀a b:T7,HT.lexLt a b=true->HT.lexLt b a=false
 |[],[]=>λh=>by cases h
 |[],_::_=>λ_=>rfl
 |_::_,[]=>λh=>by cases h
 |x::xs,y::c=>λh=>by
  rw[HT.lexLt_cons]at h ⊢;by_cases e:x=y
  .rw[A4 e]at h;rw[A4 e.symm];exact aCV xs c h
  .rw[A5 e]at h;rw[A5 (J7 e)];have:=D4 h;exact C9 (by omega)
theorem aDA:∀a b c:T7,HT.lexLt b a=false->HT.lexLt c b=false->HT.lexLt c a=false
 |[],_,[]=>λ_ _=>rfl
 |[],_,_::_=>λ_ _=>rfl
 |x::xs,[],_=>λh _=>by cases h
 |x::xs,y::f,[]=>λ_ h=>by cases h
 |x::xs,y::f,z::g=>λh k=>by
  rw[HT.lexLt_cons]at h k ⊢;by_cases e:y=x
  .rw[A4 e]at h;by_cases d:z=y
   .rw[A4 d]at k;rw[A4 (d.trans e)];exact aDA xs f g h k
   .rw[A5 d]at k;subst e;rw[A5 d];exact k
  .rw[A5 e]at h;have h:=L0 h;by_cases d:z=y
   .subst d;rw[A5 e];exact C9 h
   .rw[A5 d]at k;have k:=L0 k;rw[A5 (by omega)];exact C9 (by omega)
theorem aEL:∀a b:T7,HT.lexLt a b=false->HT.lexLt b a=false->a=b
 |[],[]=>λ_ _=>rfl
 |[],_::_=>λh _=>by cases h
 |_::_,[]=>λ_ h=>by cases h
 |x::xs,y::c=>λh k=>by
  rw[HT.lexLt_cons]at h k;by_cases e:x=y
  .rw[A4 e]at h;rw[A4 e.symm]at k;rw[e,aEL xs c h k]
  .rw[A5 e]at h;rw[A5 (J7 e)]at k;have h:=L0 h;have k:=L0 k;omega
def aAS:∀{xs ys:T4}{ns:T7},lR xs=Z ns->lR ys=Z ns->xs=ys:=by
 have go:∀{xs:T4}{ns:T7},lR xs=Z ns->xs=ns.map .int:=by
  intro xs
  induction xs with
  |nil=>intro ns h;cases h;rfl
  |cons d a ih=>
   intro ns h;cases d with
   |int n=>
    have h:(lR a).bind (λns=>Z (n::ns))=Z ns:=h;obtain⟨ms,b,c⟩:=Option.bind_eq_some_iff.mp h;cases c;rw[ih b];rfl
   |_=>cases h
 intro xs ys ns h k;rw[go h,go k]
def tF{c:Bool}(h:fV x y=Z c):(∃a b,x=.int a/\y=.int b/\c=decide (a<b))\/∃xs ys ns ms,x=.tuple xs/\y=.tuple ys/\lR xs=Z ns/\lR ys=Z ms/\c=HT.lexLt ns ms:=by
 unfold fV at h;split at h
 .cases h;exact .inl ⟨_,_,rfl,rfl,rfl⟩
 .obtain⟨ns,d,h⟩:=Option.bind_eq_some_iff.mp h;obtain⟨ms,e,h⟩:=Option.bind_eq_some_iff.mp h;cases h;exact .inr ⟨_,_,_,_,rfl,rfl,d,e,rfl⟩
 .cases h
def NG{c:Bool}(h:fV x y=Z c):∃d,fV y x=Z d/\(c=true->d=false)/\(c=false->d=false->x=y):=by
 obtain⟨a,b,rfl,rfl,rfl⟩|⟨xs,i,ns,ms,rfl,rfl,f,g,rfl⟩:=tF h
 .refine⟨decide (b<a),rfl,λz=>C9 (by have:=D4 z;omega),λz e=>?_⟩;have z:=L0 z;have e:=L0 e;rw[show a=b by omega]
 .refine⟨HT.lexLt ms ns,?_,λz=>aCV _ _ z,λz e=>?_⟩
  .show(lR i).bind _=_;rw[g];show(lR xs).bind _=_;rw[f];rfl
  .have:=aEL _ _ z e;subst this;rw[aAS f g]
def aFD(h:fV y x=Z false)(k:fV z y=Z false):fV z x=Z false:=by
 obtain⟨a,b,rfl,rfl,g⟩|⟨xs,j,ns,ms,rfl,rfl,l,m,g⟩:=tF h
 .obtain⟨c,d,rfl,e,f⟩|⟨_,_,_,_,_,e,_⟩:=tF k
  .cases e;have g:=L0 g.symm;have f:=L0 f.symm;show Z (decide (c<b))=Z false;rw[C9 (by omega)]
  .cases e
 .obtain⟨c,d,rfl,e,f⟩|⟨n,o,p,q,rfl,e,r,i,f⟩:=tF k
  .cases e
  .cases e;rw[l]at i;cases i;have:=aDA _ _ _ g.symm f.symm;show(lR n).bind _=_;rw[r];show(lR j).bind _=_;rw[m];show Z _=Z false;rw[this]
theorem aEa:∀a b:T4,cB a=true->cB b=true->cY a b=Z true->cY b a=Z false
 |[],[]=>λ_ _ h=>by cases h
 |[],_::_=>λ_ _ _=>rfl
 |_::_,[]=>λ_ _ h=>by cases h
 |x::xs,y::c=>λp q h=>by
  unfold cB at p q;rw[B8]at p q;have h:(if bp x y=true then cY xs c else fV x y)=Z true:=h;show(if bp y x=true then cY c xs else fV y x)=Z false;by_cases e:bp x y=true
  .rw[A4 e]at h;have f:=(JV x y p.1 q.1).mp e;rw[A4 ((JV y x q.1 p.1).mpr f.symm)];exact aEa xs c p.2 q.2 h
  .rw[A5 e]at h;rw[A5 λz=>e<|(JV x y p.1 q.1).mpr ((JV y x q.1 p.1).mp z).symm];obtain⟨d,g,i,_⟩:=NG h;rw[g,i rfl]
theorem aDy:∀a b c:T4,cB a=true->cB b=true->cB c=true->cY b a=Z false->cY c b=Z false->cY c a=Z false
 |[],_,[]=>λ_ _ _ _ _=>rfl
 |[],_,_::_=>λ_ _ _ _ _=>rfl
 |x::xs,[],_=>λ_ _ _ h _=>by cases h
 |x::xs,y::j,[]=>λ_ _ _ _ h=>by cases h
 |x::xs,y::j,z::l=>λp q r h k=>by
  unfold cB at p q r;rw[B8]at p q r;have g:(if bp y x=true then cY j xs else fV y x)=Z false:=h;clear h;have f:(if bp z y=true then cY l j else fV z y)=Z false:=k;clear k;show(if bp z x=true then cY l xs else fV z x)=Z false;by_cases e:bp y x=true
  .rw[A4 e]at g;have m:=(JV y x q.1 p.1).mp e;subst m;by_cases i:bp z y=true
   .rw[A4 i]at f ⊢;exact aDy xs j l p.2 q.2 r.2 g f
   .rw[A5 i]at f ⊢;exact f
  .rw[A5 e]at g;by_cases i:bp z y=true
   .have m:=(JV z y r.1 q.1).mp i;subst m;rw[A5 e];exact g
   .rw[A5 i]at f
    have n:¬bp z x=true:=λw=>by
     have w:=(JV z x r.1 p.1).mp w;subst w;obtain⟨d,o,_,s⟩:=NG g;rw[o]at f;cases f;exact e<|(JV y z q.1 p.1).mpr (s rfl rfl)
    rw[A5 n];exact aFD g f
def aBQ(h:sortable f=true):vS (dH f):=by
 obtain⟨q,s,n,t,o⟩:=qP h
 have g:∀i,cB (f.getD i [])=true:=λi=>by
  rw[D2];cases e:f[i]? with
  |none=>rfl
  |some r=>exact(n r<|S6 e).2
 have k:∀i,¬i<f.length->f.getD i []=[]:=λi hi=>by
  rw[D2,Z5 (by omega)];rfl
 have l:∀i j,∃c,cY (f.getD i []) (f.getD j [])=Z c:=λi j=>by
  by_cases hi:i<f.length
  .by_cases m:j<f.length
   .exact Option.isSome_iff_exists.mp<|o i j hi m
   .rw[k j m];cases f.getD i []with
    |nil=>exact⟨_,rfl⟩
    |cons _ _=>exact⟨_,rfl⟩
  .rw[k i hi];exact⟨_,rfl⟩
 have is:∀i j c,dH f i j=c->cY (f.getD i []) (f.getD j [])=Z c:=λi j c e=>by
  obtain⟨d,hd⟩:=l i j;unfold dH at e;rw[hd]at e ⊢;exact U3 Z e
 have un:∀i j c,cY (f.getD i []) (f.getD j [])=Z c->dH f i j=c:=λi j c e=>by
  unfold dH;rw[e];rfl
 exact⟨λa b e=>un _ _ _<|aEa _ _ (g a) (g b)<|is _ _ _ e,λa b c e p=>un _ _ _<|aDy _ _ _ (g a) (g b) (g c) (is _ _ _ e)<|is _ _ _ p⟩
def GA{a:Tv (T4)}(h:sortable a=true):iF (dH a) (nR (dH a)<|PySem.W.kas_sort a.length) a.length:=
 (KS.run<|aGl (aBQ h) (by have:=(qP h).1;omega)).2
def TrS(h B:Heap)(e:Uc)(vs:Ti):Tf->Prop
 |none=>vs[1]?=Z .none
 |some c=>∃T a b,vs[1]?=Z (.ref T)/\B.get? T=Y/\T≠e/\h.get? T=Z a/\a.data=.fields b/\b[3]?=Z c
def Tr(h B:Heap)(e:Uc)(c:Tz)(dx:Th)(st:Tf):Prop:=
 ∃a vs,h.get? e=Z a/\(a.cls=c/\a.dict=dx)/\a.data=.fields vs/\(1<vs.size/\(YX c=true->vs[2]?=Z .none))/\TrS h B e vs st
structure Fly(B:Heap)(l:Tv Env)(e:Uc)(c:Tz)(dx:Th)(st:Tf)(h:Heap):Prop where
 stays:B.StaysIn h
 new:B.get? e=Y
 frames:h.FunFrames B l
 tr:Tr h B e c dx st
def Fly.obj{B:Heap}{st:Tf}(F:Fly B l e c dx st h):∃a vs,h.get? e=Z a/\a.cls=c/\a.dict=dx/\a.data=.fields vs/\(YX c=true->vs[2]?=Z .none):=by
 obtain⟨a,vs,d,b,f,g,_⟩:=F.tr;exact⟨a,vs,d,b.1,b.2,f,g.2⟩
def aGw(o:Obj)(f:Ti->Ti):(o.mapFields f).dict=o.dict:=by
 obtain⟨c,d,dt,sl⟩:=o;cases dt<;>rfl
section
variable{M:Model}{A:Uf}{E:T1}{s:Ub}{B:Heap}{env:Env}{outer l:Tv Env}{L e:Uc}{c:Tz}{dx:Th}{st:Tf}{Q:Unit->Ub->Prop}
def kH{h:Heap}{a b:Uc}{o d:Obj}(ha:h.get? a=Z d)(hd:d.data=.fields vs)(f:h.get? b=Z o)(hn:∀ws,o.data≠.fields ws):b≠a:=by grind
def QE{h:Obj}(w:A.frames=Z (env::outer))(I:env.frame=Z L)(stays:B.StaysIn s.heap)(new:B.get? e=Y)(fr:s.heap.FunFrames B (env::outer))
 (t:s.heap.get? e=Z h) (D:h.cls=c/\h.dict=dx) (i:h.data=.fields vs) (u:1<vs.size/\(YX c=true->vs[2]?=Z .none))
 (q:∀h',Fly B (env::outer) e c dx (Z<|rawInt L) h'->s.heap.UpToSlots h'->Q () { s with heap:=h' }):
 bc M A (do let a <- frameOf env;let pl <- entryPlaceOf L nx;let b <- EntryCells.newEntry hd a .none (rawInt L) .none pl;setField (.ref e) 1 b) Q E s:=by
 have j:e∉(env::outer).filterMap (·.frame):=λhm=>by
  obtain⟨_,o,J,f⟩:=fr.mem hm;exact kH t i J f rfl
 refine A0 (wpAny_frameOf_fun w fr I λg v=>A0 (wpAny_entryPlaceOf λpl x=>?_));unfold EntryCells.newEntry newFields;refine A0<|D1 ?_<|x.sizeOk5 _ _ _ _ _;generalize k:({ cls:=.type "traceback",dict:=Y,data:=.fields ([hd,Value.ref L,.none,rawInt L,.none]++(if pl.isEmpty then List.replicate 6 Value.none else pl)).toArray }:Obj)=m;have y:m.data=.fields ([hd,Value.ref L,.none,rawInt L,.none]++(if pl.isEmpty then List.replicate 6 Value.none else pl)).toArray:=by rw[<- k]
 have F:g.get? e=Z h:=(v.2.1 e j).trans t;have p:B.StaysIn g:=λb o d=>(v.2.1 b λhm=>by rw[(fr.mem hm).1]at d;cases d).trans (stays b o d);have G:(g.push m).get? e=Z h:=A3 m F;refine Y0 G i u.1<|q _ ?_ ?_
 all_goals
  have r:g.objs.size≠e:=E9<|A9 F;have K:=F9 (Obj.mapFields (·.setIfInBounds 1 (Value.ref g.objs.size))) G<|A0d<|O4 i _
  have kp:∀b o,b≠e->g.get? b=Z o->((g.push m).update e (Obj.mapFields (·.setIfInBounds 1 (Value.ref g.objs.size)))).get? b=Z o:=λb o C d=>by
   rw[E7 _ _ (J7 C)];exact A3 _ d
 .refine⟨λb o d=>kp b o (λz=>by rw[z,new]at d;cases d)<|p b o d,new,fr.of_keeps λb o d f=>?_,?_⟩
  .obtain⟨sl,hs⟩:=v.2.2 b o d;exact⟨_,kp b _ (kH t i d f) hs,rfl⟩
  .refine⟨_,_,K,⟨(Obj.cls_mapFields _ _).trans D.1,(aGw _ _).trans D.2⟩,O4 i _,⟨by simpa using u.1,λn=>by rw[Array.getElem?_setIfInBounds_ne (by decide)];exact u.2 n⟩,g.objs.size,m,_,by simp[u.1],p.fresh,r,?_,y,by simp⟩;rw[E7 _ _ (J7 r)];exact B3 g (by rw[<- k];rfl)
 .intro b o d f;obtain⟨sl,hs⟩:=v.2.2 b o d;exact⟨sl,kp b _ (kH t i d f) hs⟩
def LU(f:A.frames=Z (env::outer))(i:env.frame=Z L)(F:Fly B (env::outer) e c dx st s.heap)(j:st=Y\/st=Z .none\/st=Z (rawInt L))
 (q:∀h',Fly B (env::outer) e c dx (Z<|rawInt L) h'->s.heap.UpToSlots h'->Q () { s with heap:=h' }):bc M A (noteFrame (.ref e) env) Q E s:=by
 obtain⟨t,vs,g,k,h,m,ht⟩:=id F.tr;unfold noteFrame;simp only[i];obtain rfl|rfl|rfl:=j
 .refine A0<|F8 g h ht ?_;exact QE f i F.stays F.new F.frames g k h m q
 .obtain⟨T,n,p,t1,t2,t3,t4,t5,t6⟩:=ht;refine A0<|F8 g h t1 ?_;refine A0<|F8 t4 t5 t6 ?_;refine A0<|Y0 t4 t5 (Array.getElem?_eq_some_iff.mp t6).1 ?_;have oth:∀b,b≠T->(s.heap.update T (Obj.mapFields (·.setIfInBounds 3 Value.none))).get? b=s.heap.get? b:=λb a=>E7 _ _ (J7 a)
  refine QE f i (λb o a=>(oth b λz=>by rw[z,t2]at a;cases a).trans (F.stays b o a)) F.new
   (F.frames.of_keeps λb o a d=>⟨o,(oth b<|kH t4 t5 a d).trans a,rfl⟩) ((oth e<|J7 t3).trans g) k h m λh' r u=>q h' r λb o a d=>u b o ((oth b<|kH t4 t5 a d).trans a) d
 .obtain⟨T,n,p,t1,t2,t3,t4,t5,t6⟩:=ht;refine A0<|F8 g h t1 ?_;refine A0<|F8 t4 t5 t6 ?_;rw[A4 (by simp)];exact A6<|q _ F (.refl _)
def BW{j:Tz}{fo:Th}(F:Fly B l e c dx (Z j) s.heap)
 (q:∀h',Fly B l e c dx (Z (fo.elim .none λf=>rawInt f)) h'->s.heap.UpToSlots h'->Q () { s with heap:=h' }):bc M A (setFlight (.ref e) fo) Q E s:=by
 obtain⟨k,vs,g,m,h,n,T,p,r,t1,t2,t3,t4,t5,t6⟩:=id F.tr;have i:=(Array.getElem?_eq_some_iff.mp t6).1;refine A0<|F8 g h t1 ?_;have oth:∀b,b≠T->(s.heap.update T (Obj.mapFields (·.setIfInBounds 3 (fo.elim .none λf=>rawInt f)))).get? b=s.heap.get? b:=λb a=>E7 _ _<|J7 a
 refine Y0 t4 t5 i (q _ ⟨λb o a=>(oth b λz=>by rw[z,t2]at a;cases a).trans (F.stays b o a),F.new,F.frames.of_keeps λb o a d=>⟨o,(oth b<|kH t4 t5 a d).trans a,rfl⟩,
  k,vs,(oth e (J7 t3)).trans g,m,h,n,T,_,_,t1,t2,t3,F9 _ t4 (A0d (O4 t5 _)),O4 t5 _,by simp[i]⟩
  λb o a d=>⟨o.slots,(oth b (kH t4 t5 a d)).trans a⟩)
def aFg(f:A.frames=Z (env::outer))(h:env.frame=Z L)(F:Fly B (env::outer) e c dx st s.heap)(g:st=Y\/st=Z .none\/st=Z (rawInt L))
 (q:∀h',Fly B outer e c dx (Z .none) h'->s.heap.UpToSlots h'->Q () { s with heap:=h' }):bc M A (leaving env (.ref e)) Q E s:=by
 refine A0 (LU f h F g λk F1 u1=>BW F1 λi F2 j=>?_);obtain⟨a,b,⟨_,_,c'⟩,d⟩:=F2;exact q i ⟨a,b,c',d⟩<|u1.trans j
def aGa{X:T1}(a:A.frames=Z (env::outer))(d:env.frame=Z L)(F:Fly B (env::outer) e c dx st s.heap)(b:st=Y\/st=Z .none\/st=Z (rawInt L))
 (q:∀h',Fly B (env::outer) e c dx (Z<|rawInt L) h'->s.heap.UpToSlots h'->X (.ref e) { s with heap:=h' }):notedBy M A env (cameBackBy M A env X) (.ref e) s:=by
 refine LU a d F b λj F1 u1=>?_;obtain⟨k,vs,f,m,g,n,T,o,p,t1,t2,t3,t4,t5,t6⟩:=id F1.tr;refine A0<|F8 f g t1 ?_;rw[A5 (by simp),d];exact BW F1 λh F2 i=>q h F2<|u1.trans i
end
structure Body(X:Cx):Prop where
 stk:X.stack=X.env::X.outer
 fr:X.env.frame=Z X.env.locals
 ex:X.ex=[]
structure Kp(X:Cx)(H:Hp)(B h:Heap):Prop where
 trk:∀b u o,H b=Z u->h.get? b=Z o->B.get? b=Z o
 ent:∀b o,X.s₀.heap.get? b=Z o->b∉X.fs->(∃o',B.get? b=Z o')/\(X.H₀ b=Y->B.get? b=Z o)
 pin:∀p∈X.pn,B.get? p.1=Z p.2
section
variable{X:Cx}{bq:T2}{σ:St}{H:Hp}{s:Ub}{B h':Heap}
def Inv.up(I:Inv X [] σ H s)(b:Body X)(k:Kp X H B s.heap)(stays:B.StaysIn h')(u:s.heap.UpToSlots h'):Inv X [] σ H { s with heap:=h' }/\Kp X H B h':=by
 have tr:=λa v o e q=>stays a o<|k.trk a v o e q
 have cell:∀c v,s.heap.IsCell c v->h'.IsCell c v:=λc v ⟨o,E,hd⟩=>by
  obtain⟨sl,q⟩:=u c o E λvs z=>by rw[hd]at z;cases z
  exact⟨_,q,hd⟩
 have f:∀a∈X.fs,∀o,s.heap.get? a=Z o->∃sl,h'.get? a=Z { o with slots:=sl }:=λa ha o e=>by
  obtain⟨_,j,C,hn⟩:=I.funs.mem ha;rw[e]at C;cases C;exact u a o e hn
 refine⟨⟨I.ok,I.os,I.bare,⟨λa o e n ha t=>?_,λa o e n ha t=>?_,I.base.free,λa o e t=>?_,I.base.tups,I.base.frzs,I.base.tbls⟩,?_,λx c e=>?_,I.free,I.freeC,λp y=>?_,λa v e=>?_,I.len⟩,⟨λa v o e q=>?_,k.ent,k.pin⟩⟩
 .exact stays a o<|(k.ent a o e ha).2 n
 .obtain⟨sl,g⟩:=I.base.slot a o e n ha t;obtain⟨A,h⟩:=f a ha _ g;exact⟨A,h⟩
 .by_cases ha:a∈X.fs
  .obtain⟨j,g⟩:=I.base.there a o e t;obtain⟨sl,h⟩:=f a ha j g;exact⟨_,h⟩
  .obtain⟨⟨o',q⟩,_⟩:=k.ent a o e ha;exact⟨o',stays a o' q⟩
 .obtain⟨m,hn,F⟩:=I.loc;refine⟨m,u.ns hn,λi x v g h G=>?_⟩;obtain⟨J,r,l⟩:=F i x v g h G;refine⟨J,r,?_⟩;obtain l|⟨K,c,e,z⟩:=l
  .exact .inl l
  .exact .inr ⟨K,c,e,cell c _ z⟩
 .obtain⟨v,z⟩:=I.cell x c e;exact⟨v,cell c v z⟩
 .rw[D8]at y;obtain⟨_,n,ne,L,d⟩:=I.pin p<|E5 _ y;exact⟨stays _ _<|k.pin p y,n,ne,L,d⟩
 .exact(I.hok a v e).stay (λc w hc q=>by
   obtain rfl|hc:=hc
   .exact tr c v w e q
   .exact tr c _ w hc q) (λ_ q=>q) λ_ _ q=>q
 .obtain⟨j,D⟩:=(I.hok a v e).there;have:=tr a v j e D;rw[q]at this;cases this;exact k.trk a v o e D
def XS(X:Cx)(EE:St->XK)(ev:Tz)(s:Ub):Prop:=
 ∃e c dx st σ H B,ev=.ref e/\Inv X [] σ H s/\Kp X H B s.heap/\Fly B X.stack e c dx st s.heap/\(st=Y\/st=Z .none\/st=Z (rawInt X.env.locals))/\EE σ c dx H
def XS.unwish(h:XS (X.wish E) EE ev s):XS X EE ev s:=by
 obtain⟨e,c,dx,st,σ,H,B,b,I,k,F,a,q⟩:=h;exact⟨e,c,dx,st,σ,H,B,b,I.unwish,⟨k.trk,k.ent,k.pin⟩,F,a,q⟩
def CX1(P:Ue)(w:World):CXT:=λouter H s E ev s'=>∃e c dx H' B,ev=.ref e/\s'.os=s.os/\AllBare s'.gens/\Un (frs outer) [] H H' s.heap s'.heap/\HOk P w H' s'.heap/\Fly B outer e c dx (Z .none) s'.heap /\
 (∀b u o,H' b=Z u->s'.heap.get? b=Z o->B.get? b=Z o)/\(∀b o,s.heap.get? b=Z o->b∉frs outer->(∃o',B.get? b=Z o')/\(H b=Y->B.get? b=Z o))/\E c dx H'
def Inv.entry(I:Inv X bq σ H s)(bd:Body X){b:Uc}{o:Obj}(e:X.s₀.heap.get? b=Z o)(a:b∉X.fs):b∉frs X.stack/\(∃c,s.heap.get? b=Z c)/\(X.H₀ b=Y->s.heap.get? b=Z o/\H b=Y):=by
 have nx:b∉X.ex:=by rw[bd.ex];simp
 refine⟨λz=>?_,I.base.there b o e nx,λn=>⟨I.base.keep b o e n a nx,I.base.free b o e n nx⟩⟩;obtain q|q:=List.mem_cons.mp (I.stkSub b z)
 .exact absurd (q▸C2 (A9 e) I.ok.above)<|L8 _
 .exact a q
def aBz{EE:St->XK}(bd:Body X)(I:Inv X bq σ H s)(h:CX1 X.prog X.w X.stack H s (EE σ) ev s'):XS X EE ev s':=by
 obtain⟨e,c,dx,H',B,rfl,os,bare,un,hok,F,trk,ent,q⟩:=h;have g:=I.call' os un hok bare λb z=>absurd z (by simp);refine⟨e,c,dx,Z .none,σ,H',B,rfl,g.pins_of λp d=>absurd d (by simp),⟨trk,λb o e i=>?_,λp d=>?_⟩,F,.inr (.inl rfl),q⟩
 .obtain⟨a,⟨j,k⟩,f⟩:=I.entry bd e i;exact⟨(ent b j k a).1,λn=>(ent b o (f n).1 a).2 (f n).2⟩
 .obtain⟨a,n,ne,l,_⟩:=I.pin p<|E5 _ d;exact(ent p.1 p.2 a λz=>(List.mem_cons.mp<|I.stkSub p.1 z).elim ne l).2 n
def aBW{EE:St->XK}{e:Uc}{d:Obj}(bd:Body X)(I:Inv X bq σ H s)(i:s.heap.get? e=Z d)(hn:H e=Y)(r:X.s₀.heap.get? e=Y)(g:∀p∈X.pn,p.1≠e)(j:d.data=.fields vs)(t:1<vs.size)(c:vs[1]?=Z .none)(f:YX d.cls=true->vs[2]?=Z .none)
 (q:EE σ d.cls d.dict H):XS X EE (.ref e) s:=by
 have k:e∉frs X.stack:=λhm=>by
  obtain⟨_,o,v,h⟩:=I.stack.mem hm;exact kH i j v h rfl
 have get:∀b o,b≠e->b∉frs X.stack->s.heap.get? b=Z o->(PySem.W.hideAll s.heap (e::frs X.stack)).get? b=Z o:=λb o c f w=>PySem.W.hideAll_get _ w λhm=>(List.mem_cons.mp hm).elim c f;refine⟨e,d.cls,d.dict,Y,σ,H,PySem.W.hideAll s.heap (e::frs X.stack),rfl,I.pins_of λp g=>absurd g (by simp),⟨λb u o c f=>?_,λb o c f=>?_,λp c=>?_⟩,⟨λb o c=>PySem.W.of_hideAll _ c,PySem.W.hideAll_none _ B0,?_,d,vs,i,⟨rfl,rfl⟩,j,⟨t,f⟩,c⟩,.inl rfl,q⟩
 .exact get b o (aN c hn) (λz=>by rw[I.stkFree b z]at c;cases c) f
 .obtain⟨l,⟨m,x⟩,y⟩:=I.entry bd c f;have ne:b≠e:=λz=>by rw[z,r]at c;cases c
  exact⟨⟨m,get b m ne l x⟩,λn=>get b o ne l (y n).1⟩
 .obtain⟨A,n,ne,k,_⟩:=I.pin p<|E5 _ c;exact get p.1 p.2 (g p c) (λz=>(List.mem_cons.mp<|I.stkSub p.1 z).elim ne k) A
 .exact PySem.W.funFrames_hide I.stack λenv hm a ha=>B1 _<|List.mem_filterMap.mpr ⟨env,hm,ha⟩
def aDQ(bd:Body X):PassesOwn (bb X.prog X.w) X.A X.env (XS X EE):=by
 rintro ev s ⟨e,c,dx,st,σ,H,B,rfl,I,k,F,a,q⟩;have b:=I.ok.frames;rw[bd.stk]at b F;refine aGa b bd.fr F a λh' d u=>?_;obtain⟨f,g⟩:=I.up bd k d.stays u;exact⟨e,c,dx,_,σ,H,B,rfl,f,g,by rw[bd.stk];exact d,.inr (.inr rfl),q⟩
end
section
variable{P:Ue}{w:World}{K:Fg}{mg:Str->Tf}{base:Heap}{N:Tb}{qual:Str}{scope:Scope}{f:Uc}{cd:Tz}{A:Uf}{outer:Tv Env}{s:Ub}{H:Hp}{E:XK}{CX:CXT}
def VZ:Body (mZ CX P w K mg base N qual scope f cd A outer s H E):=⟨rfl,rfl,rfl⟩
def Body.wish(b:Body X)(E:T1):Body (X.wish E):=⟨b.stk,b.fr,b.ex⟩
def aFc{ev:Tz}(h:XS (mZ (CX1 P w) P w K mg base N qual scope f cd A outer s H E) (λ_=>E) ev s'):(mZ (CX1 P w) P w K mg base N qual scope f cd A outer s H E).xe ev s':=by
 obtain⟨e,c,dx,st,i,H',B,rfl,I,k,F,b,q⟩:=h;refine aFg I.ok.frames rfl F b λh' d u=>?_;obtain⟨a,g⟩:=I.up VZ k d.stays u;exact⟨e,c,dx,H',B,rfl,a.os,a.bare,a.base,a.hok,d,g.trk,g.ent,q⟩
def aLo{kV doc oc:Tz}{od:Th}
 {osl:Array (Tf)} {sp:Sp} (g:K.lookup f=Z ⟨oc,od,.func (PySem.W.fnOf name qual a b scope e kV doc pm an cdv ct),osl⟩) (d:PySem.W.codeIn K cdv qual=true) (S:aU N ps scope)
 (len:∀vs H Q E,sp vs H Q E->vs.length=ps.length)
 (c:∀(A:Uf)(outer:Tv Env)(s:Ub)(H:Hp)(vs:Tc)(Q:VK)(E:XK),cE k (A.deeper<|envOfC qual scope s.heap.objs.size f cdv)->sp vs H Q E->
  ∃t,PSs ((mZ (CX1 P w) P w K mg base N qual scope f cdv A outer s H E).wish (XS (mZ (CX1 P w) P w K mg base N qual scope f cdv A outer s H E) λ_=>E)) b t/\t { nx:=λ_ H'=>Q .non H',rt:=Q } (start N vs) H):
 jH P w K mg base (CX1 P w) (k+1) f (PySem.W.fnOf name qual a b scope e kV doc pm an cdv ct) ps sp:=
 aIj g d S len λA outer s H vs Q E i h=>by
  obtain⟨t,ht,j⟩:=c A outer s H vs Q E i h;exact⟨t,λbq s' l H' D I m=>E3 (ht bq s' l H' D (I.wish _) m) (λ_ _ q=>q.unwish) λ_ _ z=>aFc z,j⟩
end
structure aOv(K:Fg)(C:Uc):Prop where
 ga:PySem.W.findIn K (.ref C) "__getattribute__"=Z (Z (.builtin "BaseException.__getattribute__"))
 gh:PySem.W.findIn K (.ref C) "__getattr__"=Z Y
 be:PySem.W.subIn K (.ref C) (.type "BaseException")=Z true
 cl:(PySem.W.clsIn K C).isSome=true
section
variable{X:Cx}{bq:T2}{σ:St}{H:Hp}{s:Ub}
noncomputable def aCA(sp:Sp)(EE:St->XK)(t:TA):TE:=λσ H Q=>t σ H λvs a=>sp vs a Q<|EE σ
structure BS(P:Ue)(w:World)(K:Fg)(mg:Str->Tf)(base:Heap)(k:Nat)(x:Str)(ps:Tb)(sp:Sp):Prop where
 ex:∃f fd,jH P w K mg base (CX1 P w) k f fd ps sp/\mg x=Z (.ref f)/\PySem.W.keepIn K (.ref f)=true/\Binds K fd ps []
structure XOk(X:Cx)(EE:St->XK):Prop where
 bd:Body X
 pass:∀ev s,XS X EE ev s->X.xe ev s
 own:PassesOwn (bb X.prog X.w) X.A X.env X.xe
def XOk.of{X:Cx}(bd:Body X)(EE:St->XK):XOk (X.wish<|XS X EE) EE:=⟨bd.wish _,λ_ _ h=>h.unwish,aDQ bd⟩
def aHZ{EE:St->XK}(ok:XOk X EE)(F:jH X.prog X.w X.K X.mg X.base (CX1 X.prog X.w) k f fd ps sp)(c:cE k X.A)(d:Binds X.K fd ps [])
 (I:Inv X bq σ H s) (r:bA vs us) (h:sp vs H Q (EE σ)):bc (bb X.prog X.w) X.A (call (.ref f) us) (EP X bq σ Q) X.xe s:=by
 have i:us.length=ps.length:=by rw[<- r.length];exact F.len _ _ _ _ h
 have b:=d s us I.kIn (by grind);rw[D8]at b;refine wpAny_call (A0n (F.run X.A X.stack s H ⟨us,[]⟩ us vs Q (EE σ) c I.env0 b r h) λr s' a=>?_);cases r with
 |error e=>exact ok.pass _ _<|aBz ok.bd I a
 |ok g=>
  cases g with
  |ret u=>exact I.after a
  |next=>exact False.elim a
  |brk=>exact False.elim a
  |cont=>exact False.elim a
def aFF{EE:St->XK}{k:Nat}{x:Str}{ps:Tb}{sp:Sp}{p pos:Pos}{e:Ud}{es:T8}{t:TA}(ok:XOk X EE)(C:BS X.prog X.w X.K X.mg X.base k x ps sp)(g:cE k X.A)(ha:PA X (e::es) t)(i:Gl X x)
 (a:(x==("__debug__":Str))=false) (j:bf (e::es) X.env=(false,eval e X.env)::bf es X.env) (c:(backTo pos<|bf es X.env).any (·.1)=false):
 PE X (.Call (.Name x p) (e::es) [] pos) (aCA sp EE t):=by
 intro bq s σ H Q I h;obtain⟨f,fd,F,m,kp,b⟩:=C.ex;refine L4<|mM I i m ?_ a;exact U7 I.ok.mod.kin kp (thn (ha pos bq s σ H _ I h) λus s1 ⟨vs,l,d,r,q⟩=>⟨d.kIn,aHZ ok F g b d r q⟩) j c
noncomputable abbrev bmV:T5:=[.type "ValueError",.type "Exception",.type "BaseException",.type "object"]
def aGB{K:Fg}(X:K.In h)(q:PySem.W.excIn K C a b=true):
 ∃bm N nm c bs hd sn sub ab col dd k0 k1 k2 k3 k5 mN,h.get? C=Z (excClassObj nm c C N bs bm hd sn sub ab col dd k0 k1 k2 k3 k5 b)/\h.Ns N mN/\mN "__init__"=Y/\OwnTail h a bm:=by
 unfold PySem.W.excIn at q;split at q
 case h_2=>cases q
 case h_1 dd e sl f=>
  split at q
  case h_2=>cases q
  case h_1 r bm k0 k1 k2 k3 n k5 hm hs=>
   simp only[Bool.and_eq_true,beq_iff_eq,Bool.not_eq_true']at q;obtain⟨⟨⟨⟨⟨g,i⟩,j⟩,k⟩,d⟩,m⟩:=q;subst g i;cases e with
   |mk nm bs o ns c hd sn sub ab col p=>
    cases hm;cases j
    have es:sl=#[k0,k1,k2,k3,Z (.builtin n),k5]:=by
     cases sl with
     |mk l=>exact U3 Array.mk hs
    cases es;exact⟨bm,ns,nm,c,bs,hd,sn,sub,ab,col,dd,k0,k1,k2,k3,k5,_,X _ _ f,.of_isNs (PySem.W.isNs_of_in X d),PySem.W.nsMap_none_of_in X d m,PySem.W.tail_of_in X k⟩
def LV(EE:St->XK)(C:Uc):TS:=λ_ σ H=>EE σ (.ref C) Y H
def ZU{cpos:Pos}(ok:XOk X EE)(g:X.calm=true)(hm:X.mg x=Z (.ref C))(q:PySem.W.excIn X.K C bmV "ValueError.__new__"=true)(i:Gl X x)
 (a:(x==("__debug__":Str))=false):PS X (.Raise (Z (.Call (.Name x f) [] [] cpos)) Y pos) (LV EE C):=by
 intro bq s σ H D I h;obtain⟨bm,N,nm,j,bs,hd,sn,sub,ab,col,dd,k0,k1,k2,k3,k5,mN,k,l,m,b⟩:=aGB I.kIn q
 refine wpAny_Raise_call_subT (C:=C) (nm:=nm) (q:=j) (N:=N) (bs:=bs) (bm:=bm) (hdct:=hd) (sn:=sn) (sub:=sub) (ab:=ab) (col:=col) (dd:=dd) (k0:=k0) (k1:=k1) (k2:=k2) (k3:=k3) (k5:=k5) (mN:=mN)
  F.excBase_ValueError (b.hasType F.excBase_ValueError.hasBase) (I.ok.hd g) rfl m (mM I i hm ⟨rfl,evalArgs_empty ⟨rfl,E6 _,k,l,b,λh' e mk=>ok.pass _ _ ?_⟩⟩ a)
 obtain⟨t,n,_,_⟩:=mk.there;have r:Inv X bq σ H { s with heap:=h' }:=I.kept mk.keeps
 have hn:H e=Y:=by
  cases z:H e with
  |none=>rfl
  |some u=>
   obtain⟨o,c⟩:=(I.hok e u z).there;rw[mk.new]at c;cases c
 refine aBW ok.bd r n hn ?_ (λp v z=>?_) rfl (show 1<6 by decide) rfl (λ_=>rfl) h
 .cases z:X.s₀.heap.get? e with
  |none=>rfl
  |some o=>
   obtain⟨w,d⟩:=I.base.there e o z (by rw[ok.bd.ex];simp);rw[mk.new]at d;cases d
 .have:=(I.pin p<|E5 _ v).1;rw[z,mk.new]at this;cases this
end
def hCx(X:Cx)(e:Uc):Cx:={ X with A:=X.A.mark<|Z (.ref e),calm:=false,xe:=λ_ _=>False }
noncomputable def BE(X:Cx)(bq:T2):Cx:={ X with pn:=X.pn++bq }
section
variable{X:Cx}{bq:T2}{σ:St}{H:Hp}{s:Ub}
def Inv.toH(I:Inv X bq σ H s)(e:Uc):Inv (hCx X e) bq σ H s:=
 ⟨⟨I.ok.mod,I.ok.kind,I.ok.glob,I.ok.blt,I.ok.above,I.ok.inj,I.ok.has,I.ok.cab,λz=>(by cases z),I.ok.frames,I.ok.stk,I.ok.exf,I.ok.bs,I.ok.bsz,I.ok.noex,I.ok.exfs,I.ok.funs,I.ok.frf⟩,I.os,I.bare,I.base,I.loc,I.cell,I.free,I.freeC,I.pin,I.hok,I.len⟩
def Inv.ofH(I:Inv (hCx X e) bq σ H s)(ok:X.Ok):Inv X bq σ H s:=⟨ok,I.os,I.bare,I.base,I.loc,I.cell,I.free,I.freeC,I.pin,I.hok,I.len⟩
def Inv.toP(I:Inv X bq σ H s):Inv (BE X bq) [] σ H s:=
 ⟨⟨I.ok.mod,I.ok.kind,I.ok.glob,I.ok.blt,I.ok.above,I.ok.inj,I.ok.has,I.ok.cab,I.ok.hd,I.ok.frames,I.ok.stk,I.ok.exf,I.ok.bs,I.ok.bsz,I.ok.noex,I.ok.exfs,I.ok.funs,I.ok.frf⟩,I.os,I.bare,I.base,I.loc,I.cell,I.free,I.freeC,λp a=>I.pin p (by rw[D8]at a;exact a),I.hok,I.len⟩
def Inv.ofP(I:Inv (BE X bq) [] σ H s)(ok:X.Ok):Inv X bq σ H s:=⟨ok,I.os,I.bare,I.base,I.loc,I.cell,I.free,I.freeC,λp a=>I.pin p (by rw[D8];exact a),I.hok,I.len⟩
def Inv.track{e:Uc}{a:Obj}(I:Inv X bq σ H s)(d:s.heap.get? e=Z a)(f:a.data=.fields vs)(hn:H e=Y)(r:X.s₀.heap.get? e=Y)(t:∀p∈X.pn++bq,p.1≠e)(g:YX a.cls=true->vs[2]?=Z .none):
 Inv X bq σ (upd H e (.ext (tJ e a.cls a.dict false))) s:=by
 have ne:∀b u,H b=Z u->b≠e:=λb u z=>aN z hn;refine⟨I.ok,I.os,I.bare,⟨I.base.keep,I.base.slot,λb o q n g=>?_,I.base.there,λb xs q=>?_,λb o u q=>?_,λb ps q=>?_⟩,I.loc,I.cell,?_,λx c q=>?_,λp h=>?_,λb u q=>?_,I.len⟩
 .rw[aK (λz=>by rw[z,r]at q;cases q)];exact I.base.free b o q n g
 .have:=I.base.tups b xs q;rw[aK (ne _ _ this)];exact this
 .have:=I.base.frzs b o u q;rw[aK (ne _ _ this)];exact this
 .obtain⟨more,this⟩:=I.base.tbls b ps q;exact⟨more,by rw[aK (ne _ _ this)];exact this⟩
 .obtain⟨m,⟨o,es,ep,i,hd,_⟩,_⟩:=I.loc;rw[aK (kH d f i λj z=>by rw[hd]at z;cases z)];exact I.free
 .obtain⟨v,o,i,hd⟩:=I.cell x c q;rw[aK (kH d f i λj z=>by rw[hd]at z;cases z)];exact I.freeC x c q
 .obtain⟨w,y,A⟩:=I.pin p h;exact⟨w,by rw[aK (t p h)];exact y,A⟩
 .by_cases l:b=e
  .subst l;rw[aS]at q;cases q;exact⟨⟨a,vs,d,rfl,rfl,f,(λz=>by cases z),g⟩,⟨a,d⟩,λD E ⟨o,j,B,C⟩ k=>⟨o,j,k o B,C⟩⟩
  .rw[aK l]at q;exact(I.hok b u q).stay (λ_ _ _ z=>z) (λc z=>by rw[aK (ne _ _ z)];exact z) λc xs z=>by rw[aK (ne _ _ z)];exact z
def sX{i:Nat}{x:Str}{Q:Unit->Ub->Prop}(I:Inv X bq σ H s)(F:X.N.Nodup)(hi:X.N[i]?=Z x)(G:X.env.scope.names.lookup x=Z .local)
 (h:∀s',Inv X bq (σ.set i Y) H s'->Heap.SameBut X.env.locals s.heap s'.heap->Q () s'):bc M A (do bindName X.env x .none;unbindBehindTheSuite X.env x pos) Q E s:=by
 obtain⟨m,hn,J⟩:=id I.loc;have g:(X.env.scope.kind==.class || (X.env.scope.kind==.module&&X.env.locals != X.env.globals))=false:=by rw[I.ok.kind];rfl
 have l:i<σ.length:=by rw[I.len];exact(List.getElem?_eq_some_iff.mp hi).1
 obtain⟨U,_,_,K,_⟩:=id hn;refine wpAny_nameGoes_keeps G hn g λh' v w hs=>h _ ?_ hs;have a:∀b o,X.s₀.heap.get? b=Z o->b≠X.env.locals:=λb o q=>B4<|C2 (A9 q) I.ok.above;refine⟨I.ok,I.os,I.bare,⟨λb o q n B r=>(hs.2 b<|a b o q).trans (I.base.keep b o q n B r),λb o q n B r=>?_,I.base.free,λb o q r=>?_,I.base.tups,I.base.frzs,I.base.tbls⟩,⟨_,w,λj y L f t O=>?_⟩,λy c q=>?_,I.free,I.freeC,λp P=>?_,λb u q=>?_,by simpa using I.len⟩
 .obtain⟨sl,f⟩:=I.base.slot b o q n B r;exact⟨sl,(hs.2 b<|a b o q).trans f⟩
 .obtain⟨o',f⟩:=I.base.there b o q r;exact⟨o',(hs.2 b<|a b o q).trans f⟩
 .have C:j≠i:=λz=>by
   subst z;rw[C3 l]at t;cases t
  rw[B6 (J7 C)]at t;obtain⟨R,S,z⟩:=J j y L f t O;refine⟨R,S,?_⟩;obtain⟨k,e⟩|⟨k,c,e,z⟩:=z
  .have:y≠x:=λe=>C<|CN F f (e▸hi);exact .inl ⟨k,by simp[this,e]⟩
  .exact .inr ⟨k,c,e,z.sameBut hs<|I.cne y c e⟩
 .obtain⟨D,z⟩:=I.cell y c q;exact⟨D,z.sameBut hs<|I.cne y c q⟩
 .obtain⟨e,n,ne,T,d⟩:=I.pin p P;exact⟨(hs.2 p.1 ne).trans e,n,ne,T,d⟩
 .refine(I.hok b u q).stay (λc D hc z=>(hs.2 c ?_).trans z) (λ_ z=>z) λ_ _ z=>z;rintro rfl;obtain rfl|hc:=hc
  .rw[I.free]at q;cases q
  .rw[I.free]at hc;cases hc
structure HR where
 c:Tz
 n:Tg
 t:TS
def unbN:Tg->St->St
 |none,σ=>σ
 |some i,σ=>σ.set i Y
def setN:Tg->St->V->St
 |none,σ,_=>σ
 |some i,σ,v=>σ.set i<|Z v
def aEI(D:Ends)(n:Tg):Ends:={ nx:=λσ H=>D.nx (unbN n σ) H,rt:=D.rt,bk:=λσ H=>D.bk (unbN n σ) H,ct:=λσ H=>D.ct (unbN n σ) H }
def tHs(K:Fg)(D:Ends):Tv HR->St->XK
 |[],_,_,_,_=>False
 |h::r,σ,c,dx,H=>∃b,PySem.W.exmOne K c h.c=Z b/\(if b=true then ∀e,H e=Y->h.t (aEI D h.n) (setN h.n σ (.ref e)) (upd H e (.ext (tJ e c dx false)))else tHs K D r σ c dx H)
def aDx(X:Cx)(hs:Tv ExceptHandler)(rs:Tv HR):Prop:=∀(bq:T2)(D:Ends)(e:Uc)(c:Tz)(dx:Th)(σ:St)(H:Hp)(s:Ub)(B:Heap)(E:T1),X.Ok->Inv (BE X bq) [] σ H s->Kp (BE X bq) H B s.heap->
 Fly B X.stack e c dx (Z .none) s.heap->tHs X.K D rs σ c dx H->bc (bb X.prog X.w) X.A (handleBy (.ref e) X.env hs) (SP X bq D) E s
def aKb:aDx X [] []:=λ_ _ _ _ _ _ _ _ _ _ _ _ _ _ h=>h.elim
def aBl(X:Cx)(x:Str)(c:Tz):Prop:=X.mg x=Z c\/(X.mg x=Y/\bootBuiltins x=Z c/\x≠"__name__")
def aJS{Q:T1}(n:aBl X x c)(I:Inv X bq σ H s)(a:Gl X x)(hd:(x==("__debug__":Str))=false)(h:Q c s):
 bc (bb X.prog X.w) X.A (eval (.Name x pos) X.env) Q E s:=by
 obtain m|⟨m,b,z⟩:=n
 .exact mM I a m h hd
 .exact nI I a m b h z hd
def Fly.fresh{B h:Heap}{st:_}(bd:Body X)(I:Inv X bq σ H s)(k:Kp X H B s.heap)(F:Fly B X.stack e c dx st s.heap):H e=Y/\X.s₀.heap.get? e=Y/\∀p∈X.pn,p.1≠e:=by
 obtain⟨d,vs,a,_,_,f,_⟩:=F.obj;refine⟨?_,?_,λp g z=>?_⟩
 .cases z:H e with
  |none=>rfl
  |some u=>
   have:=k.trk e u d z a;rw[F.new]at this;cases this
 .cases z:X.s₀.heap.get? e with
  |none=>rfl
  |some o=>
   by_cases b:e∈X.fs
   .obtain⟨_,j,i,hn⟩:=I.funs.mem b;exact absurd rfl<|kH a f i hn
   .obtain⟨⟨o',q⟩,_⟩:=k.ent e o z b;rw[F.new]at q;cases q
 .have:=k.pin p g;rw[z,F.new]at this;cases this
def aMQ(X:Cx):Tw Str->Tg->Prop
 |none,none=>True
 |some n,some i=>X.N.Nodup/\X.N[i]?=Z n/\X.env.scope.names.lookup n=Z .local
 |_,_=>False
def aFp{pos:Pos}{l:Stmt}{g:T9}{h:HR}(bd:Body X)(hc:aBl X x h.c)(hg:Gl X x)(hd:(x==("__debug__":Str))=false)
 (hn:aMQ X nm h.n)
 (hS:∀e,PSs (hCx X e) (l::g) h.t) (hR:aDx X hs rs):aDx X (.ExceptHandler (Z (.Name x np)) nm (l::g) pos::hs) (h::rs):=by
 intro bq D e c dx σ H s B E ok I k F y;obtain⟨b,hb,y⟩:=y;have L:Body (BE X bq):=⟨bd.stk,bd.fr,bd.ex⟩;obtain⟨oe,vs,he,M,_,hv,_⟩:=F.obj;have LT:PySem.W.Looks (bb X.prog X.w) s.heap (typeOf (.ref e)) c:=M▸(PySem.W.Looks.ld he).andThen .now;have IH:=(I.ofP ok).toH e;have hA:(hCx X e).A=X.A.mark (Z (.ref e)):=rfl;refine wpAny_handleBy_cons (codeAny_handlers_test<|aJS (X:=hCx X e) hc IH hg hd ?_) (by intro z;cases z);refine(PySem.W.exm_one IH.kIn LT hb).here ?_;cases b with
 |false=>exact hR bq D e c dx σ H s B E ok I k F y
 |true=>
  rw[A4 rfl]at y;have T:Fly B (BE X bq).stack e c dx (Z .none) s.heap:=F
  have go:∀(P:Ub->Prop),(∀s',Inv X bq σ (upd H e (.ext (tJ e c dx false))) s'->P s')->bc (bb X.prog X.w) (X.A.mark<|Z (.ref e)) (setFlight (.ref e) Y) (λ_ s1=>P s1) (notedBy (bb X.prog X.w) (X.A.mark<|Z (.ref e)) X.env λx s'=>cameBackBy (bb X.prog X.w) X.A X.env E x s') s:=λP hP=>by
   refine BW (fo:=Y) T λU F1 u1=>hP _ ?_;obtain⟨o,k1⟩:=I.up L k F1.stays u1;obtain⟨n1,n2,n3⟩:=Fly.fresh (s:={ s with heap:=U }) (h:=U) L o k1 F1;obtain⟨a0,a1,N,C,O,Q,R⟩:=F1.obj;have J:=Inv.track o N Q n1 n2 (λp V=>n3 p (by rw[D8]at V;exact V)) (by rw[C];exact R);rw[C,O]at J;exact J.ofP ok
  have S:H e=Y:=(Fly.fresh (h:=s.heap) L I k T).1;have K:=y e S;cases nm with
  |none=>
   cases j:h.n with
   |some i=>rw[j]at hn;exact False.elim hn
   |none=>
    rw[j]at K;refine codeAny_handlers_suite (go _ λs1 o=>?_);refine E3 (hS e bq s1 σ _ (aEI D Y) (o.toH e) K) (λf s2 z=>?_) λ_ _ z=>z.elim;cases f with
    |next=>obtain⟨a,H',d,q⟩:=z;exact⟨a,H',d.ofH ok,q⟩
    |brk=>obtain⟨a,H',d,q⟩:=z;exact⟨a,H',d.ofH ok,q⟩
    |cont=>obtain⟨a,H',d,q⟩:=z;exact⟨a,H',d.ofH ok,q⟩
    |ret u=>obtain⟨v,a,H',d,r,q⟩:=z;exact⟨v,a,H',d.ofH ok,r,q⟩
  |some n=>
   cases j:h.n with
   |none=>rw[j]at hn;exact False.elim hn
   |some i=>
    rw[j]at hn K;obtain⟨nd,hi,lo⟩:=hn;refine codeAny_handlers_suite_as (go _ λs1 o=>?_);refine rX (X:=X) o nd hi (.inl lo) (v:=.ref e) rfl (λs2 J=>?_) (.inr lo);refine E3 (hS e bq s2 _ _ (aEI D<|Z i) (J.toH e) K) (λf s3 z=>?_) λ_ _ z=>z.elim;show bc _ _ _ (λ_ G=>SP X bq D f G) E s3;cases f with
    |next=>obtain⟨a,H',d,q⟩:=z;exact sX (d.ofH ok) nd hi lo λs4 m _=>⟨_,H',m,q⟩
    |brk=>obtain⟨a,H',d,q⟩:=z;exact sX (d.ofH ok) nd hi lo λs4 m _=>⟨_,H',m,q⟩
    |cont=>obtain⟨a,H',d,q⟩:=z;exact sX (d.ofH ok) nd hi lo λs4 m _=>⟨_,H',m,q⟩
    |ret u=>obtain⟨v,a,H',d,r,q⟩:=z;exact sX (d.ofH ok) nd hi lo λs4 m _=>⟨v,_,H',m,r,q⟩
def aJH(K:Fg)(tb:(St->XK)->TS)(rs:Tv HR):TS:=λD σ H=>tb (tHs K D rs) D σ H
def aKM{b:T9}{h₀:ExceptHandler}{hs:Tv ExceptHandler}{pos:Pos}{tb:(St->XK)->TS}(bd:Body X)
 (n:∀bq EE,PSs ((BE X bq).wish (XS (BE X bq) EE)) b<|tb EE) (o:aDx X (h₀::hs) rs):PS X (.Try b (h₀::hs) [] [] pos) (aJH X.K tb rs):=by
 intro bq s σ H D I h;have i:Body (BE X bq):=⟨bd.stk,bd.fr,bd.ex⟩;refine wpAny_Try_except (E3 (n bq (tHs X.K D rs) [] s σ H D (I.toP.wish _) h) (λf s1 z=>?_) λev s1 z=>?_)
 .cases f with
  |next=>obtain⟨a,H',d,q⟩:=z;exact A0l ⟨a,H',d.unwish.ofP I.ok,q⟩
  |brk=>obtain⟨a,H',d,q⟩:=z;exact⟨a,H',d.unwish.ofP I.ok,q⟩
  |cont=>obtain⟨a,H',d,q⟩:=z;exact⟨a,H',d.unwish.ofP I.ok,q⟩
  |ret u=>obtain⟨v,a,H',d,r,q⟩:=z;exact⟨v,a,H',d.unwish.ofP I.ok,r,q⟩
 .obtain⟨e,c,dx,st,j,p,B,rfl,l,t,F1,k,q⟩:=z;have m:=l.ok.frames;have g:=F1;rw[i.stk]at g m;refine LU m i.fr g k λF F2 w=>BW F2 λG F3 x=>?_;obtain⟨y,A⟩:=l.up i t F2.stays w;obtain⟨C,E⟩:=y.up i A F3.stays x;exact o bq D e c dx j p _ B _ I.ok C E (by rw[bd.stk];exact F3) q
end
structure Exc where
 nm:Str
 fs:Tu
inductive Rs where
 |v (x:CD)|x (e:Exc)
inductive aAF where
 |o (o:Out)|xc (γ:Ga) (e:Exc)
abbrev EX:=Ga->Sto->Option (Rs×Sto)
abbrev AX:=Ga->Sto->Option ((List CD ⊕ Exc)×Sto)
abbrev SFX:=Ga->Sto->Tw (aAF×Sto)
abbrev FX:=T6->Sto->Tw (Rs×Sto)
section
variable(K:Fg)
def ExR(W:Wd)(ex:Exc)(c:Tz)(dx:Th):Prop:=c=.ref (bK K ex.nm)/\YU K W dx ex.fs
def aIW(E:XK)(Q:VK)(W:Wd)(H:Hp):Rs->Prop
 |.v x=>∀v,cK K W x v->Q v H
 |.x ex=>∀c dx,ExR K W ex c dx->E c dx H
def SEX(EE:St->XK)(t:TE)(f:EX):Prop:=∀b M r M',f b M=Z (r,M')->∀(W:Wd)(H:Hp)(a:St)(Q:VK),Good K W M H->cN K W b a->(∀W' H',W.Ext W'->Good K W' M' H'->aIW K (EE a) Q W' H' r)->t a H Q
def aMT(E:XK)(Q:Tc->Hp->Prop)(W:Wd)(H:Hp):T6 ⊕ Exc->Prop
 |.inl xs=>∀vs,bX K W xs vs->Q vs H
 |.inr ex=>∀c dx,ExR K W ex c dx->E c dx H
def SAX(EE:St->XK)(t:TA)(f:AX):Prop:=∀b M r M',f b M=Z (r,M')->∀(W:Wd)(H:Hp)(a:St)(Q:Tc->Hp->Prop),Good K W M H->cN K W b a->(∀W' H',W.Ext W'->Good K W' M' H'->aMT K (EE a) Q W' H' r)->t a H Q
def aKC(EE:St->XK)(D:Ends)(W:Wd)(H:Hp):aAF->Prop
 |.o o=>aEv K D W H o
 |.xc b ex=>∀a c dx,cN K W b a->ExR K W ex c dx->EE a c dx H
def SSX(EE:St->XK)(t:TS)(f:SFX):Prop:=∀a M o M',f a M=Z (o,M')->∀(W:Wd)(H:Hp)(b:St)(D:Ends),Good K W M H->cN K W a b->(∀W' H',W.Ext W'->Good K W' M' H'->aKC K EE D W' H' o)->t D b H
def spX(f:FX):Sp:=λvs H Q E=>∃xs M W r M',Good K W M H/\bX K W xs vs/\f xs M=Z (r,M')/\∀W' H',W.Ext W'->Good K W' M' H'->aIW K E Q W' H' r
end
def liE(f:EF):EX:=λa M=>(f a M).bind λr=>Z (.v r.1,r.2)
def liA(f:AF):AX:=λa M=>(f a M).bind λr=>Z (.inl r.1,r.2)
def liS(f:SF):SFX:=λa M=>(f a M).bind λr=>Z (.o r.1,r.2)
def xCons(f:EX)(g:AX):AX:=λa M=>(f a M).bind λr=>match r.1 with
 |.x e=>Z (.inr e,r.2)
 |.v x=>(g a r.2).bind λq=>match q.1 with
  |.inr e=>Z (.inr e,q.2)
  |.inl xs=>Z (.inl (x::xs),q.2)
def aND(f:EX)(k:CD->Sto->Tw (Rs×Sto)):EX:=λa M=>(f a M).bind λr=>match r.1 with
 |.x e=>Z (.x e,r.2)
 |.v x=>k x r.2
def aIT(f:AX)(k:T6->Sto->Tw (Rs×Sto)):EX:=λa M=>(f a M).bind λr=>match r.1 with
 |.inr e=>Z (.x e,r.2)
 |.inl xs=>k xs r.2
def YO(h:FX)(f:AX):EX:=aIT f h
def tU(f g:SFX):SFX:=λb M=>(f b M).bind λr=>match r.1 with
 |.o (.nx a)=>g a r.2
 |o=>Z (o,r.2)
def PF(f:EX):SFX:=λa M=>(f a M).bind λr=>match r.1 with
 |.x e=>Z (.xc a e,r.2)
 |.v x=>Z (.o (.rt x),r.2)
def aLx(f:EX):SFX:=λa M=>(f a M).bind λr=>match r.1 with
 |.x e=>Z (.xc a e,r.2)
 |.v _=>Z (.o (.nx a),r.2)
def aNC(f:EX)(g:GF):SFX:=λa M=>(f a M).bind λr=>match r.1 with
 |.x e=>Z (.xc a e,r.2)
 |.v x=>(g x a r.2).bind λq=>Z (.o (.nx q.1),q.2)
noncomputable def ZV(c:TF)(f g:SFX):SFX:=λa M=>(c a M).bind λr=>if r.1=true then f a r.2 else g a r.2
def JY(g:GF)(b:SFX):T6->Ga->Sto->Tw (aAF×Sto)
 |[],c,M=>Z (.o (.nx c),M)
 |x::xs,c,M=>(g x c M).bind λr=>(b r.1 r.2).bind λq=>match q.1 with
  |.o (.nx a)=>JY g b xs a q.2
  |.o (.ct a)=>JY g b xs a q.2
  |.o (.bk a)=>Z (.o (.nx a),q.2)
  |.o (.rt x)=>Z (.o (.rt x),q.2)
  |.xc a e=>Z (.xc a e,q.2)
def WZ(f:AF)(g:GF)(b:SFX):SFX:=λa M=>(f a M).bind λr=>JY g b r.1 a r.2
def JK(nm:Str):SFX:=λa M=>Z (.xc a ⟨nm,[]⟩,M)
def fnX(ps N:Nat)(b:SFX):FX:=λxs M=>if xs.length=ps then(b (xs.map Z++List.replicate (N-xs.length) Y) M).bind λr=>match r.1 with
 |.o (.rt x)=>Z (.v x,r.2)
 |.o (.nx _)=>Z (.v (.d .none),r.2)
 |.xc _ e=>Z (.x e,r.2)
 |_=>Y else Y
def aDB:Tg->Ga->Ga
 |none,a=>a
 |some i,a=>a.set i Y
def setG:Tg->Ga->CD->Ga
 |none,a,_=>a
 |some i,a,x=>a.set i<|Z x
def aNU(n:Tg):Out->Out
 |.nx a=>.nx (aDB n a)
 |.bk a=>.bk (aDB n a)
 |.ct a=>.ct (aDB n a)
 |.rt x=>.rt x
structure HMi where
 tab:Tv (Str×Bool)
 n:Tg
 f:SF
def aEA:Tv HMi->Ga->Exc->Sto->Tw (Out×Sto)
 |[],_,_,_=>Y
 |h::r,a,ex,M=>match h.tab.lookup ex.nm with
  |some true=>(h.f (setG h.n a (.c M.length)) (M++[.exc false ex.nm ex.fs])).bind λq=>Z (aNU h.n q.1,q.2)
  |some false=>aEA r a ex M
  |none=>Y
def aCx(b:SFX)(hs:Tv HMi):SF:=λc M=>(b c M).bind λr=>match r.1 with
 |.o o=>Z (o,r.2)
 |.xc a ex=>aEA hs a ex r.2
section
variable{K:Fg}{EE:St->XK}{ta tb:TE}{tA:TA}{t u:TS}{f g:EX}{fa:AX}{p q:SFX}{tt:TT}{ft:TF}{tg:TG}{hg:GF}
def aMm{f:AF}(a:SA K tA f):SAX K EE tA (liA f):=by
 intro j M r M' h W H b Q G R k;obtain⟨⟨x,M1⟩,c,h⟩:=aJ h;cases h;exact a _ _ _ _ c W H b Q G R λv W' H' e d i=>k W' H' e d v i
def aCs{f:SF}(a:SS K t f):SSX K EE t (liS f):=by
 intro i M r M' h W H b D G R k;obtain⟨⟨x,M1⟩,c,h⟩:=aJ h;cases h;exact a _ _ _ _ c W H b D G R λW' H' e d=>k W' H' e d
def aDf{h:FX}(a:SAX K EE tA fa):SEX K EE (aCA (spX K h) EE tA) (YO h fa):=by
 intro v M r M' b W H j Q G R k;obtain⟨⟨x,M1⟩,l,b⟩:=aJ b;refine a _ _ _ _ l W H j _ G R λc m d i=>?_;cases x with
 |inr e=>cases b;exact k c m d i
 |inl xs=>exact λvs rs=>⟨xs,M1,c,r,M',i,rs,b,λn o s G2=>k n o (d.trans s) G2⟩
def aHW(a:SSX K EE t p)(b:SSX K EE u q):SSX K EE (aFW t u) (tU p q):=by
 intro z M o M' c W H n D G R k;obtain⟨⟨x,M1⟩,r,c⟩:=aJ c;refine a _ _ _ _ r W H n _ G R λh i j l=>?_;cases x with
 |xc d e=>cases c;exact k h i j l
 |o x=>
  cases x with
  |nx d=>exact λm s=>b _ _ _ _ c h i m D l s λv w y G2=>k v w (j.trans y) G2
  |bk d=>cases c;exact k h i j l
  |ct d=>cases c;exact k h i j l
  |rt x=>cases c;exact k h i j l
def aHA(a:SEX K EE ta f):SSX K EE (aKL ta) (PF f):=by
 intro r M o M' b W H h D G R k;obtain⟨⟨x,M1⟩,m,b⟩:=aJ b;refine a _ _ _ _ m W H h _ G R λi j d l=>?_;cases x with
 |x e=>cases b;exact λc dx z=>k i j d l h c dx (R.up d) z
 |v x=>cases b;exact λv n=>k i j d l v n
def aKP(c:STt K tt ft)(a:SSX K EE t p)(b:SSX K EE u q):SSX K EE (aLW tt t u) (ZV ft p q):=by
 intro v M o M' d W H h D G R k;obtain⟨⟨x,M1⟩,s,d⟩:=aJ d;refine c _ _ _ _ s W H h _ G R λm n e r=>?_;cases x with
 |true=>rw[A4 rfl];rw[A4 rfl]at d;exact a _ _ _ _ d m n h D r (R.up e) λi j l G2=>k i j (e.trans l) G2
 |false=>rw[A5 A8];rw[A5 A8]at d;exact b _ _ _ _ d m n h D r (R.up e) λi j l G2=>k i j (e.trans l) G2
def aBa:SSX K EE (LV EE<|bK K nm) (JK nm):=by
 intro c M o M' a W H b D G R k;cases a;exact k W H (.refl _) G b _ Y R ⟨rfl,rfl⟩
def aHc{V:TI}(i:SI K V X)(a:SG K tg hg)(b:SSX K EE t p):SSX K EE (aEn V tg t) (WZ X hg p):=by
 intro γ M o M' z W H σ D G R k;obtain⟨⟨xs,M1⟩,h1,z⟩:=aJ z;have z:JY hg p xs γ M1=Z (o,M'):=z;refine i _ _ _ _ h1 W H σ _ G R λJ W1 H1 A G1 gv=>?_;refine⟨λj m l H'=>∃n M2 s,j<=xs.length/\m=xs.length-j/\W1.Ext s/\Good K s M2 H'/\cN K s n l/\JY hg p (xs.drop j) n M2=Z (o,M'),⟨_,γ,M1,W1,E6 _,rfl,.refl _,G1,R.up A,z⟩,?_⟩;rintro j m l H' ⟨n,M2,s,hj,rfl,w,G2,R2,c⟩;obtain⟨N,O⟩:=gv s M2 H' w G2;by_cases v:j<xs.length
 .obtain⟨go,yl⟩:=N j xs[j]<|C4 v;rw[S4 v]at c;refine .inr ⟨go,λB I=>∃r L C,s.Ext C/\Good K C L I/\cN K C r B/\JY hg p (xs.drop (j+1)) r L=Z (o,M'),?_,λy I hy=>?_⟩
  .rintro B I ⟨r,L,C,e3,G3,R3,h3⟩;exact⟨_,by omega,r,L,C,v,rfl,w.trans e3,G3,R3,h3⟩
  .obtain⟨W8,e8,G8,ry⟩:=yl y I hy;obtain⟨⟨a0,M4⟩,h4,c⟩:=aJ (show(hg xs[j] n M2).bind _=_ from c);obtain⟨⟨P,M5⟩,h5,c⟩:=aJ c;refine a _ _ _ _ _ h4 W8 _ l y _ G8 (R2.up e8) ry λQ W4 H4 e4 G4 R4=>?_;refine b _ _ _ _ h5 W4 H4 Q _ G4 R4 λE S e5 F=>?_;have d:=(e8.trans e4).trans e5;cases P with
   |xc h e=>cases c;exact k E S ((A.trans w).trans d) F
   |o P=>
    cases P with
    |nx h=>exact λT U=>⟨h,M5,E,d,F,U,c⟩
    |ct h=>exact λT U=>⟨h,M5,E,d,F,U,c⟩
    |bk h=>cases c;exact k E S ((A.trans w).trans d) F
    |rt x=>cases c;exact k E S ((A.trans w).trans d) F
 .have e:j=xs.length:=by omega
  subst e;rw[Z6]at c;cases c;exact .inl ⟨O,k s H' (A.trans w) G2 l R2⟩
def cN.setN{γ:Ga}{a:St}{n:Tg}{x:CD}{v:V}(R:cN K W γ a)(r:cK K W x v):cN K W (setG n γ x) (setN n a v):=by
 cases n with
 |none=>exact R
 |some i=>exact Paired.set (x:=Z x) (y:=Z v) r i R
def cN.unbN{γ:Ga}{a:St}{n:Tg}(R:cN K W γ a):cN K W (aDB n γ) (unbN n a):=by
 cases n with
 |none=>exact R
 |some i=>exact Paired.set (x:=Y) (y:=Y) True.intro i R
inductive HsM(K:Fg):Tv HR->Tv HMi->Prop
 |nil:HsM K [] []
 |cons {h:HR} {m:HMi} {hs:Tv HR} {ms:Tv HMi} (hn:h.n=m.n) (ht:∀nm b,m.tab.lookup nm=Z b->PySem.W.exmOne K (.ref (bK K nm)) h.c=Z b) (hS:SS K h.t m.f) (r:HsM K hs ms):HsM K (h::hs) (m::ms)
theorem aCa{D:Ends}{W:Wd}{M M':Sto}{H:Hp}{γ:Ga}{v:St}{ex:Exc}{c:Tz}{dx:Th}{o:Out}(G:Good K W M H)(R:cN K W γ v)(E:ExR K W ex c dx):
 ∀{hs:Tv HR}{ms:Tv HMi},HsM K hs ms->aEA ms γ ex M=Z (o,M')->(∀W' H',W.Ext W'->Good K W' M' H'->aEv K D W' H' o)->tHs K D hs v c dx H
 |_,_,.nil=>λh _=>by cases h
 |_,_,@HsM.cons _ h m hs ms hn ht hS r=>λd k=>by
  obtain⟨rfl,w⟩:=E;unfold aEA at d;cases e:m.tab.lookup ex.nm with
  |none=>rw[e]at d;cases d
  |some b=>
   rw[e]at d;refine⟨b,ht _ _ e,?_⟩;cases b with
   |false=>rw[A5 A8];exact aCa G R ⟨rfl,w⟩ r d k
   |true=>
    intro a ha;obtain⟨⟨z,M1⟩,A,d⟩:=aJ d;have s:=d;cases s;have B:Good K (W.more a) (M++[.exc false ex.nm ex.fs]) (upd H a (.ext (tJ a (.ref (bK K ex.nm)) dx false))):=G.new ha ⟨dx,rfl,w⟩;have y:=W.ext_more a;have C:cK K (W.more a) (.c M.length) (.ref a):=⟨by show M.length<W.n+1;rw[G.n];exact F6 _,by show _=V.ref (if M.length=W.n then a else _);rw[A4 G.n.symm]⟩;rw[hn];refine hS _ _ _ _ A (W.more a) _ _ _ B ((R.up y).setN C) λF I J G2=>?_;have l:=k F I (y.trans J) G2;cases z with
    |nx i=>exact λj R2=>l _ R2.unbN
    |bk i=>exact λj R2=>l _ R2.unbN
    |ct i=>exact λj R2=>l _ R2.unbN
    |rt x=>exact l
def aMk{tb:(St->XK)->TS}{rs:Tv HR}{ms:Tv HMi}(b:∀EE,SSX K EE (tb EE) p)(h:HsM K rs ms):SS K (aJH K tb rs) (aCx p ms):=by
 intro z M o M' a W H i D G R k;obtain⟨⟨x,M1⟩,j,a⟩:=aJ a;refine b _ _ _ _ _ j W H i D G R λl m d e=>?_;cases x with
 |o x=>cases a;exact k l m d e
 |xc n ex=>exact λr c dx s E=>aCa e s E h a λv w y G2=>k v w (d.trans y) G2
end
section
variable{ι:Type}
structure MX(K:Fg)(X:ι->Cx)(EE:ι->St->XK)(e:Ud)(f:EX):Prop where
 ex:∃t:ι->TE,(∀i,PE (X i) e<|t i)/\∀i,SEX K (EE i) (t i) f
structure MAX(K:Fg)(X:ι->Cx)(EE:ι->St->XK)(es:T8)(f:AX):Prop where
 ex:∃t:ι->TA,(∀i,PA (X i) es<|t i)/\∀i,SAX K (EE i) (t i) f
 st:QA es
structure MSX(K:Fg)(X:ι->Cx)(EE:ι->St->XK)(st:Stmt)(f:SFX):Prop where
 ex:∃t:ι->TS,(∀i,PS (X i) st<|t i)/\∀i,SSX K (EE i) (t i) f
structure MLX(K:Fg)(X:ι->Cx)(EE:ι->St->XK)(st:T9)(f:SFX):Prop where
 ex:∃t:ι->TS,(∀i,PSs (X i) st<|t i)/\∀i,SSX K (EE i) (t i) f
variable{K:Fg}{X:ι->Cx}{EE:ι->St->XK}{e a b c tg iter:Ud}{es:T8}{f g:EX}{fa:AX}{p q:SFX}{ft:TF}{gf:GF}{st:Stmt}{sts sts':T9}{pos:Pos}
def aLC{f:AF}(x:MA K X es f):MAX K X EE es (liA f):=by
 obtain⟨t,d,h⟩:=x.ex;exact⟨⟨λ_=>t,d,λ_=>aMm h⟩,x.st⟩
def aBM{f:SF}(x:MS K X st f):MSX K X EE st (liS f):=by
 obtain⟨t,d,h⟩:=x.ex;exact⟨λ_=>t,d,λ_=>aCs h⟩
def xW{f:SF}(x:ML K X sts f):MLX K X EE sts (liS f):=by
 obtain⟨t,d,h⟩:=x.ex;exact⟨λ_=>t,d,λ_=>aCs h⟩
def aFv{F:FX}{p:Pos}(ok:∀i,XOk (X i)<|EE i)(C:∀i,BS (X i).prog (X i).w (X i).K (X i).mg (X i).base k x ps (spX K F))(d:∀i,cE k (X i).A)(y:MAX K X EE (e::es) fa)(h:∀i,Gl (X i) x:=by intro _;rfl)(hd:(x==("__debug__":Str))=false:=by decide):
 MX K X EE (.Call (.Name x p) (e::es) [] pos) (YO F fa):=by
 obtain⟨u,j,l⟩:=y.ex;exact⟨_,λi=>aFF (ok i) (C i) (d i) (j i) (h i) hd (y.st.1 _)<|y.st.2.plain _ _,λi=>aDf<|l i⟩
def BP(x:MSX K X EE st p):MLX K X EE [st] p:=by
 obtain⟨t,d,h⟩:=x.ex;exact⟨t,λi=>WI<|d i,h⟩
def kY(x:MSX K X EE st p)(y:MLX K X EE sts q):MLX K X EE (st::sts) (tU p q):=by
 obtain⟨t,d,h⟩:=x.ex;obtain⟨u,j,k⟩:=y.ex;exact⟨_,λi=>vV (d i)<|j i,λi=>aHW (h i)<|k i⟩
def aHL(x:MX K X EE e f):MSX K X EE (.Return (Z e) pos) (PF f):=by
 obtain⟨t,d,h⟩:=x.ex;exact⟨_,λi=>aCl<|d i,λi=>aHA<|h i⟩
def UP(x:MT K X c ft)(y:MLX K X EE sts p)(z:MLX K X EE sts' q):MSX K X EE (.If c sts sts' pos) (ZV ft p q):=by
 obtain⟨t,d,h⟩:=x.ex;obtain⟨u,j,k⟩:=y.ex;obtain⟨v,l,m⟩:=z.ex;exact⟨_,λi=>aIZ (d i) (j i)<|l i,λi=>aKP h (k i)<|m i⟩
def aGg(ok:∀i,XOk (X i)<|EE i)(h:∀i,(X i).calm=true)(x:MI K X tg iter d)(y:MG K X tg gf)(z:MLX K X EE sts p)(hs:∀(env:Env)(x:Tz),bg iter env x=pure x:=by intro _ _;rfl):MSX K X EE (.For tg iter sts [] pos) (WZ d gf p):=by
 obtain⟨t,j,k⟩:=x.ex;obtain⟨u,l,m⟩:=y.ex;obtain⟨v,n,o⟩:=z.ex;exact⟨_,λi=>UB (ok i).own (h i) (j i) (l i) (n i) (hs _),λi=>aHc k m<|o i⟩
def SW{cpos:Pos}(ok:∀i,XOk (X i)<|EE i)(k:∀i,(X i).K=K)(h:∀i,(X i).calm=true)(hm:∀i,(X i).mg x=Z (.ref (bK K x)))(q:PySem.W.excIn K (bK K x) bmV "ValueError.__new__"=true)(j:∀i,Gl (X i) x:=by intro _;rfl)(hd:(x==("__debug__":Str))=false:=by decide):
 MSX K X EE (.Raise (Z (.Call (.Name x d) [] [] cpos)) Y pos) (JK x):=
 ⟨λi=>LV (EE i)<|bK K x,λi=>ZU (ok i) (h i) (hm i) (by grind) (j i) hd,λ_=>aBa⟩
def aNk(X:ι->Cx):ι×T2×(St->XK)->Cx:=λj=>(BE (X j.1) j.2.1).wish (XS (BE (X j.1) j.2.1) j.2.2)
noncomputable def aNT:ι×T2×(St->XK)->St->XK:=λj=>j.2.2
def aOi(X:ι->Cx):ι×Uc->Cx:=λj=>hCx (X j.1) j.2
def aNX(bd:∀i,Body<|X i)(j:ι×T2×(St->XK)):XOk (aNk X j) (aNT (ι:=ι) j):=
 XOk.of (X:=BE (X j.1) j.2.1) ⟨(bd j.1).stk,(bd j.1).fr,(bd j.1).ex⟩ _
structure MH(K:Fg)(X:ι->Cx)(hs:Tv ExceptHandler)(ms:Tv HMi):Prop where
 ex:∃rs,(∀i,aDx (X i) hs rs)/\HsM K rs ms
def aKk:MH K X [] []:=⟨[],λ_=>aKb,.nil⟩
def aFN{l:Pos}{h:Stmt}{d:T9}{tab:Tv (Str×Bool)}{f:SF}(j:Tz)(bd:∀i,Body<|X i)(m:∀i,aBl (X i) x j)
 (hn:∀i,aMQ (X i) nm n)
 (ht:∀p∈tab,PySem.W.exmOne K (.ref (bK K p.1)) j=Z p.2) (hS:ML K (aOi X) (h::d) f) (r:MH K X hs ms) (o:∀i,Gl (X i) x:=by intro _;rfl) (hd:(x==("__debug__":Str))=false:=by decide):
 MH K X (.ExceptHandler (Z (.Name x k)) nm (h::d) l::hs) (⟨tab,n,f⟩::ms):=by
 obtain⟨t,s,u⟩:=hS.ex;obtain⟨rs,v,w⟩:=r.ex;refine⟨⟨j,n,t⟩::rs,λi=>aFp (bd i) (m i) (o i) hd (hn i) (λe=>s (i,e))<|v i,.cons rfl (λnm b z=>?_) u w⟩;exact ht (nm,b)<|J8 z
def aLr{h₀:ExceptHandler}{hs:Tv ExceptHandler}(bd:∀i,Body<|X i)(j:∀i,(X i).K=K)(x:MLX K (aNk X) (aNT (ι:=ι)) sts p)(h:MH K X (h₀::hs) ms):MS K X (.Try sts (h₀::hs) [] [] pos) (aCx p ms):=by
 obtain⟨rs,l,m⟩:=h.ex;obtain⟨t,n,r⟩:=x.ex;refine⟨aJH K (λEE D d H=>∀i bq,t (i,bq,EE) D d H) rs,λi=>?_,aMk (λEE=>?_) m⟩
 .have:=aKM (tb:=λEE D d H=>∀i bq,t (i,bq,EE) D d H) (pos:=pos) (bd i) (λbq EE ps s d H D I h=>n (i,bq,EE) ps s d H D I<|h i bq)<|l i;rw[j i]at this;exact this
 .exact λu M o M' v W H d D G R k i bq=>r (i,bq,EE) u M o M' v W H d D G R k
section
variable{P:Ue}{w:World}{K:Fg}{mg:Str->Tf}{base:Heap}
abbrev aHY(P:Ue)(w:World)(K:Fg)(mg:Str->Tf)(base:Heap)(N:Tb)(x:Str)(st:Stmt)(f:Uc)(cdv:Tz)(A:Uf)(outer:Tv Env)(s:Ub)(H:Hp)(E:XK):Unit->Cx:=λ_=>
 (mZ (CX1 P w) P w K mg base N x (aI st) f cdv A outer s H E).wish (XS (mZ (CX1 P w) P w K mg base N x (aI st) f cdv A outer s H E) λ_=>E)
def PB{st:Stmt}{f:Uc}(i:Unit):XOk (aHY P w K mg base N x st f cdv A outer s H E i) ((λ_ _=>E:Unit->St->XK) i):=XOk.of VZ _
def Fun.okXF{x qual:Str}{st:Stmt}{N ps:Tb}{k:Nat}{b:SFX}{f:Uc}{fd:FuncData}(Fu:Fun K x qual st f fd)(S:aU N ps (aI st))
 (i:∀(f:Uc)(cdv:Tz)(A:Uf)(outer:Tv Env)(s:Ub)(H:Hp)(E:XK),cE k (A.deeper<|envOfC qual (aI st) s.heap.objs.size f cdv)->
  MLX K (aHY P w K mg base N qual st f cdv A outer s H E) (λ_ _=>E) (bU st) b):jH P w K mg base (CX1 P w) (k+1) f fd ps (spX K (fnX ps.length N.length b)):=by
 obtain⟨oc,od,kV,doc,pm,an,cdv,ct,osl,rfl,F,l⟩:=Fu.ex
 have len:∀vs H Q E,spX K (fnX ps.length N.length b) vs H Q E->vs.length=ps.length:=λvs H Q E h=>by
  obtain⟨xs,M,W,y,M',G,R,d,_⟩:=h;by_cases j:xs.length=ps.length
  .rw[<- Paired.len R];exact j
  .unfold fnX at d;rw[A5 j]at d;cases d
 refine aLo F l S len λA outer s H vs Q E I h=>?_;obtain⟨t,J,L⟩:=(i f cdv A outer s H E I).ex;refine⟨t (),J (),?_⟩;obtain⟨xs,M,W,r,M',G,R,d,m⟩:=h
 have j:xs.length=ps.length:=by
  by_cases j:xs.length=ps.length
  .exact j
  .unfold fnX at d;rw[A5 j]at d;cases d
 unfold fnX at d;rw[A4 j]at d;obtain⟨⟨o,M1⟩,O,d⟩:=aJ d
 have T:cN K W (xs.map Z++List.replicate (N.length-xs.length) Y) (start N vs):=by
  unfold start;rw[<- Paired.len R];exact Paired.app (bX.some R)<|sP _
 refine L () _ _ _ _ O W H _ _ G T λn u B C=>?_;cases o with
 |xc D e=>cases d;exact λU c dx _ z=>m n u B C c dx z
 |o o=>
  cases o with
  |rt x=>cases d;exact λv r=>m n u B C v r
  |nx D=>cases d;exact λU r=>m n u B C .non rfl
  |bk D=>cases d
  |ct D=>cases d
def Def.okX{st:Stmt}{ps:Tb}{b:SFX}(D:Def K mg x st)(S:aU N ps (aI st))
 (h:∀(kV doc pm:Tz)(an:Th)(cdv ct:Tz)(us:T5),us.length=ps.length->bindArgs (PySem.W.fnOf x x (eE st) (bU st) (aI st) .none kV doc pm an cdv ct) ⟨us,[]⟩=pure (ps.zip us))
 (d:∀(f:Uc)(cdv:Tz)(A:Uf)(outer:Tv Env)(s:Ub)(H:Hp)(E:XK),cE k (A.deeper<|envOfC x (aI st) s.heap.objs.size f cdv)->
  MLX K (aHY P w K mg base N x st f cdv A outer s H E) (λ_ _=>E) (bU st) b):BS P w K mg base (k+1) x ps (spX K (fnX ps.length N.length b)):=by
 obtain⟨f,fd,Fu,m⟩:=D.ex;exact⟨f,fd,Fu.okXF S d,m,Fu.kp,Fu.binds h⟩
end
end
structure XC(K:Fg)(C:Uc):Prop where
 c:aOv K C
 ha:PySem.W.findIn K (.ref C) "__class__"=Z (Z (.builtin "object.__class__"))
 hn:PySem.W.specialIn K (.builtin "object.__class__") "__get__"=Z (Z (.builtin "getset_descriptor.__get__"))
 htk:PySem.W.takesIn K (.builtin "object.__class__")=Z true
 hm:PySem.W.mroIn K C (.type "object")=Z true
section
variable{X:Cx}{K:Fg}
def aNM(tab:Tv (Str×Bool))(nn:Tw Bool)(f:EF):EF:=λa M=>(f a M).bind λr=>match r.1 with
 |.c i=>(match r.2[i]? with
  |some (.exc _ nm _)=>(tab.lookup nm).bind λb=>Z (.d (.bool b),r.2)
  |_=>Y)
 |.d .none=>nn.bind λb=>Z (.d (.bool b),r.2)
 |_=>Y
def Good.excAt{i:Nat}(G:Good K W M H)(h:M[i]?=Z (.exc fr nm fs)):∃dx,H (W.α i)=Z (.ext (tJ (W.α i) (.ref (bK K nm)) dx fr))/\YU K W dx fs:=by
 obtain⟨_,o,b,a⟩:=G.cs i _ h (by simp);cases o with
 |ext c=>
  obtain⟨dx,rfl,r⟩:=a;exact⟨dx,b,r⟩
 |_=>exact False.elim a
end
def aKO(h:FX)(f:AF):EF:=λa M=>(f a M).bind λr=>(h r.1 r.2).bind λq=>match q.1 with
 |.v x=>Z (x,q.2)
 |.x _=>Y
noncomputable def noX:St->XK:=λ_ _ _ _=>False
section
variable{K:Fg}{cv:Tz}{a:Str}{b:Bool}{l:Tv (Str×Bool)}
def aCH:∀p∈([]:Tv (Str×Bool)),PySem.W.exmOne K (.ref (bK K p.1)) cv=Z p.2:=λ_ h=>absurd h (by simp)
def ID(h:PySem.W.exmOne K (.ref (bK K a)) cv=Z b)(r:∀p∈l,PySem.W.exmOne K (.ref (bK K p.1)) cv=Z p.2):∀p∈(a,b)::l,PySem.W.exmOne K (.ref (bK K p.1)) cv=Z p.2:=by grind
def jW(h:PySem.W.nsIn K bh nm=Z (Z (.ref C))):bK K nm=C:=by unfold bK;rw[h]
end
mutual
noncomputable def snap:Nat->Sto->CD->Tw Ua
 |_,_,.d x=>Z x
 |0,_,.c _=>Y
 |n+1,M,.c i=>match M[i]? with
  |some (.lst xs)=>(sM n M xs).bind λa=>Z (.list a)
  |_=>Y
 |_,_,.f _=>Y
 |_,_,.g _=>Y
 |0,_,.t _=>Y
 |n+1,M,.t xs=>(sM n M<|xs.map cdA).bind λa=>Z (.tuple a)
noncomputable def sM:Nat->Sto->T6->Tw (T4)
 |_,_,[]=>Z []
 |n,M,x::xs=>(snap n M x).bind λd=>(sM n M xs).bind λa=>Z (d::a)
end
section
variable{K:Fg}{W:Wd}{M:Sto}{H:Hp}
def Good.lstAt'(G:Good K W M H){i:Nat}(h:M[i]?=Z (.lst xs)):∃vs,H (W.α i)=Z (.lst vs)/\bX K W xs vs:=by
 obtain⟨_,o,b,a⟩:=G.cs i _ h (by intro z;cases z);cases o with
 |lst vs=>exact⟨vs,b,a⟩
 |_=>exact False.elim a
mutual
theorem CS(G:Good K W M H):∀(n:Nat)(x:CD)(d:Ua)(v:V),snap n M x=Z d->cK K W x v->Rep K H d v
 |0,.d x=>λd v h r=>by unfold snap at h;cases h;exact Rep.same G.fh _ _ r
 |n+1,.d x=>λd v h r=>by unfold snap at h;cases h;exact Rep.same G.fh _ _ r
 |0,.c i=>λd v h r=>by unfold snap at h;cases h
 |n+1,.c i=>λd v h r=>by
  unfold snap at h;cases e:M[i]? with
  |none=>rw[e]at h;cases h
  |some c=>
   rw[e]at h;cases c with
   |lst xs=>
    obtain⟨b,j,h⟩:=aJ (show(sM n M xs).bind _=_ from h);cases h;obtain⟨vs,k,m⟩:=G.lstAt' e;exact⟨W.α i,vs,r.2,SqL.of k,zF G n xs b vs j m⟩
   |_=>cases h
 |0,.f xs=>λd v h r=>by unfold snap at h;cases h
 |n+1,.f xs=>λd v h r=>by unfold snap at h;cases h
 |0,.g xs=>λd v h r=>by unfold snap at h;cases h
 |n+1,.g xs=>λd v h r=>by unfold snap at h;cases h
 |0,.t xs=>λd v h r=>by unfold snap at h;cases h
 |n+1,.t xs=>λd v h r=>by
  unfold snap at h;obtain⟨b,j,h⟩:=aJ h;cases h;obtain⟨a,vs,rfl,k,m⟩:=r;exact⟨a,vs,rfl,SqT.of<|G.fh _ _ k,zF G n _ b vs j<|XR m⟩
theorem zF(G:Good K W M H):∀(n:Nat)(xs:T6)(b:T4)(vs:Tc),sM n M xs=Z b->bX K W xs vs->aM K H b vs
 |_,[]=>λb vs h r=>by
  unfold sM at h;cases h;cases r;rfl
 |n,x::xs=>λb vs h r=>by
  unfold sM at h;obtain⟨d,j,h⟩:=aJ h;obtain⟨es,k,h⟩:=aJ h;cases h;cases r with
  |@cons _ v _ l o p=>exact⟨v,l,rfl,CS G n x d v j o,zF G n xs es l k p⟩
end
end
def aBP:snap n M (.d x)=Z x:=by cases n<;>simp only[snap]
open PySem PySem.Spec PyProof.Rows PySem.Builtin PySem.Builtin.ObjectAttr
def aER:T5->Bool
 |.ref _::r=>aER r
 |l=>l==bmV
theorem ES(self:Tz):∀{l:T5},aER l=true->refuseLoop self "__setattr__" l=pure ()/\l.contains (.type "object")=true/\l.isEmpty=false
 |[]=>λe=>absurd e (by decide)
 |.ref c::r=>λe=>by
  obtain⟨a,d,_⟩:=ES self (l:=r) e;exact⟨by rw[refuseLoop_ref];exact a,by rw[List.contains_cons,d,Bool.or_true],rfl⟩
 |.none::r=>λe=>absurd (beq_iff_eq.mp (show((.none::r:T5)==bmV)=true from e)) (by intro z;cases z)
 |.bool b::r=>λe=>absurd (beq_iff_eq.mp (show((.bool b::r:T5)==bmV)=true from e)) (by intro z;cases z)
 |.int b t::r=>λe=>absurd (beq_iff_eq.mp (show((.int b t::r:T5)==bmV)=true from e)) (by intro z;cases z)
 |.type n::r=>λe=>by
  have q:(.type n::r:T5)=bmV:=beq_iff_eq.mp (show((.type n::r:T5)==bmV)=true from e);rw[q];exact⟨F.store_ValueError.passes self,by decide,rfl⟩
 |v::r=>λe=>by
  cases v with
  |ref c=>
   obtain⟨a,d,_⟩:=ES self (l:=r) e;exact⟨by rw[refuseLoop_ref];exact a,by rw[List.contains_cons,d,Bool.or_true],rfl⟩
  |type n=>
   have q:(.type n::r:T5)=bmV:=beq_iff_eq.mp (show((.type n::r:T5)==bmV)=true from e);rw[q];exact⟨F.store_ValueError.passes self,by decide,rfl⟩
  |_=>exact absurd (beq_iff_eq.mp e) (by intro z;cases z)
def aBU(K:Fg)(C:Uc):Bool:=(PySem.W.clsIn K C).any λa=>aER a.mro
section
variable{prog:Ue}{w:World}{A:Uf}{E:T1}{s:Ub}{K:Fg}{x C:Uc}{ox:Obj}{name:Str}{v:Tz}
def aHn{Q:Unit->Ub->Prop}(X:K.In s.heap)(I:PySem.W.InstAt s.heap x ox C Y)(u:ox.data=.fields vs)(hs:PySem.W.findIn K (.ref C) "__setattr__"=Z (Z (.builtin "object.__setattr__")))(M:aBU K C=true)(ht:PySem.W.takerIn K C name=Z Y)(N:PySem.W.hasDictIn K C=true)
 (h:∀h',h'.get? x=Z { ox with dict:=Z s.heap.objs.size }->h'.Ns1 s.heap.objs.size (λy=>if y=name then Z v else Y)->(∀b o,b≠x->s.heap.get? b=Z o->h'.get? b=Z o)->Q () { s with heap:=h',toks:=s.toks+2 }):
 bc (bb prog w) A (setAttr (.ref x) name v) Q E s:=by
 refine PySem.W.set_plain X I hs ?_;have SF:=F.store_object;obtain⟨O,B,P⟩:=PySem.W.any_some M;obtain⟨R,S,T⟩:=ES (.ref x) P;have sub:PySem.W.Looks (bb prog w) s.heap (isInstance (.ref x) (.type "object")) true:=I.type.andThen<|PySem.W.looks_mroIn X (by unfold PySem.W.mroIn;rw[B,A2,A5 (by rw[T];decide),S]);refine codeAny_call_builtin SF.slot.plain SF.entry<|@PySem.W.check_slot (bb prog w) _ _ { s with toks:=s.toks+1 } "object.__setattr__" "object" "__setattr__" (.ref x) [.str name s.toks,v] [] _ SF.kind SF.split sub (SF.args (.ref x) (.str name s.toks) v) ?_;obtain⟨c,ha,D⟩:=Option.bind_eq_some_iff.mp ht;have hm:PySem.W.Looks (bb prog w) s.heap (mroOf (.ref C)) O.mro:=(PySem.W.looks_clsIn X B).andThen .now
 have U:PySem.W.Looks (bb prog w) s.heap (storeTaker? c) Y:=by
  cases c with
  |none=>cases D;exact .now
  |some a=>
   obtain⟨b,j,e⟩:=Option.map_eq_some_iff.mp D;refine(PySem.W.looks_takesIn X j).andThen ?_;cases b
   .exact .now
   .cases e
 rw[PySem.W.osa_eq,refuse_eq];have k0:∀b o,s.heap.get? b=Z o->({ s with toks:=s.toks+1 }:Ub).heap.get? b=Z o:=λ_ _ z=>z;refine A0<|A0<|S1 (s:={ s with toks:=s.toks+1 }) I.type<|A0<|S1 (s:={ s with toks:=s.toks+1 }) hm ?_;rw[R];refine A6<|A0<|S1 (s:={ s with toks:=s.toks+1 }) I.type<|A0<|S1 (s:={ s with toks:=s.toks+1 }) (PySem.W.looks_findIn X ha)<|A0<|S1 (s:={ s with toks:=s.toks+1 }) U ?_;obtain⟨V,k,l⟩:=PySem.W.any_some N
 have G:ox.dict=Y:=by
  have:=I.dict;cases q:ox.dict with
  |none=>rfl
  |some d=>rw[q]at this;exact this.elim
 have m:=I.at_;have f:=I.cls;obtain⟨oc,a0,a1,osl⟩:=ox;dsimp only at f G u;subst f G u;refine A0<|A6<|A0<|A0<|wpAny_loadPart m<|A0<|S1 (s:={ s with toks:=s.toks+1 }) (PySem.W.looks_clsIn X k) ?_;rw[l];rw[A5 (by decide)];show bc _ _ (if (!true || !typeHasDict (.ref C))=true then pure Y else _) _ _ _;rw[A5 (by simp[typeHasDict])];have J:(s.heap.push { cls:=.type "dict",data:=.dict #[] }).get? x=Z ⟨.ref C,Y,.fields vs,osl⟩:=A3 _ m;have xs:x≠s.heap.objs.size:=B4<|A9 m;refine A0<|wpAny_alloc' ?_;refine A0<|wpAny_update' J ?_;refine A6 ?_;generalize n:(s.heap.push { cls:=.type "dict",data:=.dict #[] }).update x (λo=>{ cls:=o.cls,dict:=Z s.heap.objs.size,data:=o.data,slots:=o.slots })=L
 have gd:L.get? s.heap.objs.size=Z { cls:=.type "dict",data:=.dict #[] }:=by
  rw[<- n];exact(E7 _ _ xs).trans (B3 s.heap rfl)
 have gn:L.Ns s.heap.objs.size (λ_=>Y):=⟨_,#[],_,gd,rfl,λe he=>absurd he (by simp),λ_=>rfl⟩;show bc _ _ (storeInDict s.heap.objs.size (.str name s.toks) name v) _ _ _;unfold storeInDict newKeyGuard;refine A0<|A6<|A0 (wpAny_nsSet1 (Heap.Ns1.of_empty gn) λh' g i=>?_);obtain⟨oD,a2,a3,p,r,t⟩:=g.count<|PySem.Within.cons name v PySem.Within.nil;refine A0<|wpAny_lookBehind p (by rw[r];exact pastItsLine_dict<|C6 t (by rw[C0,A0a,E4];omega)) ?_;refine A6 ?_;refine h h' ?_ g λb o j q=>?_
 .rw[i.2 x xs,<- n];exact F9 _ J rfl
 .rw[i.2 b (B4<|A9 q),<- n,E7 _ _<|J7 j];exact A3 _ q
end
end L2
namespace L2
variable{H:Hp}{W:Wd}{M:Sto}
open PySem PySem.Spec PyProof.Rows
def KD(K:Fg)(C:Uc):Bool:=match K.lookup C with
 |some ⟨.type "type",_,.cls a,sl⟩=>(match a.mro,sl.toList with
  |.ref b::bm,[_,_,_,_,some (.builtin n),_]=>b==C&&n=="ValueError.__new__"&&!a.hasDel&&PySem.W.tailIn K bmV bm
  |_,_=>false)
 |_=>false
def DV{K:Fg}(X:K.In h)(q:KD K C=true):
 ∃bm N nm a bs hd sn sub ab col dd k0 k1 k2 k3 k5,h.get? C=Z (excClassObj nm a C N bs bm hd sn sub ab col dd k0 k1 k2 k3 k5 "ValueError.__new__")/\OwnTail h bmV bm:=by
 unfold KD at q;split at q
 case h_2=>cases q
 case h_1 dd b sl c=>
  split at q
  case h_2=>cases q
  case h_1 k bm k0 k1 k2 k3 n k5 hm hs=>
   simp only[Bool.and_eq_true,beq_iff_eq,Bool.not_eq_true']at q;obtain⟨⟨⟨d,e⟩,f⟩,g⟩:=q;subst d e;cases b with
   |mk nm bs i ns a hd sn sub ab col j=>
    cases hm;cases f
    have es:sl=#[k0,k1,k2,k3,Z (.builtin "ValueError.__new__"),k5]:=by
     cases sl with
     |mk l=>exact U3 Array.mk hs
    cases es;exact⟨bm,ns,nm,a,bs,hd,sn,sub,ab,col,dd,k0,k1,k2,k3,k5,X _ _ c,PySem.W.tail_of_in X g⟩
section
variable{prog:Ue}{w:World}{A:Uf}{E:T1}{K:Fg}{C f:Uc}
def aFZ{g:Array GenState}{d:Drawn}{t:Nat}{os:OsState}{us:T5}{Q:Fin->Ub->Prop}(X:K.In h)(q:KD K C=true)(hi:PySem.W.findIn K (.ref C) "__init__"=Z (Z (.ref f)))(j:PySem.W.typeIn K (.ref f)=Z (.type "function"))(k:us.length<=ba)
 (l:∀h' e,Heap.MadeExcOf h h' e (.ref C) us->bc (bb prog w) A (call (.ref f) (.ref e::us)) (λr s'=>r=.none/\Q (.done (.ret (.ref e))) s') E ⟨h',g,d,t,os⟩):
 bc (bb prog w) A (Builtin.«type.__call__» ⟨.ref C::us,[]⟩) Q E ⟨h,g,d,t,os⟩:=by
 obtain⟨bm,N,nm,s,bs,hd,u,sub,v,m,x,y,B,D,G,I,a,T⟩:=DV X q;have F:=PySem.F.excBase_ValueError
 repeat (first|(with_reducible refine wpAny_loadPart_at a ?_)|(with_reducible refine wpAny_madeBy_exc a ?_)|wp_step)
 refine codeAny_call_builtin_code (Code.quiet_builtin _ F.quiet)<|wpAny_check_new_subT F T a<|codeAny_exc_new_subT F T a ?_ k;show bc _ _ _ _ _ _;have kp:∀b o,h.get? b=Z o->((h.push { cls:=.type "tuple",data:=.seq us.toArray }).push { cls:=.ref C,data:=.fields #[.ref h.objs.size,.none,.none,.none,.bool false,.none] }).get? b=Z o:=λb o z=>A3 _<|A3 _ z
 have i:((h.push { cls:=.type "tuple",data:=.seq us.toArray }).push { cls:=.ref C,data:=.fields #[.ref h.objs.size,.none,.none,.none,.bool false,.none] }).get? (h.objs.size+1)=Z { cls:=.ref C,data:=.fields #[.ref h.objs.size,.none,.none,.none,.bool false,.none] }:=by
  have:=B3 (h.push { cls:=.type "tuple",data:=.seq us.toArray }) (o:={ cls:=.ref C,data:=.fields #[.ref h.objs.size,.none,.none,.none,.bool false,.none] }) rfl
  rwa [S5]at this
 have ht:((h.push { cls:=.type "tuple",data:=.seq us.toArray }).push { cls:=.ref C,data:=.fields #[.ref h.objs.size,.none,.none,.none,.bool false,.none] }).get? h.objs.size=Z { cls:=.type "tuple",data:=.seq us.toArray }:=A3 _<|B3 h rfl;have n:(Value.ref C::bm).contains (.ref C)=true:=by simp
 have c:=kp _ _ a;have p:=PySem.W.looks_findIn (M:=bb prog w) (X.keeps kp) hi;have L2:=PySem.W.bind_fn (M:=bb prog w) (X.keeps kp) (.ref (h.objs.size+1)) j;unfold isInstance
 repeat (first|(with_reducible refine wpAny_loadPart_at i ?_)|(with_reducible refine wpAny_isSubtype_exc c ?_;rw[n])|wp_step)
 show bc _ _ (typeLookup (.ref C) _) _ _ _;refine p.at ?_;refine F5<|A0<|L2.at ?_;refine A0 (E3 (l _ (h.objs.size+1) ⟨kp,U2<|Z8 _,h.objs.size,i,U2<|A7 _,ht⟩) (λr s' z=>?_) λ_ _ z=>z);obtain⟨rfl,z⟩:=z
 wp_walk
 exact z
def aAy{s:Ub}{us:T5}{Q:T1}(X:K.In s.heap)(q:KD K C=true)(hi:PySem.W.findIn K (.ref C) "__init__"=Z (Z (.ref f)))(b:PySem.W.typeIn K (.ref f)=Z (.type "function"))(c:us.length<=ba)
 (i:∀h' e,Heap.MadeExcOf s.heap h' e (.ref C) us->bc (bb prog w) (A.under (.builtin "type.__call__" ⟨.ref C::us,[]⟩)) (call (.ref f) (.ref e::us)) (λr s'=>r=.none/\Q (.ref e) s') E { s with heap:=h' }):
 bc (bb prog w) A (call (.ref C) us) Q E s:=by
 obtain⟨bm,N,nm,k,bs,hd,l,sub,m,j,n,o,p,u,v,x,a,T⟩:=DV X q;obtain⟨h,g,d,t,os⟩:=s;have f1:=tc_lookup;have f2:=tc_bind (.ref C);have hT:(⟨h,g,d,t,os⟩:Ub).TypeIs (.ref C) "type":=⟨_,a,rfl⟩;refine wpAny_call<|codeAny_of_tree ?_;show bc _ _ (callAny (.ref C) ⟨us,[]⟩) _ _ _
 repeat (any_goals (first|assumption|(with_reducible refine wpAny_loadPart_at a ?_)|wp_step))
 refine⟨rfl,?_⟩;refine codeAny_call_builtin_at (Code.quiet_builtin _ (by decide +kernel)) entry_typeCall<|wpAny_check_type_call_sub a (aFZ (f:=f) X q hi b c λh' e mk=>?_);exact i h' e mk
end
def unt(H:Hp)(e:Uc):Hp:=λb=>if b=e then Y else H b
def kU{a b:Uc}(h:b≠a):unt H a b=H b:=by unfold unt;rw[A5 h]
def EK:unt H a a=Y:=by unfold unt;rw[A4 rfl]
section
variable{X:Cx}{bq:T2}{σ:St}{H:Hp}{s:Ub}
def Inv.untrack(I:Inv X bq σ H s)(d:H e=Z (.ext a)):Inv X bq σ (unt H e) s:=by
 have up:∀b,H b=Y->unt H e b=Y:=λb q=>by
  by_cases z:b=e
  .rw[z,EK]
  .rw[kU z];exact q
 have ne:∀b u,H b=Z u->(∀f,u≠.ext f)->b≠e:=λb u q n z=>by
  rw[z,d]at q;cases q;exact n a rfl
 refine⟨I.ok,I.os,I.bare,⟨I.base.keep,I.base.slot,λb o q n g=>up b<|I.base.free b o q n g,I.base.there,λb xs q=>?_,λb o u q=>?_,λb ps q=>?_⟩,I.loc,I.cell,up _ I.free,λx c q=>up _<|I.freeC x c q,λp h=>?_,λb u q=>?_,I.len⟩
 .have:=I.base.tups b xs q;rw[kU (ne _ _ this λ_ z=>by cases z)];exact this
 .have:=I.base.frzs b o u q;rw[kU (ne _ _ this λ_ z=>by cases z)];exact this
 .obtain⟨more,this⟩:=I.base.tbls b ps q;exact⟨more,by rw[kU (ne _ _ this λ_ z=>by cases z)];exact this⟩
 .obtain⟨i,j,k⟩:=I.pin p h;exact⟨i,up _ j,k⟩
 .have l:b≠e:=λz=>by rw[z,EK]at q;cases q
  rw[kU l]at q;exact(I.hok b u q).stay (λ_ _ _ z=>z) (λc z=>by rw[kU (ne _ _ z λ_ w=>by cases w)];exact z) λc xs z=>by rw[kU (ne _ _ z λ_ w=>by cases w)];exact z
structure aEe(K:Fg)(C:Uc)(f:Str):Prop where
 sa:PySem.W.findIn K (.ref C) "__setattr__"=Z (Z (.builtin "object.__setattr__"))
 ov:aBU K C=true
 tk:PySem.W.takerIn K C f=Z Y
 hd:PySem.W.hasDictIn K C=true
 na:PySem.W.findIn K (.ref C) f=Z Y
def aHM{f:Str}{Q:Unit->Ub->Prop}(I:Inv X bq σ H s)(e:H a=Z (.ext (tJ a (.ref C) Y true)))(c:aEe X.K C f)(D:RelV y u)
 (h:∀d s',H d=Y->d≠a->Inv X bq σ (upd (upd H d (.xd [(f,y)])) a (.ext (tJ a (.ref C) (Z d) true))) s'->Q () s'):bc (bb X.prog X.w) A (setAttr (.ref a) f u) Q E s:=by
 obtain⟨⟨o,vs,x,B,F,l,m⟩,_⟩:=I.hok a _ e;obtain⟨m,G⟩:=m
 have J:PySem.W.notCls o=true:=by
  obtain⟨_,_,dt,_⟩:=o;cases l;rfl
 have hn:H s.heap.objs.size=Y:=I.hok.fresh<|A7 _;have p:s.heap.objs.size≠a:=E9<|A9 x;refine aHn I.kIn ⟨x,B,J,by rw[F];exact True.intro⟩ l c.sa c.ov c.tk c.hd λh' q L j=>h s.heap.objs.size _ hn p ?_;have i:∀b w,H b=Z w->b≠s.heap.objs.size:=λb w z=>aN z hn;refine I.un (t':=s.toks+2) ⟨λb ob z n _ _=>?_,λb ob z n _ _=>?_,λb ob z n _=>?_,λb ob z _=>?_,λb xs z=>?_,λb ob w z=>?_,λb ps z=>?_⟩ λb w z=>?_
 .exact j b ob (λw=>by rw[w,e]at n;cases n) z
 .exact⟨ob.slots,j b ob (λw=>by rw[w,e]at n;cases n) z⟩
 .rw[aK (λw=>by rw[w,e]at n;cases n),aK<|B4<|A9 z];exact n
 .by_cases w:b=a
  .rw[w];exact⟨_,q⟩
  .exact⟨ob,j b ob w z⟩
 .rw[aK (zM z e (by intro w;cases w)),aK<|i _ _ z];exact z
 .rw[aK (zM z e (by intro w;cases w)),aK<|i _ _ z];exact z
 .exact⟨#[],by rw[aK (zM z e (by intro w;cases w)),aK<|i _ _ z,z];simp⟩
 .by_cases t:b=a
  .subst t;rw[aS]at z;cases z;exact⟨⟨_,vs,q,B,rfl,l,m,G⟩,⟨_,q⟩,λS T ⟨o',N,O,P⟩ R=>⟨o',N,R o' O,P⟩⟩
  .rw[aK t]at z;by_cases hd:b=s.heap.objs.size
   .subst hd;rw[aS]at z;cases z;refine⟨_,L,λg=>?_⟩;show zI (List.lookup g [(f,y)]) (if g=f then Z u else Y);by_cases k:g=f
    .rw[A4 k,k,D6,Y8];exact D
    .rw[A5 k,D6,beq_eq_false_iff_ne.mpr k];exact True.intro
   .rw[aK hd]at z;refine(I.hok b w z).stay (λc v hc r=>j c v ?_ r) (λc r=>?_) λc xs r=>?_
    .obtain rfl|hc:=hc
     .exact t
     .exact zM hc e (by intro w;cases w)
    .rw[aK (zM r e (by intro w;cases w)),aK<|i _ _ r];exact r
    .rw[aK (zM r e (by intro w;cases w)),aK<|i _ _ r];exact r
def Inv.newX(I:Inv X bq σ H s)(mk:Heap.MadeExcOf s.heap h' e (.ref C) us):H e=Y/\Inv X bq σ (upd H e (.ext (tJ e (.ref C) Y true))) { s with heap:=h' }:=by
 have hn:H e=Y:=by
  cases z:H e with
  |none=>rfl
  |some u=>
   obtain⟨o,a⟩:=(I.hok e u z).there;rw[mk.new]at a;cases a
 obtain⟨t,d,_,_⟩:=mk.there;refine⟨hn,I.un (t':=s.toks) ⟨λb o q _ _ _=>mk.keeps b o q,λb o q _ _ _=>⟨o.slots,mk.keeps b o q⟩,λb o q n _=>?_,λb o q _=>⟨o,mk.keeps b o q⟩,λb xs q=>?_,λb o u q=>?_,λb ps q=>?_⟩ λb u q=>?_⟩
 .rw[aK (λz=>by rw[z,mk.new]at q;cases q)];exact n
 .rw[aK (aN q hn)];exact q
 .rw[aK (aN q hn)];exact q
 .exact⟨#[],by rw[aK (aN q hn),q];simp⟩
 .by_cases f:b=e
  .subst f;rw[aS]at q;cases q;exact⟨⟨_,_,d,rfl,rfl,rfl,λ_=>⟨by show 4<6;decide,rfl,rfl⟩,λ_=>rfl⟩,⟨_,d⟩,λk l ⟨o',g,h,i⟩ j=>⟨o',g,j o' h,i⟩⟩
  .rw[aK f]at q;exact(I.hok b u q).stay (λc v _ r=>mk.keeps c v r) (λc r=>by rw[aK (aN r hn)];exact r) λc xs r=>by rw[aK (aN r hn)];exact r
end
section
variable{X:Cx}{C f:Uc}{x:Str}{p pos:Pos}{k:Nat}{fd:FuncData}{ps:Tb}{sp:Sp}{e:Ud}{es:T8}{t:TA}
structure MkX(K:Fg)(C f:Uc):Prop where
 ex:KD K C=true
 init:PySem.W.findIn K (.ref C) "__init__"=Z (Z (.ref f))
 fn:PySem.W.isFn K (.ref f)=true
 kp:PySem.W.keepIn K (.ref C)=true
def VM(C:Uc)(sp:Sp)(t:TA):TE:=λc H Q=>t c H λvs b=>vs.length<=ba/\∀a,b a=Y->sp (.ref a::vs) (upd b a (.ext (tJ a (.ref C) Y true))) (λv d=>v=.non/\Q (.ref a) d) E0
def aAK{Q:VK}(M:MkX X.K C f)(F:jH X.prog X.w X.K X.mg X.base CX0 k f fd ps sp qq)(n:cE (k+1) X.A qq)(q:Binds X.K fd ps [])(I:Inv X bq i H s)(r:bA vs us)
 (y:vs.length<=ba) (h:∀a,H a=Y->sp (.ref a::vs) (upd H a (.ext (tJ a (.ref C) Y true))) (λv B=>v=.non/\Q (.ref a) B) E0):
 bc (bb X.prog X.w) X.A (call (.ref C) us) (λv s'=>∃a H',v=.ref a/\Inv X bq i H' s'/\(X.ex=[]->X.s₀.heap.get? a=Y)/\Q (.ref a) H') X.xe s:=by
 refine aAy I.kIn M.ex M.init (beq_iff_eq.mp M.fn) (by rw[<- r.length];exact y) λh' a mk=>?_;obtain⟨D,g⟩:=I.newX mk;have j:=h a D;have l:bA (V.ref a::vs) (Value.ref a::us):=.cons rfl r
 have d:(Value.ref a::us).length=ps.length:=by
  have e:=l.length;rw[F.len _ _ _ _ j]at e;exact e.symm
 have b:=q { s with heap:=h' } (Value.ref a::us) g.kIn (by rw[D8];exact d);rw[D8]at b;refine wpAny_call (A0n (F.run _ X.stack _ _ ⟨Value.ref a::us,[]⟩ (Value.ref a::us) _ _ E0 (n.make C us []) (g.env0.make C us []) b l j) λE s' c=>?_);cases E with
 |error e=>exact False.elim c
 |ok G=>
  cases G with
  |ret u=>
   obtain⟨v,H',J,L,ev,N⟩:=g.after c;subst ev
   have O:X.ex=[]->X.s₀.heap.get? a=Y:=λP=>by
    cases z:X.s₀.heap.get? a with
    |none=>rfl
    |some o=>
     obtain⟨R,m⟩:=I.base.there a o z (by rw[P];simp);rw[mk.new]at m;cases m
   exact⟨L,a,H',rfl,J,O,N⟩
  |next=>exact False.elim c
  |brk=>exact False.elim c
  |cont=>exact False.elim c
def aAx(M:MkX X.K C f)(F:jH X.prog X.w X.K X.mg X.base CX0 k f fd ps sp qq)(i:cE (k+1) X.A qq)(j:Gl X x)(hm:X.mg x=Z (.ref C))(l:Binds X.K fd ps [])
 (ha:PA X (e::es) t) (c:(x==("__debug__":Str))=false) (m:bf (e::es) X.env=(false,eval e X.env)::bf es X.env) (d:(backTo pos<|bf es X.env).any (·.1)=false) {H:Hp} (I:Inv X bq b H s) (h:VM C sp t b H Q):
 bc (bb X.prog X.w) X.A (eval (.Call (.Name x p) (e::es) [] pos) X.env) (λv s'=>∃a H',v=.ref a/\Inv X bq b H' s'/\(X.ex=[]->X.s₀.heap.get? a=Y)/\Q (.ref a) H') X.xe s:=by
 refine L4<|mM I j hm ?_ c;exact U7 (h₀:=X.base) I.ok.mod.kin M.kp (thn (ha pos bq s b H _ I h) λus s1 ⟨vs,o,g,r,n,q⟩=>⟨g.kIn,aAK M F i l g r n q⟩) m d
end
def aHp{A:Uf}{E:T1}{K:Fg}{Q:Flow->Ub->Prop}(g:A.handled=Y)(q:KD K C=true)(be:PySem.W.subIn K (.ref C) (.type "BaseException")=Z true)
 (h:bc (bb prog w) A (eval e env) (λv s1=>∃a b vs,v=.ref a/\K.In s1.heap/\s1.heap.get? a=Z b/\b.cls=.ref C/\b.data=.fields vs/\vs[1]?=Z .none/\E (.ref a) s1) E s):
 bc (bb prog w) A (exec (.Raise (Z e) Y pos) env) Q E s:=by
 show bc (bb prog w) A (do standAt pos;raiseStmt env (Z (do let v <- eval e env;standAt pos;pure v)) Y) Q E s;refine A0<|Y7 ?_;unfold raiseStmt;dsimp only;refine A0<|A0 (E3 h (λv s1 z=>A0<|Y7<|A6 ?_) λ_ _ z=>z);obtain⟨a,b,vs,rfl,X,c,i,f,j,k⟩:=z;have LT:PySem.W.Looks (bb prog w) s1.heap (typeOf (.ref a)) (.ref C):=i▸(PySem.W.Looks.ld c).andThen .now;have LS:=PySem.W.looks_subIn (M:=bb prog w) X be;obtain⟨bm,N,nm,n,bs,hd,o,sub,p,l,r,t,u,x,y,B,m,_⟩:=DV X q;have LC:PySem.W.Looks (bb prog w) s1.heap (typeOf (.ref C)) (.type "type"):=(PySem.W.Looks.ld m).andThen .now
 have nt:∀{d:Bool->Ub->Prop},d false s1->bc (bb prog w) A (isType (.ref a)) d E s1:=λ{d} z=>by
  simp only[isType,loadHead];refine A0<|wpAny_loadPart c ?_;rw[f];exact A6 z
 refine A0<|A6 ?_;dsimp only;refine A0<|F5 ?_;unfold excFromValue isExcClass;refine A0<|A0<|nt ?_;simp only[Bool.false_eq_true,if_false];refine A6 ?_;simp only[Bool.false_eq_true,if_false];unfold isInstance;refine A0<|A0<|LT.here<|LS.here ?_;simp only[if_true];refine A6 ?_;refine A0<|nt ?_;simp only[Bool.false_eq_true,if_false];unfold raisedInstance;refine A0<|A0<|LT.here<|A0<|LC.here ?_;rw[A4 (by decide)];refine A6 ?_;unfold setFlight;refine A0<|A0<|F8 c f j ?_;rw[A5 (by decide)];exact A6<|wpAny_raiseNew_none g k
section
variable{X:Cx}{C f:Uc}{x:Str}{p cpos pos:Pos}{k:Nat}{fd:FuncData}{ps:Tb}{sp:Sp}{e:Ud}{es:T8}{t:TA}
def NB(EE:St->XK)(C:Uc)(sp:Sp)(t:TA):TS:=λ_ b H=>VM C sp t b H λv c=>∃a dx,v=.ref a/\c a=Z (.ext (tJ a (.ref C) dx true))/\EE b (.ref C) dx (unt c a)
def aAk(ok:XOk X EE)(u:X.calm=true)(M:MkX X.K C f)(be:PySem.W.subIn X.K (.ref C) (.type "BaseException")=Z true)(F:jH X.prog X.w X.K X.mg X.base CX0 k f fd ps sp)(y:cE (k+1) X.A)(B:Gl X x)(hm:X.mg x=Z (.ref C))(E:Binds X.K fd ps [])
 (ha:PA X (e::es) t) (d:(x==("__debug__":Str))=false) (G:bf (e::es) X.env=(false,eval e X.env)::bf es X.env) (g:(backTo cpos<|bf es X.env).any (·.1)=false):
 PS X (.Raise (Z (.Call (.Name x p) (e::es) [] cpos)) Y pos) (NB EE C sp t):=by
 intro bq s J H D I h;refine aHp (I.ok.hd u) M.ex be ?_;refine E3 (aAx (X:=X) (p:=p) (pos:=cpos) M F y B hm E ha d G g I h) (λv s1 ⟨b,L,ev,c,new,a,dx,ex,i,q⟩=>?_) λ_ _ z=>z;obtain rfl:b=a:=V.ref.inj ex;subst ev;obtain⟨⟨o,vs,l,m,N,n,O⟩,_⟩:=c.hok b _ i;obtain⟨P,r,Q⟩:=O.1 rfl;have R:Inv X [] J (unt L b) s1:=(c.untrack i).pins_of λp j=>absurd j (by simp);refine⟨b,o,vs,rfl,c.kIn,l,m,n,r,ok.pass _ _<|aBW ok.bd R l EK (new ok.bd.ex) (λp j z=>?_) n (Nat.lt_of_le_of_lt (by decide) P) r (λ_=>Q) (by rw[m,N];exact q)⟩
 .have:=(c.pin p<|E5 _ j).2.1;rw[z,i]at this;cases this
end
section
variable{X:Cx}{o value e:Ud}{ta tv:TE}{f:Str}{pos pos':Pos}
def aBr(K:Fg)(ta tv:TE)(f:Str):TS:=λD b H=>tv b H λy g=>ta b g λx c=>∃a C,x=.ref a/\c a=Z (.ext (tJ a (.ref C) Y true))/\aEe K C f/\∀d,c d=Y->d≠a->D.nx b (upd (upd c d (.xd [(f,y)])) a (.ext (tJ a (.ref C) (Z d) true)))
def aFo(ha:PE X o ta)(i:PE X value tv)(hs:swapsWith value (Z (.Attribute o f pos')) pos.line X.env=pure false):PS X (.Assign [.Attribute o f pos'] value pos) (aBr X.K ta tv f):=by
 intro bq s b H D I h;refine plainObj_wpAny_Assign_Attribute (thn (i bq s b H _ I h) λu s1 ⟨y,j,k,l,q⟩=>thn (ha bq s1 b j _ k q) λov s2 ⟨x,v,m,n,a,C,ex,p,c,r⟩=>?_) hs;subst ex;obtain rfl:ov=Value.ref a:=n;exact aHM m p c l λd s3 hd g t=>⟨b,_,t,r d hd g⟩
end
def aET(nm:Str)(h:FN)(fa:AF):EF:=λa M=>(fa a M).bind λr=>if r.1.length<=ba then(h (.c r.2.length::r.1) (r.2++[.exc true nm []])).bind λq=>if jL q.1=true then Z (.c r.2.length,q.2)else Y else Y
def excOf(M:Sto):CD->Tw (Nat×Bool×Str×Tu)
 |.c i=>match M[i]? with
  |some (.exc fr nm fs)=>Z (i,fr,nm,fs)
  |_=>Y
 |_=>Y
def PU{i:Nat}{fr:Bool}{nm:Str}{fs:Tu}(h:excOf M x=Z (i,fr,nm,fs)):x=.c i/\M[i]?=Z (.exc fr nm fs):=by
 unfold excOf at h;split at h
 .rename_i j;split at h
  .rename_i a b c e;cases h;exact⟨rfl,e⟩
  .cases h
 .cases h
def UG(nm f:Str)(b ev:EF):SF:=λa M=>(ev a M).bind λv=>(b a v.2).bind λo=>(excOf o.2 o.1).bind λp=>if p.2.1=true/\p.2.2.1=nm/\p.2.2.2.isEmpty=true then Z (.nx a,o.2.set p.1 (.exc true nm [(f,v.1)]))else Y
def BO(nm:Str)(h:FN)(fa:AF):SFX:=λa M=>(aET nm h fa a M).bind λr=>(excOf r.2 r.1).bind λp=>if p.2.1=true/\p.2.2.1=nm then Z (.xc a ⟨nm,p.2.2.2⟩,r.2.set p.1 .dead)else Y
section
variable{K:Fg}{EE:St->XK}{ta tv:TE}{tA:TA}
def aCU(b:SA K tA fa):SE K (VM (bK K nm) (spM K h) tA) (aET nm h fa):=by
 intro D M x M' e W H s Q G R k;obtain⟨⟨f,M1⟩,t,e⟩:=aJ e
 have j:f.length<=ba:=by
  by_cases z:f.length<=ba
  .exact z
  .rw[A5 z]at e;cases e
 rw[A4 j]at e;obtain⟨⟨z,M2⟩,u,e⟩:=aJ e
 have l:jL z=true:=by
  cases q:jL z with
  |true=>rfl
  |false=>rw[q]at e;cases e
 rw[A4 l]at e;cases e;have g:=ET l;subst g;refine b _ _ _ _ t W H s _ G R λvs m E w i n=>⟨by rw[<- Paired.len n];exact j,λa ha=>?_⟩;have Gb:=i.new ha (c:=.exc true nm []) (o:=.ext (tJ a (.ref (bK K nm)) Y true)) ⟨Y,rfl,rfl⟩;have p:=m.ext_more a;refine⟨.c M1.length::f,M1++[.exc true nm []],m.more a,.d .none,M2,Gb,.cons i.newV (bX.up n p),u,λv y A r B C=>⟨C,?_⟩⟩;exact k _ y A ((w.trans p).trans r) B<|i.newV.up r
def aFH(c:aEe K (bK K nm) f)(a:SE K ta m)(b:SE K tv ev):SS K (aBr K ta tv f) (UG nm f m ev):=by
 intro n M o M' e W H j D G R k;obtain⟨⟨y,M1⟩,x,e⟩:=aJ e;obtain⟨⟨z,M2⟩,A,e⟩:=aJ e;obtain⟨⟨i,fr,g,fs⟩,B,e⟩:=aJ e;by_cases l:fr=true/\g=nm/\fs.isEmpty=true
 .have e:(if fr=true/\g=nm/\fs.isEmpty=true then Z (Out.nx n,M2.set i (.exc true nm [(f,y)]))else Y)=Z (o,M'):=e;rw[A4 l]at e;cases e;obtain⟨rfl,rfl,q⟩:=l;have q:fs=[]:=by cases fs with|nil=>rfl|cons _ _=>cases q
  subst q;refine b _ _ _ _ x W H j _ G R λv C E p F I=>?_;refine a _ _ _ _ A C E j _ F (R.up p) λu r Q s G2 J=>?_;obtain⟨rfl,t⟩:=PU B;obtain⟨dx,L,N⟩:=G2.excAt t;cases dx with
  |some d=>
   exact absurd rfl N.1
  |none=>
   refine⟨r.α i,_,J.2,L,c,λd hd O=>?_⟩;obtain⟨w,P⟩:=G2.lay (o:=.xd [(f,v)]) hd;have h:=(p.trans s).trans w;refine k _ _ h (P.set t (by intro q;cases q) (c':=.exc true g [(f,y)]) (o':=.ext (tJ (r.α i) (.ref (bK K g)) (Z d) true)) ⟨Z d,rfl,by simp,[(f,v)],aS,.cons ⟨rfl,(I.up s).up w⟩ .nil⟩) j<|R.up h
 .have e:(if fr=true/\g=nm/\fs.isEmpty=true then Z (Out.nx n,M2.set i (.exc true nm [(f,y)]))else Y)=Z (o,M'):=e;rw[A5 l]at e;cases e
def TabsOk.unt{F:Hp}(h:TabsOk K F H)(b:∀ps,H p≠Z (.tbl ps))(d:∀ob u,H p≠Z (.frz ob u)):TabsOk K F (L2.unt H p):=λx f=>by
 obtain⟨f0,ps,e,t,k⟩:=h x f;refine⟨f0,ps,by rw[kU (show x.1≠p from λz=>b ps (z▸e))];exact e,t,λpos g c=>?_⟩;obtain⟨c',oc,u,vs,i,j,a,l⟩:=k pos g c;exact⟨c',oc,u,vs,i,j,by rw[kU (show c'≠p from λz=>d oc u (z▸a))];exact a,l⟩
def Good.kill(g:Good K W M H){i:Nat}{c:Cell}(hi:M[i]?=Z c)(f:c≠.dead):Good K W (M.set i .dead) (unt H<|W.α i):=by
 obtain⟨v,o,l,m⟩:=g.cs i c hi f;have lt:i<M.length:=(List.getElem?_eq_some_iff.mp hi).1
 have at_:∀j d,(M.set i .dead)[j]?=Z d->d≠.dead->j≠i/\M[j]?=Z d:=λj d h hd=>by
  by_cases q:i=j
  .subst q;rw[C3 lt]at h;exact absurd (D5 h).symm hd
  .rw[B6 q]at h;exact⟨λz=>q z.symm,h⟩
 refine⟨λb u a=>?_,by rw[g.n,E1],λj d e hd=>?_,λj k p r e w s t x=>?_,g.tb.unt (λps z=>m.nt.1 ps<|D5<|l.symm.trans z) λob u z=>m.nt.2 ob u<|D5<|l.symm.trans z⟩
 .rw[kU (λz=>by rw[z,v]at a;cases a)];exact g.fh b u a
 .obtain⟨q,h⟩:=at_ j d e hd;obtain⟨y,u,A,B⟩:=g.cs j d h hd;exact⟨y,u,by rw[kU λz=>q<|g.inj j i d c h hi hd f z];exact A,B⟩
 .exact g.inj j k p r (at_ j p e s).2 (at_ k r w t).2 s t x
def VQ(b:SA K tA fa):SSX K EE (NB EE (bK K nm) (spM K h) tA) (BO nm h fa):=by
 intro e M o M' a W H f D G R k;obtain⟨⟨x,M1⟩,m,a⟩:=aJ a;obtain⟨⟨i,fr,c,fs⟩,n,a⟩:=aJ a;by_cases d:fr=true/\c=nm
 .have a:(if fr=true/\c=nm then Z (aAF.xc e ⟨nm,fs⟩,M1.set i .dead)else Y)=Z (o,M'):=a;rw[A4 d]at a;cases a;obtain⟨rfl,rfl⟩:=d;refine aCU b _ _ _ _ m W H f _ G R λv p u g j r=>?_;obtain⟨rfl,l⟩:=PU n;obtain⟨dx,s,t⟩:=j.excAt l;exact⟨_,dx,r.2,s,k p _ g (j.kill l (by intro q;cases q)) f _ dx (R.up g) ⟨rfl,t⟩⟩
 .have a:(if fr=true/\c=nm then Z (aAF.xc e ⟨nm,fs⟩,M1.set i .dead)else Y)=Z (o,M'):=a;rw[A5 d]at a;cases a
end
structure DK(P:Ue)(w:World)(K:Fg)(mg:Str->Tf)(base:Heap)(k:Nat)(nm:Str)(ps:Tb)(sp:Sp)(qq:Bool:=true):Prop where
 ex:∃f fd,jH P w K mg base CX0 k f fd ps sp qq/\MkX K (bK K nm) f/\Binds K fd ps []
section
variable{P:Ue}{w:World}{K:Fg}{mg:Str->Tf}{base:Heap}
def UV.okIX{qq:Bool}{qual:Str}{st:Stmt}{ps:Tb}{b:SF}(D:UV K nm "__init__" qual st)(hm:KD K (bK K nm)=true)(c:PySem.W.keepIn K (.ref (bK K nm))=true)(S:aU N ps (aI st))
 (d:∀(kV doc pm:Tz)(an:Th)(cdv ct:Tz)(us:T5),us.length=ps.length->bindArgs (PySem.W.fnOf "__init__" qual (eE st) (bU st) (aI st) .none kV doc pm an cdv ct) ⟨us,[]⟩=pure (ps.zip us))
 (a:∀(f:Uc)(cdv:Tz)(A:Uf)(outer:Tv Env)(s:Ub)(H:Hp)(E:XK),cE k (A.deeper<|envOfC qual (aI st) s.heap.objs.size f cdv) qq->
  ML K (λ_:Unit=>(mZ CX0 P w K mg base N qual (aI st) f cdv A outer s H E qq).nox) (bU st) b):DK P w K mg base (k+1) nm ps (spM K (fnF ps.length N.length b)) qq:=by
 obtain⟨f,fd,F,e,g⟩:=D.ex;exact⟨f,fd,F.okQ S a,⟨hm,e,g,c⟩,F.binds d⟩
def YI{st:Stmt}{C:Uc}{oc:Tz}{od:Th}{osl:Array (Tf)}{kV doc:Tz}(a:bK K nm=C)(b:PySem.W.findIn K (.ref C) m=Z (Z (.ref f)))
 (l:K.lookup f=Z ⟨oc,od,.func (PySem.W.fnOf m qual (eE st) (bU st) (aI st) .none kV doc pm an cdv ct),osl⟩) (c:PySem.W.codeIn K cdv qual=true) (k:PySem.W.keepIn K (.ref f)=true) (fn:PySem.W.isFn K (.ref f)=true):UV K nm m qual st:=
 ⟨f,_,aEh l c k,by rw[a];exact b,fn⟩
end
section
variable{ι:Type}{K:Fg}{X:ι->Cx}{EE:ι->St->XK}{e o a b:Ud}{es:T8}{f g:EF}{fa:AF}{pos:Pos}
def DG{k:Nat}{F:FN}{cpos:Pos}(ok:∀i,XOk (X i)<|EE i)(C:∀i,DK (X i).prog (X i).w (X i).K (X i).mg (X i).base k nm ps (spM K F))(c:∀i,(X i).K=K)(h:∀i,(X i).calm=true)(hm:∀i,(X i).mg nm=Z (.ref (bK K nm)))(be:PySem.W.subIn K (.ref (bK K nm)) (.type "BaseException")=Z true)
 (j:∀i,cE (k+1) (X i).A) (y:MA K X (e::es) fa) (l:∀i,Gl (X i) nm:=by intro _;rfl) (hd:(nm==("__debug__":Str))=false:=by decide):
 MSX K X EE (.Raise (Z (.Call (.Name nm p) (e::es) [] cpos)) Y pos) (BO nm F fa):=by
 obtain⟨u,m,n⟩:=y.ex;refine⟨λi=>NB (EE i) (bK K nm) (spM K F) u,λi=>?_,λi=>VQ n⟩;obtain⟨f,fd,q,M,B⟩:=(C i).ex;have d:(X i).mg nm=Z (.ref (bK (X i).K nm)):=by rw[c i];exact hm i
 have:=aAk (ok i) (h i) M (by rw[c i];exact be) q (j i) (l i) d B (m i) hd (y.st.1 _) (y.st.2.plain _ _) (p:=p) (cpos:=cpos) (pos:=pos);rw[c i]at this;exact this
def aHl(h:∀i,(X i).K=K)(j:aEe K (bK K nm) d)(x:ME K X o f)(y:ME K X e g)(hs:∀i,swapsWith e (Z (.Attribute o d c)) pos.line (X i).env=pure false:=by intro _;rfl):MS K X (.Assign [.Attribute o d c] e pos) (UG nm d f g):=by
 obtain⟨t,k,l⟩:=x.ex;obtain⟨u,m,n⟩:=y.ex;refine⟨_,λi=>?_,aFH j l n⟩;have:=aFo (k i) (m i)<|hs i;rw[h i]at this;exact this
end
section
variable{K:Fg}
noncomputable def aLJ(ds:T4)(n:Nat):T4:=(List.replicate n ds).flatten
theorem HW{b:Type}:∀(l:Tv (Tv b))(a:Tv b),(l.map List.toArray).foldl (λx1 c=>x1++c) a.toArray=(a++l.flatten).toArray
 |[]=>λa=>by simp
 |x::l=>λa=>by
  rw[B2,List.foldl_cons];have:a.toArray++x.toArray=(a++x).toArray:=by simp
  rw[this,HW l (a++x),O6,E2]
theorem ON(r:bA vs us):∀n:Nat,bA (List.replicate n vs).flatten (List.replicate n us).flatten
 |0=>.nil
 |n+1=>by rw[O7,O7,O6,O6];exact r.append<|ON r n
end
section
variable{K:Fg}
theorem DM{H:Hp}(h:aM K H as vs):∀n:Nat,aM K H (aLJ as n) (List.replicate n vs).flatten
 |0=>by rfl
 |n+1=>by
  unfold aLJ;rw[O7,O7,O6,O6];exact aM.app h<|DM h n
end
abbrev KY:=Key ⊕ Tv Key
abbrev KF:=Ga->Sto->Tw (KY×Sto)
def ZE(W:Wd):KY->V->Prop
 |.inl k,v=>v=kV k
 |.inr ks,v=>∃b,v=.ref b/\W.F b=Z (.tup (ks.map kV))
def ZE.up(h:ZE W k v)(e:W.Ext W'):ZE W' k v:=by
 cases k with
 |inl k=>exact h
 |inr ks=>obtain⟨b,a,c⟩:=h;exact⟨b,a,e.ff _ _ c⟩
section
variable{K:Fg}
def SK(K:Fg)(t:TE)(f:KF):Prop:=∀a M k M',f a M=Z (k,M')->∀(W:Wd)(H:Hp)(b:St)(Q:VK),Good K W M H->cN K W a b->(∀v W' H',W.Ext W'->Good K W' M' H'->ZE W' k v->Q v H')->t b H Q
def keysOf:T6->Tw (Tv Key)
 |[]=>Z []
 |x::xs=>(keyOf x).bind λk=>(keysOf xs).bind λks=>Z (k::ks)
def BA(fa:AF):KF:=λa M=>(fa a M).bind λr=>(keysOf r.1).bind λks=>if ks.length<=ba then Z (.inr ks,r.2)else Y
variable{t td ty tx tv:TE}{tA:TA}{f fo fx fv:EF}{fk:KF}{fa:AF}
theorem vH{W:Wd}:∀{xs:T6}{ks:Tv Key}{vs:Tc},keysOf xs=Z ks->bX K W xs vs->vs=ks.map kV
 |[],ks,vs=>λh r=>by cases h;cases r;rfl
 |x::xs,ks,vs=>λh r=>by
  obtain⟨k,a,h⟩:=aJ h;obtain⟨b,c,h⟩:=aJ h;cases h;cases r with
  |cons d e=>rw[aAw a d,vH c e];rfl
def aJY(b:SA K tA fa):SK K (aDq tA) (BA fa):=by
 intro q M k M' a W H e Q G R c;obtain⟨⟨r,M1⟩,g,a⟩:=aJ a;obtain⟨ks,h,a⟩:=aJ a;by_cases d:ks.length<=ba
 .rw[A4 d]at a;cases a;refine b _ _ _ _ g W H e _ G R λvs i s j l m=>?_;have ev:=vH h m;refine⟨by rw[ev,A1];exact d,λp n=>?_⟩;obtain⟨o,G2⟩:=l.lay n;exact c _ _ _ (j.trans o) G2 ⟨p,rfl,by show upd i.F p (.tup vs) p=_;rw[aS,ev]⟩
 .rw[A5 d]at a;cases a
section
variable{κ:Type}[DecidableEq κ]
noncomputable def lkC(kvs:Tv (κ×CD))(k:κ):Te:=(kvs.find? λa=>decide (a.1=k)).map (·.2)
noncomputable def putD(kvs:Tv (κ×CD))(k:κ)(v:CD):Tv (κ×CD):=
 if (kvs.any λa=>decide (a.1=k))=true then kvs.map (λa=>if a.1=k then(a.1,v)else a)else kvs++[(k,v)]
abbrev PKV(K:Fg)(W:Wd)(kvs:Tv (κ×CD))(us:Tv (κ×V)):Prop:=Paired (λp q=>p.1=q.1/\cK K W p.2 q.2) kvs us
theorem BU{W:Wd}:∀{kvs:Tv (κ×CD)}{us:Tv (κ×V)},PKV K W kvs us->TN K W (lkC kvs k) (iP us k)
 |_,_,.nil=>True.intro
 |_,_,.cons (a:=p) (b:=q) (l₁:=ps) (l₂:=qs) r1 r2=>by
  by_cases h:p.1=k
  .have h':=r1.1▸h;rw[show lkC (p::ps) k=Z p.2 by simp[lkC,List.find?_cons,h],show iP (q::qs) k=Z q.2 by simp[iP,List.find?_cons,h']];exact r1.2
  .have h':=r1.1▸h;rw[show lkC (p::ps) k=lkC ps k by simp[lkC,List.find?_cons,h],show iP (q::qs) k=iP qs k by simp[iP,List.find?_cons,h']];exact BU r2
theorem RA{W:Wd}{k:κ}:∀{kvs:Tv (κ×CD)}{us:Tv (κ×V)},PKV K W kvs us->(kvs.any λa=>decide (a.1=k))=us.any λa=>decide (a.1=k)
 |_,_,.nil=>rfl
 |_,_,.cons b c=>by rw[S8,S8,RA c,b.1]
theorem QP{W:Wd}{k:κ}(d:cK K W x v):∀{kvs:Tv (κ×CD)}{us:Tv (κ×V)},PKV K W kvs us->PKV K W (kvs.map λb=>if b.1=k then(b.1,x)else b) (us.map λb=>if b.1=k then(b.1,v)else b)
 |_,_,.nil=>.nil
 |_,_,.cons (a:=p) c r2=>by
  rw[B2,B2];refine .cons ?_ (QP d r2);by_cases h:p.1=k
  .rw[A4 h,A4 (c.1▸h)];exact⟨c.1,d⟩
  .rw[A5 h,A5 (c.1▸h)];exact c
def IA{k:κ}{x:CD}{v:V}{kvs:Tv (κ×CD)}{us:Tv (κ×V)}(r:PKV K W kvs us)(a:cK K W x v):PKV K W (putD kvs k x) (putK us k v):=by
 unfold putD putK;rw[RA r];split
 .exact QP a r
 .exact Paired.app r (.cons ⟨rfl,a⟩ .nil)
end
noncomputable def lkP(kvs:Tv (Tv Key×Ua))(k:Tv Key):Tw Ua:=(kvs.find? λa=>decide (a.1=k)).map (·.2)
theorem CW{W:Wd}:∀{kvs:Tv (Tv Key×Ua)}{us:Tv (Tv Key×V)},Paired (λp q=>p.1=q.1/\Rep K W.F p.2 q.2) kvs us->TN K W ((lkP kvs k).map .d) (iP us k)
 |_,_,.nil=>True.intro
 |_,_,.cons (a:=p) (b:=q) (l₁:=ps) (l₂:=qs) r1 r2=>by
  by_cases h:p.1=k
  .have h':=r1.1▸h;rw[show lkP (p::ps) k=Z p.2 by simp[lkP,List.find?_cons,h],show iP (q::qs) k=Z q.2 by simp[iP,List.find?_cons,h']];exact r1.2
  .have h':=r1.1▸h;rw[show lkP (p::ps) k=lkP ps k by simp[lkP,List.find?_cons,h],show iP (q::qs) k=iP qs k by simp[iP,List.find?_cons,h']];exact CW r2
def atD(M:Sto):CD->KY->Tw (Te)
 |.c i,.inl k=>match M[i]? with
  |some (.dk kvs)=>Z<|lkC kvs k
  |_=>Y
 |.c i,.inr ks=>match M[i]? with
  |some (.dt kvs)=>Z<|lkC kvs ks
  |_=>Y
 |.f kvs,.inr ks=>Z<|(lkP kvs ks).map .d
 |_,_=>Y
def FU(M:Sto):CD->KY->CD->Tw Sto
 |.c i,.inl k,x=>match M[i]? with
  |some (.dk kvs)=>if kvs.length<ba then Z (M.set i (.dk (putD kvs k x)))else Y
  |_=>Y
 |.c i,.inr ks,x=>match M[i]? with
  |some (.dt kvs)=>if kvs.length<ba then Z (M.set i (.dt (putD kvs ks x)))else Y
  |_=>Y
 |_,_,_=>Y
def Good.dkAt{i:Nat}(G:Good K W M H)(h:M[i]?=Z (.dk kvs)):∃us,H (W.α i)=Z (.dK us)/\PKV K W kvs us:=by
 obtain⟨_,o,b,a⟩:=G.cs i _ h (by simp);cases o<;>first|exact⟨_,b,a⟩|exact False.elim a
def Good.dtAt{i:Nat}(G:Good K W M H)(h:M[i]?=Z (.dt kvs)):∃us,H (W.α i)=Z (.dT us)/\PKV K W kvs us:=by
 obtain⟨_,o,b,a⟩:=G.cs i _ h (by simp);cases o<;>first|exact⟨_,b,a⟩|exact False.elim a
def aFP{r:Te}(G:Good K W M H)(h:atD M x k=Z r)(e:cK K W x v)(g:ZE W k y):∃a o,v=.ref a/\JT H a y o/\TN K W r o:=by
 unfold atD at h;split at h
 .rename_i i m;split at h
  .rename_i kvs j;cases h;obtain⟨us,c,d⟩:=G.dkAt j;refine⟨_,_,e.2,?_,BU d⟩;rw[show y=kV m from g];exact JT.k c
  .cases h
 .rename_i i ks;split at h
  .rename_i kvs j;cases h;obtain⟨us,c,d⟩:=G.dtAt j;obtain⟨b,rfl,l⟩:=g;exact⟨_,_,e.2,JT.t c<|G.fh _ _ l,BU d⟩
  .cases h
 .rename_i kvs ks;cases h;obtain⟨a,o,us,rfl,c,d⟩:=e;obtain⟨b,rfl,l⟩:=g;exact⟨_,_,rfl,.inr ⟨us,ks,b,.inr ⟨o,G.fh _ _ c⟩,rfl,G.fh _ _ l,rfl⟩,CW d⟩
 .cases h
def RR{M':Sto}(G:Good K W M H)(h:FU M x k z=Z M')(j:cK K W x v)(l:ZE W k y)(m:cK K W z u):∃a H',v=.ref a/\BG H a y u H'/\Good K W M' H':=by
 unfold FU at h;split at h
 .rename_i o i n;split at h
  .rename_i kvs d;by_cases c:kvs.length<ba
   .rw[A4 c]at h;cases h;obtain⟨us,g,e⟩:=G.dkAt d;refine⟨_,_,j.2,?_,G.set d (by simp) (o':=.dK (putK us n u))<|IA e m⟩;rw[show y=kV n from l];exact BG.k g (by rw[<- Paired.len e];exact c)
   .rw[A5 c]at h;cases h
  .cases h
 .rename_i o i ks;split at h
  .rename_i kvs d;by_cases c:kvs.length<ba
   .rw[A4 c]at h;cases h;obtain⟨us,g,e⟩:=G.dtAt d;obtain⟨b,rfl,p⟩:=l;exact⟨_,_,j.2,BG.t g (G.fh _ _ p) (by rw[<- Paired.len e];exact c),G.set d (by simp)<|IA e m⟩
   .rw[A5 c]at h;cases h
  .cases h
 .cases h
def yZ:EF:=λ_ M=>Z (.c M.length,M++[.dt []])
def aGh(neg:Bool)(fk:KF)(fo:EF):EF:=λa M=>(fk a M).bind λk=>(fo a k.2).bind λo=>(atD o.2 o.1 k.1).bind λr=>Z (.d (.bool (if neg then !r.isSome else r.isSome)),o.2)
def vK(fo:EF)(fk:KF)(fv:EF):SF:=λa M=>(fv a M).bind λv=>(fo a v.2).bind λo=>(fk a o.2).bind λk=>(FU k.2 o.1 k.1 v.1).bind λM'=>Z (.nx a,M')
def aDv:SE K aCX yZ:=by
 intro c M x M' a W H d Q G R k;cases a;exact λp b=>k _ (W.more p) _ (W.ext_more p) (G.new b .nil) G.newV
def aAL(h:TN K W r o):o.isSome=r.isSome:=by
 cases r<;>cases o<;>first|rfl|exact False.elim h
def aJD(b:SK K ty fk)(a:SE K td fo):SE K (aNP ty td) (aGh false fk fo):=by
 intro B M x M' c W H d Q G R k;obtain⟨⟨C,M1⟩,i,c⟩:=aJ c;obtain⟨⟨o,M2⟩,j,c⟩:=aJ c;obtain⟨r,l,c⟩:=aJ c;cases c;refine b _ _ _ _ i W H d _ G R λy m n e q s=>a _ _ _ _ j m n d _ q (R.up e) λv u w h G2 z=>?_;obtain⟨p,ov,ev,g,A⟩:=aFP G2 l z<|s.up h;refine⟨p,ov,ev,g,k _ u w (e.trans h) G2 ?_⟩;show _=V.bl r.isSome;rw[aAL A]
def aFA(a:SE K td fo)(b:SK K ty fk)(c:SE K tv fv):SS K (aIs td ty tv) (vK fo fk fv):=by
 intro O M o M' d W H e D G R k;obtain⟨⟨z,M1⟩,m,d⟩:=aJ d;obtain⟨⟨x,M2⟩,n,d⟩:=aJ d;obtain⟨⟨P,Q⟩,q,d⟩:=aJ d;obtain⟨S,r,d⟩:=aJ d;cases d;refine c _ _ _ _ m W H e _ G R λu s w h A B=>a _ _ _ _ n s w e _ A (R.up h) λv C E i G2 F=>b _ _ _ _ q C E e _ G2 (R.up<|h.trans i) λy I T j J L=>?_;obtain⟨p,l,ev,g,N⟩:=RR J r (F.up j) L<|(B.up i).up j;exact⟨p,l,ev,g,k I l ((h.trans i).trans j) N e<|R.up<|(h.trans i).trans j⟩
end
section
variable{ι:Type}
structure MK(K:Fg)(X:ι->Cx)(e:Ud)(f:KF):Prop where
 ex:∃t,(∀i,PE (X i) e t)/\SK K t f
variable{K:Fg}{X:ι->Cx}{e o i a b:Ud}{es:T8}{f g fx:EF}{fk:KF}{fa:AF}{pos:Pos}
def JW(x:MA K X es fa):MK K X (.Tuple es k pos) (BA fa):=by
 obtain⟨t,c,d⟩:=x.ex;exact⟨_,λi=>JP<|c i,aJY d⟩
def QJ:ME K X (.Dict [] [] pos) yZ:=⟨_,λ_=>aEK,aDv⟩
def aLP(c:∀j,(X j).A.units+1<cLine)(y:MK K X i fk)(x:ME K X o f)(hm:behindInMarks .In o=false:=by rfl):MT K X (.Compare i [.In] [o] pos) (gB<|aGh false fk f):=by
 obtain⟨t,d,h⟩:=x.ex;obtain⟨u,k,l⟩:=y.ex;exact⟨_,λj=>aLA (aKJ (c j) (k j)<|d j) hm,aJq<|aJD l h⟩
def WV(d:∀j,(X j).A.units+1<cLine)(x:ME K X o f)(y:MK K X i fk)(z:ME K X e g)(hs:∀j,swapsWith e (Z (.Subscript o i c)) pos.line (X j).env=pure false:=by intro _;rfl):MS K X (.Assign [.Subscript o i c] e pos) (vK f fk g):=by
 obtain⟨t,h,k⟩:=x.ex;obtain⟨u,l,m⟩:=y.ex;obtain⟨v,n,p⟩:=z.ex;exact⟨_,λj=>aFO (d j) (h j) (l j) (n j)<|hs j,aFA k m p⟩
end
end L2
namespace PySem
open Sem (wp)
open AutoSeq1 (wpAny_loadPart')
section
variable{prog:Ue}{w:World}{A:Uf}{E:T1}{s:Ub}
def GL{items}{x:Tz}{Q:T1}(a:s.heap.IsTupleIter it l i)(e:s.heap.IsTuple l items)(f:items[i]?=Z x)
 (g:∀h',h'.IsTupleIter it l (i+1)->Heap.SameBut it s.heap h'->Q x { s with heap:=h' }):bc (bb prog w) A (Builtin.SmallTypes.nextOf (.ref it)) Q E s:=by
 obtain⟨o,b,h,hd⟩:=id a;obtain⟨j,c,_,nl,d⟩:=e;refine A0<|O9 a.typeIs Z0<|L6 Z0 a.typeIs F.entry_tuple_iterator_next ?_<|F.args_tuple_iterator_next_1 _;show bc _ _ (field (.ref it) 0 >>= _) _ _ s;refine A0<|F8 b hd rfl ?_;refine A0<|F8 b hd rfl ?_;refine A0<|wpAny_seqItems c d ?_;simp only[Int.toNat_natCast,f];refine A0<|Y0 b hd (by simp)<|A6 ⟨x,rfl,A6<|g _ ?_<|S2 ..⟩;exact⟨_,F9 _ b<|A0d<|O4 hd _,(Obj.cls_mapFields ..).trans h,by rw[O4 hd];simp[rawInt]⟩
def yI{items}{Q:T1}(f:A.handled=Y)(a:s.heap.IsTupleIter it l i)(g:s.heap.IsTuple l items)(h:items[i]?=Y)
 (j:∀h' e,Heap.ExtBut it s.heap h'->(∃o,h'.get? e=Z o/\o.cls=.type "StopIteration")->E (.ref e) { s with heap:=h' }):bc (bb prog w) A (Builtin.SmallTypes.nextOf (.ref it)) Q E s:=by
 obtain⟨o,b,k,hd⟩:=id a;obtain⟨m,c,_,nl,d⟩:=g;refine A0<|O9 a.typeIs Z0<|L6 Z0 a.typeIs F.entry_tuple_iterator_next ?_<|F.args_tuple_iterator_next_1 _;show bc _ _ (field (.ref it) 0 >>= _) _ _ s;refine A0<|F8 b hd rfl ?_;refine A0<|F8 b hd rfl ?_;refine A0<|wpAny_seqItems c d ?_;simp only[Int.toNat_natCast,h];refine A0<|wpAny_rule<|A0<|Y0 b hd (by simp) ?_;refine A0 ?_;refine A0<|D1 ?_ (by size_fits);refine A0<|wpAny_of_eq rfl ?_;refine D1 ?_ (by size_fits);refine A0<|wpAny_handled ?_
 first|rw[show A.in1.handled=Y from f]|rw[f]
 refine A0<|A6<|wpAny_throw ?_;exact j _ _ (((S2 ..).extBut.push _).push _) ⟨_,B3 _ rfl,rfl⟩
end
def aAT{A:Uf}(hh:A.handled=Y)(it l:Uc)(hne:l≠it)(items:Ti):
 Draws prog w A it [it,l] items.size (λi v=>items[i]?=Z v) (λi h=>h.IsTupleIter it l i/\h.IsTuple l items) where
 live:=λ_ _ st=>let⟨o,ho,_⟩:=st.1;⟨o,ho⟩
 frame:=λ_ _ _ st hk=>⟨st.1.at λo e=>hk it (by simp) o e,let⟨o,ho,r⟩:=st.2;⟨o,hk l (by simp) o ho,r⟩⟩
 item:=λi s Q E hi st hQ=>by
  refine GL st.1 st.2 (x:=items[i]) (by simp[hi]) λh' hit' hs'=>?_;exact hQ _ h' s.toks (by simp[hi]) ⟨hit',let⟨o,ho,r⟩:=st.2;⟨o,(hs'.2 l hne).trans ho,r⟩⟩ hs'
 done:=λs Q E st hE=>yI hh st.1 st.2 (by simp) hE
def DT(l:Uc)(items:Ti)(n:Nat)(b:Th)(sl:Array (Tf)):
 Meets (Builtin.«enumerate.__new__» ⟨[.type "enumerate",.ref l],[]⟩) (λ_ R s=>s.heap.get? l=Z { cls:=.type "tuple",dict:=b,data:=.seq items n,slots:=sl } /\
  R (.ok (.ret (.ref (s.heap.push { cls:=.type "tuple_iterator",data:=.fields #[.ref l,.int 0 0] }).objs.size)))
   { s with heap:=(s.heap.push { cls:=.type "tuple_iterator",data:=.fields #[.ref l,.int 0 0] }).push { cls:=.type "enumerate",data:=.fields #[.none,.bool false,.ref s.heap.objs.size,rawInt 0,.none,.none] } }):=
 .of_wp λprog w A R s h=>by
  obtain⟨i,g,d,tk,os⟩:=s;obtain⟨a,h⟩:=h;have f:=sub_enumerate;have e:Heap.IsTuple (Shared.heap ⟨i,g,d,tk,os⟩) l items:=⟨_,a,rfl,n,rfl⟩
  wp_walk using O3 a
  refine wpAny_stack_any λst=>A6 ?_;split
  .rename_i c _ _ _ _ _;cases (c==Value.type "enumerate")
   .wp_walk using O3 a,A0q e
    exact⟨_,rfl,h⟩
   .wp_walk using O3 a,A0q e
    exact⟨_,rfl,h⟩
  .wp_walk using O3 a,A0q e
   exact⟨_,rfl,h⟩
section
variable{prog:Ue}{w:World}{A:Uf}{E:T1}{s:Ub}
def GG{Q:T1}(g:s.heap.IsTuple l items)
 (h:∀h',IsEnum h' (s.heap.objs.size+1) s.heap.objs.size 0 .none->h'.IsTupleIter s.heap.objs.size l 0->h'.objs.size=s.heap.objs.size+2->
  (∀b o,s.heap.get? b=Z o->h'.get? b=Z o)->Q (.ref (s.heap.objs.size+1)) { s with heap:=h' }):
 bc (bb prog w) A (call (.type "enumerate") [.ref l]) Q E s:=by
 obtain⟨⟨c,a,dt,sl⟩,i,d,n,hd⟩:=g
 replace d:c=.type "tuple":=d
 replace hd:dt=.seq items n:=hd
 subst d hd
 refine callType_new F.called_enumerate (by decide) (F.typeCall_enumerate_1 _) (F.newCall_enumerate_1 _) (λobj=>F.args_object_init_2 obj _) F.entry_enumerate_new
  (DT l items n a sl) ⟨i,?_⟩
 have e:(s.heap.push { cls:=.type "tuple_iterator",data:=.fields #[.ref l,.int 0 0] }).objs.size=s.heap.objs.size+1:=S5 ..;rw[e]
 have f:IsEnum ((s.heap.push { cls:=.type "tuple_iterator",data:=.fields #[.ref l,.int 0 0] }).push
  { cls:=.type "enumerate",data:=.fields #[.none,.bool false,.ref s.heap.objs.size,rawInt 0,.none,.none] }) (s.heap.objs.size+1) s.heap.objs.size 0 .none:=by
  have:=B3 (s.heap.push { cls:=.type "tuple_iterator",data:=.fields #[.ref l,.int 0 0] })
   (o:={ cls:=.type "enumerate",data:=.fields #[.none,.bool false,.ref s.heap.objs.size,rawInt 0,.none,.none] }) rfl
  rw[e]at this;exact this
 refine⟨⟨_,f,rfl⟩,h _ f ⟨_,A3 _<|B3 _ rfl,rfl,rfl⟩ (by simp) λb o x=>A3 _<|A3 _ x⟩
end
end PySem
namespace L2
open PySem PySem.Spec PyProof.Rows
section
variable{X:Cx}{bq:T2}{σ:St}{H:Hp}{s:Ub}{h':Heap}
def Inv.turnLay{fp:Ta}{a:Uc}{t':Nat}(I:Inv X bq σ H s)(g:∀b∈fp,nZ X bq H b)(k:∀b u,b∉fp->s.heap.get? b=Z u->h'.get? b=Z u)(h:s.heap.objs.size<=a)(new:eO X.prog X.w (upd H a o) h' a o):
 Inv X bq σ (upd H a o) { s with heap:=h',toks:=t' }:=by
 have hn:=I.hok.fresh h;have i:∀b u,H b=Z u->b∉fp:=λb u e z=>by rw[(g b z).1]at e;cases e
 refine I.step (λb f=>?_) (λb o _ _ d e _=>k b o d e) (λb o _ _ d e _=>⟨o.slots,k b o d e⟩) (λb o _ e n=>?_) (λb o d e=>⟨o,k b o d e⟩)
  (λb xs e=>?_) (λb o u e=>?_) (λb ps e=>⟨#[],?_⟩) (λm hm=>?_) ?_ I.bare
 .obtain⟨_,f1,_,j,l,p⟩:=g b f;exact⟨j,f1,l,p⟩
 .rw[aK (λz=>by subst z;exact absurd (A9 e)<|Nat.not_lt.mpr h)];exact n
 .rw[aK (aN e hn)];exact e
 .rw[aK (aN e hn)];exact e
 .rw[aK (aN e hn)];simpa using e
 .obtain⟨o,es,ep,t,r⟩:=hm;exact⟨o,es,ep,k _ o (λz=>(g _ z).2.1 rfl) t,r⟩
 .intro b u e;by_cases f:b=a
  .subst f;rw[aS]at e;cases e;exact new
  .rw[aK f]at e;refine(I.hok b u e).stay (λc v d q=>k c v ?_ q) (λc q=>by rw[aK (aN q hn)];exact q) λc xs q=>by rw[aK (aN q hn)];exact q
   obtain z|z:=d
   .rw[z];exact i b _ e
   .exact i c _ z
def Inv.turnF{fp:Ta}{t':Nat}(I:Inv X bq σ H s)(d:∀b∈fp,nZ X bq H b)(k:∀b u,b∉fp->s.heap.get? b=Z u->h'.get? b=Z u):Inv X bq σ H { s with heap:=h',toks:=t' }:=by
 have f:∀b u,H b=Z u->b∉fp:=λb u e z=>by rw[(d b z).1]at e;cases e
 refine I.step (λb g=>?_) (λb o _ _ a e _=>k b o a e) (λb o _ _ a e _=>⟨o.slots,k b o a e⟩) (λ_ _ _ _ n=>n) (λb o a e=>⟨o,k b o a e⟩)
  (λ_ _ e=>e) (λ_ _ _ e=>e) (λb ps e=>⟨#[],by simpa using e⟩) (λm hm=>?_) (λb u e=>?_) I.bare
 .obtain⟨_,f1,_,h,i,j⟩:=d b g;exact⟨h,f1,i,j⟩
 .obtain⟨o,es,ep,l,r⟩:=hm;exact⟨o,es,ep,k _ o (λz=>(d _ z).2.1 rfl) l,r⟩
 .refine(I.hok b u e).stay (λc v a q=>k c v ?_ q) (λ_ q=>q) λ_ _ q=>q;obtain z|z:=a
  .rw[z];exact f b _ e
  .exact f c _ z
end
def Ite(Sq:Hp->Tc->Prop):It:=
 ⟨λi H=>∃xs x,Sq H xs/\xs[i]?=Z x,λi H v H'=>∃p x,H p=Y/\v=.ref p/\H'=upd H p (.tup [.int i,x])/\∀xs,Sq H xs->xs[i]?=Z x,λi H=>∃xs,Sq H xs/\xs.length=i⟩
def tnE(e it:Uc)(It:Heap->Nat->Prop)(i:Nat)(h:Heap):Prop:=(∃a,IsEnum h e it i a)/\It h i
section
variable{P:Ue}{w:World}{K:Fg}{elts:T8}{x1:Nat}{tpos:Pos}
def IG{e it a:Uc}{Sq:Hp->Tc->Prop}{It:Heap->Nat->Prop}(hei:e≠it)
 (hobj:∀h i,It h i->∃o vs,h.get? it=Z o/\o.data=.fields vs) (hkeep:∀h h' i,It h i->(∀o,h.get? it=Z o->h'.get? it=Z o)->It h' i)
 (hinj:∀(X:Cx),X.K=K->∀bq σ H s,Inv X bq σ H s->∀xs ys,Sq H xs->Sq H ys->xs=ys)
 (draw:∀(X:Cx),X.prog=P->X.w=w->X.K=K->X.calm=true->∀bq σ H s,Inv X bq σ H s->∀xs,Sq H xs->(∃o vs,s.heap.get? it=Z o/\o.data=.fields vs)->(∃o vs,s.heap.get? e=Z o/\o.data=.fields vs)->∃(its:T5)(fp:Ta)(S:Nat->Heap->Prop),bA xs its/\e∉fp /\
  Draws P w X.A.in1 it fp its.length (λi v=>its[i]?=Z v) S/\(∀i,It s.heap i->S i s.heap)/\∀i h,S i h->It h i):
 Turn P w K (.Tuple elts x1 tpos) (Ite Sq) [e,it] e (tnE e it It) where
 mem:=by simp
 obj:=λi h st b hb=>by
  obtain⟨⟨old,h1⟩,h2⟩:=st;obtain rfl|hb:=List.mem_cons.mp hb
  .exact⟨_,h1,λv z=>by cases z⟩
  .obtain⟨o,vs,q1,q2⟩:=hobj _ _ h2;rw[List.mem_singleton.mp hb];exact⟨o,q1,λv z=>by rw[q2]at z;cases z⟩
 keep:=λi h h' st k=>by
  obtain⟨⟨old,h1⟩,h2⟩:=st;exact⟨⟨old,k e (by simp) _ h1⟩,hkeep _ _ _ h2 λo q=>k it (by simp) o q⟩
 item:=by
  intro X hP hw hK hc i bq s σ H E I hf st hg;obtain⟨xs,x,hq,hx⟩:=hg;obtain⟨⟨old,he⟩,hit⟩:=st;obtain⟨its,fp,S,rv,hef,D,s1,s2⟩:=draw X hP hw hK hc bq σ H s I xs hq (hobj _ _ hit) ⟨_,_,he,rfl⟩;subst hP hw hK;obtain⟨u,hu,ru⟩:=rv.get hx;have hlt:=(List.getElem?_eq_some_iff.mp hu).1;refine wpAny_pyNext_enum_itemD D he (s1 _ hit) hlt hei hef λv h1 tk hv ho st1 ht hsz hk=>⟨_,rfl,?_⟩;rw[hu]at hv;cases hv;refine wpAny_letOwnedTupleGo_enum ho λh2 he2 sb=>?_;have ne:=E9<|A9 he;have ht2:=(sb.2 _ ne).trans ht
  have I2:Inv X bq σ (upd H s.heap.objs.size (.tup [.int i,x])) { s with heap:=h2,toks:=tk+1 }:=by
   refine I.turnLay hf (λb o hb q=>(sb.2 b λz=>hb (by simp[z])).trans (hk b o (λz=>hb (by simp[z])) (λz=>hb (by simp[z])) q)) (A7 _) ⟨by show 2<=ba;rw[E4];decide,[.int i tk,u],.cons ⟨tk,rfl⟩ (.cons ru .nil),⟨_,ht2,rfl,_,rfl⟩⟩
  refine⟨.ref s.heap.objs.size,_,I2,rfl,⟨_,x,I.hok.fresh<|A7 _,rfl,rfl,λys hy=>by rw[hinj X rfl _ _ _ _ I ys xs hy hq];exact hx⟩,⟨⟨_,by have:=he2;push_cast;exact this⟩,?_⟩,λb hb=>?_⟩
  .exact hkeep _ _ _ (s2 _ _ st1) λo q=>(sb.2 it<|J7 hei).trans q
  .have hb0:=(hf b hb).1;rw[aK λz=>?_]
   .exact hb0
   .subst z;obtain q|q:=List.mem_cons.mp hb
    .exact ne q
    .obtain⟨o,vs,q1,_⟩:=hobj _ _ hit;rw[<- List.mem_singleton.mp q]at q1;exact absurd (A9 q1)<|L8 _
 done:=by
  intro X hP hw hK hc i bq s σ H E I hf st hg;obtain⟨xs,hq,hx⟩:=hg;obtain⟨⟨old,he⟩,hit⟩:=st;obtain⟨its,fp,S,rv,hef,D,s1,s2⟩:=draw X hP hw hK hc bq σ H s I xs hq (hobj _ _ hit) ⟨_,_,he,rfl⟩;subst hP hw hK;have hl:=rv.length;rw[hl]at hx;subst hx;exact wpAny_pyNext_enum_endD D he (s1 _ hit) λh1 hx=>⟨rfl,I.turnF hf λb o hb q=>hx b o (λz=>hb (by simp[z])) q⟩
 self:=λA i s Q E st h=>by
  obtain⟨⟨old,he⟩,_⟩:=st;exact wpAny_pyIter_enum he h
def TM{e it:Uc}(c:e≠it):Turn P w K (.Tuple elts x1 tpos) (Ite λH xs=>SqL K H a xs) [e,it] e (tnE e it λh i=>h.IsListIter it a i):=by
 refine IG (a:=a) c (λh i st=>?_) (λh h' i st k=>st.at k) (λX f bq l H s I xs C m r=>?_) λX t u f v bq l H s I xs x hi y=>?_
 .obtain⟨o,q,_,d⟩:=st;exact⟨o,_,q,d⟩
 .subst f;exact I.list_inj m r
 .subst t u f;obtain⟨its,B,p,D⟩:=I.list x
  have ne:∀b,(∃o vs,s.heap.get? b=Z o/\o.data=.fields vs)->a≠b:=λb ⟨o,vs,q,d⟩ z=>by
   subst z;obtain⟨o',g,_,n,j⟩:=p.isList;rw[q]at g;cases g;rw[d]at j;cases j
  refine⟨its,[it,a],λi h=>h.IsListIter it a i/\h.IsList a its.toArray,B,?_,?_,λi st=>⟨st,p.isList⟩,λi h st=>st.1⟩
  .intro z;obtain z|z:=List.mem_cons.mp z
   .exact c z
   .exact ne e y (List.mem_singleton.mp z).symm
  .have:=Draws.list (prog:=X.prog) (w:=X.w) (A:=X.A.in1) (I.ok.hd v) it a (ne it hi) its.toArray;simpa using this
def TR{e it:Uc}(c:e≠it):Turn P w K (.Tuple elts x1 tpos) (Ite λH xs=>SqT K H a xs) [e,it] e (tnE e it λh i=>h.IsTupleIter it a i):=by
 refine IG (a:=a) c (λh i st=>?_) (λh h' i st k=>st.at k) (λX f bq l H s I xs C m r=>?_) λX t u f v bq l H s I xs x hi y=>?_
 .obtain⟨o,q,_,d⟩:=st;exact⟨o,_,q,d⟩
 .subst f;exact I.tuple_inj m r
 .subst t u f;obtain⟨its,B,p,D⟩:=I.tuple x;have pt:=p
  have ne:∀b,(∃o vs,s.heap.get? b=Z o/\o.data=.fields vs)->a≠b:=λb ⟨o,vs,q,d⟩ z=>by
   subst z;obtain⟨o',g,_,n,j⟩:=pt;rw[q]at g;cases g;rw[d]at j;cases j
  refine⟨its,[it,a],λi h=>h.IsTupleIter it a i/\h.IsTuple a its.toArray,B,?_,?_,λi st=>⟨st,pt⟩,λi h st=>st.1⟩
  .intro z;obtain z|z:=List.mem_cons.mp z
   .exact c z
   .exact ne e y (List.mem_singleton.mp z).symm
  .have:=aAT (prog:=X.prog) (w:=X.w) (A:=X.A.in1) (I.ok.hd v) it a (ne it hi) its.toArray;simpa using this
end
section
variable{X:Cx}{elts:T8}{x1:Nat}{tpos:Pos}
def aIA(K:Fg)(c:TA):TI:=λd H R=>c d H λvs b=>∃a,vs=[.ref a]/\((∃xs,SqL K b a xs/\R (Ite λH xs=>SqL K H a xs) b)\/(∃xs,SqT K b a xs/\R (Ite λH xs=>SqT K H a xs) b))
def aGs{a:Ud}{m:TA}{p pos:Pos}(n:Gl X "enumerate")(hm:X.mg "enumerate"=Y)(ha:PA X [a] m)(hs:bf [a] X.env=[(false,eval a X.env)]:=by rfl):PI X (.Tuple elts x1 tpos) (.Call (.Name "enumerate" p) [a] [] pos) (aIA X.K m):=by
 intro bq s o H R I h;refine Call_<|nI I n hm boot_enumerate<|O0 (thn (ha pos bq s o H _ I h) λus s1 ⟨vs,g,c,t,u⟩=>?_) hs rfl;obtain⟨l,e,q⟩:=u;subst e;cases t with
 |cons r v=>
  cases v;cases r
  have fp:∀b∈[s1.heap.objs.size+1,s1.heap.objs.size],nZ X bq g b:=λb hb=>by
   obtain rfl|hb:=List.mem_cons.mp hb
   .exact c.fpOk (Z8 _)<|c.hok.fresh<|Z8 _
   .rw[List.mem_singleton.mp hb];exact c.fpOk (A7 _)<|c.hok.fresh<|A7 _
  obtain⟨xs,i,q⟩|⟨xs,i,q⟩:=q
  .obtain⟨its,w,p,x⟩:=c.list i;refine call_enumerate_list p.isList λh' f d j k=>?_;refine wpAny_pyIter_enum f ?_;exact⟨_,_,_,_,g,rfl,c.kept k,TM<|Nat.succ_ne_self _,⟨⟨_,f⟩,d⟩,fp,q⟩
  .obtain⟨its,w,p,x⟩:=c.tuple i;refine GG p λh' f d j k=>?_;refine wpAny_pyIter_enum f ?_;exact⟨_,_,_,_,g,rfl,c.kept k,TR<|Nat.succ_ne_self _,⟨⟨_,f⟩,d⟩,fp,q⟩
end
noncomputable def CF(ds:T4):T6:=ds.zipIdx.map λp=>.d (.tuple [.int (p.2:Nat),p.1])
def zL(f:AF):AF:=λa M=>(f a M).bind λr=>match r.1 with
 |[.d x]=>(bW x).bind λb=>Z (CF b,r.2)
 |_=>Y
def aAZ{i:Nat}{x:CD}(h:(CF ds)[i]?=Z x):∃d,ds[i]?=Z d/\x=.d (.tuple [.int (i:Nat),d]):=by
 unfold CF at h;rw[D3,List.getElem?_zipIdx]at h;cases e:ds[i]? with
 |none=>rw[e]at h;cases h
 |some d=>
  rw[e]at h;exact⟨d,rfl,by simpa using h.symm⟩
def aHe{K:Fg}{n:TA}{fa:AF}(b:SA K n fa):SI K (aIA K n) (zL fa):=by
 intro O M xs M' a W H A R G Rs k;obtain⟨⟨P,M1⟩,B,a⟩:=aJ a;refine b _ _ _ _ B W H A _ G Rs λvs g o q h C=>?_;revert a;dsimp only;split
 .rename_i y;intro a;obtain⟨j,D,a⟩:=aJ a;cases a;cases C with
  |cons r E=>
   cases E;obtain⟨p,us,rfl,hs,s⟩:=pQ r D
   have t:∀Sq:Hp->Tc->Prop,(∀c M2 e,g.Ext c->Good K c M2 e->Sq e us)->JO K (Ite Sq) (CF j) g:=λSq hS c M2 e f G2=>by
    have l:=hS c M2 e f G2;refine⟨λi x F=>?_,us,l,by rw[show(CF j).length=j.length by simp[CF],s.length]⟩;obtain⟨d,hd,rfl⟩:=aAZ F;obtain⟨u,w,I⟩:=Paired.get (lA s) (by rw[D3,hd];rfl);refine⟨⟨us,u,l,w⟩,λv Q J=>?_⟩;obtain⟨L,S,hn,rfl,rfl,m⟩:=J;have:=m us l;rw[w]at this;cases this;obtain⟨z,N⟩:=G2.lay hn;refine⟨_,z,N,⟨L,_,rfl,SqT.of aS,?_⟩⟩;exact⟨_,_,rfl,rfl,_,_,rfl,Rep.same z.ff _ _<|(I.up f),rfl⟩
   refine⟨p,rfl,?_⟩;obtain hs|hs:=hs
   .exact .inl ⟨us,h.fh.seq hs,k _ g o q h (t _ λc M2 e f G2=>G2.fh.seq<|f.ff.seq hs)⟩
   .exact .inr ⟨us,h.fh.seqT hs,k _ g o q h (t _ λc M2 e f G2=>G2.fh.seqT<|f.ff.seqT hs)⟩
 .intro a;cases a
def WB{ι:Type}{K:Fg}{X:ι->Cx}{a:Ud}{fa:AF}{pos:Pos}{p:Pos}(c:∀i,(X i).K=K)(hm:∀i,(X i).mg "enumerate"=Y)(x:MA K X [a] fa)(d:∀i,Gl (X i) "enumerate":=by intro _;rfl):MI K X (.Tuple elts x1 tpos) (.Call (.Name "enumerate" p) [a] [] pos) (zL fa):=by
 obtain⟨t,b,e⟩:=x.ex;exact⟨_,λi=>by have:=aGs (elts:=elts) (x1:=x1) (tpos:=tpos) (p:=p) (pos:=pos) (d i) (hm i) (b i)<|x.st.1 _;rw[c i]at this;exact this,aHe e⟩
end L2
namespace PySem
open PySem.Calls PyProof.Rows
abbrev yQ(x:Tz)(f:Bool)(d:Uc)(i n ep:Nat)(p q:Tz):Obj:=
 { cls:=.type "dict_itemiterator",dict:=Y,data:=.fields #[x,.bool f,.ref d,.int i 0,.int n 0,.int ep 0,p,q],slots:=#[] }
noncomputable abbrev duo(e:DictEntry):Obj:={ cls:=.type "tuple",data:=.seq #[e.key,e.val] }
def IR(h:Heap)(it d:Uc)(i n ep:Nat):Prop:=
 ∃x f p q,h.get? it=Z (yQ x f d i n ep p q)/\(x=.none\/∃a o,x=rawInt (a:Nat)/\h.get? a=Z o)
def Raw(h:Heap)(d:Uc)(es:Array DictEntry)(ep:Nat):Prop:=∃o,h.get? d=Z o/\o.data=.dict es ep
def Raw.to{h':Heap}(r:Raw h d es ep)(k:∀o,h.get? d=Z o->h'.get? d=Z o):Raw h' d es ep:=let⟨o,e,x⟩:=r;⟨o,k o e,x⟩
section
variable{prog:Ue}{w:World}{A:Uf}{E:T1}{s:Ub}{it d v:Uc}{es:Array DictEntry}{i n ep:Nat}
def SV(d:Uc)(hd:(d==sysModules)=false):MeetsIn prog w (Builtin.«dict.items» ⟨[.ref d],[]⟩) λ_ R s=>s.TypeIs (.ref d) "dict" /\
 R (.ok (.ret (.ref s.heap.objs.size))) { s with heap:=s.heap.push { cls:=.type "dict_items",data:=.fields #[.ref d] } }:=
 .of_wp λA R s ⟨ty,h⟩=>by
  have q:Builtin.Dict.showsAll d=pure ():=by unfold Builtin.Dict.showsAll;rw[hd];rfl
  show bc _ _ (Builtin.Dict.noArgs _ _ >>= λ_=>_) _ _ s;refine A0<|A0<|wpAny_notOrdered_dict ty<|A6 (?_:bc _ _ (Builtin.Dict.showsAll d >>= _) _ _ s);rw[q];exact A0<|A6<|A0<|D1<|A6 ⟨_,rfl,h⟩
def US{Q:T1}(a:s.heap.IsItemsView v d)(r:Raw s.heap d es ep)
 (h:Q (.ref s.heap.objs.size) { s with heap:=s.heap.push (yQ .none false d 0 es.size ep .none .none) }):bc (bb prog w) A (pyIter (.ref v)) Q E s:=by
 obtain⟨ov,e,g,f⟩:=id a;obtain⟨o,b,c⟩:=r;refine wpAny_pyIter_slot a.typeIs F.slot_dict_items_iter<|L6 F.slot_dict_items_iter a.typeIs F.entry_dict_items_iter (A0<|A6<|A0 (?_:bc _ _ (field (.ref v) 0 >>= _) _ _ s))<|F.args_dict_items_iter_1 _;refine A0<|F8 e f rfl<|A6<|A0 (?_:bc _ _ (Builtin.Dict_items.newIterator _ d) _ _ s);refine A0<|wpAny_dictEntries b c<|A0<|wpAny_dictEpoch b c ?_;rw[show Builtin.Dict_items.ownsTuple "dict_itemiterator"=true from by decide];refine D1 (A6 ⟨_,rfl,_,_,⟨_,B3 _ rfl,rfl⟩,F.slot_dict_itemiterator_next.lookup,?_⟩) (by simp[sizeOk,Builtin.Dict_items.ownedTupleFields,sizeLine_eq]);exact h
def aCT{Q:T1}(st:IR s.heap it d i n ep)
 (h:∀h',IR h' it d i n ep->h'.get? s.heap.objs.size=Z (duo e)->(∀b o,b≠it->s.heap.get? b=Z o->h'.get? b=Z o)->Q (.ref s.heap.objs.size) { s with heap:=h' }):
 bc (bb prog w) A (Builtin.Dict_items.pairFromOwner (.ref it) 6 e.key e.val) Q E s:=by
 obtain⟨H,g,J,tk,os⟩:=s;obtain⟨x,f,p,q,D,K⟩:=st;have lt:=A9 D;have new:(H.push<|duo e).get? H.objs.size=Z (duo e):=B3 _ rfl;have j:∀b o,H.get? b=Z o->(H.push<|duo e).get? b=Z o:=λb o=>A3 _;refine A0<|wpAny_newTuple ?_;generalize H.push (duo e)=G at new j ⊢;have k:=j it _ D
 have l:∀h' r y z B,h'.get? it=Z (yQ r y d i n ep z B)->(r=.none\/∃a o,r=rawInt (a:Nat)/\G.get? a=Z o)->Heap.SameBut it G h'->Q (.ref H.objs.size) ⟨h',g,J,tk,os⟩:=by
  intro h' r y z B F t u;refine h h' ⟨r,y,z,B,F,t.imp id ?_⟩ (u.extBut _ _ (E9 lt) new) λb o L e=>u.extBut b o L<|j b o e;rintro⟨a,o,m,M⟩;by_cases c:a=it
  .exact⟨a,_,m,c▸F⟩
  .exact⟨a,o,m,u.extBut a o c M⟩
 refine A0<|A0<|F8 k rfl rfl ?_;obtain rfl|⟨a,o,rfl,m⟩:=K
 .refine A6<|A0<|F8 k rfl rfl<|A0<|F8 k rfl rfl<|A0 (Y5 k (by simp) λI C t=>?_);refine A0 (Y5 C (by simp) λU N u=>A0 (Y5 N (by simp) λV O P=>A0 (Y5 O (by simp) λR S T=>?_)));exact A0<|wpAny_letGo<|A6<|l R _ _ _ _ S (.inr ⟨_,_,rfl,new⟩)<|((t.trans u).trans P).trans T
 .have al:(loadIfAlive ((a:Int).toNat):Sem (Tw Obj))=loadIfAlive a:=by rfl
  show bc _ _ (loadIfAlive ((a:Int).toNat) >>= _) _ _ _;refine A0<|W.kdx_alive (j a o m) ?_;refine A0<|F8 k rfl rfl ?_;cases f
  .exact A0 (Y5 k (by simp) λI C t=>A6<|A6<|l I _ _ _ _ C (.inr ⟨a,o,rfl,j a o m⟩) t)
  .exact A6<|A6<|l G _ _ _ _ k (.inr ⟨a,o,rfl,j a o m⟩)<|Heap.SameBut.refl _ _
def SZ{Q:Tf->Ub->Prop}(I:A.handled=Y)(st:IR s.heap it d i es.size ep)(r:Raw s.heap d es ep)(ne:d≠it)
 (J:∀e,es[i]?=Z e->∀h',IR h' it d (i+1) es.size ep->h'.get? s.heap.objs.size=Z (duo e)->(∀b o,b≠it->s.heap.get? b=Z o->h'.get? b=Z o)->Q (Z (.ref s.heap.objs.size)) { s with heap:=h' })
 (K:es[i]?=Y->∀h',Heap.ExtBut it s.heap h'->Q Y { s with heap:=h' }):bc (bb prog w) A (pyNext (.ref it)) Q E s:=by
 obtain⟨H,g,z,tk,os⟩:=s;obtain⟨x,f,p,q,j,L⟩:=st;obtain⟨od,B,C⟩:=r;have ty:Shared.TypeIs ⟨H,g,z,tk,os⟩ (.ref it) "dict_itemiterator":=⟨_,j,rfl⟩;have own:Builtin.Dict_items.ownsTuple "dict_itemiterator"=true:=by decide
 refine A0<|wpAny_attempt<|O9 ty F.slot_dict_itemiterator_next<|L6 F.slot_dict_itemiterator_next ty F.entry_dict_itemiterator_next (A0<|A6<|A0<|A0 ?_)<|F.args_dict_itemiterator_next_1 _;refine A0<|A0g ty<|A6<|A0<|wpAny_fieldsOf j rfl ?_;refine A0<|A6<|A0<|wpAny_dictEntries B C ?_;rw[A5 (by simp)];refine A0<|A6<|A0<|wpAny_dictEpoch B C ?_;rw[A5 (by simp)];refine A6 ?_;have pl:(if (i:Int)<0 then Y else es[(i:Int).toNat]?)=es[i]?:=by rfl
 simp only[pl];cases c:es[i]? with
 |some e=>
  refine A0<|A0<|A0g ty<|A6<|A0<|wpAny_isOneOf_itemiter ty ?_;refine A0 (Y5 j (k:=3) (by simp) λh' l m=>A0<|F5 ?_)
  have t:IR h' it d (i+1) es.size ep:=by
   refine⟨x,f,p,q,l,L.imp id λ⟨a,o,D,M⟩=>?_⟩;by_cases c:a=it
   .exact⟨a,_,D,c▸l⟩
   .exact⟨a,o,D,m.extBut a o c M⟩
  have h:Shared.TypeIs ⟨h',g,z,tk,os⟩ (.ref it) "dict_itemiterator":=⟨_,l,rfl⟩;refine A0<|wpAny_isOneOf_itemiter h<|A0<|wpAny_isOneOf_itemiter h (aCT t λu y t2 N=>?_);have sz:=m.1;refine A6 ⟨_,rfl,A6 ?_⟩;rw[sz]at t2 ⊢;exact J e c u y t2 λb o G O=>N b o G<|m.extBut b o G O
 |none=>
  refine A0<|A0<|A0g ty<|A6<|A0<|Y0 j (i:=2) rfl (by simp)<|A0 ?_;refine A0<|D1 (A0<|wpAny_of_eq rfl<|D1 ?_ (by size_fits)) (by size_fits);refine A0<|wpAny_handled ?_;rw[show A.in1.handled=Y from I];refine A0<|A6<|wpAny_throw ?_;refine A0<|wpAny_isInstance ⟨_,B3 _ rfl,rfl⟩ isSubtype_stop ?_;exact A6<|K c _<|((S2 ..).extBut.push _).push _
end
structure Handed(es:Array DictEntry)(lo:Uc)(h:Heap)(as:Ta):Prop where
 rise:as.Pairwise (·<·)
 above:∀a∈as,lo<a
 duos:∀(j:Nat)(a:Uc),as[j]?=Z a->∃e,es[j]?=Z e/\h.get? a=Z (duo e)
def Handed.to{lo b:Uc}{h':Heap}(g:Handed es lo h as)(l:b<=lo)(k:∀a o,lo<a->h.get? a=Z o->h'.get? a=Z o):Handed es b h' as:=
 ⟨g.rise,λa ha=>Nat.lt_of_le_of_lt l<|g.above a ha,λj a ha=>let⟨e,x,y⟩:=g.duos j a ha;⟨e,x,k a _ (g.above a<|S6 ha) y⟩⟩
def Handed.more{lo a:Uc}{e:DictEntry}(g:Handed es lo h as)(up:∀b∈as,b<a)(i:lo<a)(k:es[as.length]?=Z e)(ha:h.get? a=Z (duo e)):Handed es lo h (as++[a]):=by
 refine⟨List.pairwise_append.mpr ⟨g.rise,List.pairwise_singleton _ _,λb f c l=>by rw[List.mem_singleton.mp l];exact up b f⟩,λb f=>?_,λj b d=>?_⟩
 .exact(List.mem_append.mp f).elim (g.above b) λq=>List.mem_singleton.mp q▸i
 .rw[List.getElem?_append]at d;split at d
  .exact g.duos j b d
  .have z:j-as.length=0:=by
    have:=(List.getElem?_eq_some_iff.mp d).1;simp at this;omega
   rw[z]at d;cases d;exact⟨e,by rw[show j=as.length by omega];exact k,ha⟩
abbrev rowOf(acc:Ti)(c:Nat):Obj:={ cls:=.type "list",dict:=Y,data:=.seq acc c,slots:=#[] }
section
variable{prog:Ue}{w:World}{A:Uf}{E:T1}{s:Ub}{S I d v:Uc}{es:Array DictEntry}{ep:Nat}{R:Result->Ub->Prop}{res:Tz}
def UI(V:A.handled=Y)(M:S<I)(W:d≠S)(N:d≠I)(hn:es.size<=ba):
 ∀(m i:Nat)(h:Heap)(tk c:Nat)(acc:Ti)(as:Ta),i+m=es.size->IR h I d i es.size ep->Raw h d es ep->h.get? S=Z (rowOf acc c)->acc.toList=as.map Value.ref->as.length=i->Handed es I h as->I<h.objs.size->
  (∀h' tk acc c as,(∀b o,b≠S->b≠I->h.get? b=Z o->h'.get? b=Z o)->h'.get? S=Z (rowOf acc c)->as.length=es.size->Handed es I h' as->acc.toList=as.map Value.ref->R (.ok (.ret res)) { s with heap:=h',toks:=tk })->
  bj (bb prog w) A (.builtin "list.extend.loop" ⟨[.ref S,.ref I,res],[]⟩) R { s with heap:=h,toks:=tk }:=by
 intro m
 induction m using Nat.strongRecOn with
 |_ m ih=>
  intro i h tk c acc as em st r hS O el D P n;have G:=B4 M;refine A0m F.entry_extend_loop ?_;refine A0 (SZ V st r N (λe H z J t1 g=>?_) λH z g=>?_)
  .have X:=(Array.getElem?_eq_some_iff.mp H).1;have za:acc.size=i:=by rw[<- L5,O,A1,el]
   have lS:=A9 hS;have t:=g S _ G hS;have l:∀b o,b≠S->z.get? b=Z o->(z.update S (Obj.mapSeq (·.push (Value.ref h.objs.size)))).get? b=Z o:=λb o nb e=>(E7 _ _<|J7 nb).trans e;have u:=F9 (Obj.mapSeq (·.push (Value.ref h.objs.size))) t rfl;have Q:=l _ _ (E9 lS) t1;refine A0<|wpAny_updateSeq t rfl (A6 ⟨plainId_quiet F.plain_extend_loop _,?_⟩) (by omega) (by grind)
   refine ih (m-1) (by omega) (i+1) _ tk _ (acc.push<|Value.ref h.objs.size) (as++[h.objs.size]) (by omega) ?_ (r.to λo e=>l d o W<|g d o N e) u (by grind) (by grind)
    ((D.to (A7 _) λa o B e=>l a o (E9<|S7 M B)<|g a o (E9 B) e).more (λb hb=>?_) P (by grind) Q) (S7 P<|A9 Q)
    λh' K acc' c' L k=>n h' K acc' c' L λb o T C e=>k b o T C<|l b o T<|g b o C e
   .obtain⟨x,f,p,q,w1,hx⟩:=J;refine⟨x,f,p,q,l _ _ (J7 G) w1,hx.imp id λ⟨a,o,U,e2⟩=>?_⟩;by_cases q:a=S
    .subst q;exact⟨a,_,U,u⟩
    .exact⟨a,o,U,l a o q e2⟩
   .obtain⟨j,hj⟩:=List.mem_iff_getElem?.mp hb;obtain⟨_,_,y⟩:=D.duos j b hj;exact A9 y
  .have X:=Array.getElem?_eq_none_iff.mp H;exact A6<|n z tk acc c as (λb o _ C e=>g b o C e) (g S _ G hS) (by omega) (D.to (A7 _) λa o B e=>g a o (E9 B) e) O
def ZK{Q:T5->Ub->Prop}(J:A.handled=Y)(z:s.heap.IsItemsView v d)(r:Raw s.heap d es ep)(hn:es.size<=ba)
 (K:∀(h':Heap)(tk:Nat)(as:Ta),(∀b o,s.heap.get? b=Z o->h'.get? b=Z o)->as.length=es.size->Handed es s.heap.objs.size h' as->Q (as.map Value.ref) { s with heap:=h',toks:=tk }):
 bc (bb prog w) A (collect (.ref v)) Q E s:=by
 obtain⟨H,g,n,tk,os⟩:=s;have L:=let⟨_,p,_⟩:=z;A9 p;have ld:=let⟨_,p,_⟩:=r;A9 p;refine A0<|wpAny_runValue<|A0m entry_proto_collect' ?_;refine A0<|D1<|A6 ⟨plainId_quiet PySem.F.plain_list_iadd _,A0m entry_list_iadd' ?_⟩;have l:∀b o,H.get? b=Z o->(H.push<|rowOf #[] 0).get? b=Z o:=λb o e=>A3 _ e;have B:=(B3 H (o:=rowOf #[] 0) rfl);have M:(H.push<|rowOf #[] 0).objs.size=H.objs.size+1:=S5 ..;show bc _ A.in1 (Builtin.List.listExtendWith (.ref H.objs.size) (.ref v) (.ref H.objs.size)) _ _ ⟨H.push<|rowOf #[] 0,g,n,tk,os⟩;generalize H.push (rowOf #[] 0)=G at l B M ⊢;have i:H.objs.size<G.objs.size:=by omega
 have f:G.IsItemsView v d:=let⟨o,a,b⟩:=z;⟨o,l _ _ a,b⟩;refine A0<|A0o (f.typeIs) ?_;rw[show Builtin.List.listSameRef (.ref H.objs.size) (.ref v)=false from by simp[Builtin.List.listSameRef,Nat.ne_of_gt L]];refine A0<|US f (r.to λo e=>l d o e)<|A0<|F5<|W.kdx_hint (let⟨o,a,b,_⟩:=f;⟨o,A3 _ a,b⟩) ?_;have m:∀b o,G.get? b=Z o->(G.push<|yQ .none false d 0 es.size ep .none .none).get? b=Z o:=λb o e=>A3 _ e;have t:=B3 G (o:=yQ .none false d 0 es.size ep .none .none) rfl;generalize G.push (yQ .none false d 0 es.size ep .none .none)=F at m t ⊢
 have go:∀h c,(∀b o,b≠H.objs.size->F.get? b=Z o->h.get? b=Z o)->h.get? H.objs.size=Z (rowOf #[] c)->
  bj (bb prog w) A (.builtin "list.extend.loop" ⟨[.ref H.objs.size,.ref G.objs.size,.ref H.objs.size],[]⟩) (λr s'=>match r with|.ok (.ret v)=>bc (bb prog w) A (match v with|.ref a=>load a >>= λo=>(match o.data with|.seq xs _=>pure xs.toList|_=>unsupported "internal:collect")|_=>unsupported "internal:collect") Q E s'|.ok _=>False|.error e=>E e s') ⟨h,g,n,tk,os⟩:=λh c k hS=>
  UI (s:=⟨H,g,n,tk,os⟩) J i (B4 ld) (B4<|S7 ld i) hn es.size 0 h tk c #[] [] (Nat.zero_add _) ⟨_,_,_,_,k _ _ (E9 i) t,.inl rfl⟩ (r.to λo e=>k _ _ (B4 ld)<|m _ _<|l _ _ e) hS rfl rfl
   ⟨.nil,(λ_ q=>nomatch q),λj a q=>by simp at q⟩ (A9<|k _ _ (E9 i) t) λh' u acc c as N x el O P=>A0 (wpAny_load x (A6 (by
    rw[P];exact K h' u as (λb o e=>N b o (B4 (A9 e)) (B4 (S7 (A9 e) i)) (k b o (B4 (A9 e)) (m b o (l b o e)))) el (O.to (U6 i) λ_ _ _ e=>e))))
 have y:=m _ _ B;have C:=F9 (Obj.mapSeq (·.push Value.none)) y rfl;refine wpAny_ite_split (λ_=>A0 (wpAny_rule (A0 (A0 (wpAny_updateSeq y rfl (wpAny_updateSeq C rfl (A6 ⟨plainId_quiet PySem.F.plain_extend_loop _,go _ _ (λb o D e=>?_) (F9 (Obj.mapSeq (·.pop)) C rfl)⟩))))))) λ_=>A6 ⟨plainId_quiet PySem.F.plain_extend_loop _,go _ _ (λ_ _ _ e=>e) y⟩;rw[E7 _ _ (J7 D),E7 _ _<|J7 D];exact e
end
end PySem
namespace PySem
open PySem.Calls PyProof.Rows
section
variable{prog:Ue}{w:World}{A:Uf}{E:T1}{s:Ub}{it d:Uc}{es:Array DictEntry}{i ep:Nat}
def aAi{Q:T1}(hd:(d==sysModules)=false)(ty:s.TypeIs (.ref d) "dict")(r:Raw s.heap d es ep)
 (h:Q (.ref s.heap.objs.size) { s with heap:=s.heap.push { cls:=.type "dict_keyiterator",data:=.fields #[.ref d,.int 0 0,.int es.size 0,.int ep 0] } }):bc (bb prog w) A (pyIter (.ref d)) Q E s:=by
 obtain⟨o,a,b⟩:=r;have q:Builtin.Dict.showsAll d=pure ():=by unfold Builtin.Dict.showsAll;rw[hd];rfl
 refine wpAny_pyIter_slot ty F.slot_dict_iter<|L6 F.slot_dict_iter ty F.entry_dict_iter (A0<|A0<|wpAny_notOrdered_dict ty<|A6 (?_:bc _ _ (Builtin.Dict.showsAll d >>= _) _ _ s))<|F.args_dict_iter_1 _;rw[q];refine A0<|A6<|A0<|wpAny_dictEntries a b<|A0<|wpAny_dictEpoch a b<|A0<|D1<|A6 ⟨_,rfl,_,_,⟨_,B3 _ rfl,rfl⟩,F.slot_dict_keyiterator_next.lookup,?_⟩;exact h
def IS{Q:Tf->Ub->Prop}(h:A.handled=Y)(st:s.heap.IsKeyIter it d i es.size ep)(r:Raw s.heap d es ep)
 (j:∀e,es[i]?=Z e->∀h',h'.IsKeyIter it d (i+1) es.size ep->Heap.SameBut it s.heap h'->Q (Z e.key) { s with heap:=h' })
 (k:es[i]?=Y->∀h',Heap.ExtBut it s.heap h'->Q Y { s with heap:=h' }):bc (bb prog w) A (pyNext (.ref it)) Q E s:=by
 obtain⟨o,b,l,f0⟩:=id st;obtain⟨od,f,g⟩:=r;have ty:=st.typeIs;have own:Builtin.Dict_items.ownsTuple "dict_keyiterator"=false:=by decide
 refine A0<|wpAny_attempt<|O9 ty F.slot_dict_keyiterator_next<|L6 F.slot_dict_keyiterator_next ty F.entry_dict_keyiterator_next (A0<|A6<|A0<|A0 ?_)<|F.args_dict_keyiterator_next_1 _;refine A0<|A0j ty<|A6<|A0<|wpAny_fieldsOf b f0 ?_;refine A0<|A6<|A0<|wpAny_dictEntries f g ?_;rw[A5 (by simp)];refine A0<|A6<|A0<|wpAny_dictEpoch f g ?_;rw[A5 (by simp)];refine A6 ?_;have pl:(if (i:Int)<0 then Y else es[(i:Int).toNat]?)=es[i]?:=by rfl
 simp only[pl];cases c:es[i]? with
 |some e=>
  refine A0<|A0<|A0j ty<|A6<|A0<|wpAny_isOneOf_keyiter ty ?_;refine A0<|Y0 b (i:=1) f0 (by simp) ?_
  have a:(s.heap.update it (Obj.mapFields (·.setIfInBounds 1 (rawInt ((i:Int)+1))))).IsKeyIter it d (i+1) es.size ep:=
   ⟨_,F9 _ b<|A0d<|O4 f0 _,(Obj.cls_mapFields ..).trans l,by rw[O4 f0];simp[rawInt]⟩
  refine A0<|F5<|A0<|wpAny_isOneOf_keyiter a.typeIs ?_;exact A6<|A6 ⟨_,rfl,A6<|j e c _ a<|S2 ..⟩
 |none=>
  refine A0<|A0<|A0j ty<|A6<|A0<|Y0 b (i:=0) f0 (by simp)<|A0 ?_;refine A0<|D1 (A0<|wpAny_of_eq rfl<|D1 ?_ (by size_fits)) (by size_fits);refine A0<|wpAny_handled ?_;rw[show A.in1.handled=Y from h];refine A0<|A6<|wpAny_throw ?_;refine A0<|wpAny_isInstance ⟨_,B3 _ rfl,rfl⟩ isSubtype_stop ?_;exact A6<|k c _<|((S2 ..).extBut.push _).push _
def JE{h h':Heap}{it d:Uc}{i ep:Nat}(x:h.IsKeyIter it d i n ep)(k:∀o,h.get? it=Z o->h'.get? it=Z o):h'.IsKeyIter it d i n ep:=let⟨o,a,r⟩:=x;⟨o,k o a,r⟩
def ZO(hh:A.handled=Y)(ne:d≠it):
 Walks prog w A it [it,d] [it] es.size (λi v=>(es[i]?).map (·.key)=Z v) (λi h=>h.IsKeyIter it d i es.size ep/\Raw h d es ep) where
 sub:=λb hb=>by simp at hb;simp[hb]
 frame:=λ_ _ _ st hk=>⟨JE st.1 λo e=>hk it (by simp) o e,st.2.to λo e=>hk d (by simp) o e⟩
 item:=λi s Q E hi st hQ=>by
  have hx:=Array.getElem?_eq_getElem hi;refine IS hh st.1 st.2 (λe he h' st' sb=>?_) λhn=>by rw[hx]at hn;cases hn
  exact hQ _ h' s.toks (by grind) ⟨st',st.2.to λo e=>sb.extBut d o ne e⟩ λb o hb e=>sb.extBut b o (λh=>hb (by simp[h])) e
 done:=λs Q E st hQ=>by
  have hx:es[es.size]?=Y:=Array.getElem?_eq_none<|A7 _;refine IS hh st.1 st.2 (λe he=>by rw[hx]at he;cases he) λ_ h' sb=>hQ h' s.toks λb o hb e=>sb b o (λh=>hb (by simp[h])) e
 self:=λ_ _ _ _ st hQ=>wpAny_pyIter_keyiter st.1 hQ
def aBy{o:Obj}(hd:(d==sysModules)=false)(cl:o.cls=.type "dict")(dt:o.data=.dict es ep):W.KdlSrc prog w "dict" d d es.size (λi v=>(es[i]?).map (·.key)=Z v) (λh=>h.get? d=Z o) where
 type:=λs ho=>⟨o,ho,cl⟩
 there:=λh ho=>⟨A9 ho,A9 ho⟩
 keep:=λh h' ho k=>k d (.inl rfl) o ho
 notList:=by decide
 notTuple:=by decide
 hint:=λA E s Q ho q=>W.kdl_hint_dict ⟨o,ho,cl⟩ q
 iter:=λA s hh ho=>⟨_,λi h=>h.IsKeyIter s.heap.objs.size d i es.size ep/\Raw h d es ep,(λE Q q=>aAi hd ⟨o,ho,cl⟩ ⟨o,ho,dt⟩ q),ZO hh<|B4<|A9 ho,⟨_,B3 _ rfl,rfl,rfl⟩,o,A3 _ ho,dt⟩
end
end PySem
namespace PySem.W
open PySem PySem.Calls PyProof.Rows PyProof.V PySem.Spec
section
variable{prog:Ue}{w:World}{A:Uf}{E:T1}{s:Ub}{h₀:Heap}{L:Uc}{m:Str->Tf}{news:T2}{vs:T5}
def l2_tail{Q:T1}(F:Fr h₀ L s.heap m)(N:News h₀ L s.heap news)(t:2<=vs.length)(e:vs.length<64)
 (h:∀D d h',Fr h₀ L h' m->News h₀ L h' ((D,seqObj "list" #[] d)::news)->(∀q∈news,q.1<D)->
  bc (bb prog w) A.in1 (keyKind' vs.toArray) (λk s'=>(kas_sort vs.length).kasWp (kas_ask prog w A.in1 k vs) (λp a=>KasFin h₀ L m D d (p.toList.map λi=>vs.getD i Value.none) (λs3=>Q (.ref D) s3) a) s') (λ_ _=>False) { s with heap:=h' }):
 bc (bb prog w) A (do let l <- newList vs;let _ <- holding [l] (call (.builtin "list.sort") [l]);ret l) (λf s'=>∃v,f=.done (.ret v)/\Q v s') E s:=by
 refine A0<|wpAny_newList ?_ (by rw[E4];omega);have c:(s.heap.push<|seqObj "list" vs.toArray 0).get? s.heap.objs.size=Z (seqObj "list" vs.toArray 0):=B3 _ rfl;have keep:∀b o,s.heap.get? b=Z o->(s.heap.push<|seqObj "list" vs.toArray 0).get? b=Z o:=λb o q=>A3 _ q;have n:=F.ns.lt;refine A0<|F5<|L6 slot_list_sort ⟨_,c,rfl⟩ entry_list_sort ?body<|args_list_sort _
 case body=>
  refine kat_list_sort (F.kept keep) (N.grown keep) c (E9 n) (U2<|C6 F.above<|U6 n)
   (λp u=>B4<|A9 (N p u).1) t e λd h' y N'=>?_
  refine E3 (h _ d h' y N' λq g=>A9 (N q g).1) (λk s' r=>?_) λ_ _ x=>x;rw[kat_ask_eq rfl]at r ⊢;exact kas_wp_mono r λp a j=>j.mono λs3 g=>⟨_,rfl,A6 ⟨_,rfl,g⟩⟩
end
end PySem.W
namespace L2
variable{A:Uf}{H:Hp}
open PySem PySem.Spec PyProof.Rows
section
variable{X:Cx}{bq:T2}{σ:St}{H:Hp}{s:Ub}{E:T1}
noncomputable def nN(its:T5):Sem PySem.Fin:=do let l <- newList its;let _ <- holding [l] (call (.builtin "list.sort") [l]);ret l
def aCf(K:Fg)(vs:Tc)(H:Hp)(Q:VK):Prop:=
 (∃a:Tv (T4),aM K H (a.map .tuple) vs/\2<=a.length/\a.length<64/\(∀r∈a,r.all bo=true/\cB r=true)/\(iD a=true\/kK a=true)/\(∀i j,i<a.length->j<a.length->(cY (a.getD i [])<|a.getD j []).isSome=true) /\
  ∀l,H l=Y->Q (.ref l) (upd H l (.lst ((cX (dH a) a.length).map λi=>vs.getD i .non))))\/(vs.length<2/\∀l,H l=Y->Q (.ref l) (upd H l (.lst vs)))
def aJG{a:Tv (T4)}{Q:VK}(hu:A.in1.units+64<cLine)(I:Inv X bq σ H s)(rv:bA vs its)(g:aM X.K H (a.map .tuple) vs)(h2:2<=a.length)(T:a.length<64)
 (f:∀r∈a,r.all bo=true/\cB r=true) (h:iD a=true\/kK a=true) (t:∀i j,i<a.length->j<a.length->(cY (a.getD i [])<|a.getD j []).isSome=true)
 (q:∀l,H l=Y->Q (.ref l) (upd H l (.lst ((cX (dH a) a.length).map λi=>vs.getD i .non)))):
 bc (bb X.prog X.w) A (nN its) (λU s'=>∃v,U=.done (.ret v)/\∃x H',Inv X bq σ H' s'/\RelV x v/\Q x H') E s:=by
 obtain⟨as,u⟩:=aM.reads I _ vs its g rv;have k:its.length=a.length:=by rw[ReadsAll.len u,A1]
 obtain⟨m,F⟩:=I.fr;have N:News X.base X.env.locals s.heap (lY X.base s.heap X.env.locals):=QK;refine W.l2_tail F N (by omega) (by omega) λD e1 h' F' N' hD=>?_
 have kp:∀(R:Heap),Fr X.base X.env.locals R m->(∀q∈lY X.base s.heap X.env.locals,R.get? q.1=Z q.2)->∀b o,b≠X.env.locals->s.heap.get? b=Z o->R.get? b=Z o:=λR G1 M1 b o hb e=>by
  cases z:X.base.get? b with
  |some v=>
   have:=I.bk b v z;rw[e]at this;cases this;exact G1.keep b _ z
  |none=>exact M1 (b,o)<|lN hb z e
 have k':=kp h' F' λq B=>(N' q<|B1 _ B).1
 have G:s.heap.get? D=Y:=by
  have hN:=N' _ B0;cases e:s.heap.get? D with
  |none=>rfl
  |some o=>exact absurd (hD (D,o)<|lN hN.2.1 hN.2.2 e)<|L8 _
 have J:∀b o vs n,s.heap.get? b=Z o->o.data=.seq vs n->b≠X.env.locals:=λb o vs n e d z=>by
  obtain⟨o',es,ep,x1,x2,_⟩:=F.ns;subst z;rw[e]at x1;cases x1;rw[d]at x2;cases x2
 have a0:cB (a.map .tuple)=true:=by
  clear g u k q h t h2 T
  induction a with
  |nil=>rfl
  |cons x r ih=>
   show(cB x&&cB (r.map .tuple))=true;rw[(f x B0).2,ih λy hy=>f y<|B1 _ hy];rfl
 have L:=XU (λb o vs n e d=>k' b o (J b o vs n e d) e) _ _ _ a0 u;refine HJ L (by omega) h ?_;rw[k];refine KS.wp (λi j C hi S c=>?_) (λp a1=>?_)<|(MQ (by omega)).ks (lt:=dH a)
 .have at_:∀i,i<a.length->∃bs,Reads h' (its.getD i .none) (.tuple (a.getD i [])) bs:=λi hi=>by
   obtain⟨bs,x⟩:=ReadsAll.at i L (by grind)
   have:(a.map PyData.tuple).getD i .none=.tuple (a.getD i []):=by
    rw[D2,D3,D2,C4 hi];rfl
   rw[this]at x;exact⟨bs,x⟩
  obtain⟨b1,r1⟩:=at_ i hi;obtain⟨b2,r2⟩:=at_ j S
  have mem:∀i,i<a.length->a.getD i []∈a:=λi hi=>by
   rw[D2,C4 hi];exact S0 hi
  have hd:iD a=true->∀r∈a,r.head?.all isI=true:=λz r u=>by
   have:=List.all_eq_true.mp z r u;cases r with
   |nil=>rfl
   |cons d ds=>cases d<;>first|rfl|exact absurd this (by simp)
  obtain⟨c0,M⟩:=Option.isSome_iff_exists.mp<|t i j hi S;have hc:dH a i j=c0:=by unfold dH;rw[M];rfl
  rw[hc]at c;exact aEd hu r1 r2 (f _<|mem i hi).1 (f _<|mem j S).1 M (λz=>⟨hd z _<|mem i hi,hd z _<|mem j S⟩) c
 .obtain⟨e,_⟩:=a1;subst e;refine W.KasFin.intro F' N' (.head λq B=>B4<|hD q B) λa2 c O P=>?_;have a3:=kp a2 O (λq B=>(P q<|B1 _ B).1);refine⟨.ref D,upd H D (.lst ((cX (dH a) a.length).map λi=>vs.getD i .non)),?_,rfl,q D<|I.hok.none G⟩;refine I.laidL a3 (λm' a4=>?_) G ⟨?_,_,c,zC rv _,(P _ B0).1⟩
  .rw[<- XB F.ns a4];exact O.ns
  .rw[A1,(lZ (dH a) (by omega)).length_eq,Y2];have:64<=ba:=by decide
   omega
def aBw{A:Uf}{Q:VK}(I:Inv X bq σ H s)(f:bA vs its)(n:vs.length<2)(q:∀l,H l=Y->Q (.ref l) (upd H l (.lst vs))):
 bc (bb X.prog X.w) A (nN its) (λa s'=>∃v,a=.done (.ret v)/\∃x H',Inv X bq σ H' s'/\RelV x v/\Q x H') E s:=by
 have p:=f.length;have h:its.length<=ba:=by rw[E4];omega
 refine A0<|wpAny_newList ?_ h;refine A0<|F5 ?_;have d:(s.heap.push { cls:=.type "list",data:=.seq its.toArray }).get? s.heap.objs.size=Z (seqObj "list" its.toArray 0):=B3 _ rfl;refine L6 slot_list_sort ⟨_,d,rfl⟩ entry_list_sort (AU d (by omega) ⟨_,rfl,?_⟩)<|args_list_sort _
 obtain⟨c,i⟩:∃c,(sortedHeap (s.heap.push { cls:=.type "list",data:=.seq its.toArray }) s.heap.objs.size its its.toArray).get? s.heap.objs.size=Z (seqObj "list" its.toArray c):=by
  have j:=A0r d (λ_=>#[]);have k:=A3 (seqObj "tuple" its.toArray 0) j;have m:=A3 (seqObj "list" #[] 0) k;exact⟨_,A0r m λ_=>its.toArray⟩
 refine A6 ⟨_,rfl,.ref s.heap.objs.size,upd H s.heap.objs.size (.lst vs),I.laid (λb o e=>?_) (A7 _) ⟨by omega,its,c,f,i⟩,rfl,q _<|I.hok.fresh<|A7 _⟩
 .have g:=B4<|A9 e;unfold sortedHeap;rw[Heap.get?_update_ne _ _ _ _ g];refine A3 _<|A3 _ ?_;rw[Heap.get?_update_ne _ _ _ _ g];exact A3 _ e
def aLF(l:A.in1.units+64<cLine)(I:Inv X bq σ H s)(j:bA vs its)(h:aCf X.K vs H Q):
 bc (bb X.prog X.w) A (nN its) (λi s'=>∃v,i=.done (.ret v)/\∃x H',Inv X bq σ H' s'/\RelV x v/\Q x H') E s:=by
 obtain⟨k,a,b,c,d,e,f,g⟩|⟨a,b⟩:=h
 .exact aJG l I j a b c d e f g
 .exact aBw I j a b
def wZ:Tv (V×V)->Hp->(Tc->Hp->Prop)->Prop
 |[],H,k=>k [] H
 |(x,y)::r,H,k=>∀p,H p=Y->wZ r (upd H p (.tup [x,y])) λvs a=>k (.ref p::vs) a
def Inv.trackT{e:Uc}{its:T5}(I:Inv X bq σ H s)(d:s.heap.get? e=Z { cls:=.type "tuple",data:=.seq its.toArray n })(g:bA vs its)(i:vs.length<=ba)(hn:H e=Y)(j:X.s₀.heap.get? e=Y)(k:∀p∈X.pn++bq,p.1≠e):
 Inv X bq σ (upd H e (.tup vs)) s:=by
 have ne:∀b u,H b=Z u->b≠e:=λb u z=>aN z hn
 have nd:∀b (o:Obj),s.heap.get? b=Z o->(∀vs n,o.data≠.seq vs n)->b≠e:=λb o q z w=>by
  subst w;rw[d]at q;cases q;exact z _ _ rfl
 refine⟨I.ok,I.os,I.bare,⟨I.base.keep,I.base.slot,λb o q n l=>?_,I.base.there,λb xs q=>?_,λb o u q=>?_,λb ps q=>?_⟩,I.loc,I.cell,?_,λx c q=>?_,λp h=>?_,λb u q=>?_,I.len⟩
 .rw[aK (λz=>by rw[z,j]at q;cases q)];exact I.base.free b o q n l
 .have:=I.base.tups b xs q;rw[aK (ne _ _ this)];exact this
 .have:=I.base.frzs b o u q;rw[aK (ne _ _ this)];exact this
 .obtain⟨more,this⟩:=I.base.tbls b ps q;exact⟨more,by rw[aK (ne _ _ this)];exact this⟩
 .obtain⟨m,⟨o,es,ep,a,hd,_⟩,_⟩:=I.loc;rw[aK (nd _ o a λvs n z=>by rw[hd]at z;cases z)];exact I.free
 .obtain⟨v,o,a,hd⟩:=I.cell x c q;rw[aK (nd _ o a λvs n z=>by rw[hd]at z;cases z)];exact I.freeC x c q
 .obtain⟨r,t,y⟩:=I.pin p h;exact⟨r,by rw[aK (k p h)];exact t,y⟩
 .by_cases f:b=e
  .subst f;rw[aS]at q;cases q;exact⟨i,its,g,⟨_,d,rfl,n,rfl⟩⟩
  .rw[aK f]at q;exact(I.hok b u q).stay (λ_ _ _ z=>z) (λc z=>by rw[aK (ne _ _ z)];exact z) λc xs z=>by rw[aK (ne _ _ z)];exact z
theorem XA:∀{ps:Tv (V×V)}{us:Tv (Tz×Tz)}{as:Ta}{H:Hp}{k:Tc->Hp->Prop},Inv X bq σ H s->Paired (λp q=>RelV p.1 q.1/\RelV p.2 q.2) ps us->as.length=us.length->as.Pairwise (·<·)->(∀a∈as,H a=Y)->
 (∀(j:Nat)(a:Uc),as[j]?=Z a->∃p,us[j]?=Z p/\s.heap.get? a=Z { cls:=.type "tuple",data:=.seq #[p.1,p.2] })->(∀a∈as,X.s₀.heap.get? a=Y/\∀p∈X.pn++bq,p.1≠a)->wZ ps H k->∃f,Inv X bq σ f s/\k (as.map .ref) f
 |[],us,as,H,k=>λI r d _ _ _ _ h=>by
  cases r;have:as=[]:=Z9 d;subst this;exact⟨H,I,h⟩
 |(x,y)::ps,us,as,H,k=>λI r d i hn g e h=>by
  cases r with
  |@cons _ q _ n m o=>
   match as,d,i,hn,g,e with
   |a::t,d,i,hn,g,e=>
    obtain⟨p,u,v⟩:=g 0 a rfl;cases u;obtain⟨w,z⟩:=List.pairwise_cons.mp i;have B:=I.trackT v (.cons m.1 (.cons m.2 .nil)) (by show 2<=ba;rw[E4];decide) (hn a B0) (e a B0).1 (e a B0).2;have l:=Nat.succ.inj d;obtain⟨f,C,D⟩:=XA B o l z (λb c=>by rw[aK (E9<|w b c)];exact hn b<|B1 _ c) (λj b c=>g (j+1) b c) (λb c=>e b<|B1 _ c)<|h a<|hn a B0;exact⟨f,C,D⟩
end
section
variable{X:Cx}{o:Ud}{td:TE}{pos apos cpos p:Pos}
theorem KT.addrs{H:Hp}:∀{kvs:Tv (Tv Key×V)}{xs:Tv (Tv Key×Uc×Tz)},KT H kvs xs->Paired (λ(b:Uc)(d:Tv Key×V)=>H b=Z (.tup (d.1.map kV))) (xs.map λx=>x.2.1) kvs /\
 Paired (λ(p:V×V)(q:Tz×Tz)=>RelV p.1 q.1/\RelV p.2 q.2) (((xs.map λx=>x.2.1).zip kvs).map λp=>(V.ref p.1,p.2.2)) (xs.map λx=>(Value.ref x.2.1,x.2.2))
 |_,_,.nil=>⟨.nil,.nil⟩
 |_,_,.cons a c=>⟨.cons a.2.1 (KT.addrs c).1,.cons ⟨rfl,a.2.2⟩ (KT.addrs c).2⟩
end
section
variable{K:Fg}{td:TE}{fo:EF}
def Good.adopt{W:Wd}(G:Good K W M H)(d:H b=Z (.tup us)):W.Ext { W with F:=upd W.F b (.tup us) }/\Good K { W with F:=upd W.F b (.tup us) } M H:=by
 have ff:jK W.F (upd W.F b (.tup us)):=λc o a=>by
  by_cases q:c=b
  .subst q;have:=G.fh _ _ a;rw[d]at this;cases this;exact aS
  .rw[aK q];exact a
 have e:W.Ext { W with F:=upd W.F b (.tup us) }:=⟨ff,A7 _,λ_ _=>rfl⟩;refine⟨e,λc o a=>?_,G.n,λi c hi a=>?_,G.inj,G.tb.updF λps e=>by rw[d]at e;cases e⟩
 .have a:upd W.F b (.tup us) c=Z o:=a;by_cases q:c=b
  .subst q;rw[aS]at a;cases a;exact d
  .rw[aK q]at a;exact G.fh c o a
 .obtain⟨h,o,f,g⟩:=G.cs i c hi a
  have ne:W.α i≠b:=λq=>by
   rw[q,d]at f;cases f;cases c<;>exact False.elim g
  exact⟨by show upd W.F b (.tup us) (W.α i)=Y;rw[aK ne];exact h,o,f,g.up e⟩
def OC(a:Tv Key×Ua):T4:=[.tuple (a.1.map GR),a.2]
def PQ:Tv (Tv Key×CD)->Tw (Tv (Tv Key×Ua))
 |[]=>Z []
 |(k,.d x)::r=>(PQ r).bind λq=>Z ((k,x)::q)
 |_=>Y
def sF(a:Tv (T4)):Tw (T4):=if sortable a=true then Z (JC a)else if a.length<2 then Z (a.map .tuple)else Y
theorem LA{H:Hp}:∀ks:Tv Key,aM K H (ks.map GR) (ks.map kV)
 |[]=>rfl
 |k::ks=>⟨_,_,rfl,by cases k<;>rfl,LA ks⟩
theorem xV{H:Hp}:∀{bs:Ta}{kvs:Tv (Tv Key×V)}{W:Wd},Good K W M H->Paired (λ(b:Uc)(a:Tv Key×V)=>H b=Z (.tup (a.1.map kV))) bs kvs->∃W',W.Ext W'/\Good K W' M H/\Paired (λ(b:Uc)(a:Tv Key×V)=>W'.F b=Z (.tup (a.1.map kV))) bs kvs
 |_,_,W,G,.nil=>⟨W,.refl _,G,.nil⟩
 |_,_,W,G,.cons d e=>by
  obtain⟨f,g⟩:=G.adopt d;obtain⟨h,c,G2,i⟩:=xV g e;exact⟨h,f.trans c,G2,.cons (c.ff _ _ aS) i⟩
theorem QG:∀{bs:Ta}{ds:Tv (Tv Key×Ua)}{kvs:Tv (Tv Key×V)}{W:Wd}{H:Hp}{k:Tc->Hp->Prop},Good K W M H->Paired (λ(b:Uc)(f:Tv Key×V)=>W.F b=Z (.tup (f.1.map kV))) bs kvs->Paired (λ(p:Tv Key×Ua)(q:Tv Key×V)=>p.1=q.1/\Rep K W.F p.2 q.2) ds kvs->
 (∀vs W' H',W.Ext W'->Good K W' M H'->aM K W'.F ((ds.map OC).map .tuple) vs->k vs H')->wZ ((bs.zip kvs).map λp=>(.ref p.1,p.2.2)) H k
 |_,_,_,W,H,k,G,.nil,.nil=>λc=>c [] W H (.refl _) G rfl
 |b::bs,(ks,d)::ds,(g,v)::kvs,W,H,k,G,.cons h i,.cons j q2=>λc=>by
  obtain⟨rfl,rd⟩:=j;intro p l;obtain⟨a,m⟩:=G.lay l;refine QG m (Paired.mapP i λ_ _ r=>a.ff _ _ r) (Paired.mapP q2 λ_ _ r=>⟨r.1,Rep.same a.ff _ _ r.2⟩) λvs n o e G2 s=>?_;refine c _ n o (a.trans e) G2 ⟨_,_,rfl,⟨p,_,rfl,SqT.of<|e.ff _ _ aS,?_⟩,s⟩;exact⟨_,_,rfl,⟨b,_,rfl,SqT.of<|(a.trans e).ff _ _ h,LA ks⟩,_,_,rfl,Rep.same (a.trans e).ff _ _ rd,rfl⟩
theorem IM{W:Wd}:∀{kvs:Tv (Tv Key×CD)}{ds:Tv (Tv Key×Ua)}{us:Tv (Tv Key×V)},PQ kvs=Z ds->PKV K W kvs us->Paired (λ(p:Tv Key×Ua)(q:Tv Key×V)=>p.1=q.1/\Rep K W.F p.2 q.2) ds us
 |[],_,_,h,.nil=>by cases h;exact .nil
 |(k,.d x)::r,_,_,h,.cons a b=>by
  obtain⟨q,e,h⟩:=aJ h;cases h;exact .cons a (IM e b)
 |(k,.c _)::r,_,_,h,_=>by cases h
end
section
variable{K:Fg}
def Good.freezeL{W:Wd}{i:Nat}{ds:T4}(G:Good K W M H)(hi:M[i]?=Z (.lst xs))(hd:nB xs=Z ds):
 ∃W',W.Ext W'/\Good K W' (M.set i .dead) H/\W'.α i=W.α i/\cK K W' (.d (.list ds)) (.ref (W.α i)):=by
 obtain⟨vs,f,r⟩:=G.lstAt hi;obtain⟨hn,_⟩:=G.cs i _ hi (by simp);have lt:=(List.getElem?_eq_some_iff.mp hi).1;have e:W.Ext { W with F:=upd W.F (W.α i) (.lst vs) }:=⟨jK.upd hn,A7 _,λ_ _=>rfl⟩
 have at_:∀j d,(M.set i .dead)[j]?=Z d->d≠.dead->j≠i/\M[j]?=Z d:=λj d h hd=>by
  by_cases q:i=j
  .subst q;rw[C3 lt]at h;exact absurd (D5 h).symm hd
  .rw[B6 q]at h;exact⟨λz=>q z.symm,h⟩
 refine⟨_,e,⟨λc o a=>?_,by show W.n=_;rw[G.n,E1],λj d b hd=>?_,λj k g l b s m p t=>?_,G.tb.updF λps z=>by rw[f]at z;cases z⟩,rfl,⟨_,vs,rfl,SqL.of aS,aM.same e.ff _ _<|hX hd r⟩⟩
 .have a:upd W.F (W.α i) (.lst vs) c=Z o:=a;by_cases q:c=W.α i
  .subst q;rw[aS]at a;cases a;exact f
  .rw[aK q]at a;exact G.fh c o a
 .obtain⟨q,h⟩:=at_ j d b hd;obtain⟨v,u,w,x⟩:=G.cs j d h hd;have ne:=λz=>q<|G.inj j i d _ h hi hd (by simp) z;exact⟨by show upd W.F (W.α i) (.lst vs) (W.α j)=Y;rw[aK ne];exact v,u,w,x.up e⟩
 .exact G.inj j k g l (at_ j g b m).2 (at_ k l s p).2 m p t
def sY(f:EF):EF:=λa M=>(f a M).bind λr=>match r.1 with
 |.c i=>match r.2[i]? with
  |some (.lst xs)=>(nB xs).bind λb=>Z (.d (.list b),r.2.set i .dead)
  |_=>Y
 |.d x=>Z (.d x,r.2)
 |_=>Y
def aAz{t:TE}{f:EF}(a:SE K t f):SE K t (sY f):=by
 intro r M x M' b W H c Q G R k;obtain⟨⟨o,M1⟩,d,b⟩:=aJ b;revert b;dsimp only;split
 .rename_i i;split
  .rename_i xs e;intro b;obtain⟨s,g,b⟩:=aJ b;cases b;refine a _ _ _ _ d W H c _ G R λv u h j l m=>?_;obtain⟨n,p,G2,_,q⟩:=l.freezeL e g;rw[m.2];exact k _ n h (j.trans p) G2 q
  .intro b;cases b
 .intro b;cases b;exact a _ _ _ _ d W H c _ G R k
 .intro b;cases b
def ZN{ι:Type}{X:ι->Cx}{e:Ud}{f:EF}(x:ME K X e f):ME K X e (sY f):=by
 obtain⟨t,a,b⟩:=x.ex;exact⟨t,a,aAz b⟩
def GZ:FN:=λxs M=>match xs with
 |[.d a]=>(bW a).bind λb=>Z (.c M.length,M++[.lst (b.map .d)])
 |[.c i]=>match M[i]? with
  |some (.lst e)=>Z (.c M.length,M++[.lst e])
  |_=>Y
 |_=>Y
def aFf:PN K (aEV K) GZ:=by
 intro xs M z M' h W H vs Q G r k;unfold GZ at h;split at h
 .rename_i a;obtain⟨j,e,h⟩:=aJ h;cases h;obtain _|⟨b,_|_⟩:=r;obtain⟨p,us,rfl,hs,c⟩:=pQ b e;refine⟨p,us,rfl,hs.elim (λq=>.inl (G.fh.seq q)) λq=>.inr (G.fh.seqT q),λl d=>?_⟩;exact k _ (W.more l) _ (W.ext_more l) (G.new d<|lA c) G.newV
 .rename_i i;split at h
  .rename_i m f;cases h;obtain _|⟨b,_|_⟩:=r;obtain⟨us,g,c⟩:=G.lstAt f;refine⟨_,us,by rw[b.2],.inl (SqL.of g),λl d=>?_⟩;exact k _ (W.more l) _ (W.ext_more l) (G.new d c) G.newV
  .cases h
 .cases h
def aGt{ι:Type}{X:ι->Cx}(a:∀i,(X i).K=K):QN K X (.type "list") GZ:=⟨_,λi=>aMv<|a i,aFf⟩
def eqC(neg:Bool):F2:=λx y M=>(snap 5 M x).bind λa=>(snap 5 M y).bind λb=>if (bo a&&bo b)=true then Z (.d (.bool (if neg then !bp a b else bp a b)),M)else Y
def aKz{neg:Bool}:P2 K (aAm K neg) (eqC neg):=by
 intro x y M z M' h W H v u Q G c d k;obtain⟨a,e,h⟩:=aJ h;obtain⟨b,f,h⟩:=aJ h;by_cases hs:(bo a&&bo b)=true
 .rw[A4 hs]at h;cases h;rw[B8]at hs;exact⟨a,b,CS G 5 x a v e c,CS G 5 y b u f d,hs.1,hs.2,k _ W H (.refl _) G rfl⟩
 .rw[A5 hs]at h;cases h
def eqY(neg:Bool):F2:=yF (eqX neg)<|eqC neg
def aNG{ι:Type}{X:ι->Cx}(a:∀i,(X i).K=K)(b:∀i,(X i).A.units+64<cLine):Q2 K X (bi .Eq) (eqY false):=⟨_,λi=>(kEq (a i)<|b i).or (by have:=aDX<|b i;rw[a i]at this;exact this),P2.or aBI aKz⟩
end
section
variable{X:Cx}{bq:T2}{σ:St}{H:Hp}{s:Ub}{a:Uc}{y v:V}{u r:Tz}{A:Uf}{E:T1}
def aAW{Q:Unit->Ub->Prop}(C:A.units<cLine)(I:Inv X bq σ H s)(g:BG H a y v H')(p:RelV y u)(t:RelV v r)(h:∀s',Inv X bq σ H' s'->Q () s'):
 bc (bb X.prog X.w) A (dictSet a u r) Q E s:=by
 obtain⟨kvs,k,e,j,l,m⟩|⟨kvs,k,b,e,j,x,l,m⟩:=g
 .subst j m;obtain⟨z,hd,vs,d,n⟩:=aIS I.hok e;have D:vs.length<=ba:=by rw[<- d.length];exact z
  have o:(putK kvs k v).length<=ba:=by have:=mK kvs k v;omega
  refine wpAny_dictSet_pairs (YR p) n λh' f hs=>h _ ?_;have F:∃q,h'.get? a=Z q:=let⟨q,_,_,i,_⟩:=f;⟨q,i⟩;exact BJ I (by rw[e];exact True.intro) hs F<|aBH o hd (d.put k t) f
 .subst j m;cases p;obtain⟨z,hd,xs,d,n⟩:=aIo I.hok e;have D:xs.length<=ba:=by rw[<- A0h d];exact z
  have o:(putK kvs k v).length<=ba:=by have:=mK kvs k v;omega
  refine wpAny_dictSet_heap C (LQ I.hok x) n λh' f hs=>h _ ?_;obtain⟨q,es,ep,i,G,J,K,_,L⟩:=f;refine BJ I (by rw[e];exact True.intro) hs ⟨q,i⟩ ⟨o,hd,_,(d.put k x t).keeps λc M B=>?_,q,es,ep,i,G,J,K,L⟩;rw[aK (zM B e λz=>nomatch z)];exact B
end
section
variable{prog:Ue}{w:World}{A:Uf}{R:Result->Ub->Prop}{s:Ub}
def aFs{iter:Ud}{scope:Scope}(I:Nat->Ub->Prop)
 (b:∀n s,I n s->bc (bb prog w) A (pyNext it) (λr s1=>(r=Y/\R (.ok .next) s1)\/∃v,r=Z v /\
  bc (bb prog w) A (bn a it v) (λ_ s2=>bc (bb prog w) A (assign a env v) (λ_ s3=>
   bc (bb prog w) A (forIn ifs true λc r=>if r=true then(do
    let ok <- isTrue c env (eval c env)
    pure (ForInStep.yield ok))else pure (ForInStep.yield r)) (λok s4=>
     (ok=true/\bc (bb prog w) A (eval kx env) (λg i=>bc (bb prog w) A (eval vx env) (λj k=>bc (bb prog w) A (dictSet D g j) (λ_ s7=>∃m,m<n/\I m s7) (λ_ _=>False) k) (λ_ _=>False) i) (λ_ _=>False) s4) \/
     (ok=false/\∃m,m<n/\I m s4)) (λ_ _=>False) s3) (λ_ _=>False) s2) (λ_ _=>False) s1) (λ_ _=>False) s)
 (n:Nat) (h:I n s):bj (bb prog w) A (.compLoop (.DictComp kx vx [⟨a,iter,ifs,0⟩] scope pos) 0 it (.ref D) env) R s:=by
 refine codeAny_loop rfl I (λn s l=>?_) n h
 show bc _ A ((compTurn (.DictComp kx vx [⟨a,iter,ifs,0⟩] scope pos) 0 it (.ref D) env).onRaise λx=>do
  noteFrame x env
  theTreesLotGoes x) _ _ s
 refine wpAny_noted ?_;refine A0<|Y7<|A0 (E3 (b n s l) (λr s1 d=>?_) λ_ _ f=>f.elim);obtain⟨rfl,d⟩|⟨v,rfl,d⟩:=d
 .exact A6 d
 .refine A0 (E3 d (λ_ s2 o=>?_) λ_ _ f=>f.elim);refine A0 (E3 o (λ_ s3 p=>?_) λ_ _ f=>f.elim);refine A0 (E3 p (λok s4 e=>?_) λ_ _ f=>f.elim);obtain⟨rfl,e⟩|⟨rfl,e⟩:=e
  .refine A0<|A0 (E3 e (λg i q=>?_) λ_ _ f=>f.elim);refine A0<|F5 (E3 q (λj k t=>?_) λ_ _ f=>f.elim);refine A0<|Y7<|F5 (E3 t (λ_ s7 u=>A6 ⟨rfl,u⟩) λ_ _ f=>f.elim)
  .exact A6 ⟨rfl,e⟩
end
def tDc(l:HO)(cap:T3)(n:TI)(g:TG)(o:TT)(tk p:TE):TE:=λe H Q=>n e H λJ f=>∀D,f D=Y->∃W:Nat->Nat->St->Hp->Prop,(∃m,W 0 m (tM cap e)<|upd f D l)/\∀i m c H',W i m c H'->
 (J.stop i H'/\Q (.ref D) H') \/
 (J.go i H'/\∃N:St->Hp->Prop,(∀a d,N a d->∃h,h<m/\W (i+1) h a d)/\∀x d,J.yld i H' x d->g x c d λa q=>o a q λb j=>(b=true/\tk a j λy r=>p a r λv s=>∃k,BG s D y v k/\N a k)\/(b=false/\N a j))
def dcF(d:Nat)(g:GF)(c:TF)(f:KF)(e:EF):T6->Ga->Sto->Tw Sto
 |[],_,M=>Z M
 |x::xs,h,M=>(g x h M).bind λa=>(c a.1 a.2).bind λb=>if b.1=true then(f a.1 b.2).bind λk=>(e a.1 k.2).bind λv=>(FU v.2 (.c d) k.1 v.1).bind λM'=>dcF d g c f e xs a.1 M' else dcF d g c f e xs a.1 b.2
def fDc(b:Cell)(cap:T3)(f:AF)(g:GF)(c:TF)(d:KF)(e:EF):EF:=λa M=>(f a M).bind λr=>(dcF r.2.length g c d e r.1 (lJ cap a) (r.2++[b])).bind λM'=>Z (.c r.2.length,M')
section
variable{K:Fg}{tg:TG}{tt:TT}{hg:GF}{ft:TF}{fa:AF}
def aMt{L:HO}{N:Cell}(h0:(L=.dT []/\N=.dt [])\/(L=.dK []/\N=.dk [])){P:EF}(i:SI K wi fa)(a:SG K tg hg)(c:STt K tt ft)(b:SK K tk O)(e:SE K tv P):
 SE K (tDc L cap wi tg tt tk tv) (fDc N cap fa hg ft O P):=by
 intro γ M x M' t W H σ Q G R k;obtain⟨⟨h,M1⟩,h1,t⟩:=aJ t;obtain⟨M9,h9,t⟩:=aJ t;cases t;refine i _ _ _ _ h1 W H σ _ G R λJ S H1 e1 G1 gv=>λD hD=>?_;have G2:Good K (S.more D) (M1++[N]) (upd H1 D L):=G1.new hD (by obtain⟨rfl,rfl⟩|⟨rfl,rfl⟩:=h0<;>exact .nil);have X:=S.ext_more D;have rD:cK K (S.more D) (.c M1.length) (.ref D):=G1.newV;refine⟨λj m l H'=>∃n T o,j<=h.length/\m=h.length-j/\(S.more D).Ext o/\Good K o T H'/\cN K o n l/\dcF M1.length hg ft O P (h.drop j) n T=Z M',⟨_,lJ cap γ,_,_,E6 _,rfl,.refl _,G2,LO ((R.up e1).up X) cap,h9⟩,?_⟩;rintro j m l H' ⟨n,T,o,hj,rfl,u,G3,R3,d⟩;obtain⟨a0,a1⟩:=gv o T H' (X.trans u) G3;by_cases q:j<h.length
 .obtain⟨go,yl⟩:=a0 j h[j]<|C4 q;rw[S4 q]at d;refine .inr ⟨go,λw U=>∃f V B,o.Ext B/\Good K B V U/\cN K B f w/\dcF M1.length hg ft O P (h.drop (j+1)) f V=Z M',?_,λy U hy=>?_⟩
  .rintro w U ⟨f,V,B,e4,G4,R4,h4⟩;exact⟨_,by omega,f,V,B,q,rfl,u.trans e4,G4,R4,h4⟩
  .obtain⟨W8,e8,G8,ry⟩:=yl y U hy;obtain⟨⟨C,M5⟩,h5,d⟩:=aJ d;obtain⟨⟨b6,M6⟩,h6,d⟩:=aJ d;refine a _ _ _ _ _ h5 W8 _ l y _ G8 (R3.up e8) ry λr W5 H5 e5 G5 E=>?_;refine c _ _ _ _ h6 W5 H5 r _ G5 E λW6 H6 F G6=>?_;have I:=(e8.trans e5).trans F;cases b6 with
   |true=>
    obtain⟨⟨ky,M7⟩,h7,d⟩:=aJ d;obtain⟨⟨z,ab⟩,a2,d⟩:=aJ d;obtain⟨a3,a4,d⟩:=aJ d;refine .inl ⟨rfl,b _ _ _ _ h7 W6 H6 r _ G6 (E.up F) λyv W7 H7 e7 G7 r7=>e _ _ _ _ a2 W7 H7 r _ G7 (E.up<|F.trans e7) λv a5 ac s a6 a7=>?_⟩;have g:=(I.trans e7).trans s;obtain⟨p,a8,ep,a9,aa⟩:=RR a6 a4 (rD.up<|u.trans g) (r7.up s) a7;cases ep;exact⟨a8,a9,C,a3,a5,g,aa,E.up<|(F.trans e7).trans s,d⟩
   |false=>
    exact .inr ⟨rfl,C,M6,W6,I,G6,E.up F,d⟩
 .have ej:j=h.length:=by omega
  subst ej;rw[Z6]at d;cases d;exact .inl ⟨a1,k _ o H' ((e1.trans X).trans u) G3<|rD.up u⟩
variable{ι:Type}{X:ι->Cx}{N':Tb}{cap:T3}{scope:Scope}{tg' iter kx vx:Ud}{ifs:T8}{gf:GF}{fk:KF}{f:EF}{pos:Pos}
end
def aEy(K:Fg):Tc->Hp->VK->Prop:=λxs H Q=>∃a kvs,xs=[.ref a]/\H a=Z (.dT kvs)/\∀bs:Ta,Paired (λ(b:Uc)(c:Tv Key×V)=>H b=Z (.tup (c.1.map kV))) bs kvs->aCf K (bs.map .ref) H Q
theorem HY:∀bs:Ta,bA (bs.map V.ref) (bs.map Value.ref)
 |[]=>.nil
 |_::bs=>.cons rfl (HY bs)
def KZ{X:Cx}(g:X.A.in1.in1.units+64<cLine)(i:X.calm=true):fB X (.builtin "sorted") (aEy X.K):=by
 intro bq s k H xs us Q I r h;obtain⟨a,kvs,rfl,l,q⟩:=h;obtain⟨u,rfl,m⟩:=vals1 r;cases m;obtain⟨z,hs,ks,rk,od,es,ep,n,o,p,d,B⟩:=(I.hok a _ l);have C:=Paired.len rk;have el:es.size=ks.length:=by rw[<- L5,d,A1]
 refine Calls.call_function_entry kind_sorted plain_sorted entry_sorted (args_sorted1 _) ?_;refine A0<|A6 ?_;refine A0 (W.kdu_collect (aBy hs o.1 p) (I.ok.hd i) n (by omega) λh' tk acc t b=>?_);have y:Inv X bq k H { s with heap:=h',toks:=tk }:=I.kept t
 have ev:acc.toList=(ks.map λx=>x.2.1).map Value.ref:=by
  refine List.ext_getElem? λj=>?_;rw[L7];cases e:acc[j]? with
  |none=>
   have:(ks.map λx=>x.2.1).length<=j:=by
    have D:=b.1;have:=Array.getElem?_eq_none_iff.mp e;rw[A1];omega
   rw[Z5 (by grind)]
  |some v=>
   have c:(es[j]?).map (·.key)=Z v:=b.2 j v e;rw[<- L7,d,D3]at c;rw[D3,D3];cases f:ks[j]? with
   |none=>rw[f]at c;cases c
   |some w=>rw[f]at c;cases c;rfl
 rw[ev];exact aLF g y (HY _)<|q _ (KT.addrs rk).1
section
variable{K:Fg}
def rB:FN:=λxs M=>match xs with
 |[.c i]=>match M[i]? with
  |some (.dt kvs)=>(sF (kvs.map λa=>a.1.map GR)).bind λr=>Z (.d (.list r),M)
  |_=>Y
 |_=>Y
theorem RM{W:Wd}:∀{bs:Ta}{kvs:Tv (Tv Key×V)},Paired (λ(b:Uc)(a:Tv Key×V)=>W.F b=Z (.tup (a.1.map kV))) bs kvs->aM K W.F ((kvs.map λa=>a.1.map GR).map .tuple) (bs.map .ref)
 |_,_,.nil=>rfl
 |_,_,.cons c d=>⟨_,_,rfl,⟨_,_,rfl,SqT.of c,LA _⟩,RM d⟩
theorem RK{W:Wd}:∀{kvs:Tv (Tv Key×CD)}{us:Tv (Tv Key×V)},PKV K W kvs us->(us.map λa=>a.1.map GR)=kvs.map λa=>a.1.map GR
 |_,_,.nil=>rfl
 |_,_,.cons b c=>by rw[B2,B2,RK c,b.1]
def aBu:PN K (aEy K) rB:=by
 intro xs M z M' h W H vs Q G r k;unfold rB at h;split at h
 .rename_i i;split at h
  .rename_i kvs m;obtain⟨u,a,h⟩:=aJ h;cases h;obtain _|⟨n,_|_⟩:=r;obtain⟨us,o,p⟩:=G.dtAt m;refine⟨_,us,by rw[n.2],o,λbs q=>?_⟩;obtain⟨v,j,G2,s⟩:=xV G q;have c:=RM (K:=K) s;rw[RK p]at c;unfold sF at a;by_cases hs:sortable (kvs.map λe=>e.1.map GR)=true
   .rw[A4 hs]at a;cases a;obtain⟨s1,s2,s3,s4,t⟩:=qP hs;refine .inl ⟨_,aM.same G2.fh _ _ c,s1,s2,s3,s4,t,λl f=>?_⟩;obtain⟨d,g⟩:=G2.lay f;exact k _ _ _ (j.trans d) g ⟨l,_,rfl,SqL.of aS,aM.same d.ff _ _<|FT c _<|aIX (by omega)⟩
   .rw[A5 hs]at a;by_cases b:(kvs.map λe=>e.1.map GR).length<2
    .rw[A4 b]at a;cases a;refine .inr ⟨by rw[<- c.length,A1];exact b,λl f=>?_⟩;obtain⟨d,g⟩:=G2.lay f;exact k _ _ _ (j.trans d) g ⟨l,_,rfl,SqL.of aS,aM.same d.ff _ _ c⟩
    .rw[A5 b]at a;cases a
  .cases h
 .cases h
def aHJ{ι:Type}{X:ι->Cx}(a:∀i,(X i).K=K)(b:∀i,(X i).A.in1.in1.units+64<cLine)(c:∀i,(X i).calm=true):QN K X (.builtin "sorted") rB:=
 ⟨_,λi=>by have:=KZ (b i)<|c i;rw[a i]at this;exact this,aBu⟩
end
def cE.u1(r:cE k A):A.units+1<cLine:=by have:=r.un;omega
def cE.u0(r:cE k A):A.units<cLine:=by have:=r.un;omega
abbrev IPF:=Ga->Sto->Tw ((T6×(Sto->Prop))×Sto)
section
variable{X:Cx}{a b:Ud}{ta:TA}{p p' pos pos':Pos}
noncomputable def GH(lo:Int)(n:Nat):Tc:=(List.range n).map λ(i:Nat)=>V.int (lo+(i:Nat))
def aAN{lo:Int}{acc:Ti}(h:ItemsOf (λi v=>∃t,v=.int (lo+i*1) t) acc n):bA (GH lo n) acc.toList:=by
 have key:∀(k:Nat)(l:T5)(m:Nat),l.length=k->(∀j v,l[j]?=Z v->∃t,v=Value.int (lo+((m+j:Nat):Int)*1) t)->bA ((List.range' m k).map λ(i:Nat)=>V.int (lo+(i:Nat))) l:=by
  intro k
  induction k with
  |zero=>intro l m c _;rw[Z9 c];exact .nil
  |succ k ih=>
   intro l m c d
   match l,c,d with
   |v::l,c,d=>
    obtain⟨t,rfl⟩:=d 0 v rfl;rw[List.range'_succ,B2];refine .cons ⟨t,by simp⟩ (ih l (m+1) (Nat.succ.inj c) λj v e=>?_);obtain⟨g,f⟩:=d (j+1) v e;exact⟨g,by rw[f];congr 2;omega⟩
 have:=key n acc.toList 0 (by rw[L5];exact h.1) λj v e=>by
  obtain⟨t,f⟩:=h.2 j v (by rw[<- L7];exact e);exact⟨t,by rw[f,Nat.zero_add]⟩
 unfold GH;rw[List.range_eq_range'];exact this
end
section
variable{K:Fg}{tA:TA}{fa:AF}
noncomputable def aFr(lo:Int)(n:Nat):T4:=(List.range n).map λ(i:Nat)=>.int (lo+(i:Nat))
def aGF{lo:Int}:aM K H (aFr lo n) (GH lo n):=by
 unfold aFr GH;generalize List.range n=l
 induction l with
 |nil=>rfl
 |cons i l ih=>exact⟨_,_,rfl,rfl,ih⟩
end
end L2
namespace PySem
open Sem (wp)
namespace F
end F
end PySem
namespace L2
open PySem PySem.Spec PyProof.Rows
def cE.le{ι:Type}{j:Nat}(r:cE k A q)(h:j<=k:=by decide):ι->cE j A q:=λ_=>r.mono h
def EV(C:Uc)(sp:Sp)(EE:St->XK)(t:TA):TE:=λa H Q=>aNt C sp [] (EE a) t a H Q
def aBO{k:Nat}{e:Ud}{es:T8}(ok:XOk X EE)(M:Mk X.K C f)(F:jH X.prog X.w X.K X.mg X.base (CX1 X.prog X.w) k f fd ps sp)(d:cE (k+1) X.A)
 (g:Gl X x) (hm:X.mg x=Z (.ref C)) (i:Binds X.K fd ps []) (ha:PA X (e::es) t) (a:(x==("__debug__":Str))=false) (j:bf (e::es) X.env=(false,eval e X.env)::bf es X.env) (b:(backTo pos<|bf es X.env).any (·.1)=false):
 PE X (.Call (.Name x p) (e::es) [] pos) (EV C sp EE t):=by
 intro bq s l H Q I h;refine L4<|mM I g hm ?_ a;refine U7 (h₀:=X.base) I.ok.mod.kin M.kp (thn (ha pos bq s l H _ I h) λus s1 ⟨vs,n,c,r,q⟩=>⟨c.kIn,?_⟩) j b;exact NN M F d i .nil (λ_ _ _ _ m z=>ok.pass _ _<|aBz ok.bd m z) c r q
def RI(nm:Str)(h:FX)(fa:AF):EX:=λa M=>(fa a M).bind λr=>(h (.c r.2.length::r.1) (r.2++[.obj nm []])).bind λq=>match q.1 with
 |.x e=>Z (.x e,q.2)
 |.v y=>if jL y=true then Z (.v (.c r.2.length),q.2)else Y
def XT(nm f:Str)(b:EF)(ev:EX):SFX:=λa M=>(ev a M).bind λr=>match r.1 with
 |.x e=>Z (.xc a e,r.2)
 |.v v=>(b a r.2).bind λo=>(objOf nm o.2 o.1).bind λp=>if p.2.length<1000 then Z (.o (.nx a),o.2.set p.1 (.obj nm (GJ f v p.2)))else Y
section
variable{K:Fg}{EE:St->XK}{ta tv:TE}{tA:TA}
def aDV(b:SA K tA fa):SEX K EE (EV (bK K nm) (spX K h) EE tA) (RI nm h fa):=by
 intro J M r M' a W H w Q G R k;obtain⟨⟨A,M1⟩,B,a⟩:=aJ a;obtain⟨⟨z,M2⟩,C,a⟩:=aJ a;refine b _ _ _ _ B W H w _ G R λvs n D q d E=>?_;intro p dx F f g;rw[D8];have Ga:=d.extra (o:=.own p) f;have i:(upd D dx (.own p)) p=Y:=by rw[aK (J7 g)];exact F
 have Gb:=Ga.new i (c:=.obj nm []) (o:=.ins (bK K nm) dx []) ⟨rfl,.nil⟩;have j:=n.ext_more p;refine⟨.c M1.length::A,M1++[.obj nm []],n.more p,z,M2,Gb,.cons d.newV (bX.up E j),C,λs t l u=>?_⟩;cases z with
 |x e=>cases a;exact k s t ((q.trans j).trans l) u
 |v y=>
  have a:(if jL y=true then Z (Rs.v (.c M1.length),M2)else Y)=Z (r,M'):=a;by_cases m:jL y=true
  .rw[A4 m]at a;cases a;have:=ET m;subst this;exact λv I=>⟨I,k s t ((q.trans j).trans l) u _<|d.newV.up l⟩
  .rw[A5 m]at a;cases a
def aGy(c:Cls K (bK K nm))(n:gU K (bK K nm) f)(a:SE K ta j)(b:SEX K EE tv ev):SSX K EE (aFL K ta tv f) (XT nm f j ev):=by
 intro p M o M' d W H h D G R k;obtain⟨⟨y,M1⟩,C,d⟩:=aJ d;refine b _ _ _ _ C W H h _ G R λr s g t=>?_;cases y with
 |x e=>cases d;exact λc dx z=>k r s g t h c dx (R.up g) z
 |v y=>
  intro v E;obtain⟨⟨z,M2⟩,F,d⟩:=aJ (show(j p M1).bind _=_ from d);obtain⟨⟨i,fs⟩,I,d⟩:=aJ d;have d:(if fs.length<1000 then Z (aAF.o (.nx p),M2.set i (.obj nm (GJ f y fs)))else Y)=Z (o,M'):=d;by_cases l:fs.length<1000
  .rw[A4 l]at d;cases d;refine a _ _ _ _ F r s h _ t (R.up g) λu w N m G2 J=>?_;obtain⟨rfl,A⟩:=FO I;obtain⟨dx,us,L,B⟩:=G2.objAt A;refine⟨w.α i,_,dx,us,J.2,L,c,n,by rw[<- Paired.len B];exact l,?_⟩;exact k w _ (g.trans m) (G2.set A (by intro q;cases q) (c':=.obj nm (GJ f y fs)) (o':=.ins (bK K nm) dx (nQ f v us)) ⟨rfl,FP (E.up m) B⟩) h<|R.up<|g.trans m
  .rw[A5 l]at d;cases d
end
structure xT(P:Ue)(w:World)(K:Fg)(mg:Str->Tf)(base:Heap)(k:Nat)(nm:Str)(ps:Tb)(sp:Sp):Prop where
 ex:∃f fd,jH P w K mg base (CX1 P w) k f fd ps sp/\Mk K (bK K nm) f/\Binds K fd ps []/\mg nm=Z (.ref (bK K nm))
section
variable{ι:Type}{K:Fg}{X:ι->Cx}{EE:ι->St->XK}{e o:Ud}{es:T8}{f:EX}{g:EF}{fa:AF}{pos:Pos}
def aHX(c:∀i,(X i).K=K)(d:Cls K (bK K nm))(hn:gU K (bK K nm) b)(x:ME K X o g)(y:MX K X EE e f)(hs:∀i,swapsWith e (Z (.Attribute o b a)) pos.line (X i).env=pure false:=by intro _;rfl):
 MSX K X EE (.Assign [.Attribute o b a] e pos) (XT nm b g f):=by
 obtain⟨t,h,j⟩:=x.ex;obtain⟨u,k,l⟩:=y.ex;refine⟨λi=>aFL K t (u i) b,λi=>?_,λi=>aGy d hn j<|l i⟩;have:=aBT (h i) (k i)<|hs i;rw[c i]at this;exact this
def aFV{k:Nat}{F:FX}(ok:∀i,XOk (X i)<|EE i)(C:∀i,xT (X i).prog (X i).w (X i).K (X i).mg (X i).base k nm ps (spX K F))(a:∀i,(X i).K=K)(b:∀i,cE (k+1) (X i).A)(y:MA K X (e::es) fa)(c:∀i,Gl (X i) nm:=by intro _;rfl)(hd:(nm==("__debug__":Str))=false:=by decide):
 MX K X EE (.Call (.Name nm p) (e::es) [] pos) (RI nm F fa):=by
 obtain⟨u,d,h⟩:=y.ex;refine⟨λi=>EV (bK K nm) (spX K F) (EE i) u,λi=>?_,λi=>aDV h⟩;obtain⟨f,fd,j,M,B,m⟩:=(C i).ex;have:=aBO (ok i) M j (b i) (c i) m B (d i) hd (y.st.1 _) (y.st.2.plain _ _) (p:=p) (pos:=pos);rw[a i]at this;exact this
end
section
variable{P:Ue}{w:World}{K:Fg}{mg:Str->Tf}{base:Heap}
def UV.okR{qual:Str}{st:Stmt}{ps:Tb}(D:UV K nm "__init__" qual st)(hm:W.makesIn K (bK K nm)=true)(c:W.keepIn K (.ref (bK K nm))=true)(d:mg nm=Z (.ref (bK K nm)))(S:aU N ps (aI st))
 (e:∀(kV doc pm:Tz)(an:Th)(cdv ct:Tz)(us:T5),us.length=ps.length->bindArgs (W.fnOf "__init__" qual (eE st) (bU st) (aI st) .none kV doc pm an cdv ct) ⟨us,[]⟩=pure (ps.zip us))
 (a:∀(f:Uc)(cdv:Tz)(A:Uf)(outer:Tv Env)(s:Ub)(H:Hp)(E:XK),cE k (A.deeper<|envOfC qual (aI st) s.heap.objs.size f cdv)->
  MLX K (aHY P w K mg base N qual st f cdv A outer s H E) (λ_ _=>E) (bU st) b):xT P w K mg base (k+1) nm ps (spX K (fnX ps.length N.length b)):=by
 obtain⟨f,fd,F,g,h⟩:=D.ex;exact⟨f,fd,F.okXF S a,⟨hm,g,h,c⟩,F.binds e,d⟩
end
section
variable{K:Fg}
def AS(neg:Bool):F2:=λx y M=>match y with
 |.d .none=>Z (.d (.bool (if neg then !jL x else jL x)),M)
 |_=>Y
def XM{W:Wd}(r:cK K W x v):decide (v=.non)=jL x:=by
 cases x with
 |c n=>rw[r.2];rfl
 |t n=>obtain⟨a,vs,rfl,_⟩:=r;rfl
 |f n=>obtain⟨a,o,us,rfl,_⟩:=r;rfl
 |g n=>cases r;rfl
 |d x=>
  cases x with
  |list xs=>obtain⟨a,vs,rfl,_⟩:=r;rfl
  |tuple xs=>obtain⟨a,vs,rfl,_⟩:=r;rfl
  |dict xs=>obtain⟨a,vs,rfl,_⟩:=r;rfl
  |_=>cases r;rfl
def aLB:P2 K (λx y H Q=>y=.non/\Q (.bl (decide (x=.non))) H) (AS false):=by
 intro x y M z M' h W H v u Q G a b k;unfold AS at h;split at h
 .cases h;exact⟨b,by rw[XM a];exact k _ W H (.refl _) G rfl⟩
 .cases h
def aHE:P2 K (λx y H Q=>y=.non/\Q (.bl (!decide (x=.non))) H) (AS true):=by
 intro x y M z M' h W H v u Q G a b k;unfold AS at h;split at h
 .cases h;exact⟨b,by rw[XM a];exact k _ W H (.refl _) G rfl⟩
 .cases h
def aIt:Q2 K X (bi .Is) (AS false):=⟨_,λ_=>aJh,aLB⟩
def aLb{ι:Type}{X:ι->Cx}:Q2 K X (bi .IsNot) (AS true):=⟨_,λ_=>aGr,aHE⟩
end
section
variable{K:Fg}
def aAh{X:Cx}{k:Nat}{e:Ud}{es:T8}(M:Mk X.K C f)(F:jH X.prog X.w X.K X.mg X.base (CX1 X.prog X.w) k f fd ps sp)(d:cE (k+1) X.A)
 (g:Gl X x) (hm:X.mg x=Z (.ref C)) (i:Binds X.K fd ps []) (ha:PA X (e::es) t) (a:(x==("__debug__":Str))=false) (j:bf (e::es) X.env=(false,eval e X.env)::bf es X.env) (b:(backTo pos<|bf es X.env).any (·.1)=false):
 PE X (.Call (.Name x p) (e::es) [] pos) (EV C sp noX t):=by
 intro bq s l H Q I h;refine L4<|mM I g hm ?_ a;refine U7 (h₀:=X.base) I.ok.mod.kin M.kp (thn (ha pos bq s l H _ I h) λus s1 ⟨vs,m,c,r,q⟩=>⟨c.kIn,?_⟩) j b;exact NN M F d i .nil (λ_ _ _ _ _ z=>by obtain⟨_,_,_,_,_,_,_,_,_,_,_,_,_,z⟩:=z;exact z.elim) c r q
def CQ(nm:Str)(h:FX)(fa:AF):EF:=λa M=>(fa a M).bind λr=>(h (.c r.2.length::r.1) (r.2++[.obj nm []])).bind λq=>match q.1 with
 |.x _=>Y
 |.v y=>if jL y=true then Z (.c r.2.length,q.2)else Y
def aFh(b:SA K l fa):SE K (EV (bK K nm) (spX K h) noX l) (CQ nm h fa):=by
 intro J M x M' a W H r Q G R k;obtain⟨⟨s,M1⟩,t,a⟩:=aJ a;obtain⟨⟨z,M2⟩,u,a⟩:=aJ a;refine b _ _ _ _ t W H r _ G R λvs m w A d B=>?_;intro p dx C f g;rw[D8];have Ga:=d.extra (o:=.own p) f;have i:(upd w dx (.own p)) p=Y:=by rw[aK (J7 g)];exact C
 have Gb:=Ga.new i (c:=.obj nm []) (o:=.ins (bK K nm) dx []) ⟨rfl,.nil⟩;have n:=m.ext_more p;refine⟨.c M1.length::s,M1++[.obj nm []],m.more p,z,M2,Gb,.cons d.newV (bX.up B n),u,λD E q F=>?_⟩;cases z with
 |x e=>cases a
 |v y=>
  have a:(if jL y=true then Z (CD.c M1.length,M2)else Y)=Z (x,M'):=a;by_cases j:jL y=true
  .rw[A4 j]at a;cases a;have:=ET j;subst this;exact λv I=>⟨I,k _ D E ((A.trans n).trans q) F<|d.newV.up q⟩
  .rw[A5 j]at a;cases a
end
section
variable{ι:Type}{K:Fg}{X:ι->Cx}{e a:Ud}{es:T8}{f:EF}{fa:AF}{sf:SF}{st:Stmt}{pos:Pos}
def aCg{k:Nat}{F:FX}(C:∀i,xT (X i).prog (X i).w (X i).K (X i).mg (X i).base k nm ps (spX K F))(b:∀i,(X i).K=K)(c:∀i,cE (k+1) (X i).A)(y:MA K X (e::es) fa)(d:∀i,Gl (X i) nm:=by intro _;rfl)(hd:(nm==("__debug__":Str))=false:=by decide):
 ME K X (.Call (.Name nm p) (e::es) [] pos) (CQ nm F fa):=by
 obtain⟨u,g,h⟩:=y.ex;refine⟨_,λi=>?_,aFh h⟩;obtain⟨f,fd,j,M,B,m⟩:=(C i).ex;have:=aAh M j (c i) (d i) m B (g i) hd (y.st.1 _) (y.st.2.plain _ _) (p:=p) (pos:=pos);rw[b i]at this;exact this
end
end L2
namespace HT
open PySem  PySem.Spec PyProof.Rows
theorem fm_congr{a b:Type}{f g:a->Tw b}:∀{l:Tv a},(∀x∈l,f x=g x)->l.filterMap f=l.filterMap g
 |[]=>λ_=>rfl
 |x::l=>λh=>by
  rw[U0,U0,h x B0,fm_congr λy c=>h y<|B1 _ c]
def rev_pick{b:Type}(xs:Tv b):(List.range xs.length).filterMap (λm=>xs[xs.length-1-m]?)=xs.reverse:=by
 have e:∀m∈List.range xs.length,xs[xs.length-1-m]?=xs.reverse[m]?:=λm hm=>by
  rw[List.getElem?_reverse (List.mem_range.mp hm)]
 rw[fm_congr e];refine List.ext_getElem? λi=>?_;have l:xs.length=xs.reverse.length:=List.length_reverse.symm;rw[l];generalize xs.reverse=a
 have:(List.range a.length).filterMap (λm=>a[m]?)=a:=by
  induction a with
  |nil=>rfl
  |cons y a ih=>
   rw[C0,List.range_succ_eq_map,U0];show y::_=_;rw[List.filterMap_map];congr 1
 rw[this]
end HT
namespace L2
open PySem PySem.Spec PyProof.Rows
theorem bA.rev:∀{xs:Tc}{us:T5},bA xs us->bA xs.reverse us.reverse
 |_,_,.nil=>.nil
 |_,_,.cons r t=>by
  rw[O5,O5];exact(bA.rev t).append (.cons r .nil)
section
variable{K:Fg}
theorem aM.rev:∀{ds:T4}{vs:Tc},aM K H ds vs->aM K H ds.reverse vs.reverse
 |[],vs=>λh=>by rw[show vs=[]from h];rfl
 |d::ds,vs=>λh=>by
  obtain⟨v,r,rfl,a,b⟩:=h;rw[O5,O5];exact aM.app (aM.rev b) ⟨v,[],rfl,a,rfl⟩
end
section
variable{prog:Ue}{w:World}{A:Uf}{E:T1}{s:Ub}
def QL{a b:Int}{t v:Tok}{n:Nat}{Q:T5->Ub->Prop}(l:A.handled=Y)(p:IsRange s.heap r a b c t u v)(hs:Builtin.Range.small a b c=true)(hn:Builtin.Range.rangeSize a b c=(n:Nat))(f:n<=2 ^ 24)
 (q:∀(h':Heap)(tk:Nat)(acc:Ti),(∀b o,s.heap.get? b=Z o->h'.get? b=Z o)->ItemsOf (λi v=>∃t,v=Value.int (a+(i:Nat)*c) t) acc n->Q acc.toList { s with heap:=h',toks:=tk }):bc (bb prog w) A (collect (.ref r)) Q E s:=by
 obtain⟨H,g,j,tk,os⟩:=s;refine A0<|wpAny_runValue<|A0m entry_proto_collect' ?_;rw[Around.under_plainId F.plain_proto_collect _];refine A0 (m:=newList [])<|D1<|A6 ⟨plainId_quiet F.plain_list_iadd _,A0m entry_list_iadd' ?_⟩;rw[Around.under_plainId F.plain_list_iadd _];have k:∀b o,H.get? b=Z o->(H.push { cls:=.type "list",data:=.seq #[] }).get? b=Z o:=λb o e=>A3 _ e;have x:=(B3 H (o:={ cls:=.type "list",data:=.seq #[] }) rfl);show bc _ A.in1 (Builtin.List.listExtendWith (.ref H.objs.size) (.ref r) (.ref H.objs.size)) _ _ ⟨H.push { cls:=.type "list",data:=.seq #[] },g,j,tk,os⟩;refine wpAny_extend_range (R:=λr s'=>match r with|.ok (.ret v)=>bc (bb prog w) A (match v with|.ref a=>load a >>= λo=>(match o.data with|.seq xs _=>pure xs.toList|_=>unsupported "internal:collect")|_=>unsupported "internal:collect") Q E s'|.ok _=>False|.error e=>E e s') (s:=⟨H.push { cls:=.type "list",data:=.seq #[] },g,j,tk,os⟩) l (k _ _ p) hs hn f H.objs.size (.ref H.objs.size) 0 x λh' h acc c' y hS d=>?_;exact A0<|wpAny_load hS<|A6<|q h' h acc (λb o e=>y b o (B4<|A9 e)<|k b o e) d
end
def AW(r:Uc)(a b c:Int)(t u v:Tok)(n:Nat)(hs:Builtin.Range.small a b c=true)(hn:Builtin.Range.rangeSize a b c=(n:Nat))(f:n<=2 ^ 24):
 Meets (Builtin.«tuple.__new__» ⟨[.type "tuple",.ref r],[]⟩) (λA R s=>A.in1.handled=Y/\IsRange s.heap r a b c t u v /\
  ∀(h':Heap)(tk:Nat)(acc:Ti),(∀b o,s.heap.get? b=Z o->h'.get? b=Z o)->ItemsOf (λi v=>∃t,v=Value.int (a+(i:Nat)*c) t) acc n->R (.ok (.ret (.ref h'.objs.size))) { s with heap:=h'.push { cls:=.type "tuple",data:=.seq acc },toks:=tk }):=
 .of_wp λprog w A R s h=>by
  obtain⟨l,g,d,tk,os⟩:=s;obtain⟨p,k,h⟩:=h;have f1:=sub_tuple_self;have f2:=init_tuple_lookup;have y:=madeHere_tuple;have ht:Shared.TypeIs ⟨l,g,d,tk,os⟩ (.ref r) "range":=⟨_,k,rfl⟩
  wp_walk using A0o ht,QL p k hs hn f
  intro h' j acc q e
  have x:acc.toList.toArray.size<=ba:=by
   have:=e.1;rw[E4];simp only[Array.toArray_toList];omega
  refine A0<|A6 ?_;refine A0 (m:=Builtin.Tuple.tupleExact _)<|D1 ?_ x;refine A6 ⟨_,rfl,?_⟩;simpa using h h' j acc q e
section
variable{X:Cx}{a b:Ud}{ta:TA}{p p' pos pos':Pos}
def YV{Q:VK}{lo hi:Int}{t u v:Tok}{tk:Nat}(m:X.calm=true)(I:Inv X bq d H s)(n:-(2 ^ 62)<=lo)(r:lo<2 ^ 62)(y:-(2 ^ 62)<=hi)(z:hi<2 ^ 62)(f:(hi-lo).toNat<=ba)
 (q:∀l,H l=Y->Q (.ref l) (upd H l (.tup (GH lo (hi-lo).toNat)))):
 bc (bb X.prog X.w) X.A (call (.type "tuple") [.ref s.heap.objs.size]) (λv s'=>∃x H',Inv X bq d H' s'/\RelV x v/\Q x H') X.xe { s with heap:=s.heap.push { cls:=.type "range",data:=.fields #[.int lo t,.int hi u,.int 1 v] },toks:=tk }:=by
 have g:(hi-lo).toNat<=2 ^ 24:=by rw[E4]at f;exact f
 have i:Inv X bq d H { s with heap:=s.heap.push { cls:=.type "range",data:=.fields #[.int lo t,.int hi u,.int 1 v] },toks:=tk }:=I.kept λb o e=>A3 _ e;have j:IsRange (s.heap.push { cls:=.type "range",data:=.fields #[.int lo t,.int hi u,.int 1 v] }) s.heap.objs.size lo hi 1 t u v:=IsRange.new ..;refine callType_new F.called_tuple (by decide) (F.typeCall_tuple_1 _) (F.newCall_tuple_1 _) (λobj=>F.args_object_init_2 _ _) F.entry_tuple_new (AW _ lo hi 1 t u v (hi-lo).toNat (small_one n r y z) (by rw[rangeSize_one];split<;>omega) g) ⟨I.ok.hd m,j,λh' h acc k c=>?_⟩
 have sz:(s.heap.push { cls:=.type "range",data:=.fields #[.int lo t,.int hi u,.int 1 v] }).objs.size<=h'.objs.size:=by
  rw[S5];exact A9<|k _ _ j
 refine⟨⟨_,B3 _ rfl,rfl⟩,.ref h'.objs.size,upd H h'.objs.size (.tup (GH lo (hi-lo).toNat)),i.laid (t':=h) (o:=.tup (GH lo (hi-lo).toNat)) (λb o e=>A3 _<|k b o e) sz ?_,rfl,q _<|i.hok.fresh sz⟩;exact⟨by rw[GH,A1,Y2];exact f,acc.toList,aAN c,IsTup.new _ _⟩
def aBD(ta:TA):TE:=λd H Q=>ta d H λvs c=>∃j:Int,vs=[.int j]/\-(2 ^ 62)<=j/\j<2 ^ 62/\j.toNat<=ba/\∀l,c l=Y->Q (.ref l) (upd c l (.tup (GH 0 j.toNat)))
def aEs(g:X.calm=true)(i:Gl X "range")(hm:X.mg "range"=Y)(c:Gl X "tuple")(d:X.mg "tuple"=Y)(ha:PA X [a] ta)(hs:bf [a] X.env=[(false,eval a X.env)]):
 PE X (.Call (.Name "tuple" p) [.Call (.Name "range" p') [a] [] pos'] [] pos) (aBD ta):=by
 intro bq s k H Q I h;refine L4<|nI I c d A0e ?_ (by decide) (by decide);refine O0 ?_ IW rfl;rw[IW];show bc _ _ (spliced ((false,eval (.Call (.Name "range" p') [a] [] pos') X.env)::[])) _ _ s;refine Z4 ?_;refine Call_<|nI I i hm boot_range<|O0 (thn (ha pos' bq s k H _ I h) λus s1 ⟨vs,v,l,m,f⟩=>?_) hs rfl;obtain⟨j,e,f,n,o,q⟩:=f;subst e;cases m with
 |cons r u=>
  cases u;obtain⟨t,rfl⟩:=r;refine call_range_1<|Calls.spliced_nil ?_;exact YV g l (by omega) (by omega) f n (by simpa using o) (by simpa using q)
end
section
variable{K:Fg}{tA:TA}{fa:AF}
def rH(f:AF):EF:=λa M=>(f a M).bind λr=>match r.1 with
 |[.d (.int j)]=>if dR j=true/\j.toNat<=ba then Z (.d (.tuple (aFr 0 j.toNat)),r.2)else Y
 |_=>Y
def aDL(b:SA K tA fa):SE K (aBD tA) (rH fa):=by
 intro n M x M' a W H c Q G R k;obtain⟨⟨p,M1⟩,d,a⟩:=aJ a;refine b _ _ _ _ d W H c _ G R λvs q s e f g=>?_;revert a;dsimp only;split
 .rename_i j;intro a;by_cases hs:dR j=true/\j.toNat<=ba
  .rw[A4 hs]at a;cases a;cases g with
   |cons r h=>
    cases h;refine⟨j,by rw[show _=V.int j from r],(fE hs.1).1,(fE hs.1).2,hs.2,λl i=>?_⟩;obtain⟨m,G2⟩:=f.lay (o:=.tup (GH 0 j.toNat)) i;exact k _ _ _ (e.trans m) G2 ⟨l,_,rfl,SqT.of aS,aGF⟩
  .rw[A5 hs]at a;cases a
 .intro a;cases a
def aDO{ι:Type}{X:ι->Cx}{a:Ud}{p e pos b:Pos}(f:∀i,(X i).calm=true)(hm:∀i,(X i).mg "range"=Y)(c:∀i,(X i).mg "tuple"=Y)(x:MA K X [a] fa)(g:∀i,Gl (X i) "range":=by intro _;rfl)(d:∀i,Gl (X i) "tuple":=by intro _;rfl):
 ME K X (.Call (.Name "tuple" p) [.Call (.Name "range" e) [a] [] b] [] pos) (rH fa):=by
 obtain⟨t,h,j⟩:=x.ex;exact⟨_,λi=>aEs (f i) (g i) (hm i) (d i) (c i) (h i)<|x.st.1 _,aDL j⟩
end
def Rsg(xs:Tj):Prop:=∀i k:Nat,i<k->k<xs.size->xs.getD i 0<xs.getD k 0
noncomputable abbrev t7(b:Bool)(p:Tj):SetTable:=⟨7,p,#[],0,b,0,true⟩
noncomputable abbrev t31(b:Bool)(p:Tj):SetTable:=⟨31,p,#[],0,b,1,true⟩
noncomputable def vI:Tz->Int
 |.int i _=>i
 |_=>0
structure Tp(b:Bool)(t:SetTable)(es:Array (Int×Tz)):Prop where
 bd:∀e∈es.toList,0<=e.1/\e.1<9
 vl:∀e∈es.toList,vI e.2=e.1
 nd:(es.toList.map (·.1)).Nodup
 fm:∃p,Rsg p/\((t=t7 b p/\(∀i,i<p.size->p.getD i 0<=7)/\p.size<=4/\p.size=es.size)\/(t=t31 b p/\p.toList=es.toList.map λe=>e.1.toNat))
structure aOf(prog:Ue)(w:World)(b:Bool)(h:Heap)(a:Uc)(es:Array (Int×Tz))(σ:T7):Prop where
 ob:∃o ep t,h.get? a=Z o/\o.ExactSet/\o.data=.set es ep t/\t.fits es.size=true/\Tp b t es
 el:ElemsOf (intKind prog w) es.toList
 sm:es.size<scanBound
 pm:(es.toList.map λe=>vI e.2).Perm σ
section
variable{prog:Ue}{w:World}{A:Uf}{E:T1}{s:Ub}
def aKV{h:Heap}{a:Uc}{o:Obj}(b:h.get? a=Z o)(hd:o.data=.set es ep t):(h.update a<|Obj.putSet es' t').get? a=Z { o with data:=.set es' (ep+1) t' }:=by
 have:=F9 (Obj.putSet es' t') b (by rw[putSet_of es' t' hd];rfl);rw[putSet_of es' t' hd]at this;exact this
def stored{h:Heap}{a:Uc}{o:Obj}{es':Array (Int×Tz)}{t':SetTable}(g:h.get? a=Z o)(c:o.ExactSet)(hd:o.data=.set es ep t)(el:ElemsOf (intKind prog w) es'.toList)(sm:es'.size<scanBound)(i:t'.fits es'.size=true)(T:Tp b t' es')(pm:(es'.toList.map λe=>vI e.2).Perm d):
 (h.update a<|Obj.putSet es' t').get? a=Z { o with data:=.set es' (ep+1) t' }/\aOf prog w b (h.update a<|Obj.putSet es' t') a es' d:=by
 have f:=aKV (es':=es') (t':=t') g hd;exact⟨f,⟨_,_,_,f,c,rfl,i,T⟩,el,sm,pm⟩
end
section
variable{prog:Ue}{w:World}{A:Uf}{E:T1}{s:Ub}
end
end L2
namespace PySem
section
variable{prog:Ue}{w:World}{A:Uf}{E:T1}{s:Ub}
end
end PySem
namespace L2
variable{apos cpos pos:Pos}
open PySem PySem.Spec PyProof.Rows
def fG(x:Str):EF:=λ_ M=>Z (.g x,M)
section
variable{ι:Type}{K:Fg}{X:ι->Cx}{e:Ud}{es:T8}{pos:Pos}
def HC(hm:∀i,(X i).mg x=Z (.ref (bK K x)))(a:∀i,Gl (X i) x:=by intro _;rfl)(hd:(x==("__debug__":Str))=false:=by decide):ME K X (.Name x pos) (fG x):=
 ⟨_,λi=>LM (v:=.ref (bK K x)) (a i) (hm i) rfl hd,λc M y M' b W H d Q G R k=>by cases b;exact k _ W H (.refl _) G rfl⟩
end
section
variable{K:Fg}
def aOa:Tc->Hp->VK->Prop:=λxs H Q=>∃i,xs=[.int i]/\i.natAbs.log2<1920/\Q (.str (toString i)) H
def zJ:FN:=λxs M=>match xs with
 |[.d (.int i)]=>if i.natAbs.log2<1920 then Z (.d (.str (toString i)),M)else Y
 |_=>Y
def aHV:PN K aOa zJ:=by
 intro xs M z M' h W H vs Q G r k;unfold zJ at h;split at h
 .rename_i i;by_cases a:i.natAbs.log2<1920
  .rw[A4 a]at h;cases h;obtain _|⟨b,_|_⟩:=r;exact⟨i,by rw[show _=V.int i from b],a,k _ W H (.refl _) G rfl⟩
  .rw[A5 a]at h;cases h
 .cases h
def aDp:QN K X (.type "str") zJ:=⟨_,λ_=>LR,aHV⟩
noncomputable def aNR:R2:=λx y H Q=>∃i j,x=.str i/\y=.str j/\i.length+j.length<=ba/\Q (.str (i++j)) H
def aFw:F2:=λx y M=>match x,y with
 |.d (.str a),.d (.str b)=>if a.length+b.length<=ba then Z (.d (.str (a++b)),M)else Y
 |_,_=>Y
def aGK:P2 K aNR aFw:=by
 intro x y M z M' h W H v u Q G d e k;unfold aFw at h;split at h
 .rename_i a b;by_cases c:a.length+b.length<=ba
  .rw[A4 c]at h;cases h;exact⟨a,b,d,e,c,k _ W H (.refl _) G rfl⟩
  .rw[A5 c]at h;cases h
 .cases h
def xQ:F2:=yF bY aFw
def UU{ι:Type}{X:ι->Cx}(a:∀i,(X i).K=K):Q2 K X (binaryOp .Add) xQ:=⟨_,λi=>(aNa<|a i).or SX,P2.or VR aGK⟩
def HN:T4->Tw (Tb)
 |[]=>Z []
 |.str x::r=>(HN r).bind λxs=>Z (x::xs)
 |_::_=>Y
theorem OB:∀{ds:T4}{ns:Tb},HN ds=Z ns->ds=ns.map .str
 |[],_=>λh=>by cases h;rfl
 |d::ds,ns=>λh=>by
  cases d with
  |str n=>
   obtain⟨ms,a,b⟩:=Option.bind_eq_some_iff.mp (show(HN ds).bind (λns=>Z (n::ns))=Z ns from h);cases b;rw[OB a];rfl
  |_=>cases h
theorem AD:∀{ns:Tb}{us:Tc},aM K H (ns.map .str) us->us=ns.map .str
 |[],_=>λh=>h
 |n::ns,_=>λh=>by
  obtain⟨v,r,rfl,a,b⟩:=(show ∃v r,_=v::r/\Rep K H (.str n) v/\aM K H (ns.map .str) r from h);rw[AD b,show v=V.str n from a];rfl
theorem GW:∀{ns:Tb}{us:T5},bA (ns.map .str) us->StrsAre us ns
 |[],_=>λh=>by cases h;exact .nil
 |n::ns,_=>λh=>by
  cases h with
  |cons a b=>
   obtain⟨t,rfl⟩:=a;exact .cons n t (GW b)
noncomputable def wC(sep:Str)(ys:Tb):Nat:=(ys.map (·.length)).sum+ys.length*sep.length
def rJoin(K:Fg):V->Tc->Hp->VK->Prop:=λx vs H Q=>∃a p b,x=.str a/\vs=[.ref p]/\SqL K H p (b.map .str)/\wC a b<=16777216/\Q (.str (Txt.join a b)) H
def aFY:MtR X "str.join" (rJoin X.K):=by
 intro bq s j H x vs v us Q I b c h;obtain⟨d,p,l,rfl,rfl,e,f,q⟩:=h;obtain⟨t,rfl⟩:=b;obtain⟨u,rfl,g⟩:=vals1 c;cases g;obtain⟨its,a,pl,i⟩:=I.list e;exact join_list pl.isList (by simpa using GW a) f λm k=>⟨.str _,H,I.tok _,⟨_,rfl⟩,q⟩
def kM:FM:=λx vs M=>match x,vs with
 |.d (.str a),[.d (.list c)]=>(HN c).bind λb=>if wC a b<=16777216 then Z (.d (.str (Txt.join a b)),M)else Y
 |_,_=>Y
def aGN:PM K (rJoin K) kM:=by
 intro x c M z M' h W H v vs Q G g rs k;unfold kM at h;split at h
 .rename_i b i;obtain⟨c,j,h⟩:=aJ h;by_cases d:wC b c<=16777216
  .rw[A4 d]at h;cases h;obtain _|⟨l,_|_⟩:=rs;obtain⟨p,us,rfl,e,f⟩:=(show ∃a us,_=V.ref a/\SqL K W.F a us/\aM K W.F i us from l);rw[OB j]at f;rw[AD f]at e;exact⟨b,p,c,g,rfl,G.fh.seq e,d,k _ W H (.refl _) G rfl⟩
  .rw[A5 d]at h;cases h
 .cases h
def BM{ι:Type}{X:ι->Cx}{e:Ud}{fa:AF}(a:∀i,(X i).K=K)(x:ME K X o f)(y:MA K X [e] fa)(b:∀env:Env,attributeBase o "join" env (eval o env)=eval o env:=by intro _;rfl)(c:(apos.endLine==cpos.line)=true:=by rfl):
 ME K X (.Call (.Attribute o "join" apos) [e] [] cpos) (aX "str" kM f fa):=by
 obtain⟨t,d,g⟩:=x.ex;obtain⟨u,h,j⟩:=y.ex;refine⟨_,λi=>?_,xK aGN g j⟩;have:=RB U8 F.slot_str_join F.type_str_join aFY (d i) (h i) (apos:=apos) (cpos:=cpos) (b _) (by rw[y.st.1];rfl) c (y.st.1 _)<|y.st.2.plain _ _;rw[a i]at this;exact this
noncomputable def aNi(t:TE):TE:=λb H Q=>t b H λx a=>(∃i,x=.int i/\i.natAbs.log2<1920/\Q (.str (toString i)) a)\/∃y,x=.str y/\y.length<=ba/\Q (.str y) a
def aLp(h:PE X e t):PE X (.FormattedValue e (-1) Y pos) (aNi t):=by
 intro bq s f H Q I g;refine wpAny_FormattedValue_plain (thn (h bq s f H _ I g) λv s1 ⟨x,a,b,d,j⟩=>?_);obtain⟨i,rfl,c,q⟩|⟨y,rfl,c,q⟩:=j
 .obtain⟨k,rfl⟩:=d;exact wpAny_formatField_int c ⟨.str _,a,b.tok _,⟨_,rfl⟩,q⟩
 .obtain⟨k,rfl⟩:=d;exact wpAny_formatField_str ⟨.str _,a,b,⟨_,rfl⟩,q⟩ ⟨.str _,a,b.tok _,⟨_,rfl⟩,q⟩ c
def NU:CD->Tw Str
 |.d (.int i)=>if i.natAbs.log2<1920 then Z (toString i)else Y
 |.d (.str y)=>if y.length<=ba then Z y else Y
 |_=>Y
def vT(f:EF):EF:=λa M=>(f a M).bind λr=>(NU r.1).bind λy=>Z (.d (.str y),r.2)
def aJi(a:SE K t f):SE K (aNi t) (vT f):=by
 intro p M x M' d W H m Q G R k;obtain⟨⟨y,M1⟩,n,d⟩:=aJ d;obtain⟨z,b,d⟩:=aJ d;cases d;refine a _ _ _ _ n W H m _ G R λv e g h j l=>?_;unfold NU at b;split at b
 .rename_i i hi;cases hi;by_cases c:i.natAbs.log2<1920
  .rw[A4 c]at b;cases b;exact .inl ⟨i,l,c,k _ e g h j rfl⟩
  .rw[A5 c]at b;cases b
 .rename_i y o;cases o;by_cases c:y.length<=ba
  .rw[A4 c]at b;cases b;exact .inr ⟨_,l,c,k _ e g h j rfl⟩
  .rw[A5 c]at b;cases b
 .cases b
def vE(x:ME K X e f):ME K X (.FormattedValue e (-1) Y pos) (vT f):=by
 obtain⟨t,a,b⟩:=x.ex;exact⟨_,λi=>aLp<|a i,aJi b⟩
abbrev TJ:=Str->St->Hp->(Str->Hp->Prop)->Prop
abbrev JF:=Str->Ga->Sto->Tw (Str×Sto)
def PJ(X:Cx)(es:T8)(t:TJ):Prop:=
 ∀(acc:Str)(bq:T2)(s:Ub)(a:St)(H:Hp)(Q:Str->Hp->Prop),Inv X bq a H s->t acc a H Q->Joins (bb X.prog X.w) X.A X.xe (evalEach es X.env) acc (λb s1=>∃H',Inv X bq a H' s1/\Q b H') s
def SJ(K:Fg)(t:TJ)(f:JF):Prop:=∀acc b M a M',f acc b M=Z (a,M')->∀(W:Wd)(H:Hp)(c:St)(Q:Str->Hp->Prop),Good K W M H->cN K W b c->(∀W' H',W.Ext W'->Good K W' M' H'->Q a H')->t acc c H Q
structure MJ{ι:Type}(K:Fg)(X:ι->Cx)(es:T8)(f:JF):Prop where
 ex:∃t,(∀i,PJ (X i) es t)/\SJ K t f
def JJ:JF:=λacc _ M=>Z (acc,M)
def gV(f:EF)(g:JF):JF:=λacc a M=>(f a M).bind λr=>match r.1 with
 |.d (.str y)=>if (acc++y).length<=ba then g (acc++y) a r.2 else Y
 |_=>Y
def RW:MJ K X [] JJ:=by
 refine⟨λacc _ H Q=>Q acc H,λi acc bq s a H Q I h=>⟨H,I,h⟩,λacc d M b M' c W H a Q G R k=>?_⟩;cases c;exact k W H (.refl _) G
def gI{e:Ud}(x:ME K X e f)(y:MJ K X es g):MJ K X (e::es) (gV f g):=by
 obtain⟨t,m,n⟩:=x.ex;obtain⟨u,o,p⟩:=y.ex;refine⟨λacc b H Q=>t b H λv c=>∃z,v=.str z/\(acc++z).length<=ba/\u (acc++z) b c Q,λi acc bq s b H Q I h=>?_,λacc O M r M' a W H b Q G R k=>?_⟩
 .show Joins _ _ _ (eval e (X i).env::evalEach es (X i).env) acc _ s;refine thn (m i bq s b H _ I h) λv s1 ⟨w,c,A,j,z,B,d,q⟩=>?_;subst B;obtain⟨C,rfl⟩:=j;exact⟨z,C,rfl,d,o i _ bq s1 b c Q A q⟩
 .obtain⟨⟨w,M1⟩,D,a⟩:=aJ a;refine n _ _ _ _ D W H b _ G R λv E c l F j=>?_;dsimp only at a;split at a
  .rename_i z;by_cases d:(acc++z).length<=ba
   .rw[A4 d]at a;exact⟨z,j,d,p _ _ _ _ _ a E c b Q F (R.up l) λJ L N G2=>k J L (l.trans N) G2⟩
   .rw[A5 d]at a;cases a
  .cases a
def jT(j:JF):EF:=λa M=>(j Str.empty a M).bind λr=>if r.1.length<=ba then Z (.d (.str r.1),r.2)else Y
def zD{a b:Ud}{es:T8}(x:MJ K X (a::b::es) j):ME K X (.JoinedStr (a::b::es) pos) (jT j):=by
 obtain⟨t,u,z⟩:=x.ex;refine⟨λe H Q=>t Str.empty e H λf g=>f.length<=ba/\Q (.str f) g,λi bq s e H Q I h=>?_,λN M y M' c W H e Q G R k=>?_⟩
 .have B:=u i Str.empty bq s e H _ I h;refine wpAny_JoinedStr ?_
  have mono:∀(ps:Tv (Sem Tz))(acc:Str)(s:Ub)(P m:Str->Ub->Prop),(∀o s,P o s->m o s)->Joins (bb (X i).prog (X i).w) (X i).A (X i).xe ps acc P s->Joins (bb (X i).prog (X i).w) (X i).A (X i).xe ps acc m s:=by
   intro ps
   induction ps with
   |nil=>intro acc s P m n h;exact n _ _ h
   |cons p ps ih=>
    intro acc s P m n h;refine thn h λv s1 ⟨y,t,r,C,D⟩=>⟨y,t,r,C,ih _ _ _ _ n D⟩
  refine mono _ _ _ _ _ (λo s1 ⟨g,E,l,q⟩=>⟨l,.str o,g,E.tok _,⟨_,rfl⟩,q⟩) B
 .obtain⟨⟨o,M1⟩,F,c⟩:=aJ c;by_cases l:o.length<=ba
  .have c:(if o.length<=ba then Z (CD.d (.str o),M1)else Y)=Z (y,M'):=c;rw[A4 l]at c;cases c;exact z _ _ _ _ _ F W H e _ G R λJ g r L=>⟨l,k _ J g r L rfl⟩
  .have c:(if o.length<=ba then Z (CD.d (.str o),M1)else Y)=Z (y,M'):=c;rw[A5 l]at c;cases c
end
section
variable{K:Fg}
def SY(K:Fg)(e ty:TE):TE:=λd H Q=>e d H λx f=>ty d f λy c=>∃a b kvs k v,x=.ref a/\y=.ref b/\Rd c a (.dT kvs)/\SqT K c b (k.map kV)/\iP kvs k=Z v/\Q v c
def aEC{X:Cx}(q:X.A.units+1<cLine)(t:PE X o j)(hi:PE X i ty)(hs:aGM i):PE X (.Subscript o i pos) (SY X.K j ty):=by
 intro bq s l H Q I h;refine aHP F.slot_dict_getitem.lookup hs (thn (t bq s l H _ I h) λu s1 ⟨x,w,B,C,D⟩=>thn (hi bq s1 l w _ B D) λE s2 ⟨y,G,c,J,a,b,kvs,k,v,ex,L,e,M,N,O⟩=>?_);subst ex;subst L;obtain rfl:u=Value.ref a:=C;cases (show E=Value.ref b from J);obtain⟨z,hd,xs,d,m⟩:=aEz c.hok e;obtain⟨V,P,f⟩:=zI.some_of (v:=v) (o:=(atKey xs k).map (·.2)) (by rw[<- N];exact d.val k);obtain⟨p,R,g⟩:=Option.map_eq_some_iff.mp P;obtain⟨its,r,⟨ob,S,T,n,U⟩,_⟩:=c.tuple M;refine⟨m.typeIs,wpAny_getItem_heap (tupleKind_room_in1 q) (k:=k) ⟨ob,its.toArray,n,S,T,U,by simpa using yB r⟩ m R ?_⟩;rw[g];exact⟨v,G,c.tok _,f,O⟩
def aAd{X:Cx}(b:X.K=K)(c:X.A.units+1<cLine)(d:PE X o a)(hi:PE X i ty)(hs:aGM i):PE X (.Subscript o i pos) (SY K a ty):=by subst b;exact aEC c d hi hs
def JL(fo b:EF):EF:=λa M=>(fo a M).bind λo=>(b a o.2).bind λk=>match k.1 with
 |.d (.tuple c)=>(keysOf<|c.map .d).bind λks=>(atD k.2 o.1 (.inr ks)).bind λr=>r.bind λx=>Z (x,k.2)
 |_=>Y
def aDg(a:SE K C fo)(b:SE K ty D):SE K (SY K C ty) (JL fo D):=by
 intro γ M x M' e W H E Q G R c;obtain⟨⟨o,M1⟩,L,e⟩:=aJ e;obtain⟨⟨ky,M2⟩,I,e⟩:=aJ e;dsimp only at e I;split at e
 .rename_i N;obtain⟨ks,O,e⟩:=aJ e;obtain⟨r,h,e⟩:=aJ e;obtain⟨z,P,e⟩:=aJ e;cases e;subst P;refine a _ _ _ _ L W H E _ G R λv S T s U X=>b _ _ _ _ I S T E _ U (R.up s) λy n J w G2 r2=>?_;obtain⟨q,us,rfl,hq,hr⟩:=(show ∃a us,y=V.ref a/\SqT K n.F a us/\aM K n.F N us from r2);have ev:us=ks.map kV:=vH O<|lA hr;subst ev;have l:=G2.fh.seqT hq;have m:=X.up w;cases o with
  |c i=>
   have h:(match M'[i]? with|some (Cell.dt kvs)=>Z (lkC kvs ks)|_=>Y)=Z (Z x):=h;split at h
   .rename_i kvs hk;obtain⟨us,A,B⟩:=G2.dtAt hk;have j:=BU (k:=ks) B;rw[D5 h]at j;cases c':iP us ks with
    |none=>rw[c']at j;exact False.elim j
    |some u=>rw[c']at j;exact⟨_,q,us,ks,u,m.2,rfl,.inl A,l,c',c u n J (s.trans w) G2 j⟩
   .cases h
  |f kvs=>
   have h:Z ((lkP kvs ks).map CD.d)=Z (Z x):=h;obtain⟨p,ob,us,rfl,A,B⟩:=m;have j:=CW (k:=ks) B;rw[D5 h]at j;cases c':iP us ks with
   |none=>rw[c']at j;exact False.elim j
   |some u=>rw[c']at j;exact⟨_,q,us,ks,u,rfl,rfl,.inr ⟨ob,G2.fh _ _ A⟩,l,c',c u n J (s.trans w) G2 j⟩
  |d _=>cases h
  |t _=>cases h
  |g _=>cases h
 .cases e
def aBB{ι:Type}{X:ι->Cx}(a:∀j,(X j).K=K)(b:∀j,(X j).A.units+1<cLine)(x:ME K X o f)(y:ME K X i g)(hs:aGM i:=by intro _ _;rfl):ME K X (.Subscript o i pos) (JL f g):=by
 obtain⟨t,c,d⟩:=x.ex;obtain⟨u,e,h⟩:=y.ex;exact⟨_,λj=>aAd (a j) (b j) (c j) (e j) hs,aDg d h⟩
theorem jM{env:Env}:∀{names:Tv (Tl)}{x:Str},names.lookup x=Z .cell\/names.lookup x=Z .free->
 (names.map λ(n,k)=>if (k==NameKind.free&&env.scope.kind==.function&&env.kindOf n==Z .cell)then(n,NameKind.cell)else(n,k)).lookup x=Z .cell \/
 (names.map λ(n,k)=>if (k==NameKind.free&&env.scope.kind==.function&&env.kindOf n==Z .cell)then(n,NameKind.cell)else(n,k)).lookup x=Z .free
 |[],_=>λh=>by simp at h
 |(n,k)::r,x=>λh=>by
  have ih:=@jM env r x;show List.lookup x ((if (k==NameKind.free&&env.scope.kind==.function&&env.kindOf n==Z .cell)=true then(n,NameKind.cell)else(n,k))::_)=_\/List.lookup x ((if (k==NameKind.free&&env.scope.kind==.function&&env.kindOf n==Z .cell)=true then(n,NameKind.cell)else(n,k))::_)=_;cases a:x==n with
  |true=>
   simp only[List.lookup_cons,a]at h;by_cases b:(k==NameKind.free&&env.scope.kind==.function&&env.kindOf n==Z .cell)=true
   .rw[A4 b];simp only[List.lookup_cons,a];exact .inl trivial
   .rw[A5 b];simp only[List.lookup_cons,a];exact h
  |false=>
   simp only[List.lookup_cons,a]at h;by_cases b:(k==NameKind.free&&env.scope.kind==.function&&env.kindOf n==Z .cell)=true
   .rw[A4 b];simp only[List.lookup_cons,a];exact ih h
   .rw[A5 b];simp only[List.lookup_cons,a];exact ih h
def VS(h:aBf a b N' cap scope=true):nU (mL X b a j) N' cap scope:=by
 have S:nU { mL X b a j with env:={ (mL X b a j).env with scope:=a } } N' cap scope:=WC (sc0:=a) (N:=b) rfl rfl h;exact⟨S.nocell,S.kind,S.names,λy c d=>jM<|S.frees y c d,S.len,S.cap⟩
end
section
variable{K:Fg}
noncomputable def jV(a b:Str):Bool:=!(b.length==0)&&decide (a.length<=ba)&&decide ((Builtin.Str.partsBetween a (Builtin.Str.occurrences a b 0 a.length (a.length+1)) b.length).length<=ba)&&decide ((Txt.split a b).length<=ba)
def UY:V->Tc->Hp->VK->Prop:=λx vs H Q=>∃a b,x=.str a/\vs=[.str b]/\jV a b=true/\∀l,H l=Y->Q (.ref l) (upd H l (.lst ((Txt.split a b).map .str)))
theorem wY:∀l:Tv (Str×Tok),bA ((l.map (·.1)).map V.str) (strValues l)
 |[]=>.nil
 |p::l=>.cons ⟨p.2,rfl⟩ (wY l)
def RD:MtR X "str.split" UY:=by
 intro bq s m H x vs v us Q I n p h;obtain⟨a,b,rfl,rfl,ok,q⟩:=h;obtain⟨t,rfl⟩:=n;obtain⟨u,rfl,r⟩:=vals1 p;obtain⟨t',rfl⟩:=r;unfold jV at ok;simp only[Bool.and_eq_true,decide_eq_true_eq,Bool.not_eq_true']at ok;obtain⟨⟨⟨k,j⟩,g⟩,w⟩:=ok
 have d:∀(l:Tv (Str×Tok))(tk:Nat)(c:Nat),l.map (·.1)=Txt.split a b->EP X bq m Q (.ref s.heap.objs.size) { s with toks:=tk,heap:=s.heap.push { cls:=.type "list",data:=.seq (strValues l).toArray c } }:=λl tk c e=>by
  have y:=I.laid (h':=s.heap.push { cls:=.type "list",data:=.seq (strValues l).toArray c }) (t':=tk) (o:=.lst ((Txt.split a b).map .str)) (a:=s.heap.objs.size) (λx o z=>A3 _ z) (A7 _) ⟨by rw[A1];exact w,strValues l,c,by rw[<- e];exact wY l,B3 _ rfl⟩;exact⟨.ref _,_,y,rfl,q _<|I.hok.fresh<|A7 _⟩
 cases f:(decide (a.length<b.length) || decide (Builtin.Str.strKind a<Builtin.Str.strKind b))
 .cases i:(Builtin.Str.occurrences a b 0 a.length (a.length+1)).isEmpty
  .refine Y3 U9 (A0f _ _ _) F.entry_str_split (F.args_str_split_2 _ _) (meets_str_split_sep a b t t' f k i j g) ?_;show wants _ _ _ { s with toks:=_,heap:=s.heap.push { cls:=.type "list",data:=.seq (strsFrom s.toks<|Builtin.Str.partsBetween a (Builtin.Str.occurrences a b 0 a.length (a.length+1)) b.length).toArray } };rw[strsFrom_eq];exact d (numbered s.toks _) _ _<|(numbered_texts _ _).trans ((A5<|ne_true_of_eq_false f).trans (A5<|ne_true_of_eq_false i)).symm
  .exact Y3 U9 (A0f _ _ _) F.entry_str_split (F.args_str_split_2 _ _) (meets_str_split_not_found a b t t' f k i)<|d [(a,t)] s.toks _ ((A5<|ne_true_of_eq_false f).trans (A4 i)).symm
 .exact Y3 U9 (A0f _ _ _) F.entry_str_split (F.args_str_split_2 _ _) (meets_str_split_cannot_occur a b t t' f)<|d [(a,t)] s.toks _ (A4 f).symm
def iM:FM:=λx vs M=>match x,vs with
 |.d (.str a),[.d (.str b)]=>if jV a b=true then Z (.d (.list ((Txt.split a b).map .str)),M)else Y
 |_,_=>Y
theorem CO:∀ls:Tb,aM K H (ls.map .str) (ls.map .str)
 |[]=>rfl
 |_::ls=>⟨_,_,rfl,rfl,CO ls⟩
def aCj:PM K UY iM:=by
 intro x g M z M' h W H v vs Q G c rs k;unfold iM at h;split at h
 .rename_i a b;by_cases ok:jV a b=true
  .rw[A4 ok]at h;cases h;obtain _|⟨d,_|_⟩:=rs;refine⟨a,b,c,by rw[show _=V.str b from d],ok,λl e=>?_⟩;obtain⟨f,G2⟩:=G.lay (o:=.lst ((Txt.split a b).map .str)) e;exact k _ _ _ f G2 ⟨l,_,rfl,SqL.of aS,CO _⟩
  .rw[A5 ok]at h;cases h
 .cases h
def EO{ι:Type}{X:ι->Cx}{e:Ud}{fa:AF}(a:∀i,(X i).K=K)(x:ME K X o f)(y:MA K X [e] fa)(b:∀env:Env,attributeBase o "split" env (eval o env)=eval o env:=by intro _;rfl)(c:(apos.endLine==cpos.line)=true:=by rfl):
 ME K X (.Call (.Attribute o "split" apos) [e] [] cpos) (aX "str" iM f fa):=by
 obtain⟨t,d,g⟩:=x.ex;obtain⟨u,h,j⟩:=y.ex;refine⟨_,λi=>?_,xK aCj g j⟩;have:=RB U8 U9 F.type_str_split RD (d i) (h i) (apos:=apos) (cpos:=cpos) (b _) (by rw[y.st.1];rfl) c (y.st.1 _)<|y.st.2.plain _ _;rw[a i]at this;exact this
def ixS:F2:=λx y M=>match x,y with
 |.d (.str z),.d (.int n)=>if z.length<=ba then(atI z.cps.toList n).bind λc=>Z (.d (.str ⟨#[c]⟩),M)else Y
 |_,_=>Y
def aLq:P2 K aJu ixS:=by
 intro x y M z M' h W H v u Q G b d k;unfold ixS at h;split at h
 .rename_i w n;by_cases a:w.length<=ba
  .rw[A4 a]at h;obtain⟨c,e,h⟩:=aJ h;cases h;exact⟨w,n,c,b,d,a,e,k _ W H (.refl _) G rfl⟩
  .rw[A5 a]at h;cases h
 .cases h
def aNJ:QI K X ixS:=⟨_,λ_=>aDk,aLq⟩
def inS(neg:Bool):F2:=λx y M=>match x,y with
 |.d (.str a),.d (.str b)=>Z (.d (.bool (if neg then !(!(Builtin.Str.occurrences b a 0 b.length 1).isEmpty)else !(Builtin.Str.occurrences b a 0 b.length 1).isEmpty)),M)
 |_,_=>Y
def aLX:P2 K (λx y H Q=>∃i j,x=.str i/\y=.str j/\Q (.bl (!(Builtin.Str.occurrences j i 0 j.length 1).isEmpty)) H) (inS false):=by
 intro x y M z M' h W H v u Q G c d k;unfold inS at h;split at h
 .rename_i a b;cases h;exact⟨a,b,c,d,k _ W H (.refl _) G rfl⟩
 .cases h
def aNA:Q2 K X (bi .In) (inS false):=⟨_,λ_=>ZQ,aLX⟩
def lQ(f:EF):TF:=λa M=>(f a M).bind λr=>match r.1 with
 |.d (.str y)=>if y.length<=ba then Z (((y.length:Int) != 0),r.2)else Y
 |_=>Y
def aHx(a:SE K g f):STt K (λd H Q=>g d H λx H'=>∃k,aEq K x H' k/\Q k H') (lQ f):=by
 intro o M b M' c W H d Q G R k;obtain⟨⟨y,M1⟩,h,c⟩:=aJ c;dsimp only at c;split at c
 .rename_i w;by_cases e:w.length<=ba
  .rw[A4 e]at c;cases c;refine a _ _ _ _ h W H d _ G R λv i j l m n=>⟨_,?_,k i j l m⟩;rw[show v=.str w from n];exact⟨e,rfl⟩
  .rw[A5 e]at c;cases c
 .cases c
def JQ{ι:Type}{X:ι->Cx}(c:∀i,(X i).K=K)(x:ME K X a f)(d:∀(env:Env)(b:Sem Tz),isTrue a env b=(do let v <- b;standAt a.pos;holding [v]<|truthy v):=by intro _ _;rfl):MT K X a (lQ f):=by
 obtain⟨t,e,g⟩:=x.ex;exact⟨_,λi=>XX (c i) (e i)<|d _,aHx g⟩
end
section
variable{K:Fg}
def aIL:Tc->Hp->VK->Prop:=λxs H Q=>∃x n,xs=[.str x]/\PySem.intText? x=Z n/\x.length<=640/\Q (.int n) H
def ZH:fB X (.type "int") aIL:=by
 intro bq s b H xs us Q I r h;obtain⟨x,n,rfl,hn,a,q⟩:=h;obtain⟨u,rfl,t,rfl⟩:=vals1 r;exact W.KIN.call_text hn a ⟨.int n,H,I.tok _,⟨_,rfl⟩,q⟩
def VO:FN:=λxs M=>match xs with
 |[.d (.str x)]=>if x.length<=640 then(PySem.intText? x).bind λn=>Z (.d (.int n),M)else Y
 |_=>Y
def aFm:PN K aIL VO:=by
 intro xs M z M' h W H vs Q G r k;unfold VO at h;split at h
 .rename_i x;by_cases a:x.length<=640
  .rw[A4 a]at h;obtain⟨n,b,h⟩:=aJ h;cases h;obtain _|⟨c,_|_⟩:=r;exact⟨x,n,by rw[show _=V.str x from c],b,a,k _ W H (.refl _) G rfl⟩
  .rw[A5 a]at h;cases h
 .cases h
def aKr:QN K X (.type "int") VO:=⟨_,λ_=>ZH,aFm⟩
def aIO(K:Fg):Tc->Hp->VK->Prop:=λxs H Q=>∃x n,xs=[x]/\aMJ K x H n/\Q (.int n) H
def aNN{X:Cx}(h:X.K=K):fB X (.builtin "len") (aIO K):=by subst h;exact aDZ
def RO:FN:=λxs M=>match xs with
 |[.d (.str x)]=>if x.length<=ba then Z (.d (.int x.length),M)else Y
 |_=>Y
def aFu:PN K (aIO K) RO:=by
 intro xs M z M' h W H vs Q G r k;unfold RO at h;split at h
 .rename_i x;by_cases a:x.length<=ba
  .rw[A4 a]at h;cases h;obtain _|⟨b,_|_⟩:=r;exact⟨.str x,x.length,by rw[show _=V.str x from b],⟨a,rfl⟩,k _ W H (.refl _) G rfl⟩
  .rw[A5 a]at h;cases h
 .cases h
def aKI{ι:Type}{X:ι->Cx}(a:∀i,(X i).K=K):QN K X (.builtin "len") RO:=⟨_,λi=>aNN<|a i,aFu⟩
noncomputable def iK(x y:Str):Tb:=match Builtin.Str.occurrences x y 0 x.length 1 with
 |i::_=>[Builtin.Str.strSub x 0 i,y,Builtin.Str.strSub x (i+y.length) x.length]
 |[]=>[x,Str.empty,Str.empty]
def aAB(x y:Str):(iK x y).length=3:=by
 unfold iK;split<;>rfl
def aIz:V->Tc->Hp->VK->Prop:=λx vs H Q=>∃a b,x=.str a/\vs=[.str b]/\(b.length==0)=false/\a.length<=ba/\∀l,H l=Y->Q (.ref l) (upd H l (.tup ((iK a b).map .str)))
def aHG:MtR X "str.partition" aIz:=by
 intro bq s g H x vs v us Q I j k h;obtain⟨a,b,rfl,rfl,l,f,q⟩:=h;obtain⟨t,rfl⟩:=j;obtain⟨u,rfl,m⟩:=vals1 k;obtain⟨t',rfl⟩:=m;refine Y3 F.slot_str_partition (A0f _ _ _) F.entry_str_partition (F.args_str_partition_2 _ _) (meets_str_partition a b t t' l f) ?_
 have d:∀(its:T5)(tk:Nat)(c:Nat),bA ((iK a b).map .str) its->EP X bq g Q (.ref s.heap.objs.size) { s with toks:=tk,heap:=s.heap.push { cls:=.type "tuple",data:=.seq its.toArray c } }:=λits tk c e=>by
  have n:=I.laid (h':=s.heap.push { cls:=.type "tuple",data:=.seq its.toArray c }) (t':=tk) (o:=.tup ((iK a b).map .str)) (a:=s.heap.objs.size) (λx o p=>A3 _ p) (A7 _) ⟨by rw[A1,aAB,E4];decide,its,e,⟨_,B3 _ rfl,rfl,c,rfl⟩⟩;exact⟨.ref _,_,n,rfl,q _<|I.hok.fresh<|A7 _⟩
 unfold iK at d;revert d;cases Builtin.Str.occurrences a b 0 a.length 1 with
 |nil=>intro d;exact d _ _ _ (.cons ⟨_,rfl⟩ (.cons ⟨_,rfl⟩ (.cons ⟨_,rfl⟩ .nil)))
 |cons i r=>intro d;exact d _ _ _ (.cons ⟨_,rfl⟩ (.cons ⟨_,rfl⟩ (.cons ⟨_,rfl⟩ .nil)))
def BX:FM:=λx vs M=>match x,vs with
 |.d (.str a),[.d (.str b)]=>if (b.length==0)=false/\a.length<=ba then Z (.d (.tuple ((iK a b).map .str)),M)else Y
 |_,_=>Y
def aHD:PM K aIz BX:=by
 intro x g M z M' h W H v vs Q G c rs k;unfold BX at h;split at h
 .rename_i a b;by_cases ok:(b.length==0)=false/\a.length<=ba
  .rw[A4 ok]at h;cases h;obtain _|⟨d,_|_⟩:=rs;refine⟨a,b,c,by rw[show _=V.str b from d],ok.1,ok.2,λl e=>?_⟩;obtain⟨f,G2⟩:=G.lay (o:=.tup ((iK a b).map .str)) e;exact k _ _ _ f G2 ⟨l,_,rfl,SqT.of aS,CO _⟩
  .rw[A5 ok]at h;cases h
 .cases h
def aGE{ι:Type}{X:ι->Cx}{e:Ud}{fa:AF}(a:∀i,(X i).K=K)(x:ME K X o f)(y:MA K X [e] fa)(b:∀env:Env,attributeBase o "partition" env (eval o env)=eval o env:=by intro _;rfl)(c:(apos.endLine==cpos.line)=true:=by rfl):
 ME K X (.Call (.Attribute o "partition" apos) [e] [] cpos) (aX "str" BX f fa):=by
 obtain⟨t,d,g⟩:=x.ex;obtain⟨u,h,j⟩:=y.ex;refine⟨_,λi=>?_,xK aHD g j⟩;have:=RB U8 F.slot_str_partition F.type_str_partition aHG (d i) (h i) (apos:=apos) (cpos:=cpos) (b _) (by rw[y.st.1];rfl) c (y.st.1 _)<|y.st.2.plain _ _;rw[a i]at this;exact this
end
def Its(x:Str):It:=⟨λi _=>i<x.cps.size,λi H v H'=>H'=H/\∃c,x.cps[i]?=Z c/\v=.str ⟨#[c]⟩,λi _=>x.cps.size<=i⟩
def aBJ{P:Ue}{K:Fg}(it:Uc)(x:Str)(t:Tok):Turn P w K tg (Its x) [it] it (λi h=>h.IsStrIter it "str_ascii_iterator" x t i) where
 mem:=by simp
 obj:=λi h st b hb=>by
  have e:b=it:=by simpa using hb
  subst e;obtain⟨o,h1,h2,h3⟩:=st;exact⟨_,h1,λv z=>by rw[h3]at z;cases z⟩
 keep:=λi h h' st k=>by
  obtain⟨o,h1,h2,h3⟩:=st;exact⟨o,k it (by simp) _ h1,h2,h3⟩
 item:=by
  intro X hP hw hK hc i bq s σ H E I hf st hg;subst hP hw hK;obtain⟨f0,f1,f2,f3,f4,f5⟩:=hf it (by simp);have W:=Walks.strAscii (prog:=X.prog) (w:=X.w) (I.ok.hd hc) it x t;refine W.item i s _ _ hg st λv h' tk hv st' kk=>?_;obtain⟨c,u,hc',rfl⟩:=hv;have I1:Inv X bq σ H { s with heap:=h',toks:=tk }:=I.turned (λb o hb e=>kk b o (by simpa using hb) e) f0 f1 f3 f4 f5;obtain⟨o,h1,h2,h3⟩:=id st';exact⟨_,rfl,VY (s:={ s with heap:=h',toks:=tk }) (n:="str_ascii_iterator") h1 h2 h3 (by decide) ⟨.str ⟨#[c]⟩,H,I1,⟨u,rfl⟩,⟨rfl,c,hc',rfl⟩,st',λb hb=>(hf b hb).1⟩⟩
 done:=by
  intro X hP hw hK hc i bq s σ H E I hf st hg;subst hP hw hK;obtain⟨f0,f1,f2,f3,f4,f5⟩:=hf it (by simp);exact wpAny_pyNext_ascii_end (I.ok.hd hc) st (by have:x.cps.size<=i:=hg;simp;omega) λh' eb=>⟨rfl,I.turned (t':=s.toks) (λb o hb e=>eb b o hb e) f0 f1 f3 f4 f5⟩
 self:=λ_ _ _ _ _ st h=>wpAny_pyIter_striter_ascii st h
section
variable{X:Cx}{tg:Ud}
def aNB(a:TE):TI:=λb H R=>a b H λx c=>∃y,x=.str y/\y.cps.all (·<128)=true/\R (Its y) c
def aLz(d:PE X l c):PI X tg l (aNB c):=by
 intro bq s f H R I h;refine thn (d bq s f H _ I h) λv s1 ⟨x,g,a,i,j⟩=>?_;obtain⟨y,e,ha,q⟩:=j;subst e;obtain⟨t,rfl⟩:=i;refine wpAny_pyIter_ascii ha ?_;refine⟨s1.heap.objs.size,[s1.heap.objs.size],_,_,g,rfl,a.kept (t':=s1.toks) λb o e=>A3 _ e,aBJ _ y t,⟨_,B3 _ rfl,rfl,rfl⟩,λb k=>?_,q⟩;have e:b=s1.heap.objs.size:=by simpa using k
 subst e;exact a.fpOk (A7 _)<|a.hok.fresh<|A7 _
end
section
variable{K:Fg}
noncomputable def FF(y:Str):T6:=y.cps.toList.map λc=>.d (.str ⟨#[c]⟩)
def aAv{W:Wd}:JO K (Its y) (FF y) W:=λW' M' H' e G=>by
 refine⟨λi x a=>?_,?_⟩
 .unfold FF at a;rw[D3,Option.map_eq_some_iff]at a;obtain⟨c,b,rfl⟩:=a;rw[L7]at b;refine⟨(Array.getElem?_eq_some_iff.mp b).1,λv g d=>⟨W',.refl _,by rw[d.1];exact G,?_⟩⟩;obtain⟨c',f,rfl⟩:=d.2;rw[b]at f;cases f;rfl
 .show y.cps.size<=_;simp[FF]
def EA(f:EF):AF:=λa M=>(f a M).bind λr=>match r.1 with
 |.d (.str y)=>if y.cps.all (·<128)=true then Z (FF y,r.2)else Y
 |_=>Y
def aMb(a:SE K t f):SI K (aNB t) (EA f):=by
 intro l M xs M' b W H c R G Rs k;obtain⟨⟨y,M1⟩,d,b⟩:=aJ b;dsimp only at b;split at b
 .rename_i z;by_cases hs:z.cps.all (·<128)=true
  .rw[A4 hs]at b;cases b;exact a _ _ _ _ d W H c _ G Rs λv e g h i j=>⟨z,j,hs,k _ e g h i aAv⟩
  .rw[A5 hs]at b;cases b
 .cases b
def aJt(x:ME K X e f):MI K X tg e (EA f):=by
 obtain⟨t,a,b⟩:=x.ex;exact⟨_,λi=>aLz<|a i,aMb b⟩
end
section
variable{K:Fg}
def aDE{ι:Type}{X:ι->Cx}(hm:∀i,∃t:Tok,(X i).mg x=Z (.str n t))(a:∀i,Gl (X i) x:=by intro _;rfl)(hd:(x==("__debug__":Str))=false:=by decide):ME K X (.Name x pos) (fC (.str n)):=
 ⟨_,λi=>LM (v:=.str n) (a i) (hm i).choose_spec ⟨_,rfl⟩ hd,SQ⟩
def aNb:V->Tk->Tk->Hp->VK->Prop:=λx lo hi H Q=>∃y,x=.str y/\y.length<=ba/\Q (.str (Txt.slice y lo hi)) H
def aJk:SlR X aNb:=by
 intro bq s d H x v vl n lo hi sl Q I e hs pl c h;obtain⟨y,rfl,f,q⟩:=h;obtain⟨t,rfl⟩:=e;refine⟨"str",_,F.slot_str_getitem.lookup,A0f _ _ _,?_⟩
 have a:∀l u,l.map (·.1)=lo->u.map (·.1)=hi->s.heap.IsSlice sl l u Y->bc (bb X.prog X.w) X.A (getItem (.str y t) (.ref sl)) (EP X bq d Q) X.xe s:=λl u g m b=>by
  subst g m;exact wpAny_getItem_str_slice b rfl<|post_val_or_str ⟨C6 (Txt.slice_le y _ _) f,λo k=>⟨.str _,H,I.tok _,⟨_,rfl⟩,q⟩⟩
 cases pl with
 |none=>cases c with
  |none=>exact a Y Y rfl rfl hs
  |int j u=>exact a Y (Z (j,u)) rfl rfl hs
 |int i t1=>cases c with
  |none=>exact a (Z (i,t1)) Y rfl rfl hs
  |int j u=>exact a (Z (i,t1)) (Z (j,u)) rfl rfl hs
def TX(f:EF)(l u:OF):EF:=λa M=>(f a M).bind λr=>(l a r.2).bind λp=>(u a p.2).bind λq=>match r.1 with
 |.d (.str y)=>if y.length<=ba then Z (.d (.str (Txt.slice y p.1 q.1)),q.2)else Y
 |_=>Y
def aMe(a:SE K j f)(b:SO K m l)(c:SO K n u):SE K (tSl aNb j m n) (TX f l u):=by
 intro O M x M' e W H g Q G R k;obtain⟨⟨y,M1⟩,r,e⟩:=aJ e;obtain⟨⟨p,M2⟩,s,e⟩:=aJ e;obtain⟨⟨q,t⟩,w,e⟩:=aJ e;refine a _ _ _ _ r W H g _ G R λv A B h C D=>?_;refine b _ _ _ _ s A B g _ C (R.up h) λE F o G2=>?_;refine c _ _ _ _ w E F g _ G2 (R.up<|h.trans o) λI J L N=>?_;cases y with
 |d y=>
  cases y with
  |str z=>
   have e:(if z.length<=ba then Z (CD.d (.str (Txt.slice z p q)),t)else Y)=Z (x,M'):=e;by_cases i:z.length<=ba
   .rw[A4 i]at e;cases e;exact⟨z,D,i,k _ I J ((h.trans o).trans L) N rfl⟩
   .rw[A5 i]at e;cases e
  |_=>cases e
 |_=>cases e
def aLY{lo:Tw Ud}(x:ME K X a f)(y:MO K X lo l)(z:MO K X hi u):ME K X (.Subscript a (.Slice lo hi Y p2) pos) (TX f l u):=by
 obtain⟨t,b,c⟩:=x.ex;obtain⟨k,d,e⟩:=y.ex;obtain⟨g,h,j⟩:=z.ex;exact⟨_,λi=>PX aJk (b i) (d i)<|h i,aMe c e j⟩
noncomputable def aIQ:R2:=λx y H Q=>∃i n,x=.str i/\y=.int n/\(n<1000/\-1000<n/\i.length<=1000)/\Q (.str (Txt.mul i n)) H
def aBR{x:Str}{n:Int}(h:n<1000/\-1000<n/\x.length<=1000):MulOk x n:=by
 obtain⟨b,c,a⟩:=h;refine⟨?_,λhn _=>?_,λhn _=>?_⟩
 .rw[C9 (by omega),C9 (by omega)];rfl
 .have:(1000:Int)<=(2 ^ 63-1) / n:=by
   refine Int.le_ediv_of_mul_le (by omega) ?_;omega
  omega
 .show decide (x.length*n.toNat > ba)=false;refine C9 ?_;have:x.length*n.toNat<=1000*1000:=Nat.mul_le_mul a (by omega);rw[E4];omega
def aIb:OpR X (binaryOp .Mult) aIQ:=by
 intro bq s e H x y v u Q I a b h;obtain⟨i,n,rfl,rfl,c,q⟩:=h;obtain⟨t,rfl⟩:=a;obtain⟨d,rfl⟩:=b;exact SB.mul (aBR c) λd k=>⟨.str _,H,I.tok _,⟨_,rfl⟩,q⟩
def GM:F2:=λx y M=>match x,y with
 |.d (.str i),.d (.int n)=>if n<1000/\-1000<n/\i.length<=1000 then Z (.d (.str (Txt.mul i n)),M)else Y
 |_,_=>Y
def aHq:P2 K aIQ GM:=by
 intro x y M z M' h W H v u Q G b c k;unfold GM at h;split at h
 .rename_i i n;by_cases a:n<1000/\-1000<n/\i.length<=1000
  .rw[A4 a]at h;cases h;exact⟨i,n,b,c,a,k _ W H (.refl _) G rfl⟩
  .rw[A5 a]at h;cases h
 .cases h
def aKX:Q2 K X (binaryOp .Mult) GM:=⟨_,λ_=>aIb,aHq⟩
end
section
variable{prog:Ue}{w:World}{A:Uf}{E:T1}{s:Ub}
abbrev TK(prog:Ue)(w:World):HeapKind prog w (Tv Key):=tupleKind<|eM prog w
end
section
variable{prog:Ue}{w:World}{A:Uf}{E:T1}{s:Ub}
abbrev hT(prog:Ue)(w:World)(k:Tv Key):Int:=(TK prog w).hash k
end
section
variable{X:Cx}{N':Tb}{cap:T3}{scope:Scope}
end
section
variable{P:Ue}{w:World}{K:Fg}{mg:Str->Tf}
end
noncomputable abbrev lob(its:T5)(nn:Nat):Obj:={ cls:=.type "list",data:=.seq its.toArray nn }
section
variable{K:Fg}
end
def aMS(k:HO)(cap:T3)(l:TI)(g:TG)(n:TT)(bd:Uc->(St->Hp->Prop)->St->Hp->Prop):TE:=λe H Q=>l e H λJ f=>∀D,f D=Y->∃W:Nat->Nat->St->Hp->Prop,(∃m,W 0 m (tM cap e)<|upd f D k)/\∀i m c H',W i m c H'->
 (J.stop i H'/\Q (.ref D) H') \/
 (J.go i H'/\∃N:St->Hp->Prop,(∀a d,N a d->∃h,h<m/\W (i+1) h a d)/\∀x d,J.yld i H' x d->g x c d λa o=>n a o λb j=>(b=true/\bd D N a j)\/(b=false/\N a j))
structure DcB(X:Cx)(N':Tb)(scope:Scope)(kx vx tg iter:Ud)(ifs:T8)(rest:Tv Comprehension)(pos:Pos)(bd:Uc->(St->Hp->Prop)->St->Hp->Prop):Prop where
 ex:∃BD:Uc->Env->(Ub->Prop)->Ub->Prop,
  (∀{R:Result->Ub->Prop}{s:Ub}{it:Tz}{D:Uc}{env:Env}(I:Nat->Ub->Prop),(∀n s,I n s->bc (bb X.prog X.w) X.A (pyNext it) (λr s1=>(r=Y/\R (.ok .next) s1)\/∃v,r=Z v /\
   bc (bb X.prog X.w) X.A (bn tg it v) (λ_ s2=>bc (bb X.prog X.w) X.A (assign tg env v) (λ_ s3=>
    bc (bb X.prog X.w) X.A (forIn ifs true λc r=>if r=true then(do
     let ok <- isTrue c env (eval c env)
     pure (ForInStep.yield ok))else pure (ForInStep.yield r)) (λok s4=>
      (ok=true/\BD D env (λs7=>∃m,m<n/\I m s7) s4)\/(ok=false/\∃m,m<n/\I m s4)) (λ_ _=>False) s3) (λ_ _=>False) s2) (λ_ _=>False) s1) (λ_ _=>False) s)->
   ∀n,I n s->bj (bb X.prog X.w) X.A (.compLoop (.DictComp kx vx (⟨tg,iter,ifs,0⟩::rest) scope pos) 0 it (.ref D) env) R s) /\
  ∀{C:Uc}{sa:Ub}{Ha:Hp}{fp:Ta}{pn bq:T2}{σ:St}{H:Hp}{s:Ub}{D:Uc}{N:St->Hp->Prop}{P:Ub->Prop},Inv (cO X N' scope C sa Ha fp pn) bq σ H s->bd D N σ H->(∀σ' H' s',Inv (cO X N' scope C sa Ha fp pn) bq σ' H' s'->N σ' H'->P s')->BD D (cO X N' scope C sa Ha fp pn).env P s
section
variable{X:Cx}{N':Tb}{cap:T3}{scope:Scope}
def aHv{f:HO}(ho:f=.dT []\/f=.dK []){rest:Tv Comprehension}{pos:Pos}(hc:X.calm=true)(S:nU X N' cap scope)(hi:PI X tg iter wi)
 (hg:∀C s H fp pn,PG (cO X N' scope C s H fp pn) tg g) (a6:∀C s H fp pn,GB (cO X N' scope C s H fp pn) ifs tc) (B:DcB X N' scope kx vx tg iter ifs rest pos bd)
 (hs:∀x,bg iter X.env x=pure x) {K:St} (I:Inv X bq K H s) (h:aMS f cap wi g tc bd K H Q)
 (a0:∀(D C:Uc)(H':Hp)(s':Ub),(∃m,s'.heap.Ns C m)->(∀h',Heap.SameBut C s'.heap h'->Inv X bq K H' { s' with heap:=h' })->nZ X bq H' C->Q (.ref D) H'->compPost (bb X.prog X.w) X.A X.xe L QQ (.ref D) C (.ok .next) s'):
 bc (bb X.prog X.w) X.A (comprehension (.DictComp kx vx (⟨tg,iter,ifs,0⟩::rest) scope pos) scope X.env (firstIterPos (⟨tg,iter,ifs,0⟩::rest) pos) newDict false (firstIter (⟨tg,iter,ifs,0⟩::rest) X.env) L) QQ X.xe s:=by
 obtain⟨BD,Bl,Bb⟩:=B.ex;refine wpAny_comprehension_free rfl hs (vJ<|S.cells I.ok) S.kind S.names ?_;refine thn (hi bq s K H _ I h) λv s1 h1=>thn h1 λai s2 h2=>?_;obtain⟨it,fp,tn,J,l,e,I2,T,a1,f2,hD⟩:=h2;subst e
 have M:∀b∈fp,b<s2.heap.objs.size:=λb a=>by
  obtain⟨o,e,_⟩:=T.obj _ _ a1 b a;exact A9 e
 refine D1 ?_;obtain⟨W,⟨m0,w0⟩,a2⟩:=hD s2.heap.objs.size<|I2.hok.fresh<|A7 _;generalize O:s2.heap.objs.size=D at *
 have V:Inv X bq K (upd l D f) { s2 with heap:=s2.heap.push { cls:=.type "dict",data:=.dict #[] } }:=by
  refine I2.laid (λ_ _ q=>A3 _ q) (Nat.le_of_eq O) ?_;obtain rfl|rfl:=ho
  .rw[<- O];exact PZ _ I2.big
  .rw[<- O];exact aCJ _ I2.big
 have j:tn 0 (s2.heap.push { cls:=.type "dict",data:=.dict #[] }):=T.keep _ _ _ a1 λb _ o e=>A3 _ e
 have t:∀b∈fp,nZ X bq (upd l D f) b:=λb a=>by
  obtain⟨q0,q1⟩:=f2 b a;exact⟨by rw[aK (B4<|M b a)];exact q0,q1⟩
 generalize a7:({ s2 with heap:=s2.heap.push { cls:=.type "dict",data:=.dict #[] } }:Ub)=s3 at V ⊢;have j:tn 0 s3.heap:=by rw[<- a7];exact j
 have F:∀b∈fp,b<s3.heap.objs.size:=λb a=>by
  obtain⟨o,e,_⟩:=T.obj _ _ j b a;exact A9 e
 refine wpAny_newFunctionEnv S.nocell (λy hy=>by simp at hy) (λa3 a8 a9=>?_) S.kind;have P:=λb o e=>a9.extBut b o (B4<|A9 e)<|A3 _ e
 have I4:Inv (cO X N' scope s3.heap.objs.size s3 (upd l D f) fp bq) [] (tM cap K) (upd l D f) { s3 with heap:=a3,toks:=s3.toks+([]:Tt).length }:=
  EH S V t F (A7 _) (by simpa using a8) P
 have G:∀s4:Ub,s4={ s3 with heap:=a3,toks:=s3.toks+([]:Tt).length }->
  bj (bb X.prog X.w) X.A (.compLoop (.DictComp kx vx (⟨tg,iter,ifs,0⟩::rest) scope pos) 0 (.ref it) (.ref D) (compEnvC scope (eZ X.env scope.names []) s3.heap.objs.size X.env)) (compPost (bb X.prog X.w) X.A X.xe L QQ (.ref D) s3.heap.objs.size) s4:=by
  rintro s4 rfl
  have k:∀{Hx:Hp},(∀b∈fp,Hx b=Y)->∀b∈fp,nZ (cO X N' scope s3.heap.objs.size s3 (upd l D f) fp bq) [] Hx b:=λ{Hx} hn b a=>by
   refine⟨hn b a,B4<|F b a,V.stkAll (t b a).2.1 (t b a).2.2.1,.inl a,λx c e=>(t b a).2.2.2.2.1 x c (S.sub V.ok x c e),λp hp=>?_⟩;obtain z|z:=List.mem_append.mp hp
   .exact(t b a).2.2.2.2.2 p z
   .exact absurd z (by simp)
  refine Bl (λn s'=>∃(i:Nat)(d:St)(H':Hp),Inv (cO X N' scope s3.heap.objs.size s3 (upd l D f) fp bq) [] d H' s'/\tn i s'.heap/\(∀b∈fp,H' b=Y)/\W i n d H') ?_ m0
   ⟨0,tM cap K,_,I4,T.keep _ _ _ j λb _ o e=>P b o e,λb a=>(t b a).1,w0⟩
  rintro n s5 ⟨i,d,H',I5,t5,a4,w5⟩;obtain⟨stop,q⟩|⟨go,N,hN,step⟩:=a2 i n d H' w5
  .refine thn (T.done (cO X N' scope s3.heap.objs.size s3 (upd l D f) fp bq) rfl rfl rfl hc i _ s5 d H' _ I5 (k a4) t5 stop) λr s6 ⟨hr,I6⟩=>.inl ⟨hr,?_⟩;have nC:=I6.free;refine a0 D _ H' s6 (let⟨m,hn,_⟩:=I6.loc;⟨m,hn⟩) (λh' aa=>?_) (V.fpOk (A7 _) nC) q;have up:=λb o a e=>aa.extBut b o a e;have R:∀b o,s3.heap.get? b=Z o->b≠s3.heap.objs.size:=λb o e=>B4<|A9 e;have U:=I6.base
   have u7:Un (frs X.stack) fp (upd l D f) H' s3.heap h':=by
    refine⟨λb o e n a hx=>up b o (R b o e)<|U.keep b o e n a hx,λb o e n a hx=>?_,U.free,λb o e hx=>?_,U.tups,U.frzs,U.tbls⟩
    .obtain⟨sl,q⟩:=U.slot b o e n a hx;exact⟨sl,up b _ (R b o e) q⟩
    .obtain⟨o',q⟩:=U.there b o e hx;exact⟨o',up b o' (R b o e) q⟩
   have ab:=λb u e=>by
    refine(I6.hok b u e).stay (λc v ac z=>up c v ?_ z) (λc z=>z) λc xs z=>z;obtain rfl|z:=ac
    .exact aN e nC
    .exact aN z nC
   have ae:=I6.os;have af:=I6.bare;obtain⟨hh,gg,dd,tt,oo⟩:=s6;subst ae;have z7:=V.call (d':=dd) (t':=tt) u7 ab af λb a=>⟨(t b a).2.2.2.1,(t b a).2.1,(t b a).2.2.2.2.1,(t b a).2.2.2.2.2⟩;exact z7
  .refine thn (T.item (cO X N' scope s3.heap.objs.size s3 (upd l D f) fp bq) rfl rfl rfl hc i _ s5 d H' _ I5 (k a4) t5 go) λr s6 ⟨u,hr,h6⟩=>.inr ⟨u,hr,?_⟩;refine thn h6 λ_ s7 ⟨x,H7,I7,r7,y7,t7,ag⟩=>?_;have ah:=I7.pinned (k ag) (T.obj _ _ t7)
   have back:∀{E:St}{Hx:Hp}{sx:Ub},Inv (cO X N' scope s3.heap.objs.size s3 (upd l D f) fp bq) ([]++sG fp s7.heap) E Hx sx->(∀b∈fp,∀o,s7.heap.get? b=Z o->sx.heap.get? b=Z o)/\(∀b∈fp,Hx b=Y):=λ{E Hx sx} Ix=>by
    refine⟨λb a o e=>(Ix.pin (b,o)<|B5 _<|B5 _<|eD a e).1,λb a=>?_⟩;obtain⟨o,e,_⟩:=T.obj _ _ t7 b a;exact(Ix.pin (b,o)<|B5 _<|B5 _<|eD a e).2.1
   refine thn (hg _ _ _ _ _ _ s7 d H7 x u _ ah r7<|step x H7 y7) λ_ s8 ⟨a5,H8,I8,q8⟩=>?_;refine thn (a6 _ _ _ _ _ _ s8 a5 H8 _ I8 q8) λb s9 ⟨H9,I9,q9⟩=>?_;obtain⟨rfl,q9⟩|⟨rfl,n9⟩:=q9
   .refine .inl ⟨rfl,Bb I9 q9 λE Hx sx Ix nx=>?_⟩;obtain⟨m',hm,wx⟩:=hN _ _ nx;obtain⟨b1,b2⟩:=back Ix;exact⟨m',hm,i+1,E,Hx,Ix.pins_of λp hp=>absurd hp (by simp),T.keep _ _ _ t7 b1,b2,wx⟩
   .obtain⟨m',hm,w9⟩:=hN _ _ n9;obtain⟨b1,b2⟩:=back I9;exact .inr ⟨rfl,m',hm,i+1,a5,H9,I9.pins_of λp hp=>absurd hp (by simp),T.keep _ _ _ t7 b1,b2,w9⟩
 exact codeAny_compStart_dict (G _ rfl)<|T.self _ 0 _ _ _ (T.keep _ _ _ j λb _ o e=>P b o e)<|G _ rfl
end
section
variable{X:Cx}{N':Tb}{cap:T3}{scope:Scope}{kx vx tg iter:Ud}{ifs:T8}{pos:Pos}{tk tv:TE}
def aOg(o:X.A.units<cLine)(p:∀C s H fp pn,PE (cO X N' scope C s H fp pn) kx tk)(q:∀C s H fp pn,PE (cO X N' scope C s H fp pn) vx tv):
 DcB X N' scope kx vx tg iter ifs [] pos (λD N a H=>tk a H λy r=>tv a r λv t=>∃m,BG t D y v m/\N a m):=
 ⟨λD env P s4=>bc (bb X.prog X.w) X.A (eval kx env) (λu x=>bc (bb X.prog X.w) X.A (eval vx env) (λz B=>bc (bb X.prog X.w) X.A (dictSet D u z) (λ_ s7=>P s7) (λ_ _=>False) B) (λ_ _=>False) x) (λ_ _=>False) s4,λI b n h=>aFs I b n h,by
  intro C sa Ha fp pn bq a H s D N P I h k;refine thn (p _ _ _ _ _ _ s a H _ I h) λM c ⟨y,d,e,E,f⟩=>thn (q _ _ _ _ _ _ c a d _ e f) λO F ⟨v,G,g,J,K,i,j⟩=>?_;exact aAW (X:=cO X N' scope C sa Ha fp pn) o g i E J λL l=>k _ _ _ l j⟩
def aJF{a:HO}(f:a=.dT []\/a=.dK []){rest:Tv Comprehension}(i:X.calm=true)(S:nU X N' cap scope)(hi:PI X tg iter d)
 (j:∀C s H fp pn,PG (cO X N' scope C s H fp pn) tg g) (b:∀C s H fp pn,GB (cO X N' scope C s H fp pn) ifs e) (B:DcB X N' scope kx vx tg iter ifs rest pos bd) (hs:∀x,bg iter X.env x=pure x):
 PE X (.DictComp kx vx (⟨tg,iter,ifs,0⟩::rest) scope pos) (aMS a cap d g e bd):=λbq s l H Q I h=>
 aHv f i S hi j b B hs I h λD _ H' _ ⟨m,hn⟩ k _ q=>⟨m,hn,λh' c=>⟨.ref D,H',k h' c,rfl,q⟩⟩
end
section
variable{K:Fg}{ι:Type}{X:ι->Cx}{N':Tb}{cap:T3}{scope:Scope}{tg' iter tg2' iter2 kx vx:Ud}{ifs ifs2:T8}{fa fa2:AF}{gf gf2:GF}{ft ft2:TF}{fk:KF}{f:EF}{pos:Pos}
def aJN{b:HO}{a:Cell}(c:(b=.dT []/\a=.dt [])\/(b=.dK []/\a=.dk []))(d:∀i,(X i).A.units<cLine)(e:∀i,(X i).calm=true)(S:∀i,nU (X i) N' cap scope)(x:MI K X tg' iter fa)(y:MG K (mL X N' scope) tg' gf)(z:MF K (mL X N' scope) ifs ft)(w:MK K (mL X N' scope) kx fk)(q:ME K (mL X N' scope) vx f)(hs:∀(env:Env)(x:Tz),bg iter env x=pure x:=by intro _ _;rfl):
 ME K X (.DictComp kx vx [⟨tg',iter,ifs,0⟩] scope pos) (fDc a cap fa gf ft fk f):=by
 obtain⟨t,g,h⟩:=x.ex;obtain⟨u,j,k⟩:=y.ex;obtain⟨v,l,m⟩:=z.ex;obtain⟨o,n,r⟩:=w.ex;obtain⟨p,B,D⟩:=q.ex;exact⟨_,λi=>aJF (c.imp And.left And.left) (e i) (S i) (g i) (λC s H fp pn=>j (i,C,s,H,fp,pn)) (λC s H fp pn=>l (i,C,s,H,fp,pn)) (aOg (d i) (λC s H fp pn=>n (i,C,s,H,fp,pn)) λC s H fp pn=>B (i,C,s,H,fp,pn))<|hs _,aMt c h k m r D⟩
end
def aMA(Ln:Tc->Prop)(cap:T3)(j:TI)(g:TG)(k:TT)(bd:(Tc->St->Hp->Prop)->Tc->St->Hp->Prop):TE:=λe H Q=>j e H λJ l=>∃W:Nat->Nat->Tc->St->Hp->Prop,(∃m,W 0 m [] (tM cap e) l)/\∀i m acc c H',W i m acc c H'->
 (J.stop i H'/\∀p,H' p=Y->Q (.ref p) (upd H' p (.lst acc))) \/
 (J.go i H'/\Ln acc/\∃N:Tc->St->Hp->Prop,(∀acc' a d,N acc' a d->∃f,f<m/\W (i+1) f acc' a d)/\∀x d,J.yld i H' x d->g x c d λa n=>k a n λb h=>(b=true/\bd N acc a h)\/(b=false/\N acc a h))
structure LcB(X:Cx)(N':Tb)(scope:Scope)(elt tg iter:Ud)(ifs:T8)(rest:Tv Comprehension)(pos:Pos)(Ln:Tc->Prop)(bd:(Tc->St->Hp->Prop)->Tc->St->Hp->Prop):Prop where
 ex:∃BD:Uc->Env->(Ub->Prop)->Ub->Prop,
  (∀{R:Result->Ub->Prop}{s:Ub}{it:Tz}{D:Uc}{env:Env}(I:Nat->Ub->Prop),(∀n s,I n s->bc (bb X.prog X.w) X.A (pyNext it) (λr s1=>(r=Y/\R (.ok .next) s1)\/∃v,r=Z v /\
   bc (bb X.prog X.w) X.A (bn tg it v) (λ_ s2=>bc (bb X.prog X.w) X.A (assign tg env v) (λ_ s3=>
    bc (bb X.prog X.w) X.A (forIn ifs true λc r=>if r=true then(do
     let ok <- isTrue c env (eval c env)
     pure (ForInStep.yield ok))else pure (ForInStep.yield r)) (λok s4=>
      (ok=true/\BD D env (λs7=>∃m,m<n/\I m s7) s4)\/(ok=false/\∃m,m<n/\I m s4)) (λ_ _=>False) s3) (λ_ _=>False) s2) (λ_ _=>False) s1) (λ_ _=>False) s)->
   ∀n,I n s->bj (bb X.prog X.w) X.A (.compLoop (.ListComp elt (⟨tg,iter,ifs,0⟩::rest) scope pos) 0 it (.ref D) env) R s) /\
  ∀{C:Uc}{sa:Ub}{Ha:Hp}{fp:Ta}{pn bq:T2}{σ:St}{H:Hp}{s:Ub}{D:Uc}{its:T5}{nn:Nat}{acc:Tc}{N:Tc->St->Hp->Prop}{P:Ub->Prop},Inv (cO X N' scope C sa Ha fp pn) bq σ H s->nZ (cO X N' scope C sa Ha fp pn) bq H D->s.heap.get? D=Z (lob its nn)->bA acc its->acc.length<=ba->Ln acc->bd N acc σ H->
   (∀s7,(∃σ' H' acc' its' nn',Inv (cO X N' scope C sa Ha fp pn) bq σ' H' s7/\H' D=Y/\s7.heap.get? D=Z (lob its' nn')/\bA acc' its'/\acc'.length<=ba/\N acc' σ' H')->P s7)->BD D (cO X N' scope C sa Ha fp pn).env P s
section
variable{X:Cx}{N':Tb}{cap:T3}{scope:Scope}
def aHd{rest:Tv Comprehension}{pos:Pos}{Ln:Tc->Prop}(hc:X.calm=true)(S:nU X N' cap scope)(hi:PI X tg iter wi)
 (hg:∀C s H fp pn,PG (cO X N' scope C s H fp pn) tg g) (a6:∀C s H fp pn,GB (cO X N' scope C s H fp pn) ifs tc) (B:LcB X N' scope elt tg iter ifs rest pos Ln bd)
 (hs:∀x,bg iter X.env x=pure x) (I:Inv X bq σ H s) (h:aMA Ln cap wi g tc bd σ H Q)
 (a0:∀(D C:Uc)(H':Hp)(acc:Tc)(s':Ub),D≠C->(∃m,s'.heap.Ns C m)->(∀h',Heap.SameBut C s'.heap h'->Inv X bq σ (upd H' D (.lst acc)) { s' with heap:=h' })->nZ X bq (upd H' D (.lst acc)) C->Q (.ref D) (upd H' D (.lst acc))->compPost (bb X.prog X.w) X.A X.xe M QQ (.ref D) C (.ok .next) s'):
 bc (bb X.prog X.w) X.A (comprehension (.ListComp elt (⟨tg,iter,ifs,0⟩::rest) scope pos) scope X.env (firstIterPos (⟨tg,iter,ifs,0⟩::rest) pos) (newList []) false (firstIter (⟨tg,iter,ifs,0⟩::rest) X.env) M) QQ X.xe s:=by
 obtain⟨BD,Bl,Bb⟩:=B.ex;refine wpAny_comprehension_free (e:=.ListComp elt (⟨tg,iter,ifs,0⟩::rest) scope pos) (g:=⟨tg,iter,ifs,0⟩) (gs:=rest) rfl hs (vJ<|S.cells I.ok) S.kind S.names ?_;refine thn (hi bq s σ H _ I h) λv s1 h1=>thn h1 λah s2 h2=>?_;obtain⟨it,fp,tn,J,k,e,F,T,O,f2,W,⟨m0,w0⟩,a1⟩:=h2;subst e
 have f:∀b∈fp,b<s2.heap.objs.size:=λb a=>by
  obtain⟨o,e,_⟩:=T.obj _ _ O b a;exact A9 e
 refine D1<|wpAny_newFunctionEnv S.nocell (λy hy=>by simp at hy) (λl P R=>?_) S.kind;dsimp only at P R ⊢;generalize hP:s2.heap.push { cls:=.type "list",dict:=Y,data:=.seq ([]:T5).toArray }=P2 at P R ⊢;have a2:P2.objs.size=s2.heap.objs.size+1:=by rw[<- hP,S5]
 have j:s2.heap.objs.size≠P2.objs.size:=by rw[a2];exact B4<|F6 _
 have hC:s2.heap.objs.size<=P2.objs.size:=by rw[a2];exact Z8 _
 have t:∀b o,P2.get? b=Z o->b≠P2.objs.size->l.get? b=Z o:=λb o e a=>R.extBut b o a<|A3 _ e;have U:∀b o,s2.heap.get? b=Z o->l.get? b=Z o:=λb o e=>t b o (by rw[<- hP];exact A3 _ e)<|B4<|C2 (A9 e) hC;have a7:l.get? s2.heap.objs.size=Z { cls:=.type "list",data:=.seq #[] 0 }:=t _ _ (by rw[<- hP];exact B3 _ rfl) j
 have I4:Inv (cO X N' scope P2.objs.size s2 k fp bq) [] (tM cap σ) k { s2 with heap:=l,toks:=s2.toks+([]:Tt).length }:=
  EH S F f2 f hC (by simpa using P) U
 have K:∀s4:Ub,s4={ s2 with heap:=l,toks:=s2.toks+([]:Tt).length }->
  bj (bb X.prog X.w) X.A (.compLoop (.ListComp elt (⟨tg,iter,ifs,0⟩::rest) scope pos) 0 (.ref it) (.ref s2.heap.objs.size) (compEnvC scope (eZ X.env scope.names []) P2.objs.size X.env)) (compPost (bb X.prog X.w) X.A X.xe M QQ (.ref s2.heap.objs.size) P2.objs.size) s4:=by
  rintro s4 rfl
  have L:s2.heap.objs.size∉frs X.stack:=λa=>by
   obtain⟨_,o,ho,_⟩:=F.stack.mem a;exact absurd (A9 ho)<|L8 _
  have cne:∀x c,(eZ X.env scope.names []).lookup x=Z c->c<s2.heap.objs.size:=λx c e=>by
   obtain⟨v,q⟩:=F.cell x c<|S.sub F.ok x c e;exact q.lt
  have E:∀{Hx:Hp}{ob:Obj},(∀b∈fp,Hx b=Y)->∀b∈fp,nZ (cO X N' scope P2.objs.size s2 k fp bq) [(s2.heap.objs.size,ob)] Hx b:=λ{Hx ob} hn b a=>by
   refine⟨hn b a,B4<|C2 (f b a) hC,F.stkAll (f2 b a).2.1 (f2 b a).2.2.1,.inl a,λx c e=>(f2 b a).2.2.2.2.1 x c (S.sub F.ok x c e),λp hp=>?_⟩;obtain z|z:=List.mem_append.mp hp
   .exact(f2 b a).2.2.2.2.2 p z
   .rw[List.mem_singleton.mp z];exact E9<|f b a
  refine Bl (λn s'=>∃(i:Nat)(d:St)(H':Hp)(acc:Tc)(its:T5)(nn:Nat),Inv (cO X N' scope P2.objs.size s2 k fp bq) [] d H' s'/\tn i s'.heap/\(∀b∈fp,H' b=Y)/\H' s2.heap.objs.size=Y /\
   s'.heap.get? s2.heap.objs.size=Z { cls:=.type "list",data:=.seq its.toArray nn }/\bA acc its/\acc.length<=ba/\W i n acc d H') ?_ m0
   ⟨0,tM cap σ,k,[],[],0,I4,T.keep _ _ _ O λb _ o e=>U b o e,λb a=>(f2 b a).1,F.hok.fresh<|A7 _,a7,.nil,E6 _,w0⟩
  rintro n s5 ⟨i,d,H',acc,its,nn,I5,t5,a3,d5,g5,va,la,w5⟩
  have I5p:Inv (cO X N' scope P2.objs.size s2 k fp bq) [(s2.heap.objs.size,{ cls:=.type "list",data:=.seq its.toArray nn })] d H' s5:=I5.pins_of λp hp=>by
   rw[List.mem_singleton.mp hp];exact⟨g5,d5,j,L,λv z=>by cases z⟩
  obtain⟨stop,q⟩|⟨go,lt,N,hN,step⟩:=a1 i n acc d H' w5
  .refine thn (T.done (cO X N' scope P2.objs.size s2 k fp bq) rfl rfl rfl hc i _ s5 d H' _ I5p (E a3) t5 stop) λr s6 ⟨hr,I6⟩=>.inl ⟨hr,?_⟩;have d6:=(I6.pin (s2.heap.objs.size,{ cls:=.type "list",data:=.seq its.toArray nn }) (by simp)).1;have nC:H' P2.objs.size=Y:=I6.free;refine a0 _ _ H' acc s6 j (let⟨m,hn,_⟩:=I6.loc;⟨m,hn⟩) (λh' a8=>?_) (F.fpOk hC (by rw[aK j.symm];exact nC))<|q _ d5;have up:∀b o,b≠P2.objs.size->s6.heap.get? b=Z o->h'.get? b=Z o:=λb o a e=>a8.extBut b o a e;have G:∀b o,s2.heap.get? b=Z o->b≠P2.objs.size/\b≠s2.heap.objs.size:=λb o e=>⟨B4<|C2 (A9 e) hC,B4<|A9 e⟩;have u6:Un (frs X.stack) fp k H' s2.heap s6.heap:=I6.base
   have u7:Un (frs X.stack) fp k (upd H' s2.heap.objs.size (.lst acc)) s2.heap h':=by
    refine⟨λb o e n a hx=>up b o (G b o e).1 (u6.keep b o e n a hx),λb o e n a hx=>?_,λb o e n hx=>?_,λb o e hx=>?_,λb xs e=>?_,λb o u e=>?_,λb ps e=>?_⟩
    .obtain⟨sl,q⟩:=u6.slot b o e n a hx;exact⟨sl,up b _ (G b o e).1 q⟩
    .rw[aK (G b o e).2];exact u6.free b o e n hx
    .obtain⟨o',q⟩:=u6.there b o e hx;exact⟨o',up b o' (G b o e).1 q⟩
    .have z:=u6.tups b xs e;rw[aK (aN z d5)];exact z
    .have z:=u6.frzs b o u e;rw[aK (aN z d5)];exact z
    .obtain⟨more,z⟩:=u6.tbls b ps e;exact⟨more,by rw[aK (aN z d5)];exact z⟩
   have a9:HOk X.prog X.w (upd H' s2.heap.objs.size (.lst acc)) h':=λb u e=>by
    by_cases a:b=s2.heap.objs.size
    .subst a;rw[aS]at e;cases e;exact⟨la,its,nn,va,up _ _ j d6⟩
    .rw[aK a]at e;refine(I6.hok b u e).stay (λc v aa z=>up c v ?_ z) (λc z=>by rw[aK (aN z d5)];exact z) λc xs z=>by rw[aK (aN z d5)];exact z
     obtain rfl|z:=aa
     .exact aN e nC
     .exact aN z nC
   have ab:s6.os=s2.os:=I6.os;have ac:=I6.bare;obtain⟨hh,gg,dd,tt,oo⟩:=s6;subst ab;have z7:=F.call (s:=s2) (h':=h') (g':=gg) (d':=dd) (t':=tt) (ch:=fp) u7 a9 ac λb a=>⟨(f2 b a).2.2.2.1,(f2 b a).2.1,(f2 b a).2.2.2.2.1,(f2 b a).2.2.2.2.2⟩;exact z7
  .refine thn (T.item (cO X N' scope P2.objs.size s2 k fp bq) rfl rfl rfl hc i _ s5 d H' _ I5p (E a3) t5 go) λr s6 ⟨u,hr,h6⟩=>.inr ⟨u,hr,?_⟩;refine thn h6 λ_ s7 ⟨x,H7,I7,r7,y7,t7,ae⟩=>?_;have af:=I7.pinned (E ae) (T.obj _ _ t7)
   have back:∀{a4:St}{Hx:Hp}{sx:Ub},Inv (cO X N' scope P2.objs.size s2 k fp bq) ([(s2.heap.objs.size,{ cls:=.type "list",data:=.seq its.toArray nn })]++sG fp s7.heap) a4 Hx sx->
    (∀b∈fp,∀o,s7.heap.get? b=Z o->sx.heap.get? b=Z o)/\(∀b∈fp,Hx b=Y)/\sx.heap.get? s2.heap.objs.size=Z { cls:=.type "list",data:=.seq its.toArray nn }/\Hx s2.heap.objs.size=Y:=λ{a4 Hx sx} Ix=>by
    refine⟨λb a o e=>(Ix.pin (b,o)<|B5 _<|B5 _<|eD a e).1,λb a=>?_,?_,?_⟩
    .obtain⟨o,e,_⟩:=T.obj _ _ t7 b a;exact(Ix.pin (b,o)<|B5 _<|B5 _<|eD a e).2.1
    .exact(Ix.pin (s2.heap.objs.size,_)<|B5 _<|E5 _<|List.mem_singleton.mpr rfl).1
    .exact(Ix.pin (s2.heap.objs.size,{ cls:=.type "list",data:=.seq its.toArray nn })<|B5 _<|E5 _<|List.mem_singleton.mpr rfl).2.1
   refine thn (hg _ _ _ _ _ _ s7 d H7 x u _ af r7<|step x H7 y7) λ_ s8 ⟨a5,H8,I8,q8⟩=>?_;refine thn (a6 _ _ _ _ _ _ s8 a5 H8 _ I8 q8) λb s9 ⟨H9,I9,q9⟩=>?_;obtain⟨rfl,q9⟩|⟨rfl,n9⟩:=q9
   .obtain⟨b1,b2,b3,b4⟩:=back I9
    have fD:nZ (cO X N' scope P2.objs.size s2 k fp bq) (sG fp s7.heap) H9 s2.heap.objs.size:=by
     refine⟨b4,j,L,.inr (A7 _),λx c e=>B4<|cne x c e,λp hp=>?_⟩;obtain hp|hp:=List.mem_append.mp hp
     .exact B4<|A9 (F.pin p hp).1
     .exact B4<|f p.1 (HS hp).1
    refine .inl ⟨rfl,Bb (I9.pins_of λp hp=>I9.pin p<|B5 _<|B5 _ hp) fD b3 va la lt q9 λai ⟨d,H',acc',its',nn',J1,J2,J3,J4,J5,J6⟩=>?_⟩;obtain⟨m',hm,ag⟩:=hN _ _ _ J6;refine⟨m',hm,i+1,d,H',acc',its',nn',J1.pins_of λp hp=>absurd hp (by simp),T.keep _ _ _ t7 λb a o e=>(J1.pin (b,o)<|B5 _<|eD a e).1,λb a=>?_,J2,J3,J4,J5,ag⟩;obtain⟨o,e,_⟩:=T.obj _ _ t7 b a;exact(J1.pin (b,o)<|B5 _<|eD a e).2.1
   .obtain⟨m',hm,w9⟩:=hN _ _ _ n9;obtain⟨b1,b2,b3,b4⟩:=back I9;exact .inr ⟨rfl,m',hm,i+1,a5,H9,acc,its,nn,I9.pins_of λp hp=>absurd hp (by simp),T.keep _ _ _ t7 b1,b2,b4,b3,va,la,w9⟩
 exact codeAny_compStart_list (K _ rfl)<|T.self _ 0 _ _ _ (T.keep _ _ _ O λb _ o e=>U b o e)<|K _ rfl
def aLf{rest:Tv Comprehension}{pos:Pos}{Ln:Tc->Prop}(e:X.calm=true)(S:nU X N' cap scope)(hi:PI X tg iter c)
 (f:∀C s H fp pn,PG (cO X N' scope C s H fp pn) tg g) (a:∀C s H fp pn,GB (cO X N' scope C s H fp pn) ifs d) (B:LcB X N' scope elt tg iter ifs rest pos Ln bd)
 (hs:∀x,bg iter X.env x=pure x:=by intro _;rfl):PE X (.ListComp elt (⟨tg,iter,ifs,0⟩::rest) scope pos) (aMA Ln cap c g d bd):=by
 intro bq s l H Q I h;refine aHd e S hi f a B hs I h λD C H' acc s' i ⟨m,hn⟩ j _ k=>⟨m,hn,λh' b=>?_⟩;exact⟨.ref D,_,j h' b,rfl,k⟩
end
section
variable{X:Cx}{N':Tb}{cap:T3}{scope:Scope}{elt tg iter:Ud}{ifs:T8}{pos:Pos}{te:TE}
def aOo(t:∀C s H fp pn,PE (cO X N' scope C s H fp pn) elt te):LcB X N' scope elt tg iter ifs [] pos (λacc=>acc.length<ba) (λN acc d H=>te d H λv u=>N (acc++[v]) d u):=
 ⟨λD env P s4=>bc (bb X.prog X.w) X.A (eval elt env) (λx y=>bc (bb X.prog X.w) X.A (call (.builtin "list.append") [.ref D,x]) (λ_ B=>P B) (λ_ _=>False) y) (λ_ _=>False) s4,λI f n h=>WA I f n h,by
  intro C sa Ha fp pn bq d H s D its nn acc N P I E F r G lt h k;obtain⟨J,dl,K,dx,a,g⟩:=E
  have Ip:Inv (cO X N' scope C sa Ha fp pn) ([(D,lob its nn)]++bq) d H s:=I.pins_of λp hp=>by
   obtain hp|hp:=List.mem_append.mp hp
   .rw[List.mem_singleton.mp hp];exact⟨F,J,dl,K,λv z=>by cases z⟩
   .exact I.pin p (B5 _ hp)
  refine thn (t _ _ _ _ _ _ s d H _ Ip h) λL M ⟨v,i,c,O,j⟩=>?_;have q:=c.pin (D,lob its nn)<|B5 _<|E5 _<|List.mem_singleton.mpr rfl;have l:=c.pins_of λp hp=>c.pin p<|B5 _<|B5 _ hp;refine wpAny_list_append_plain ⟨nn,q.1⟩ (λh' hp m=>?_) (by rw[D9,<- r.length];exact G);obtain⟨Q,R⟩:=hp;refine k _ ⟨d,i,acc++[v],its++[L],Q,l.turned (λb o S e=>m.extBut b o S e) q.2.1 dl dx a g,q.2.1,?_,r.append (.cons O .nil),?_,j⟩
  .rw[R];simp
  .rw[B9,F0];exact lt⟩
end
section
variable{K:Fg}{ι:Type}{X:ι->Cx}{N':Tb}{cap:T3}{scope:Scope}{tg iter elt tg2 iter2:Ud}{ifs ifs2:T8}{pos:Pos}{fa fa2:AF}{gf gf2:GF}{ft ft2:TF}{f:EF}
def eI(a:∀i,(X i).calm=true)(S:∀i,nU (X i) N' cap scope)(x:MI K X tg iter fa)(y:MG K (mL X N' scope) tg gf)(z:MF K (mL X N' scope) ifs ft)(w:ME K (mL X N' scope) elt f)(hs:∀(env:Env)(x:Tz),bg iter env x=pure x:=by intro _ _;rfl):
 ME K X (.ListComp elt [⟨tg,iter,ifs,0⟩] scope pos) (fLc cap fa gf ft f):=by
 obtain⟨t,b,c⟩:=x.ex;obtain⟨u,d,e⟩:=y.ex;obtain⟨v,g,h⟩:=z.ex;obtain⟨o,j,k⟩:=w.ex;exact⟨_,λi=>aLf (a i) (S i) (b i) (λC s H fp pn=>d (i,C,s,H,fp,pn)) (λC s H fp pn=>g (i,C,s,H,fp,pn)) (aOo λC s H fp pn=>j (i,C,s,H,fp,pn))<|hs _,aIi c e h k⟩
end
end L2
namespace PySem
open Sem (wp)
open Builtin
open AutoSeq1
def nY:fillsNumberSlot (.type "tuple") "mul"=pure false:=
 fillsNumberSlot_seq (id:="tuple.__mul__") (r:=Z (.builtin "tuple.__rmul__")) F.slot_tuple_mul.lookup (by decide +kernel) F.slot_tuple_rmul.lookup (by decide +kernel)
def xF:seqRepeat? (.type "tuple")=pure (Z (.builtin "tuple.__mul__")):=by
 unfold seqRepeat?;rw[seqSlot_of (T:="tuple") (name:="__mul__") (id:="tuple.__mul__") F.slot_tuple_mul.lookup (by decide +kernel),seqSlot_of (T:="tuple") (name:="__rmul__") (id:="tuple.__rmul__") F.slot_tuple_rmul.lookup (by decide +kernel)];rfl
def sU(a:Int)(t:Tok)(l:Uc)(items:Ti)(n:Nat)(od:Th)(osl:Array (Tf)):
 Meets (Builtin.«int.__rmul__» ⟨[.int a t,.ref l],[]⟩) (λ_ R s=>s.heap.get? l=Z { cls:=.type "tuple",dict:=od,data:=.seq items n,slots:=osl }/\R (.ok (.ret Value.notImplemented)) s):=
 .of_wp λprog w A R s h=>by obtain⟨b,g,d,tk,os⟩:=s;obtain⟨c,h⟩:=h;wp_walk;exact⟨_,rfl,h⟩
def AY(l:Uc)(items:Ti)(n:Nat)(od:Th)(osl:Array (Tf))(x:Int)(u:Tok)(c:items.isEmpty=false)(q:2<=x)(r:x<2 ^ 62)(i:items.size*x.toNat<=ba):
 Meets (Builtin.«tuple.__mul__» ⟨[.ref l,.int x u],[]⟩) (λ_ R s=>s.heap.get? l=Z { cls:=.type "tuple",dict:=od,data:=.seq items n,slots:=osl }/\R (.ok (.ret (Value.ref s.heap.objs.size))) { s with heap:=s.heap.push { cls:=Value.type "tuple",data:=Data.seq (List.foldl (λx1 a=>x1++a) #[] (List.replicate x.toNat items)) },toks:=s.toks }):=
 .of_wp λprog w A R s h=>by
  obtain⟨t,g,d,tk,os⟩:=s;obtain⟨e,h⟩:=h;have f1:=idx_int;have f2:=sub_tuple_tuple;have v:=sub_list_list;have y:=sub_tuple_list;have z:=sub_list_tuple;have j:(decide (x < -(2 ^ 63)) || decide (x>=2 ^ 63))=false:=by simp;omega
  have k:(items.isEmpty || x==1)=false:=by rw[c];simp;omega
  have m:(decide (x<=0) || items.isEmpty)=false:=by rw[c];simp;omega
  have f:(items.size:Int)*x=((items.size*x.toNat:Nat):Int):=by
   have:x=(x.toNat:Int):=by omega
   rw[Int.natCast_mul,<- this]
  have sz:ba=16777216:=E4;have o:¬(items.size:Int)*x > (2 ^ 63-1) / 8:=by rw[f];omega
  have p:Tuple.tupleTooMany ((items.size:Int)*x)=false:=by rw[f];unfold Tuple.tupleTooMany;exact C9 (by omega)
  have b:(List.foldl (λx1 a=>x1++a) #[] (List.replicate x.toNat items)).size<=ba:=by rw[size_joined,Nat.mul_comm];simpa using i
  wp_walk using O3 e
  rw[A5 (by rw[j];exact A8)]
  wp_walk using O3 e
  rw[A5 (by rw[k];exact A8),A5 (by rw[m];exact A8),A5 o]
  wp_walk
  rw[A5 (by rw[p];exact A8)]
  wp_walk
  rw[A5 (by first|exact Nat.not_lt.mpr b|omega)]
  wp_walk
  exact⟨_,rfl,h⟩
end PySem
namespace L2
variable{s:Ub}
open PySem PySem.Spec PyProof.Rows
def aBS(K:Fg):R2:=λx y H Q=>∃(l:Uc)(vs:Tc)(i:Int),x=.ref l/\y=.int i/\SqT K H l vs/\vs≠[]/\2<=i/\i<2 ^ 62/\vs.length*i.toNat<=ba/\∀p,H p=Y->Q (.ref p) (upd H p (.tup (List.replicate i.toNat vs).flatten))
def aGY:OpR X (binaryOp .Mult) (aBS X.K):=by
 intro bq s D H x y u v Q I k m h;obtain⟨l,vs,i,rfl,rfl,p,d,r,w,g,q⟩:=h;cases (show u=Value.ref l from k);obtain⟨t,rfl⟩:=(show ∃t,v=Value.int i t from m);obtain⟨its,f,⟨⟨oc,od,E,osl⟩,n,e,j,G,J⟩,hs⟩:=I.tuple p;dsimp only at e;subst e;have a:=f.length;have c:its≠[]:=λz=>d<|f.nil_iff.mp z;have A:its.toArray.isEmpty=false:=by cases its with|nil=>exact absurd rfl c|cons _ _=>rfl
 have sz:ba=16777216:=E4
 refine wpAny_binaryOp_repeat_ref (T:="tuple") (U:="int") (by decide) ⟨_,n,rfl⟩ (λs'=>typeIs_int s' i t) nY F.fills_int_mul F.slot_int_rmul xF F.slot_int_index.lookup
  (Y3 F.slot_int_rmul (typeIs_int s i t) F.entry_int_rmul (F.args_int_rmul_2 _ _) (sU i t l its.toArray j od osl)
   ⟨n,rfl,⟨_,n,rfl⟩,Y3 F.slot_tuple_mul ⟨_,n,rfl⟩ F.entry_tuple_mul (F.args_tuple_mul_2 _ _)
    (AY l its.toArray j od osl i t A r w (by rw[D9,<- a];exact g))
    ⟨n,?_⟩⟩)
 refine⟨.ref s.heap.objs.size,_,I.laid (t':=s.toks) (o:=.tup (List.replicate i.toNat vs).flatten) (λb ob q=>A3 _ q) (A7 _) ?_,rfl,q _<|I.hok.fresh<|A7 _⟩;refine⟨by rw[len_rep,Nat.mul_comm];exact g,(List.replicate i.toNat its).flatten,ON f _,?_⟩;have:=HW (List.replicate i.toNat its) [];rw[List.map_replicate]at this;rw[show List.foldl (λB C=>B++C) #[] (List.replicate i.toNat its.toArray)=((List.replicate i.toNat its).flatten).toArray by simpa using this];exact IsTup.new _ _
def aBt:F2:=λx y M=>match x,y with
 |.d (.tuple a),.d (.int i)=>if a≠[]/\2<=i/\i<2 ^ 62/\a.length*i.toNat<=ba then Z (.d (.tuple (aLJ a i.toNat)),M)else Y
 |_,_=>Y
section
variable{K:Fg}
def aFX:P2 K (aBS K) aBt:=by
 intro x y M z M' h W H v u Q G e f k;unfold aBt at h;split at h
 .rename_i b i;by_cases a:b≠[]/\2<=i/\i<2 ^ 62/\b.length*i.toNat<=ba
  .rw[A4 a]at h;cases h;obtain⟨g,j,m,n⟩:=a;obtain⟨p,vs,rfl,q,c⟩:=e;have ln:=aM.len c;refine⟨p,vs,i,rfl,f,G.fh.seqT q,λz=>g<|List.length_eq_zero_iff.mp (by rw[<- ln,z];rfl),j,m,by rw[ln];exact n,λl r=>?_⟩;obtain⟨d,G2⟩:=G.lay (o:=.tup (List.replicate i.toNat vs).flatten) r;exact k _ _ _ d G2 ⟨l,_,rfl,SqT.of aS,aM.same d.ff _ _<|DM c _⟩
  .rw[A5 a]at h;cases h
 .cases h
end
def yC{p:Pos}(h:Runs M Γ p t fs s e s'):s.toks<=s'.toks:=by
 induction h<;>(try simp only[Shared.setGen]at *)<;>omega
def UX{p:Pos}(h:Wakes M Γ p g r s b s'):s.toks<=s'.toks:=by
 unfold Wakes at h;split at h
 .exact h.elim
 .split at h
  .obtain⟨e,s1,a,_,_,rfl⟩:=h;have:=yC a;exact this
  .rw[h.2];exact A7 _
  .rw[h.2];exact A7 _
 .obtain⟨e,s1,a,_,_,rfl⟩:=h;have:=yC a;exact this
 .rw[h.2];exact A7 _
 .rw[h.2];exact A7 _
def wp_toks{j:Type}{M:Model}{Γ:PySem.Ctx}{Q:j->Pos->Ub->Prop}{E:Tz->Pos->Ub->Prop}{n:Nat}(t:Sem j)(p:Pos)(s:Ub)(hn:n<=s.toks)(h:Sem.wp M Γ t Q E p s):
 Sem.wp M Γ t (λa d s'=>n<=s'.toks/\Q a d s') (λe d s'=>n<=s'.toks/\E e d s') p s:=by
 revert h
 induction t generalizing p s with
 |pure x=>exact λh=>⟨hn,h⟩
 |raise v=>exact λh=>⟨hn,h⟩
 |unsupported|finish|yield|fork|await|register=>exact id
 |rule _ k ih|«at» _ k ih|alloc _ k ih|loadIfAlive _ k ih|point _ k ih|ask k ih|os _ _ k ih|handled _ k ih|newGen _ k ih|stack k ih|thread k ih=>exact ih _ _ _ hn
 |fresh k ih=>exact ih _ _ _<|Nat.le_succ_of_le hn
 |load a _ k ih|genState a k ih=>exact λ⟨o,q,h⟩=>⟨o,q,ih _ _ _ hn h⟩
 |update a _ f k ih|choose _ _ k ih=>exact λ⟨ha,h⟩=>⟨ha,ih _ _ _ hn h⟩
 |call c h g l k ih=>exact λ⟨r,s',a,b⟩=>⟨r,s',a,ih _ _ _ (C6 hn<|yC a) b⟩
 |resume g r l k ih=>exact λ⟨i,s',m,h⟩=>⟨i,s',m,ih _ _ _ (C6 hn<|UX m) h⟩
def aGk{c:Type}{t:Sem c}{Q d:c->Ub->Prop}{M:Model}{A:Uf}{E:T1}(h:bc M A t Q E s)(e:∀a s1,s.toks<=s1.toks->Q a s1->d a s1):bc M A t d E s:=
 λΓ p b=>Sem.wp_mono M Γ t (λa _ s1 z=>e a s1 z.1 z.2) (λ_ _ _ z=>z.2) p s (wp_toks t p s (A7 _)<|h Γ p b)
def PEp(X:Cx)(e:Ud)(t:TE):Prop:=
 ∀(bq:T2)(s:Ub)(a:St)(H:Hp)(Q:VK),Inv X bq a H s->t a H Q->bc (bb X.prog X.w) X.A (eval e X.env) (λv s'=>1<=s'.toks/\EP X bq a Q v s') X.xe s
def PEt(X:Cx)(e:Ud)(t:TE):Prop:=
 ∀(bq:T2)(s:Ub)(a:St)(H:Hp)(Q:VK),1<=s.toks->Inv X bq a H s->t a H Q->bc (bb X.prog X.w) X.A (eval e X.env) (EP X bq a Q) X.xe s
section
variable{X:Cx}{a b o e:Ud}{ta tb to te:TE}{pos apos cpos p1 p2 p3:Pos}{x y z:Str}{j1 j2:Nat}
def aKv(d:OpR X (binaryOp op) r)(ha:PEp X a ta)(f:PEt X b tb):PE X (.BinOp a op b pos) (tOp r ta tb):=by
 intro bq s c H Q I h;refine wpAny_BinOp (thn (ha bq s c H _ I h) λv s1 ⟨g,x,i,j,k,l⟩=>?_);exact thn (f bq s1 c i _ g j l) λu s2 ⟨y,m,n,p,q⟩=>d bq s2 c m x y v u Q n k p q
def aMi(d:OpR X (binaryOp op) r)(f:PE X b tb):PEp X (.BinOp (.Constant (.str x) j1 p1) op b pos) (tOp r (tC (.str x)) tb):=by
 intro bq s c H Q I h;refine wpAny_BinOp<|A0p ?_;refine aGk (f bq _ c H _ (I.tok _) h) λu s2 g ⟨y,i,j,k,l⟩=>?_;exact aGk (d bq s2 c i (.str x) y (.str x s.toks) u Q j ⟨_,rfl⟩ k l) λw s3 m q=>⟨C6 (C6 (Nat.le_add_left 1 s.toks) g) m,q⟩
def aGq{t:Tok}{Q:T1}(hok:MulOk x n)(h:∀t' k,(t'=t\/t'=s.toks)->Q (.str (Txt.mul x n) t') { s with toks:=k }):
 bc (bb M w) A (binaryOp .Mult (.str x t) (.int n u)) Q E s:=by
 refine P.mul_str hok.1 hok.2.1 hok.2.2 ?_;unfold Txt.mul at h;by_cases c:n<1
 .rw[A4 c]at h ⊢;exact⟨by decide,h _ _ (.inr rfl)⟩
 .rw[A5 c]at h ⊢;by_cases d:(n==1 || x.length==0)=true
  .rw[A4 d]at h ⊢;exact h t s.toks (.inl rfl)
  .rw[A5 d]at h ⊢;exact⟨fits_reps<|hok.2.2 c (by simpa using d),h _ _ (.inr rfl)⟩
def booked(hs:W.nsIn X.K cStatics sharingNotToldKey=Z Y)(I:Inv X bq c H s):NoneBooked s.heap:=
 let⟨_,G,_⟩:=I.nolimit
 ⟨_,G,W.ns_none_of I.kIn G hs⟩
noncomputable def aIl(y z:Str)(to te:TE):TE:=λc H Q=>to c H λa d=>∃x,a=.str x/\te c d λu f=>∃n,u=.int n/\(n<1000/\-1000<n/\z.length<=1000)/\x.length+(x.length+1)*(Txt.mul z n).length<=16777216/\Q (.str (Txt.replace x y<|Txt.mul z n)) f
def aDa(hs:W.nsIn X.K cStatics sharingNotToldKey=Z Y)(l:PE X o to)(m:PE X e te)(c:attributeBase o "replace" X.env (eval o X.env)=eval o X.env)(d:(apos.endLine==cpos.line)=true):
 PEt X (.Call (.Attribute o "replace" apos) [.Constant (.str y) j1 p1,.BinOp (.Constant (.str z) j2 p2) .Mult e p3] [] cpos) (aIl y z to te):=by
 intro bq s f H Q p I h;refine wpAny_Call_method_late c rfl d rfl (aGk (l bq s f H _ I h) λv s1 q ⟨a,r,w,A,x,B,C⟩=>?_);subst B;obtain⟨t,rfl⟩:=A;refine⟨"str",_,U8,F.slot_str_replace,F.type_str_replace,A0f _ _ _,(λb z=>by cases z),?_⟩;refine Calls.callWith_builtin rfl<|Calls.evalArgs_plain<|Z4<|A0p (pos:=p1) (k:=j1)<|Z4 ?_;refine wpAny_BinOp<|A0p (pos:=p2) (k:=j2) (aGk (m bq _ f r _ (w.tok _) C) λu s2 D ⟨b,E,g,G,n,J,hn,L,M⟩=>?_);subst J;obtain⟨t2,rfl⟩:=G;refine aGq (aBR hn) λN k ht=>Calls.spliced_nil ?_;have O:s1.toks+1+1<=s2.toks:=D
 have i:s1.toks<N:=by
  obtain z|z:=ht
  .rw[z];exact F6 _
  .rw[z];omega
 have j:1<=s1.toks:=C6 p q;exact SC.replaceA (E9 j) (E9<|C2 j<|U6 i) (B4 i) L (λt3 P=>⟨.str _,E,g.tok _,⟨_,rfl⟩,M⟩)<|booked hs<|g.tok k
end
def zU(y z:Str)(f g:EF):EF:=λa M=>(f a M).bind λr=>(g a r.2).bind λq=>match r.1,q.1 with
 |.d (.str x),.d (.int n)=>if (n<1000/\-1000<n/\z.length<=1000)/\x.length+(x.length+1)*(Txt.mul z n).length<=16777216 then Z (.d (.str (Txt.replace x y<|Txt.mul z n)),q.2)else Y
 |_,_=>Y
section
variable{ι:Type}{K:Fg}{X:ι->Cx}{a b o e:Ud}{f g:EF}{pos apos cpos p1 p2 p3:Pos}{x y z:Str}{j1 j2:Nat}
structure MEp(K:Fg)(X:ι->Cx)(e:Ud)(f:EF):Prop where
 ex:∃t,(∀i,PEp (X i) e t)/\SE K t f
structure MEt(K:Fg)(X:ι->Cx)(e:Ud)(f:EF):Prop where
 ex:∃t,(∀i,PEt (X i) e t)/\SE K t f
def aLa(q:Q2 K X (binaryOp op) k)(x:MEp K X a f)(y:MEt K X b g):ME K X (.BinOp a op b pos) (fOp k f g):=by
 obtain⟨t,c,d⟩:=x.ex;obtain⟨u,h,j⟩:=y.ex;obtain⟨r,l,m⟩:=q.ex;exact⟨_,λi=>aKv (l i) (c i)<|h i,HD m d j⟩
def aKQ(q:Q2 K X (binaryOp op) k)(y:ME K X b g):MEp K X (.BinOp (.Constant (.str x) j1 p1) op b pos) (fOp k (fC (.str x)) g):=by
 obtain⟨u,c,d⟩:=y.ex;obtain⟨r,h,j⟩:=q.ex;exact⟨_,λi=>aMi (h i)<|c i,HD j SQ d⟩
def aHg(a:SE K to f)(b:SE K j g):SE K (aIl y z to j) (zU y z f g):=by
 intro E M v M' h W H l Q G R k;obtain⟨⟨c,M1⟩,p,h⟩:=aJ h;obtain⟨⟨d,M2⟩,q,h⟩:=aJ h;revert h;dsimp only;split
 .rename_i x n;intro h;by_cases i:(n<1000/\-1000<n/\z.length<=1000)/\x.length+(x.length+1)*(Txt.mul z n).length<=16777216
  .rw[A4 i]at h;cases h;refine a _ _ _ _ p W H l _ G R λv r t m u w=>⟨x,w,?_⟩;exact b _ _ _ _ q r t l _ u (R.up m) λF A B C G2 D=>⟨n,D,i.1,i.2,k _ A B (m.trans C) G2 rfl⟩
  .rw[A5 i]at h;cases h
 .intro h;cases h
def aCi(c:∀i,(X i).K=K)(hs:W.nsIn K cStatics sharingNotToldKey=Z Y)(x:ME K X o f)(w:ME K X e g)(d:∀env:Env,attributeBase o "replace" env (eval o env)=eval o env:=by intro _;rfl)(h:(apos.endLine==cpos.line)=true:=by rfl):
 MEt K X (.Call (.Attribute o "replace" apos) [.Constant (.str y) j1 p1,.BinOp (.Constant (.str z) j2 p2) .Mult e p3] [] cpos) (zU y z f g):=by
 obtain⟨t,j,k⟩:=x.ex;obtain⟨u,l,m⟩:=w.ex;exact⟨_,λi=>aDa (by rw[c i];exact hs) (j i) (l i) (d _) h,aHg k m⟩
end
def CH(its:T5):slicePick its.toArray Y (Z 0) (Z (-1))=(its.drop 1).reverse.toArray:=by
 cases its with
 |nil=>rfl
 |cons y its=>
  have b:sliceBounds Y (Z 0) (Z (-1)) (y::its).toArray.size=((its.length:Int),0,-1):=by
   unfold sliceBounds;simp only[Option.getD_some,List.size_toArray,List.length_cons];rw[A5 (by decide),A5 (by decide)];refine Prod.ext ?_<|Prod.ext ?_ rfl
   .show((its.length+1:Nat):Int)-1=_;omega
   .show max (-1:Int) (min 0 (((its.length+1:Nat):Int)-1))=0;omega
  unfold slicePick;rw[b];congr 1;show _=its.reverse;rw[<- HT.rev_pick its];unfold sliceRange;dsimp only;rw[A5 (by decide)]
  have c:(if (its.length:Int) > 0 then((its.length:Int)-0 - -1-1) / -(-1)else 0).toNat=its.length:=by
   by_cases h:(its.length:Int) > 0
   .rw[A4 h,show(-(-1:Int))=1 from rfl,Int.ediv_one];omega
   .rw[A5 h];omega
  rw[c,List.filterMap_map];refine HT.fm_congr λm hm=>?_;have:=List.mem_range.mp hm;show(y::its).toArray[((its.length:Int)+-1*(m:Int)).toNat]?=_;rw[show((its.length:Int)+-1*(m:Int)).toNat=(its.length-1-m)+1 by omega,List.getElem?_toArray];rfl
section
variable{X:Cx}{e hi st:Ud}{te:TE}{th tu:TO}{pos p2:Pos}
def aMG(K:Fg):V->Hp->VK->Prop:=λx H Q=>∃a xs,x=.ref a/\SqL K H a xs/\∀p,H p=Y->Q (.ref p) (upd H p (.lst (xs.drop 1).reverse))
def aIK(K:Fg)(te:TE)(tu th:TO):TE:=λa H Q=>te a H λx b=>tu a b λv c=>v=Z 0/\th a c λu d=>u=Z (-1)/\aMG K x d Q
def bA.drop1(h:bA xs us):bA (xs.drop 1) (us.drop 1):=by
 cases h with
 |nil=>exact .nil
 |cons _ t=>exact t
def aFC(j:PE X e te)(l:PO X (Z hi) tu)(m:PO X (Z st) th):PE X (.Subscript e (.Slice Y (Z hi) (Z st) p2) pos) (aIK X.K te tu th):=by
 intro bq s c H Q I h;refine Subscript_ (thn (j bq s c H _ I h) λv s1 ⟨x,n,p,t,y⟩=>?_);refine wpAny_Slice ?_;rw[evalPart_none];refine A6 ?_;refine thn (l bq s1 c n _ p y) λf s2 ⟨k,z,B,pv,C,D⟩=>thn (m bq s2 c z _ B D) λg s3 ⟨u,E,F,G,J,q⟩=>?_;subst C;subst J;have d:Inv X bq c E { s3 with heap:=s3.heap.push { cls:=.type "slice",data:=.fields #[.none,f,g] } }:=F.kept (t':=s3.toks) λb ob q=>A3 _ q;obtain⟨a,xs,ex,L,q⟩:=q;subst ex;cases t;obtain⟨its,r,ht,M⟩:=d.list L;have i:=r.length;show bc (bb X.prog X.w) X.A (subscriptTail e (.Slice Y (Z hi) (Z st) p2) (.ref a) (.ref s3.heap.objs.size)) (EP X bq c Q) X.xe { s3 with heap:=s3.heap.push { cls:=.type "slice",data:=.fields #[.none,f,g] } };refine tail_any (T:="list") (ops:=[.ref a,.ref s3.heap.objs.size]) ht.isList.typeIs slot_list_getitem.lookup ?_ (by with_unfolding_all rfl);refine wpAny_getItem_list_slice ht.isList (Heap.IsSliceOf.new ..) .none pv G (by decide) ?_ (by rw[D9]<;>omega);rw[CH];refine⟨.ref _,_,d.laid (t':=s3.toks) (o:=.lst (xs.drop 1).reverse) (λb ob q=>A3 _ q) (A7 _) ?_,rfl,q _<|d.hok.fresh<|A7 _⟩;exact⟨by rw[U1,List.length_drop];omega,_,0,r.drop1.rev,B3 _ rfl⟩
end
def aEG:CD->Sto->Tw (CD×Sto)
 |.d (.list a),M=>Z (.d (.list (a.drop 1).reverse),M)
 |_,_=>Y
def DU(f:EF)(v u:OF):EF:=λa M=>(f a M).bind λr=>(v a r.2).bind λp=>(u a p.2).bind λq=>if p.1=Z 0/\q.1=Z (-1)then aEG r.1 q.2 else Y
section
variable{K:Fg}
def aM.drop1(h:aM K H ds vs):aM K H (ds.drop 1) (vs.drop 1):=by
 cases ds with
 |nil=>rw[show vs=[]from h];rfl
 |cons d ds=>obtain⟨v,r,rfl,_,a⟩:=h;exact a
def aFT(a:SE K j f)(b:SO K m v)(c:SO K n u):SE K (aIK K j m n) (DU f v u):=by
 intro γ M x M' d W H g Q G R k;obtain⟨⟨y,M1⟩,B,d⟩:=aJ d;obtain⟨⟨p,M2⟩,C,d⟩:=aJ d;obtain⟨⟨q,D⟩,E,d⟩:=aJ d;have d:(if p=Z 0/\q=Z (-1)then aEG y D else Y)=Z (x,M'):=d;by_cases e:p=Z 0/\q=Z (-1)
 .rw[A4 e]at d;obtain⟨I,J⟩:=e;refine a _ _ _ _ B W H g _ G R λw L N h O P=>?_;refine b _ _ _ _ C L N g _ O (R.up h) λS T i G2=>⟨I,?_⟩;refine c _ _ _ _ E S T g _ G2 (R.up<|h.trans i) λr H3 t z=>⟨J,?_⟩;unfold aEG at d;split at d
  .cases d;obtain⟨p,us,rfl,e,U⟩:=(show ∃a us,_=V.ref a/\SqL K r.F a us/\aM K r.F _ us from(P.up<|i.trans t));refine⟨p,us,rfl,z.fh.seq e,λl X=>?_⟩;obtain⟨A,G4⟩:=z.lay (o:=.lst (us.drop 1).reverse) X;exact k _ _ _ (((h.trans i).trans t).trans A) G4 ⟨l,_,rfl,SqL.of aS,aM.same A.ff _ _ U.drop1.rev⟩
  .cases d
 .rw[A5 e]at d;cases d
def aHB{ι:Type}{X:ι->Cx}{hi st:Ud}{pos:Pos}(b:∀i,(X i).K=K)(x:ME K X a f)(y:MO K X (Z hi) v)(z:MO K X (Z st) u):ME K X (.Subscript a (.Slice Y (Z hi) (Z st) p2) pos) (DU f v u):=by
 obtain⟨t,c,d⟩:=x.ex;obtain⟨e,g,h⟩:=y.ex;obtain⟨l,j,k⟩:=z.ex;exact⟨_,λi=>by have:=aFC (p2:=p2) (pos:=pos) (c i) (g i)<|j i;rw[b i]at this;exact this,aFT d h k⟩
end
end L2
namespace PySem.W
open PySem PySem.Calls PyProof.Rows PyProof.V PySem.Spec
def CC(n:Nat)(a:Nat->Nat->(Bool->Ub->Prop)->Ub->Prop)(G:Tj->Ub->Prop)(s:Ub):Prop:=
 n<64/\(kas_sort n).kasWp a G s\/64<=n/\n<=256/\(kas_count n<|List.toArray<|List.range n).kasWp a (λr s'=>r.1=n/\G r.2 s') s
section
variable{prog:Ue}{w:World}{A:Uf}{E:T1}{κ:SortKind}{it:Array Keyed}
def aGj:∀n,n<257->64<=n->¬n<minRun' n n 0:=by
 have h:(List.range 257).all (λn=>decide (n<64) || !decide (n<minRun' n n 0))=true:=by decide +kernel
 intro n hn a hm;have:=List.all_eq_true.mp h n<|List.mem_range.mpr hn;rw[C7 hm,C9 (by omega)]at this;exact absurd this (by decide)
def aCL{n:Nat}{Q:Unit->SortSt->Ub->Prop}{G:Tj->Ub->Prop}(i:64<=n)(j:n<=256)
 (k:∀a b s',a.size=n->arrOf b=a.map (kas_item it)->failedOf b=Y->G a s'->Q () b s') (h:(kas_count n<|List.toArray<|List.range n).kasWp (kas_cmp prog w A κ it) (λr s'=>r.1=n/\G r.2 s') s):
 kasC (bb prog w) A E sortRuns' Q (kas_st κ it<|List.toArray<|List.range n) s:=by
 have d:=aGj n (by omega) i;obtain⟨r,rfl⟩:∃r,n=r+2:=⟨n-2,by omega⟩;have c:(List.toArray<|List.range (r+2)).size=r+2:=by simp
 rw[sortRuns'_eq];refine kasC_bind<|kasC_get ?_;dsimp only
 have e:(arrOf<|kas_st κ it<|List.toArray<|List.range (r+2)).size=r+2:=by
  show((List.toArray<|List.range (r+2)).map (kas_item it)).size=_;rw[Array.size_map,c]
 simp only[e];refine kasC_bind<|kasC_range ?_;show kasC _ _ _ (forIn (0::1::List.range' 2 r) _ _) _ _ _;refine kasC_cons ?_;dsimp only;rw[A5 (by omega)];simp only[Nat.sub_zero,Nat.zero_add];refine kasC_bind<|kas_count_ (by omega) (by rw[c];exact A7 _) (λm a s' l o p q=>?_) h;have f:a.size=r+2:=p.trans c;obtain⟨rfl,g⟩:=(show m=r+2/\G a s' from q);dsimp only;rw[A5 d];refine kasC_bind<|kasC_get ?_;rw[show(pendingOf<|kas_st κ it a).back?=Y from rfl];dsimp only;refine kasC_bind<|kasC_modify<|kasC_pure ?_;show kasC _ _ _ (forIn (1::List.range' 2 r) _ _) _ _ _;refine kasC_cons ?_;dsimp only;rw[A4 (A7 _)];refine kasC_pure ?_;dsimp only;refine kasC_bind<|kasC_range ?_;show kasC _ _ _ (forIn (0::1::List.range' 2 r) _ _) _ _ _;refine kasC_cons ?_;refine kasC_bind<|kasC_get ?_;rw[A4 (show(pendingOf<|setPending (kas_st κ it a)<|(pendingOf<|kas_st κ it a).push (0,r+2,0)).size<=1 from A7 1)];refine kasC_pure ?_;dsimp only;exact kasC_pure<|k a _ _ f rfl rfl g
def aDM{n:Nat}{Q:Unit->SortSt->Ub->Prop}{G:Tj->Ub->Prop}(f:2<=n)
 (e:∀d c s',d.size=n->arrOf c=d.map (kas_item it)->failedOf c=Y->G d s'->Q () c s') (h:CC n (kas_cmp prog w A κ it) G s):
 kasC (bb prog w) A E sortRuns' Q (kas_st κ it<|List.toArray<|List.range n) s:=by
 obtain⟨a,h⟩|⟨a,b,h⟩:=h
 .exact kas_runs f a e h
 .exact aCL a b e h
end
section
variable{prog:Ue}{w:World}{A:Uf}{E:T1}{κ:SortKind}{s:Ub}{h₀:Heap}{L a:Uc}{m:Str->Tf}{news:T2}{vs:T5}
def aAA{Q:SortSt->Ub->Prop}{G:Tj->Ub->Prop}(d:2<=vs.length)
 (f:∀p b s',p.size=vs.length->arrOf b=p.map (kas_item<|vs.toArray.zip vs.toArray)->failedOf b=Y->G p s'->Q b s') (h:CC vs.length (kas_ask prog w A κ vs) G s):
 bc (bb prog w) A ((sortRuns').run (SortSt.mk' κ (vs.toArray.zip vs.toArray) #[] 7 Y)) (λr s'=>Q r.2 s') E s:=by
 rw[kat_ask_eq rfl]at h;have run:=aDM (E:=E) (Q:=λ_ b s'=>Q b s') d f h
 have c:SortSt.mk' κ (vs.toArray.zip vs.toArray) #[] 7 Y=kas_st κ (vs.toArray.zip vs.toArray) (List.toArray<|List.range vs.length):=by
  have e:=kas_range<|vs.toArray.zip vs.toArray;rw[show(vs.toArray.zip vs.toArray).size=vs.length by simp]at e;show SortSt.mk' κ (vs.toArray.zip vs.toArray) #[] 7 Y=SortSt.mk' κ ((List.toArray<|List.range vs.length).map (kas_item<|vs.toArray.zip vs.toArray)) #[] 7 Y;rw[e]
 rw[c];exact run
def ZP{P:PySem.Fin->Ub->Prop}(F:Fr h₀ L s.heap m)(N:News h₀ L s.heap news)(r:s.heap.get? a=Z (seqObj "list" vs.toArray n))(j:a≠L)(l:h₀.get? a=Y)(t:∀p∈news,p.1≠a)
 (D:2<=vs.length) (G:vs.length<=256)
 (h:∀c h',Fr h₀ L h' m->News h₀ L h' ((a,seqObj "list" #[] c)::news)->
  bc (bb prog w) A (keyKind' vs.toArray) (λκ s'=>CC vs.length (kas_ask prog w A κ vs) (λp f=>KasFin h₀ L m a c (p.toList.map λi=>vs.getD i Value.none) (λs3=>P (.done (.ret .none)) s3) f) s') (λ_ _=>False) { s with heap:=h' }):
 bc (bb prog w) A (Builtin.«list.sort» ⟨[.ref a],[]⟩) P E s:=by
 have ha:a<s.heap.objs.size:=A9 r;have s1:=S2 s.heap a (Obj.mapSeq λ_=>(#[]:Ti));obtain⟨c,o⟩:∃c,(s.heap.update a (Obj.mapSeq λ_=>(#[]:Ti))).get? a=Z (seqObj "list" #[] c):=⟨_,A0r r λ_=>#[]⟩;have F3:Fr h₀ L (((s.heap.update a (Obj.mapSeq λ_=>(#[]:Ti))).push (seqObj "tuple" vs.toArray 0)).push (seqObj "list" #[] 0)) m:=((kas_fr F s1 j l).push _).push _
 have H:News h₀ L (((s.heap.update a (Obj.mapSeq λ_=>(#[]:Ti))).push (seqObj "tuple" vs.toArray 0)).push (seqObj "list" #[] 0)) news:=
  (kas_news N s1 t).grown λb x e=>A3 _<|A3 _ e
 have I:News h₀ L (((s.heap.update a (Obj.mapSeq λ_=>(#[]:Ti))).push (seqObj "tuple" vs.toArray 0)).push (seqObj "list" #[] 0)) ((a,seqObj "list" #[] c)::news):=λp hp=>by
  obtain rfl|hp:=List.mem_cons.mp hp
  .exact⟨A3 _<|A3 _ o,j,l⟩
  .exact H p hp
 have ask:=h c _ F3 I;rw[list_sort_plain];refine A0<|listItems_at r rfl ?_;refine A0<|listUpdate_at r rfl ?_ (by rw[D9,E4];omega)<|E6 _;refine A0<|seqEpoch_at o rfl ?_;refine A0<|wpAny_newTuple ?_ (by show vs.length<=_;rw[E4];omega);refine A0<|wpAny_newList ?_<|E6 _;refine F5 ?_;show bc (bb prog w) A _ P E { s with heap:=((s.heap.update a (Obj.mapSeq λ_=>(#[]:Ti))).push (seqObj "tuple" vs.toArray 0)).push (seqObj "list" #[] 0) };dsimp only;have q:¬vs.toArray.size<2:=by rw[D9];omega
 rw[A5 q,A5 q];refine A0 (E3 ask (λκ s0 J=>?_) λ_ _ x=>x.elim)
 refine A0 (E3 (aAA (Q:=λd s'=>∃p:Tj,p.size=vs.length/\arrOf d=p.map (kas_item<|vs.toArray.zip vs.toArray)/\failedOf d=Y/\KasFin h₀ L m a c (p.toList.map λi=>vs.getD i Value.none) (λf=>P (.done (.ret .none)) f) s')
  D (λK d s' M O R S=>⟨K,M,O,R,S⟩) J) ?_ λ_ _ e=>e)
 rintro⟨⟨⟩,d⟩ s' ⟨p,hp,u,T,v,g,V,N',U,k⟩;dsimp only;obtain⟨pre,C,W,X,x1,x2⟩:=U.split;rw[W]at N';have na:=N' (a,seqObj "list" #[] c)<|B5 _ (.head _);have y:(List.toArray (p.toList.map λi=>vs.getD i Value.none)).size=vs.length:=by rw[D9,A1,L5,hp]
 rw[kat_snds rfl u];have s2:=S2 s'.heap a (Obj.mapSeq λ_=>List.toArray (p.toList.map λi=>vs.getD i Value.none));obtain⟨z,B⟩:∃z,(s'.heap.update a (Obj.mapSeq λ_=>List.toArray (p.toList.map λi=>vs.getD i Value.none))).get? a=Z (seqObj "list" (List.toArray (p.toList.map λi=>vs.getD i Value.none)) z):=⟨_,A0r na.1 λ_=>List.toArray (p.toList.map λi=>vs.getD i Value.none)⟩;refine A0<|seqEpoch_at na.1 rfl ?_;refine A0<|listUpdate_at na.1 rfl ?_ (E6 _)<|C6 (Nat.le_of_eq y) (by rw[E4];omega);rw[T];simp only[bne_self_eq_false,Bool.false_eq_true,if_false];refine A6<|k _ z (kas_fr V s2 na.2.1 na.2.2) ?_;rw[X];exact news_set N' x1 x2 s2 B
def l2_any{Q:T1}(F:Fr h₀ L s.heap m)(N:News h₀ L s.heap news)(B:2<=vs.length)(f:vs.length<=256)
 (h:∀D e h',Fr h₀ L h' m->News h₀ L h' ((D,seqObj "list" #[] e)::news)->(∀q∈news,q.1<D)->
  bc (bb prog w) A.in1 (keyKind' vs.toArray) (λκ s'=>CC vs.length (kas_ask prog w A.in1 κ vs) (λp c=>KasFin h₀ L m D e (p.toList.map λi=>vs.getD i Value.none) (λs3=>Q (.ref D) s3) c) s') (λ_ _=>False) { s with heap:=h' }):
 bc (bb prog w) A (do let l <- newList vs;let _ <- holding [l] (call (.builtin "list.sort") [l]);ret l) (λj s'=>∃v,j=.done (.ret v)/\Q v s') E s:=by
 refine A0<|wpAny_newList ?_ (by rw[E4];omega);have d:(s.heap.push<|seqObj "list" vs.toArray 0).get? s.heap.objs.size=Z (seqObj "list" vs.toArray 0):=B3 _ rfl;have keep:∀b o,s.heap.get? b=Z o->(s.heap.push<|seqObj "list" vs.toArray 0).get? b=Z o:=λb o q=>A3 _ q;have t:L<s.heap.objs.size:=F.ns.lt;show bc _ _ _ _ _ { s with heap:=s.heap.push (seqObj "list" vs.toArray 0) };refine A0<|F5<|L6 slot_list_sort ⟨_,d,rfl⟩ entry_list_sort ?body<|args_list_sort _
 case body=>
  refine ZP (s:={ s with heap:=s.heap.push (seqObj "list" vs.toArray 0) }) (F.kept keep) (N.grown keep) d (E9 t) (U2<|C6 F.above<|U6 t)
   (λp C=>B4<|A9 (N p C).1) B f λe h' H N'=>?_
  refine E3 (h _ e h' H N' λq k=>A9 (N q k).1) (λκ s' I=>?_) λ_ _ x=>x
  have mono:∀{G u:Tj->Ub->Prop},(∀p s,G p s->u p s)->CC vs.length (kas_ask prog w A.in1 κ vs) G s'->CC vs.length (kas_ask prog w A.in1 κ vs) u s':=λg z=>by
   rw[kat_ask_eq rfl]at z ⊢;obtain⟨a,z⟩|⟨a,b,z⟩:=z
   .exact .inl ⟨a,kas_wp_mono z g⟩
   .exact .inr ⟨a,b,kas_wp_mono z λr s ⟨x,y⟩=>⟨x,g _ _ y⟩⟩
  exact mono (λp c n=>n.mono λs3 k=>⟨_,rfl,A6 ⟨_,rfl,k⟩⟩) I
end
end PySem.W
namespace L2
open PySem PySem.Spec PyProof.Rows
open PySem PySem.W PySem.Spec PyProof.Rows
def vX(lt:To)(n:Nat):Nat:=(nR lt<|kas_count n (List.range n).toArray).1
def rN(a:Tv (T4)):Bool:=decide (a.length<64) || (decide (a.length<=256)&&vX (dH a) a.length==a.length)
def QW(h:rN a=true):a.length<=256:=by
 unfold rN at h;rw[A0b,B8]at h;obtain h|⟨h,_⟩:=h
 .have:=D4 h;omega
 .exact D4 h
theorem kD{a b:Type}{lt:To}{f:a->KasT b}:∀{t:KasT a},nR lt (t.bind f)=nR lt (f<|nR lt t)
 |.ret _=>rfl
 |.ask i j k=>kD (t:=k<|lt i j)
def vM(h:vX lt n=n):cX lt n=(nR lt<|kas_count n (List.range n).toArray).2.toList:=by
 unfold cX kas_sort;rw[kD,A5 (by unfold vX at h;omega)];rfl
def aBY{b:Nat->Nat->(Bool->Ub->Prop)->Ub->Prop}{G:Tj->Ub->Prop}(h:rN a=true)(d:0<a.length)
 (f:∀i j C,i<a.length->j<a.length->C (dH a i j) s->b i j C s) (g:∀{p:Tj},p.toList=cX (dH a) a.length->G p s):CC a.length b G s:=by
 by_cases k:a.length<64
 .exact .inl ⟨k,KS.wp f (λp c=>g (by rw[c.1];rfl))<|(MQ d).ks (lt:=dH a)⟩
 .unfold rN at h;rw[C9 k,Bool.false_or,B8]at h;have e:vX (dH a) a.length=a.length:=eq_of_beq h.2;exact .inr ⟨by omega,D4 h.1,KS.wp f (λp c=>⟨by rw[c.1];exact e,g (by rw[c.1];exact(vM e).symm)⟩)<|(OP d<|Array.Perm.refl _).ks (lt:=dH a)⟩
end L2
namespace L2
open PySem PySem.Spec PyProof.Rows
section
variable{X:Cx}{bq:T2}{σ:St}{H:Hp}{s:Ub}{E:T1}
def aEu(K:Fg)(vs:Tc)(H:Hp)(Q:VK):Prop:=
 (∃a:Tv (T4),aM K H (a.map .tuple) vs/\2<=a.length/\rN a=true/\(∀r∈a,r.all bo=true/\cB r=true)/\(iD a=true\/kK a=true)/\(∀i j,i<a.length->j<a.length->(cY (a.getD i [])<|a.getD j []).isSome=true) /\
  ∀l,H l=Y->Q (.ref l) (upd H l (.lst ((cX (dH a) a.length).map λi=>vs.getD i .non))))\/(vs.length<2/\∀l,H l=Y->Q (.ref l) (upd H l (.lst vs)))
def aKR{A:Uf}{a:Tv (T4)}{Q:VK}(hu:A.in1.units+64<cLine)(I:Inv X bq σ H s)(rv:bA vs its)(k:aM X.K H (a.map .tuple) vs)(h2:2<=a.length)(g:rN a=true)
 (h:∀r∈a,r.all bo=true/\cB r=true) (t:iD a=true\/kK a=true) (u:∀i j,i<a.length->j<a.length->(cY (a.getD i [])<|a.getD j []).isSome=true)
 (q:∀l,H l=Y->Q (.ref l) (upd H l (.lst ((cX (dH a) a.length).map λi=>vs.getD i .non)))):
 bc (bb X.prog X.w) A (nN its) (λU s'=>∃v,U=.done (.ret v)/\∃x H',Inv X bq σ H' s'/\RelV x v/\Q x H') E s:=by
 obtain⟨as,B⟩:=aM.reads I _ vs its k rv;have f:its.length=a.length:=by rw[ReadsAll.len B,A1]
 obtain⟨m,F⟩:=I.fr;have N:News X.base X.env.locals s.heap (lY X.base s.heap X.env.locals):=QK;unfold nN;refine W.l2_any (Q:=λv s'=>∃x H',Inv X bq σ H' s'/\RelV x v/\Q x H') F N (by omega) (by rw[f];exact QW g) λD e1 h' F' N' hD=>?_
 have kp:∀(S:Heap),Fr X.base X.env.locals S m->(∀q∈lY X.base s.heap X.env.locals,S.get? q.1=Z q.2)->∀b o,b≠X.env.locals->s.heap.get? b=Z o->S.get? b=Z o:=λS G1 M1 b o hb e=>by
  cases z:X.base.get? b with
  |some v=>
   have:=I.bk b v z;rw[e]at this;cases this;exact G1.keep b _ z
  |none=>exact M1 (b,o)<|lN hb z e
 have k':=kp h' F' λq G=>(N' q<|B1 _ G).1
 have J:s.heap.get? D=Y:=by
  have hN:=N' _ B0;cases e:s.heap.get? D with
  |none=>rfl
  |some o=>exact absurd (hD (D,o)<|lN hN.2.1 hN.2.2 e)<|L8 _
 have L:∀b o vs n,s.heap.get? b=Z o->o.data=.seq vs n->b≠X.env.locals:=λb o vs n e d z=>by
  obtain⟨o',es,ep,x1,x2,_⟩:=F.ns;subst z;rw[e]at x1;cases x1;rw[d]at x2;cases x2
 have a0:cB (a.map .tuple)=true:=by
  clear k B f q t u h2 g
  induction a with
  |nil=>rfl
  |cons x r ih=>
   show(cB x&&cB (r.map .tuple))=true;rw[(h x B0).2,ih λy hy=>h y<|B1 _ hy];rfl
 have M:ReadsAll h' its (a.map .tuple) as:=XU (λb o vs n e d=>k' b o (L b o vs n e d) e) _ _ _ a0 B;refine HJ (s:={ s with heap:=h' }) M (by omega) t ?_;rw[f];refine aBY g (by omega) (λi j C hi T c=>?_) ?_
 .have at_:∀i,i<a.length->∃bs,Reads h' (its.getD i .none) (.tuple (a.getD i [])) bs:=λi hi=>by
   obtain⟨bs,x⟩:=ReadsAll.at i M (by simpa using hi)
   have:(a.map PyData.tuple).getD i .none=.tuple (a.getD i []):=by
    rw[D2,D3,D2,C4 hi];rfl
   rw[this]at x;exact⟨bs,x⟩
  obtain⟨b1,r1⟩:=at_ i hi;obtain⟨b2,r2⟩:=at_ j T
  have mem:∀i,i<a.length->a.getD i []∈a:=λi hi=>by
   rw[D2,C4 hi];exact S0 hi
  have hd:iD a=true->∀r∈a,r.head?.all isI=true:=λz r B=>by
   unfold iD at z;have:=List.all_eq_true.mp z r B;cases r with
   |nil=>rfl
   |cons d ds=>cases d<;>first|rfl|exact absurd this (by intro z;cases z)
  obtain⟨c0,O⟩:=Option.isSome_iff_exists.mp<|u i j hi T;have hc:dH a i j=c0:=by unfold dH;rw[O];rfl
  rw[hc]at c;exact aEd (s:={ s with heap:=h' }) hu r1 r2 (h _<|mem i hi).1 (h _<|mem j T).1 O (λz=>⟨hd z _<|mem i hi,hd z _<|mem j T⟩) c
 .intro p e;rw[e];refine W.KasFin.intro F' N' (.head λq G=>B4<|hD q G) λa1 c P R=>?_;have a2:=kp a1 P (λq G=>(R q<|B1 _ G).1);refine⟨.ref D,upd H D (.lst ((cX (dH a) a.length).map λi=>vs.getD i .non)),?_,rfl,q D<|I.hok.none J⟩;refine I.laidL a2 (λm' a3=>?_) J ⟨?_,_,c,zC rv _,(R _ B0).1⟩
  .rw[<- XB F.ns a3];exact P.ns
  .rw[A1,(lZ (dH a) (by omega)).length_eq,Y2];exact C6 (QW g) (by decide)
def aGS{A:Uf}(l:A.in1.units+64<cLine)(I:Inv X bq σ H s)(j:bA vs its)(h:aEu X.K vs H Q):
 bc (bb X.prog X.w) A (nN its) (λi s'=>∃v,i=.done (.ret v)/\∃x H',Inv X bq σ H' s'/\RelV x v/\Q x H') E s:=by
 obtain⟨k,a,b,c,d,e,f,g⟩|⟨a,b⟩:=h
 .exact aKR l I j a b c d e f g
 .exact aBw I j a b
def aCh(K:Fg)(d:TE):TE:=λσ H Q=>d σ H λx c=>∃a kvs,x=.ref a/\c a=Z (.dT kvs) /\
 ∀bs:Ta,Paired (λ(b:Uc)(e:Tv Key×V)=>c b=Z (.tup (e.1.map kV))) bs kvs->wZ ((bs.zip kvs).map λp=>(.ref p.1,p.2.2)) c λvs f=>aEu K vs f Q
end
section
variable{X:Cx}{o:Ud}{td:TE}{pos apos cpos p:Pos}
def aBi(M:X.A.in1.in1.units+64<cLine)(N:X.calm=true)(O:Gl X "sorted")(hm:X.mg "sorted"=Y)(P:PE X o td)(f:attributeBase o "items" X.env (eval o X.env)=eval o X.env)(g:(apos.endLine==cpos.line)=true):
 PE X (.Call (.Name "sorted" p) [.Call (.Attribute o "items" apos) [] [] cpos] [] pos) (aCh X.K td):=by
 intro bq s v H Q I h;refine L4<|nI I O hm boot_sorted ?_ (by decide) (by decide);refine PyProof.Rows.callWith_builtin1 ?_ rfl rfl;show bc _ _ (spliced ((false,eval (.Call (.Attribute o "items" apos) [] [] cpos) X.env)::[])) _ _ s;refine Z4 ?_;refine wpAny_Call_method (T:="dict") (id:="dict.items") f rfl g F.plainAttrs_dict F.slot_dict_items F.type_dict_items (thn (P bq s v H _ I h) λu s1 ⟨x,y,i,R,a,kvs,ex,S,q⟩=>?_);subst ex;obtain rfl:u=Value.ref a:=R;obtain⟨z,hs,xs,r,od,es,ep,B,J,U,L,h5⟩:=(show eO X.prog X.w y s1.heap a (.dT kvs)from i.hok a _ S);have hT:s1.TypeIs (.ref a) "dict":=⟨od,B,J.1⟩;refine⟨hT,λb e=>by cases e;exact⟨od,B,J.2.1⟩,?_⟩;show bc _ _ (callWith cpos (.builtin "dict.items") [.ref a] [] []) _ _ s1;refine method_meetsIn F.slot_dict_items F.entry_dict_items rfl<|PySem.evalArgs_none ⟨rfl,hT,F.args_dict_items_1 _,_,SV a hs,hT,?_⟩;refine Calls.spliced_nil ?_;have V:Inv X bq v y { s1 with heap:=s1.heap.push { cls:=.type "dict_items",data:=.fields #[.ref a] } }:=i.kept (t':=s1.toks) λb o e=>A3 _ e;have W:(s1.heap.push { cls:=.type "dict_items",data:=.fields #[.ref a] }).IsItemsView s1.heap.objs.size a:=⟨_,B3 _ rfl,rfl,rfl⟩;have C:Raw (s1.heap.push { cls:=.type "dict_items",data:=.fields #[.ref a] }) a es ep:=⟨od,A3 _ B,U⟩;have k:es.size=xs.length:=by rw[<- L5,L,A1]
 have hl:kvs.length=xs.length:=Paired.len r;refine Calls.call_function_entry kind_sorted plain_sorted entry_sorted (args_sorted1 _) ?_;unfold Builtin.«sorted»;refine A0 (m:=checkCount "sorted" 1 1 _)<|A6 ?_;refine A0 (ZK (A:=X.A.in1) (I.ok.hd N) W C (by rw[k,<- hl];exact z) λh' tk as hk l t=>?_);have I3:Inv X bq v y { s1 with heap:=h',toks:=tk }:=V.kept hk;obtain⟨D,E⟩:=KT.addrs r;have d:∀b∈as,s1.heap.objs.size<b:=λb f=>S7 (show s1.heap.objs.size<(s1.heap.push { cls:=.type "dict_items",data:=.fields #[.ref a] }).objs.size by rw[S5];exact F6 _)<|t.above b f
 obtain⟨H2,I4,n⟩:=XA (as:=as) (s:={ s1 with heap:=h',toks:=tk }) I3 E (by rw[l,k,A1]) t.rise (λb f=>i.hok.fresh<|U6<|d b f) (λj b hj=>by
  obtain⟨e,G,e2⟩:=t.duos j b hj;refine⟨(e.key,e.val),?_,e2⟩;rw[<- L7,L,D3]at G;rw[D3];cases c:xs[j]?<;>rw[c]at G<;>cases G;rfl) (λb f=>⟨U2 (C6 i.sz (U6 (d b f))),λp hp=>B4 (S7 (A9 (i.pin p hp).1) (d b f))⟩) (q _ D)
 exact aGS (A:=X.A.in1) M I4 (its:=as.map Value.ref) (by
  clear n t l d
  induction as with
  |nil=>exact .nil
  |cons b as ih=>exact .cons rfl ih) n
end
def hV(a:Tv (T4)):Bool:=decide (2<=a.length)&&rN a&&a.all (λr=>r.all bo&&cB r)&&(iD a || kK a)&&(List.range a.length).all λi=>(List.range a.length).all λj=>(cY (a.getD i [])<|a.getD j []).isSome
def LI(h:hV a=true):2<=a.length/\rN a=true/\(∀r∈a,r.all bo=true/\cB r=true)/\(iD a=true\/kK a=true)/\(∀i j,i<a.length->j<a.length->(cY (a.getD i [])<|a.getD j []).isSome=true):=by
 unfold hV at h;rw[B8,B8,B8,B8,A0b]at h;obtain⟨⟨⟨⟨b,c⟩,d⟩,e⟩,f⟩:=h;refine⟨D4 b,c,λr g=>?_,e,λi j hi k=>?_⟩
 .have:=List.all_eq_true.mp d r g
  rwa [B8]at this
 .exact List.all_eq_true.mp (List.all_eq_true.mp f i<|List.mem_range.mpr hi) j<|List.mem_range.mpr k
def iS(a:Tv (T4)):Tw (T4):=if hV a=true then Z (JC a)else if a.length<2 then Z (a.map .tuple)else Y
def zH(fo:EF):EF:=λa M=>(fo a M).bind λo=>match o.1 with
 |.c i=>match o.2[i]? with
  |some (.dt kvs)=>(PQ kvs).bind λb=>(iS<|b.map OC).bind λr=>Z (.d (.list r),o.2)
  |_=>Y
 |_=>Y
section
variable{K:Fg}{td:TE}{fo:EF}
def aCS(a:SE K td fo):SE K (aCh K td) (zH fo):=by
 intro I M x M' b W H s Q G R k;obtain⟨⟨o,M1⟩,t,b⟩:=aJ b;revert b;dsimp only;split
 .rename_i i;split
  .rename_i kvs u;intro b;obtain⟨e,w,b⟩:=aJ b;obtain⟨r,c,b⟩:=aJ b;cases b;refine a _ _ _ _ t W H s _ G R λv J L y p z=>?_;obtain⟨us,A,B⟩:=p.dtAt u;refine⟨_,us,z.2,A,λbs C=>?_⟩;obtain⟨N,q,G2,D⟩:=xV p C;refine QG G2 D (Paired.mapP (IM w B) λ_ _ r=>⟨r.1,Rep.same q.ff _ _ r.2⟩) λvs O P E j h=>?_;have f:=(y.trans q).trans E;unfold iS at c;by_cases hs:hV (e.map OC)=true
   .rw[A4 hs]at c;cases c;obtain⟨s1,s2,s3,s4,F⟩:=LI hs;refine .inl ⟨e.map OC,aM.same j.fh _ _ h,s1,s2,s3,s4,F,λl m=>?_⟩;obtain⟨g,n⟩:=j.lay (o:=.lst ((cX (dH<|e.map OC) (e.map OC).length).map λi=>vs.getD i .non)) m;exact k _ _ _ (f.trans g) n ⟨l,_,rfl,SqL.of aS,aM.same g.ff _ _<|FT h _<|aIX (by omega)⟩
   .rw[A5 hs]at c;by_cases d:(e.map OC).length<2
    .rw[A4 d]at c;cases c;refine .inr ⟨by rw[<- h.length,A1];exact d,λl m=>?_⟩;obtain⟨g,n⟩:=j.lay (o:=.lst vs) m;exact k _ _ _ (f.trans g) n ⟨l,_,rfl,SqL.of aS,aM.same g.ff _ _ h⟩
    .rw[A5 d]at c;cases c
  .intro b;cases b
 .intro b;cases b
def aBX{ι:Type}{X:ι->Cx}{pos apos cpos p:Pos}(b:∀i,(X i).K=K)(c:∀i,(X i).A.in1.in1.units+64<cLine)(d:∀i,(X i).calm=true)(hm:∀i,(X i).mg "sorted"=Y)(x:ME K X o f)(e:∀i,Gl (X i) "sorted":=by intro _;rfl)
 (g:∀env:Env,attributeBase o "items" env (eval o env)=eval o env:=by intro _;rfl) (a:(apos.endLine==cpos.line)=true:=by rfl):ME K X (.Call (.Name "sorted" p) [.Call (.Attribute o "items" apos) [] [] cpos] [] pos) (zH f):=by
 obtain⟨t,h,j⟩:=x.ex;exact⟨_,λi=>by have:=aBi (p:=p) (pos:=pos) (apos:=apos) (cpos:=cpos) (c i) (d i) (e i) (hm i) (h i) (g _) a;rw[b i]at this;exact this,aCS j⟩
end
section
variable{K:Fg}
def Good.deadCell{W:Wd}(g:Good K W M H)(p:Uc):W.Ext (W.more p)/\Good K (W.more p) (M++[.dead]) H/\cK K (W.more p) (.c M.length) (.ref p):=by
 have e:=W.ext_more p
 have at_:∀i c',(M++[.dead])[i]?=Z c'->c'≠.dead->i<M.length/\M[i]?=Z c':=λi c' h a=>by
  by_cases q:i<M.length
  .rw[J0 q]at h;exact⟨q,h⟩
  .rw[D7 (Nat.le_of_not_lt q)]at h;have:=S6 h;exact absurd (List.mem_singleton.mp this) a
 have al:∀i,i<M.length->(W.more p).α i=W.α i:=λi h=>e.al i (by rw[g.n];exact h);have an:(W.more p).α M.length=p:=by show(if M.length=W.n then p else _)=p;rw[A4 g.n.symm]
 refine⟨e,⟨g.fh,?_,λi c hi a=>?_,λi j c c' hi d a b q=>?_,g.tb⟩,?_,by rw[an]⟩
 .show W.n+1=_;rw[B9,g.n];rfl
 .obtain⟨l,h⟩:=at_ i c hi a;obtain⟨f,o,k,m⟩:=g.cs i c h a;rw[al i l];exact⟨f,o,k,m.up e⟩
 .obtain⟨l,h⟩:=at_ i c hi a;obtain⟨r,h'⟩:=at_ j c' d b;rw[al i l,al j r]at q;exact g.inj i j c c' h h' a b q
 .show M.length<W.n+1;rw[g.n];exact F6 _
abbrev RF:=Ga->Sto->Tw (Tv (T6)×Sto)
def aCo(K:Fg)(W:Wd)(ys:T6)(v:V):Prop:=∃p us,v=.ref p/\SqT K W.F p us/\bX K W ys us
def aCo.up{W:Wd}(h:aCo K W ys v)(e:W.Ext W'):aCo K W' ys v:=let⟨p,us,a,b,c⟩:=h;⟨p,us,a,e.ff.seqT b,bX.up c e⟩
def SR(K:Fg)(t:TA)(f:RF):Prop:=∀b M a M',f b M=Z (a,M')->∀(W:Wd)(H:Hp)(c:St)(Q:Tc->Hp->Prop),Good K W M H->cN K W b c->(∀vs W' H',W.Ext W'->Good K W' M' H'->Paired (aCo K W') a vs->Q vs H')->t c H Q
def aCF:RF:=λ_ M=>Z ([],M)
def qA(fa:AF)(fr:RF):RF:=λa M=>(fa a M).bind λr=>if r.1.length<=ba then(fr a r.2).bind λq=>Z (r.1::q.1,q.2)else Y
def aKh:SR K aAa aCF:=by
 intro c M a M' b W H d Q G R k;cases b;exact k [] W H (.refl _) G .nil
def aHR(a:SA K g fa)(b:SR K tr fr):SR K (wO (aDq g) tr) (qA fa fr):=by
 intro x M l M' c W H h Q G R k;obtain⟨⟨m,M1⟩,n,c⟩:=aJ c;by_cases d:m.length<=ba
 .dsimp only at c;rw[A4 d]at c;obtain⟨⟨y,M2⟩,q,c⟩:=aJ c;cases c;refine a _ _ _ _ n W H h _ G R λus z A i r j=>⟨by rw[<- Paired.len j];exact d,λp s=>?_⟩;obtain⟨e,G2⟩:=r.lay (o:=.tup us) s;refine b _ _ _ _ q _ _ h _ G2 (R.up<|i.trans e) λvs t u f v w=>?_;exact k _ t u ((i.trans e).trans f) v (.cons ⟨p,us,rfl,f.ff.seqT<|SqT.of aS,bX.up j<|e.trans f⟩ w)
 .dsimp only at c;rw[A5 d]at c;cases c
def DP(g:GsF)(b:SF):Tv (T6)->Ga->Sto->Tw (Out×Sto)
 |[],c,M=>Z (.nx c,M)
 |x::xs,c,M=>(g x c M).bind λr=>(b r.1 r.2).bind λq=>match q.1 with
  |.nx a=>DP g b xs a q.2
  |.ct a=>DP g b xs a q.2
  |.bk a=>Z (.nx a,q.2)
  |.rt x=>Z (.rt x,q.2)
def aBN(i n:Nat)(fr:RF)(g:GsF)(b:SF):SF:=λa M=>(fr a M).bind λr=>if i<a.length/\r.1.length<=ba/\(∀x∈r.1,x.length=n)then DP g b r.1 (a.set i<|Z (.c r.2.length)) (r.2++[.dead])else Y
def aJn(r:SR K tA fr)(a:SGs K L f)(b:SS K t p):SS K (aFW (aCe (aFz tA)<|NQ i)<|aEn (aBs K<|aEE i) (aEc K n L) t) (aBN i n fr f p):=by
 intro γ M o M' I W H T D G R k;obtain⟨⟨c,M1⟩,h1,I⟩:=aJ I;by_cases U:i<γ.length/\c.length<=ba/\(∀x∈c,x.length=n)
 .dsimp only at I;rw[A4 U]at I;obtain⟨hi,hz,hn⟩:=U;refine r _ _ _ _ h1 W H T _ G R λvs V H1 e1 G1 X=>⟨by rw[<- Paired.len X];exact hz,λl hl=>?_⟩;obtain⟨e2,G2⟩:=G1.lay (o:=.lst vs) hl;obtain⟨e3,G3,rc⟩:=G2.deadCell l;have s:=(e1.trans e2).trans e3;have hs:SqL K (upd V.F l (.lst vs)) l vs:=SqL.of aS;generalize hW:Wd.more { V with F:=upd V.F l (.lst vs) } l=W3 at *;have a0:SqL K W3.F l vs:=by rw[<- hW];exact hs
  have R3:=(R.up s).set i rc;have a1:i<T.length:=by rw[<- Paired.len R];exact hi
  show aEn (aBs K<|aEE i) (aEc K n L) t D (T.set i<|Z (.ref l)) (upd H1 l (.lst vs));refine⟨.ref l,by rw[C3 a1],l,rfl,.inl ⟨vs,SqL.of aS,?_⟩⟩;refine⟨λj m u H'=>∃w M2 J,j<=c.length/\m=c.length-j/\W3.Ext J/\Good K J M2 H'/\cN K J w u/\DP f p (c.drop j) w M2=Z (o,M'),⟨_,_,_,W3,E6 _,rfl,.refl _,G3,R3,I⟩,?_⟩;rintro j m u H' ⟨w,M2,J,hj,rfl,d,z,R2,g⟩;have N:SqL K H' l vs:=z.fh.seq<|d.ff.seq a0;by_cases A:j<c.length
  .obtain⟨v,hv,ru⟩:=Paired.get X<|C4 A;rw[S4 A]at g;refine .inr ⟨⟨vs,v,N,hv⟩,λO H3=>∃B P h,J.Ext h/\Good K h P H3/\cN K h B O/\DP f p (c.drop (j+1)) B P=Z (o,M'),?_,λy H3 hy=>?_⟩
   .rintro O H3 ⟨B,P,h,a2,a3,a4,h3⟩;exact⟨_,by omega,B,P,h,A,rfl,d.trans a2,a3,a4,h3⟩
   .obtain⟨a5,a6⟩:=hy;subst a5;have:=a6 vs N;rw[hv]at this;cases this;obtain⟨q,us,rfl,hq,hr⟩:=(ru.up (e2.trans<|e3.trans d):aCo K J _ _);obtain⟨⟨a9,M4⟩,h4,g⟩:=aJ (show(f c[j] w M2).bind _=_ from g);obtain⟨⟨o5,M5⟩,h5,g⟩:=aJ g;refine⟨q,us,rfl,z.fh.seqT hq,by rw[<- Paired.len hr];exact hn _<|S0 A,?_⟩;refine a _ _ _ _ _ h4 J _ u us _ z R2 hr λa7 W4 H4 e4 G4 R4=>?_;refine b _ _ _ _ h5 W4 H4 a7 _ G4 R4 λQ H5 e5 S=>?_;have C:=e4.trans e5;cases o5 with
    |nx E=>exact λa8 R5=>⟨E,M5,Q,C,S,R5,g⟩
    |ct E=>exact λa8 R5=>⟨E,M5,Q,C,S,R5,g⟩
    |bk E=>cases g;exact k Q H5 ((s.trans d).trans C) S
    |rt x=>cases g;exact k Q H5 ((s.trans d).trans C) S
  .have e:j=c.length:=by omega
   subst e;rw[Z6]at g;cases g;exact .inl ⟨⟨vs,N,by rw[Paired.len X];exact A7 _⟩,k J H' (s.trans d) z u R2⟩
 .dsimp only at I;rw[A5 U]at I;cases I
end
section
variable{ι:Type}{K:Fg}{X:ι->Cx}
structure MR(K:Fg)(X:ι->Cx)(es:T8)(f:RF):Prop where
 ex:∃t,(∀i,PA (X i) es t)/\SR K t f
def aJZ:MR K X [] aCF:=⟨_,λ_=>EC,aKh⟩
def MP(x:MA K X us fa)(y:MR K X es fr)(hs:aEg (.Tuple us k pos) es:=by intro _;rfl):MR K X (.Tuple us k pos::es) (qA fa fr):=by
 obtain⟨t,a,b⟩:=x.ex;obtain⟨u,c,d⟩:=y.ex;exact⟨_,λi=>lW (JP<|a i) (c i)<|hs _,aHR b d⟩
def aJR(i:Nat){n:Nat}{a:Str}{h fp:Pos}{rest:T9}{sg:SF}(r:∀j,(X j).N.Nodup)(s:∀i,PassesOwn (bb (X i).prog (X i).w) (X i).A (X i).env (X i).xe)(o:∀i,(X i).calm=true)(p:∀i,(X i).K=K)
 (x:MR K X es fr) (y:MGs K X tg gs) (z:ML K X c m) (w:ML K X rest sg) (hi:∀j,(X j).N[i]?=Z a:=by intro _;rfl) (B:∀j,Loc (X j).env.scope a:=by intro _;first|exact Or.inl rfl|exact Or.inr rfl)
 (hs:∀j,swapsWith (.List es g) (Z (.Name a b)) h.line (X j).env=pure false:=by intro _;rfl) (C:∀j,(X j).fn a=true\/(X j).env.scope.names.lookup a=Z .local:=by intro _;first|exact .inl rfl|exact .inr rfl)
 (D:∀j,Vis (X j).env.scope a:=by intro _;first|exact Or.inl rfl|exact Or.inr (Or.inl rfl)|exact Or.inr<|Or.inr rfl) (hd:(a==("__debug__":Str))=false:=by decide) (d:(a==("__classdict__":Str))=false:=by decide)
 (hn:∀env:Env,(assignEach tg env).length=n:=by intro _;rfl) (e:∀env:Env,(assignEach tg env).findIdx? (·.1)=Y:=by intro _;rfl) (f:∀(env:Env)(x:Tz),bg (.Name a l) env x=pure x:=by intro _ _;rfl):
 ML K X (.Assign [.Name a b] (.List es g) h::.For (.Tuple tg k q) (.Name a l) c [] fp::rest) (bF (aBN i n fr gs m) sg):=by
 obtain⟨t,E,F⟩:=x.ex;obtain⟨u,G,H⟩:=y.ex;obtain⟨v,I,J⟩:=z.ex;obtain⟨O,L,M⟩:=w.ex;refine⟨_,λj=>vV (aEQ (r j) (hi j) (B j) (VN<|E j) (hs j)<|C j)<|vV (UB (s j) (o j) (XY (p j)<|KN (hi j) (D j) hd d) (VV (p j) (o j) (G j) (hn _)<|e _) (I j)<|f _)<|L j,?_⟩;have:=aEi (aJn (i:=i) (n:=n) F H J) M;exact this
end
structure KC(X:Cx)(nm:Str)(F:FN):Prop where
 kp:W.keepIn X.K (.ref (bK X.K nm))=true
 run:∀(bq:T2)(s:Ub)(σ:St)(H:Hp)(Q:VK)(us:T5)(vs:Tc),Inv X bq σ H s->bA vs us->spM X.K F vs H Q E0->bc (bb X.prog X.w) X.A (call (.ref (bK X.K nm)) us) (EP X bq σ Q) X.xe s
def KC.plain{X:Cx}{F:FN}(C:Callee X.prog X.w X.K X.mg X.base k nm ps (spM X.K F))(a:cE k X.A)(c:X.mg nm=Z (.ref (bK X.K nm))):KC X nm F:=by
 obtain⟨f,fd,Fn,m,kp,b⟩:=C.ex;rw[c]at m;cases m;exact⟨kp,λbq s d H Q us vs I r h=>aFj Fn a b .nil aIM I r (by rw[D8];exact h)⟩
def aCq(K:Fg)(i:Nat)(tbl:Tv (Str×FN))(t:TA):TE:=λa H Q=>∃nm F,(nm,F)∈tbl/\a[i]?=Z (Z (.ref (bK K nm)))/\t a H λvs b=>spM K F vs b Q E0
def kO(i:Nat)(tbl:Tv (Str×FN))(fa:AF):EF:=λa M=>match a[i]? with
 |some (some (.g nm))=>(tbl.lookup nm).bind λF=>aL F fa a M
 |_=>Y
theorem YG{c:Type}{nm:Str}{F:c}:∀{tbl:Tv (Str×c)},tbl.lookup nm=Z F->(nm,F)∈tbl
 |[]=>λh=>by cases h
 |(a,b)::tbl=>λh=>by
  rw[D6]at h;by_cases e:nm=a
  .subst e;rw[Y8]at h;cases h;exact B0
  .rw[show(nm==a)=false from beq_eq_false_iff_ne.mpr e]at h;exact B1 _<|YG h
def aHO{K:Fg}(a:SA K d fa):SE K (aCq K i tbl d) (kO i tbl fa):=by
 intro u M x M' b W H f Q G R k;unfold kO at b;split at b
 .rename_i nm g;obtain⟨F,h,b⟩:=aJ b;obtain⟨⟨j,M1⟩,l,b⟩:=aJ b;obtain⟨v,e,c⟩:=Paired.get R g;cases v with
  |none=>exact False.elim c
  |some v=>
   have c:v=.ref (bK K nm):=c;rw[c]at e;refine⟨nm,F,YG h,e,a _ _ _ _ l W H f _ G R λvs m w n o p=>?_⟩;exact⟨j,M1,m,x,M',o,p,b,λv q r s G2 t=>k v q r (n.trans s) G2 t⟩
 .cases b
def aDT{i:Nat}{x:Str}{tbl:Tv (Str×FN)}{e:Ud}{es:T8}(C:∀q∈tbl,KC X q.1 q.2)(ha:PA X (e::es) t)(j:X.N[i]?=Z x)(k:Vis X.env.scope x)
 (hd:(x==("__debug__":Str))=false) (a:(x==("__classdict__":Str))=false) (l:bf (e::es) X.env=(false,eval e X.env)::bf es X.env) (b:(backTo pos<|bf es X.env).any (·.1)=false):
 PE X (.Call (.Name x p) (e::es) [] pos) (aCq X.K i tbl t):=by
 intro bq s c H Q I h;obtain⟨nm,F,hm,hs,h⟩:=h;have d:=C _ hm;refine L4 (E3 (KN j k hd a bq s c H (λv H'=>v=.ref (bK X.K nm)/\H'=H) I ⟨_,hs,rfl,rfl⟩) (λu s1 q=>?_) λ_ _ e=>e);obtain⟨v,H',f,r,rfl,rfl⟩:=q;cases r;exact U7 (h₀:=X.base) f.ok.mod.kin d.kp (thn (ha pos bq s1 c _ _ f h) λus s2 ⟨vs,m,g,r,q⟩=>⟨g.kIn,d.run _ _ _ _ _ _ _ g r q⟩) l b
section
variable{ι:Type}{K:Fg}{X:ι->Cx}
def xI{x:Str}{tbl:Tv (Str×FN)}{e:Ud}{es:T8}{pos:Pos}(j:Nat)(b:∀i,(X i).K=K)(C:∀i,∀q∈tbl,KC (X i) q.1 q.2)(y:MA K X (e::es) fa)
 (c:∀i,(X i).N[j]?=Z x:=by intro _;rfl) (d:∀i,Vis (X i).env.scope x:=by intro _;first|exact Or.inl rfl|exact Or.inr (Or.inl rfl)|exact Or.inr<|Or.inr rfl) (hd:(x==("__debug__":Str))=false:=by decide) (a:(x==("__classdict__":Str))=false:=by decide):
 ME K X (.Call (.Name x p) (e::es) [] pos) (kO j tbl fa):=by
 obtain⟨u,f,g⟩:=y.ex;refine⟨aCq K j tbl u,λi=>?_,aHO g⟩;have:=aDT (p:=p) (pos:=pos) (C i) (f i) (c i) (d i) hd a (y.st.1 _)<|y.st.2.plain _ _;rw[b i]at this;exact this
def DS:∀i,∀q∈([]:Tv (Str×FN)),KC (X i) q.1 q.2:=λ_ _ h=>absurd h (by simp)
def eK{nm:Str}{F:FN}{tbl:Tv (Str×FN)}(C:∀i,KC (X i) nm F)(h:∀i,∀q∈tbl,KC (X i) q.1 q.2):∀i,∀q∈(nm,F)::tbl,KC (X i) q.1 q.2:=λi q hq=>by
 obtain rfl|hq:=List.mem_cons.mp hq
 .exact C i
 .exact h i q hq
def dQ{F:FN}(a:∀i,(X i).K=K)(C:∀i,Callee (X i).prog (X i).w (X i).K (X i).mg (X i).base k nm ps (spM K F))(b:∀i,cE k (X i).A)(m:∀i,(X i).mg nm=Z (.ref (bK K nm))):∀i,KC (X i) nm F:=λi=>.plain (by have:=C i;rw[<- a i]at this;exact this) (b i) (by rw[a i];exact m i)
end
section
variable{K:Fg}
def DJ:FM:=λx vs M=>match x,vs with
 |.d (.str a),[.d (.str b)]=>if jV a b=true then Z (.c M.length,M++[.lst ((Txt.split a b).map λt=>.d (.str t))])else Y
 |_,_=>Y
def aAq:PM K UY DJ:=by
 intro x i M z M' h W H v vs Q G e rs k;unfold DJ at h;split at h
 .rename_i a b;by_cases ok:jV a b=true
  .rw[A4 ok]at h;cases h;obtain _|⟨f,_|_⟩:=rs;refine⟨a,b,e,by rw[show _=V.str b from f],ok,λl g=>?_⟩
   have r:bX K W ((Txt.split a b).map λt=>.d (.str t)) ((Txt.split a b).map .str):=by
    induction Txt.split a b with
    |nil=>exact .nil
    |cons t j ih=>exact .cons rfl ih
   exact k _ _ _ (W.ext_more l) (G.new (c:=.lst _) (o:=.lst _) g r) ⟨by show M.length<W.n+1;rw[G.n];exact F6 _,by show _=V.ref (if M.length=W.n then l else _);rw[A4 G.n.symm]⟩
  .rw[A5 ok]at h;cases h
 .cases h
def aAP{ι:Type}{X:ι->Cx}{e:Ud}{fa:AF}{apos cpos:Pos}(a:∀i,(X i).K=K)(x:ME K X o f)(y:MA K X [e] fa)(b:∀env:Env,attributeBase o "split" env (eval o env)=eval o env:=by intro _;rfl)(c:(apos.endLine==cpos.line)=true:=by rfl):
 ME K X (.Call (.Attribute o "split" apos) [e] [] cpos) (aX "str" DJ f fa):=by
 obtain⟨t,d,g⟩:=x.ex;obtain⟨u,h,j⟩:=y.ex;refine⟨_,λi=>?_,xK aAq g j⟩;have:=RB U8 U9 F.type_str_split RD (d i) (h i) (apos:=apos) (cpos:=cpos) (b _) (by rw[y.st.1];rfl) c (y.st.1 _)<|y.st.2.plain _ _;rw[a i]at this;exact this
end
end L2
namespace PySem
open Sem (wp)
open Builtin
open AutoSeq1
def UQ(l:Uc)(items:Ti)(n:Nat)(od:Th)(osl:Array (Tf))(x:Int)(u:Tok)(b:items.isEmpty=false)(c:x<=0)(j:-(2 ^ 62)<x):
 Meets (Builtin.«tuple.__mul__» ⟨[.ref l,.int x u],[]⟩) (λ_ R s=>s.heap.get? l=Z { cls:=.type "tuple",dict:=od,data:=.seq items n,slots:=osl }/\R (.ok (.ret (Value.ref s.heap.objs.size))) { s with heap:=s.heap.push { cls:=Value.type "tuple",data:=Data.seq #[] } }):=
 .of_wp λprog w A R s h=>by
  obtain⟨k,g,d,tk,os⟩:=s;obtain⟨a,h⟩:=h;have f1:=idx_int;have f2:=sub_tuple_tuple;have m:=sub_list_list;have o:=sub_tuple_list;have p:=sub_list_tuple;have e:(decide (x < -(2 ^ 63)) || decide (x>=2 ^ 63))=false:=by simp;omega
  have f:(items.isEmpty || x==1)=false:=by rw[b];simp;omega
  have i:(decide (x<=0) || items.isEmpty)=true:=by rw[C7 c];rfl
  wp_walk using O3 a
  rw[A5 (by rw[e];exact A8)]
  wp_walk using O3 a
  rw[A5 (by rw[f];exact A8),A4 i]
  wp_walk
  exact⟨_,rfl,h⟩
end PySem
namespace L2
open PySem PySem.Spec PyProof.Rows
def UH(K:Fg):R2:=λx y H Q=>∃(l:Uc)(vs:Tc)(i:Int),x=.ref l/\y=.int i/\SqT K H l vs/\vs≠[]/\i<=0/\-(2 ^ 62)<i/\∀p,H p=Y->Q (.ref p) (upd H p (.tup []))
def aFi:OpR X (binaryOp .Mult) (UH X.K):=by
 intro bq s w H x y u v Q I f g h;obtain⟨l,vs,i,rfl,rfl,j,c,k,m,q⟩:=h;cases (show u=Value.ref l from f);obtain⟨t,rfl⟩:=(show ∃t,v=Value.int i t from g);obtain⟨its,p,⟨⟨oc,od,A,osl⟩,n,e,d,B,C⟩,hs⟩:=I.tuple j;dsimp only at e;subst e;have a:its≠[]:=λz=>c<|p.nil_iff.mp z;have r:its.toArray.isEmpty=false:=by cases its with|nil=>exact absurd rfl a|cons _ _=>rfl
 refine wpAny_binaryOp_repeat_ref (T:="tuple") (U:="int") (by decide) ⟨_,n,rfl⟩ (λs'=>typeIs_int s' i t) nY F.fills_int_mul F.slot_int_rmul xF F.slot_int_index.lookup
  (Y3 F.slot_int_rmul (typeIs_int s i t) F.entry_int_rmul (F.args_int_rmul_2 _ _) (sU i t l its.toArray d od osl)
   ⟨n,rfl,⟨_,n,rfl⟩,Y3 F.slot_tuple_mul ⟨_,n,rfl⟩ F.entry_tuple_mul (F.args_tuple_mul_2 _ _)
    (UQ l its.toArray d od osl i t r k m)
    ⟨n,?_⟩⟩)
 exact⟨.ref s.heap.objs.size,_,I.laid (t':=s.toks) (o:=.tup []) (λb ob q=>A3 _ q) (A7 _) ⟨E6 _,[],.nil,IsTup.new _ _⟩,rfl,q _<|I.hok.fresh<|A7 _⟩
def aDJ:F2:=λx y M=>match x,y with
 |.d (.tuple a),.d (.int i)=>if a≠[]/\i<=0/\-(2 ^ 62)<i then Z (.d (.tuple []),M)else Y
 |_,_=>Y
section
variable{K:Fg}
def aEF:P2 K (UH K) aDJ:=by
 intro x y M z M' h W H v u Q G b c k;unfold aDJ at h;split at h
 .rename_i d i;by_cases a:d≠[]/\i<=0/\-(2 ^ 62)<i
  .rw[A4 a]at h;cases h;obtain⟨e,f,g⟩:=a;obtain⟨p,vs,rfl,j,m⟩:=b;have ln:=aM.len m;refine⟨p,vs,i,rfl,c,G.fh.seqT j,λz=>e<|List.length_eq_zero_iff.mp (by rw[<- ln,z];rfl),f,g,λl n=>?_⟩;obtain⟨q,G2⟩:=G.lay (o:=.tup []) n;exact k _ _ _ q G2 ⟨l,_,rfl,SqT.of aS,rfl⟩
  .rw[A5 a]at h;cases h
 .cases h
def DB:F2:=yF aBt aDJ
def aFq{ι:Type}{X:ι->Cx}(a:∀i,(X i).K=K):Q2 K X (binaryOp .Mult) DB:=⟨_,λi=>OpR.or (show OpR (X i) (binaryOp .Mult) (aBS K)by have:=aGY (X:=X i);rw[a i]at this;exact this) (show OpR (X i) (binaryOp .Mult) (UH K)by have:=aFi (X:=X i);rw[a i]at this;exact this),P2.or aFX aEF⟩
end
end L2
section
noncomputable section
namespace Q71
open PySem PySem.Spec PyProof.Rows L2
noncomputable def top(i:Nat):Stmt:=PySem.Challenge.pw_cutstree_k71_whole_text_there_and_back.main.body.getD i (.Pass ⟨0,0,0,0⟩)
def ar1{a:Type}{P:Tv a->Prop}{us:Tv a}(d:us.length=1)(h:∀b,P [b]):P us:=by
 obtain _|⟨b,_|⟨c,r⟩⟩:=us<;>first|exact h _|cases d
def ar2{a:Type}{P:Tv a->Prop}{us:Tv a}(e:us.length=2)(h:∀b d,P [b,d]):P us:=by
 obtain _|⟨b,_|⟨d,_|⟨c,r⟩⟩⟩:=us<;>first|exact h _ _|cases e
def ar3{a:Type}{P:Tv a->Prop}{us:Tv a}(f:us.length=3)(h:∀b d e,P [b,d,e]):P us:=by
 obtain _|⟨b,_|⟨d,_|⟨e,_|⟨c,r⟩⟩⟩⟩:=us<;>first|exact h _ _ _|cases f
set_option hygiene false
local macro_rules | `(tactic| sleep 990) => `(tactic| exact ⟨rfl, rfl, rfl, by decide +kernel, rfl, by decide +kernel, by decide +kernel⟩)
local macro_rules | `(tactic| sleep 988) => `(tactic| (intro _; exact T.hB.of _))
local macro_rules | `(tactic| sleep 989) => `(tactic| (intro _; dsimp only [mL, cO]; decide +kernel))
local macro_rules | `(tactic| sleep 987) => `(tactic| (intro _; exact WC rfl rfl (by kernel_rfl)))
local macro_rules | `(tactic| sleep 991) => `(tactic| (intro _ _ _ _ _ _ _ hl; apply ar1 hl; intros; rfl))
local macro_rules | `(tactic| sleep 992) => `(tactic| (intro _ _ _ _ _ _ _ hl; apply ar2 hl; intros; rfl))
local macro_rules | `(tactic| sleep 993) => `(tactic| (intro _ _ _ _ _ _ _ hl; apply ar3 hl; intros; rfl))
set_option hygiene true
abbrev pF:Stmt:=top 50
noncomputable abbrev AN:Tb:=["_law_script","_law_many","_law_row","_law_odd","_law_deck_here","_law_k","_law_at","_law_one"]
noncomputable abbrev sE:Tb:=["_law_script","_law_many"]
def sc__law_deck:aU AN sE (aI pF):=by sleep 990
def tW:EF:=(dP<|aA (fC (.int 48271))<|aA (fC (.int 69621))<|aA (fC (.int 39373))<|aA (fC (.int 40692)) aF)
def BY(γ:Ga)(M:Sto):tW γ M=Z (.d (.list [(.int 48271),(.int 69621),(.int 39373),(.int 40692)]),M):=rfl
def eS:SF:=(bF (aZ (fOp bB (aB 5)<|aL iA<|aA (aB 2) aF)<|br 6)
 (bF (aZ (fOp bB (fOp ixF (aB 2)<|aB 6)<|fC (.int 1000000))<|br 7)
 (bF (sIf (gB<|fOp (eqX false) (aB 3)<|fC (.int 0))
  (bF (aZ (fOp bB (fOp bY (fOp bY (fOp ixF (aB 2)<|aB 6)<|fOp mR (fOp mR (aB 5)<|aB 5)<|fC (.int 16807))<|fOp mR (fC (.int 3))<|aB 5)<|fC (.int 2147483629))<|br 7)
 (bF (aZ (fOp bB (fOp bY (fOp mR (aB 7)<|fOp ixF tW<|fOp bB (aB 5)<|fC (.int 4))<|fC (.int 7))<|fC (.int 2147483647))<|br 7)
 (aZ (fOp bB (fOp mR (aB 7) (aB 7)) (fC (.int 2147483629))) (br 7))))
  (aZ (fOp bR (fOp ixF (aB 2) (aB 6)) (fC (.int 1000000))) (hSub (aB 2) (aB 6) tK)))
 (tX (aX "list" iU (aB 4) (aA (aB 7) aF))))))
def mC:SF:=(bF (aZ (aL GZ<|aA (aB 0) aF)<|br 2)
 (bF (sIf (gB<|fOp (eqY false) (aB 2)<|dP aF)
  (aZ (yN<|aA (fC (.int 4)) aF)<|br 2)
  cV)
 (bF (aZ (fOp bB (fOp ixF (aB 2)<|fC (.int 0))<|fC (.int 2))<|br 3)
 (bF (aZ (fOp bR (fOp ixF (aB 2)<|fC (.int 0))<|fC (.int 2))<|hSub (aB 2) (fC (.int 0)) tK)
 (bF (aZ (yN aF)<|br 4)
 (bF (xO (fA<|aA (aB 1) aF) (br 5) eS)
 (bF (tX<|aX "list" kJ (aB 4) aF)
 (bP (aB 4)))))))))
def jD:FN:=fnF 2 8 mC
abbrev oJ:Stmt:=top 56
noncomputable abbrev zP:Tb:=["_law_deck_here","_law_many","_law_found","_law_turn","_law_draw","_law_i","_law_j","_law_some"]
noncomputable abbrev qR:Tb:=["_law_deck_here","_law_many"]
def sc__law_ties:aU zP qR (aI oJ):=by sleep 990
def uI:EF:=(dP<|aA (eF<|aA (fC (.int 1))<|aA (fC (.int 1)) aF)<|aA (eF<|aA (fC (.int 1))<|aA (fC (.int 2)) aF)<|aA (eF<|aA (fC (.int 3))<|aA (fC (.int 4)) aF)<|aA (eF<|aA (fOp wJ (fC (.int 10))<|fC (.int 12))<|aA (fC (.int 1)) aF)<|aA (eF<|aA (fC (.int 1))<|aA (fC (.int 55440)) aF)<|aA (eF<|aA (fC (.int 5))<|aA (fC (.int 12)) aF)<|aA (eF<|aA (fOp yW (fOp wJ (fC (.int 10))<|fC (.int 12))<|fC (.int 3))<|aA (fC (.int 7)) aF)<|aA (eF<|aA (fC (.int 0))<|aA (fC (.int 1)) aF) aF)
def DF(γ:Ga)(M:Sto):uI γ M=Z (.d (.list [(.tuple [(.int 1),(.int 1)]),(.tuple [(.int 1),(.int 2)]),(.tuple [(.int 3),(.int 4)]),(.tuple [(.int 1000000000000),(.int 1)]),(.tuple [(.int 1),(.int 55440)]),(.tuple [(.int 5),(.int 12)]),(.tuple [(.int 999999999997),(.int 7)]),(.tuple [(.int 0),(.int 1)])]),M):=rfl
def iX:SF:=(bF (aZ (aX "list" dU (aB 0) aF)<|br 4)
 (bF (aZ (fOp bB (aB 4)<|aB 1)<|br 5)
 (bF (aZ (fOp bB (fOp bR (aB 4)<|fC (.int 41))<|aB 1)<|br 6)
 (bF (aZ uI<|br 7)
 (sIf (gB<|fOp (eqX true) (aB 5)<|aB 6)
  (vK (aB 2) (BA<|aA (aL IY<|aA (aB 5)<|aA (aB 6) aF)<|aA (aL HE<|aA (aB 5)<|aA (aB 6) aF) aF)<|fOp ixF (fOp bY (aB 7)<|dP<|aA (eF<|aA (fOp bB (fOp bR (aB 4)<|fC (.int 9))<|fC (.int 99))<|aA (fC (.int 1)) aF) aF)<|fOp bB (fOp bR (aB 4)<|fC (.int 1700))<|fC (.int 9))
  cV)))))
def nD:EF:=(fLc [Z 2,Y] (bD<|aL rB<|aA (aB 2) aF) (br 1) eP<|fOp bY (aB 1)<|eF<|aA (JL (aB 0)<|aB 1) aF)
def rK:SF:=(bF (aZ yZ<|br 2)
 (bF (xO (fA<|aA (fOp bB (aX "list" dU (aB 0) aF)<|fC (.int 9)) aF) (br 3) iX)
 (bP nD)))
def jF:FN:=fnF 2 8 rK
abbrev mW:Stmt:=top 59
noncomputable abbrev wI:Tb:=["_law_deck_here","_law_draw","_law_found","_law_i"]
noncomputable abbrev pP:Tb:=["_law_deck_here"]
def sc__law_great:aU wI pP (aI mW):=by sleep 990
def lC:EF:=(dP<|aA (eF<|aA (fC (.int 1))<|aA (fC (.int 1)) aF)<|aA (eF<|aA (fC (.int 1))<|aA (fC (.int 2)) aF)<|aA (eF<|aA (fOp wJ (fC (.int 10))<|fC (.int 12))<|aA (fC (.int 1)) aF)<|aA (eF<|aA (fC (.int 13))<|aA (fC (.int 55440)) aF) aF)
def AZ(γ:Ga)(M:Sto):lC γ M=Z (.d (.list [(.tuple [(.int 1),(.int 1)]),(.tuple [(.int 1),(.int 2)]),(.tuple [(.int 1000000000000),(.int 1)]),(.tuple [(.int 13),(.int 55440)])]),M):=rfl
def kR:EF:=(fLc [Z 3,Y] (HI<|aA (fOp bY (aB 3)<|fC (.int 1))<|aA (fC (.int 40)) aF) (br 1) eP<|eF<|aA (aB 0)<|aA (aB 1)<|aA (fOp ixF lC<|fOp bB (fOp bY (aB 0)<|aB 1)<|fC (.int 4)) aF)
def qH:SF:=(aZ (fOp bY (aB 2) kR)<|br 2)
def lB:EF:=(fLc [Z 2,Z 1,Y] (fA<|aA (aL iA<|aA (aB 2) aF) aF) (br 2) (gB<|fOp (eqX false) (fOp bB (fOp bY (fOp mR (aB 2)<|fOp bY (fC (.int 1))<|fOp mR (fC (.int 2))<|fOp bB (aB 1)<|fC (.int 50))<|fOp bR (aB 1)<|fC (.int 50))<|fC (.int 4))<|fC (.int 0))<|fOp ixF (aB 0)<|aB 2)
def jX:SF:=(bF (aZ (aX "list" dU (aB 0) aF)<|br 1)
 (bF (aZ (dP aF)<|br 2)
 (bF (xO (fA<|aA (fC (.int 40)) aF) (br 3) qH)
 (bP lB))))
def fS:FN:=fnF 1 4 jX
abbrev sA:Stmt:=top 6
noncomputable abbrev CA:Tb:=["thing"]
noncomputable abbrev vA:Tb:=["thing"]
def QT:aU CA vA (aI sA):=by sleep 990
def FC:SF:=(bP<|qE (aEH "int"<|aB 0)<|aHb<|aEH "bool"<|aB 0)
def gS:FN:=fnF 1 1 FC
abbrev zB:Stmt:=top 7
noncomputable abbrev NW:Tb:=["thing"]
noncomputable abbrev CJ:Tb:=["thing"]
def aAO:aU NW CJ (aI zB):=by sleep 990
def OY:SF:=(bP<|VT "list" "tuple"<|aB 0)
def xD:FN:=fnF 1 1 OY
abbrev fM:Stmt:=inClass (top 3) 0
noncomputable abbrev tV:Tb:=["self","at"]
noncomputable abbrev nH:Tb:=["self","at"]
def FG:aU tV nH (aI fM):=by sleep 990
def uG:SF:=(UG "NoTie" "at" (aB 0)<|aB 1)
def mT:FN:=fnF 2 2 uG
abbrev xZ:Stmt:=top 19
noncomputable abbrev RN:Tb:=["one","other"]
noncomputable abbrev CU:Tb:=["one","other"]
def sc_common:aU RN CU (aI xZ):=by sleep 990
def uY:SF:=(vQ (vZ<|aB 1)<|GU 0 1<|aA (aB 1)<|aA (fOp bB (aB 0)<|aB 1) aF)
def QH:SF:=(bF uY
 (bP (aB 0)))
def rQ:FN:=fnF 2 2 QH
abbrev pM:Stmt:=top 8
noncomputable abbrev AE:Tb:=["thing","length"]
noncomputable abbrev rY:Tb:=["thing","length"]
def JG:aU AE rY (aI pM):=by sleep 990
def AB:SF:=(bP<|qE (aL xD<|aA (aB 0) aF)<|fOp (eqX false) (aL iA<|aA (aB 0) aF)<|aB 1)
def lL:FN:=fnF 2 2 AB
abbrev eW:Stmt:=top 18
noncomputable abbrev jA:Tb:=["thing"]
noncomputable abbrev fI:Tb:=["thing"]
def qF:aU jA fI (aI eW):=by sleep 990
def cR:SF:=(bF (sIf (gOr (qG<|gB<|aL lL<|aA (aB 0)<|aA (fC (.int 2)) aF)<|gOr (qG<|gB<|aL gS<|aA (fOp ixF (aB 0)<|fC (.int 0)) aF)<|qG<|gB<|aL gS<|aA (fOp ixF (aB 0)<|fC (.int 1)) aF)
 (bP<|fC (.bool false))
 cV)
 (bP (qE (fOp geI (fOp ixF (aB 0) (fC (.int 0))) (fC (.int 0))) (fOp geI (fOp ixF (aB 0) (fC (.int 1))) (fC (.int 1))))))
def bM:FN:=fnF 1 1 cR
abbrev lH:Stmt:=top 17
noncomputable abbrev uH:Tb:=["thing"]
noncomputable abbrev mS:Tb:=["thing"]
def DE:aU uH mS (aI lH):=by sleep 990
def eR:SF:=(bP<|qE (aL bM<|aA (aB 0) aF)<|qE (fOp (eqX false) (fOp bB (fC (.int 55440))<|fOp ixF (aB 0)<|fC (.int 1))<|fC (.int 0))<|fOp (eqX false) (aL rQ<|aA (fOp ixF (aB 0)<|fC (.int 0))<|aA (fOp ixF (aB 0)<|fC (.int 1)) aF)<|fC (.int 1))
def dD:FN:=fnF 1 1 eR
abbrev pZ:Stmt:=top 16
noncomputable abbrev zT:Tb:=["thing"]
noncomputable abbrev rJ:Tb:=["thing"]
def JZ:aU zT rJ (aI pZ):=by sleep 990
def jE:SF:=(bP<|qE (aL dD<|aA (aB 0) aF)<|fOp leI (fOp ixF (aB 0)<|fC (.int 0))<|fC (.int 1000000000000))
def fF:FN:=fnF 1 1 jE
abbrev rP:Stmt:=top 9
noncomputable abbrev EI:Tb:=["many","thing"]
noncomputable abbrev vO:Tb:=["many","thing"]
def OD:aU EI vO (aI rP):=by sleep 990
def oM:SF:=(bP<|qE (aL gS<|aA (aB 1) aF)<|pO leI ltI (fC (.int 0)) (aB 1)<|aB 0)
def iR:FN:=fnF 2 2 oM
abbrev fN:Stmt:=top 10
noncomputable abbrev jO:Tb:=["many","i","j"]
noncomputable abbrev fW:Tb:=["many","i","j"]
def rW:aU jO fW (aI fN):=by sleep 990
def dA:SF:=(bP<|qE (aL iR<|aA (aB 0)<|aA (aB 1) aF)<|qE (aL iR<|aA (aB 0)<|aA (aB 2) aF)<|fOp (eqX true) (aB 1)<|aB 2)
def cJ:FN:=fnF 3 3 dA
abbrev fO:Stmt:=top 11
noncomputable abbrev jQ:Tb:=["many","thing"]
noncomputable abbrev fU:Tb:=["many","thing"]
def qU:aU jQ fU (aI fO):=by sleep 990
def cZ:SF:=(bP<|qE (aL lL<|aA (aB 1)<|aA (fC (.int 3)) aF)<|qE (aL cJ<|aA (aB 0)<|aA (fOp ixF (aB 1)<|fC (.int 0))<|aA (fOp ixF (aB 1)<|fC (.int 1)) aF)<|fOp ltI (fOp ixF (aB 1)<|fC (.int 0))<|fOp ixF (aB 1)<|fC (.int 1))
def bQ:FN:=fnF 2 2 cZ
abbrev yD:Stmt:=top 24
noncomputable abbrev NM:Tb:=["many","thing"]
noncomputable abbrev FE:Tb:=["many","thing"]
def ZG:aU NM FE (aI yD):=by sleep 990
def nP:SF:=(bP<|qE (aL bQ<|aA (aB 0)<|aA (aB 1) aF)<|aL fF<|aA (fOp ixF (aB 1)<|fC (.int 2)) aF)
def kP:FN:=fnF 2 2 nP
abbrev pY:Stmt:=top 23
noncomputable abbrev AC:Tb:=["many","ties","weights","at","row"]
noncomputable abbrev sW:Tb:=["many","ties"]
def sc_kept_ties:aU AC sW (aI pY):=by sleep 990
def gF:SFX:=(tU (ZV (gOr (qG<|gB<|aL kP<|aA (aB 0)<|aA (aB 4) aF)<|gB<|aGh false (BA<|aA (fOp ixF (aB 4)<|fC (.int 0))<|aA (fOp ixF (aB 4)<|fC (.int 1)) aF)<|aB 2)
 (BO "NoTie" mT<|aA (aB 3) aF)
 (liS cV))
 (liS (vK (aB 2) (BA (aA (fOp ixF (aB 4) (fC (.int 0))) (aA (fOp ixF (aB 4) (fC (.int 1))) aF))) (aL cH (aA (fOp ixF (aB 4) (fC (.int 2))) aF)))))
def mX:EF:=(fLc [Y,Y,Y] (bD<|zH<|aB 2) (iG 2<|bC (iG 2<|bC (br 0)<|bC (br 1) gG)<|bC (br 2) gG) (gB<|fOp gtI (fOp ixF (aB 2)<|fC (.int 0))<|fC (.int 0))<|eF<|aA (aB 0)<|aA (aB 1)<|aA (aB 2) aF)
def qO:SFX:=(tU (ZV (qG<|gB<|aL xD<|aA (aB 1) aF)
 (BO "NoTie" mT<|aA (fC (.int 0)) aF)
 (liS cV))
 (tU (liS<|aZ yZ<|br 2)
 (tU (WZ (zL<|aA (aB 1) aF) (iG 2<|bC (br 3)<|bC (br 4) gG) gF)
 (liS (bP (aL cH (aA mX aF)))))))
def jC:FX:=fnX 2 5 qO
abbrev iH:Stmt:=inClass (top 22) 0
noncomputable abbrev AO:Tb:=["self","many","ties"]
noncomputable abbrev rC:Tb:=["self","many","ties"]
def KM:aU AO rC (aI iH):=by sleep 990
def nL:EF:=(fDc (.dt []) [Y,Y,Y] (bD<|kW "Web" "ties"<|aB 0) (iG 3<|bC (br 0)<|bC (br 1)<|bC (br 2) gG) eP (BA<|aA (aB 0)<|aA (aB 1) aF)<|aB 2)
def sT:SFX:=(tU (ZV (gOr (qG<|gB<|aL gS<|aA (aB 1) aF)<|gOr (gB<|fOp ltI (aB 1)<|fC (.int 1))<|gB<|fOp gtI (aB 1)<|fC (.int 40))
 (JK "NoPlace")
 (liS cV))
 (tU (liS<|OJ "Web" "many" (aB 0)<|aB 1)
 (tU (XT "Web" "ties" (aB 0)<|YO jC<|liA<|aA (aB 1)<|aA (aB 2) aF)
 (liS (OJ "Web" "weights" (aB 0) nL)))))
def fP:FX:=fnX 3 3 sT
abbrev vG:Stmt:=top 43
noncomputable abbrev IJ:Tb:=["lines"]
noncomputable abbrev yO:Tb:=["lines"]
def UA:aU IJ yO (aI vG):=by sleep 990
def mE:EF:=(fLc [Y] (bD<|aB 0) (br 0) eP<|fOp xQ (aB 0)<|fC (.str "\n"))
def yJ:SF:=(bP<|aX "str" kM (fC (.str ""))<|aA mE aF)
def gX:FN:=fnF 1 1 yJ
abbrev kZ:Stmt:=top 33
noncomputable abbrev tY:Tb:=["amount","above","below"]
noncomputable abbrev mU:Tb:=["amount"]
def sc_amount_text:aU tY mU (aI kZ):=by sleep 990
def iY:SF:=(bF (aZ (aB 0)<|iG 2<|bC (br 1)<|bC (br 2) gG)
 (bP (fIf (gB (fOp (eqX false) (aB 2) (fC (.int 1)))) (aL zJ (aA (aB 1) aF)) (jT (gV (vT (aB 1)) (gV (fC (.str "/")) (gV (vT (aB 2)) JJ)))))))
def gH:FN:=fnF 1 3 iY
abbrev sC:Stmt:=top 44
noncomputable abbrev CL:Tb:=["name","row","i","j","amount"]
noncomputable abbrev uX:Tb:=["name","row"]
def sc_row_line:aU CL uX (aI sC):=by sleep 990
def uZ:SF:=(bF (aZ (aB 1)<|iG 3<|bC (br 2)<|bC (br 3)<|bC (br 4) gG)
 (bP (jT (gV (vT (aB 0)) (gV (fC (.str " ")) (gV (vT (aB 2)) (gV (fC (.str " ")) (gV (vT (aB 3)) (gV (fC (.str " ")) (gV (vT (aL gH (aA (aB 4) aF))) JJ))))))))))
def gM:FN:=fnF 2 5 uZ
abbrev sD:Stmt:=top 35
noncomputable abbrev CI:Tb:=["web"]
noncomputable abbrev uM:Tb:=["web"]
def QD:aU CI uM (aI sD):=by sleep 990
def pR:EF:=(fLc [Y] (bD<|kW "Web" "ties"<|aB 0) (br 0) eP<|aL gM<|aA (fC (.str "tie"))<|aA (aB 0) aF)
def oA:SF:=(bP<|aL gX<|aA (fOp bY (dP<|aA (jT<|gV (fC (.str "places "))<|gV (vT<|kW "Web" "many"<|aB 0) JJ) aF) pR) aF)
def dO:FN:=fnF 1 1 oA
abbrev nA:Stmt:=top 58
noncomputable abbrev wQ:Tb:=["_law_deck_here","_law_text","_law_lines","_law_at","_law_draw"]
noncomputable abbrev oF:Tb:=["_law_deck_here","_law_text"]
def sc__law_loose:aU wQ oF (aI nA):=by sleep 990
def fH:SF:=(bF (aZ (aX "list" dU (aB 0) aF)<|br 4)
 (bF (aZ (fOp xQ (fOp GM (fC (.str " "))<|fOp bB (aB 4)<|fC (.int 3))<|zU " " " " (fOp ixF (aB 2)<|aB 3)<|fOp bY (fC (.int 1))<|fOp bB (fOp bR (aB 4)<|fC (.int 3))<|fC (.int 3))<|hSub (aB 2) (aB 3) tK)
 (sIf (gB<|fOp (eqX false) (fOp bB (fOp bR (aB 4)<|fC (.int 9))<|fC (.int 4))<|fC (.int 0))
  (aZ (fOp xQ (fC (.str " \n"))<|fOp ixF (aB 2)<|aB 3)<|hSub (aB 2) (aB 3) tK)
  cV)))
def kB:SF:=(bF (aZ (aX "str" DJ (aB 1)<|aA (fC (.str "\n")) aF)<|br 2)
 (bF (xO (fA<|aA (aL iA<|aA (aB 2) aF) aF) (br 3) fH)
 (bP (aX "str" kM (fC (.str "\n")) (aA (sY (aB 2)) aF)))))
def cF:FN:=fnF 2 5 kB
abbrev nF:Stmt:=top 29
noncomputable abbrev wA:Tb:=["text","lines"]
noncomputable abbrev oZ:Tb:=["text"]
def sc_said_lines:aU wA oZ (aI nF):=by sleep 990
def kL:EF:=(fLc [Y] (bD<|aX "str" iM (aB 0)<|aA (fC (.str " ")) aF) (br 0) (lQ<|aB 0)<|aB 0)
def iC:EF:=(fLc [Y] (bD<|aX "str" iM (aB 0)<|aA (fC (.str "\n")) aF) (br 0) eP kL)
def kQ:EF:=(fLc [Y,Y] (zL<|aA (aB 1) aF) (iG 2<|bC (br 0)<|bC (br 1) gG) (vZ<|aB 1)<|eF<|aA (aB 0)<|aA (aB 1) aF)
def jU:SF:=(bF (aZ iC<|br 1)
 (bP kQ))
def cQ:FN:=fnF 1 2 jU
abbrev pB:Stmt:=top 31
noncomputable abbrev zV:Tb:=["word","most_digits"]
noncomputable abbrev rA:Tb:=["word","most_digits"]
def MV:aU zV rA (aI pB):=by sleep 990
def fZ:EF:=(fLc [Y] (EA<|aB 0) (br 0) eP<|fOp (inS false) (aB 0)<|fC (.str "0123456789"))
def lP:SF:=(bF (sIf (gOr (qG<|gB<|pO ltI leI (fC (.int 0)) (aL RO<|aA (aB 0) aF)<|aB 1)<|qG<|gB<|aL GE<|aA fZ aF)
 (bP<|fC .none)
 cV)
 (bP (fIf (gOr (gB (fOp (eqX false) (aB 0) (fC (.str "0")))) (gB (fOp (eqX true) (fOp ixS (aB 0) (fC (.int 0))) (fC (.str "0"))))) (aL VO (aA (aB 0) aF)) (fC .none))))
def cL:FN:=fnF 2 2 lP
abbrev qW:Stmt:=top 30
noncomputable abbrev FV:Tb:=["word"]
noncomputable abbrev vN:Tb:=["word"]
def QO:aU FV vN (aI qW):=by sleep 990
def oB:SF:=(bP<|aL cL<|aA (aB 0)<|aA (fC (.int 2)) aF)
def bZ:FN:=fnF 1 1 oB
abbrev vD:Stmt:=top 46
noncomputable abbrev JB:Tb:=["words","many"]
noncomputable abbrev yS:Tb:=["words"]
def sc_many_in:aU JB yS (aI vD):=by sleep 990
def sZ:SF:=(bF (aZ (fIf (yE (gB<|fOp (eqX false) (aL iA<|aA (aB 0) aF)<|fC (.int 2))<|gB<|fOp (eqX false) (fOp ixF (aB 0)<|fC (.int 0))<|fC (.str "places")) (aL bZ<|aA (fOp ixF (aB 0)<|fC (.int 1)) aF)<|fC .none)<|br 1)
 (bP (fIf (yE (gB (fOp (AS true) (aB 1) (fC .none))) (gB (pO leI leI (fC (.int 1)) (aB 1) (fC (.int 40))))) (aB 1) (fC .none))))
def nV:FN:=fnF 1 2 sZ
abbrev pU:Stmt:=top 15
noncomputable abbrev AH:Tb:=["thing"]
noncomputable abbrev qN:Tb:=["thing"]
def KW:aU AH qN (aI pU):=by sleep 990
def lM:SF:=(bP<|qE (aL bM<|aA (aB 0) aF)<|fOp (eqX false) (aL rQ<|aA (fOp ixF (aB 0)<|fC (.int 0))<|aA (fOp ixF (aB 0)<|fC (.int 1)) aF)<|fC (.int 1))
def gZ:FN:=fnF 1 1 lM
abbrev oG:Stmt:=top 32
noncomputable abbrev AL:Tb:=["word","above","slash","below","amount"]
noncomputable abbrev sN:Tb:=["word"]
def sc_amount_of:aU AL sN (aI oG):=by sleep 990
def lO:SF:=(bF (aZ (aX "str" BX (aB 0)<|aA (fC (.str "/")) aF)<|iG 3<|bC (br 1)<|bC (br 2)<|bC (br 3) gG)
 (bF (sIf (yE (lQ<|aB 2)<|gB<|fOp (eqX false) (aB 3)<|fC (.str "1"))
  (bP<|fC .none)
  cV)
 (bF (aZ (eF<|aA (aL cL<|aA (aB 1)<|aA (fC (.int 30)) aF)<|aA (fIf (lQ<|aB 2) (aL cL<|aA (aB 3)<|aA (fC (.int 30)) aF)<|fC (.int 1)) aF)<|br 4)
 (bP (fIf (gB (aL gZ (aA (aB 4) aF))) (aB 4) (fC .none))))))
def fK:FN:=fnF 1 5 lO
abbrev yR:Stmt:=top 47
noncomputable abbrev PY:Tb:=["words","name","row"]
noncomputable abbrev DY:Tb:=["words","name"]
def sc_row_in:aU PY DY (aI yR):=by sleep 990
def wM:SF:=(bF (sIf (gOr (gB<|fOp (eqX true) (aL iA<|aA (aB 0) aF)<|fC (.int 4))<|gB<|fOp (eqX true) (fOp ixF (aB 0)<|fC (.int 0))<|aB 1)
 (bP<|fC .none)
 cV)
 (bF (aZ (eF<|aA (aL bZ<|aA (fOp ixF (aB 0)<|fC (.int 1)) aF)<|aA (aL bZ<|aA (fOp ixF (aB 0)<|fC (.int 2)) aF)<|aA (aL fK<|aA (fOp ixF (aB 0)<|fC (.int 3)) aF) aF)<|br 2)
 (bP (fIf (gB (fOp (inD false) (fC .none) (aB 2))) (fC .none) (aB 2)))))
def gC:FN:=fnF 2 3 wM
abbrev rV:Stmt:=top 39
noncomputable abbrev EU:Tb:=["text","lines","many","wrong"]
noncomputable abbrev uS:Tb:=["text"]
def sc_read_web:aU EU uS (aI rV):=by sleep 990
def jR:EF:=(fLc [Y,Y] (bD<|fSl (aB 1) (dX<|fC (.int 1)) cW) (iG 2<|bC (br 0)<|bC (br 1) gG) eP<|aL gC<|aA (aB 1)<|aA (fC (.str "tie")) aF)
def LB:SF:=vF
def pA:SFX:=(PF<|RI "Web" fP<|aA (aB 2)<|aA jR aF)
def oO:SF:=(bF (aZ (aL cQ<|aA (aB 0) aF)<|br 1)
 (bF (sIf (qG<|vZ<|aB 1)
  vF
  cV)
 (bF (aZ (aL nV<|aA (fOp ixF (fOp ixF (aB 1)<|fC (.int 0))<|fC (.int 1)) aF)<|br 2)
 (bF (sIf (gB<|fOp (AS false) (aB 2)<|fC .none)
  vF
  cV)
 (aCx pA [⟨[("NoTie",true),("NoPlace",false)],(Z 3),LB⟩])))))
def eC:FN:=fnF 1 4 oO
abbrev lF:Stmt:=top 51
noncomputable abbrev tP:Tb:=["_law_above","_law_below","_law_one","_law_other"]
noncomputable abbrev mQ:Tb:=["_law_above","_law_below"]
def sc__law_lowest:aU tP mQ (aI lF):=by sleep 990
def qD:SF:=(vQ (gB<|fOp gtI (aB 3)<|fC (.int 0))<|GU 2 3<|aA (aB 3)<|aA (fOp bB (aB 2)<|aB 3) aF)
def mY:SF:=(bF (GU 2 3<|aA (aB 0)<|aA (aB 1) aF)
 (bF qD
 (bP (eF (aA (fOp bR (aB 0) (aB 2)) (aA (fOp bR (aB 1) (aB 2)) aF))))))
def iT:FN:=fnF 2 4 mY
abbrev rS:Stmt:=top 53
noncomputable abbrev EM:Tb:=["_law_deck_here","_law_draw","_law_more","_law_top","_law_low"]
noncomputable abbrev uU:Tb:=["_law_deck_here"]
def sc__law_any:aU EM uU (aI rS):=by sleep 990
def vR:SF:=(bF (aZ (aX "list" dU (aB 0) aF)<|br 1)
 (bF (aZ (aX "list" dU (aB 0) aF)<|br 2)
 (bF (aZ (fOp ixF (dP<|aA (fOp bB (fOp bR (aB 1)<|fC (.int 7))<|fC (.int 10))<|aA (fOp bB (fOp bR (aB 1)<|fC (.int 7))<|fC (.int 1000))<|aA (fOp yW (fOp yW (fOp wJ (fC (.int 10))<|fC (.int 30))<|fC (.int 1))<|fOp bB (fOp bR (aB 1)<|fC (.int 7))<|fC (.int 50))<|aA (fOp bY (fOp mR (aB 1)<|fOp wJ (fC (.int 10))<|fC (.int 12))<|aB 2) aF)<|fOp bB (aB 1)<|fC (.int 4))<|br 3)
 (bF (aZ (fOp ixF (dP<|aA (fC (.int 1))<|aA (fC (.int 1))<|aA (fOp bY (fC (.int 1))<|fOp bB (fOp bR (aB 2)<|fC (.int 5))<|fC (.int 40))<|aA (fC (.int 55440))<|aA (fOp yW (fOp yW (fOp wJ (fC (.int 10))<|fC (.int 30))<|fC (.int 1))<|fOp bB (fOp bR (aB 2)<|fC (.int 5))<|fC (.int 30))<|aA (fOp bY (fC (.int 1))<|aB 2) aF)<|fOp bB (aB 2)<|fC (.int 6))<|br 4)
 (bP (aL iT (aA (aB 3) (aA (aB 4) aF))))))))
def oI:FN:=fnF 1 5 vR
abbrev nE:Stmt:=top 54
noncomputable abbrev xB:Tb:=["_law_deck_here","_law_many","_law_found","_law_k","_law_draw"]
noncomputable abbrev pC:Tb:=["_law_deck_here","_law_many"]
def sc__law_drawn:aU xB pC (aI nE):=by sleep 990
def iI:SF:=(bF (aZ (aX "list" dU (aB 0) aF)<|br 4)
 (tX (aX "list" iU (aB 2) (aA (eF (aA (fOp bB (aB 4) (fC (.int 100))) (aA (fOp ixF (dP (aA (fOp bB (fOp bR (aB 4) (fC (.int 100))) (fC (.int 100))) (aA (fOp bB (fOp bR (aB 4) (fC (.int 100))) (fC (.int 10))) aF))) (fOp bB (aB 3) (fC (.int 2)))) (aA (aL oI (aA (aB 0) aF)) aF)))) aF))))
def pV:SF:=(bF (aZ (yN aF)<|br 2)
 (bF (xO (fA<|aA (aB 1) aF) (br 3) iI)
 (bP (aB 2))))
def iB:FN:=fnF 2 5 pV
abbrev kT:Stmt:=top 55
noncomputable abbrev uC:Tb:=["_law_deck_here","_law_many","_law_found","_law_k","_law_draw"]
noncomputable abbrev nG:Tb:=["_law_deck_here","_law_many"]
def sc__law_places:aU uC nG (aI kT):=by sleep 990
def gK:EF:=(dP<|aA (fC (.int 100))<|aA (fC (.int 10))<|aA (fC (.int 40)) aF)
def yH(γ:Ga)(M:Sto):gK γ M=Z (.d (.list [(.int 100),(.int 10),(.int 40)]),M):=rfl
def jJ:EF:=(fLc [Z 0,Z 4,Y] (fA<|aA (fOp bY (fC (.int 1))<|fOp bB (aB 4)<|fC (.int 6)) aF) (br 2) eP<|fOp bB (aX "list" dU (aB 0) aF)<|fOp ixF gK<|fOp bB (fOp bR (aB 1)<|fC (.int 9))<|fC (.int 3))
def gJ:SF:=(bF (aZ (aX "list" dU (aB 0) aF)<|br 4)
 (tX (aX "list" iU (aB 2) (aA (aL cH (aA jJ aF)) aF))))
def nJ:SF:=(bF (aZ (yN aF)<|br 2)
 (bF (xO (fA<|aA (aB 1) aF) (br 3) gJ)
 (bP (aB 2))))
def eT:FN:=fnF 2 5 nJ
abbrev pG:Stmt:=top 45
noncomputable abbrev AQ:Tb:=["lines","at","row"]
noncomputable abbrev rZ:Tb:=["lines"]
def sc_read_rows:aU AQ rZ (aI pG):=by sleep 990
def iZ:SF:=(sIf (gB<|fOp (AS false) (aB 2)<|fC .none)
 vF
 cV)
def mV:EF:=(fLc [Y,Y] (bD<|aB 0) (iG 2<|bC (br 0)<|bC (br 1) gG) eP<|aB 1)
def lX:SF:=(bF (xO (bD<|aB 0) (iG 2<|bC (br 1)<|bC (br 2) gG) iZ)
 (bP (aL cH (aA mV aF))))
def dY:FN:=fnF 1 3 lX
abbrev uT:Stmt:=top 48
noncomputable abbrev HG:Tb:=["words","side"]
noncomputable abbrev yM:Tb:=["words"]
def sc_side_in:aU HG yM (aI uT):=by sleep 990
def lU:EF:=(fLc [Y] (bD<|fSl (aB 0) (dX<|fC (.int 1)) cW) (br 0) eP<|aL bZ<|aA (aB 0) aF)
def tG:SF:=(bF (sIf (gOr (gB<|fOp ltI (aL iA<|aA (aB 0) aF)<|fC (.int 2))<|gB<|fOp (eqX true) (fOp ixF (aB 0)<|fC (.int 0))<|fC (.str "side"))
 (bP<|fC .none)
 cV)
 (bF (aZ (aL cH<|aA lU aF)<|br 1)
 (bP (fIf (gB (fOp (inD false) (fC .none) (aB 1))) (fC .none) (aB 1)))))
def kF:FN:=fnF 1 2 tG
abbrev nM:Stmt:=top 42
noncomputable abbrev xS:Tb:=["text"]
noncomputable abbrev pJ:Tb:=["text"]
def GN:aU xS pJ (aI nM):=by sleep 990
def sS:EF:=(fLc [Y,Y] (bD<|aL cQ<|aA (aB 0) aF) (iG 2<|bC (br 0)<|bC (br 1) gG) eP<|eF<|aA (aB 0)<|aA (aL kF<|aA (aB 1) aF) aF)
def jZ:SF:=(bP<|aL dY<|aA sS aF)
def cG:FN:=fnF 1 1 jZ
abbrev mP:Stmt:=top 38
noncomputable abbrev wU:Tb:=["sides"]
noncomputable abbrev oY:Tb:=["sides"]
def FW:aU wU oY (aI mP):=by sleep 990
def sL:EF:=(dP<|aA (fC (.str "side")) aF)
def BB(γ:Ga)(M:Sto):sL γ M=Z (.d (.list [(.str "side")]),M):=rfl
def EL:EF:=(fLc [Y] (bD<|aB 0) (br 0) eP<|aL zJ<|aA (aB 0) aF)
def kI:EF:=(fLc [Y] (bD<|aB 0) (br 0) eP<|aX "str" kM (fC (.str " "))<|aA (fOp bY sL EL) aF)
def oW:SF:=(bP<|aL gX<|aA kI aF)
def dB:FN:=fnF 1 1 oW
abbrev oX:Stmt:=top 41
noncomputable abbrev AI:Tb:=["text"]
noncomputable abbrev rR:Tb:=["text"]
def KL:aU AI rR (aI oX):=by sleep 990
def tT:EF:=(fLc [Y,Y] (bD<|aL cQ<|aA (aB 0) aF) (iG 2<|bC (br 0)<|bC (br 1) gG) eP<|eF<|aA (aB 0)<|aA (aL gC<|aA (aB 1)<|aA (fC (.str "flow")) aF) aF)
def mI:SF:=(bP<|aL dY<|aA tT aF)
def cS:FN:=fnF 1 1 mI
abbrev pK:Stmt:=top 37
noncomputable abbrev AM:Tb:=["flow"]
noncomputable abbrev qX:Tb:=["flow"]
def KO:aU AM qX (aI pK):=by sleep 990
def tZ:EF:=(fLc [Y] (bD<|aB 0) (br 0) eP<|aL gM<|aA (fC (.str "flow"))<|aA (aB 0) aF)
def sQ:SF:=(bP<|aL gX<|aA tZ aF)
def eA:FN:=fnF 1 1 sQ
abbrev oV:Stmt:=top 40
noncomputable abbrev zS:Tb:=["text"]
noncomputable abbrev qL:Tb:=["text"]
def KU:aU zS qL (aI oV):=by sleep 990
def uA:EF:=(fLc [Y,Y] (bD<|aL cQ<|aA (aB 0) aF) (iG 2<|bC (br 0)<|bC (br 1) gG) eP<|eF<|aA (aB 0)<|aA (aL gC<|aA (aB 1)<|aA (fC (.str "branch")) aF) aF)
def lV:SF:=(bP<|aL dY<|aA uA aF)
def cU:FN:=fnF 1 1 lV
abbrev pN:Stmt:=top 36
noncomputable abbrev zO:Tb:=["tree"]
noncomputable abbrev rF:Tb:=["tree"]
def JX:aU zO rF (aI pN):=by sleep 990
def uJ:EF:=(fLc [Y] (bD<|aB 0) (br 0) eP<|aL gM<|aA (fC (.str "branch"))<|aA (aB 0) aF)
def qI:SF:=(bP<|aL gX<|aA uJ aF)
def eB:FN:=fnF 1 1 qI
abbrev RT:Stmt:=top 60
noncomputable abbrev aJc:Tb:=["_law_script","_law_deck_here","_law_many","_law_great_here","_law_ties_here","_law_web","_law_text","_law_one","_law_found","_law_turned","_law_rows","_law_sides","_law_some","_law_tell","_law_take","_law_handed"]
noncomputable abbrev aIk:Tb:=["_law_script"]
def sc_law:aU aJc aIk (aI RT):=by sleep 990
def tH:SF:=(bF (aZ (aL eC<|aA (aB 7) aF)<|br 8)
 (sIf (gOr (gB<|fOp (eqX true) (eF<|aA (kW "Web" "many"<|aB 8)<|aA (kW "Web" "ties"<|aB 8) aF)<|eF<|aA (kW "Web" "many"<|aB 5)<|aA (kW "Web" "ties"<|aB 5) aF)<|gB<|fOp (eqX true) (aL dO<|aA (aB 8) aF)<|aB 6)
  (bP<|fC (.bool false))
  cV))
def pX:SF:=(bF (aZ (kO 13 [("show_tree",eB),("show_flow",eA),("show_sides",dB)]<|aA (aB 15) aF)<|br 6)
 (sIf (gOr (gB<|fOp (eqX true) (kO 14 [("read_tree",cU),("read_flow",cS),("read_sides",cG)]<|aA (aB 6) aF)<|aB 15)<|gOr (gB<|fOp (eqX true) (kO 14 [("read_tree",cU),("read_flow",cS),("read_sides",cG)]<|aA (aL cF<|aA (aB 1)<|aA (aB 6) aF) aF)<|aB 15)<|gB<|fOp (eqX true) (kO 13 [("show_tree",eB),("show_flow",eA),("show_sides",dB)]<|aA (kO 14 [("read_tree",cU),("read_flow",cS),("read_sides",cG)]<|aA (aB 6) aF) aF)<|aB 6)
  (bP<|fC (.bool false))
  cV))
def YL:SF:=(bF (aZ (aL jD<|aA (aB 0)<|aA (fC (.int 800)) aF)<|br 1)
 (bF (aZ (fOp ixF (dP<|aA (fC (.int 1))<|aA (fC (.int 2))<|aA (fC (.int 40))<|aA (fOp bY (fC (.int 2))<|fOp bB (aX "list" dU (aB 1) aF)<|fC (.int 30)) aF)<|fOp bB (aX "list" dU (aB 1) aF)<|fC (.int 4))<|br 2)
 (bF (aZ (fOp (eqX false) (fOp bB (aX "list" dU (aB 1) aF)<|fC (.int 4))<|fC (.int 0))<|br 3)
 (bF (aZ (aL jF<|aA (aB 1)<|aA (aB 2) aF)<|br 4)
 (bF (sIf (vZ<|aB 3)
  (bF (aZ (fC (.int 40))<|br 2)
 (aZ (aL fS (aA (aB 1) aF)) (br 4)))
  cV)
 (bF (aZ (CQ "Web" fP<|aA (aB 2)<|aA (aB 4) aF)<|br 5)
 (bF (aZ (aL dO<|aA (aB 5) aF)<|br 6)
 (bF (xO (bD<|dP<|aA (aB 6)<|aA (aL cF<|aA (aB 1)<|aA (aB 6) aF)<|aA (TX (aB 6) cW<|dX<|fUn vP<|fC (.int 1)) aF) (br 7) tH)
 (bF (aZ (fSl (aX "str" iM (aB 6)<|aA (fC (.str "\n")) aF) cW<|dX<|fUn vP<|fC (.int 1))<|br 9)
 (bF (sIf (gB<|fOp (eqX true) (aL dO<|aA (aL eC<|aA (aX "str" kM (fC (.str "\n"))<|aA (fOp bY (fSl (aB 9) cW<|dX<|fC (.int 1))<|DU (aB 9) (dX<|fC (.int 0))<|dX<|fUn vP<|fC (.int 1)) aF) aF) aF)<|aB 6)
  (bP<|fC (.bool false))
  cV)
 (bF (aZ (aL cH<|aA (aL iB<|aA (aB 1)<|aA (fOp ixF (dP<|aA (fOp bB (aX "list" dU (aB 1) aF)<|fC (.int 7))<|aA (fOp bY (fC (.int 30))<|fOp bB (aX "list" dU (aB 1) aF)<|fC (.int 31)) aF)<|aL FZ<|aA (aB 3) aF) aF) aF)<|br 10)
 (bF (aZ (fOp bY (aL cH<|aA (aL eT<|aA (aB 1)<|aA (fOp bB (aX "list" dU (aB 1) aF)<|fC (.int 6)) aF) aF)<|fOp DB (eF<|aA (rH<|aA (fC (.int 40)) aF) aF)<|fOp mR (fC (.int 20))<|aL FZ<|aA (aB 3) aF)<|br 11)
 (bF (aBN 12 3 (qA (aA (fG "show_tree")<|aA (fG "read_tree")<|aA (aB 10) aF)<|qA (aA (fG "show_flow")<|aA (fG "read_flow")<|aA (aB 10) aF)<|qA (aA (fG "show_sides")<|aA (fG "read_sides")<|aA (aB 11) aF) aCF) (bC (br 13)<|bC (br 14)<|bC (br 15) gG) pX)
 (bP (fC (.bool true))))))))))))))))
def F_law:FN:=fnF 1 16 YL
structure Txt(K:Fg)(mg:Str->Tf):Prop where
 hB:ZL mg ["all","bool","enumerate","int","isinstance","len","list","max","min","range","sorted","str","tuple"]
 v121:∃t:Tok,mg "MOST_ABOVE"=Z (.int 1000000000000 t)
 v122:∃t:Tok,mg "BELOW"=Z (.int 55440 t)
 v123:∃t:Tok,mg "MOST_PLACES"=Z (.int 40 t)
 v124:∃t:Tok,mg "DIGITS"=Z (.str "0123456789" t)
 v125:∃t:Tok,mg "MOST_PLACE_DIGITS"=Z (.int 2 t)
 v126:∃t:Tok,mg "MOST_AMOUNT_DIGITS"=Z (.int 30 t)
 v107:mg "NoTie"=Z (.ref (bK K "NoTie"))
 v108:XC K (bK K "NoTie")
 v109:mg "Web"=Z (.ref (bK K "Web"))
 v110:Cls K (bK K "Web")
 v33:gU K (bK K "Web") "many"
 v34:gU K (bK K "Web") "ties"
 v111:mg "NoPlace"=Z (.ref (bK K "NoPlace"))
 v36:W.exmOne K (.ref (bK K "NoPlace")) (.ref (bK K "NoTie"))=Z false
 v37:W.exmOne K (.ref (bK K "NoTie")) (.ref (bK K "NoTie"))=Z true
 v38:W.nsIn K cStatics sharingNotToldKey=Z Y
 v112:mg "read_sides"=Z (.ref (bK K "read_sides"))
 v113:mg "show_sides"=Z (.ref (bK K "show_sides"))
 v114:mg "read_flow"=Z (.ref (bK K "read_flow"))
 v115:mg "show_flow"=Z (.ref (bK K "show_flow"))
 v116:mg "read_tree"=Z (.ref (bK K "read_tree"))
 v117:mg "show_tree"=Z (.ref (bK K "show_tree"))
 v118:aEe K (bK K "NoTie") "at"
 v50:W.keepIn K (.ref (bK K "NoTie"))=true
 v51:KD K (bK K "NoTie")=true
 v119:UV K "NoTie" "__init__" "NoTie.__init__" fM
 v57:W.excIn K (bK K "NoPlace") bmV "ValueError.__new__"=true
 v58:gU K (bK K "Web") "weights"
 v120:UV K "Web" "__init__" "Web.__init__" iH
 v64:W.makesIn K (bK K "Web")=true
 v65:W.keepIn K (.ref (bK K "Web"))=true
 v66:Def K mg "_law_deck" pF
 v67:Def K mg "_law_ties" oJ
 v68:Def K mg "_law_great" mW
 v69:Def K mg "is_whole" sA
 v70:Def K mg "is_row" zB
 v71:Def K mg "common" xZ
 v72:Def K mg "is_row_of" pM
 v73:Def K mg "has_amount_numbers" eW
 v74:Def K mg "is_in_parts" lH
 v75:Def K mg "is_weight" pZ
 v76:Def K mg "is_place" rP
 v77:Def K mg "are_unlike_places" fN
 v78:Def K mg "is_between_places" fO
 v79:Def K mg "is_tie" yD
 v80:Def K mg "kept_ties" pY
 v81:Def K mg "text_of" vG
 v82:Def K mg "amount_text" kZ
 v83:Def K mg "row_line" sC
 v84:Def K mg "show_web" sD
 v85:Def K mg "_law_loose" nA
 v86:Def K mg "said_lines" nF
 v87:Def K mg "number_of" pB
 v88:Def K mg "place_of" qW
 v89:Def K mg "many_in" vD
 v90:Def K mg "is_amount" pU
 v91:Def K mg "amount_of" oG
 v92:Def K mg "row_in" yR
 v93:Def K mg "read_web" rV
 v94:Def K mg "_law_lowest" lF
 v95:Def K mg "_law_any" rS
 v96:Def K mg "_law_drawn" nE
 v97:Def K mg "_law_places" kT
 v98:Def K mg "read_rows" pG
 v99:Def K mg "side_in" uT
 v100:Def K mg "read_sides" nM
 v101:Def K mg "show_sides" mP
 v102:Def K mg "read_flow" oX
 v103:Def K mg "show_flow" pK
 v104:Def K mg "read_tree" oV
 v105:Def K mg "show_tree" pN
 v106:Def K mg "law" RT
section
variable{P:Ue}{w:World}{K:Fg}{mg:Str->Tf}{base:Heap}
def JD(T:Txt K mg):Callee P w K mg base 1 "_law_deck" sE (spM K jD):=
 T.v66.okG (N:=AN) (ps:=sE) (k:=0) (b:=mC) sc__law_deck (by sleep 992) λf cdv A outer s H E a=>
  (aO (bJ 2 (λ_=>sc__law_deck.nd)<|eG (aGt λ_=>rfl) (by sleep 988) boot_list<|aC (aD 0) aG)
   (aO (jP (cD (aNG (λ_=>rfl) λ_=>a.units) (aD 2)<|gL aG)
    (aT<|bJ 2 (λ_=>sc__law_deck.nd)<|LP<|aC aE aG)
    eU)
   (aO (bJ 3 (λ_=>sc__law_deck.nd)<|aR cA (bT dM (aD 2) aE) aE)
   (aO (uP (aR eV (bT dM (aD 2) aE) aE)<|KP VU (aD 2) aE)
   (aO (bJ 4 (λ_=>sc__law_deck.nd)<|LP aG)
   (aO (sV (λ_=>O1) (λ_=>rfl) (mF (by sleep 988)<|aC (aD 1) aG) (aW 5 λ_=>sc__law_deck.nd)
    (aO (bJ 6 (λ_=>sc__law_deck.nd)<|aR cA (aD 5)<|eQ CY (by sleep 988) boot_len<|aC (aD 2) aG)
   (aO (bJ 7 (λ_=>sc__law_deck.nd)<|aR cA (bT dM (aD 2)<|aD 6) aE)
   (aO (jP (cD (zG (λ_=>rfl) λ_=>a.units) (aD 3) aE)
    (aO (bJ 7 (λ_=>sc__law_deck.nd)<|aR cA (aR gE (aR gE (bT dM (aD 2)<|aD 6)<|aR xP (aR xP (aD 5)<|aD 5) aE)<|aR xP aE<|aD 5) aE)
   (aO (bJ 7 (λ_=>sc__law_deck.nd)<|aR cA (aR gE (aR xP (aD 7)<|bT dM (gL<|aC aE<|aC aE<|aC aE<|aC aE aG)<|aR cA (aD 5) aE) aE) aE)
   (aT (bJ 7 (λ_=>sc__law_deck.nd) (aR cA (aR xP (aD 7) (aD 7)) aE)))))
    (aT (uP (aR eV (bT dM (aD 2) (aD 6)) aE) (KP VU (aD 2) (aD 6)))))
   (aT (BK (xU (λ_=>rfl) (aD 4) (aC (aD 7) aG))))))))
   (aO (BK<|RZ (λ_=>rfl)<|aD 4)
   (aT (bH (aD 4))))))))))
def LY(T:Txt K mg):Callee P w K mg base 1 "_law_ties" qR (spM K jF):=
 T.v67.okG (N:=zP) (ps:=qR) (k:=0) (b:=rK) sc__law_ties (by sleep 992) λf cdv A outer s H E a=>
  (aO (bJ 2 (λ_=>sc__law_ties.nd) QJ)
   (aO (sV (λ_=>O1) (λ_=>rfl) (mF (by sleep 988)<|aC (aR cA (gN (λ_=>rfl)<|aD 0) aE) aG) (aW 3 λ_=>sc__law_ties.nd)
    (aO (bJ 4 (λ_=>sc__law_ties.nd)<|gN (λ_=>rfl)<|aD 0)
   (aO (bJ 5 (λ_=>sc__law_ties.nd)<|aR cA (aD 4)<|aD 1)
   (aO (bJ 6 (λ_=>sc__law_ties.nd)<|aR cA (aR eV (aD 4) aE)<|aD 1)
   (aO (bJ 7 (λ_=>sc__law_ties.nd)<|gL<|aC (cP<|aC aE<|aC aE aG)<|aC (cP<|aC aE<|aC aE aG)<|aC (cP<|aC aE<|aC aE aG)<|aC (cP<|aC (aR GY aE aE)<|aC aE aG)<|aC (cP<|aC aE<|aC aE aG)<|aC (cP<|aC aE<|aC aE aG)<|aC (cP<|aC (aR OS (aR GY aE aE) aE)<|aC aE aG)<|aC (cP<|aC aE<|aC aE aG) aG)
   (aT (jP (cD (AV (λ_=>rfl) λ_=>a.units) (aD 5)<|aD 6)
    (aT<|WV (λ_=>a.u1) (aD 2) (JW<|aC (eQ (aKu λ_=>rfl) (by sleep 988) boot_min<|aC (aD 5)<|aC (aD 6) aG)<|aC (eQ (aJE λ_=>rfl) (by sleep 988) boot_max<|aC (aD 5)<|aC (aD 6) aG) aG)<|bT dM (aR gE (aD 7)<|gL<|aC (cP<|aC (aR cA (aR eV (aD 4) aE) aE)<|aC aE aG) aG)<|aR cA (aR eV (aD 4) aE) aE)
    eU)))))))
   (aT (bH (eI (N':=(["_law_found","_law_pair"]:Tb)) (cap:=[Z 2,Y]) (λ_=>rfl) (by sleep 987) (eN (λ_=>rfl) (eQ (aHJ (λ_=>rfl) (λ_=>a.units2) (λ_=>rfl)) (by sleep 988) boot_sorted (aC (aD 2) aG))) (aW 1 (by sleep 989)) eX (aR gE (aD 1) (cP (aC (aBB (λ_=>rfl) (λ_=>a.u1) (aD 0) (aD 1)) aG))))))))
def GI(T:Txt K mg):Callee P w K mg base 1 "_law_great" pP (spM K fS):=
 T.v68.okG (N:=wI) (ps:=pP) (k:=0) (b:=jX) sc__law_great (by sleep 991) λf cdv A outer s H E a=>
  (aO (bJ 1 (λ_=>sc__law_great.nd)<|gN (λ_=>rfl)<|aD 0)
   (aO (bJ 2 (λ_=>sc__law_great.nd)<|gL aG)
   (aO (sV (λ_=>O1) (λ_=>rfl) (mF (by sleep 988)<|aC aE aG) (aW 3 λ_=>sc__law_great.nd)
    (aT (bJ 2 (λ_=>sc__law_great.nd) (aR gE (aD 2) (eI (N':=(["_law_i","_law_j"]:Tb)) (cap:=[Z 3,Y]) (λ_=>rfl) (by sleep 987) (aGZ (by sleep 988) (aC (aR gE (aD 3) aE) (aC aE aG))) (aW 1 (by sleep 989)) eX (cP (aC (aD 0) (aC (aD 1) (aC (bT dM (gL (aC (cP (aC aE (aC aE aG))) (aC (cP (aC aE (aC aE aG))) (aC (cP (aC (aR GY aE aE) (aC aE aG))) (aC (cP (aC aE (aC aE aG))) aG))))) (aR cA (aR gE (aD 0) (aD 1)) aE)) aG)))))))))
   (aT (bH (eI (N':=(["_law_found","_law_draw","_law_at"]:Tb)) (cap:=[Z 2,Z 1,Y]) (λ_=>rfl) (by sleep 987) (mF (by sleep 988) (aC (eQ CY (by sleep 988) boot_len (aC (aD 2) aG)) aG)) (aW 2 (by sleep 989)) (MB (cD (zG (λ_=>rfl) (λ_=>a.units)) (aR cA (aR gE (aR xP (aD 2) (aR gE aE (aR xP aE (aR cA (aD 1) aE)))) (aR eV (aD 1) aE)) aE) aE)) (bT dM (aD 0) (aD 2))))))))
def mJ(T:Txt K mg):Callee P w K mg base 1 "is_whole" vA (spM K gS):=
 T.v69.okG (N:=CA) (ps:=vA) (k:=0) (b:=FC) QT (by sleep 991) λf cdv A outer s H E a=>
  (aT<|bH<|iO (aCz (T:="int") (λ_=>rfl) (by decide) (aD 0) (λ_=>iQ) (by sleep 988) (by sleep 988) boot_int)<|nK<|aKT<|aCz (T:="bool") (λ_=>rfl) (by decide) (aD 0) (λ_=>iQ) (by sleep 988) (by sleep 988) boot_bool)
def IL(T:Txt K mg):Callee P w K mg base 1 "is_row" CJ (spM K xD):=
 T.v70.okG (N:=NW) (ps:=CJ) (k:=0) (b:=OY) aAO (by sleep 991) λf cdv A outer s H E a=>
  (aT<|bH<|aHu (T:="list") (U:="tuple") (λ_=>rfl) (by decide) (by decide) (aD 0) (λ_=>iQ) (by sleep 988) (by sleep 988) (by sleep 988) boot_list A0e)
def qM(T:Txt K mg):DK P w K mg base 1 "NoTie" nH (spM K mT):=
 T.v119.okIX (N:=tV) (ps:=nH) (k:=0) (b:=uG) T.v51 T.v50 FG (by sleep 992) λf cdv A outer s H E a=>
  (aT<|aHl (nm:="NoTie") (λ_=>rfl) T.v118 (aD 0)<|aD 1)
def GV(T:Txt K mg):Callee P w K mg base 1 "common" CU (spM K rQ):=
 T.v71.okG (N:=RN) (ps:=CU) (k:=0) (b:=QH) sc_common (by sleep 992) λf cdv A outer s H E a=>
  (aO (OW (λ_=>O1) (JU (λ_=>rfl)<|aD 1)<|aT<|UR 0 1 (λ_=>rfl) (λ_=>sc_common.nd)<|aC (aD 1)<|aC (aR cA (aD 0)<|aD 1) aG)
   (aT (bH (aD 0))))
def wK(T:Txt K mg):Callee P w K mg base 2 "is_row_of" rY (spM K lL):=
 T.v72.okG (N:=AE) (ps:=rY) (k:=1) (b:=AB) JG (by sleep 992) λf cdv A outer s H E a=>
  (aT<|bH<|iO (aQ (λ_=>IL T) a.le<|aC (aD 0) aG)<|nK<|lD (zG (λ_=>rfl) λ_=>a.units) (eQ CY (by sleep 988) boot_len<|aC (aD 0) aG)<|aD 1)
def iL(T:Txt K mg):Callee P w K mg base 3 "has_amount_numbers" fI (spM K bM):=
 T.v73.okG (N:=jA) (ps:=fI) (k:=2) (b:=cR) qF (by sleep 991) λf cdv A outer s H E a=>
  (aO (jP (BC<|qC (oQ<|rG<|aQ (λ_=>wK T) a.le<|aC (aD 0)<|aC aE aG)<|qC (oQ<|rG<|aQ (λ_=>mJ T) a.le<|aC (bT dM (aD 0) aE) aG)<|pD<|oQ<|rG<|aQ (λ_=>mJ T) a.le<|aC (bT dM (aD 0) aE) aG)
   (aT<|bH OX)
   eU)
   (aT (bH (iO (lD aNI (bT dM (aD 0) aE) aE) (nK (lD aNI (bT dM (aD 0) aE) aE))))))
def DW(T:Txt K mg):Callee P w K mg base 4 "is_in_parts" mS (spM K dD):=
 T.v74.okG (N:=uH) (ps:=mS) (k:=3) (b:=eR) DE (by sleep 991) λf cdv A outer s H E a=>
  (aT<|bH<|iO (aQ (λ_=>iL T) a.le<|aC (aD 0) aG)<|iO (lD (zG (λ_=>rfl) λ_=>a.units) (aR cA (kS λ_=>T.v122)<|bT dM (aD 0) aE) aE)<|nK<|lD (zG (λ_=>rfl) λ_=>a.units) (aQ (λ_=>GV T) a.le<|aC (bT dM (aD 0) aE)<|aC (bT dM (aD 0) aE) aG) aE)
def JR(T:Txt K mg):Callee P w K mg base 5 "is_weight" rJ (spM K fF):=
 T.v75.okG (N:=zT) (ps:=rJ) (k:=4) (b:=jE) JZ (by sleep 991) λf cdv A outer s H E a=>
  (aT<|bH<|iO (aQ (λ_=>DW T) a.le<|aC (aD 0) aG)<|nK<|lD aFa (bT dM (aD 0) aE)<|kS λ_=>T.v121)
def AJ(T:Txt K mg):Callee P w K mg base 2 "is_place" vO (spM K iR):=
 T.v76.okG (N:=EI) (ps:=vO) (k:=1) (b:=oM) OD (by sleep 992) λf cdv A outer s H E a=>
  (aT<|bH<|iO (aQ (λ_=>mJ T) a.le<|aC (aD 1) aG)<|nK<|aED aFa aDw aE (aD 1)<|aD 0)
def qJ(T:Txt K mg):Callee P w K mg base 3 "are_unlike_places" fW (spM K cJ):=
 T.v77.okG (N:=jO) (ps:=fW) (k:=2) (b:=dA) rW (by sleep 993) λf cdv A outer s H E a=>
  (aT<|bH<|iO (aQ (λ_=>AJ T) a.le<|aC (aD 0)<|aC (aD 1) aG)<|iO (aQ (λ_=>AJ T) a.le<|aC (aD 0)<|aC (aD 2) aG)<|nK<|lD (AV (λ_=>rfl) λ_=>a.units) (aD 1)<|aD 2)
def qK(T:Txt K mg):Callee P w K mg base 4 "is_between_places" fU (spM K bQ):=
 T.v78.okG (N:=jQ) (ps:=fU) (k:=3) (b:=cZ) qU (by sleep 992) λf cdv A outer s H E a=>
  (aT<|bH<|iO (aQ (λ_=>wK T) a.le<|aC (aD 1)<|aC aE aG)<|iO (aQ (λ_=>qJ T) a.le<|aC (aD 0)<|aC (bT dM (aD 1) aE)<|aC (bT dM (aD 1) aE) aG)<|nK<|lD aDw (bT dM (aD 1) aE)<|bT dM (aD 1) aE)
def ZY(T:Txt K mg):Callee P w K mg base 6 "is_tie" FE (spM K kP):=
 T.v79.okG (N:=NM) (ps:=FE) (k:=5) (b:=nP) ZG (by sleep 992) λf cdv A outer s H E a=>
  (aT<|bH<|iO (aQ (λ_=>qK T) a.le<|aC (aD 0)<|aC (aD 1) aG)<|nK<|aQ (λ_=>JR T) a.le<|aC (bT dM (aD 1) aE) aG)
def KG(T:Txt K mg):BS P w K mg base 7 "kept_ties" sW (spX K jC):=
 T.v80.okX (N:=AC) (ps:=sW) (k:=6) (b:=qO) sc_kept_ties (by sleep 992) λf cdv A outer s H E a=>
  (kY (UP (oQ<|rG<|aQ (λ_=>IL T) a.le<|aC (aD 1) aG)
   (BP<|DG (λi=>PB i) (λ_=>qM T) (λ_=>rfl) (λ_=>rfl) (λ_=>T.v107) T.v108.c.be a.le<|aC aE aG)
   (xW eU))
   (kY (aBM<|bJ 2 (λ_=>sc_kept_ties.nd) QJ)
   (kY (aGg (λi=>PB i) (λ_=>rfl) (WB (λ_=>rfl) (by sleep 988)<|aC (aD 1) aG) (iE (λ_=>rfl) (λ_=>rfl)<|bE (aW 3 λ_=>sc_kept_ties.nd)<|bE (aW 4 λ_=>sc_kept_ties.nd) eL)
    (kY (UP (BC<|qC (oQ<|rG<|aQ (λ_=>ZY T) a.le<|aC (aD 0)<|aC (aD 4) aG)<|pD<|aLP (λ_=>a.u1) (JW<|aC (bT dM (aD 4) aE)<|aC (bT dM (aD 4) aE) aG)<|aD 2)
    (BP<|DG (λi=>PB i) (λ_=>qM T) (λ_=>rfl) (λ_=>rfl) (λ_=>T.v107) T.v108.c.be a.le<|aC (aD 3) aG)
    (xW eU))
   (xW (aT (WV (λ_=>a.u1) (aD 2) (JW (aC (bT dM (aD 4) aE) (aC (bT dM (aD 4) aE) aG))) (eG (oK (λ_=>rfl)) (by sleep 988) A0e (aC (bT dM (aD 4) aE) aG)))))))
   (xW (aT (bH (eG (oK (λ_=>rfl)) (by sleep 988) A0e (aC (eI (N':=(["i","j","weight"]:Tb)) (cap:=[Y,Y,Y]) (λ_=>rfl) (by sleep 987) (eN (λ_=>rfl) (aBX (λ_=>rfl) (λ_=>a.units2) (λ_=>rfl) (by sleep 988) (aD 2))) (iE (λ_=>rfl) (λ_=>rfl) (bE (iE (λ_=>rfl) (λ_=>rfl) (bE (aW 0 (by sleep 989)) (bE (aW 1 (by sleep 989)) eL))) (bE (aW 2 (by sleep 989)) eL))) (MB (cD aLc (bT dM (aD 2) aE) aE)) (cP (aC (aD 0) (aC (aD 1) (aC (aD 2) aG))))) aG))))))))
def vY(T:Txt K mg):xT P w K mg base 8 "Web" rC (spX K fP):=
 T.v120.okR (N:=AO) (ps:=rC) (k:=7) (b:=sT) T.v64 T.v65 T.v109 KM (by sleep 993) λf cdv A outer s H E a=>
  (kY (UP (BC<|qC (oQ<|rG<|aQ (λ_=>mJ T) a.le<|aC (aD 1) aG)<|qC (cD aDw (aD 1) aE)<|pD<|cD aLc (aD 1)<|kS λ_=>T.v123)
   (BP<|SW (λi=>PB i) (λ_=>rfl) (λ_=>rfl) (λ_=>T.v111) T.v57)
   (xW eU))
   (kY (aBM<|aDR (nm:="Web") (λ_=>rfl) T.v110 T.v33 (aD 0)<|aD 1)
   (kY (aHX (nm:="Web") (λ_=>rfl) T.v110 T.v34 (aD 0)<|aFv (λi=>PB i) (λ_=>KG T) a.le<|aLC<|aC (aD 1)<|aC (aD 2) aG)
   (xW (aT (aDR (nm:="Web") (λ_=>rfl) T.v110 T.v58 (aD 0) (aJN (.inl ⟨rfl,rfl⟩) (N':=(["i","j","weight"]:Tb)) (cap:=[Y,Y,Y]) (λ_=>a.u0) (λ_=>rfl) (by sleep 987) (eN (λ_=>rfl) (uV (nm:="Web") (λ_=>rfl) T.v110 T.v34 (aD 0))) (iE (λ_=>rfl) (λ_=>rfl) (bE (aW 0 (by sleep 989)) (bE (aW 1 (by sleep 989)) (bE (aW 2 (by sleep 989)) eL)))) eX (JW (aC (aD 0) (aC (aD 1) aG))) (aD 2))))))))
def oH(T:Txt K mg):Callee P w K mg base 1 "text_of" yO (spM K gX):=
 T.v81.okG (N:=IJ) (ps:=yO) (k:=0) (b:=yJ) UA (by sleep 991) λf cdv A outer s H E a=>
  (aT<|bH<|BM (λ_=>rfl) cM<|aC (eI (N':=(["line"]:Tb)) (cap:=[Y]) (λ_=>rfl) (by sleep 987) (eN (λ_=>rfl)<|aD 0) (aW 0 (by sleep 989)) eX<|aR (UU λ_=>rfl) (aD 0) cM) aG)
def CP(T:Txt K mg):Callee P w K mg base 1 "amount_text" mU (spM K gH):=
 T.v82.okG (N:=tY) (ps:=mU) (k:=0) (b:=iY) sc_amount_text (by sleep 991) λf cdv A outer s H E a=>
  (aO (uP (aD 0)<|iE (λ_=>rfl) (λ_=>rfl)<|bE (aW 1 λ_=>sc_amount_text.nd)<|bE (aW 2 λ_=>sc_amount_text.nd) eL)
   (aT (bH (zY (cD (zG (λ_=>rfl) (λ_=>a.units)) (aD 2) aE) (eG aDp (by sleep 988) boot_str (aC (aD 1) aG)) (zD (gI (vE (aD 1)) (gI cM (gI (vE (aD 2)) RW))))))))
def rE(T:Txt K mg):Callee P w K mg base 2 "row_line" uX (spM K gM):=
 T.v83.okG (N:=CL) (ps:=uX) (k:=1) (b:=uZ) sc_row_line (by sleep 992) λf cdv A outer s H E a=>
  (aO (uP (aD 1)<|iE (λ_=>rfl) (λ_=>rfl)<|bE (aW 2 λ_=>sc_row_line.nd)<|bE (aW 3 λ_=>sc_row_line.nd)<|bE (aW 4 λ_=>sc_row_line.nd) eL)
   (aT (bH (zD (gI (vE (aD 0)) (gI cM (gI (vE (aD 2)) (gI cM (gI (vE (aD 3)) (gI cM (gI (vE (aQ (λ_=>CP T) a.le (aC (aD 4) aG))) RW)))))))))))
def rL(T:Txt K mg):Callee P w K mg base 3 "show_web" uM (spM K dO):=
 T.v84.okG (N:=CI) (ps:=uM) (k:=2) (b:=oA) QD (by sleep 991) λf cdv A outer s H E a=>
  (aT<|bH<|aQ (λ_=>oH T) a.le<|aC (aR gE (gL<|aC (zD<|gI cM<|gI (vE<|uV (nm:="Web") (λ_=>rfl) T.v110 T.v33<|aD 0) RW) aG)<|eI (N':=(["row"]:Tb)) (cap:=[Y]) (λ_=>rfl) (by sleep 987) (eN (λ_=>rfl)<|uV (nm:="Web") (λ_=>rfl) T.v110 T.v34<|aD 0) (aW 0 (by sleep 989)) eX<|aQ (λ_=>rE T) a.le<|aC cM<|aC (aD 0) aG) aG)
def uE(T:Txt K mg):Callee P w K mg base 1 "_law_loose" oF (spM K cF):=
 T.v85.okG (N:=wQ) (ps:=oF) (k:=0) (b:=kB) sc__law_loose (by sleep 992) λf cdv A outer s H E a=>
  (aO (bJ 2 (λ_=>sc__law_loose.nd)<|aAP (λ_=>rfl) (aD 1)<|aC cM aG)
   (aO (sV (λ_=>O1) (λ_=>rfl) (mF (by sleep 988)<|aC (eQ CY (by sleep 988) boot_len<|aC (aD 2) aG) aG) (aW 3 λ_=>sc__law_loose.nd)
    (aO (bJ 4 (λ_=>sc__law_loose.nd)<|gN (λ_=>rfl)<|aD 0)
   (aO (uP (aLa (UU λ_=>rfl) (aKQ aKX<|aR cA (aD 4) aE)<|aCi (λ_=>rfl) T.v38 (bT dM (aD 2)<|aD 3)<|aR gE aE<|aR cA (aR eV (aD 4) aE) aE)<|KP VU (aD 2)<|aD 3)
   (aT (jP (cD (zG (λ_=>rfl) λ_=>a.units) (aR cA (aR eV (aD 4) aE) aE) aE)
    (aT<|uP (aR (UU λ_=>rfl) cM<|bT dM (aD 2)<|aD 3)<|KP VU (aD 2)<|aD 3)
    eU)))))
   (aT (bH (BM (λ_=>rfl) cM (aC (ZN (aD 2)) aG))))))
def iW(T:Txt K mg):Callee P w K mg base 1 "said_lines" oZ (spM K cQ):=
 T.v86.okG (N:=wA) (ps:=oZ) (k:=0) (b:=jU) sc_said_lines (by sleep 991) λf cdv A outer s H E a=>
  (aO (aDS 1 (λ_=>sc_said_lines.nd) (N':=(["line"]:Tb)) (cap:=[Y]) (λ_=>rfl) (by sleep 987) (eN (λ_=>rfl)<|EO (λ_=>rfl) (aD 0)<|aC cM aG) (aW 0 (by sleep 989)) eX<|eI (N':=(["word"]:Tb)) (cap:=[Y]) (λ_=>rfl) (λ_=>VS (by decide +kernel)) (eN (λ_=>rfl)<|EO (λ_=>rfl) (aD 0)<|aC cM aG) (aW 0 (by sleep 989)) (MB<|JQ (λ_=>rfl)<|aD 0)<|aD 0)
   (aT (bH (eI (N':=(["at","words"]:Tb)) (cap:=[Y,Y]) (λ_=>rfl) (by sleep 987) (WB (λ_=>rfl) (by sleep 988) (aC (aD 1) aG)) (iE (λ_=>rfl) (λ_=>rfl) (bE (aW 0 (by sleep 989)) (bE (aW 1 (by sleep 989)) eL))) (MB (JU (λ_=>rfl) (aD 1))) (cP (aC (aD 0) (aC (aD 1) aG)))))))
def pL(T:Txt K mg):Callee P w K mg base 1 "number_of" rA (spM K cL):=
 T.v87.okG (N:=zV) (ps:=rA) (k:=0) (b:=lP) MV (by sleep 992) λf cdv A outer s H E a=>
  (aO (jP (BC<|qC (oQ<|PP aDw aFa aE (eQ (aKI λ_=>rfl) (by sleep 988) boot_len<|aC (aD 0) aG)<|aD 1)<|pD<|oQ<|rG<|eQ (aNW (λ_=>rfl) λ_=>rfl) (by sleep 988) boot_all<|aC (eI (N':=(["sign"]:Tb)) (cap:=[Y]) (λ_=>rfl) (by sleep 987) (aJt<|aD 0) (aW 0 (by sleep 989)) eX<|lD aNA (aD 0)<|aDE λ_=>T.v124) aG)
   (aT<|bH gQ)
   eU)
   (aT (bH (zY (BC (qC (cD (zG (λ_=>rfl) (λ_=>a.units)) (aD 0) cM) (pD (cD (AV (λ_=>rfl) (λ_=>a.units)) (bT aNJ (aD 0) aE) cM)))) (eG aKr (by sleep 988) boot_int (aC (aD 0) aG)) gQ))))
def mG(T:Txt K mg):Callee P w K mg base 2 "place_of" vN (spM K bZ):=
 T.v88.okG (N:=FV) (ps:=vN) (k:=1) (b:=oB) QO (by sleep 991) λf cdv A outer s H E a=>
  (aT<|bH<|aQ (λ_=>pL T) a.le<|aC (aD 0)<|aC (kS λ_=>T.v125) aG)
def UW(T:Txt K mg):Callee P w K mg base 3 "many_in" yS (spM K nV):=
 T.v89.okG (N:=JB) (ps:=yS) (k:=2) (b:=sZ) sc_many_in (by sleep 991) λf cdv A outer s H E a=>
  (aO (bJ 1 (λ_=>sc_many_in.nd)<|zY (BC<|RV (cD (zG (λ_=>rfl) λ_=>a.units) (eQ CY (by sleep 988) boot_len<|aC (aD 0) aG) aE)<|ND<|cD (zG (λ_=>rfl) λ_=>a.units) (bT dM (aD 0) aE) cM) (aQ (λ_=>mG T) a.le<|aC (bT dM (aD 0) aE) aG) gQ)
   (aT (bH (zY (BC (RV (cD aLb (aD 1) gQ) (ND (PP aFa aFa aE (aD 1) (kS (λ_=>T.v123)))))) (aD 1) gQ))))
def LH(T:Txt K mg):Callee P w K mg base 4 "is_amount" qN (spM K gZ):=
 T.v90.okG (N:=AH) (ps:=qN) (k:=3) (b:=lM) KW (by sleep 991) λf cdv A outer s H E a=>
  (aT<|bH<|iO (aQ (λ_=>iL T) a.le<|aC (aD 0) aG)<|nK<|lD (zG (λ_=>rfl) λ_=>a.units) (aQ (λ_=>GV T) a.le<|aC (bT dM (aD 0) aE)<|aC (bT dM (aD 0) aE) aG) aE)
def LL(T:Txt K mg):Callee P w K mg base 5 "amount_of" sN (spM K fK):=
 T.v91.okG (N:=AL) (ps:=sN) (k:=4) (b:=lO) sc_amount_of (by sleep 991) λf cdv A outer s H E a=>
  (aO (uP (aGE (λ_=>rfl) (aD 0)<|aC cM aG)<|iE (λ_=>rfl) (λ_=>rfl)<|bE (aW 1 λ_=>sc_amount_of.nd)<|bE (aW 2 λ_=>sc_amount_of.nd)<|bE (aW 3 λ_=>sc_amount_of.nd) eL)
   (aO (jP (BC<|RV (JQ (λ_=>rfl)<|aD 2)<|ND<|cD (zG (λ_=>rfl) λ_=>a.units) (aD 3) cM)
    (aT<|bH gQ)
    eU)
   (aO (bJ 4 (λ_=>sc_amount_of.nd)<|cP<|aC (aQ (λ_=>pL T) a.le<|aC (aD 1)<|aC (kS λ_=>T.v126) aG)<|aC (zY (JQ (λ_=>rfl)<|aD 2) (aQ (λ_=>pL T) a.le<|aC (aD 3)<|aC (kS λ_=>T.v126) aG) aE) aG)
   (aT (bH (zY (rG (aQ (λ_=>LH T) a.le (aC (aD 4) aG))) (aD 4) gQ))))))
def xY(T:Txt K mg):Callee P w K mg base 6 "row_in" DY (spM K gC):=
 T.v92.okG (N:=PY) (ps:=DY) (k:=5) (b:=wM) sc_row_in (by sleep 992) λf cdv A outer s H E a=>
  (aO (jP (BC<|qC (cD (AV (λ_=>rfl) λ_=>a.units) (eQ CY (by sleep 988) boot_len<|aC (aD 0) aG) aE)<|pD<|cD (AV (λ_=>rfl) λ_=>a.units) (bT dM (aD 0) aE)<|aD 1)
   (aT<|bH gQ)
   eU)
   (aO (bJ 2 (λ_=>sc_row_in.nd)<|cP<|aC (aQ (λ_=>mG T) a.le<|aC (bT dM (aD 0) aE) aG)<|aC (aQ (λ_=>mG T) a.le<|aC (bT dM (aD 0) aE) aG)<|aC (aQ (λ_=>LL T) a.le<|aC (bT dM (aD 0) aE) aG) aG)
   (aT (bH (zY (cD (aMB (λ_=>rfl) (λ_=>a.units1)) gQ (aD 2)) gQ (aD 2))))))
def zR(T:Txt K mg):Callee P w K mg base 10 "read_web" uS (spM K eC):=
 T.v93.okG (N:=EU) (ps:=uS) (k:=9) (b:=oO) sc_read_web (by sleep 991) λf cdv A outer s H E a=>
  (aO (bJ 1 (λ_=>sc_read_web.nd)<|aQ (λ_=>iW T) a.le<|aC (aD 0) aG)
   (aO (jP (oQ<|JU (λ_=>rfl)<|aD 1)
    (aT xH)
    eU)
   (aO (bJ 2 (λ_=>sc_read_web.nd)<|aQ (λ_=>UW T) a.le<|aC (bT dM (bT dM (aD 1) aE) aE) aG)
   (aO (jP (cD aIt (aD 2) gQ)
    (aT xH)
    eU)
   (aT (aLr (λ_=>⟨rfl,rfl,rfl⟩) (λ_=>rfl) (BP<|aHL<|aFV (λi=>aNX (λ_=>⟨rfl,rfl,rfl⟩) i) (λ_=>vY T) (λ_=>rfl) a.le<|aC (aD 2)<|aC (eI (N':=(["at","words"]:Tb)) (cap:=[Y,Y]) (λ_=>rfl) (by sleep 987) (eN (λ_=>rfl)<|WD (λ_=>rfl) (aD 1) (pT aE) wB) (iE (λ_=>rfl) (λ_=>rfl)<|bE (aW 0 (by sleep 989))<|bE (aW 1 (by sleep 989)) eL) eX<|aQ (λ_=>xY T) a.le<|aC (aD 1)<|aC cM aG) aG) (aFN (tab:=[("NoTie",true),("NoPlace",false)]) (n:=(Z 3)) (.ref (bK K "NoTie")) (λ_=>⟨rfl,rfl,rfl⟩) (λ_=>.inl T.v107) (λ_=>⟨sc_read_web.nd,rfl,rfl⟩) (ID T.v37<|ID T.v36 aCH) (aT xH)
   aKk)))))))
def DN(T:Txt K mg):Callee P w K mg base 1 "_law_lowest" mQ (spM K iT):=
 T.v94.okG (N:=tP) (ps:=mQ) (k:=0) (b:=mY) sc__law_lowest (by sleep 992) λf cdv A outer s H E a=>
  (aO (UR 2 3 (λ_=>rfl) (λ_=>sc__law_lowest.nd)<|aC (aD 0)<|aC (aD 1) aG)
   (aO (OW (λ_=>O1) (cD aLc (aD 3) aE)<|aT<|UR 2 3 (λ_=>rfl) (λ_=>sc__law_lowest.nd)<|aC (aD 3)<|aC (aR cA (aD 2)<|aD 3) aG)
   (aT (bH (cP (aC (aR eV (aD 0) (aD 2)) (aC (aR eV (aD 1) (aD 2)) aG)))))))
def RH(T:Txt K mg):Callee P w K mg base 2 "_law_any" uU (spM K oI):=
 T.v95.okG (N:=EM) (ps:=uU) (k:=1) (b:=vR) sc__law_any (by sleep 991) λf cdv A outer s H E a=>
  (aO (bJ 1 (λ_=>sc__law_any.nd)<|gN (λ_=>rfl)<|aD 0)
   (aO (bJ 2 (λ_=>sc__law_any.nd)<|gN (λ_=>rfl)<|aD 0)
   (aO (bJ 3 (λ_=>sc__law_any.nd)<|bT dM (gL<|aC (aR cA (aR eV (aD 1) aE) aE)<|aC (aR cA (aR eV (aD 1) aE) aE)<|aC (aR OS (aR OS (aR GY aE aE) aE)<|aR cA (aR eV (aD 1) aE) aE)<|aC (aR gE (aR xP (aD 1)<|aR GY aE aE)<|aD 2) aG)<|aR cA (aD 1) aE)
   (aO (bJ 4 (λ_=>sc__law_any.nd)<|bT dM (gL<|aC aE<|aC aE<|aC (aR gE aE<|aR cA (aR eV (aD 2) aE) aE)<|aC aE<|aC (aR OS (aR OS (aR GY aE aE) aE)<|aR cA (aR eV (aD 2) aE) aE)<|aC (aR gE aE<|aD 2) aG)<|aR cA (aD 2) aE)
   (aT (bH (aQ (λ_=>DN T) a.le (aC (aD 3) (aC (aD 4) aG)))))))))
def GS(T:Txt K mg):Callee P w K mg base 3 "_law_drawn" pC (spM K iB):=
 T.v96.okG (N:=xB) (ps:=pC) (k:=2) (b:=pV) sc__law_drawn (by sleep 992) λf cdv A outer s H E a=>
  (aO (bJ 2 (λ_=>sc__law_drawn.nd)<|LP aG)
   (aO (sV (λ_=>O1) (λ_=>rfl) (mF (by sleep 988)<|aC (aD 1) aG) (aW 3 λ_=>sc__law_drawn.nd)
    (aO (bJ 4 (λ_=>sc__law_drawn.nd)<|gN (λ_=>rfl)<|aD 0)
   (aT (BK (xU (λ_=>rfl) (aD 2) (aC (cP (aC (aR cA (aD 4) aE) (aC (bT dM (gL (aC (aR cA (aR eV (aD 4) aE) aE) (aC (aR cA (aR eV (aD 4) aE) aE) aG))) (aR cA (aD 3) aE)) (aC (aQ (λ_=>RH T) a.le (aC (aD 0) aG)) aG)))) aG))))))
   (aT (bH (aD 2)))))
def EB(T:Txt K mg):Callee P w K mg base 1 "_law_places" nG (spM K eT):=
 T.v97.okG (N:=uC) (ps:=nG) (k:=0) (b:=nJ) sc__law_places (by sleep 992) λf cdv A outer s H E a=>
  (aO (bJ 2 (λ_=>sc__law_places.nd)<|LP aG)
   (aO (sV (λ_=>O1) (λ_=>rfl) (mF (by sleep 988)<|aC (aD 1) aG) (aW 3 λ_=>sc__law_places.nd)
    (aO (bJ 4 (λ_=>sc__law_places.nd)<|gN (λ_=>rfl)<|aD 0)
   (aT (BK (xU (λ_=>rfl) (aD 2) (aC (eG (oK (λ_=>rfl)) (by sleep 988) A0e (aC (eI (N':=(["_law_deck_here","_law_draw","_law_at"]:Tb)) (cap:=[Z 0,Z 4,Y]) (λ_=>rfl) (by sleep 987) (mF (by sleep 988) (aC (aR gE aE (aR cA (aD 4) aE)) aG)) (aW 2 (by sleep 989)) eX (aR cA (gN (λ_=>rfl) (aD 0)) (bT dM (gL (aC aE (aC aE (aC aE aG)))) (aR cA (aR eV (aD 1) aE) aE)))) aG)) aG))))))
   (aT (bH (aD 2)))))
def oE(T:Txt K mg):Callee P w K mg base 1 "read_rows" rZ (spM K dY):=
 T.v98.okG (N:=AQ) (ps:=rZ) (k:=0) (b:=lX) sc_read_rows (by sleep 991) λf cdv A outer s H E a=>
  (aO (sV (λ_=>O1) (λ_=>rfl) (eN (λ_=>rfl)<|aD 0) (iE (λ_=>rfl) (λ_=>rfl)<|bE (aW 1 λ_=>sc_read_rows.nd)<|bE (aW 2 λ_=>sc_read_rows.nd) eL)
   (aT (jP (cD aIt (aD 2) gQ)
   (aT xH)
   eU)))
   (aT (bH (eG (oK (λ_=>rfl)) (by sleep 988) A0e (aC (eI (N':=(["at","row"]:Tb)) (cap:=[Y,Y]) (λ_=>rfl) (by sleep 987) (eN (λ_=>rfl) (aD 0)) (iE (λ_=>rfl) (λ_=>rfl) (bE (aW 0 (by sleep 989)) (bE (aW 1 (by sleep 989)) eL))) eX (aD 1)) aG)))))
def SH(T:Txt K mg):Callee P w K mg base 3 "side_in" yM (spM K kF):=
 T.v99.okG (N:=HG) (ps:=yM) (k:=2) (b:=tG) sc_side_in (by sleep 991) λf cdv A outer s H E a=>
  (aO (jP (BC<|qC (cD aDw (eQ CY (by sleep 988) boot_len<|aC (aD 0) aG) aE)<|pD<|cD (AV (λ_=>rfl) λ_=>a.units) (bT dM (aD 0) aE) cM)
   (aT<|bH gQ)
   eU)
   (aO (bJ 1 (λ_=>sc_side_in.nd)<|eG (oK λ_=>rfl) (by sleep 988) A0e<|aC (eI (N':=(["word"]:Tb)) (cap:=[Y]) (λ_=>rfl) (by sleep 987) (eN (λ_=>rfl)<|WD (λ_=>rfl) (aD 0) (pT aE) wB) (aW 0 (by sleep 989)) eX<|aQ (λ_=>mG T) a.le<|aC (aD 0) aG) aG)
   (aT (bH (zY (cD (aMB (λ_=>rfl) (λ_=>a.units1)) gQ (aD 1)) gQ (aD 1))))))
def mO(T:Txt K mg):Callee P w K mg base 4 "read_sides" pJ (spM K cG):=
 T.v100.okG (N:=xS) (ps:=pJ) (k:=3) (b:=jZ) GN (by sleep 991) λf cdv A outer s H E a=>
  (aT<|bH<|aQ (λ_=>oE T) a.le<|aC (eI (N':=(["at","words"]:Tb)) (cap:=[Y,Y]) (λ_=>rfl) (by sleep 987) (eN (λ_=>rfl)<|aQ (λ_=>iW T) a.le<|aC (aD 0) aG) (iE (λ_=>rfl) (λ_=>rfl)<|bE (aW 0 (by sleep 989))<|bE (aW 1 (by sleep 989)) eL) eX<|cP<|aC (aD 0)<|aC (aQ (λ_=>SH T) a.le<|aC (aD 1) aG) aG) aG)
def tN(T:Txt K mg):Callee P w K mg base 2 "show_sides" oY (spM K dB):=
 T.v101.okG (N:=wU) (ps:=oY) (k:=1) (b:=oW) FW (by sleep 991) λf cdv A outer s H E a=>
  (aT<|bH<|aQ (λ_=>oH T) a.le<|aC (eI (N':=(["side"]:Tb)) (cap:=[Y]) (λ_=>rfl) (by sleep 987) (eN (λ_=>rfl)<|aD 0) (aW 0 (by sleep 989)) eX<|BM (λ_=>rfl) cM<|aC (aR gE (gL<|aC cM aG)<|eI (N':=(["place"]:Tb)) (cap:=[Y]) (λ_=>rfl) (λ_=>VS (by decide +kernel)) (eN (λ_=>rfl)<|aD 0) (aW 0 (by sleep 989)) eX<|eG aDp (by sleep 988) boot_str<|aC (aD 0) aG) aG) aG)
def pS(T:Txt K mg):Callee P w K mg base 7 "read_flow" rR (spM K cS):=
 T.v102.okG (N:=AI) (ps:=rR) (k:=6) (b:=mI) KL (by sleep 991) λf cdv A outer s H E a=>
  (aT<|bH<|aQ (λ_=>oE T) a.le<|aC (eI (N':=(["at","words"]:Tb)) (cap:=[Y,Y]) (λ_=>rfl) (by sleep 987) (eN (λ_=>rfl)<|aQ (λ_=>iW T) a.le<|aC (aD 0) aG) (iE (λ_=>rfl) (λ_=>rfl)<|bE (aW 0 (by sleep 989))<|bE (aW 1 (by sleep 989)) eL) eX<|cP<|aC (aD 0)<|aC (aQ (λ_=>xY T) a.le<|aC (aD 1)<|aC cM aG) aG) aG)
def vU(T:Txt K mg):Callee P w K mg base 3 "show_flow" qX (spM K eA):=
 T.v103.okG (N:=AM) (ps:=qX) (k:=2) (b:=sQ) KO (by sleep 991) λf cdv A outer s H E a=>
  (aT<|bH<|aQ (λ_=>oH T) a.le<|aC (eI (N':=(["row"]:Tb)) (cap:=[Y]) (λ_=>rfl) (by sleep 987) (eN (λ_=>rfl)<|aD 0) (aW 0 (by sleep 989)) eX<|aQ (λ_=>rE T) a.le<|aC cM<|aC (aD 0) aG) aG)
def pE(T:Txt K mg):Callee P w K mg base 7 "read_tree" qL (spM K cU):=
 T.v104.okG (N:=zS) (ps:=qL) (k:=6) (b:=lV) KU (by sleep 991) λf cdv A outer s H E a=>
  (aT<|bH<|aQ (λ_=>oE T) a.le<|aC (eI (N':=(["at","words"]:Tb)) (cap:=[Y,Y]) (λ_=>rfl) (by sleep 987) (eN (λ_=>rfl)<|aQ (λ_=>iW T) a.le<|aC (aD 0) aG) (iE (λ_=>rfl) (λ_=>rfl)<|bE (aW 0 (by sleep 989))<|bE (aW 1 (by sleep 989)) eL) eX<|cP<|aC (aD 0)<|aC (aQ (λ_=>xY T) a.le<|aC (aD 1)<|aC cM aG) aG) aG)
def xA(T:Txt K mg):Callee P w K mg base 3 "show_tree" rF (spM K eB):=
 T.v105.okG (N:=zO) (ps:=rF) (k:=2) (b:=qI) JX (by sleep 991) λf cdv A outer s H E a=>
  (aT<|bH<|aQ (λ_=>oH T) a.le<|aC (eI (N':=(["row"]:Tb)) (cap:=[Y]) (λ_=>rfl) (by sleep 987) (eN (λ_=>rfl)<|aD 0) (aW 0 (by sleep 989)) eX<|aQ (λ_=>rE T) a.le<|aC cM<|aC (aD 0) aG) aG)
def fn_law(T:Txt K mg):∃f fd,mg "law"=Z (.ref f)/\(∀(s:Ub)(u:Tz),BindsTo s fd ⟨[u],[]⟩ [("_law_script",u)])/\∀base,jH P w K mg base CX0 11 f fd aIk (spM K F_law):=
 T.v106.okLG (N:=aJc) (k:=10) (b:=YL) sc_law rfl (by sleep 991) λbase f cdv A outer s H E a=>
  (aO (bJ 1 (λ_=>sc_law.nd)<|aQ (λ_=>JD T) a.le<|aC (aD 0)<|aC aE aG)
   (aO (bJ 2 (λ_=>sc_law.nd)<|bT dM (gL<|aC aE<|aC aE<|aC aE<|aC (aR gE aE<|aR cA (gN (λ_=>rfl)<|aD 1) aE) aG)<|aR cA (gN (λ_=>rfl)<|aD 1) aE)
   (aO (bJ 3 (λ_=>sc_law.nd)<|lD (zG (λ_=>rfl) λ_=>a.units) (aR cA (gN (λ_=>rfl)<|aD 1) aE) aE)
   (aO (bJ 4 (λ_=>sc_law.nd)<|aQ (λ_=>LY T) a.le<|aC (aD 1)<|aC (aD 2) aG)
   (aO (jP (JU (λ_=>rfl)<|aD 3)
    (aO (bJ 2 (λ_=>sc_law.nd) aE)
   (aT (bJ 4 (λ_=>sc_law.nd) (aQ (λ_=>GI T) a.le (aC (aD 1) aG)))))
    eU)
   (aO (bJ 5 (λ_=>sc_law.nd)<|aCg (λ_=>vY T) (λ_=>rfl) a.le<|aC (aD 2)<|aC (aD 4) aG)
   (aO (bJ 6 (λ_=>sc_law.nd)<|aQ (λ_=>rL T) a.le<|aC (aD 5) aG)
   (aO (sV (λ_=>O1) (λ_=>rfl) (eN (λ_=>rfl)<|gL<|aC (aD 6)<|aC (aQ (λ_=>uE T) a.le<|aC (aD 1)<|aC (aD 6) aG)<|aC (aLY (aD 6) wB<|pT<|aEm aCQ aE) aG) (aW 7 λ_=>sc_law.nd)
    (aO (bJ 8 (λ_=>sc_law.nd)<|aQ (λ_=>zR T) a.le<|aC (aD 7) aG)
   (aT (jP (BC<|qC (cD (AV (λ_=>rfl) λ_=>a.units) (cP<|aC (uV (nm:="Web") (λ_=>rfl) T.v110 T.v33<|aD 8)<|aC (uV (nm:="Web") (λ_=>rfl) T.v110 T.v34<|aD 8) aG)<|cP<|aC (uV (nm:="Web") (λ_=>rfl) T.v110 T.v33<|aD 5)<|aC (uV (nm:="Web") (λ_=>rfl) T.v110 T.v34<|aD 5) aG)<|pD<|cD (AV (λ_=>rfl) λ_=>a.units) (aQ (λ_=>rL T) a.le<|aC (aD 8) aG)<|aD 6)
    (aT<|bH OX)
    eU))))
   (aO (bJ 9 (λ_=>sc_law.nd)<|WD (λ_=>rfl) (EO (λ_=>rfl) (aD 6)<|aC cM aG) wB<|pT<|aEm aCQ aE)
   (aO (jP (cD (AV (λ_=>rfl) λ_=>a.units) (aQ (λ_=>rL T) a.le<|aC (aQ (λ_=>zR T) a.le<|aC (BM (λ_=>rfl) cM<|aC (aR gE (WD (λ_=>rfl) (aD 9) wB<|pT aE)<|aHB (λ_=>rfl) (aD 9) (pT aE)<|pT<|aEm aCQ aE) aG) aG) aG)<|aD 6)
    (aT<|bH OX)
    eU)
   (aO (bJ 10 (λ_=>sc_law.nd)<|eG (oK λ_=>rfl) (by sleep 988) A0e<|aC (aQ (λ_=>GS T) a.le<|aC (aD 1)<|aC (bT dM (gL<|aC (aR cA (gN (λ_=>rfl)<|aD 1) aE)<|aC (aR gE aE<|aR cA (gN (λ_=>rfl)<|aD 1) aE) aG)<|eG aIh (by sleep 988) boot_int<|aC (aD 3) aG) aG) aG)
   (aO (bJ 11 (λ_=>sc_law.nd)<|aR gE (eG (oK λ_=>rfl) (by sleep 988) A0e<|aC (aQ (λ_=>EB T) a.le<|aC (aD 1)<|aC (aR cA (gN (λ_=>rfl)<|aD 1) aE) aG) aG)<|aR (aFq λ_=>rfl) (cP<|aC (aDO (λ_=>rfl) (by sleep 988) (by sleep 988)<|aC aE aG) aG)<|aR xP aE<|eG aIh (by sleep 988) boot_int<|aC (aD 3) aG)
   (aJR 12 (λ_=>sc_law.nd) (λ_=>O1) (λ_=>rfl) (λ_=>rfl) (MP (aC (HC λ_=>T.v117)<|aC (HC λ_=>T.v116)<|aC (aD 10) aG)<|MP (aC (HC λ_=>T.v115)<|aC (HC λ_=>T.v114)<|aC (aD 10) aG)<|MP (aC (HC λ_=>T.v113)<|aC (HC λ_=>T.v112)<|aC (aD 11) aG) aJZ) (bE (aW 13 λ_=>sc_law.nd)<|bE (aW 14 λ_=>sc_law.nd)<|bE (aW 15 λ_=>sc_law.nd) eL)
    (aO (bJ 6 (λ_=>sc_law.nd)<|xI (tbl:=[("show_tree",eB),("show_flow",eA),("show_sides",dB)]) 13 (λ_=>rfl) (eK (dQ (λ_=>rfl) (λ_=>xA T) (λ_=>a.mono (by decide)) λ_=>T.v117)<|eK (dQ (λ_=>rfl) (λ_=>vU T) (λ_=>a.mono (by decide)) λ_=>T.v115)<|eK (dQ (λ_=>rfl) (λ_=>tN T) (λ_=>a.mono (by decide)) λ_=>T.v113) DS)<|aC (aD 15) aG)
   (aT (jP (BC<|qC (cD (AV (λ_=>rfl) λ_=>a.units) (xI (tbl:=[("read_tree",cU),("read_flow",cS),("read_sides",cG)]) 14 (λ_=>rfl) (eK (dQ (λ_=>rfl) (λ_=>pE T) (λ_=>a.mono (by decide)) λ_=>T.v116)<|eK (dQ (λ_=>rfl) (λ_=>pS T) (λ_=>a.mono (by decide)) λ_=>T.v114)<|eK (dQ (λ_=>rfl) (λ_=>mO T) (λ_=>a.mono (by decide)) λ_=>T.v112) DS)<|aC (aD 6) aG)<|aD 15)<|qC (cD (AV (λ_=>rfl) λ_=>a.units) (xI (tbl:=[("read_tree",cU),("read_flow",cS),("read_sides",cG)]) 14 (λ_=>rfl) (eK (dQ (λ_=>rfl) (λ_=>pE T) (λ_=>a.mono (by decide)) λ_=>T.v116)<|eK (dQ (λ_=>rfl) (λ_=>pS T) (λ_=>a.mono (by decide)) λ_=>T.v114)<|eK (dQ (λ_=>rfl) (λ_=>mO T) (λ_=>a.mono (by decide)) λ_=>T.v112) DS)<|aC (aQ (λ_=>uE T) a.le<|aC (aD 1)<|aC (aD 6) aG) aG)<|aD 15)<|pD<|cD (AV (λ_=>rfl) λ_=>a.units) (xI (tbl:=[("show_tree",eB),("show_flow",eA),("show_sides",dB)]) 13 (λ_=>rfl) (eK (dQ (λ_=>rfl) (λ_=>xA T) (λ_=>a.mono (by decide)) λ_=>T.v117)<|eK (dQ (λ_=>rfl) (λ_=>vU T) (λ_=>a.mono (by decide)) λ_=>T.v115)<|eK (dQ (λ_=>rfl) (λ_=>tN T) (λ_=>a.mono (by decide)) λ_=>T.v113) DS)<|aC (xI (tbl:=[("read_tree",cU),("read_flow",cS),("read_sides",cG)]) 14 (λ_=>rfl) (eK (dQ (λ_=>rfl) (λ_=>pE T) (λ_=>a.mono (by decide)) λ_=>T.v116)<|eK (dQ (λ_=>rfl) (λ_=>pS T) (λ_=>a.mono (by decide)) λ_=>T.v114)<|eK (dQ (λ_=>rfl) (λ_=>mO T) (λ_=>a.mono (by decide)) λ_=>T.v112) DS)<|aC (aD 6) aG) aG)<|aD 6)
    (aT<|bH OX)
    eU)))
   (aT (bH OX)))))))))))))))
def txt_mk{B:Tok}{C:Tok}{F:Uc}{I:Uc}{e:Th}{g:Array (Tf)}{i:Tz}{n:Th}{p:Array (Tf)}{q:Tz}(X:K.In h)(G:h.Ns bh mg)(v0:W.nsIn K bh "all"=Z Y)(v1:W.nsIn K bh "bool"=Z Y)(v2:W.nsIn K bh "enumerate"=Z Y)(v3:W.nsIn K bh "int"=Z Y)(v4:W.nsIn K bh "isinstance"=Z Y)(v5:W.nsIn K bh "len"=Z Y)(v6:W.nsIn K bh "list"=Z Y)(v7:W.nsIn K bh "max"=Z Y)(v8:W.nsIn K bh "min"=Z Y)(v9:W.nsIn K bh "range"=Z Y)(a1:W.nsIn K bh "sorted"=Z Y)(a2:W.nsIn K bh "str"=Z Y)(a3:W.nsIn K bh "tuple"=Z Y)(a4:W.nsIn K bh "MOST_ABOVE"=Z (Z (.int 1000000000000 z)))(a5:W.nsIn K bh "BELOW"=Z (Z (.int 55440 A)))(a6:W.nsIn K bh "MOST_PLACES"=Z (Z (.int 40 B)))(a7:W.nsIn K bh "DIGITS"=Z (Z (.str "0123456789" C)))(a8:W.nsIn K bh "MOST_PLACE_DIGITS"=Z (Z (.int 2 D)))(a9:W.nsIn K bh "MOST_AMOUNT_DIGITS"=Z (Z (.int 30 E)))(N:W.nsIn K bh "NoTie"=Z (Z (.ref a)))(aa:W.findIn K (.ref a) "__getattribute__"=Z (Z (.builtin "BaseException.__getattribute__")))(ab:W.findIn K (.ref a) "__getattr__"=Z Y)(ac:W.subIn K (.ref a) (.type "BaseException")=Z true)(ae:(W.clsIn K a).isSome=true)(af:W.findIn K (.ref a) "__class__"=Z (Z (.builtin "object.__class__")))(ag:W.specialIn K (.builtin "object.__class__") "__get__"=Z (Z (.builtin "getset_descriptor.__get__")))(ah:W.takesIn K (.builtin "object.__class__")=Z true)(ai:W.mroIn K a (.type "object")=Z true)(O:W.nsIn K bh "Web"=Z (Z (.ref c)))(aj:W.plainGet K c Str.empty=true)(ak:W.hasDictIn K c=true)(am:W.plainOver K c=true)(ao:W.findIn K (.ref c) "__setattr__"=Z (Z (.builtin "object.__setattr__")))(v33:W.findIn K (.ref c) "many"=Z Y)(v34:W.findIn K (.ref c) "ties"=Z Y)(Q:W.nsIn K bh "NoPlace"=Z (Z (.ref y)))(v36:W.exmOne K (.ref y) (.ref a)=Z false)(v37:W.exmOne K (.ref a) (.ref a)=Z true)(v38:W.nsIn K cStatics sharingNotToldKey=Z Y)(R:W.nsIn K bh "read_sides"=Z (Z (.ref F)))(S:W.nsIn K bh "show_sides"=Z (Z (.ref H)))(T:W.nsIn K bh "read_flow"=Z (Z (.ref I)))(U:W.nsIn K bh "show_flow"=Z (Z (.ref J)))(V:W.nsIn K bh "read_tree"=Z (Z (.ref L)))(a0:W.nsIn K bh "show_tree"=Z (Z (.ref M)))(ap:W.findIn K (.ref a) "__setattr__"=Z (Z (.builtin "object.__setattr__")))(aq:aBU K a=true)(ar:W.takerIn K a "at"=Z Y)(au:W.hasDictIn K a=true)(av:W.findIn K (.ref a) "at"=Z Y)(v50:W.keepIn K (.ref a)=true)(v51:KD K a=true)(aw:W.findIn K (.ref a) "__init__"=Z (Z (.ref v)))(ax:K.lookup v=Z ⟨i,e,.func (W.fnOf "__init__" "NoTie.__init__" (eE fM) (bU fM) (aI fM) .none j k l f b m),g⟩)(ay:W.codeIn K b "NoTie.__init__"=true)(az:W.keepIn K (.ref v)=true)(b0:W.isFn K (.ref v)=true)(v57:W.excIn K y bmV "ValueError.__new__"=true)(v58:W.findIn K (.ref c) "weights"=Z Y)(b1:W.findIn K (.ref c) "__init__"=Z (Z (.ref x)))(b2:K.lookup x=Z ⟨q,n,.func (W.fnOf "__init__" "Web.__init__" (eE iH) (bU iH) (aI iH) .none r s t o d u),p⟩)(b3:W.codeIn K d "Web.__init__"=true)(b4:W.keepIn K (.ref x)=true)(b5:W.isFn K (.ref x)=true)(v64:W.makesIn K c=true)(v65:W.keepIn K (.ref c)=true)(v66:Def K mg "_law_deck" pF)(v67:Def K mg "_law_ties" oJ)(v68:Def K mg "_law_great" mW)(v69:Def K mg "is_whole" sA)(v70:Def K mg "is_row" zB)(v71:Def K mg "common" xZ)(v72:Def K mg "is_row_of" pM)(v73:Def K mg "has_amount_numbers" eW)(v74:Def K mg "is_in_parts" lH)(v75:Def K mg "is_weight" pZ)(v76:Def K mg "is_place" rP)(v77:Def K mg "are_unlike_places" fN)(v78:Def K mg "is_between_places" fO)(v79:Def K mg "is_tie" yD)(v80:Def K mg "kept_ties" pY)(v81:Def K mg "text_of" vG)(v82:Def K mg "amount_text" kZ)(v83:Def K mg "row_line" sC)(v84:Def K mg "show_web" sD)(v85:Def K mg "_law_loose" nA)(v86:Def K mg "said_lines" nF)(v87:Def K mg "number_of" pB)(v88:Def K mg "place_of" qW)(v89:Def K mg "many_in" vD)(v90:Def K mg "is_amount" pU)(v91:Def K mg "amount_of" oG)(v92:Def K mg "row_in" yR)(v93:Def K mg "read_web" rV)(v94:Def K mg "_law_lowest" lF)(v95:Def K mg "_law_any" rS)(v96:Def K mg "_law_drawn" nE)(v97:Def K mg "_law_places" kT)(v98:Def K mg "read_rows" pG)(v99:Def K mg "side_in" uT)(v100:Def K mg "read_sides" nM)(v101:Def K mg "show_sides" mP)(v102:Def K mg "read_flow" oX)(v103:Def K mg "show_flow" pK)(v104:Def K mg "read_tree" oV)(v105:Def K mg "show_tree" pN)(v106:Def K mg "law" RT):Txt K mg:=by
 cases jW N;cases jW O;cases jW Q;cases jW R;cases jW S;cases jW T;cases jW U;cases jW V;cases jW a0;exact⟨(dG (E8 X G v0)<|dG (E8 X G v1)<|dG (E8 X G v2)<|dG (E8 X G v3)<|dG (E8 X G v4)<|dG (E8 X G v5)<|dG (E8 X G v6)<|dG (E8 X G v7)<|dG (E8 X G v8)<|dG (E8 X G v9)<|dG (E8 X G a1)<|dG (E8 X G a2)<|dG (E8 X G a3) aEN),⟨_,I0 X G a4⟩,⟨_,I0 X G a5⟩,⟨_,I0 X G a6⟩,⟨_,I0 X G a7⟩,⟨_,I0 X G a8⟩,⟨_,I0 X G a9⟩,I0 X G N,⟨⟨aa,ab,ac,ae⟩,af,ag,ah,ai⟩,I0 X G O,⟨aj,ak,am,ao⟩,v33,v34,I0 X G Q,v36,v37,v38,I0 X G R,I0 X G S,I0 X G T,I0 X G U,I0 X G V,I0 X G a0,⟨ap,aq,ar,au,av⟩,v50,v51,YI rfl aw ax ay az b0,v57,v58,YI rfl b1 b2 b3 b4 b5,v64,v65,v66,v67,v68,v69,v70,v71,v72,v73,v74,v75,v76,v77,v78,v79,v80,v81,v82,v83,v84,v85,v86,v87,v88,v89,v90,v91,v92,v93,v94,v95,v96,v97,v98,v99,v100,v101,v102,v103,v104,v105,v106⟩
end
end Q71
end
end
section
namespace Q71
variable{L M M' N:Sto}{γ γ' γ1 γ2:Ga}{c d m v:Nat}{J a b i j n p y z:Int}{l sep w x:Str}{ts us vs:Tv Tie}{xs:T6}{e f f3 f4 g:EF}{ns:T7}{fa:AF}{ds ys:T4}{s:Tie}{r:Ua}{F Fs:FN}{g3:Te}
open PySem PySem.Spec PyProof.Rows L2
local macro_rules | `(tactic| simp! [$a,*]) => `(tactic| simp only [fnF, fnX, tU, ZV, PF, aLx, aNC, YO, aIT, aND, liA, liE, liS, JK, aCx, aEA, aNU, aDB, setG, aNM, aKO, bF, sIf, bP, aNr, cV, aZ, tX, br, iG, bC, gG, hSub, gOr, yE, qG, gB, vZ, aFy, aL, aA, aF, aB, fC, fOp, fUn, qE, fOr, aHb, fIf, pO, asB, eF, dP, yN, nB, aEH, VT, pI, ifS, aLG, yW, mR, bR, bB, wJ, ltI, leI, gtI, geI, Option.bind_some, Option.bind_none, Option.map_some, List.getElem?_cons_zero, List.getElem?_cons_succ, List.length_cons, List.length_nil, List.set_cons_zero, List.set_cons_succ, List.map_cons, List.map_nil, List.replicate_zero, List.replicate_succ, List.cons_append, List.nil_append, List.append_nil, if_true, ite_true, ite_false, Nat.reduceAdd, Nat.reduceSub, reduceIte, Bool.not_true, Bool.not_false, Bool.false_eq_true, $a,*])
noncomputable def wH:Ua->Bool
 |.int _=>true
 |_=>false
noncomputable def aDi:Ua->Bool
 |.list _=>true
 |.tuple _=>true
 |_=>false
def lE(x:Ua)(M:Sto):gS [.d x] M=Z (.d (.bool (wH x)),M):=by cases x<;>rfl
def aDF(x:Ua)(M:Sto):xD [.d x] M=Z (.d (.bool (aDi x)),M):=by cases x<;>rfl
def jG(d:Ua)(n:Int):Bool:=match bW d with
 |some ds=>((ds.length:Int)==n)
 |none=>false
def gY(x:Ua)(n:Int)(M:Sto):lL [.d x,.d (.int n)] M=Z (.d (.bool (jG x n)),M):=by cases x<;>rfl
def PH(x y:Int):Int.gcd y (x % y)=Int.gcd x y:=by
 rw[Int.gcd_comm x y];have:x % y=x-y*(x / y):=by have:=Int.emod_add_mul_ediv x y;omega
 rw[this];simp
noncomputable abbrev I(n:Int):CD:=.d (.int n)
def iV{x:Int}(h:0<y):sR x y=true:=by simp[sR,h]
theorem zX(M:Sto):∀(n:Nat)(x y:Int),0<=x->0<=y->y.toNat<n->
 fX (vZ<|aB 1) (GU 0 1<|aA (aB 1)<|aA (fOp bB (aB 0)<|aB 1) aF) n [Z (I x),Z<|I y] M=Z (.nx [Z (I<|Int.gcd x y),Z<|I 0],M)
 |0=>λ_ _ _ _ h=>by omega
 |n+1=>λx y t o h=>by
  by_cases e:y=0
  .subst e;have:(Int.gcd x 0:Int)=x:=by rw[Int.gcd_zero_right];omega
   rw[this];rfl
  .have k:0<y:=by omega
   have ih:=zX M n y (x % y) o (C8 _ e) (by have:=C5 x k;omega);rw[PH]at ih;rw[<- ih];have q:(y != 0)=true:=by simp[e]
   simp only[fX,vZ,aB,aFy,GU,aA,fOp,aF,bB,pI,ifS,iV k,q,Option.bind,List.getElem?_cons_succ,List.getElem?_cons_zero,if_true,List.set]
def OG(M:Sto)(ha:0<=a)(k:0<=b):rQ [I a,I b] M=Z (I<|Int.gcd a b,M):=by
 have h:uY [Z (I a),Z<|I b] M=_:=OO<|zX M (b.toNat+1) a b ha k<|F6 _;show((bF uY _ [Z (I a),Z<|I b] M).bind _)=_;unfold bF;rw[h];rfl
noncomputable abbrev B(b:Bool):CD:=.d (.bool b)
def qZ(d:Ua):Bool:=match bW d with
 |some [.int a,.int b]=>decide (0<=a)&&decide (1<=b)
 |_=>false
def aEO{x:Ua}(h:jG x 2=true):∃a b,x=.list [a,b]\/x=.tuple [a,b]:=by
 unfold jG at h;cases x with
 |list ds=>
  have h:((ds.length:Int)==2)=true:=h;obtain _|⟨a,_|⟨b,_|⟨c,r⟩⟩⟩:=ds
  .simp at h
  .simp at h
  .exact⟨a,b,.inl rfl⟩
  .simp at h;omega
 |tuple ds=>
  have h:((ds.length:Int)==2)=true:=h;obtain _|⟨a,_|⟨b,_|⟨c,r⟩⟩⟩:=ds
  .simp at h
  .simp at h
  .exact⟨a,b,.inr rfl⟩
  .simp at h;omega
 |_=>simp[bW]at h
def RQ{x:Ua}(h:jG x 2=false):qZ x=false:=by
 unfold qZ;unfold jG at h;cases q:bW x with
 |none=>rfl
 |some ds=>
  rw[q]at h;obtain _|⟨a,_|⟨b,_|⟨c,r⟩⟩⟩:=ds
  .rfl
  .cases a<;>rfl
  .simp at h
  .cases a<;>cases b<;>rfl
def aOr{a b:Ua}:ixF (.d (.list [a,b])) (I 0) M=Z (.d a,M):=rfl
def aOk{a b:Ua}:ixF (.d (.list [a,b])) (I 1) M=Z (.d b,M):=rfl
def aNQ{a b:Ua}:ixF (.d (.tuple [a,b])) (I 0) M=Z (.d a,M):=rfl
def aNZ{a b:Ua}:ixF (.d (.tuple [a,b])) (I 1) M=Z (.d b,M):=rfl
def aNs{p:Bool}:(if p=true then Z (B q,M)else Z (B false,M))=Z (B (p&&q),M):=by cases p<;>rfl
def cT(x:Ua)(M:Sto):bM [.d x] M=Z (B<|qZ x,M):=by
 cases h:jG x 2 with
 |false=>
  rw[RQ h];simp![bM,cR,gY,h]
 |true=>
  obtain⟨a,b,rfl|rfl⟩:=aEO h
  .cases a<;>cases b<;>first|rfl|(rename_i a b;simp![bM,cR,gY,h,lE,aOr,aOk,wH,aNs];rfl)
  .cases a<;>cases b<;>first|rfl|(rename_i a b;simp![bM,cR,gY,h,lE,aNQ,aNZ,wH,aNs];rfl)
noncomputable def P(k:Bool)(a b:Int):Ua:=if k then .list [.int a,.int b]else .tuple [.int a,.int b]
def aLQ:ixF (.d (P k a b)) (I 0) M=Z (I a,M):=by cases k<;>rfl
def aNx:ixF (.d (P k a b)) (I 1) M=Z (I b,M):=by cases k<;>rfl
def MM:eqX false (I i) (I j) M=Z (B (i==j),M):=rfl
def aNy:eqX true (I i) (I j) M=Z (B (!(i==j)),M):=rfl
def rO:bY (I i) (I j) M=Z (I (i+j),M):=rfl
def aCC:qZ (P k a b)=(decide (0<=a)&&decide (1<=b)):=by cases k<;>rfl
def aOm(n m:Nat):((n:Int)==(m:Int))=(n==m):=by
 rw[Z1];simp;omega
noncomputable def fR(a b:Int):Bool:=decide (0<=a)&&decide (1<=b)&&(55440 % b==0)&&(Int.gcd a b==1)&&decide (a<=1000000000000)
def uD(k:Bool)(a b:Int)(M:Sto):dD [.d (P k a b)] M=Z (B (decide (0<=a)&&decide (1<=b)&&(55440 % b==0)&&(Int.gcd a b==1)),M):=by
 cases h:(decide (0<=a)&&decide (1<=b))with
 |false=>
  simp![dD,eR,cT,aCC,h,Bool.false_and]
 |true=>
  have o:=h;rw[B8]at h;have t:=D4 h.1;have u:=D4 h.2;have hm:sR 55440 b=true:=iV (by omega);cases q:(55440 % b==0)with
  |false=>simp![dD,eR,cT,aCC,o,aLQ,aNx,hm,MM,q,Bool.true_and,Bool.false_and]
  |true=>
   simp![dD,eR,cT,aCC,o,aLQ,aNx,hm,MM,q,Bool.true_and,OG M t<|Int.le_trans (by decide) u];rw[show(1:Int)=((1:Nat):Int)from rfl,aOm]
def NX(k:Bool)(a b:Int)(M:Sto):fF [.d (P k a b)] M=Z (B<|fR a b,M):=by
 cases h:(decide (0<=a)&&decide (1<=b)&&(55440 % b==0)&&(Int.gcd a b==1))with
 |false=>
  have e:fR a b=false:=by unfold fR;rw[h];rfl
  rw[e];simp![fF,jE,uD,h]
 |true=>
  have e:fR a b=decide (a<=1000000000000):=by unfold fR;rw[h];rfl
  rw[e];simp![fF,jE,uD,h,aLQ]
theorem FQ(M:Sto)(a b:Int):∀(n:Nat)(x y:Int),0<=x->0<=y->y.toNat<n->
 fX (gB<|fOp gtI (aB 3)<|fC (.int 0)) (GU 2 3<|aA (aB 3)<|aA (fOp bB (aB 2)<|aB 3) aF) n [Z (I a),Z<|I b,Z<|I x,Z<|I y] M=Z (.nx [Z (I a),Z<|I b,Z<|I<|Int.gcd x y,Z<|I 0],M)
 |0=>λ_ _ _ _ h=>by omega
 |n+1=>λx y t o h=>by
  by_cases e:y=0
  .subst e;have:(Int.gcd x 0:Int)=x:=by rw[Int.gcd_zero_right];omega
   rw[this];rfl
  .have k:0<y:=by omega
   have ih:=FQ M a b n y (x % y) o (C8 _ e) (by have:=C5 x k;omega);rw[PH]at ih;rw[<- ih];have q:decide (0<y)=true:=C7 k;simp![fX,GU,iV k,q]
def WW(h:1<=b):1<=(Int.gcd a b:Int):=by
 have:Int.gcd a b≠0:=λz=>by have:=(Int.gcd_eq_zero_iff.mp z).2;omega
 omega
def aLH(h:1<=b):(Int.gcd a b:Int)<=b:=Int.le_of_dvd (by omega)<|Int.gcd_dvd_right a b
def wsm(h:0<=y)(o:y<2 ^ 200):y.natAbs<AA:=by
 have k:y.natAbs<2 ^ 200:=by omega
 exact C2 k<|Nat.pow_le_pow_right (by decide) (by decide)
def BH{x:Int}(h:0<y)(k:y.natAbs<AA):zQ x y=true:=by simp[zQ,h,k]
def aDK(M:Sto)(ha:0<=a)(k:1<=b)(o:b.natAbs<AA):iT [I a,I b] M=Z (.d (.tuple [.int (a / (Int.gcd a b:Int)),.int (b / (Int.gcd a b:Int))]),M):=by
 have h:qD [Z (I a),Z<|I b,Z<|I a,Z<|I b] M=_:=OO<|FQ M a b (b.toNat+1) a b ha (by omega)<|F6 _;have t:=WW (a:=a) k;have u:=aLH (a:=a) k;have q:∀x,zQ x (Int.gcd a b:Int)=true:=λx=>BH (by omega)<|Nat.lt_of_le_of_lt (by omega) o;have sz:(2:Nat)<=ba:=by decide
 simp![iT,mY,GU,h,q,sz]
def aNp(h:fR a b=true):0<=a/\a<=1000000000000/\1<=b/\b<=55440:=by
 unfold fR at h;simp only[Bool.and_eq_true,decide_eq_true_eq,beq_iff_eq]at h;obtain⟨⟨⟨⟨k,o⟩,q⟩,_⟩,t⟩:=h;exact⟨k,t,o,Int.le_of_dvd (by decide)<|Int.dvd_of_emod_eq_zero q⟩
def jS(x:Ua):Bool:=match bW x with
 |some [.int a,.int b]=>fR a b
 |_=>false
noncomputable def R2'(k:Bool)(p q:Ua):Ua:=if k then .list [p,q]else .tuple [p,q]
def aBo(k:Bool)(p q:Ua):bW (R2' k p q)=Z [p,q]:=by cases k<;>rfl
def aFI{x:Ua}(h:jG x 2=true):∃k p q,x=R2' k p q:=by
 obtain⟨a,b,rfl|rfl⟩:=aEO h
 .exact⟨true,a,b,rfl⟩
 .exact⟨false,a,b,rfl⟩
def aHt{x:Ua}(h:qZ x=true):∃k a b,x=P k a b:=by
 have o:jG x 2=true:=by
  cases e:jG x 2 with
  |true=>rfl
  |false=>rw[RQ e]at h;cases h
 obtain⟨k,p,q,rfl⟩:=aFI o;unfold qZ at h;rw[aBo]at h;cases p<;>cases q<;>first|exact⟨k,_,_,rfl⟩|simp at h
def aGJ(k:Bool)(a b:Int):jS (P k a b)=fR a b:=by cases k<;>rfl
def OI{x:Ua}(h:qZ x=false):jS x=false:=by
 unfold qZ at h;unfold jS;split
 .rename_i a b e;rw[e]at h;dsimp only at h;unfold fR;rw[h];rfl
 .rfl
def OT(x:Ua)(M:Sto):fF [.d x] M=Z (B<|jS x,M):=by
 cases h:qZ x with
 |false=>
  rw[OI h];have e:dD [.d x] M=Z (B false,M):=by simp![dD,eR,cT,h]
  simp![fF,jE,e]
 |true=>
  obtain⟨k,a,b,rfl⟩:=aHt h;rw[aGJ];exact NX k a b M
theorem qQ:∀ds:T4,nB (ds.map .d)=Z ds
 |[]=>rfl
 |d::ds=>by
  show(nB<|ds.map .d).map (d::·)=_;rw[qQ ds];rfl
structure Tie where
 i:Int
 j:Int
 a:Int
 b:Int
deriving DecidableEq
noncomputable def Tie.key(t:Tie):Tv Key:=[.inl t.i,.inl t.j]
noncomputable def Tie.val(t:Tie):CD:=.d (.tuple [.int t.a,.int t.b])
def bI(ts:Tv Tie):Tv (Tv Key×CD):=ts.map λt=>(t.key,t.val)
def aHz{ts:Tv Tie}{t:Tie}(h:∀s∈ts,s.key≠t.key):lkC (bI ts) t.key=Y:=by
 unfold lkC bI;rw[List.find?_map];have:List.find? ((λk=>decide (k.1=t.key)) ∘ λs:Tie=>(s.key,s.val)) ts=Y:=List.find?_eq_none.mpr λs hs=>by simpa using h s hs
 rw[this];rfl
def XI{ts:Tv Tie}{t:Tie}(h:∀s∈ts,s.key≠t.key):putD (bI ts) t.key t.val=bI (ts++[t]):=by
 unfold putD
 have:((bI ts).any λk=>decide (k.1=t.key))=false:=by
  rw[bI,List.any_map];exact List.any_eq_false.mpr λs hs=>by simpa using h s hs
 rw[this,A5 A8];unfold bI;rw[D0];rfl
def sz{n:Nat}(hn:n<=1000):n<=ba:=by rw[E4];exact C6 hn (by decide)
noncomputable def f1(t:Tie):T4:=[.tuple [.int t.i,.int t.j],.tuple [.int t.a,.int t.b]]
noncomputable def f2(t:Tie):T4:=[.int t.i,.int t.j,.tuple [.int t.a,.int t.b]]
def RY{c d:Int}:bp (.tuple [.int a,.int b]) (.tuple [.int c,.int d])=(a==c&&(b==d&&true)):=rfl
def qV{f:Tie->T4}{i:Nat}(h:i<us.length):(us.map f).getD i []=f us[i]:=by grind
noncomputable def t0:Tie:=⟨0,0,0,0⟩
def IP(us:Tv Tie):(List.range us.length).map (λi=>us.getD i t0)=us:=by
 refine List.ext_getElem? λi=>?_;rw[D3];by_cases h:i<us.length
 .rw[List.getElem?_range h,C4 h];show Z (us.getD i t0)=_;rw[D2,C4 h];rfl
 .rw[Z5 (by grind),Z5 (by omega)];rfl
def JI{i:Nat}(h:i<us.length):us.getD i t0=us[i]:=by grind
noncomputable def big(t:Tie):Bool:=decide (t.a > 0)
def dZ(vs:Tv Tie):T4:=(vs.filter big).map λt=>.tuple (f2 t)
def CG{f:AF}{g:GF}{c:TF}{M1 M2:Sto}(it:f γ M=Z (xs,M1))(k:xs.length<=ba)(e:lcF g c h xs (lJ cap γ) M1=Z (ds.map .d,M2))(hd:ds.length<=ba):fLc cap f g c h γ M=Z (.d (.list ds),M2):=by
 have o:OH cap f g c h γ M=Z (ds.map .d,M2):=by
  unfold OH;rw[it,A2,A4 k];exact e
 show(OH cap f g c h γ M).bind _=_;rw[o,A2,qQ,A2,A4 hd]
abbrev kG:GF:=iG 2<|bC (iG 2<|bC (br 0)<|bC (br 1) gG)<|bC (br 2) gG
abbrev kC:TF:=gB<|fOp gtI (fOp ixF (aB 2)<|fC (.int 0))<|fC (.int 0)
abbrev kE:EF:=eF<|aA (aB 0)<|aA (aB 1)<|aA (aB 2) aF
theorem HL{M:Sto}:∀(vs:Tv Tie)(s1 s2 s3:Te),lcF kG kC kE (vs.map λt=>.d (.tuple (f1 t))) [s1,s2,s3] M=Z ((dZ vs).map .d,M)
 |[]=>λ_ _ _=>rfl
 |t::vs=>λs1 s2 s3=>by
  have ih:=HL (M:=M) vs (Z<|I t.i) (Z<|I t.j)<|Z (.d (.tuple [.int t.a,.int t.b]));have k:kG (.d (.tuple (f1 t))) [s1,s2,s3] M=Z ([Z (I t.i),Z<|I t.j,Z (.d (.tuple [.int t.a,.int t.b]))],M):=rfl;have o:kC [Z (I t.i),Z<|I t.j,Z (.d (.tuple [.int t.a,.int t.b]))] M=Z (big t,M):=rfl
  have q:kE [Z (I t.i),Z<|I t.j,Z (.d (.tuple [.int t.a,.int t.b]))] M=Z (.d (.tuple (f2 t)),M):=by
   have u:3<=ba:=sz (by decide);simp![kE,f2,if_pos u,Nat.zero_add]
  rw[B2];unfold lcF;rw[k,A2];rw[o,A2];by_cases h:big t=true
  .rw[A4 h,q,A2];rw[ih,A2];unfold dZ;rw[U4 h];rfl
  .rw[A5 h,ih];unfold dZ;rw[U5 h]
theorem RL:∀us:Tv Tie,PQ (bI us)=Z (us.map λt=>(t.key,.tuple [.int t.a,.int t.b]))
 |[]=>rfl
 |t::us=>by
  show(PQ<|bI us).bind _=_;rw[RL us];rfl
def aFR(us:Tv Tie):(us.map λt=>(t.key,PyData.tuple [.int t.a,.int t.b])).map OC=us.map f1:=by
 rw[B7];rfl
def aCw(h:vs.length<=1000):(dZ vs).length<=ba:=by
 unfold dZ;rw[A1];exact sz<|C6 (Y1 ..) h
def bG(us:Tv Tie):T4:=us.map λt=>.tuple (f2 t)
def Ok(n:Int)(us:Tv Tie):Prop:=(∀t∈us,fR t.a t.b=true/\0<=t.i/\t.i<t.j/\t.j<n)/\(us.map Tie.key).Nodup/\us.length<64
def UZ(nd:(us.map Tie.key).Nodup):((us.filter big).map Tie.key).Nodup:=(List.filter_sublist.map Tie.key).nodup nd
theorem NT{N:Sto}:∀(ws ts:Tv Tie)(s1 s2 s3:Te),((ts++ws).map Tie.key).Nodup->ts.length+ws.length<1000->
 dcF N.length (iG 3<|bC (br 0)<|bC (br 1)<|bC (br 2) gG) eP (BA<|aA (aB 0)<|aA (aB 1) aF) (aB 2) ((bG ws).map .d) [s1,s2,s3] (N++[.dt (bI ts)])=Z (N++[.dt (bI (ts++ws))])
 |[]=>λts _ _ _ _ _=>by rw[D8];rfl
 |t::ws=>λts s1 s2 s3 nd B=>by
  have h:∀s∈ts,s.key≠t.key:=λs hs q=>by
   rw[D0,List.nodup_append]at nd;exact nd.2.2 _ (List.mem_map_of_mem hs) _ (by simp) q
  have ih:=NT (N:=N) ws (ts++[t]) (Z<|I t.i) (Z<|I t.j) (Z t.val) (by grind) (by grind);have k:(N++[.dt (bI ts)])[N.length]?=Z (.dt (bI ts)):=by simp
  have len:(bI ts).length<ba:=by unfold bI;rw[A1,E4];omega
  have st:FU (N++[.dt (bI ts)]) (.c N.length) (.inr t.key) t.val=Z (N++[.dt (bI (ts++[t]))]):=by
   simp only[FU,k,if_pos len,XI h];rw[List.set_append_right _ _ (A7 _),O2];rfl
  have o:(Tie.key t).length<=ba:=sz (show 2<=1000 by decide)
  have u:BA (aA (aB 0)<|aA (aB 1) aF) [Z (I t.i),Z<|I t.j,Z t.val] (N++[.dt (bI ts)])=Z (.inr t.key,N++[.dt (bI ts)]):=by
   have A:keysOf [I t.i,I t.j]=Z t.key:=rfl;simp![BA,A,if_pos o]
  show dcF _ _ _ _ _ (.d (.tuple (f2 t))::(bG ws).map .d) [s1,s2,s3] _=_;unfold dcF;rw[show iG 3 (bC (br 0)<|bC (br 1)<|bC (br 2) gG) (.d (.tuple (f2 t))) [s1,s2,s3] (N++[.dt (bI ts)])=Z ([Z (I t.i),Z<|I t.j,Z t.val],N++[.dt (bI ts)])from rfl,A2];rw[show eP [Z (I t.i),Z<|I t.j,Z t.val] (N++[.dt (bI ts)])=Z (true,N++[.dt (bI ts)])from rfl,A2];rw[A4 rfl,u,A2];rw[show aB 2 [Z (I t.i),Z<|I t.j,Z t.val] (N++[.dt (bI ts)])=Z (t.val,N++[.dt (bI ts)])from rfl,A2];rw[st,A2,ih,E2];rfl
def tI(w:Nat)(n:Int)(vs:Tv Tie):Cell:=.obj "Web" [("many",I n),("ties",.d (.tuple (dZ vs))),("weights",.c (w+2))]
def tL(w:Nat)(n:Int)(us vs:Tv Tie):Tv Cell:=[tI w n vs,.dt (bI us),.dt (bI<|vs.filter big)]
def SM{fs:Tu}:objOf "Web" (M++(.obj "Web" fs::L)) (.c M.length)=Z (M.length,fs):=by
 have:(M++(Cell.obj "Web" fs::L))[M.length]?=Z (.obj "Web" fs):=by simp
 simp only[objOf,this,if_true]
def MD{c c':Cell}:(M++(c::L)).set M.length c'=M++(c'::L):=by grind
noncomputable def R3(k:Bool)(p q w:Ua):Ua:=if k then .list [p,q,w]else .tuple [p,q,w]
def xJ(k:Bool)(p q w:Ua):bW (R3 k p q w)=Z [p,q,w]:=by cases k<;>rfl
def aFx{x:Ua}(h:jG x 3=true):∃k p q w,x=R3 k p q w:=by
 have o:∀ds:T4,((ds.length:Int)==3)=true->∃p q w,ds=[p,q,w]:=λds h=>by
  match ds,h with
  |[p,q,w],_=>exact⟨p,q,w,rfl⟩
  |[],h=>exact absurd h (by decide)
  |[_],h=>exact absurd h (by simp)
  |[_,_],h=>exact absurd h (by simp)
  |_::_::_::_::r,h=>
   have:((r.length+1+1+1+1:Nat):Int)=3:=by grind
   omega
 cases x with
 |list ds=>obtain⟨p,q,w,rfl⟩:=o ds h;exact⟨true,p,q,w,rfl⟩
 |tuple ds=>obtain⟨p,q,w,rfl⟩:=o ds h;exact⟨false,p,q,w,rfl⟩
 |_=>cases h
noncomputable def plc(n:Int):Ua->Bool
 |.int i=>decide (0<=i)&&decide (i<n)
 |_=>false
def vL(n:Int)(p:Ua)(M:Sto):iR [I n,.d p] M=Z (B<|plc n p,M):=by
 cases h:wH p with
 |false=>
  have e:plc n p=false:=by cases p<;>first|rfl|cases h
  rw[e];simp![iR,oM,lE,h]
 |true=>
  obtain⟨i,rfl⟩:∃i,p=.int i:=by cases p<;>first|exact⟨_,rfl⟩|cases h
  have k:plc n (.int i)=(decide (0<=i)&&decide (i<n)):=rfl;rw[k];cases o:decide (0<=i)<;>simp![iR,oM,lE,h,o,Bool.true_and,Bool.false_and]
def ulk(n:Int)(p q:Ua):Bool:=match p,q with
 |.int i,.int j=>plc n p&&(plc n q&&!(i==j))
 |_,_=>false
def BL{p:Ua}(h:plc n p=true):∃i,p=.int i/\0<=i/\i<n:=by
 cases p with
 |int i=>simp only[plc,Bool.and_eq_true,decide_eq_true_eq]at h;exact⟨i,rfl,h.1,h.2⟩
 |_=>cases h
def aIJ(n:Int)(p q:Ua)(M:Sto):cJ [I n,.d p,.d q] M=Z (B<|ulk n p q,M):=by
 cases h:plc n p with
 |false=>
  have e:ulk n p q=false:=by
   unfold ulk;split
   .rw[h];rfl
   .rfl
  rw[e];simp![cJ,dA,vL,h]
 |true=>
  obtain⟨i,rfl,_⟩:=BL h;cases k:plc n q with
  |false=>
   have e:ulk n (.int i) q=false:=by
    unfold ulk;split
    .rw[k,Bool.false_and,Bool.and_false]
    .rfl
   rw[e];simp![cJ,dA,vL,h,k]
  |true=>
   obtain⟨j,rfl,_⟩:=BL k;have e:ulk n (.int i) (.int j)=!(i==j):=by show(plc n (.int i)&&(plc n (.int j)&&!(i==j)))=_;rw[h,k];rfl
   rw[e];simp![cJ,dA,vL,h,k,aNy]
def jN(n:Int)(r:Ua):Tw Tie:=match bW r with
 |some [.int i,.int j,w]=>match bW w with
  |some [.int a,.int b]=>if 0<=i/\i<j/\j<n/\fR a b=true then Z ⟨i,j,a,b⟩else Y
  |_=>Y
 |_=>Y
def aAs{w:Ua}(h:jS w=true):∃a b,bW w=Z [.int a,.int b]/\fR a b=true:=by
 unfold jS at h;split at h
 .rename_i a b e;exact⟨a,b,e,h⟩
 .cases h
def WH{w:Ua}(k:bW r=Z [.int i,.int j,w])(o:bW w=Z [.int a,.int b])(h:0<=i/\i<j/\j<n/\fR a b=true):jN n r=Z ⟨i,j,a,b⟩:=by
 unfold jN;rw[k];dsimp only;rw[o];dsimp only;rw[A4 h]
def xE{t:Tie}(h:jN n r=Z t):∃w,bW r=Z [.int t.i,.int t.j,w]/\bW w=Z [.int t.a,.int t.b]/\0<=t.i/\t.i<t.j/\t.j<n/\fR t.a t.b=true:=by
 unfold jN at h;split at h
 .rename_i i j w k;split at h
  .rename_i a b o;split at h
   .rename_i c;cases h;exact⟨w,k,o,c⟩
   .cases h
  .cases h
 .cases h
def ix3(k:Bool)(p q w:Ua)(M:Sto):ixF (.d (R3 k p q w)) (I 0) M=Z (.d p,M)/\ixF (.d (R3 k p q w)) (I 1) M=Z (.d q,M)/\ixF (.d (R3 k p q w)) (I 2) M=Z (.d w,M):=by cases k<;>exact⟨rfl,rfl,rfl⟩
def aEx(n:Int)(r:Ua)(M:Sto):kP [I n,.d r] M=Z (B (jN n r).isSome,M):=by
 cases C:jG r 3 with
 |false=>
  have e:jN n r=Y:=by
   cases h:jN n r with
   |none=>rfl
   |some t=>
    obtain⟨w,o,_⟩:=xE h;unfold jG at C;rw[o]at C;cases C
  have A:bQ [I n,.d r] M=Z (B false,M):=by
   simp![bQ,cZ,gY,C]
  rw[e];simp![kP,nP,A,Option.isSome_none]
 |true=>
  obtain⟨k,p,q,w,rfl⟩:=aFx C;obtain⟨K,O,Q⟩:=ix3 k p q w M;cases u:ulk n p q with
  |false=>
   have e:jN n (R3 k p q w)=Y:=by
    cases h:jN n (R3 k p q w)with
    |none=>rfl
    |some t=>
     obtain⟨P,o,_,G,E,jn,_⟩:=xE h;rw[xJ]at o;cases o
     have:ulk n (.int t.i) (.int t.j)=true:=by
      have ne:(!(t.i==t.j))=true:=by grind
      show(plc n (.int t.i)&&(plc n (.int t.j)&&!(t.i==t.j)))=true;rw[ne];simp only[plc,decide_eq_true G,decide_eq_true jn,decide_eq_true (show t.i<n by omega),decide_eq_true (show(0:Int)<=t.j by omega),Bool.true_and]
     rw[this]at u;cases u
   have A:bQ [I n,.d (R3 k p q w)] M=Z (B false,M):=by
    simp![bQ,cZ,gY,C,K,O,aIJ,u]
   rw[e];simp![kP,nP,A,Option.isSome_none]
  |true=>
   obtain⟨i,j,rfl,rfl,G,jn⟩:∃i j,p=.int i/\q=.int j/\0<=i/\j<n:=by
    unfold ulk at u;split at u
    .rename_i i j;rw[B8,B8]at u;obtain⟨i',R,S,_⟩:=BL u.1;obtain⟨j',T,_,U⟩:=BL u.2.1;cases R;cases T;exact⟨i,j,rfl,rfl,S,U⟩
    .cases u
   have A:bQ [I n,.d (R3 k (.int i) (.int j) w)] M=Z (B<|decide (i<j),M):=by
    simp![bQ,cZ,gY,C,K,O,aIJ,u]
   cases E:decide (i<j)with
   |false=>
    have e:jN n (R3 k (.int i) (.int j) w)=Y:=by
     cases h:jN n (R3 k (.int i) (.int j) w)with
     |none=>rfl
     |some t=>
      obtain⟨P,o,_,_,z,_⟩:=xE h;rw[xJ]at o;cases o;exact absurd z<|L0 E
    rw[E]at A;rw[e];simp![kP,nP,A,Option.isSome_none]
   |true=>
    rw[E]at A
    have e:(jN n<|R3 k (.int i) (.int j) w).isSome=jS w:=by
     cases D:jS w with
     |true=>
      obtain⟨a,b,V,W⟩:=aAs D;rw[WH (xJ ..) V ⟨G,D4 E,jn,W⟩];rfl
     |false=>
      cases h:jN n (R3 k (.int i) (.int j) w)with
      |none=>rfl
      |some t=>
       obtain⟨P,o,X,_,_,_,H⟩:=xE h;rw[xJ]at o;cases o;unfold jS at D;rw[X]at D;dsimp only at D;rw[H]at D;cases D
    rw[e];simp![kP,nP,A,Q,OT]
def Tie.lt(s t:Tie):Prop:=s.i<t.i\/(s.i=t.i/\s.j<t.j)
noncomputable instance(s t:Tie):Decidable (Tie.lt s t):=by unfold Tie.lt;infer_instance
def key_ne{t:Tie}(h:s.key≠t.key):¬(s.i=t.i/\s.j=t.j):=λ⟨a,b⟩=>h (by unfold Tie.key;rw[a,b])
def Tie.lt_tot{t:Tie}(h:s.key≠t.key)(n:¬Tie.lt t s):Tie.lt s t:=by
 have:=key_ne h;unfold Tie.lt at n ⊢;omega
def Tie.lt_tr(h:Tie.lt s t)(k:Tie.lt t u):Tie.lt s u:=by unfold Tie.lt at h k ⊢;omega
def Tie.lt_ir(h:Tie.lt s s):False:=by unfold Tie.lt at h;omega
theorem uK:∀{xs ys:Tv Tie},xs.Pairwise Tie.lt->ys.Pairwise Tie.lt->xs.Perm ys->xs=ys
 |[],ys=>λ_ _ p=>(List.nil_perm.mp p).symm
 |x::xs,[]=>λ_ _ p=>absurd p.length_eq (by simp)
 |x::xs,y::ys=>λh k p=>by
  obtain⟨o,q⟩:=List.pairwise_cons.mp h;obtain⟨t,u⟩:=List.pairwise_cons.mp k
  have e:x=y:=by
   have mx:x∈y::ys:=p.mem_iff.mp B0;have my:y∈x::xs:=p.mem_iff.mpr B0;obtain e|mx:=List.mem_cons.mp mx
   .exact e
   .obtain e|my:=List.mem_cons.mp my
    .exact e.symm
    .exact(Tie.lt_ir<|Tie.lt_tr (o y my)<|t x mx).elim
  subst e;rw[uK q u (List.perm_cons x |>.mp p)]
structure CM(f:Tie->T4):Prop where
 sh:∀t,(f t).all bo=true
 on:∀t,cB (f t)=true
 hd:∀us:Tv Tie,(iD (us.map f) || kK (us.map f))=true
 lt:∀s t,s.key≠t.key->cY (f s) (f t)=Z (decide<|Tie.lt s t)
 eq:∀s,(cY (f s)<|f s).isSome=true
def rf1:CM f1:=by
 refine⟨λt=>rfl,λt=>rfl,λus=>?_,λs t h=>?_,λs=>?_⟩
 .rw[A0b];exact .inr (by unfold kK;rw[List.all_map];exact List.all_eq_true.mpr λt _=>rfl)
 .have k:=key_ne h
  have e:(s.i==t.i&&(s.j==t.j&&true))=false:=by
   rw[Bool.and_true,Bool.and_eq_false_iff];by_cases q:s.i=t.i
   .exact .inr (by simpa using λz=>k ⟨q,z⟩)
   .exact .inl (by simpa using q)
  unfold f1 cY;rw[RY,e,A5 A8];show Z (HT.lexLt [s.i,s.j] [t.i,t.j])=_;congr 1;rw[HT.lexLt_cons,HT.lexLt_cons];by_cases q:s.i=t.i
  .have o:¬s.j=t.j:=λz=>k ⟨q,z⟩;rw[A4 q,A5 o];simp[Tie.lt,q]
  .rw[A5 q];simp[Tie.lt,q]
 .unfold f1 cY;rw[RY];simp only[beq_self_eq_true,Bool.and_true,if_true];unfold cY;rw[RY];simp only[beq_self_eq_true,Bool.and_true,if_true];rfl
noncomputable def f0(t:Tie):T4:=[.int t.i,.int t.j]
def rf0:CM f0:=by
 refine⟨λt=>rfl,λt=>rfl,λus=>?_,λs t h=>?_,λs=>?_⟩
 .rw[A0b];exact .inl (by unfold iD;rw[List.all_map];exact List.all_eq_true.mpr λt _=>rfl)
 .have k:=key_ne h;show(if (s.i==t.i)=true then(if (s.j==t.j)=true then cY [] []else Z<|decide (s.j<t.j))else Z<|decide (s.i<t.i))=_;by_cases e:s.i=t.i
  .have o:¬s.j=t.j:=λq=>k ⟨e,q⟩;rw[A4 (by simpa using e),A5 (by simpa using o)];congr 1;exact decide_eq_decide.mpr ⟨λq=>.inr ⟨e,q⟩,λq=>by obtain q|q:=q<;>omega⟩
  .rw[A5 (by simpa using e)];congr 1;exact decide_eq_decide.mpr ⟨λq=>.inl q,λq=>by obtain q|q:=q<;>omega⟩
 .show(if (s.i==s.i)=true then(if (s.j==s.j)=true then cY [] []else Z<|decide (s.j<s.j))else Z<|decide (s.i<s.i)).isSome=true;simp only[beq_self_eq_true,if_true];rfl
def YK(nd:(us.map Tie.key).Nodup){i j:Nat}(hi:i<us.length)(k:j<us.length)(h:i≠j):us[i].key≠us[j].key:=λq=>by
 have:=(List.getElem_inj (h₀:=by rw[A1];exact hi) (h₁:=by rw[A1];exact k) nd).mp (by rw[List.getElem_map,List.getElem_map];exact q);exact h this
def aOq{f:Tie->T4}(R:CM f)(nd:(us.map Tie.key).Nodup)(o:2<=us.length)(k:us.length<64):sortable (us.map f)=true:=by
 unfold sortable;rw[A1,C7 o,C7 k,R.hd us,Bool.true_and,Bool.true_and,Bool.and_true,B8];refine⟨List.all_eq_true.mpr λr u=>?_,List.all_eq_true.mpr λi hi=>List.all_eq_true.mpr λj h=>?_⟩
 .obtain⟨t,_,rfl⟩:=List.mem_map.mp u;rw[R.sh,R.on];rfl
 .have hi:=List.mem_range.mp hi;have h:=List.mem_range.mp h;rw[qV hi,qV h];by_cases q:i=j
  .subst q;exact R.eq _
  .rw[R.lt _ _ (YK nd hi h q)];rfl
def WT{f:Tie->T4}(R:CM f){i j:Nat}(hi:i<us.length)(h:j<us.length)(k:us[i].key≠us[j].key):dH (us.map f) i j=decide (Tie.lt us[i] us[j]):=by
 unfold dH;rw[qV hi,qV h,R.lt _ _ k];rfl
def IK{f:Tie->T4}(R:CM f)(nd:(us.map Tie.key).Nodup)(k:us.length<64):∃vs:Tv Tie,vs.Perm us/\vs.Pairwise Tie.lt/\sF (us.map f)=Z (vs.map λt=>.tuple (f t))/\(2<=us.length->JC (us.map f)=vs.map λt=>.tuple (f t))/\(us.length<2->vs=us):=by
 by_cases o:2<=us.length
 .have E:=aOq R nd o k;have pm:=lZ (n:=(us.map f).length) (dH<|us.map f) (by rw[A1];omega);have G:=GA E;rw[A1]at pm G;have mem:∀i∈cX (dH<|us.map f) us.length,i<us.length:=λi hi=>List.mem_range.mp (pm.mem_iff.mp hi)
  have H:JC (us.map f)=((cX (dH<|us.map f) us.length).map λi=>us.getD i t0).map λt=>.tuple (f t):=by
   unfold JC;rw[A1,B7];refine O8 λi hi=>?_;show PyData.tuple ((us.map f).getD i [])=.tuple (f<|us.getD i t0);rw[qV (mem i hi),JI<|mem i hi]
  refine⟨(cX (dH<|us.map f) us.length).map λi=>us.getD i t0,?_,?_,?_,λ_=>H,λq=>by omega⟩
  .have:=pm.map λi=>us.getD i t0
   rwa [IP]at this
  .rw[List.pairwise_map];have u:(cX (dH<|us.map f) us.length).Nodup:=pm.nodup_iff.mpr List.nodup_range;have len:(cX (dH<|us.map f) us.length).length=us.length:=by rw[pm.length_eq,Y2]
   rw[List.pairwise_iff_getElem];intro a b ha A B;have C:=mem _<|S0 ha;have D:=mem _<|S0 A
   have g:∀c (h:c<(cX (dH<|us.map f) us.length).length),(nR (dH<|us.map f)<|W.kas_sort us.length).getD c 0=(cX (dH<|us.map f) us.length)[c]:=λc h=>by
    unfold cX at h ⊢;rw[L5]at h;simp[Array.getD,h]
   have s1:=G a b B (by rw[<- len];exact A);rw[g a ha,g b A]at s1
   have ne:(cX (dH<|us.map f) us.length)[b]≠(cX (dH<|us.map f) us.length)[a]:=λq=>by
    have:=(List.getElem_inj u).mp q;omega
   have I:=YK nd D C ne;rw[WT R D C I]at s1;rw[JI C,JI D];exact Tie.lt_tot (J7 I)<|L0 s1
  .unfold sF;rw[E,A4 rfl,H]
 .have K:us.length<2:=by omega
  refine⟨us,.refl _,?_,?_,λq=>absurd q o,λ_=>rfl⟩
  .match us,K with
   |[],_=>exact .nil
   |[t],_=>exact List.pairwise_singleton _ _
  .unfold sF
   have:sortable (us.map f)=false:=by
    unfold sortable;rw[A1,C9 o];rfl
   rw[this,A5 A8,A1,A4 K,B7];rfl
abbrev Inn(n:Nat)(p:Int):Prop:=0<=p/\p<n
def jY{o:Type}{xs:Tv o}{k:Nat}{x:o}(h:xs[k]?=Z x):atI xs (k:Int)=Z x:=by
 have q:=(List.getElem?_eq_some_iff.mp h).1;unfold atI ixN;rw[A4 (Int.natCast_nonneg k),A4 (by omega),A2,Int.toNat_natCast,h]
def aV{f g:SF}(h:f γ M=Z (.nx γ',M')):bF f g γ M=g γ' M':=by
 unfold bF;rw[h,A2]
def bS{i:Nat}{x:CD}(h:f γ M=Z (x,M')):aZ f (br i) γ M=Z (.nx (γ.set i<|Z x),M'):=by
 unfold aZ;rw[h,A2];rfl
def fJ{ps N:Nat}{b:SF}{x:CD}(h:xs.length=ps)(k:b (xs.map Z++List.replicate (N-xs.length) Y) M=Z (.rt x,M')):fnF ps N b xs M=Z (x,M'):=by
 unfold fnF;rw[A4 h,k,A2]
def sH{f:AF}{g:GF}{b:SF}{M1:Sto}{r:Tw (Out×Sto)}(h:f γ M=Z (xs,M1))(k:wR g b xs γ M1=r):xO f g b γ M=r:=by
 unfold xO;rw[h,A2];exact k
def kN{g:GF}{b:SF}{x:CD}{M1 M2:Sto}(h:g x γ M=Z (γ1,M1))(k:b γ1 M1=Z (.nx γ2,M2)):wR g b (x::xs) γ M=wR g b xs γ2 M2:=by
 conv=>lhs;unfold wR
 rw[h,A2];dsimp only;rw[k,A2]
def sl_tup{lo:Tk}:slF (.d (.tuple ds)) lo hi M=Z (.d (.tuple (nT ds lo hi)),M):=rfl
def WM{xs:T4}(k:xs.length+ys.length<=1000):bY (.d (.tuple xs)) (.d (.tuple ys)) M=Z (.d (.tuple (xs++ys)),M):=by
 cases xs with
 |nil=>rfl
 |cons x xs=>
  have h:(x::xs:T4)≠[]/\(x::xs).length+ys.length<=ba:=⟨by simp,sz k⟩;show(if (x::xs:T4)≠[]/\(x::xs).length+ys.length<=ba then Z (CD.d (.tuple (x::xs++ys)),M)else Y)=_;rw[A4 h]
def KJ{o:Type}{ds:Tv o}{k m:Int}(hm:0<m)(u:(ds.length:Int)=m):∃d,atI ds (k % m)=Z d/\d∈ds:=by
 have A:=C8 k (show m≠0 by omega);have B:=C5 k hm;have h:(k % m).toNat<ds.length:=by omega
 obtain⟨q,t⟩:∃q:Nat,k % m=(q:Nat):=⟨(k % m).toNat,by omega⟩;rw[t]at h ⊢;exact⟨ds[q],jY<|C4 h,S0 h⟩
abbrev cI(xs:T7):Cell:=.lst (xs.map λi=>I i)
def Li(M:Sto)(c:Nat)(xs:T7):Prop:=M[c]?=Z (cI xs)
structure Oth(c:Nat)(M M':Sto):Prop where
 len:M'.length=M.length
 at_:∀i,i≠c->M'[i]?=M[i]?
def Li.lt{xs:T7}(h:Li M c xs):c<M.length:=(List.getElem?_eq_some_iff.mp h).1
def Li.set{xs ys:T7}(h:Li M c xs):Li (M.set c<|cI ys) c ys/\Oth c M (M.set c<|cI ys):=
 ⟨by unfold Li;rw[C3 h.lt],by rw[E1],λi hi=>by rw[B6 (J7 hi)]⟩
def Li.oth{xs:T7}(h:Li M c xs)(o:Oth d M M')(ne:c≠d):Li M' c xs:=by unfold Li;rw[o.at_ c ne];exact h
def Li.app{xs:T7}(h:Li M c xs):Li (M++L) c xs:=by unfold Li;rw[J0 h.lt];exact h
def Li.ty{xs:T7}(h:Li M c xs):tyB "list" M (.c c)=true:=by
 unfold Li at h;simp only[tyB,h];decide
def Li.ln{xs:T7}(h:Li M c xs):iA [.c c] M=Z (I xs.length,M):=by
 unfold Li at h;simp only[iA,h,List.length_map]
def aNL{o:Type}{xs:Tv o}(h:Inn xs.length p):∃z,atI xs p=Z z/\z∈xs:=by
 obtain⟨q,rfl⟩:∃q:Nat,p=(q:Nat):=⟨p.toNat,by omega⟩;have k:q<xs.length:=by omega
 exact⟨xs[q],jY<|C4 k,S0 k⟩
def Li.ix{xs:T7}(h:Li M c xs)(q:Inn xs.length p):∃z,ixF (.c c) (I p) M=Z (I z,M):=by
 obtain⟨z,k,o⟩:=aNL (xs:=xs.map λi=>I i) (by simp;omega);obtain⟨y,_,rfl⟩:=List.mem_map.mp o;refine⟨y,?_⟩;unfold Li at h;simp only[ixF,h,k,Option.bind_some]
def Li.put{xs:T7}(h:Li M c xs)(k:Inn xs.length p):∃ys,ys.length=xs.length/\tK (.c c) (I p) (I z) M=Z (M.set c<|cI ys):=by
 obtain⟨q,rfl⟩:∃q:Nat,p=(q:Nat):=⟨p.toNat,by omega⟩;refine⟨xs.set q z,by rw[E1],?_⟩
 have hn:ixN (xs.map λi=>I i).length (q:Int)=Z q:=by
  unfold ixN;rw[A4 (Int.natCast_nonneg q),A4 (by grind),Int.toNat_natCast]
 unfold Li at h;simp only[tK,h,hn,Option.bind_some,cI,List.map_set]
def Li.push{xs:T7}(h:Li M c xs)(k:xs.length<1000):iU (.c c) [I z] M=Z (.d .none,M.set c<|cI (xs++[z])):=by
 have l:(xs.map λi=>I i).length<ba:=by rw[A1,E4];omega
 unfold Li at h;simp only[iU,h,if_pos l,cI,List.map_append,List.map_singleton]
def Li.pop{xs:T7}(h:Li M c (xs++[z])):dU (.c c) [] M=Z (I z,M.set c<|cI xs):=by
 have k:((xs++[z]).map λi=>I i)[((xs++[z]).map λi=>I i).length-1]?=Z (I z):=by
  rw[A1,B9,F0,Nat.add_sub_cancel,D3,D7<|A7 _,O2];rfl
 have o:((xs++[z]).map λi=>I i).dropLast=xs.map λi=>I i:=by
  rw[D0,A0k,List.dropLast_concat]
 unfold Li at h;simp only[dU,h,k,o,Option.bind_some]
def Rn(x:Int):Prop:=0<=x/\x<2147483647
def aFd(h:0<b)(k:b<=2147483647):Rn (y % b):=⟨C8 _ (by omega),Int.lt_of_lt_of_le (C5 _ h) k⟩
def Dk(M:Sto)(c m:Nat):Prop:=∃xs,Li M c xs/\m<=xs.length/\∀x∈xs,Rn x
def Dk.app(h:Dk M c m):Dk (M++L) c m:=let⟨xs,a,b⟩:=h;⟨xs,a.app,b⟩
def Dk.pop(h:Dk M c (m+1)):∃z M',dU (.c c) [] M=Z (I z,M')/\Dk M' c m/\Oth c M M'/\Rn z:=by
 obtain⟨xs,a,b,r⟩:=h;obtain rfl|⟨ys,z,rfl⟩:=List.eq_nil_or_concat xs
 .simp at b
 .rw[List.concat_eq_append]at a b r;rw[B9,F0]at b;exact⟨z,_,a.pop,⟨ys,(a.set).1,by omega,λx k=>r x<|E5 _ k⟩,(a.set).2,r z (by simp)⟩
def Dk.ty(h:Dk M c m):tyB "list" M (.c c)=true:=let⟨_,a,_⟩:=h;a.ty
def Dk.oth(h:Dk M c m)(o:Oth d M M')(ne:c≠d):Dk M' c m:=let⟨xs,a,b⟩:=h;⟨xs,a.oth o ne,b⟩
def rM(lo:Int)(n:Nat):gO lo (n+1)=I lo::gO (lo+1) n:=by
 unfold gO;rw[List.range_succ_eq_map,B2,B7];refine congr (U3 List.cons ?_) (O8 λk _=>?_)
 .show CD.d (.int (lo+((0:Nat):Int)))=I lo;rw[show lo+((0:Nat):Int)=lo by omega]
 .show CD.d (.int (lo+((k+1:Nat):Int)))=.d (.int (lo+1+(k:Nat)));rw[show lo+((k+1:Nat):Int)=lo+1+(k:Nat)by omega]
def aFe(h:i.natAbs<2 ^ 64):nO i j=true:=by unfold nO;rw[C7 h];rfl
def mul_r(h:j.natAbs<2 ^ 64):nO i j=true:=by unfold nO;rw[C7 h,Bool.or_true];rfl
def nab(h:0<=z)(k:z<b)(o:b<=2 ^ 62):z.natAbs<2 ^ 64:=by omega
abbrev GD(s many:CD)(r d:Nat)(o:Int)(k at_ one:Te):Ga:=[Z s,Z many,Z (.c r),Z<|I o,Z (.c d),k,at_,one]
def aAg{s:CD}{r:Nat}{k:Int}{xs ds:T7}{g6:Te}(B:Li M r xs)(hd:Li M d ds)(ne:r≠d)(x0:0<xs.length)(T:ds.length<1000)(k0:0<=k)(k1:k<1000)(rd:∀x∈ds,Rn x):
 ∃C u H K M',eS (GD s many r d o (Z<|I k) g6 g7) M=Z (.nx (GD s many r d o (Z<|I k) H K),M')/\Li M' r C/\Li M' d u/\C.length=xs.length/\u.length=ds.length+1/\∀x∈u,Rn x:=by
 have t:∀y,Rn y->∀x∈ds++[y],Rn x:=λy V x W=>by
  obtain h|h:=List.mem_append.mp W
  .exact rd x h
  .rw[List.mem_singleton.mp h];exact V
 have ln:=B.ln;have O:=C8 k (show(xs.length:Int)≠0 by omega);have P:=C5 k (show(0:Int)<xs.length by omega);obtain⟨z,ix⟩:=B.ix ⟨O,P⟩;have Q:sR k xs.length=true:=iV (by omega);have U:∀y,sR y 1000000=true:=λy=>iV (by decide);have X:∀y,sR y 2147483629=true:=λy=>iV (by decide);have m4:∀y,sR y 2147483647=true:=λy=>iV (by decide);have m5:∀y,sR y 4=true:=λy=>iV (by decide);have dv:∀y,zQ y 1000000=true:=λy=>BH (by decide)<|wsm (by decide) (by decide);obtain⟨ys,yl,st⟩:=B.put (z:=z / 1000000) ⟨O,P⟩;generalize (xs.length:Int)=J at ln O P ix Q st;cases h:(o==0)with
 |true=>
  obtain⟨c,hc,D⟩:=KJ (ds:=([.int 48271,.int 69621,.int 39373,.int 40692]:T4)) (m:=4) (by decide) rfl
  obtain⟨A,rfl,R⟩:∃v:Int,c=.int v/\v.natAbs<2 ^ 64:=by
   simp only[List.mem_cons,List.not_mem_nil,or_false]at D;obtain rfl|rfl|rfl|rfl:=D<;>exact⟨_,rfl,by decide⟩
  have xk:ixF (.d (.list [.int 48271,.int 69621,.int 39373,.int 40692])) (I (k % 4)) M=Z (I A,M):=by
   show(atI [PyData.int 48271,.int 69621,.int 39373,.int 40692] (k % 4)).bind _=_;rw[hc];rfl
  have q1:nO k k=true:=aFe<|nab k0 k1 (by decide);have q2:nO (k*k) 16807=true:=mul_r (by decide);have q3:nO 3 k=true:=aFe (by decide);have q4:∀y,nO y A=true:=λy=>mul_r R;have a1:∀i j:Int,bY (I i) (I j) M=Z (I (i+j),M):=λi j=>rfl;have q5:∀y,nO (y % 2147483647) (y % 2147483647)=true:=λy=>aFe<|nab (C8 _ (by decide)) (C5 _ (by decide)) (by decide);generalize hv:(z+k*k*16807+3*k) % 2147483629=G;have S:=λy=>hd.push (z:=y) T;refine⟨xs,ds++[(G*A+7) % 2147483647*((G*A+7) % 2147483647) % 2147483629],Z<|I (k % J),Z<|I ((G*A+7) % 2147483647*((G*A+7) % 2147483647) % 2147483629),_,?_,B.oth (hd.set).2 ne,(hd.set).1,rfl,by rw[B9,F0],t _<|aFd (by decide) (by decide)⟩;simp![eS,ln,Q,U,ix,MM,h,q1,q2,q3,a1,X,hv,BY,m5,xk,q4,m4,q5,aX,hd.ty,S]
 |false=>
  have E:=B.set (ys:=ys);have q:=hd.oth E.2<|J7 ne;have S:=q.push (z:=z % 1000000) T;refine⟨ys,ds++[z % 1000000],Z<|I (k % J),Z<|I (z % 1000000),_,?_,E.1.oth (q.set).2 ne,(q.set).1,yl,by rw[B9,F0],t _<|aFd (by decide) (by decide)⟩;simp![eS,ln,Q,U,ix,MM,h,dv,st,aX,q.ty,S]
theorem HB{s:CD}{r d:Nat}:∀(m:Nat)(k:Int)(M:Sto)(xs ds:T7)(g5 g6 g7:Te),Li M r xs->Li M d ds->r≠d->0<xs.length->0<=k->k+m<900->ds.length+m<900->(∀x∈ds,Rn x)->
 ∃h q u A M',wR (br 5) eS (gO k m) (GD s many r d o g5 g6 g7) M=Z (.nx (GD s many r d o q u A),M')/\Li M' d h/\h.length=ds.length+m/\∀x∈h,Rn x
 |0=>λk M xs ds g5 g6 g7 D hd ne E G _ _ rd=>⟨ds,g5,g6,g7,M,rfl,hd,rfl,rd⟩
 |m+1=>λk M xs ds g5 g6 g7 D hd ne E G W X rd=>by
  obtain⟨B,C,H,K,M1,t,O,P,h3,h4,Q⟩:=aAg D hd ne E (by omega) G (by omega) rd;obtain⟨h,R,S,T,M',l,U,h6,V⟩:=HB m (k+1) M1 B C (Z<|I k) H K O P ne (by omega) (by omega) (by omega) (by omega) Q;refine⟨h,R,S,T,M',?_,U,by omega,V⟩;rw[rM,kN rfl t];exact l
theorem FD(n:Nat)(M:Sto):∀ns:T7,sM n M (ns.map λi=>I i)=Z (ns.map .int)
 |[]=>by unfold sM;rfl
 |i::ns=>by
  rw[B2];unfold sM;rw[aBP,A2,FD n M ns];rfl
theorem AK:∀ns:T7,PyData.canLayAll0 (ns.map .int)=true
 |[]=>rfl
 |n::ns=>by show(true&&PyData.canLayAll0 (ns.map .int))=true;rw[AK ns];rfl
theorem CZ:∀ns:T7,PyData.depthAll (ns.map .int)=0
 |[]=>rfl
 |n::ns=>by show max 0 (PyData.depthAll<|ns.map .int)=0;rw[CZ ns];rfl
def shaped_ints(ns:T7):bo (.list (ns.map .int))=true:=by
 unfold bo;have h:PyData.canLay0 (.list (ns.map .int))=true:=AK ns;have k:PyData.depth (.list (ns.map .int))=1:=by show PyData.depthAll (ns.map .int)+1=1;rw[CZ]
 rw[h,k];rfl
def aGu(h:Li M c ns):eqY false (.c c) (.d (.list [])) M=Z (B ns.isEmpty,M):=by
 have s1:snap 5 M (.c c)=Z (.list (ns.map .int)):=by
  unfold Li at h;unfold snap;rw[h];show(sM 4 M (ns.map λi=>I i)).bind _=_;rw[FD];rfl
 have s2:snap 5 M (.d (.list []))=Z (.list []):=by rw[aBP]
 show eqC false (.c c) (.d (.list [])) M=_;unfold eqC;rw[s1,A2,s2,A2,shaped_ints,show bo (.list [])=true from rfl];cases ns<;>rfl
def aNq{x:CD}(sm:dR J=true):fA (aA (aB 1) aF) (x::Z (I J)::γ) M=Z (gO 0 J.toNat,M):=by
 simp![fA,sm]
def aJC(ns:T7):∃c M,jD [.d (.list (ns.map .int)),I 800] []=Z (.c c,M)/\Dk M c 800:=by
 have q:(0:Nat)<=ba:=E6 _;have s1:(1:Nat)<=ba:=by decide
 have st:∀(r:Nat)(M:Sto)(xs:T7),Li M r xs->0<xs.length->∃c M',(bF (aZ (fOp bB (fOp ixF (aB 2)<|fC (.int 0))<|fC (.int 2))<|br 3)
 (bF (aZ (fOp bR (fOp ixF (aB 2)<|fC (.int 0))<|fC (.int 2))<|hSub (aB 2) (fC (.int 0)) tK)
 (bF (aZ (yN aF)<|br 4)
 (bF (xO (fA<|aA (aB 1) aF) (br 5) eS)
 (bF (tX<|aX "list" kJ (aB 4) aF)
 (bP (aB 4))))))) [Z (.d (.list (ns.map .int))),Z (I 800),Z (.c r),Y,Y,Y,Y,Y] M=Z (.rt (.c c),M')/\Dk M' c 800:=by
  intro r M xs k x0;obtain⟨z,ix⟩:=k.ix (p:=0) ⟨by decide,by omega⟩;have K:∀y,sR y 2=true:=λy=>iV (by decide);have O:∀y,zQ y 2=true:=λy=>BH (by decide)<|wsm (by decide) (by decide);obtain⟨ys,yl,pt⟩:=k.put (p:=0) (z:=z / 2) ⟨by decide,by omega⟩;have t:=(k.set (ys:=ys)).1;have u:=t.app (L:=[Cell.lst []]);have G:(M.set r<|cI ys).length=M.length:=by rw[E1]
  have hd:Li (M.set r (cI ys)++[Cell.lst []]) M.length []:=by
   unfold Li;rw[<- G,D7<|A7 _,O2];rfl
  have rl:=k.lt;obtain⟨ds,a5,a6,a7,M',P,h,Q,R⟩:=HB (s:=.d (.list (ns.map .int))) (many:=I 800) (o:=z % 2) 800 0 _ ys [] Y Y Y u hd (by omega) (by omega) (by decide) (by decide) (by decide) (λx A=>by simp at A);have S:fA (aA (aB 1) aF) (GD (.d (.list (ns.map .int))) (I 800) r M.length (z % 2) Y Y Y) (M.set r (cI ys)++[Cell.lst []])=Z (gO 0 800,M.set r (cI ys)++[Cell.lst []]):=aNq (J:=800) (by decide);have T:=sH S P
  have U:kJ (.c M.length) [] M'=Z (.d .none,M'.set M.length<|cI ds.reverse):=by
   have:=h;unfold Li at this;simp only[kJ,this];rw[cI,Y9]
  refine⟨M.length,M'.set M.length<|cI ds.reverse,?_,ds.reverse,(h.set).1,by rw[U1,Q];exact A7 _,λx A=>R x<|List.mem_reverse.mp A⟩
  have V:aZ (fOp bB (fOp ixF (aB 2)<|fC (.int 0))<|fC (.int 2)) (br 3) [Z (.d (.list (ns.map .int))),Z<|I 800,Z (.c r),Y,Y,Y,Y,Y] M=Z (.nx [Z (.d (.list (ns.map .int))),Z<|I 800,Z (.c r),Z<|I (z % 2),Y,Y,Y,Y],M):=by
   simp![ix,K]
  have W:aZ (fOp bR (fOp ixF (aB 2)<|fC (.int 0))<|fC (.int 2)) (hSub (aB 2) (fC (.int 0)) tK) [Z (.d (.list (ns.map .int))),Z<|I 800,Z (.c r),Z<|I (z % 2),Y,Y,Y,Y] M=Z (.nx [Z (.d (.list (ns.map .int))),Z<|I 800,Z (.c r),Z<|I (z % 2),Y,Y,Y,Y],M.set r<|cI ys):=by
   simp![ix,O,pt]
  have X:aZ (yN aF) (br 4) [Z (.d (.list (ns.map .int))),Z<|I 800,Z (.c r),Z<|I (z % 2),Y,Y,Y,Y] (M.set r<|cI ys)=Z (.nx (GD (.d (.list (ns.map .int))) (I 800) r M.length (z % 2) Y Y Y),M.set r (cI ys)++[Cell.lst []]):=by
   simp![q,G]
  rw[aV V,aV W,aV X,aV T];simp![aX,h.ty,U]
 have l0:GZ [.d (.list (ns.map .int))] []=Z (.c 0,[cI ns]):=by
  show Z (CD.c 0,[]++[Cell.lst ((ns.map PyData.int).map .d)])=_;rw[B7];rfl
 have h0:Li [cI ns] 0 ns:=rfl;have eq:=aGu h0
 have H:aZ (aL GZ<|aA (aB 0) aF) (br 2) [Z (.d (.list (ns.map .int))),Z<|I 800,Y,Y,Y,Y,Y,Y] []=Z (.nx [Z (.d (.list (ns.map .int))),Z<|I 800,Z (.c 0),Y,Y,Y,Y,Y],[cI ns]):=by
  simp![l0]
 cases B:ns.isEmpty with
 |true=>
  rw[B]at eq;obtain⟨c,M',C,D⟩:=st 1 ([cI ns]++[cI [4]]) [4] rfl (by decide);refine⟨c,M',fJ rfl ?_,D⟩
  have E:sIf (gB<|fOp (eqY false) (aB 2)<|dP aF) (aZ (yN<|aA (fC (.int 4)) aF)<|br 2) cV [Z (.d (.list (ns.map .int))),Z<|I 800,Z (.c 0),Y,Y,Y,Y,Y] [cI ns]=Z (.nx [Z (.d (.list (ns.map .int))),Z<|I 800,Z (.c 1),Y,Y,Y,Y,Y],[cI ns]++[cI [4]]):=by
   simp![q,s1,eq];rfl
  unfold mC;show bF _ _ [Z (.d (.list (ns.map .int))),Z<|I 800,Y,Y,Y,Y,Y,Y] []=_;rw[aV H,aV E];exact C
 |false=>
  rw[B]at eq;obtain⟨c,M',C,D⟩:=st 0 [cI ns] ns rfl (by cases ns with|nil=>cases B|cons _ _=>simp);refine⟨c,M',fJ rfl ?_,D⟩
  have E:sIf (gB<|fOp (eqY false) (aB 2)<|dP aF) (aZ (yN<|aA (fC (.int 4)) aF)<|br 2) cV [Z (.d (.list (ns.map .int))),Z<|I 800,Z (.c 0),Y,Y,Y,Y,Y] [cI ns]=Z (.nx [Z (.d (.list (ns.map .int))),Z<|I 800,Z (.c 0),Y,Y,Y,Y,Y],[cI ns]):=by
   simp![q,s1,eq]
  unfold mC;show bF _ _ [Z (.d (.list (ns.map .int))),Z<|I 800,Y,Y,Y,Y,Y,Y] []=_;rw[aV H,aV E];exact C
structure Ex(c:Nat)(M M':Sto):Prop where
 len:M.length<=M'.length
 at_:∀i,i<M.length->i≠c->M'[i]?=M[i]?
def Ex.to{i:Nat}{x:Cell}(e:Ex c M M')(h:M[i]?=Z x)(n:i≠c):M'[i]?=Z x:=by rw[e.at_ i (List.getElem?_eq_some_iff.mp h).1 n];exact h
def Dk.le{n:Nat}(h:Dk M c m)(l:n<=m):Dk M c n:=let⟨xs,a,b,r⟩:=h;⟨xs,a,C6 l b,r⟩
def Dk.lt(h:Dk M c m):c<M.length:=let⟨_,a,_⟩:=h;a.lt
def Dk.put{j:Nat}{x:Cell}(h:Dk M c m)(n:j≠c):Dk (M.set j x) c m:=let⟨xs,a,b⟩:=h;⟨xs,by unfold Li;rw[B6 n];exact a,b⟩
def pop_at(k:γ[v]?=Z (Z (.c c)))(ty:tyB "list" M (.c c)=true)(h:dU (.c c) [] M=Z (I z,M')):aX "list" dU (aB v) aF γ M=Z (I z,M'):=by
 simp only[aX,aB,k,aF,Option.bind_some,ty,if_true,h]
theorem wV{g:GF}{b:SF}{n:Nat}{Inv:Nat->Ga->Sto->Prop}(step:∀k,k<n->∀γ M,Inv k γ M->∃γ1 γ' M',g (I (k:Nat)) γ M=Z (γ1,M)/\b γ1 M=Z (.nx γ',M')/\Inv (k+1) γ' M'):
 ∀(m k:Nat)(γ:Ga)(M:Sto),k+m=n->Inv k γ M->∃γ' M',wR g b (gO (k:Nat) m) γ M=Z (.nx γ',M')/\Inv n γ' M'
 |0=>λk γ M h i=>⟨γ,M,rfl,by rw[<- h];exact i⟩
 |m+1=>λk γ M h i=>by
  obtain⟨γ1,γ2,M1,o,q,t⟩:=step k (by omega) γ M i;obtain⟨γ',M',u,A⟩:=wV step m (k+1) γ2 M1 (by omega) t;refine⟨γ',M',?_,A⟩;rw[rM,kN o q,show((k:Nat):Int)+1=((k+1:Nat):Int)by omega];exact u
def BI(lo:Int)(n:Nat):(gO lo n).length=n:=by unfold gO;rw[A1,Y2]
def yT(h:fa γ M=Z ([I J],M))(sm:dR J=true):fA fa γ M=Z (gO 0 J.toNat,M):=by
 simp only[fA,h,Option.bind_some,sm,if_true]
def aGD(h:fa γ M=Z ([I i,I j],M))(s1:dR i=true)(s2:dR j=true):HI fa γ M=Z (gO i (j-i).toNat,M):=by
 simp only[HI,h,Option.bind_some];rw[A4 ⟨s1,s2⟩]
def uF(h:-1000<=i)(k:i<=1000):dR i=true:=by
 unfold dR;rw[B8];exact⟨C7 (by omega),C7 (by omega)⟩
def iN{f:AF}{g:GF}{c:TF}{M1 M2:Sto}(it:f γ M=Z (xs,M1))(h:xs.length<=1000)(l:lcF g c e xs (lJ cap γ) M1=Z (ds.map .d,M2))(k:ds.length<=1000):fLc cap f g c e γ M=Z (.d (.list ds),M2):=CG it (sz h) l<|sz k
def aEb{c:TF}{a b:SF}(h:c γ M=Z (true,M')):sIf c a b γ M=a γ M':=by simp only[sIf,h,Option.bind_some,if_true]
def qB{c:TF}{a b:SF}(h:c γ M=Z (false,M')):sIf c a b γ M=b γ M':=by simp only[sIf,h,Option.bind_some,Bool.false_eq_true,if_false]
noncomputable abbrev S(x:Str):CD:=.d (.str x)
noncomputable def sI(i:Int):Str:=toString i
def Bd(i:Int):Prop:=i.natAbs<2 ^ 1900
def Bd.of(o:0<=i)(h:i<2 ^ 200):Bd i:=by
 show i.natAbs<2 ^ 1900;have k:i.natAbs<2 ^ 200:=by omega
 exact C2 k<|Nat.pow_le_pow_right (by decide) (by decide)
def kX(h:Bd i):(sI i).length<=2000:=aHi h
def YB(h:Bd i):zJ [I i] M=Z (S<|sI i,M):=by
 have:i.natAbs.log2<1920:=S7 (NA h) (by decide);simp only[zJ,if_pos this];rfl
def dF(x y:Str):(x++y).length=x.length+y.length:=Str.length_append x y
def szl:ba=16777216:=E4
def UD{y:Str}(h:x.length+y.length<=ba):xQ (S x) (S y) M=Z (S (x++y),M):=by
 have e:bY (S x) (S y) M=Y:=rfl;simp only[xQ,yF,e,aFw,if_pos h]
def iJ(a b:Int):Str:=if (b==1)=true then sI a else sI a++"/"++sI b
def sl1:(("/":Str)).length=1:=by decide
def sp1:((" ":Str)).length=1:=by decide
def RC(ha:Bd a)(h:Bd b):(iJ a b).length<=4001:=by
 have k:=kX ha;have o:=kX h;unfold iJ;split
 .omega
 .rw[dF,dF,sl1];omega
def aCk(h:Bd i):NU (I i)=Z (sI i):=by
 have:i.natAbs.log2<1920:=S7 (NA h) (by decide);simp only[NU,if_pos this];rfl
def aMC(h:x.length<=ba):NU (S x)=Z x:=by simp only[NU,if_pos h]
def GK(ha:Bd a)(h:Bd b):gH [.d (P false a b)] M=Z (S<|iJ a b,M):=by
 have A:=kX ha;have B:=kX h;have k:P false a b=.tuple [.int a,.int b]:=rfl;have o:([PyData.int a,.int b]:T4).length=2:=rfl;have q:(Str.empty++sI a).length<=ba:=by rw[Z3,szl];omega
 have t:(Str.empty++sI a++"/").length<=ba:=by rw[Z3,dF,sl1,szl];omega
 have u:(Str.empty++sI a++"/"++sI b).length<=ba:=by rw[Z3,dF,dF,sl1,szl];omega
 cases c:(b==1)with
 |true=>simp![gH,iY,k,o,if_true,MM,c,YB ha,iJ,if_true]
 |false=>
  simp![gH,iY,k,o,if_true,MM,c,jT,gV,JJ,vT,aCk ha,aCk h,q,t,u,iJ,Bool.false_eq_true,if_false,if_true];rw[Z3]
def VX(w:Str)(i j a b:Int):Str:=w++" "++sI i++" "++sI j++" "++iJ a b
def IQ(o:w.length<=100)(hi:Bd i)(h:Bd j)(ha:Bd a)(k:Bd b):(VX w i j a b).length<=8200:=by
 have q:=kX hi;have t:=kX h;have u:=RC ha k;unfold VX;rw[dF,dF,dF,dF,dF,dF,sp1];omega
def SU(H:w.length<=100)(hi:Bd i)(h:Bd j)(ha:Bd a)(k:Bd b):gM [S w,.d (R3 false (.int i) (.int j)<|P false a b)] M=Z (S<|VX w i j a b,M):=by
 have I:=kX hi;have K:=kX h;have O:=RC ha k;have at_:=GK (M:=M) ha k;have o:R3 false (.int i) (.int j) (P false a b)=.tuple [.int i,.int j,P false a b]:=rfl;have q:([PyData.int i,.int j,P false a b]:T4).length=3:=rfl;have f0:NU (S w)=Z w:=aMC (by rw[szl];omega);have f3:NU (S<|iJ a b)=Z (iJ a b):=aMC (by rw[szl];omega);have t:w.length<=ba:=by rw[szl];omega
 have u:(w++" ").length<=ba:=by rw[dF,sp1,szl];omega
 have A:(w++" "++sI i).length<=ba:=by rw[dF,dF,sp1,szl];omega
 have B:(w++" "++sI i++" ").length<=ba:=by rw[dF,dF,dF,sp1,szl];omega
 have C:(w++" "++sI i++" "++sI j).length<=ba:=by rw[dF,dF,dF,dF,sp1,szl];omega
 have D:(w++" "++sI i++" "++sI j++" ").length<=ba:=by rw[dF,dF,dF,dF,dF,sp1,szl];omega
 have E:(w++" "++sI i++" "++sI j++" "++iJ a b).length<=ba:=by rw[dF,dF,dF,dF,dF,dF,sp1,szl];omega
 have G:Str.empty++w=w:=Z3 w;simp![gM,uZ,o,q,if_true,jT,gV,JJ,vT,f0,aCk hi,aCk h,at_,f3,G,t,u,A,B,C,D,E,if_true];rfl
theorem lT{k:Type}{e:EF}{M:Sto}(f:k->CD)(h:k->Ua):∀(xs:Tv k)(g:Te),(∀x∈xs,e [Z (f x)] M=Z (.d (h x),M))->lcF (br 0) eP e (xs.map f) [g] M=Z ((xs.map h).map .d,M)
 |[]=>λ_ _=>rfl
 |x::xs=>λg o=>by
  have ih:=lT (M:=M) (e:=e) f h xs (Z<|f x) λy q=>o y<|B1 _ q;have t:=o x B0;rw[B2,B2,B2];show(br 0 (f x) [g] M).bind _=_;rw[show br 0 (f x) [g] M=Z ([Z (f x)],M)from rfl,A2];show(eP _ M).bind _=_;rw[show eP [Z (f x)] M=Z (true,M)from rfl,A2,A4 rfl,t,A2];dsimp only;rw[ih,A2]
noncomputable def nl(l:Str):Str:=l++"\n"
def Tx(ls:Tb):Str:=Txt.join ""<|ls.map nl
def nl1:(("\n":Str)).length=1:=by decide
def em0:(("":Str)).length=0:=by decide
theorem vB{n:Nat}:∀{ls:Td},(∀l∈ls,l<=n)->ls.sum<=ls.length*n
 |[]=>λ_=>by simp
 |l::ls=>λh=>by
  have:=vB (n:=n) (ls:=ls) λx k=>h x<|B1 _ k;have o:=h l B0;rw[Z7,C0,Nat.succ_mul];omega
theorem HA:∀ls:Tb,HN (ls.map .str)=Z ls
 |[]=>rfl
 |l::ls=>by
  show(HN<|ls.map .str).bind _=_;rw[HA ls];rfl
def LZ{ls:Tb}{n:Nat}(h:∀l∈ls,l.length<=n)(hn:ls.length*n+ls.length*sep.length<=16777216):kM (S sep) [.d (.list (ls.map .str))] M=Z (S<|Txt.join sep ls,M):=by
 have k:wC sep ls<=16777216:=by
  unfold wC
  have:=vB (n:=n) (ls:=ls.map (·.length)) λx o=>by
   obtain⟨l,q,rfl⟩:=List.mem_map.mp o;exact h l q
  rw[A1]at this;omega
 simp only[kM,HA,Option.bind_some,if_pos k]
def IV{c:EF}{ls:Tb}{n:Nat}(k:c γ M=Z (.d (.list (ls.map .str)),M'))(h:∀l∈ls,l.length<=n)(hn:ls.length*n+ls.length*sep.length<=16777216):aX "str" kM (fC (.str sep)) (aA c aF) γ M=Z (S<|Txt.join sep ls,M'):=by
 have ty:tyB "str" M (S sep)=true:=rfl;have j:=LZ (M:=M') h hn;simp![aX,ty,k,j]
def tD{ls:Tb}{n:Nat}(h:∀l∈ls,l.length<=n)(hn:n<=100000)(t:ls.length*(n+1)<=16777216)(o:ls.length<=250):gX [.d (.list (ls.map .str))] M=Z (S<|Tx ls,M):=by
 have q:mE [Z (.d (.list (ls.map .str)))] M=Z (.d (.list ((ls.map nl).map .str)),M):=by
  unfold mE
  have it:bD (aB 0) [Z (.d (.list (ls.map .str)))] M=Z (ls.map λl=>S l,M):=by
   simp![bD,bW,List.map_map];rfl
  refine iN it (by rw[A1];omega) ?_ (by rw[A1,A1];omega);rw[show lJ [Y] [Z (CD.d (.list (ls.map .str)))]=[Y]from rfl];refine(lT (λl=>S l) (λl=>.str (nl l)) ls Y λl k=>?_).trans (by simp only[List.map_map];rfl);have z:xQ (S l) (S "\n") M=Z (S (l++"\n"),M):=UD (by have:=h l k;rw[nl1,szl];omega);simp![z];rfl
 have j:=IV (c:=mE) (sep:="") (γ:=[Z (.d (.list (ls.map .str)))]) (n:=n+1) q (λl k=>by
  obtain⟨l0,h0,rfl⟩:=List.mem_map.mp k;have:=h l0 h0;show(l0++"\n").length<=_;rw[dF,nl1];omega) (by rw[A1,em0];omega)
 simp![gX,yJ,j];rfl
def fL(k:Bool)(t:Tie):Ua:=R3 k (.int t.i) (.int t.j)<|P k t.a t.b
def BdT(t:Tie):Prop:=Bd t.i/\Bd t.j/\Bd t.a/\Bd t.b
def gW(w:Str)(t:Tie):Str:=VX w t.i t.j t.a t.b
def yU{f:AF}{ts:Tv Tie}(h:w.length<=100)(it:f γ M=Z (ts.map λt=>.d (fL false t),M))(k:∀t∈ts,BdT t)(C:ts.length<=200)(o:lJ cap γ=[Y]):
 fLc cap f (br 0) eP (aL gM<|aA (fC (.str w))<|aA (aB 0) aF) γ M=Z (.d (.list ((ts.map<|gW w).map .str)),M):=by
 refine iN it (by rw[A1];omega) ?_ (by rw[A1,A1];omega);rw[o];refine(lT (λt=>.d (fL false t)) (λt=>.str (gW w t)) ts Y λt ht=>?_).trans (by simp only[List.map_map];rfl);obtain⟨q,u,A,B⟩:=k t ht;have e:=SU (M:=M) h q u A B;simp![fL,e];rfl
def QR{x:Ua}(h:γ[v]?=Z (Z (.d x)))(k:bW x=Z (ts.map<|fL false)):bD (aB v) γ M=Z (ts.map λt=>.d (fL false t),M):=by
 simp only[bD,aB,h,Option.bind_some,k,List.map_map];rfl
def OZ{x:Ua}{ts:Tv Tie}(o:bW x=Z (ts.map<|fL false))(k:∀t∈ts,BdT t)(q:ts.length<=200):eB [.d x] M=Z (S<|Tx<|ts.map<|gW "branch",M):=by
 have u:uJ [Z (.d x)] M=Z (.d (.list ((ts.map<|gW "branch").map .str)),M):=yU (by decide) (QR rfl o) k q rfl
 have t:=tD (M:=M) (ls:=ts.map<|gW "branch") (λl h=>by
  obtain⟨t,ht,rfl⟩:=List.mem_map.mp h;obtain⟨A,B,C,D⟩:=k t ht;exact IQ (by decide) A B C D) (by decide) (by rw[A1];omega) (by rw[A1];omega)
 simp![eB,qI,u,t]
def OR{x:Ua}{ts:Tv Tie}(o:bW x=Z (ts.map<|fL false))(k:∀t∈ts,BdT t)(q:ts.length<=200):eA [.d x] M=Z (S<|Tx<|ts.map<|gW "flow",M):=by
 have u:tZ [Z (.d x)] M=Z (.d (.list ((ts.map<|gW "flow").map .str)),M):=yU (by decide) (QR rfl o) k q rfl
 have t:=tD (M:=M) (ls:=ts.map<|gW "flow") (λl h=>by
  obtain⟨t,ht,rfl⟩:=List.mem_map.mp h;obtain⟨A,B,C,D⟩:=k t ht;exact IQ (by decide) A B C D) (by decide) (by rw[A1];omega) (by rw[A1];omega)
 simp![eA,sQ,u,t]
noncomputable def sqK(k:Bool)(ns:T7):Ua:=if k then .list (ns.map .int)else .tuple (ns.map .int)
def aDj(k:Bool)(ns:T7):bW (sqK k ns)=Z (ns.map .int):=by cases k<;>rfl
def wL(ns:T7):Str:=Txt.join " " ("side"::ns.map sI)
def wN{xs:T4}(k:xs.length+ys.length<=1000):bY (.d (.list xs)) (.d (.list ys)) M=Z (.d (.list (xs++ys)),M):=by
 have h:xs.length+ys.length<=ba:=sz k;have o:aLG (.d (.list xs)) (.d (.list ys)) M=Y:=rfl
 have q:aMf (.d (.list xs)) (.d (.list ys)) M=Z (.d (.list (xs++ys)),M):=by
  have a:nB (xs.map CD.d++ys.map CD.d)=Z (xs++ys):=by rw[<- D0];exact qQ _
  show(nB (xs.map CD.d++ys.map CD.d)).bind _=_;rw[a,A2,A4 (by rw[B9];exact h)]
 simp only[bY,yF,o,q]
def ZC{f:AF}{ns:T7}(it:f γ M=Z (ns.map λi=>I i,M))(h:∀n∈ns,Bd n)(o:ns.length<=100)(k:lJ cap γ=[Y]):
 fLc cap f (br 0) eP (aL zJ<|aA (aB 0) aF) γ M=Z (.d (.list ((ns.map sI).map .str)),M):=by
 refine iN it (by rw[A1];omega) ?_ (by rw[A1,A1];omega);rw[k];refine(lT (λi=>I i) (λi=>.str (sI i)) ns Y λn hn=>?_).trans (by simp only[List.map_map];rfl);have e:=YB (M:=M)<|h n hn;simp![e]
def sd4:(("side":Str)).length=4:=by decide
def aCm{ns:T7}(o:∀n∈ns,Bd n)(t:ns.length<=40):(wL ns).length<=98000:=by
 have h:=S3 " " ("side"::ns.map sI)
 have q:=vB (n:=2000) (ls:=(ns.map sI).map (·.length)) λx k=>by
  rw[B7]at k;obtain⟨n,hn,rfl⟩:=List.mem_map.mp k;exact kX<|o n hn
 rw[A1,A1]at q;rw[B2,Z7,C0,A1,sp1,sd4]at h;show(Builtin.Str.glued " " ("side"::ns.map sI)).length<=_;rw[J9];refine C6 h ?_;omega
def ZW{K c:EF}{ns:T7}(o:K γ M=Z (.d (.list [.str "side"]),M))(q:c γ M=Z (.d (.list ((ns.map sI).map .str)),M))(t:∀n∈ns,Bd n)(u:ns.length<=40):
 aX "str" kM (fC (.str " ")) (aA (fOp bY K c) aF) γ M=Z (S<|wL ns,M):=by
 have ad:=wN (M:=M) (xs:=[.str "side"]) (ys:=(ns.map sI).map .str) (by rw[A1,A1];show 1+ns.length<=1000;omega)
 have e:fOp bY K c γ M=Z (.d (.list (((("side":Str)::ns.map sI)).map .str)),M):=by
  simp only[fOp,o,q,Option.bind_some,ad];rfl
 refine IV (n:=2000) e (λl k=>?_) (by rw[C0,A1,sp1];omega);obtain rfl|h:=List.mem_cons.mp k
 .decide
 .obtain⟨n,hn,rfl⟩:=List.mem_map.mp h;exact kX<|t n hn
def BdS(ns:T7):Prop:=(∀n∈ns,Bd n)/\ns.length<=40
def aDG:bD (aB 0) (Z (.d (sqK k ns))::γ) M=Z (ns.map λi=>I i,M):=by
 simp only[bD,aB,List.getElem?_cons_zero,Option.bind_some,aDj,List.map_map];rfl
def aDW{x:Ua}{ss:T0}(h:γ[v]?=Z (Z (.d x)))(o:bW x=Z (ss.map<|sqK k)):bD (aB v) γ M=Z (ss.map λt=>.d (sqK k t),M):=by
 simp only[bD,aB,h,Option.bind_some,o,List.map_map];rfl
def KH{x:Ua}{ss:T0}(A:bW x=Z (ss.map<|sqK k))(u:∀s∈ss,BdS s)(C:ss.length<=100):dB [.d x] M=Z (S<|Tx<|ss.map wL,M):=by
 have B:kI [Z (.d x)] M=Z (.d (.list ((ss.map wL).map .str)),M):=by
  unfold kI;refine iN (aDW rfl A) (by rw[A1];omega) ?_ (by rw[A1,A1];omega);rw[show lJ [Y] [Z (CD.d x)]=[Y]from rfl];refine(lT (λt=>.d (sqK k t)) (λt=>.str (wL t)) ss Y λs hs=>?_).trans (by simp only[List.map_map];rfl);obtain⟨h,o⟩:=u s hs;exact ZW (BB _ _) (ZC aDG h (by omega) rfl) h o
 have t:=tD (M:=M) (ls:=ss.map wL) (λl q=>by
  obtain⟨s,hs,rfl⟩:=List.mem_map.mp q;obtain⟨h,o⟩:=u s hs;exact aCm h o) (by decide) (by rw[A1];omega) (by rw[A1];omega)
 simp![dB,oW,B,t]
def s9{n:Nat}(h:n<=9):n<=ba:=sz (by omega)
def aOt{f1 f2:EF}(h:f1 γ M=Z (I a,M))(k:f2 γ M=Z (I b,M)):dP (aA f1<|aA f2 aF) γ M=Z (.d (.list ([a,b].map .int)),M):=by
 have e:aA f1 (aA f2 aF) γ M=Z ([I a,I b],M):=by simp only[aA,aF,h,k,Option.bind_some]
 unfold dP;rw[e,A2];show(Z<|[a,b].map PyData.int).bind _=_;rw[A2];exact A4<|s9 (show(2:Nat)<=9 by decide)
def aOw{f1 f2:EF}{c d:Int}(h:f1 γ M=Z (I a,M))(k:f2 γ M=Z (I b,M))(o:f3 γ M=Z (I c,M))(q:f4 γ M=Z (I d,M)):dP (aA f1<|aA f2<|aA f3<|aA f4 aF) γ M=Z (.d (.list ([a,b,c,d].map .int)),M):=by
 have e:aA f1 (aA f2<|aA f3<|aA f4 aF) γ M=Z ([I a,I b,I c,I d],M):=by simp only[aA,aF,h,k,o,q,Option.bind_some]
 unfold dP;rw[e,A2];show(Z<|[a,b,c,d].map PyData.int).bind _=_;rw[A2];exact A4<|s9 (show(4:Nat)<=9 by decide)
def aOy{f1 f2 h k:EF}{c d e f:Int}(o:f1 γ M=Z (I a,M))(q:f2 γ M=Z (I b,M))(t:f3 γ M=Z (I c,M))(u:f4 γ M=Z (I d,M))(A:h γ M=Z (I e,M))(B:k γ M=Z (I f,M)):dP (aA f1<|aA f2<|aA f3<|aA f4<|aA h<|aA k aF) γ M=Z (.d (.list ([a,b,c,d,e,f].map .int)),M):=by
 have C:aA f1 (aA f2<|aA f3<|aA f4<|aA h<|aA k aF) γ M=Z ([I a,I b,I c,I d,I e,I f],M):=by simp only[aA,aF,o,q,t,u,A,B,Option.bind_some]
 unfold dP;rw[C,A2];show(Z<|[a,b,c,d,e,f].map PyData.int).bind _=_;rw[A2];exact A4<|s9 (show(6:Nat)<=9 by decide)
def EJ{m:Int}(hm:0<m)(o:(ns.length:Int)=m):∃v,v∈ns/\ixF (.d (.list (ns.map .int))) (I (z % m)) M=Z (I v,M):=by
 obtain⟨d,hd,h⟩:=KJ (ds:=ns.map PyData.int) (k:=z) hm (by rw[A1];exact o);obtain⟨v,q,rfl⟩:=List.mem_map.mp h;refine⟨v,q,?_⟩;show(atI (ns.map PyData.int) (z % m)).bind _=_;rw[hd];rfl
def bN{k:F2}{c:Int}(o:f γ M=Z (I a,M))(q:g γ M=Z (I b,M))(h:k (I a) (I b) M=Z (I c,M)):fOp k f g γ M=Z (I c,M):=by
 simp only[fOp,o,q,Option.bind_some,h]
def bO{k:F2}{a b c:CD}(o:f γ M=Z (a,M))(q:g γ M=Z (b,M))(h:k a b M=Z (c,M)):fOp k f g γ M=Z (c,M):=by
 simp only[fOp,o,q,Option.bind_some,h]
def bL:fC (.int i) γ M=Z (I i,M):=rfl
def dJ(h:0<b):bB (I a) (I b) M=Z (I (a % b),M):=by
 have:sR a b=true:=iV h;simp![this]
def tQ(h:0<b)(k:b<1000000):bR (I a) (I b) M=Z (I (a / b),M):=by
 have w:(1000000:Int)<2 ^ 200:=by decide
 have:zQ a b=true:=BH h<|wsm (by omega) (by omega);simp![this]
def YA(h:b.natAbs<2 ^ 64):mR (I a) (I b) M=Z (I (a*b),M):=by
 have:nO a b=true:=mul_r h;simp![this]
def XQ:yW (I a) (I b) M=Z (I (a-b),M):=rfl
def aME:wJ (I 10) (I 30) M=Z (I 1000000000000000000000000000000,M):=rfl
def aOd:wJ (I 10) (I 12) M=Z (I 1000000000000,M):=rfl
def Oth.trans{M1 M2:Sto}(a:Oth c M M1)(b:Oth c M1 M2):Oth c M M2:=⟨b.len.trans a.len,λi h=>(b.at_ i h).trans (a.at_ i h)⟩
def EZ:(10000000000000000000000000000000000000000:Int)<2 ^ 200:=by decide
structure RdT(t:Tie):Prop where
 i:0<=t.i/\t.i<100
 j:0<=t.j/\t.j<100
 a:0<=t.a/\t.a<10 ^ 30
 b:1<=t.b/\t.b<10 ^ 30
 g:Int.gcd t.a t.b=1
structure aBh(x y:Int):Prop where
 a:0<=x/\x<10 ^ 30
 b:1<=y/\y<10 ^ 30
 g:Int.gcd x y=1
def QU:(10:Int) ^ 30=1000000000000000000000000000000:=by decide
def aBh.bd(h:aBh a b):Bd a/\Bd b:=by
 obtain⟨⟨k,o⟩,⟨u,q⟩,_⟩:=h;have t:=EZ;rw[QU]at o q;exact⟨Bd.of k (by omega),Bd.of (by omega) (by omega)⟩
def RdT.bd(h:RdT t):BdT t:=by
 obtain⟨⟨k,u⟩,⟨o,A⟩,a,b,g⟩:=h;have q:=aBh.bd ⟨a,b,g⟩;have t:=EZ;exact⟨Bd.of k (by omega),Bd.of o (by omega),q.1,q.2⟩
def aOh(ha:0<=a)(h:a<1000000000000000000000000000000)(o:1<=b)(k:b<1000000000000000000000000000000):aBh (a / (Int.gcd a b:Int)) (b / (Int.gcd a b:Int)):=by
 have g:=WW (a:=a) o;have q:a / (Int.gcd a b:Int)<=a:=Int.ediv_le_self _ ha;have t:b / (Int.gcd a b:Int)<=b:=Int.ediv_le_self _ (by omega);have gd:((Int.gcd a b:Int)) ∣ b:=Int.gcd_dvd_right a b;have u:0<b / (Int.gcd a b:Int):=Int.ediv_pos_of_pos_of_dvd (by omega) (by omega) gd;have A:a / (Int.gcd a b:Int)<10 ^ 30:=by rw[QU];exact Int.lt_of_le_of_lt q h
 have B:b / (Int.gcd a b:Int)<10 ^ 30:=by rw[QU];exact Int.lt_of_le_of_lt t k
 have C:Int.gcd a b≠0:=λz=>by rw[z]at g;exact absurd g (by decide)
 exact⟨⟨Int.ediv_nonneg ha (by omega),A⟩,⟨u,B⟩,Int.gcd_ediv_gcd_ediv_gcd<|Nat.pos_of_ne_zero C⟩
def aMn(dk:Dk M c (m+2)):∃a b M',oI [.c c] M=Z (.d (.tuple [.int a,.int b]),M')/\aBh a b/\Dk M' c m/\Oth c M M':=by
 obtain⟨z,M1,G,D,H,K⟩:=dk.pop;obtain⟨y,M2,O,P,Q,R⟩:=D.pop;obtain⟨z0,z1⟩:=K;obtain⟨y0,y1⟩:=R;have S:aZ (aX "list" dU (aB 0) aF) (br 1) [Z (.c c),Y,Y,Y,Y] M=Z (.nx [Z (.c c),Z<|I z,Y,Y,Y],M1):=bS<|pop_at rfl dk.ty G;have T:aZ (aX "list" dU (aB 0) aF) (br 2) [Z (.c c),Z<|I z,Y,Y,Y] M1=Z (.nx [Z (.c c),Z<|I z,Z<|I y,Y,Y],M2):=bS<|pop_at rfl D.ty O;have u:∀g3 h,aB 1 [Z (.c c),Z<|I z,Z<|I y,g3,h] M2=Z (I z,M2):=λ_ _=>rfl;have q:∀g3 h,aB 2 [Z (.c c),Z<|I z,Z<|I y,g3,h] M2=Z (I y,M2):=λ_ _=>rfl;have n1:=C8 (z / 7) (show(10:Int)≠0 by decide);have n2:=C5 (z / 7) (show(0:Int)<10 by decide);have n3:=C8 (z / 7) (show(1000:Int)≠0 by decide);have n4:=C5 (z / 7) (show(0:Int)<1000 by decide);have n5:=C8 (z / 7) (show(50:Int)≠0 by decide);have n6:=C5 (z / 7) (show(0:Int)<50 by decide);have n7:=C8 (y / 5) (show(40:Int)≠0 by decide);have n8:=C5 (y / 5) (show(0:Int)<40 by decide);have n9:=C8 (y / 5) (show(30:Int)≠0 by decide);have U:=C5 (y / 5) (show(0:Int)<30 by decide);obtain⟨a,ha,V⟩:=EJ (M:=M2) (ns:=[z / 7 % 10,z / 7 % 1000,1000000000000000000000000000000-1-z / 7 % 50,z*1000000000000+y]) (z:=z) (m:=4) (by decide) rfl;obtain⟨b,E,W⟩:=EJ (M:=M2) (ns:=[1,1,1+y / 5 % 40,55440,1000000000000000000000000000000-1-y / 5 % 30,1+y]) (z:=y) (m:=6) (by decide) rfl
 have X:∀g3 h,aZ (fOp ixF (dP<|aA (fOp bB (fOp bR (aB 1)<|fC (.int 7))<|fC (.int 10))<|aA (fOp bB (fOp bR (aB 1)<|fC (.int 7))<|fC (.int 1000))<|aA (fOp yW (fOp yW (fOp wJ (fC (.int 10))<|fC (.int 30))<|fC (.int 1))<|fOp bB (fOp bR (aB 1)<|fC (.int 7))<|fC (.int 50))<|aA (fOp bY (fOp mR (aB 1)<|fOp wJ (fC (.int 10))<|fC (.int 12))<|aB 2) aF)<|fOp bB (aB 1)<|fC (.int 4)) (br 3) [Z (.c c),Z<|I z,Z<|I y,g3,h] M2=Z (.nx [Z (.c c),Z<|I z,Z<|I y,Z<|I a,h],M2):=λg3 h=>by
  have o:=bN (k:=bR) (u g3 h) (bL (i:=7))<|tQ (by decide) (by decide);have l:=aOw (bN o (bL (i:=10))<|dJ (by decide)) (bN o (bL (i:=1000))<|dJ (by decide)) (bN (bN (bN bL bL aME) (bL (i:=1)) XQ) (bN o (bL (i:=50))<|dJ (by decide)) XQ)<|bN (bN (u g3 h) (bN bL bL aOd)<|YA (by decide)) (q g3 h) rO;have A:=bN (k:=bB) (u g3 h) (bL (i:=4))<|dJ (by decide);exact bS<|bO l A V
 have a4:∀g3 h,aZ (fOp ixF (dP<|aA (fC (.int 1))<|aA (fC (.int 1))<|aA (fOp bY (fC (.int 1))<|fOp bB (fOp bR (aB 2)<|fC (.int 5))<|fC (.int 40))<|aA (fC (.int 55440))<|aA (fOp yW (fOp yW (fOp wJ (fC (.int 10))<|fC (.int 30))<|fC (.int 1))<|fOp bB (fOp bR (aB 2)<|fC (.int 5))<|fC (.int 30))<|aA (fOp bY (fC (.int 1))<|aB 2) aF)<|fOp bB (aB 2)<|fC (.int 6)) (br 4) [Z (.c c),Z<|I z,Z<|I y,g3,h] M2=Z (.nx [Z (.c c),Z<|I z,Z<|I y,g3,Z<|I b],M2):=λg3 h=>by
  have o:=bN (k:=bR) (q g3 h) (bL (i:=5))<|tQ (by decide) (by decide);have l:=aOy (bL (i:=1)) (bL (i:=1)) (bN (bL (i:=1)) (bN o (bL (i:=40))<|dJ (by decide)) rO) (bL (i:=55440)) (bN (bN (bN bL bL aME) (bL (i:=1)) XQ) (bN o (bL (i:=30))<|dJ (by decide)) XQ)<|bN (bL (i:=1)) (q g3 h) rO;have A:=bN (k:=bB) (q g3 h) (bL (i:=6))<|dJ (by decide);exact bS<|bO l A W
 have B:0<=a/\a<1000000000000000000000000000000:=by
  simp only[List.mem_cons,List.not_mem_nil,or_false]at ha;obtain rfl|rfl|rfl|rfl:=ha<;>omega
 have C:1<=b/\b<1000000000000000000000000000000:=by
  simp only[List.mem_cons,List.not_mem_nil,or_false]at E;obtain rfl|rfl|rfl|rfl|rfl|rfl:=E<;>omega
 have t:=EZ;have lo:=aDK (a:=a) (b:=b) M2 B.1 C.1<|wsm (by omega) (by omega);refine⟨_,_,M2,fJ rfl ?_,aOh B.1 B.2 C.1 C.2,P,H.trans Q⟩;unfold vR;show bF _ _ [Z (.c c),Y,Y,Y,Y] M=_;rw[aV S,aV T,aV<|X Y Y,aV<|a4 (Z<|I a) Y];simp only[bP,aL,aA,aB,aF,List.getElem?_cons_zero,List.getElem?_cons_succ,Option.bind_some,lo]
def FR{c:Cell}:(M++[c])[M.length]?=Z c:=by grind
def WL{f:Nat}{y:CD}(h:M[f]?=Z (.lst xs))(k:xs.length<=500):iU (.c f) [y] M=Z (.d .none,M.set f (.lst (xs++[y]))):=by
 have:xs.length<ba:=by rw[szl];omega
 simp only[iU,h,if_pos this]
def aIx{f:Nat}(h:M[f]?=Z (.lst xs)):tyB "list" M (.c f)=true:=by
 simp only[tyB,h];rfl
def aH{g:AF}{M1 M2:Sto}{x:CD}(h:f γ M=Z (x,M1))(k:g γ M1=Z (xs,M2)):aA f g γ M=Z (x::xs,M2):=by
 simp only[aA,h,k,Option.bind_some]
def aP:aF γ M=Z ([],M):=rfl
def jI{M1:Sto}(h:fa γ M=Z (xs,M1))(hd:nB xs=Z ds)(k:ds.length<=500):eF fa γ M=Z (.d (.tuple ds),M1):=by
 have:ds.length<=ba:=sz (by omega);simp only[eF,h,Option.bind_some,hd,if_pos this]
def oU{h:FM}{M1 M2 k:Sto}{x z:CD}{ys:T6}(o:f γ M=Z (x,M1))(ty:tyB T M1 x=true)(ha:fa γ M1=Z (ys,M2))(q:h x ys M2=Z (z,k)):aX T h f fa γ M=Z (z,k):=by
 simp only[aX,o,Option.bind_some,ty,if_true,ha,q]
def XF{M1:Sto}{x:CD}(h:f γ M=Z (x,M1)):tX f γ M=Z (.nx γ,M1):=by simp only[tX,h,Option.bind_some]
def aY{M1 M2:Sto}{y:CD}(ha:fa γ M=Z (xs,M1))(h:F xs M1=Z (y,M2)):aL F fa γ M=Z (y,M2):=by simp only[aL,ha,Option.bind_some,h]
def aBF{f:Nat}{x:Cell}(h:M[f]?=Z x):f<M.length:=(List.getElem?_eq_some_iff.mp h).1
def VI{f:Nat}{n:Int}{g4:Te}(dk:Dk M c (m+3))(A:M[f]?=Z (.lst xs))(ne:f≠c)(B:xs.length<=500):
 ∃t g M',iI [Z (.c c),Z<|I n,Z (.c f),Z<|I k,g4] M=Z (.nx [Z (.c c),Z<|I n,Z (.c f),Z<|I k,g],M')/\RdT t/\M'[f]?=Z (.lst (xs++[.d (fL false t)]))/\Dk M' c m:=by
 obtain⟨z,M1,C,D,E,z0,z1⟩:=dk.pop;obtain⟨a,b,M2,G,h,H,K⟩:=aMn D;have O:aZ (aX "list" dU (aB 0) aF) (br 4) [Z (.c c),Z<|I n,Z (.c f),Z<|I k,g4] M=Z (.nx [Z (.c c),Z<|I n,Z (.c f),Z<|I k,Z<|I z],M1):=bS<|pop_at rfl dk.ty C;have o:aB 4 [Z (.c c),Z<|I n,Z (.c f),Z<|I k,Z<|I z] M1=Z (I z,M1):=rfl;have P:aB 3 [Z (.c c),Z<|I n,Z (.c f),Z<|I k,Z<|I z] M1=Z (I k,M1):=rfl;have q:=bN (k:=bR) o (bL (i:=100))<|tQ (by decide) (by decide);have l:=aOt (bN q (bL (i:=100))<|dJ (by decide))<|bN q (bL (i:=10))<|dJ (by decide);obtain⟨j,u,Q⟩:=EJ (M:=M1) (ns:=[z / 100 % 100,z / 100 % 10]) (z:=k) (m:=2) (by decide) rfl;have R:=bO l (bN (k:=bB) P (bL (i:=2))<|dJ (by decide)) Q;have S:=bN (k:=bB) o (bL (i:=100))<|dJ (by decide);have f1:M1[f]?=Z (.lst xs):=by rw[E.at_ f ne];exact A
 have f2:M2[f]?=Z (.lst xs):=by rw[K.at_ f ne];exact f1
 have T:=aY (F:=oI) (aH (show aB 0 [Z (CD.c c),Z<|I n,Z (.c f),Z<|I k,Z<|I z] M1=Z (.c c,M1)from rfl) aP) G;have U:=jI (aH S<|aH R<|aH T aP) (ds:=[.int (z % 100),.int j,.tuple [.int a,.int b]]) rfl (show(3:Nat)<=500 by decide);have n1:=C8 z (show(100:Int)≠0 by decide);have V:=C5 z (show(0:Int)<100 by decide);have n3:=C8 (z / 100) (show(100:Int)≠0 by decide);have n4:=C5 (z / 100) (show(0:Int)<100 by decide);have n5:=C8 (z / 100) (show(10:Int)≠0 by decide);have n6:=C5 (z / 100) (show(0:Int)<10 by decide)
 have W:0<=j/\j<100:=by
  simp only[List.mem_cons,List.not_mem_nil,or_false]at u;obtain rfl|rfl:=u<;>omega
 refine⟨⟨z % 100,j,a,b⟩,Z<|I z,M2.set f (.lst (xs++[.d (fL false ⟨z % 100,j,a,b⟩)])),?_,⟨⟨n1,V⟩,W,h.a,h.b,h.g⟩,C3<|aBF f2,H.put ne⟩;unfold iI;rw[aV O];have X:=WL (y:=.d (fL false ⟨z % 100,j,a,b⟩)) f2 B;exact XF<|oU (show aB 2 [Z (CD.c c),Z<|I n,Z (.c f),Z<|I k,Z<|I z] M1=Z (.c f,M1)from rfl) (aIx f1) (aH U aP) X
def NP{k:Type}{P:k->Prop}{xs:Tv k}{y:k}(h:∀x∈xs,P x)(o:P y):∀x∈xs++[y],P x:=λx t=>by
 obtain q|q:=List.mem_append.mp t
 .exact h x q
 .rw[List.mem_singleton.mp q];exact o
def aFM(P:0<=n)(Q:n<=60)(dk:Dk M c (m+180)):∃(f:Nat)(ts:Tv Tie)(M':Sto),iB [.c c,I n] M=Z (.c f,M')/\M'[f]?=Z (.lst (ts.map λt=>.d (fL false t)))/\ts.length<=60/\(∀t∈ts,RdT t)/\Dk M' c m/\f≠c:=by
 obtain⟨N,B⟩:∃N:Nat,n.toNat=N:=⟨_,rfl⟩;have R:N<=60:=by omega
 have cl:=dk.lt;have ne:M.length≠c:=by omega
 have C:aZ (yN aF) (br 2) [Z (.c c),Z<|I n,Y,Y,Y] M=Z (.nx [Z (.c c),Z<|I n,Z (.c M.length),Y,Y],M++[.lst []]):=by
  have D:(0:Nat)<=ba:=E6 _;simp![D]
 have E:fA (aA (aB 1) aF) [Z (.c c),Z<|I n,Z (.c M.length),Y,Y] (M++[.lst []])=Z (gO 0 N,M++[.lst []]):=by
  rw[<- B];exact yT (J:=n) rfl<|uF (by omega) (by omega)
 obtain⟨γ',M',G,ts,g3,g4,rfl,o,A,q,u⟩:=wV (g:=br 3) (b:=iI) (n:=N) (Inv:=λk γ M1=>∃(ts:Tv Tie)(g3 g4:Te),γ=[Z (.c c),Z<|I n,Z (.c M.length),g3,g4]/\M1[M.length]?=Z (.lst (ts.map λt=>.d (fL false t)))/\ts.length=k/\(∀t∈ts,RdT t)/\Dk M1 c (m+3*(N-k)))
  (λk S γ M1 i=>by
   obtain⟨ts,g3,g4,rfl,o,A,q,u⟩:=i;obtain⟨t,g,M2,e,H,K,O⟩:=VI (n:=n) (k:=(k:Nat)) (g4:=g4) (m:=m+3*(N-(k+1))) (u.le (by omega)) o ne (by rw[A1];omega);exact⟨_,_,M2,rfl,e,ts++[t],_,_,rfl,by rw[K,D0];rfl,by rw[B9,A];rfl,NP q H,O⟩)
  N 0 [Z (.c c),Z<|I n,Z (.c M.length),Y,Y] (M++[.lst []]) (by omega) ⟨[],Y,Y,rfl,FR,rfl,λt h=>by simp at h,(dk.app).le (by omega)⟩
 refine⟨M.length,ts,M',fJ rfl ?_,o,by omega,q,u.le (by omega),ne⟩;unfold pV;show bF _ _ [Z (.c c),Z<|I n,Y,Y,Y] M=_;rw[aV C,aV<|sH E G];rfl
def uB{k:F2}{M1:Sto}{a b c:CD}(o:f γ M=Z (a,M1))(q:g γ M1=Z (b,M1))(h:k a b M1=Z (c,M1)):fOp k f g γ M=Z (c,M1):=by
 simp only[fOp,o,q,Option.bind_some,h]
def RdS(ns:T7):Prop:=ns≠[]/\(∀k∈ns,0<=k/\k<100)/\ns.length<=40
theorem MZ{g:GF}{e:EF}{E:CD->Prop}{Inv:Nat->Ga->Sto->Prop}
 (step:∀m x γ M,Inv (m+1) γ M->∃γ1,g x γ M=Z (γ1,M)/\∃y k,e γ1 M=Z (y,k)/\E y/\Inv m γ1 k):
 ∀(xs:T6)(γ:Ga)(M:Sto),Inv xs.length γ M->∃ys γ' M',lcF g eP e xs γ M=Z (ys,M')/\(∀y∈ys,E y)/\ys.length=xs.length/\Inv 0 γ' M'
 |[]=>λγ M i=>⟨[],γ,M,rfl,λy h=>by simp at h,rfl,i⟩
 |x::xs=>λγ M i=>by
  obtain⟨γ1,o,y,k,q,t,u⟩:=step _ x γ M i;obtain⟨ys,γ',M',A,B,C,D⟩:=MZ step xs γ1 k u;refine⟨y::ys,γ',M',?_,λz hz=>?_,by rw[C0,C0,C],D⟩
  .simp only[lcF,o,Option.bind_some,eP,if_true,q,A]
  .obtain rfl|hz:=List.mem_cons.mp hz
   .exact t
   .exact B z hz
theorem QB:∀{ys:T6},(∀y∈ys,∃i,y=I i/\(0<=i/\i<100))->∃ns:T7,ys=(ns.map PyData.int).map .d/\∀n∈ns,0<=n/\n<100
 |[]=>λ_=>⟨[],rfl,λn h=>by simp at h⟩
 |y::ys=>λh=>by
  obtain⟨i,rfl,hi⟩:=h y B0;obtain⟨ns,rfl,hn⟩:=QB (ys:=ys) λz o=>h z<|B1 _ o;refine⟨i::ns,rfl,λn k=>?_⟩;obtain rfl|q:=List.mem_cons.mp k
  .exact hi
  .exact hn n q
def aBC{g:Te}(dk:Dk M c (m+1)):∃i M1,fOp bB (aX "list" dU (aB 0) aF) (fOp ixF gK<|fOp bB (fOp bR (aB 1)<|fC (.int 9))<|fC (.int 3)) [Z (.c c),Z<|I z,g] M=Z (I i,M1)/\(0<=i/\i<100)/\Dk M1 c m/\Oth c M M1:=by
 obtain⟨y,M1,o,q,t,G,H⟩:=dk.pop;have u:aB 1 [Z (.c c),Z<|I z,g] M1=Z (I z,M1):=rfl;have A:=bN (k:=bR) u (bL (i:=9))<|tQ (by decide) (by decide);have B:=bN (k:=bB) A (bL (i:=3))<|dJ (by decide);obtain⟨v,h,C⟩:=EJ (M:=M1) (ns:=[100,10,40]) (z:=z / 9) (m:=3) (by decide) rfl;have D:=bO (k:=ixF) (yH [Z (.c c),Z<|I z,g] M1) B C
 have E:0<v/\v<=100:=by
  simp only[List.mem_cons,List.not_mem_nil,or_false]at h;obtain rfl|rfl|rfl:=h<;>omega
 have n1:=C8 y (show v≠0 by omega);have K:=C5 y (show 0<v by omega);exact⟨y % v,M1,uB (pop_at rfl dk.ty o) D<|dJ E.1,⟨n1,by omega⟩,q,t⟩
def QC{f:Nat}{n z:Int}(dk:Dk M c (m+6))(t:M[f]?=Z (.lst xs))(ne:f≠c):
 ∃ns M1,jJ [Z (.c c),Z<|I n,Z (.c f),Z<|I k,Z<|I z] M=Z (.d (.list (ns.map .int)),M1)/\RdS ns/\M1[f]?=Z (.lst xs)/\Dk M1 c m:=by
 have n1:=C8 z (show(6:Int)≠0 by decide);have O:=C5 z (show(0:Int)<6 by decide)
 have u:fA (aA (fOp bY (fC (.int 1))<|fOp bB (aB 4)<|fC (.int 6)) aF) [Z (.c c),Z<|I n,Z (.c f),Z<|I k,Z<|I z] M=Z (gO 0 (1+z % 6).toNat,M):=
  yT (J:=1+z % 6) (aH (bN bL (bN (k:=bB) (show aB 4 [Z (CD.c c),Z<|I n,Z (.c f),Z<|I k,Z<|I z] M=Z (I z,M)from rfl) (bL (i:=6))<|dJ (by decide)) rO) aP) (uF (by omega) (by omega))
 have h:(gO 0 (1+z % 6).toNat).length<=6:=by rw[BI];omega
 obtain⟨ys,γ',M1,e,A,o,P,B,C⟩:=MZ (g:=br 2) (e:=fOp bB (aX "list" dU (aB 0) aF)<|fOp ixF gK<|fOp bB (fOp bR (aB 1)<|fC (.int 9))<|fC (.int 3)) (E:=λy=>∃i,y=I i/\(0<=i/\i<100)) (Inv:=λp γ M1=>(∃g,γ=[Z (.c c),Z<|I z,g])/\Dk M1 c (m+p)/\M1[f]?=Z (.lst xs))
  (λp x γ M1 i=>by
   obtain⟨⟨g,rfl⟩,D,f1⟩:=i;refine⟨[Z (.c c),Z (I z),Z x],rfl,?_⟩;obtain⟨i,M2,e,G,H,K⟩:=aBC (m:=m+p) (z:=z) (g:=Z x) D;exact⟨_,M2,e,⟨i,rfl,G⟩,⟨_,rfl⟩,H,by rw[K.at_ f ne];exact f1⟩)
  (gO 0 (1+z % 6).toNat) [Z (.c c),Z<|I z,Y] M ⟨⟨Y,rfl⟩,dk.le (by omega),t⟩
 obtain⟨ns,rfl,hn⟩:=QB A;rw[A1,A1,BI]at o;refine⟨ns,M1,?_,⟨λq=>by rw[q,A0a]at o;omega,hn,by omega⟩,C,B⟩;unfold jJ;exact iN u (by omega) e (by rw[A1];omega)
def NH{f:Nat}{n:Int}{g4:Te}(dk:Dk M c (m+7))(h:M[f]?=Z (.lst xs))(ne:f≠c)(o:xs.length<=500):
 ∃ns g M',gJ [Z (.c c),Z<|I n,Z (.c f),Z<|I k,g4] M=Z (.nx [Z (.c c),Z<|I n,Z (.c f),Z<|I k,g],M')/\RdS ns/\M'[f]?=Z (.lst (xs++[.d (sqK false ns)]))/\Dk M' c m:=by
 obtain⟨z,M1,q,t,u,G,H⟩:=dk.pop;have f1:M1[f]?=Z (.lst xs):=by rw[u.at_ f ne];exact h
 have A:aZ (aX "list" dU (aB 0) aF) (br 4) [Z (.c c),Z<|I n,Z (.c f),Z<|I k,g4] M=Z (.nx [Z (.c c),Z<|I n,Z (.c f),Z<|I k,Z<|I z],M1):=bS<|pop_at rfl dk.ty q;obtain⟨ns,M2,B,bs,f2,C⟩:=QC (n:=n) (k:=k) (z:=z) (m:=m) t f1 ne;have D:=aY (F:=cH) (aH B aP) (show cH [.d (.list (ns.map .int))] M2=Z (.d (sqK false ns),M2)from rfl);have E:=WL (y:=.d (sqK false ns)) f2 o;refine⟨ns,Z<|I z,M2.set f (.lst (xs++[.d (sqK false ns)])),?_,bs,C3<|aBF f2,C.put ne⟩;unfold gJ;rw[aV A];exact XF<|oU (show aB 2 [Z (CD.c c),Z<|I n,Z (.c f),Z<|I k,Z<|I z] M1=Z (.c f,M1)from rfl) (aIx f1) (aH D aP) E
def aCr(P:0<=n)(Q:n<=5)(dk:Dk M c (m+35)):∃(f:Nat)(ss:T0)(M':Sto),eT [.c c,I n] M=Z (.c f,M')/\M'[f]?=Z (.lst (ss.map λt=>.d (sqK false t)))/\ss.length<=5/\(∀t∈ss,RdS t)/\Dk M' c m/\f≠c:=by
 obtain⟨N,B⟩:∃N:Nat,n.toNat=N:=⟨_,rfl⟩;have R:N<=5:=by omega
 have cl:=dk.lt;have ne:M.length≠c:=by omega
 have C:aZ (yN aF) (br 2) [Z (.c c),Z<|I n,Y,Y,Y] M=Z (.nx [Z (.c c),Z<|I n,Z (.c M.length),Y,Y],M++[.lst []]):=by
  have D:(0:Nat)<=ba:=E6 _;simp![D]
 have E:fA (aA (aB 1) aF) [Z (.c c),Z<|I n,Z (.c M.length),Y,Y] (M++[.lst []])=Z (gO 0 N,M++[.lst []]):=by
  rw[<- B];exact yT (J:=n) rfl<|uF (by omega) (by omega)
 obtain⟨γ',M',G,ss,g3,g4,rfl,o,A,q,u⟩:=wV (g:=br 3) (b:=gJ) (n:=N) (Inv:=λk γ M1=>∃(ss:T0)(g3 g4:Te),γ=[Z (.c c),Z<|I n,Z (.c M.length),g3,g4]/\M1[M.length]?=Z (.lst (ss.map λt=>.d (sqK false t)))/\ss.length=k/\(∀t∈ss,RdS t)/\Dk M1 c (m+7*(N-k)))
  (λk S γ M1 i=>by
   obtain⟨ss,g3,g4,rfl,o,A,q,u⟩:=i;obtain⟨t,g,M2,e,H,K,O⟩:=NH (n:=n) (k:=(k:Nat)) (g4:=g4) (m:=m+7*(N-(k+1))) (u.le (by omega)) o ne (by rw[A1];omega);exact⟨_,_,M2,rfl,e,ss++[t],_,_,rfl,by rw[K,D0];rfl,by rw[B9,A];rfl,NP q H,O⟩)
  N 0 [Z (.c c),Z<|I n,Z (.c M.length),Y,Y] (M++[.lst []]) (by omega) ⟨[],Y,Y,rfl,FR,rfl,λt h=>by simp at h,(dk.app).le (by omega)⟩
 refine⟨M.length,ss,M',fJ rfl ?_,o,by omega,q,u.le (by omega),ne⟩;unfold nJ;show bF _ _ [Z (.c c),Z<|I n,Y,Y,Y] M=_;rw[aV C,aV<|sH E G];rfl
def OkV(n:Int)(us:Tv Tie):Prop:=(∀t∈us,fR t.a t.b=true/\0<=t.i/\t.i<t.j/\t.j<n)/\(us.map Tie.key).Nodup
def aJM(ok:OkV n us)(C:0<=i)(D:i<j)(E:j<n)(o:fR a b=true):∃vs,putD (bI us) [.inl i,.inl j] (.d (.tuple [.int a,.int b]))=bI vs/\OkV n vs/\vs.length<=us.length+1:=by
 unfold putD;by_cases c:((bI us).any λG=>decide (G.1=[.inl i,.inl j]))=true
 .rw[A4 c];refine⟨us.map λt=>if t.key=[.inl i,.inl j]then⟨t.i,t.j,a,b⟩else t,?_,⟨λt ht=>?_,?_⟩,by rw[A1];omega⟩
  .unfold bI;rw[B7,B7];refine O8 λt _=>?_;show(if t.key=_ then(t.key,CD.d (.tuple [.int a,.int b]))else(t.key,t.val))=_;by_cases q:t.key=[.inl i,.inl j]
   .rw[A4 q];show(t.key,CD.d (.tuple [.int a,.int b]))=((if t.key=[.inl i,.inl j]then(⟨t.i,t.j,a,b⟩:Tie)else t).key,(if t.key=[.inl i,.inl j]then(⟨t.i,t.j,a,b⟩:Tie)else t).val);rw[A4 q];rfl
   .rw[A5 q];show(t.key,t.val)=((if t.key=[.inl i,.inl j]then(⟨t.i,t.j,a,b⟩:Tie)else t).key,(if t.key=[.inl i,.inl j]then(⟨t.i,t.j,a,b⟩:Tie)else t).val);rw[A5 q]
  .obtain⟨s,hs,rfl⟩:=List.mem_map.mp ht;obtain⟨H,u,A,B⟩:=ok.1 s hs;split
   .exact⟨o,u,A,B⟩
   .exact⟨H,u,A,B⟩
  .rw[B7,show us.map (Tie.key ∘ λt=>if t.key=[.inl i,.inl j]then(⟨t.i,t.j,a,b⟩:Tie)else t)=us.map Tie.key from O8 λt _=>by
    show(if t.key=[.inl i,.inl j]then(⟨t.i,t.j,a,b⟩:Tie)else t).key=t.key;split<;>rfl]
   exact ok.2
 .rw[A5 c];refine⟨us++[⟨i,j,a,b⟩],by unfold bI;rw[D0];rfl,⟨λt ht=>?_,?_⟩,by rw[B9,F0];omega⟩
  .obtain h|h:=List.mem_append.mp ht
   .exact ok.1 t h
   .rw[List.mem_singleton.mp h];exact⟨o,C,D,E⟩
  .rw[D0,A0k];refine List.nodup_append.mpr ⟨ok.2,by simp,λk I l K q=>?_⟩;rw[List.mem_singleton.mp K]at q;subst q;obtain⟨t,ht,e⟩:=List.mem_map.mp I;refine c<|List.any_eq_true.mpr ⟨(t.key,t.val),List.mem_map.mpr ⟨t,ht,rfl⟩,?_⟩;rw[e];exact C7 rfl
def aLR:IY [I i,I j] M=Z (I (if j<i then j else i),M):=rfl
def aKn:HE [I i,I j] M=Z (I (if j > i then j else i),M):=rfl
def s2:(2:Nat)<=ba:=by decide
def aGL{fo h:EF}{q:KF}{M1 M2:Sto}{v o:CD}{k:KY}(t:h γ M=Z (v,M1))(u:fo γ M1=Z (o,M1))(A:q γ M1=Z (k,M1))(hs:FU M1 o k v=Z M2):vK fo q h γ M=Z (.nx γ,M2):=by
 simp only[vK,t,u,A,hs,Option.bind_some]
noncomputable def IX(z:Int):T4:=[.tuple [.int 1,.int 1],.tuple [.int 1,.int 2],.tuple [.int 3,.int 4],.tuple [.int 1000000000000,.int 1],.tuple [.int 1,.int 55440],.tuple [.int 5,.int 12],.tuple [.int 999999999997,.int 7],.tuple [.int 0,.int 1],.tuple [.int (z / 9 % 99),.int 1]]
def aGd{x:Int}(h:0<=x)(k:x<99):fR x 1=true:=by
 unfold fR;have g:Int.gcd x 1=1:=Int.gcd_one_right x;rw[C7 h,g,C7 (show x<=1000000000000 by omega)];rfl
def aEP{d:Ua}(h:d∈IX z):∃a b,d=.tuple [.int a,.int b]/\fR a b=true:=by
 have n1:=C8 (z / 9) (show(99:Int)≠0 by decide);have k:=C5 (z / 9) (show(0:Int)<99 by decide);simp only[IX,List.mem_cons,List.not_mem_nil,or_false]at h;obtain rfl|rfl|rfl|rfl|rfl|rfl|rfl|rfl|rfl:=h
 all_goals first
  |exact⟨_,_,rfl,aGd n1 k⟩
  |exact⟨_,_,rfl,by decide +kernel⟩
abbrev GT(c:Nat)(n:Int)(d:Nat)(g3 g4 g5 g6 g7:Te):Ga:=[Z (.c c),Z<|I n,Z (.c d),g3,g4,g5,g6,g7]
def aBd{L:Nat}{g4:Te}(B:0<n)(dk:Dk M c (m+1))(hd:M[d]?=Z (.dt (bI us)))(ok:OkV n us)(hl:us.length<=500)(ne:d≠c):
 ∃o q u A M' vs,iX (GT c n d (Z<|I k) g4 g5 g6 g7) M=Z (.nx (GT c n d (Z<|I k) o q u A),M')/\Dk M' c m/\M'[d]?=Z (.dt (bI vs))/\OkV n vs/\vs.length<=us.length+1/\(∀e C,Dk M e C->e≠c->e≠d->Dk M' e C):=by
 obtain⟨z,M1,O,G,E,z0,z1⟩:=dk.pop;have u1:M1[d]?=Z (.dt (bI us)):=by rw[E.at_ d ne];exact hd
 have P:aZ (aX "list" dU (aB 0) aF) (br 4) (GT c n d (Z<|I k) g4 g5 g6 g7) M=Z (.nx (GT c n d (Z<|I k) (Z<|I z) g5 g6 g7),M1):=bS<|pop_at rfl dk.ty O;have D:∀a b e,aB 4 (GT c n d (Z<|I k) (Z<|I z) a b e) M1=Z (I z,M1):=λ_ _ _=>rfl;have H:∀a b e,aB 1 (GT c n d (Z<|I k) (Z<|I z) a b e) M1=Z (I n,M1):=λ_ _ _=>rfl;have Q:aZ (fOp bB (aB 4)<|aB 1) (br 5) (GT c n d (Z<|I k) (Z<|I z) g5 g6 g7) M1=Z (.nx (GT c n d (Z<|I k) (Z<|I z) (Z<|I (z % n)) g6 g7),M1):=bS<|bN (D _ _ _) (H _ _ _)<|dJ B;have R:aZ (fOp bB (fOp bR (aB 4)<|fC (.int 41))<|aB 1) (br 6) (GT c n d (Z<|I k) (Z<|I z) (Z<|I (z % n)) g6 g7) M1=Z (.nx (GT c n d (Z<|I k) (Z<|I z) (Z<|I (z % n)) (Z<|I (z / 41 % n)) g7),M1):=bS<|bN (bN (D _ _ _) (bL (i:=41))<|tQ (by decide) (by decide)) (H _ _ _)<|dJ B;have S:=bS (i:=7)<|DF (GT c n d (Z<|I k) (Z<|I z) (Z<|I (z % n)) (Z<|I (z / 41 % n)) g7) M1;have T:=C8 z (show n≠0 by omega);have U:=C5 z B;have V:=C8 (z / 41) (show n≠0 by omega);have W:=C5 (z / 41) B;unfold iX;rw[aV P,aV Q,aV R,aV S];generalize hi:z % n=i at T U;generalize hj:z / 41 % n=j at V W;generalize X:CD.d (PyData.list [.tuple [.int 1,.int 1],.tuple [.int 1,.int 2],.tuple [.int 3,.int 4],.tuple [.int 1000000000000,.int 1],.tuple [.int 1,.int 55440],.tuple [.int 5,.int 12],.tuple [.int 999999999997,.int 7],.tuple [.int 0,.int 1]])=KK;show ∃o q u A M' vs,sIf (gB<|fOp (eqX true) (aB 5)<|aB 6) _ cV (GT c n d (Z<|I k) (Z<|I z) (Z<|I i) (Z<|I j)<|Z KK) M1=_/\_
 have K:gB (fOp (eqX true) (aB 5)<|aB 6) (GT c n d (Z<|I k) (Z<|I z) (Z<|I i) (Z<|I j)<|Z KK) M1=Z (!(i==j),M1):=by
  simp![aNy]
 cases h:(!(i==j))with
 |false=>
  rw[qB (K.trans (by rw[h]))];exact⟨_,_,_,_,M1,us,rfl,G,u1,ok,by omega,λe C h n1 _=>h.oth E n1⟩
 |true=>
  rw[aEb (K.trans (by rw[h]))];have a0:i≠j:=by simpa using h
  obtain⟨w,hw,hm⟩:=KJ (ds:=IX z) (k:=z / 1700) (m:=9) (by decide) rfl;obtain⟨a,b,rfl,wg⟩:=aEP hm
  have e1:dP (aA (eF<|aA (fOp bB (fOp bR (aB 4)<|fC (.int 9))<|fC (.int 99))<|aA (fC (.int 1)) aF) aF) (GT c n d (Z<|I k) (Z<|I z) (Z<|I i) (Z<|I j)<|Z KK) M1=Z (.d (.list [.tuple [.int (z / 9 % 99),.int 1]]),M1):=by
   have t:=jI (aH (bN (k:=bB) (bN (k:=bR) (D (Z<|I i) (Z<|I j)<|Z KK) (bL (i:=9))<|tQ (by decide) (by decide)) (bL (i:=99))<|dJ (by decide))<|aH (bL (i:=1)) aP) (ds:=[.int (z / 9 % 99),.int 1]) rfl (show(2:Nat)<=500 by decide);unfold dP;rw[aH t aP,A2];show(Z [PyData.tuple [.int (z / 9 % 99),.int 1]]).bind _=_;rw[A2];exact A4<|s9 (show(1:Nat)<=9 by decide)
  have e2:fOp bY (aB 7) (dP<|aA (eF<|aA (fOp bB (fOp bR (aB 4)<|fC (.int 9))<|fC (.int 99))<|aA (fC (.int 1)) aF) aF) (GT c n d (Z<|I k) (Z<|I z) (Z<|I i) (Z<|I j)<|Z KK) M1=Z (.d (.list (IX z)),M1):=by
   refine bO (a:=KK) rfl e1 ?_;subst X;exact wN (show(8+1:Nat)<=1000 by decide)
  have ev:=bO (k:=ixF) e2 (bN (k:=bB) (bN (k:=bR) (D (Z<|I i) (Z<|I j)<|Z KK) (bL (i:=1700))<|tQ (by decide) (by decide)) (bL (i:=9))<|dJ (by decide)) (show ixF (.d (.list (IX z))) (I (z / 1700 % 9)) M1=Z (.d (.tuple [.int a,.int b]),M1)by
   show(atI (IX z) (z / 1700 % 9)).bind _=_;rw[hw];rfl)
  obtain⟨vs,w1,w2,w3⟩:=aJM (i:=if j<i then j else i) (j:=if j > i then j else i) ok (by split<;>omega) (by split<;>split<;>omega) (by split<;>omega) wg;have ll:(bI us).length<ba:=by unfold bI;rw[A1,E4];omega
  have sd:FU M1 (.c d) (.inr [.inl (if j<i then j else i),.inl (if j > i then j else i)]) (.d (.tuple [.int a,.int b]))=Z (M1.set d (.dt (bI vs))):=by
   simp only[FU,u1,if_pos ll,w1]
  have ek:BA (aA (aL IY<|aA (aB 5)<|aA (aB 6) aF)<|aA (aL HE<|aA (aB 5)<|aA (aB 6) aF) aF) (GT c n d (Z<|I k) (Z<|I z) (Z<|I i) (Z<|I j)<|Z KK) M1=Z (.inr [.inl (if j<i then j else i),.inl (if j > i then j else i)],M1):=by
   simp![BA,aLR,aKn,keysOf,keyOf,s2]
  exact⟨_,_,_,_,M1.set d (.dt (bI vs)),vs,aGL ev rfl ek sd,G.put ne,C3<|aBF u1,w2,w3,λe C h n1 n2=>(h.oth E n1).put (J7 n2)⟩
def aMD{t:Tie}(nd:(us.map Tie.key).Nodup)(ht:t∈us):lkC (bI us) t.key=Z t.val:=by
 unfold lkC bI;rw[List.find?_map]
 have:us.find? ((λk:Tv Key×CD=>decide (k.1=t.key)) ∘ λt=>(t.key,t.val))=Z t:=by
  induction us with
  |nil=>simp at ht
  |cons s us ih=>
   rw[B2,List.nodup_cons]at nd;by_cases e:s.key=t.key
   .obtain rfl|h:=List.mem_cons.mp ht
    .rw[List.find?_cons_of_pos (by simp)]
    .exact absurd (List.mem_map.mpr ⟨t,h,e.symm⟩) nd.1
   .rw[List.find?_cons_of_neg (by simpa using e)];obtain rfl|h:=List.mem_cons.mp ht
    .exact absurd rfl e
    .exact ih nd.2 h
 rw[this];rfl
theorem NI{k:Type}{e:EF}{M:Sto}{x0:Te}(f:k->CD)(h:k->Ua):∀(xs:Tv k)(g:Te),(∀x∈xs,e [x0,Z<|f x] M=Z (.d (h x),M))->lcF (br 1) eP e (xs.map f) [x0,g] M=Z ((xs.map h).map .d,M)
 |[]=>λ_ _=>rfl
 |x::xs=>λg o=>by
  have ih:=NI (M:=M) (e:=e) (x0:=x0) f h xs (Z<|f x) λy q=>o y<|B1 _ q;have t:=o x B0;rw[B2,B2,B2];show(br 1 (f x) [x0,g] M).bind _=_;rw[show br 1 (f x) [x0,g] M=Z ([x0,Z<|f x],M)from rfl,A2];show(eP _ M).bind _=_;rw[show eP [x0,Z<|f x] M=Z (true,M)from rfl,A2,A4 rfl,t,A2];dsimp only;rw[ih,A2]
def ZZ{c:Nat}{n:Int}{g3:Te}(hd:M[d]?=Z (.dt (bI us)))(nd:(us.map Tie.key).Nodup)(A:us.length<=20):
 ∃vs:Tv Tie,vs.Perm us/\vs.Pairwise Tie.lt/\nD (GT c n d g3 g4 g5 g6 g7) M=Z (.d (.list (bG vs)),M):=by
 obtain⟨vs,pm,pw,h,_⟩:=IK rf0 nd (by omega);have B:vs.length=us.length:=pm.length_eq;refine⟨vs,pm,pw,?_⟩
 have k:rB [.c d] M=Z (.d (.list (vs.map λt=>.tuple (f0 t))),M):=by
  have e:(bI us).map (λo=>o.1.map GR)=us.map f0:=by unfold bI;rw[B7];rfl
  simp only[rB,hd,e,h,Option.bind_some]
 have it:bD (aL rB<|aA (aB 2) aF) (GT c n d g3 g4 g5 g6 g7) M=Z (vs.map λt=>.d (.tuple (f0 t)),M):=by
  have:=aY (F:=rB) (aH (show aB 2 (GT c n d g3 g4 g5 g6 g7) M=Z (.c d,M)from rfl) aP) k;unfold bD;rw[this,A2];show(Z (vs.map λt=>PyData.tuple<|f0 t)).bind _=_;rw[A2,B7];rfl
 unfold nD;refine iN it (by rw[A1];omega) ?_ (by unfold bG;rw[A1];omega);rw[show lJ [Z 2,Y] (GT c n d g3 g4 g5 g6 g7)=[Z (.c d),Y]from rfl];refine NI (x0:=Z (.c d)) (λt=>.d (.tuple (f0 t))) (λt=>.tuple (f2 t)) vs Y λt ht=>?_
 have q:atD M (.c d) (.inr [.inl t.i,.inl t.j])=Z (Z t.val):=by
  simp only[atD,hd];exact U3 Z<|aMD nd<|pm.mem_iff.mp ht
 have g:JL (aB 0) (aB 1) [Z (.c d),Z (.d (.tuple (f0 t)))] M=Z (t.val,M):=by
  show((keysOf<|(f0 t).map CD.d).bind λks=>(atD M (.c d) (.inr ks)).bind λr=>r.bind λx=>Z (x,M))=_;rw[show keysOf ((f0 t).map CD.d)=Z [.inl t.i,.inl t.j]from rfl,A2,q];rfl
 have u:=jI (aH g aP) (ds:=[.tuple [.int t.a,.int t.b]]) rfl (show(1:Nat)<=500 by decide);exact bO (show aB 1 [Z (CD.c d),Z (.d (.tuple (f0 t)))] M=Z (.d (.tuple (f0 t)),M)from rfl) u<|WM (show(2+1:Nat)<=1000 by decide)
def aKd(X:1<=n)(dk:Dk M c (m+9)):∃(vs:Tv Tie)(M':Sto),jF [.c c,I n] M=Z (.d (.list (bG vs)),M')/\OkV n vs/\vs.Pairwise Tie.lt/\vs.length<=8/\Dk M' c m/\∀e k,Dk M e k->e≠c->Dk M' e k:=by
 have cl:=dk.lt;have ne:M.length≠c:=by omega
 have E:aZ yZ (br 2) [Z (.c c),Z<|I n,Y,Y,Y,Y,Y,Y] M=Z (.nx (GT c n M.length Y Y Y Y Y),M++[.dt []]):=rfl;have q:=dk.app (L:=[Cell.dt []]);obtain⟨z,M1,G,H,D,z0,z1⟩:=q.pop;have u1:M1[M.length]?=Z (.dt (bI [])):=by rw[D.at_ _ ne];exact FR
 have n1:=C8 z (show(9:Int)≠0 by decide);have n2:=C5 z (show(0:Int)<9 by decide);obtain⟨N,K⟩:∃N:Nat,(z % 9).toNat=N:=⟨_,rfl⟩;have N8:N<=8:=by omega
 have O:fA (aA (fOp bB (aX "list" dU (aB 0) aF)<|fC (.int 9)) aF) (GT c n M.length Y Y Y Y Y) (M++[.dt []])=Z (gO 0 N,M1):=by
  have e:=aH (uB (pop_at (γ:=GT c n M.length Y Y Y Y Y) (v:=0) rfl q.ty G) (bL (i:=9))<|dJ (by decide)) aP;have sm:dR (z % 9)=true:=uF (by omega) (by omega);unfold fA;rw[e,A2];dsimp only;rw[A4 sm,K]
 obtain⟨γ',M',P,us,g3,g4,g5,g6,g7,rfl,A,Q,u,B,C⟩:=wV (g:=br 3) (b:=iX) (n:=N) (Inv:=λk γ M2=>∃(us:Tv Tie)(g3 g4 g5 g6 g7:Te),γ=GT c n M.length g3 g4 g5 g6 g7/\M2[M.length]?=Z (.dt (bI us))/\us.length<=k/\OkV n us/\Dk M2 c (m+(N-k))/\∀e o,Dk M e o->e≠c->Dk M2 e o)
  (λk hk γ M2 i=>by
   obtain⟨us,g3,g4,g5,g6,g7,rfl,A,Q,u,B,C⟩:=i;obtain⟨q4,q5,q6,q7,R,vs,e,S,T,U,e5,V⟩:=aBd (L:=0) (n:=n) (k:=(k:Nat)) (g4:=g4) (g5:=g5) (g6:=g6) (g7:=g7) (m:=m+(N-(k+1))) (by omega) (B.le (by omega)) A u (by omega) ne;exact⟨_,_,R,rfl,e,vs,_,_,_,_,_,rfl,T,by omega,U,S,λe o h n1=>V e o (C e o h n1) n1 (B4 h.lt)⟩)
  N 0 (GT c n M.length Y Y Y Y Y) M1 (by omega) ⟨[],Y,Y,Y,Y,Y,rfl,u1,A7 _,⟨λt h=>by simp at h,List.nodup_nil⟩,H.le (by omega),λe o h n1=>h.app.oth D n1⟩
 obtain⟨vs,pm,pw,W⟩:=ZZ (c:=c) (n:=n) (g3:=g3) (g4:=g4) (g5:=g5) (g6:=g6) (g7:=g7) A u.2 (by omega);refine⟨vs,M',fJ rfl ?_,⟨λt ht=>u.1 t<|pm.mem_iff.mp ht,(pm.map Tie.key).nodup_iff.mpr u.2⟩,pw,by rw[pm.length_eq];omega,B.le (by omega),C⟩;unfold rK;show bF _ _ [Z (.c c),Z<|I n,Y,Y,Y,Y,Y,Y] M=_;rw[aV E,aV<|sH O P];simp only[bP,W,Option.bind_some]
noncomputable def spl(c:Nat):Td->Tv (Td)
 |[]=>[[]]
 |a::r=>if a=c then[]::spl c r else match spl c r with
  |[]=>[[a]]
  |p::ps=>(a::p)::ps
noncomputable def eY(c:Nat):Tv (Td)->Td
 |[]=>[]
 |[p]=>p
 |p::q::ps=>p++c::eY c (q::ps)
theorem KQ(c:Nat):∀xs,∃p ps,spl c xs=p::ps
 |[]=>⟨[],[],rfl⟩
 |a::r=>by
  unfold spl;by_cases h:a=c
  .rw[A4 h];exact⟨_,_,rfl⟩
  .rw[A5 h];obtain⟨p,ps,e⟩:=KQ c r;rw[e];exact⟨_,_,rfl⟩
theorem xC{c:Nat}:∀{xs:Td},c∉xs->spl c xs=[xs]
 |[]=>λ_=>rfl
 |a::r=>λh=>by
  have k:a≠c:=λe=>h (by rw[e];exact B0);have o:=xC (c:=c) (xs:=r) λq=>h<|B1 _ q;unfold spl;rw[A5 k,o]
theorem VW{c:Nat}:∀{xs ys:Td},c∉xs->spl c (xs++c::ys)=xs::spl c ys
 |[],ys=>λ_=>by
  show spl c (c::ys)=_;rw[spl,A4 rfl]
 |a::r,ys=>λh=>by
  have k:a≠c:=λe=>h (by rw[e];exact B0);have o:=VW (c:=c) (xs:=r) (ys:=ys) λq=>h<|B1 _ q;show spl c (a::(r++c::ys))=_;rw[spl,A5 k,o]
theorem LD{c:Nat}:∀(xs ys:Td),spl c (xs++c::ys)=spl c xs++spl c ys
 |[]=>λys=>by
  show spl c (c::ys)=[]::spl c ys;rw[spl,A4 rfl]
 |a::r=>λys=>by
  have ih:=LD (c:=c) r ys;show spl c (a::(r++c::ys))=spl c (a::r)++_;rw[spl,spl,ih];by_cases h:a=c
  .rw[A4 h,A4 h];rfl
  .rw[A5 h,A5 h];obtain⟨p,ps,e⟩:=KQ c r;rw[e];rfl
theorem xR{c:Nat}:∀{ps:Tv (Td)},ps≠[]->(∀p∈ps,c∉p)->spl c (eY c ps)=ps
 |[]=>λh _=>absurd rfl h
 |[p]=>λ_ h=>xC<|h p B0
 |p::q::ps=>λ_ h=>by
  show spl c (p++c::eY c (q::ps))=_;rw[VW (h p B0),xR (ps:=q::ps) (by simp) λr k=>h r<|B1 _ k]
noncomputable abbrev sg(x:Str):Td:=x.cps.toList
def dC(x y:Str):sg (x++y)=sg x++sg y:=by
 show(x.cps++y.cps).toList=_;rw[Array.toList_append]
theorem xM(c:Nat):∀ps:Tb,sg (Str.join ⟨#[c]⟩ ps)=eY c (ps.map sg)
 |[]=>rfl
 |[p]=>rfl
 |p::q::ps=>by
  show sg (p++⟨#[c]⟩++Str.join ⟨#[c]⟩ (q::ps))=_;rw[dC,dC,xM c (q::ps)];show(sg p++[c])++_=sg p++c::eY c ((q::ps).map sg);rw[E2];rfl
def aBA(x:Str)(c:Nat):Txt.split x ⟨#[c]⟩≠[]:=by
 unfold Txt.split;split
 .simp
 .split
  .simp
  .intro h;have:=length_partsBetween x (Builtin.Str.occurrences x ⟨#[c]⟩ 0 x.length (x.length+1)) (⟨#[c]⟩:Str).length;rw[h]at this;simp at this
def nX(x:Str)(c:Nat):(Txt.split x ⟨#[c]⟩).map sg=spl c (sg x):=by
 have k:Str.join ⟨#[c]⟩ (Txt.split x ⟨#[c]⟩)=x:=StrLaws.join_split x ⟨#[c]⟩;have o:=StrLaws.split_free x c;have h:=xM c<|Txt.split x ⟨#[c]⟩;rw[k]at h
 rw[h,xR (by intro q;exact aBA x c<|List.map_eq_nil_iff.mp q) λp t=>by
  obtain⟨q,u,rfl⟩:=List.mem_map.mp t;exact o q u]
def wds(xs:Td):Tv (Td):=(spl 32 xs).filter λp=>!p.isEmpty
def YE(xs ys:Td):wds (xs++32::ys)=wds xs++wds ys:=by
 unfold wds;rw[LD,List.filter_append]
def PL{w:Td}(h:32∉w)(hn:w≠[]):wds w=[w]:=by
 unfold wds;rw[xC h];cases w with
 |nil=>exact absurd rfl hn
 |cons a r=>rfl
theorem TH:∀(n:Nat)(ys:Td),wds (List.replicate n 32++ys)=wds ys
 |0=>λ_=>rfl
 |n+1=>λys=>by
  rw[O7];show wds ([]++32::(List.replicate n 32++ys))=_;rw[YE,TH n ys];rfl
def said(xs:Td):Tv (Tv<|Td):=((spl 10 xs).map wds).filter λp=>!p.isEmpty
def wF(xs ys:Td):said (xs++10::ys)=said xs++said ys:=by
 unfold said;rw[LD,D0,List.filter_append]
def aCR{xs:Td}(h:10∉xs):said xs=if (wds xs).isEmpty then[]else[wds xs]:=by
 unfold said;rw[xC h];show[wds xs].filter _=_;cases q:(wds xs).isEmpty<;>simp[q]
def NY:said []=[]:=rfl
noncomputable def jn(n:Nat):Tv (Td)->Td
 |[]=>[]
 |[p]=>p
 |p::q::ps=>p++List.replicate (n+1) 32++jn n (q::ps)
theorem aEY(n:Nat):∀{ws:Tv (Td)},(∀w∈ws,32∉w/\w≠[])->wds (jn n ws)=ws
 |[]=>λ_=>rfl
 |[p]=>λh=>PL (h p B0).1 (h p B0).2
 |p::q::ps=>λh=>by
  have ih:=aEY n (ws:=q::ps) λw k=>h w<|B1 _ k;show wds (p++List.replicate (n+1) 32++jn n (q::ps))=_;rw[O7,E2,List.cons_append,YE,PL (h p B0).1 (h p B0).2,TH,ih];rfl
noncomputable abbrev dg(m:Nat):Td:=(Nat.toDigits 10 m).map Char.toNat
def fY(m:Nat):sg (sI (m:Int))=dg m:=W.KIN.signs_num m
def rT(h:m<10):dg m=[48+m]:=by
 have:∀d:Nat,d<10->(Nat.toDigits 10 d).map Char.toNat=[48+d]:=by decide
 exact this m h
def JM(h:¬m<10):dg m=dg (m / 10)++[48+m % 10]:=by
 have hm:m % 10<10:=Nat.mod_lt m (by decide);have t:Nat.toDigits 10 (m / 10)++Nat.toDigits 10 (m % 10)=Nat.toDigits 10 (10*(m / 10)+m % 10):=Nat.toDigits_append_toDigits (by decide) (by omega) hm;rw[Nat.div_add_mod]at t;show(Nat.toDigits 10 m).map Char.toNat=_;rw[<- t,D0];show dg (m / 10)++dg (m % 10)=_;rw[rT hm]
theorem qS:∀(k m:Nat),m<10 ^ (k+1)->(dg m).length<=k+1/\0<(dg m).length
 |k,m,h=>by
  by_cases q:m<10
  .rw[rT q];exact⟨by show 1<=k+1;omega,by show 0<1;decide⟩
  .rw[JM q];cases k with
   |zero=>exact absurd h (by simpa using q)
   |succ k=>
    have o:m / 10<10 ^ (k+1):=by
     refine Nat.div_lt_of_lt_mul ?_;rw[Nat.pow_succ]at h;omega
    have ih:=qS k (m / 10) o;rw[B9];exact⟨by show _+1<=_;omega,by show 0<_+1;omega⟩
def xN(m:Nat):∀c∈dg m,48<=c/\c<=57:=by
 induction m using Nat.strongRecOn with
 |_ m ih=>
  intro c k;by_cases q:m<10
  .rw[rT q]at k;rw[List.mem_singleton.mp k];omega
  .rw[JM q]at k;obtain h|h:=List.mem_append.mp k
   .exact ih (m / 10) (by omega) c h
   .rw[List.mem_singleton.mp h];omega
def aHS(m:Nat)(h:0<m):∃c r,dg m=c::r/\c≠48:=by
 induction m using Nat.strongRecOn with
 |_ m ih=>
  by_cases q:m<10
  .exact⟨48+m,[],rT q,by omega⟩
  .obtain⟨c,r,e,n⟩:=ih (m / 10) (by omega) (by omega);exact⟨c,r++[48+m % 10],by rw[JM q,e];rfl,n⟩
def aDY(m:Nat):NumText.digitsVal (dg m)=m:=W.KIN.val_back m
def str_len(x:Str):x.length=(sg x).length:=by
 show x.cps.size=_;rw[L5]
def aAI{k:Nat}(h:m<10 ^ (k+1))(q:k<=600):PySem.intText? (sI (m:Int))=Z (m:Int):=by
 have l:=qS k m h
 have hd:NumText.AllDigits (sg<|sI (m:Int)):=by
  rw[fY];exact xN m
 have o:sg (sI (m:Int))≠[]:=by
  rw[fY];intro e;rw[e]at l;exact absurd l.2 (by decide)
 have e:=PySem.intText_digits hd o (by rw[str_len,fY];omega);rw[show(sI (m:Int)).cps.toList=dg m from fY m,aDY]at e;exact e
theorem DH{h:Type}:∀l:Tv h,boolsOf (l.map λ_=>.bool true)=Z (l.map λ_=>true)
 |[]=>rfl
 |_::l=>by
  show(boolsOf (l.map λ_=>.bool true)).bind _=_;rw[DH l];rfl
def all_true{h:Type}(l:Tv h)(M:Sto):GE [.d (.list (l.map λ_=>.bool true))] M=Z (B true,M):=by
 have:(l.map λ_=>true).all id=true:=by
  rw[List.all_map];exact List.all_eq_true.mpr λ_ _=>rfl
 simp only[GE,DH,Option.bind_some,this]
def fT{M1:Sto}{b:Bool}(h:f γ M=Z (B b,M1)):gB f γ M=Z (b,M1):=by
 unfold gB;rw[h];rfl
def aAc:sg ("0123456789":Str)=[48,49,50,51,52,53,54,55,56,57]:=by decide
def aAe(h:48<=c/\c<=57):inS false (S ⟨#[c]⟩) (S "0123456789") M=Z (B true,M):=by
 have e:(!(Builtin.Str.occurrences ("0123456789":Str) ⟨#[c]⟩ 0 ("0123456789":Str).length 1).isEmpty)=true:=by
  rw[StrLaws.found_one];refine C7 ?_;show c∈sg ("0123456789":Str);rw[aAc];simp only[List.mem_cons,List.not_mem_nil,or_false];omega
 show Z (CD.d (.bool (!(Builtin.Str.occurrences ("0123456789":Str) ⟨#[c]⟩ 0 ("0123456789":Str).length 1).isEmpty)),M)=_;rw[e]
def BQ{y:Str}(h:sg x=sg y):x=y:=by
 obtain⟨⟨a⟩⟩:=x;obtain⟨⟨b⟩⟩:=y;have:a=b:=h;rw[this]
def aBe(x:Str):FF x=(sg x).map λc=>S ⟨#[c]⟩:=rfl
def qY{k:Nat}(h:m<10 ^ (k+1))(R:k<600):cL [S (sI (m:Int)),I ((k+1:Nat):Int)] M=Z (I (m:Int),M):=by
 have l:=qS k m h;have ln:(sI (m:Int)).length=(dg m).length:=by rw[str_len,fY]
 obtain⟨J,C⟩:∃J:Int,J=((k+1:Nat):Int):=⟨_,rfl⟩;obtain⟨N,D⟩:∃N:Int,N=((sI (m:Int)).length:Int):=⟨_,rfl⟩;rw[<- C]
 have o:(sI (m:Int)).cps.all (·<128)=true:=by
  rw[<- Array.all_toList];refine List.all_eq_true.mpr λc t=>?_;have:=xN m c (by rw[<- fY];exact t);exact C7 (by omega)
 have E:fZ [Z (S<|sI (m:Int)),Z<|I J] M=Z (.d (.list ((sg<|sI (m:Int)).map λ_=>.bool true)),M):=by
  have it:EA (aB 0) [Z (S<|sI (m:Int)),Z<|I J] M=Z ((sg<|sI (m:Int)).map λc=>S ⟨#[c]⟩,M):=by
   unfold EA;rw[show aB 0 [Z (S<|sI (m:Int)),Z<|I J] M=Z (S<|sI (m:Int),M)from rfl,A2];dsimp only;rw[A4 o,aBe]
  unfold fZ;refine iN it (by rw[A1,fY];omega) ?_ (by rw[A1,fY];omega);rw[show lJ [Y] [Z (S<|sI (m:Int)),Z<|I J]=[Y]from rfl];refine lT (λc=>S ⟨#[c]⟩) (λ_=>.bool true) (sg<|sI (m:Int)) Y λc t=>?_;exact bO (show aB 0 [Z (S ⟨#[c]⟩)] M=Z (S ⟨#[c]⟩,M)from rfl) (show fC (.str "0123456789") [Z (S ⟨#[c]⟩)] M=Z (S "0123456789",M)from rfl)<|aAe<|xN m c (by rw[<- fY];exact t)
 have le:RO [S (sI (m:Int))] M=Z (I N,M):=by
  have:(sI (m:Int)).length<=ba:=by rw[ln,szl];omega
  simp only[RO,if_pos this,D]
 have t1:qG (gB<|pO ltI leI (fC (.int 0)) (aL RO<|aA (aB 0) aF)<|aB 1) [Z (S<|sI (m:Int)),Z<|I J] M=Z (false,M):=by
  have G:decide ((0:Int)<N)=true:=C7 (by omega);have H:decide (N<=J)=true:=C7 (by omega);simp![le,G,H]
 have t2:qG (gB<|aL GE<|aA fZ aF) [Z (S<|sI (m:Int)),Z<|I J] M=Z (false,M):=by
  have:=fT<|aY (F:=GE) (aH E aP)<|all_true _ M;unfold qG;rw[this];rfl
 have s1:sIf (gOr (qG<|gB<|pO ltI leI (fC (.int 0)) (aL RO<|aA (aB 0) aF)<|aB 1)<|qG<|gB<|aL GE<|aA fZ aF) (bP<|fC .none) cV [Z (S<|sI (m:Int)),Z<|I J] M=Z (.nx [Z (S<|sI (m:Int)),Z<|I J],M):=by
  refine(qB ?_).trans rfl;unfold gOr;rw[t1];exact t2
 have K:gOr (gB<|fOp (eqX false) (aB 0)<|fC (.str "0")) (gB<|fOp (eqX true) (fOp ixS (aB 0)<|fC (.int 0))<|fC (.str "0")) [Z (S<|sI (m:Int)),Z<|I J] M=Z (true,M):=by
  cases q:(sI (m:Int)==("0":Str))with
  |true=>
   have e:gB (fOp (eqX false) (aB 0)<|fC (.str "0")) [Z (S<|sI (m:Int)),Z<|I J] M=Z (true,M):=fT (bO (show aB 0 [Z (S<|sI (m:Int)),Z<|I J] M=Z (S<|sI (m:Int),M)from rfl) (show fC (.str "0") [Z (S<|sI (m:Int)),Z<|I J] M=Z (S "0",M)from rfl) (show eqX false (S<|sI (m:Int)) (S "0") M=Z (B true,M)by
    show Z (CD.d (.bool (sI (m:Int)==("0":Str))),M)=_;rw[q]))
   unfold gOr;rw[e];rfl
  |false=>
   have e:gB (fOp (eqX false) (aB 0)<|fC (.str "0")) [Z (S<|sI (m:Int)),Z<|I J] M=Z (false,M):=fT (bO (show aB 0 [Z (S<|sI (m:Int)),Z<|I J] M=Z (S<|sI (m:Int),M)from rfl) (show fC (.str "0") [Z (S<|sI (m:Int)),Z<|I J] M=Z (S "0",M)from rfl) (show eqX false (S<|sI (m:Int)) (S "0") M=Z (B false,M)by
    show Z (CD.d (.bool (sI (m:Int)==("0":Str))),M)=_;rw[q]))
   have O:0<m:=by
    obtain z|z:=Nat.eq_zero_or_pos m
    .subst z;exact absurd q (by decide)
    .exact z
   obtain⟨c,r,P,n1⟩:=aHS m O
   have ix:ixS (S<|sI (m:Int)) (I 0) M=Z (S ⟨#[c]⟩,M):=by
    have z:(sI (m:Int)).length<=ba:=by rw[ln,szl];omega
    have u:atI (sI (m:Int)).cps.toList 0=Z c:=by
     rw[show(sI (m:Int)).cps.toList=dg m from fY m,P];exact jY (xs:=c::r) (k:=0) rfl
    simp only[ixS,if_pos z,u,Option.bind_some]
   have ne:(((⟨#[c]⟩:Str))==("0":Str))=false:=by
    refine beq_eq_false_iff_ne.mpr λh=>n1 ?_;have A:sg (⟨#[c]⟩:Str)=sg ("0":Str):=by rw[h]
    rw[show sg ("0":Str)=[48]by decide]at A;injection A
   have Q:=fT (bO (k:=eqX true) (bO (k:=ixS) (show aB 0 [Z (S<|sI (m:Int)),Z<|I J] M=Z (S<|sI (m:Int),M)from rfl) (bL (i:=0)) ix) (show fC (.str "0") [Z (S<|sI (m:Int)),Z<|I J] M=Z (S "0",M)from rfl) (show eqX true (S ⟨#[c]⟩) (S "0") M=Z (B true,M)by
    show Z (CD.d (.bool (!((⟨#[c]⟩:Str)==("0":Str)))),M)=_;rw[ne];rfl))
   unfold gOr;rw[e];exact Q
 have it:VO [S (sI (m:Int))] M=Z (I (m:Int),M):=by
  have z:(sI (m:Int)).length<=640:=by rw[ln];omega
  simp only[VO,if_pos z,aAI h (by omega),Option.bind_some]
 unfold cL;refine fJ rfl ?_;show lP [Z (S<|sI (m:Int)),Z<|I J] M=_;unfold lP;rw[aV s1];unfold bP fIf;rw[K,A2];dsimp only;rw[A4 rfl,aY (F:=VO) (aH (show aB 0 [Z (S<|sI (m:Int)),Z<|I J] M=Z (S<|sI (m:Int),M)from rfl) aP) it];rfl
def pW(h:m<100):bZ [S (sI (m:Int))] M=Z (I (m:Int),M):=by
 have e:=qY (m:=m) (k:=1) (M:=M) (by simpa using h) (by decide);unfold bZ;refine fJ rfl ?_;show oB [Z (S<|sI (m:Int))] M=_;unfold oB bP;rw[aY (F:=cL) (aH (show aB 0 [Z (S<|sI (m:Int))] M=Z (S<|sI (m:Int),M)from rfl)<|aH (bL (i:=2)) aP) e];rfl
def aAQ(h:c∉sg x):iK x ⟨#[c]⟩=[x,Str.empty,Str.empty]:=by
 unfold iK;obtain⟨e,_⟩|⟨i,r,e,ha,_⟩:=StrLaws.occ_head x ⟨#[c]⟩ 1 (by decide)
 .rw[e]
 .have:=(StrLaws.subAt_one x c i).mp ha;exact absurd (S6 this) h
def aHo{a b:Td}(h:sg x=a++c::b)(ha:c∉a):iK x ⟨#[c]⟩=[⟨a.toArray⟩,⟨#[c]⟩,⟨b.toArray⟩]:=by
 have at_:x.cps.toList[a.length]?=Z c:=by
  show(sg x)[a.length]?=Z c;rw[h,D7<|A7 _,O2];rfl
 have o:x.length=a.length+1+b.length:=by
  rw[str_len,h,B9,C0];omega
 unfold iK;obtain⟨e,hn⟩|⟨i,r,e,hi,hn⟩:=StrLaws.occ_head x ⟨#[c]⟩ 1 (by decide)
 .exact absurd ((StrLaws.subAt_one x c a.length).mpr at_)<|hn a.length
 .have t:=(StrLaws.subAt_one x c i).mp hi
  have u:i=a.length:=by
   obtain q|q|q:=Nat.lt_trichotomy i a.length
   .have k:(sg x)[i]?=Z c:=t;rw[h,J0 q]at k;exact absurd (S6 k) ha
   .exact q
   .exact absurd ((StrLaws.subAt_one x c a.length).mpr at_)<|hn a.length q
  subst u;rw[e]
  have A:Builtin.Str.strSub x 0 a.length=⟨a.toArray⟩:=by
   apply BQ
   show(Builtin.Str.strSub x 0 a.length).cps.toList=_;rw[StrLaws.strSub_toList,List.drop_zero,Nat.sub_zero];show(sg x).take a.length=_;rw[h,List.take_left]
  have B:Builtin.Str.strSub x (a.length+(⟨#[c]⟩:Str).length) x.length=⟨b.toArray⟩:=by
   apply BQ
   show(Builtin.Str.strSub x (a.length+1) x.length).cps.toList=_;rw[StrLaws.strSub_toList];show((sg x).drop (a.length+1)).take (x.length-(a.length+1))=b;rw[h,o]
   have:(a++c::b).drop (a.length+1)=b:=by
    rw[show a++c::b=(a++[c])++b by simp,List.drop_left' (by simp)]
   rw[this];exact List.take_of_length_le (by omega)
  show[Builtin.Str.strSub x 0 a.length,_,_]=_;rw[A,B]
def OL(m:Nat):47∉dg m:=λh=>by have:=xN m 47 h;omega
def aIm:("/":Str)=⟨#[47]⟩:=by decide
def aJz(h:sI (m:Int)="1"):m=1:=by
 have e:dg m=[49]:=by
  rw[<- fY,h];decide
 rw[<- aDY m,e];decide
def aEj(m:Nat):(⟨(dg m).toArray⟩:Str)=sI (m:Int):=BQ (by rw[fY])
def aEU{a:Nat}:iK (iJ (a:Int) 1) "/"=[sI (a:Int),Str.empty,Str.empty]:=by
 have e:iJ (a:Int) 1=sI (a:Int):=by unfold iJ;exact A4 rfl
 rw[e,aIm];exact aAQ (by rw[fY];exact OL a)
def aCZ{a b:Nat}(h:b≠1):iK (iJ (a:Int) (b:Int)) "/"=[sI (a:Int),"/",sI (b:Int)]:=by
 have e:iJ (a:Int) (b:Int)=sI (a:Int)++"/"++sI (b:Int):=by
  unfold iJ;rw[A5 (by simp;omega)]
 have s:sg (iJ (a:Int) (b:Int))=dg a++47::dg b:=by
  rw[e,dC,dC,fY,fY,E2];rfl
 have:=aHo (c:=47) s<|OL a;rw[aIm,this,aEj,aEj]
def aKx{x:CD}(h:f γ M=Z (B true,M))(k:g γ M=Z (x,M)):qE f g γ M=Z (x,M):=by
 unfold qE;rw[h];exact k
def LW(ha:0<=a)(o:1<=b):gZ [.d (.tuple [.int a,.int b])] M=Z (B (((Int.gcd a b:Nat):Int)==1),M):=by
 have n:qZ (.tuple [.int a,.int b])=true:=by
  rw[show qZ (.tuple [.int a,.int b])=(decide (0<=a)&&decide (1<=b))from rfl,C7 ha,C7 o];rfl
 have h:=cT (.tuple [.int a,.int b]) M;rw[n]at h;have c:=OG (a:=a) (b:=b) M ha (by omega);obtain⟨J,t⟩:∃J:Int,((Int.gcd a b:Nat):Int)=J:=⟨_,rfl⟩;rw[t]at c ⊢;have v:aB 0 [Z (.d (.tuple [.int a,.int b]))] M=Z (.d (.tuple [.int a,.int b]),M):=rfl;have q:=bO (k:=eqX false) (aY (F:=rQ) (aH (bO (k:=ixF) v (bL (i:=0)) aNQ)<|aH (bO (k:=ixF) v (bL (i:=1)) aNZ) aP) c) (bL (i:=1)) (show eqX false (I J) (I 1) M=Z (B (J==1),M)from rfl);unfold gZ;refine fJ rfl ?_;show lM [Z (.d (.tuple [.int a,.int b]))] M=_;unfold lM bP;rw[aKx (aY (F:=bM) (aH v aP) h) q];rfl
def aLh{g:GF}{M1 M2:Sto}{x:CD}(h:f γ M=Z (x,M1))(k:g x γ M1=Z (γ',M2)):aZ f g γ M=Z (.nx γ',M2):=by
 simp only[aZ,h,k,Option.bind_some]
def aJy:(("/":Str).length==0)=false:=by decide
def aFU{a b k:Nat}(ha:a<10 ^ (k+1))(h:b<10 ^ (k+1))(o:k<600):(iJ (a:Int) (b:Int)).length<=2000:=by
 have q:=qS k a ha;have t:=qS k b h;have u:(sI (a:Int)).length=(dg a).length:=by rw[str_len,fY]
 have A:(sI (b:Int)).length=(dg b).length:=by rw[str_len,fY]
 unfold iJ;split
 .omega
 .rw[dF,dF,sl1];omega
def XD(h:f γ M=Z (S x,M))(k:x.length<=10000):lQ f γ M=Z (((x.length:Int) != 0),M):=by
 have z:x.length<=ba:=by rw[szl];omega
 simp only[lQ,h,Option.bind_some,if_pos z]
def ZS{a b:Nat}(ha:a<10 ^ 30)(K:b<10 ^ 30)(b1:1<=b):fK [S (iJ (a:Int) (b:Int))] M=Z (.d (if (((Int.gcd (a:Int) (b:Int):Nat):Int)==1)=true then .tuple [.int (a:Int),.int (b:Int)]else .none),M):=by
 have nl:=aFU (k:=29) ha K (by decide);obtain⟨w,D⟩:∃w,iJ (a:Int) (b:Int)=w:=⟨_,rfl⟩;have na:=qY (m:=a) (k:=29) (M:=M) ha (by decide);have W:=qY (m:=b) (k:=29) (M:=M) K (by decide);have O:=LW (a:=(a:Int)) (b:=(b:Int)) (M:=M) (by omega) (by omega);obtain⟨E,X⟩:∃E,(((Int.gcd (a:Int) (b:Int):Nat):Int)==1)=E:=⟨_,rfl⟩;rw[X]at O ⊢
 have lb:(sI (b:Int)).length<=10000:=by
  have l2:=qS 29 b K;rw[str_len,fY];omega
 obtain⟨A,G⟩:∃A:Int,(a:Int)=A:=⟨_,rfl⟩;obtain⟨C,H⟩:∃C:Int,(b:Int)=C:=⟨_,rfl⟩
 have pf:∀p q r,iK w "/"=[p,q,r]->BX (S w) [S "/"] M=Z (.d (.tuple [.str p,.str q,.str r]),M):=λp q r e=>by
  have z:(("/":Str).length==0)=false/\w.length<=ba:=⟨aJy,by rw[<- D,szl];omega⟩;simp only[BX,if_pos z,e];rfl
 have step:∀p q r,iK w "/"=[p,q,r]->aZ (aX "str" BX (aB 0)<|aA (fC (.str "/")) aF) (iG 3<|bC (br 1)<|bC (br 2)<|bC (br 3) gG) [Z (S w),Y,Y,Y,Y] M=Z (.nx [Z (S w),Z<|S p,Z<|S q,Z<|S r,Y],M):=λp q r e=>
  aLh (oU (show aB 0 [Z (S w),Y,Y,Y,Y] M=Z (S w,M)from rfl) rfl (aH (show fC (.str "/") [Z (S w),Y,Y,Y,Y] M=Z (S "/",M)from rfl) aP)<|pf p q r e) rfl
 have u:∀P Q g3,bP (fIf (gB<|aL gZ<|aA (aB 4) aF) (aB 4)<|fC .none) [Z (S w),P,Q,g3,Z (.d (.tuple [.int A,.int C]))] M=Z (.rt (.d (if E=true then .tuple [.int A,.int C]else .none)),M):=λP Q g3=>by
  have V:aB 4 [Z (S w),P,Q,g3,Z (.d (.tuple [.int A,.int C]))] M=Z (.d (.tuple [.int A,.int C]),M):=rfl;rw[G,H]at O;have t:=fT<|aY (F:=gZ) (aH V aP) O;unfold bP fIf;rw[t,A2];cases E
  .rfl
  .dsimp only;rw[A4 rfl,V];rfl
 rw[D,G,H];unfold fK;refine fJ rfl ?_;show lO [Z (S w),Y,Y,Y,Y] M=_;unfold lO;by_cases q:b=1
 .subst q;have e:iK w "/"=[sI (a:Int),Str.empty,Str.empty]:=by rw[<- D];exact aEU
  rw[aV (step _ _ _ e)];have R:∀o,aB 2 [Z (S w),Z<|S<|sI (a:Int),Z<|S Str.empty,Z<|S Str.empty,o] M=Z (S Str.empty,M):=λ_=>rfl;have t0:∀o,lQ (aB 2) [Z (S w),Z<|S<|sI (a:Int),Z<|S Str.empty,Z<|S Str.empty,o] M=Z (false,M):=λo=>(XD (R o) (by decide)).trans rfl
  have s1:sIf (yE (lQ<|aB 2)<|gB<|fOp (eqX false) (aB 3)<|fC (.str "1")) (bP<|fC .none) cV [Z (S w),Z<|S<|sI (a:Int),Z<|S Str.empty,Z<|S Str.empty,Y] M=Z (.nx [Z (S w),Z<|S<|sI (a:Int),Z<|S Str.empty,Z<|S Str.empty,Y],M):=by
   refine(qB ?_).trans rfl;unfold yE;rw[t0];rfl
  rw[aV s1];have n1:=aY (F:=cL) (aH (show aB 1 [Z (S w),Z<|S<|sI (a:Int),Z<|S Str.empty,Z<|S Str.empty,Y] M=Z (S<|sI (a:Int),M)from rfl)<|aH (bL (i:=30)) aP) na
  have T:fIf (lQ<|aB 2) (aL cL<|aA (aB 3)<|aA (fC (.int 30)) aF) (fC (.int 1)) [Z (S w),Z<|S<|sI (a:Int),Z<|S Str.empty,Z<|S Str.empty,Y] M=Z (I ((1:Nat):Int),M):=by
   unfold fIf;rw[t0];rfl
  have U:=bS (i:=4)<|jI (aH n1<|aH T aP) (ds:=[.int (a:Int),.int ((1:Nat):Int)]) rfl (show(2:Nat)<=500 by decide);rw[aV U,G,H];exact u _ _ _
 .have e:iK w "/"=[sI (a:Int),"/",sI (b:Int)]:=by rw[<- D];exact aCZ q
  rw[aV (step _ _ _ e)];have R:∀o,aB 2 [Z (S w),Z<|S<|sI (a:Int),Z<|S "/",Z<|S<|sI (b:Int),o] M=Z (S "/",M):=λ_=>rfl;have t0:∀o,lQ (aB 2) [Z (S w),Z<|S<|sI (a:Int),Z<|S "/",Z<|S<|sI (b:Int),o] M=Z (true,M):=λo=>(XD (R o) (by decide)).trans rfl;have ne:(sI (b:Int)==("1":Str))=false:=beq_eq_false_iff_ne.mpr λh=>q<|aJz h
  have s1:sIf (yE (lQ<|aB 2)<|gB<|fOp (eqX false) (aB 3)<|fC (.str "1")) (bP<|fC .none) cV [Z (S w),Z<|S<|sI (a:Int),Z<|S "/",Z<|S<|sI (b:Int),Y] M=Z (.nx [Z (S w),Z<|S<|sI (a:Int),Z<|S "/",Z<|S<|sI (b:Int),Y],M):=by
   refine(qB ?_).trans rfl;unfold yE;rw[t0]
   exact fT (bO (show aB 3 [Z (S w),Z<|S<|sI (a:Int),Z<|S "/",Z<|S<|sI (b:Int),Y] M=Z (S<|sI (b:Int),M)from rfl) (show fC (.str "1") [Z (S w),Z<|S<|sI (a:Int),Z<|S "/",Z<|S<|sI (b:Int),Y] M=Z (S "1",M)from rfl) (show eqX false (S<|sI (b:Int)) (S "1") M=Z (B false,M)by
    show Z (CD.d (.bool (sI (b:Int)==("1":Str))),M)=_;rw[ne]))
  rw[aV s1];have n1:=aY (F:=cL) (aH (show aB 1 [Z (S w),Z<|S<|sI (a:Int),Z<|S "/",Z<|S<|sI (b:Int),Y] M=Z (S<|sI (a:Int),M)from rfl)<|aH (bL (i:=30)) aP) na
  have T:fIf (lQ<|aB 2) (aL cL<|aA (aB 3)<|aA (fC (.int 30)) aF) (fC (.int 1)) [Z (S w),Z<|S<|sI (a:Int),Z<|S "/",Z<|S<|sI (b:Int),Y] M=Z (I (b:Int),M):=by
   unfold fIf;rw[t0,A2];dsimp only;rw[A4 rfl];exact aY (F:=cL) (aH (show aB 3 [Z (S w),Z<|S<|sI (a:Int),Z<|S "/",Z<|S<|sI (b:Int),Y] M=Z (S<|sI (b:Int),M)from rfl)<|aH (bL (i:=30)) aP) W
  have U:=bS (i:=4)<|jI (aH n1<|aH T aP) (ds:=[.int (a:Int),.int (b:Int)]) rfl (show(2:Nat)<=500 by decide);rw[aV U,G,H];exact u _ _ _
def RE{a b:Nat}(ha:a<10 ^ 30)(h:b<10 ^ 30)(k:1<=b)(g:Int.gcd (a:Int) (b:Int)=1):fK [S (iJ (a:Int) (b:Int))] M=Z (.d (.tuple [.int (a:Int),.int (b:Int)]),M):=by
 rw[ZS ha h k,g];rfl
def YM:eqX true (S x) (S x) M=Z (B false,M):=by
 show Z (CD.d (.bool (!(x==x))),M)=_;rw[Y8];rfl
def jB(w:Str)(t:Tie):Tb:=[w,sI t.i,sI t.j,iJ t.a t.b]
def aOc{w:Str}{x y z:Ua}(u:bZ [S A] M=Z (.d x,M))(E:bZ [S C] M=Z (.d y,M))(G:fK [S D] M=Z (.d z,M))(hi:inD false (.d .none) (.d (.tuple [x,y,z])) M=Z (B nn,M)):
 gC [.d (.list ([w,A,C,D].map .str)),S w] M=Z (.d (if nn=true then .none else .tuple [x,y,z]),M):=by
 obtain⟨W,h⟩:∃W,CD.d (.list ([w,A,C,D].map .str))=W:=⟨_,rfl⟩;have H:ixF W (I 0) M=Z (S w,M):=by rw[<- h];rfl
 have K:ixF W (I 1) M=Z (S A,M):=by rw[<- h];rfl
 have O:ixF W (I 2) M=Z (S C,M):=by rw[<- h];rfl
 have P:ixF W (I 3) M=Z (S D,M):=by rw[<- h];rfl
 have le:iA [W] M=Z (I 4,M):=by rw[<- h];rfl
 rw[h];have o:∀q,aB 0 [Z W,Z<|S w,q] M=Z (W,M):=λ_=>rfl;have Q:∀q,aB 1 [Z W,Z<|S w,q] M=Z (S w,M):=λ_=>rfl
 have s1:sIf (gOr (gB<|fOp (eqX true) (aL iA<|aA (aB 0) aF)<|fC (.int 4))<|gB<|fOp (eqX true) (fOp ixF (aB 0)<|fC (.int 0))<|aB 1) (bP<|fC .none) cV [Z W,Z<|S w,Y] M=Z (.nx [Z W,Z<|S w,Y],M):=by
  refine(qB ?_).trans rfl;have t1:=fT<|bO (k:=eqX true) (aY (F:=iA) (aH (o Y) aP) le) (bL (i:=4)) (show eqX true (I 4) (I 4) M=Z (B false,M)from rfl);have t2:=fT<|bO (k:=eqX true) (bO (k:=ixF) (o Y) (bL (i:=0)) H) (Q Y) YM;unfold gOr;rw[t1];exact t2
 have R:=aY (F:=bZ) (aH (bO (k:=ixF) (o Y) (bL (i:=1)) K) aP) u;have T:=aY (F:=bZ) (aH (bO (k:=ixF) (o Y) (bL (i:=2)) O) aP) E;have U:=aY (F:=fK) (aH (bO (k:=ixF) (o Y) (bL (i:=3)) P) aP) G;have V:=bS (i:=2)<|jI (aH R<|aH T<|aH U aP) (ds:=[x,y,z]) rfl (show(3:Nat)<=500 by decide);have t:aB 2 [Z W,Z<|S w,Z (.d (.tuple [x,y,z]))] M=Z (.d (.tuple [x,y,z]),M):=rfl;have nn':=fT<|bO (k:=inD false) (show fC .none [Z W,Z<|S w,Z (.d (.tuple [x,y,z]))] M=Z (.d .none,M)from rfl) t hi;unfold gC;refine fJ rfl ?_;show wM [Z W,Z<|S w,Y] M=_;unfold wM;rw[aV s1,aV V];show bP _ [Z W,Z<|S w,Z (.d (.tuple [x,y,z]))] M=_;unfold bP fIf;rw[nn',A2];cases nn
 .dsimp only;rw[A5 A8,t];rfl
 .rfl
def NZ(h:RdT t):gC [.d (.list ((jB w t).map .str)),S w] M=Z (.d (fL false t),M):=by
 obtain⟨i,j,a,b⟩:=t;obtain⟨⟨k,C⟩,⟨o,D⟩,⟨q,E⟩,⟨G,H⟩,g⟩:=h;dsimp only at k C o D q E G H g;obtain⟨i,rfl⟩:=F7 k;obtain⟨j,rfl⟩:=F7 o;obtain⟨a,rfl⟩:=F7 q;obtain⟨b,rfl⟩:=F7 (show 0<=b by omega);have u:=pW (m:=i) (M:=M) (by omega);have A:=pW (m:=j) (M:=M) (by omega);have B:=RE (a:=a) (b:=b) (M:=M) (by omega) (by omega) (by omega) g;unfold jB;dsimp only;obtain⟨O,hi⟩:∃z:Int,(i:Int)=z:=⟨_,rfl⟩;obtain⟨P,I⟩:∃z:Int,(j:Int)=z:=⟨_,rfl⟩;obtain⟨Q,ha⟩:∃z:Int,(a:Int)=z:=⟨_,rfl⟩;obtain⟨R,K⟩:∃z:Int,(b:Int)=z:=⟨_,rfl⟩;rw[hi]at u ⊢;rw[I]at A ⊢;rw[ha,K]at B ⊢;exact aOc (nn:=false) u A B rfl
def NV{h:Type}(x:h)(r:Tv h):nT (x::r) (Z 1) Y=r:=by
 unfold nT
 have k:HT.sIx (x::r).length 0 (Z 1)=1:=by
  unfold HT.sIx;simp
  try omega
 have o:HT.sIx (x::r).length (x::r).length Y=r.length+1:=rfl;rw[k,o,List.drop_one,List.tail_cons];exact List.take_of_length_le (by omega)
def RU(ns:T7):(ns.map PyData.int).all bo=true:=by
 rw[List.all_map];exact List.all_eq_true.mpr λ_ _=>rfl
def aGp(ns:T7):((ns.map PyData.int).any λd=>bp d .none)=false:=by
 rw[List.any_map]
 exact List.any_eq_false.mpr λk _=>by
  show ¬(bp (.int k) .none=true);exact A8
def aHf:inD false (.d .none) (.d (sqK false ns)) M=Z (B false,M):=by
 show(if (bo .none&&(ns.map PyData.int).all bo)=true then Z (CD.d (.bool ((ns.map PyData.int).any λd=>bp d .none)),M)else Y)=_;rw[RU,aGp];rfl
def lK(ns:T7):Tb:="side"::ns.map sI
def ZR{n:Int}{ns:T7}(h:∀k∈n::ns,0<=k/\k<100)(O:ns.length<=50):kF [.d (.list ((lK (n::ns)).map .str))] M=Z (.d (sqK false (n::ns)),M):=by
 obtain⟨W,o⟩:∃W,CD.d (.list ((lK (n::ns)).map .str))=W:=⟨_,rfl⟩
 have A:ixF W (I 0) M=Z (S "side",M):=by
  rw[<- o];show(atI (PyData.str "side"::((n::ns).map sI).map PyData.str) ((0:Nat):Int)).bind _=_;rw[jY (k:=0) (x:=PyData.str "side") rfl];rfl
 obtain⟨N,t⟩:∃N:Int,(((lK (n::ns)).map PyData.str).length:Int)=N:=⟨_,rfl⟩
 have C:¬N<2:=by
  rw[<- t];unfold lK;rw[A1,C0,A1,C0];omega
 have le:iA [W] M=Z (I N,M):=by rw[<- o,<- t];rfl
 have sl:slF W (Z 1) Y M=Z (.d (.list (((n::ns).map sI).map .str)),M):=by
  rw[<- o];show Z (CD.d (.list (nT (.str "side"::((n::ns).map sI).map PyData.str) (Z 1) Y)),M)=_;rw[NV]
 rw[o];have q:∀D,aB 0 [Z W,D] M=Z (W,M):=λ_=>rfl
 have E:lU [Z W,Y] M=Z (.d (.list ((n::ns).map .int)),M):=by
  have it:bD (fSl (aB 0) (dX<|fC (.int 1)) cW) [Z W,Y] M=Z ((n::ns).map λk=>S<|sI k,M):=by
   have e:fSl (aB 0) (dX<|fC (.int 1)) cW [Z W,Y] M=Z (.d (.list (((n::ns).map sI).map .str)),M):=by
    unfold fSl;rw[q,A2];exact sl
   unfold bD;rw[e,A2];show(Z<|((n::ns).map sI).map PyData.str).bind _=_;rw[A2,B7,B7];rfl
  unfold lU;refine iN it (by rw[A1,C0];omega) ?_ (by rw[A1,C0];omega);rw[show lJ [Y] [Z W,Y]=[Y]from rfl];refine lT (λk=>S<|sI k) (λk=>.int k) (n::ns) Y λk G=>?_;obtain⟨H,P⟩:=h k G;obtain⟨m,rfl⟩:=F7 H;exact aY (F:=bZ) (aH (show aB 0 [Z (S<|sI ((m:Nat):Int))] M=Z (S<|sI ((m:Nat):Int),M)from rfl) aP)<|pW (by omega)
 have s1:sIf (gOr (gB<|fOp ltI (aL iA<|aA (aB 0) aF)<|fC (.int 2))<|gB<|fOp (eqX true) (fOp ixF (aB 0)<|fC (.int 0))<|fC (.str "side")) (bP<|fC .none) cV [Z W,Y] M=Z (.nx [Z W,Y],M):=by
  refine(qB ?_).trans rfl
  have t1:=fT (bO (k:=ltI) (aY (F:=iA) (aH (q Y) aP) le) (bL (i:=2)) (show ltI (I N) (I 2) M=Z (B false,M)by
   show Z (CD.d (.bool (decide (N<2))),M)=_;rw[C9 C]))
  have t2:=fT<|bO (k:=eqX true) (bO (k:=ixF) (q Y) (bL (i:=0)) A) (show fC (.str "side") [Z W,Y] M=Z (S "side",M)from rfl) YM;unfold gOr;rw[t1];exact t2
 have K:aZ (aL cH<|aA lU aF) (br 1) [Z W,Y] M=Z (.nx [Z W,Z (.d (sqK false (n::ns)))],M):=bS<|aY (F:=cH) (aH E aP) (show cH [.d (.list ((n::ns).map .int))] M=Z (.d (sqK false (n::ns)),M)from rfl);have u:aB 1 [Z W,Z (.d (sqK false (n::ns)))] M=Z (.d (sqK false (n::ns)),M):=rfl;have nn:=fT<|bO (k:=inD false) (show fC .none [Z W,Z (.d (sqK false (n::ns)))] M=Z (.d .none,M)from rfl) u aHf;unfold kF;refine fJ rfl ?_;show tG [Z W,Y] M=_;unfold tG;rw[aV s1,aV K];unfold bP fIf;rw[nn,A2];dsimp only;rw[A5 A8,u];rfl
def RJ(h:x.length<=1000000):jV x ⟨#[c]⟩=true:=by
 have o:=StrLaws.occ_length_le_len x ⟨#[c]⟩ 0 x.length (x.length+1)
 have p:(Builtin.Str.partsBetween x (Builtin.Str.occurrences x ⟨#[c]⟩ 0 x.length (x.length+1)) (⟨#[c]⟩:Str).length).length<=ba:=by
  rw[length_partsBetween,szl];omega
 have q:(Txt.split x ⟨#[c]⟩).length<=ba:=by
  unfold Txt.split;split
  .show(1:Nat)<=_;rw[szl];decide
  .split
   .show(1:Nat)<=_;rw[szl];decide
   .exact p
 unfold jV;rw[C7 (show x.length<=ba by rw[szl];omega),C7 p,C7 q];rfl
def mD:(Txt.split x ⟨#[c]⟩).length<=x.length+2:=by
 have o:=StrLaws.occ_length_le_len x ⟨#[c]⟩ 0 x.length (x.length+1);unfold Txt.split;split
 .show(1:Nat)<=_;omega
 .split
  .show(1:Nat)<=_;omega
  .rw[length_partsBetween];omega
def FA(k:f γ M=Z (S x,M))(o:g γ M=Z (S ⟨#[c]⟩,M))(h:x.length<=1000000):aX "str" iM f (aA g aF) γ M=Z (.d (.list ((Txt.split x ⟨#[c]⟩).map .str)),M):=by
 refine oU k rfl (aH o aP) ?_;simp only[iM,RJ h,if_true]
theorem XZ{k:Type}{c:TF}{e:EF}{M:Sto}(f:k->CD)(p:k->Bool)(h:k->Ua):∀(xs:Tv k)(g:Te),(∀x∈xs,c [Z (f x)] M=Z (p x,M)/\e [Z (f x)] M=Z (.d (h x),M))->lcF (br 0) c e (xs.map f) [g] M=Z (((xs.filter p).map h).map .d,M)
 |[]=>λ_ _=>rfl
 |x::xs=>λg o=>by
  have ih:=XZ (M:=M) (c:=c) (e:=e) f p h xs (Z<|f x) λy t=>o y<|B1 _ t;obtain⟨u,A⟩:=o x B0;rw[B2];show(br 0 (f x) [g] M).bind _=_;rw[show br 0 (f x) [g] M=Z ([Z (f x)],M)from rfl,A2];dsimp only;rw[u,A2];cases q:p x with
  |true=>
   dsimp only;rw[A4 rfl,A,A2];dsimp only;rw[ih,A2,U4 q];rfl
  |false=>
   dsimp only;rw[A5 A8,ih,U5 (by rw[q];exact A8)]
noncomputable def wdS(x:Str):Tb:=(Txt.split x ⟨#[32]⟩).filter λp=>((p.length:Int) != 0)
def aEf(x:Str):(wdS x).map sg=wds (sg x):=by
 unfold wdS wds;rw[<- nX,List.filter_map];congr 1;refine List.filter_congr λp _=>?_;show((p.length:Int) != 0)=!(sg p).isEmpty;rw[str_len];cases sg p with
 |nil=>rfl
 |cons a r=>simp;omega
theorem RG{c:Nat}:∀(xs:Td),(∀p∈spl c xs,p.length<=xs.length)/\(spl c xs).length<=xs.length+1
 |[]=>⟨λp hp=>by rw[List.mem_singleton.mp hp];exact A7 _,A7 _⟩
 |a::r=>by
  obtain⟨h,k⟩:=RG (c:=c) r;unfold spl;by_cases q:a=c
  .rw[A4 q];refine⟨λp hp=>?_,by rw[C0,C0];omega⟩;obtain rfl|hp:=List.mem_cons.mp hp
   .exact E6 _
   .exact Nat.le_succ_of_le<|h p hp
  .rw[A5 q];obtain⟨p,ps,e⟩:=KQ c r;rw[e]at h k ⊢;refine⟨λo hp=>?_,by show(_::_).length<=(_::_).length+1;rw[C0,C0];rw[C0]at k;omega⟩;obtain rfl|hp:=List.mem_cons.mp hp
   .exact Nat.succ_le_succ<|h p B0
   .exact Nat.le_succ_of_le<|h o<|B1 _ hp
def FK{x:Str}{c:Nat}:∀p∈Txt.split x ⟨#[c]⟩,p.length<=x.length:=λp h=>by
 rw[str_len,str_len];refine(RG (c:=c)<|sg x).1 (sg p) ?_;rw[<- nX];exact List.mem_map.mpr ⟨p,h,rfl⟩
def szM{n:Nat}(h:n<=1000010):n<=ba:=by rw[szl];omega
def aGi(h:x.length<=1000000):kL [Z (S x)] M=Z (.d (.list ((wdS x).map .str)),M):=by
 have it:bD (aX "str" iM (aB 0)<|aA (fC (.str " ")) aF) [Z (S x)] M=Z ((Txt.split x ⟨#[32]⟩).map λp=>S p,M):=by
  unfold bD;rw[FA (c:=32) (x:=x) (show aB 0 [Z (S x)] M=Z (S x,M)from rfl) rfl h,A2];show(Z<|(Txt.split x ⟨#[32]⟩).map PyData.str).bind _=_;rw[A2,B7];rfl
 have sc:=mD (x:=x) (c:=32);have o:(wdS x).length<=(Txt.split x ⟨#[32]⟩).length:=Y1 ..;unfold kL;refine CG it (by rw[A1];exact szM (by omega)) ?_ (by rw[A1];exact szM (by omega));rw[show lJ [Y] [Z (S x)]=[Y]from rfl];refine(XZ (λp=>S p) (λp=>((p.length:Int) != 0)) (λp=>.str p) (Txt.split x ⟨#[32]⟩) Y λp k=>⟨?_,rfl⟩);have:p.length<=ba:=szM<|C6 (FK p k) (by omega);unfold lQ;rw[show aB 0 [Z (S p)] M=Z (S p,M)from rfl,A2];exact A4 this
def lnS(x:Str):Tv (Tb):=(Txt.split x ⟨#[10]⟩).map wdS
def aGA(k:γ[0]?=Z (Z<|S x))(h:x.length<=1000000):iC γ M=Z (.d (.list ((lnS x).map λws=>.list (ws.map .str))),M):=by
 have it:bD (aX "str" iM (aB 0)<|aA (fC (.str "\n")) aF) γ M=Z ((Txt.split x ⟨#[10]⟩).map λp=>S p,M):=by
  unfold bD;rw[FA (c:=10) (x:=x) (show aB 0 γ M=Z (S x,M)by simp only[aB,k]) rfl h,A2];show(Z<|(Txt.split x ⟨#[10]⟩).map PyData.str).bind _=_;rw[A2,B7];rfl
 have sc:=mD (x:=x) (c:=10);unfold iC;refine CG it (by rw[A1];exact szM (by omega)) ?_ (by unfold lnS;rw[A1,A1];exact szM (by omega));rw[show lJ [Y] γ=[Y]from rfl];refine(lT (λp=>S p) (λp=>.list ((wdS p).map .str)) (Txt.split x ⟨#[10]⟩) Y λp o=>aGi<|C6 (FK p o) h).trans ?_;unfold lnS;rw[B7,B7,B7];rfl
theorem DR{k:Type}{c:TF}{e:EF}{M:Sto}(f1 f2:k->Ua)(p:k->Bool)(h:k->Ua):∀(xs:Tv k)(o t:Te),(∀x∈xs,c [Z (.d (f1 x)),Z (.d (f2 x))] M=Z (p x,M)/\(p x=true->e [Z (.d (f1 x)),Z (.d (f2 x))] M=Z (.d (h x),M)))->lcF (iG 2<|bC (br 0)<|bC (br 1) gG) c e (xs.map λx=>.d (.tuple [f1 x,f2 x])) [o,t] M=Z (((xs.filter p).map h).map .d,M)
 |[]=>λ_ _ _=>rfl
 |x::xs=>λo t u=>by
  have ih:=DR (M:=M) (c:=c) (e:=e) f1 f2 p h xs (Z (.d (f1 x))) (Z (.d (f2 x))) λy A=>u y<|B1 _ A;obtain⟨B,C⟩:=u x B0;rw[B2];show(iG 2 (bC (br 0)<|bC (br 1) gG) (.d (.tuple [f1 x,f2 x])) [o,t] M).bind _=_;rw[show iG 2 (bC (br 0)<|bC (br 1) gG) (.d (.tuple [f1 x,f2 x])) [o,t] M=Z ([Z (.d (f1 x)),Z (.d (f2 x))],M)from rfl,A2];dsimp only;rw[B,A2];cases q:p x with
  |true=>
   dsimp only;rw[A4 rfl,C q,A2];dsimp only;rw[ih,A2,U4 q];rfl
  |false=>
   dsimp only;rw[A5 A8,ih,U5 (by rw[q];exact A8)]
def sdS(x:Str):Tv (Tb×Nat):=(lnS x).zipIdx.filter λp=>!p.1.isEmpty
noncomputable def wD(ws:Tb):Ua:=.list (ws.map .str)
def sdD(p:Tb×Nat):Ua:=.tuple [.int (p.2:Nat),wD p.1]
theorem zip_map{h o:Type}(f:h->o):∀(l:Tv h)(k:Nat),(l.map f).zipIdx k=(l.zipIdx k).map λp=>(f p.1,p.2)
 |[]=>λ_=>rfl
 |a::l=>λk=>by
  rw[B2,List.zipIdx_cons,List.zipIdx_cons,zip_map f l,B2]
def aBk:(lnS x).length<=x.length+2:=by
 unfold lnS;rw[A1];exact mD
def aKj:(sdS x).length<=x.length+2:=by
 have:=aBk (x:=x);have h:(sdS x).length<=(lnS x).zipIdx.length:=Y1 ..;rw[List.length_zipIdx]at h;omega
def wX(h:x.length<=1000000):cQ [S x] M=Z (.d (.list ((sdS x).map sdD)),M):=by
 have o:aZ iC (br 1) [Z (S x),Y] M=Z (.nx [Z (S x),Z (.d (.list ((lnS x).map wD)))],M):=bS<|aGA (γ:=[Z (S x),Y]) rfl h;have t:=aBk (x:=x);have sl:=aKj (x:=x)
 have it:zL (aA (aB 1) aF) [Z (S x),Z (.d (.list ((lnS x).map wD)))] M=Z ((lnS x).zipIdx.map λp=>.d (.tuple [.int (p.2:Nat),wD p.1]),M):=by
  unfold zL;rw[aH (show aB 1 [Z (S x),Z (.d (.list ((lnS x).map wD)))] M=Z (.d (.list ((lnS x).map wD)),M)from rfl) aP,A2];show(Z<|(lnS x).map wD).bind _=_;rw[A2];unfold CF;rw[zip_map,B7];rfl
 have q:kQ [Z (S x),Z (.d (.list ((lnS x).map wD)))] M=Z (.d (.list ((sdS x).map sdD)),M):=by
  unfold kQ;refine CG it (by rw[A1,List.length_zipIdx];exact szM (by omega)) ?_ (by rw[A1];exact szM (by omega));rw[show lJ [Y,Y] [Z (S x),Z (.d (.list ((lnS x).map wD)))]=[Y,Y]from rfl];refine DR (λp=>.int (p.2:Nat)) (λp=>wD p.1) (λp=>!p.1.isEmpty) sdD (lnS x).zipIdx Y Y λp u=>⟨?_,λ_=>?_⟩
  .obtain⟨J,k⟩:∃J:Int,((p.2:Nat):Int)=J:=⟨_,rfl⟩;rw[k];show Z (!(p.1.map PyData.str).isEmpty,M)=_;rw[show(p.1.map PyData.str).isEmpty=p.1.isEmpty by cases p.1<;>rfl]
  .unfold sdD;obtain⟨J,k⟩:∃J:Int,((p.2:Nat):Int)=J:=⟨_,rfl⟩;rw[k];exact jI (aH (show aB 0 [Z (I J),Z (.d (wD p.1))] M=Z (I J,M)from rfl)<|aH (show aB 1 [Z (I J),Z (.d (wD p.1))] M=Z (.d (wD p.1),M)from rfl) aP) (ds:=[.int J,wD p.1]) rfl (show(2:Nat)<=500 by decide)
 unfold cQ;refine fJ rfl ?_;show jU [Z (S x),Y] M=_;unfold jU;rw[aV o];simp only[bP,q,Option.bind_some]
theorem DQ{o:Type}(q:o->Bool):∀(l:Tv o)(k:Nat),((l.zipIdx k).filter λp=>q p.1).map (·.1)=l.filter q
 |[]=>λ_=>rfl
 |a::l=>λk=>by
  rw[List.zipIdx_cons];cases h:q a with
  |true=>rw[U4 (by exact h),U4 h,B2,DQ q l]
  |false=>rw[U5 (by rw[h];exact A8),U5 (by rw[h];exact A8),DQ q l]
def aJB(x:Str):((sdS x).map (·.1)).map (·.map sg)=said (sg x):=by
 unfold sdS said;rw[DQ (λh:Tb=>!h.isEmpty),<- nX,B7];unfold lnS;rw[List.filter_map,List.filter_map,B7]
 have e:(λh:Tb=>!h.isEmpty) ∘ wdS=(λp=>!p.isEmpty) ∘ (wds ∘ sg):=by
  funext p;show(!(wdS p).isEmpty)=!(wds<|sg p).isEmpty;rw[<- aEf];cases wdS p<;>rfl
 rw[e];refine O8 λp _=>?_;exact aEf p
theorem pH:∀{xs ys:Tb},xs.map sg=ys.map sg->xs=ys
 |[],[]=>λ_=>rfl
 |[],_::_=>λh=>by simp at h
 |_::_,[]=>λh=>by simp at h
 |x::xs,y::ys=>λh=>by
  rw[B2,B2]at h;injection h with k o
  rw[BQ k,pH o]
def ZT{W:Tv (Tb)}(h:said (sg x)=W.map (·.map sg)):(sdS x).map (·.1)=W:=by
 rw[<- aJB]at h;revert h;generalize (sdS x).map (·.1)=V;intro h
 induction V generalizing W with
 |nil=>cases W with
  |nil=>rfl
  |cons _ _=>simp at h
 |cons v V ih=>cases W with
  |nil=>simp at h
  |cons w W=>
   rw[B2,B2]at h;injection h with k o
   rw[pH k,ih o]
open PySem.W (kas_asc kas_desc kas_count kas_descPart kas_tail3 kas_rev)
section
variable{lt:To}{n:Nat}{p:Tj}
theorem XW:∀f m,(∀i,m<=i->i<m+f->lt (p.getD i 0) (p.getD (i-1) 0)=false)->nR lt (kas_asc p f m)=m+f
 |0=>λm _=>rfl
 |f+1=>λm h=>by
  show nR lt (if lt (p.getD m 0) (p.getD (m-1) 0)=true then .ret m else kas_asc p f (m+1))=_;rw[h m (A7 _) (by omega),A5 A8,XW f (m+1) λi a b=>h i (by omega) (by omega)];omega
theorem NR:∀f m,(∀i,m<=i->i<m+f->lt (p.getD i 0) (p.getD (i-1) 0)=true)->nR lt (kas_desc f p m 0)=(p,m+f,0)
 |0=>λm _=>rfl
 |f+1=>λm h=>by
  show nR lt (if lt (p.getD m 0) (p.getD (m-1) 0)=true then(if 0 > 0 then kas_desc f (kas_rev p (m-(0+1)) m) (m+1) 0 else kas_desc f p (m+1) 0)else _)=_;rw[h m (A7 _) (by omega),A4 rfl,A5 (by decide),NR f (m+1) λi a b=>h i (by omega) (by omega)];rw[show m+1+f=m+(f+1)by omega]
def oS{i:Nat}(h:i<n):(List.range n).toArray.getD i 0=i:=by simp[Array.getD,h]
def aHT(k:1<=n)(h:∀i,1<=i->i<n->lt i (i-1)=false):nR lt (kas_count n (List.range n).toArray)=(n,(List.range n).toArray):=by
 unfold kas_count;rw[kD,XW (n-1) 1 λi a b=>by rw[oS (by omega),oS (by omega)];exact h i a (by omega),show 1+(n-1)=n by omega,A4<|Y8 n];rfl
def aBm(o:2<=n)(h:∀i,1<=i->i<n->lt i (i-1)=true):nR lt (kas_count n (List.range n).toArray)=(n,kas_rev (List.range n).toArray 0 n):=by
 obtain⟨r,rfl⟩:∃r,n=r+2:=⟨n-2,by omega⟩
 have k:nR lt (kas_asc (List.range (r+2)).toArray (r+2-1) 1)=1:=by
  show nR lt (if lt ((List.range (r+2)).toArray.getD 1 0) ((List.range (r+2)).toArray.getD (1-1) 0)=true then .ret 1 else _)=_;rw[oS (by omega),oS (by omega),h 1 (by omega) (by omega),A4 rfl];rfl
 unfold kas_count;rw[kD,k,A5 (by simp),A5 (by decide)];unfold kas_descPart;rw[kD,NR _ _ λi a b=>by rw[oS (by omega),oS (by omega)];exact h i (by omega) (by omega)];rw[show 1+1+(r+2-(1+1))=r+2 by omega];show nR lt (if (0:Nat) > 0 then _ else kas_tail3 (r+2) (r+2) (List.range (r+2)).toArray)=_;rw[A5 (by decide)];unfold kas_tail3;rw[kD,O2];rfl
def aAC:(kas_rev (List.range n).toArray 0 n).toList=(List.range n).reverse:=by
 have o:Inv2 n (kas_rev (List.range n).toArray 0 n):=fQ (Array.Perm.refl _) 0 n;have sz:(kas_rev (List.range n).toArray 0 n).toList.length=n:=by rw[L5];exact o.sz
 refine List.ext_getElem (by rw[sz];simp) λk h t=>?_;rw[sz]at h;have g:=oR (p:=(List.range n).toArray) (i:=0) (j:=n) (by simp) k;rw[A4 ⟨E6 _,h⟩,oS (by omega)]at g
 have e:(kas_rev (List.range n).toArray 0 n).getD k 0=(kas_rev (List.range n).toArray 0 n).toList[k]:=by
  have q:k<(kas_rev (List.range n).toArray 0 n).size:=by rw[o.sz];exact h
  unfold Array.getD;rw[dif_pos q];rfl
 rw[<- e,g,List.getElem_reverse];simp
end
def Fts(us:Tv Tie):Prop:=us.length<64\/(us.length<=256/\(us.Pairwise Tie.lt\/us.Pairwise λs t=>Tie.lt t s))
def Fts.le(h:Fts us):us.length<=256:=by
 obtain h|⟨h,_⟩:=h<;>omega
def aIG{f:Tie->T4}(R:CM f)(nd:(us.map Tie.key).Nodup)(o:2<=us.length)(k:rN (us.map f)=true):hV (us.map f)=true:=by
 unfold hV;rw[A1,C7 o,k,R.hd us,Bool.true_and,Bool.true_and,Bool.and_true,B8];refine⟨List.all_eq_true.mpr λr k=>?_,List.all_eq_true.mpr λi hi=>List.all_eq_true.mpr λj h=>?_⟩
 .obtain⟨t,_,rfl⟩:=List.mem_map.mp k;rw[R.sh,R.on];rfl
 .have hi:=List.mem_range.mp hi;have h:=List.mem_range.mp h;rw[qV hi,qV h];by_cases q:i=j
  .subst q;exact R.eq _
  .rw[R.lt _ _ (YK nd hi h q)];rfl
def UE{f:Tie->T4}(R:CM f)(nd:(us.map Tie.key).Nodup)(E:Fts us):∃vs:Tv Tie,vs.Perm us/\vs.Pairwise Tie.lt/\iS (us.map f)=Z (vs.map λt=>.tuple (f t)):=by
 by_cases k:us.length<64
 .obtain⟨vs,a,b,c,d,e⟩:=IK R nd k;refine⟨vs,a,b,?_⟩;by_cases u:2<=us.length
  .have A:=aIG R nd u (by unfold rN;rw[A1,C7 k];rfl);unfold iS;rw[A4 A,d u]
  .have A:hV (us.map f)=false:=by
    unfold hV;rw[A1,C9 u];rfl
   unfold iS;rw[A,A5 A8,A1,A4 (by omega),e (by omega),B7];rfl
 .have big:us.length<=256/\(us.Pairwise Tie.lt\/us.Pairwise λs t=>Tie.lt t s):=E.resolve_left k;obtain⟨B,mono⟩:=big;have C:∀i,1<=i->∀h:i<us.length,dH (us.map f) i (i-1)=decide (Tie.lt us[i] us[i-1]):=λi D h=>WT R h (by omega) (YK nd h (by omega) (by omega))
  have done:∀ix:Td,vX (dH<|us.map f) us.length=us.length->cX (dH<|us.map f) us.length=ix->iS (us.map f)=Z (ix.map λi=>.tuple ((us.map f).getD i [])):=λix o G=>by
   have A:=aIG R nd (by omega) (by unfold rN;rw[A1,C7 B,o];simp);unfold iS JC;rw[A4 A,A1,G]
  have all:((List.range us.length).map λi=>PyData.tuple<|(us.map f).getD i [])=us.map λt=>.tuple (f t):=by
   refine List.ext_getElem (by simp) λi D u=>?_;have h:i<us.length:=by simpa using u
   rw[List.getElem_map,List.getElem_map,List.getElem_range,qV h]
  obtain m|m:=mono
  .have c:=aHT (lt:=dH<|us.map f) (n:=us.length) (by omega) λi D h=>by
    rw[C i D h];have:=List.pairwise_iff_getElem.mp m (i-1) i (by omega) h (by omega);exact C9 λq=>Tie.lt_ir<|Tie.lt_tr this q
   have o:vX (dH<|us.map f) us.length=us.length:=by unfold vX;rw[c]
   refine⟨us,.refl _,m,?_⟩;rw[done (List.range us.length) o (by rw[vM o,c]),all]
  .have c:=aBm (lt:=dH<|us.map f) (n:=us.length) (by omega) λi D h=>by
    rw[C i D h];exact C7<|List.pairwise_iff_getElem.mp m (i-1) i (by omega) h (by omega)
   have o:vX (dH<|us.map f) us.length=us.length:=by unfold vX;rw[c]
   refine⟨us.reverse,List.reverse_perm _,List.pairwise_reverse.mpr m,?_⟩;rw[done (List.range us.length).reverse o (by rw[vM o,c];exact aAC),Y9,all,Y9]
def OkB(n:Int)(us:Tv Tie):Prop:=(∀t∈us,fR t.a t.b=true/\0<=t.i/\t.i<t.j/\t.j<n)/\(us.map Tie.key).Nodup/\Fts us
abbrev LG(n:Int)(x:CD)(c k:Nat)(r:Ua):Ga:=[Z (I n),Z x,Z (.c c),Z<|I (k:Nat),Z (.d r)]
noncomputable def CK(k:Nat)(l:T4):T6:=(l.zipIdx k).map λp=>.d (.tuple [.int (p.2:Nat),p.1])
abbrev G2:GF:=iG 2<|bC (br 3)<|bC (br 4) gG
def aML{x:CD}{k:Nat}{g4:Te}:G2 (.d (.tuple [.int (k:Nat),r])) [Z (I n),Z x,Z (.c c),g3,g4] M=Z (LG n x c k r,M):=rfl
def aOn{w:Ua}(h:bW w=Z [.int a,.int b])(M:Sto):cH [.d w] M=Z (.d (.tuple [.int a,.int b]),M):=by
 cases w<;>first|(cases h;rfl)|cases h
def aKW{t:Tie}(h:fR t.a t.b=true/\0<=t.i/\t.i<t.j/\t.j<n):jN n (.tuple (f2 t))=Z t:=
 WH rfl rfl ⟨h.2.1,h.2.2.1,h.2.2.2,h.1⟩
def ZM{x:CD}{M:Sto}{ts:Tv Tie}(H:ts.length<1000)(ht:jN n (.tuple (f2 t))=Z t)(q:∀s∈ts,s.key≠t.key):
 gF (LG n x M.length k (.tuple (f2 t))) (M++[.dt (bI ts)])=Z (.o (.nx (LG n x M.length k (.tuple (f2 t)))),M++[.dt (bI (ts++[t]))]):=by
 have u:=aEx n (.tuple (f2 t)) (M++[.dt (bI ts)]);rw[ht,Option.isSome_some]at u;have B:ixF (.d (.tuple (f2 t))) (I 0) (M++[.dt (bI ts)])=Z (I t.i,M++[.dt (bI ts)]):=rfl;have C:ixF (.d (.tuple (f2 t))) (I 1) (M++[.dt (bI ts)])=Z (I t.j,M++[.dt (bI ts)]):=rfl;have D:ixF (.d (.tuple (f2 t))) (I 2) (M++[.dt (bI ts)])=Z (.d (.tuple [.int t.a,.int t.b]),M++[.dt (bI ts)]):=rfl;have E:=aOn (w:=.tuple [.int t.a,.int t.b]) rfl (M++[.dt (bI ts)]);have A:(M++[Cell.dt (bI ts)])[M.length]?=Z (.dt (bI ts)):=FR;have h:keysOf [I t.i,I t.j]=Z t.key:=rfl;have G:(Tie.key t).length<=ba:=sz (show 2<=1000 by decide);have at_:atD (M++[.dt (bI ts)]) (.c M.length) (.inr t.key)=Z Y:=by simp only[atD,A,aHz q]
 have len:(bI ts).length<ba:=by unfold bI;rw[A1,E4];omega
 have st:FU (M++[.dt (bI ts)]) (.c M.length) (.inr t.key) (.d (.tuple [.int t.a,.int t.b]))=Z (M++[.dt (bI (ts++[t]))]):=by
  have pn:putD (bI ts) t.key (.d (.tuple [.int t.a,.int t.b]))=bI (ts++[t]):=XI q;simp only[FU,A,if_pos len,pn];rw[MD]
 simp![gF,u,aGh,BA,B,C,D,h,if_pos G,at_,vK,E,st,Option.isSome_none]
theorem II{n:Int}{x:CD}{M:Sto}:∀(ws ts:Tv Tie)(k:Nat)(g3 g4:Te),((ts++ws).map Tie.key).Nodup->(∀t∈ws,jN n (.tuple (f2 t))=Z t)->ts.length+ws.length<1000->
 ∃q u,JY G2 gF (CK k<|bG ws) [Z (I n),Z x,Z (.c M.length),g3,g4] (M++[.dt (bI ts)])=Z (.o (.nx [Z (I n),Z x,Z (.c M.length),q,u]),M++[.dt (bI (ts++ws))])
 |[]=>λts k g3 g4 _ _ _=>⟨g3,g4,by rw[D8];rfl⟩
 |t::ws=>λts k g3 g4 nd ok A=>by
  have B:∀s∈ts,s.key≠t.key:=λs hs e=>by
   rw[D0,List.nodup_append]at nd;exact nd.2.2 _ (List.mem_map_of_mem hs) _ (List.mem_map_of_mem<|B0 ..) e
  rw[C0]at A;have tn:=ZM (n:=n) (x:=x) (M:=M) (k:=k) (ts:=ts) (t:=t) (by omega) (ok t<|B0 ..) B;have e:ts++t::ws=ts++[t]++ws:=by simp
  rw[e]at nd ⊢;obtain⟨a,b,h⟩:=II (n:=n) (x:=x) (M:=M) ws (ts++[t]) (k+1) (Z<|I (k:Nat)) (Z (.d (.tuple (f2 t)))) nd (λs hs=>ok s<|B1 _ hs) (by rw[B9,F0];omega);refine⟨a,b,?_⟩;rw[<- h];show JY G2 gF (.d (.tuple [.int (k:Nat),.tuple (f2 t)])::CK (k+1) (bG ws)) _ _=_
  conv=>lhs;unfold JY
  rw[aML,A2];dsimp only;rw[tn,A2]
def aHy{d:Ua}{l:T4}{c:CD}(hd:bW d=Z l):zL (aA (aB 1) aF) [Z (I n),Z (.d d),Z c,Y,Y] M=Z (CK 0 l,M):=by
 simp![zL,hd];rfl
def aGH{M:Sto}(ok:OkB n us):
 ∃vs:Tv Tie,vs.Perm us/\vs.Pairwise Tie.lt/\jC [I n,.d (.list (bG us))] M=Z (.v (.d (.tuple (dZ vs))),M++[.dt (bI us)]):=by
 obtain⟨A,nd,q⟩:=ok;have h:=q.le;obtain⟨g3,k,u⟩:=II (n:=n) (x:=.d (.list (bG us))) (M:=M) us [] 0 Y Y (by rw[Z2];exact nd) (λt ht=>aKW<|A t ht) (by rw[A0a];omega);rw[Z2]at u;obtain⟨vs,pm,pw,B⟩:=UE rf1 nd q;refine⟨vs,pm,pw,?_⟩;have o:aDi (.list (bG us))=true:=rfl;have C:(M++[Cell.dt []])=M++[.dt (bI [])]:=rfl;have D:(M++[Cell.dt (bI us)])[M.length]?=Z (.dt (bI us)):=FR;have H:vs.length<=256:=by rw[pm.length_eq];exact h
 have it:bD (zH<|aB 2) [Z (I n),Z (.d (.list (bG us))),Z (.c M.length),g3,k] (M++[.dt (bI us)])=Z (vs.map λt=>.d (.tuple (f1 t)),M++[.dt (bI us)]):=by
  have s1:zH (aB 2) [Z (I n),Z (.d (.list (bG us))),Z (.c M.length),g3,k] (M++[.dt (bI us)])=Z (.d (.list (vs.map λt=>.tuple (f1 t))),M++[.dt (bI us)]):=by
   simp![zH,D,RL,aFR,B]
  unfold bD;rw[s1,A2];show(Z (vs.map λt=>PyData.tuple<|f1 t)).bind _=_;rw[A2,B7];rfl
 have E:mX [Z (I n),Z (.d (.list (bG us))),Z (.c M.length),g3,k] (M++[.dt (bI us)])=Z (.d (.list (dZ vs)),M++[.dt (bI us)]):=by
  unfold mX;exact CG it (sz (by rw[A1];omega)) (HL vs Y Y Y)<|aCw (by omega)
 have G:cH [.d (.list (dZ vs))] (M++[.dt (bI us)])=Z (.d (.tuple (dZ vs)),M++[.dt (bI us)]):=rfl;have hi:bW (.list (bG us))=Z (bG us):=rfl;simp![jC,qO,aDF,o,yZ,C,WZ,aHy hi,u,E,G]
def YN{M:Sto}(ok:OkB n us)(n1:1<=n)(n40:n<=40):
 ∃vs:Tv Tie,vs.Perm us/\vs.Pairwise Tie.lt/\fP [.c M.length,I n,.d (.list (bG us))] (M++[.obj "Web" []])=Z (.v (.d .none),M++tL M.length n us vs):=by
 obtain⟨vs,pm,pw,h⟩:=aGH (M:=M++[.obj "Web" [("many",I n)]]) ok;obtain⟨o,nd,u⟩:=ok;have k:=u.le;refine⟨vs,pm,pw,?_⟩;have A:gS [I n] (M++[.obj "Web" []])=Z (B true,M++[.obj "Web" []]):=lE _ _;have C:decide (n<1)=false:=C9 (by omega);have D:decide (n > 40)=false:=C9 (by omega);have o:objOf "Web" (M++[.obj "Web" []]) (.c M.length)=Z (M.length,[]):=SM;have s1:(M++[Cell.obj "Web" []]).set M.length (.obj "Web" (GJ "many" (I n) []))=M++[.obj "Web" [("many",I n)]]:=MD
 have h:jC [I n,.d (.list (bG us))] (M++[.obj "Web" [("many",I n)]])=Z (.v (.d (.tuple (dZ vs))),M++[.obj "Web" [("many",I n)],.dt (bI us)]):=by
  rw[h,E2];rfl
 have E:objOf "Web" (M++[.obj "Web" [("many",I n)],.dt (bI us)]) (.c M.length)=Z (M.length,([("many",I n)]:Tu)):=SM;have G:GJ "ties" (.d (.tuple (dZ vs))) ([("many",I n)]:Tu)=([("many",I n),("ties",.d (.tuple (dZ vs)))]:Tu):=rfl;have s2:(M++[Cell.obj "Web" [("many",I n)],.dt (bI us)]).set M.length (.obj "Web" [("many",I n),("ties",.d (.tuple (dZ vs)))])=M++[.obj "Web" [("many",I n),("ties",.d (.tuple (dZ vs)))],.dt (bI us)]:=MD;have q:∀L,objOf "Web" (M++(.obj "Web" [("many",I n),("ties",.d (.tuple (dZ vs)))]::L)) (.c M.length)=Z (M.length,([("many",I n),("ties",.d (.tuple (dZ vs)))]:Tu)):=λL=>SM;have H:List.lookup ("ties":Str) [("many",I n),("ties",.d (.tuple (dZ vs)))]=Z (.d (.tuple (dZ vs))):=rfl
 have it:bD (kW "Web" "ties"<|aB 0) [Z (.c M.length),Z<|I n,Z (.d (.list (bG us)))] (M++[.obj "Web" [("many",I n),("ties",.d (.tuple (dZ vs)))],.dt (bI us)])=Z ((bG<|vs.filter big).map .d,M++[.obj "Web" [("many",I n),("ties",.d (.tuple (dZ vs)))],.dt (bI us)]):=by
  have:kW "Web" "ties" (aB 0) [Z (.c M.length),Z<|I n,Z (.d (.list (bG us)))] (M++[.obj "Web" [("many",I n),("ties",.d (.tuple (dZ vs)))],.dt (bI us)])=Z (.d (.tuple (dZ vs)),M++[.obj "Web" [("many",I n),("ties",.d (.tuple (dZ vs)))],.dt (bI us)]):=by
   simp![kW,q,H]
  unfold bD;rw[this];rfl
 have T:(vs.filter big).length<=vs.length:=Y1 ..;have U:vs.length<=256:=by rw[pm.length_eq];exact k
 have K:(vs.map Tie.key).Nodup:=(pm.map Tie.key).nodup_iff.mpr nd;have ln:(M++[Cell.obj "Web" [("many",I n),("ties",.d (.tuple (dZ vs)))],.dt (bI us)]).length=M.length+2:=by rw[B9];rfl
 have t:=NT (N:=M++[.obj "Web" [("many",I n),("ties",.d (.tuple (dZ vs)))],.dt (bI us)]) (vs.filter big) [] Y Y Y (by rw[Z2];exact UZ K) (by simp only[List.length_nil];omega);rw[Z2]at t
 have O:nL [Z (.c M.length),Z<|I n,Z (.d (.list (bG us)))] (M++[.obj "Web" [("many",I n),("ties",.d (.tuple (dZ vs)))],.dt (bI us)])=Z (.c (M.length+2),M++[.obj "Web" [("many",I n),("ties",.d (.tuple (dZ vs)))],.dt (bI us),.dt (bI<|vs.filter big)]):=by
  unfold nL fDc;rw[it,A2];dsimp only;rw[show lJ [Y,Y,Y] [Z (CD.c M.length),Z<|I n,Z (.d (.list (bG us)))]=[Y,Y,Y]from rfl,show(M++[Cell.obj "Web" [("many",I n),("ties",CD.d (.tuple (dZ vs)))],.dt (bI us)]++[Cell.dt []])=M++[Cell.obj "Web" [("many",I n),("ties",CD.d (.tuple (dZ vs)))],.dt (bI us)]++[Cell.dt (bI [])]from rfl,t,A2,ln,E2];rfl
 have P:GJ "weights" (.c (M.length+2)) ([("many",I n),("ties",.d (.tuple (dZ vs)))]:Tu)=([("many",I n),("ties",.d (.tuple (dZ vs))),("weights",.c (M.length+2))]:Tu):=rfl;have s3:(M++[Cell.obj "Web" [("many",I n),("ties",.d (.tuple (dZ vs)))],.dt (bI us),.dt (bI<|vs.filter big)]).set M.length (.obj "Web" [("many",I n),("ties",.d (.tuple (dZ vs))),("weights",.c (M.length+2))])=M++tL M.length n us vs:=MD;have Q:([]:Tu).length<1000:=by decide
 have R:([("many",I n)]:Tu).length<1000:=by show 1<1000;decide
 have S:([("many",I n),("ties",.d (.tuple (dZ vs)))]:Tu).length<1000:=by show 2<1000;decide
 simp![fP,sT,A,C,D,OJ,XT,o,s1,h,E,G,s2,O,q,P,s3,if_true,if_pos Q,if_pos R,if_pos S,show(0:Nat)<1000 from by decide,show(0+1:Nat)<1000 from by decide,show(1:Nat)<1000 from by decide,show(2:Nat)<1000 from by decide,show(0+1+1:Nat)<1000 from by decide]
theorem vW{k o γ:Type}{f:γ->k}:∀{ps:Tv (k×o)}{ts:Tv γ},ps.map (·.1)=ts.map f->∃qs:Tv (γ×o),qs.map (·.1)=ts/\ps=qs.map λq=>(f q.1,q.2)
 |[],[]=>λ_=>⟨[],rfl,rfl⟩
 |[],_::_=>λh=>by simp at h
 |_::_,[]=>λh=>by simp at h
 |p::ps,t::ts=>λh=>by
  rw[B2,B2]at h;injection h with u A
  obtain⟨qs,B,C⟩:=vW A;refine⟨(t,p.2)::qs,by rw[B2,B],?_⟩;rw[B2,<- C,<- u]
def DI{h:Type}(xs:Tv h):(xs.filter λ_=>true)=xs:=List.filter_eq_self.mpr λ_ _=>rfl
abbrev HP:GF:=iG 2<|bC (br 0)<|bC (br 1) gG
noncomputable def xX{h:Type}(r:h->Ua)(q:h×Nat):Ua:=.tuple [.int (q.2:Nat),r q.1]
def CT{h:Type}{f:AF}{f1:h->Tb}{r:h->Ua}{qs:Tv (h×Nat)}(o:f γ M=Z (qs.map λq=>.d (.tuple [.int (q.2:Nat),wD<|f1 q.1]),M))(k:qs.length<=1000)(t:∀q∈qs,∀J:Int,e [Z (I J),Z (.d (wD<|f1 q.1))] M=Z (.d (.tuple [.int J,r q.1]),M)):
 fLc [Y,Y] f HP eP e γ M=Z (.d (.list (qs.map<|xX r)),M):=by
 refine iN o (by rw[A1];exact k) ?_ (by rw[A1];exact k);rw[show lJ [Y,Y] γ=[Y,Y]from rfl];refine(DR (c:=eP) (M:=M) (λq=>.int (q.2:Nat)) (λq=>wD<|f1 q.1) (λ_=>true) (xX r) qs Y Y λq u=>⟨rfl,λ_=>t q u _⟩).trans ?_;rw[DI]
theorem xG{B:Type}{r:B->Ua}{L:CD}{M:Sto}:∀(qs:Tv (B×Nat))(o g2:Te),(∀q∈qs,jL (.d (r q.1))=false)->∃u A,wR (iG 2<|bC (br 1)<|bC (br 2) gG) iZ (qs.map λq=>.d (xX r q)) [Z L,o,g2] M=Z (.nx [Z L,u,A],M)
 |[]=>λo g2 _=>⟨o,g2,rfl⟩
 |q::qs=>λo g2 h=>by
  obtain⟨a,b,ih⟩:=xG (r:=r) (L:=L) (M:=M) qs (Z<|I (q.2:Nat)) (Z (.d (r q.1))) λp C=>h p<|B1 _ C;refine⟨a,b,?_⟩
  have t:iZ [Z L,Z<|I (q.2:Nat),Z (.d (r q.1))] M=Z (.nx [Z L,Z<|I (q.2:Nat),Z (.d (r q.1))],M):=by
   unfold iZ;obtain⟨J,D⟩:∃J:Int,((q.2:Nat):Int)=J:=⟨_,rfl⟩;rw[D];refine(qB<|fT<|bO (k:=AS false) (show aB 2 [Z L,Z<|I J,Z (.d (r q.1))] M=Z (.d (r q.1),M)from rfl) (show fC .none [Z L,Z<|I J,Z (.d (r q.1))] M=Z (.d .none,M)from rfl) ?_).trans rfl;show Z (CD.d (.bool (jL (.d (r q.1)))),M)=_;rw[h q B0]
  rw[B2,kN (show iG 2 (bC (br 1)<|bC (br 2) gG) (.d (xX r q)) [Z L,o,g2] M=Z ([Z L,Z<|I (q.2:Nat),Z (.d (r q.1))],M)from rfl) t];exact ih
def qT{t:Type}{r:t->Ua}{qs:Tv (t×Nat)}(h:∀q∈qs,jL (.d (r q.1))=false)(u:qs.length<=1000):dY [.d (.list (qs.map<|xX r))] M=Z (.d (.tuple ((qs.map (·.1)).map r)),M):=by
 obtain⟨L,A⟩:∃L,CD.d (.list (qs.map<|xX r))=L:=⟨_,rfl⟩;obtain⟨k,o,B⟩:=xG (r:=r) (L:=L) (M:=M) qs Y Y h
 have it:∀a b,bD (aB 0) [Z L,a,b] M=Z (qs.map λq=>.d (xX r q),M):=λa b=>by
  rw[<- A];unfold bD;rw[show aB 0 [Z (CD.d (.list (qs.map<|xX r))),a,b] M=Z (CD.d (.list (qs.map<|xX r)),M)from rfl,A2];show(Z<|qs.map<|xX r).bind _=_;rw[A2,B7];rfl
 have C:mV [Z L,k,o] M=Z (.d (.list ((qs.map (·.1)).map r)),M):=by
  unfold mV;refine iN (it k o) (by rw[A1];exact u) ?_ (by rw[A1,A1];exact u);rw[show lJ [Y,Y] [Z L,k,o]=[Y,Y]from rfl];refine(DR (c:=eP) (M:=M) (λq=>.int (q.2:Nat)) (λq=>r q.1) (λ_=>true) (λq=>r q.1) qs Y Y λq E=>⟨rfl,λ_=>?_⟩).trans ?_
  .obtain⟨J,D⟩:∃J:Int,((q.2:Nat):Int)=J:=⟨_,rfl⟩;rw[D];rfl
  .rw[DI,B7,B7,B7];rfl
 rw[A];unfold dY;refine fJ rfl ?_;show lX [Z L,Y,Y] M=_;unfold lX;rw[aV (sH (it Y Y) B)];simp only[bP,aY (F:=cH) (aH C aP) (show cH [.d (.list ((qs.map (·.1)).map r))] M=Z (.d (.tuple ((qs.map (·.1)).map r)),M)from rfl),Option.bind_some]
def uN{k:Type}{f1:k->Tb}{qs:Tv (k×Nat)}(h:x.length<=1000000)(e:sdS x=qs.map λq=>(f1 q.1,q.2)):bD (aL cQ<|aA (aB 0) aF) [Z (S x)] M=Z (qs.map λq=>.d (.tuple [.int (q.2:Nat),wD<|f1 q.1]),M):=by
 unfold bD;rw[aY (F:=cQ) (aH (show aB 0 [Z (S x)] M=Z (S x,M)from rfl) aP) (wX h),A2,e,B7];show(Z<|qs.map _).bind _=_;rw[A2,B7];rfl
def aEt(h:RdT t):eF (aA (aB 0)<|aA (aL gC<|aA (aB 1)<|aA (fC (.str w)) aF) aF) [Z (I J),Z (.d (wD<|jB w t))] M=Z (.d (.tuple [.int J,fL false t]),M):=
 jI (aH (show aB 0 [Z (I J),Z (.d (wD<|jB w t))] M=Z (I J,M)from rfl)<|aH (aY (F:=gC) (aH (show aB 1 [Z (I J),Z (.d (wD<|jB w t))] M=Z (.d (.list ((jB w t).map .str)),M)from rfl)<|aH (show fC (.str w) [Z (I J),Z (.d (wD<|jB w t))] M=Z (S w,M)from rfl) aP)<|NZ h) aP) (ds:=[.int J,fL false t]) rfl (show(2:Nat)<=500 by decide)
def NO{ts:Tv Tie}(h:x.length<=1000000)(e:(sdS x).map (·.1)=ts.map (jB "branch"))(C:∀t∈ts,RdT t)(u:ts.length<=1000):cU [S x] M=Z (.d (.tuple (ts.map<|fL false)),M):=by
 obtain⟨qs,k,D⟩:=vW e;have A:qs.length<=1000:=by rw[<- k,A1]at u;exact u
 have E:∀q∈qs,RdT q.1:=λq o=>C q.1 (by rw[<- k];exact List.mem_map.mpr ⟨q,o,rfl⟩);have G:uA [Z (S x)] M=Z (.d (.list (qs.map<|xX<|fL false)),M):=CT (uN h D) A λq o J=>aEt<|E q o;have B:=qT (r:=fL false) (qs:=qs) (M:=M) (λq _=>rfl) A;rw[k]at B;unfold cU;refine fJ rfl ?_;show lV [Z (S x)] M=_;unfold lV;simp only[bP,aY (F:=dY) (aH G aP) B,Option.bind_some]
def QF{ts:Tv Tie}(h:x.length<=1000000)(e:(sdS x).map (·.1)=ts.map (jB "flow"))(C:∀t∈ts,RdT t)(u:ts.length<=1000):cS [S x] M=Z (.d (.tuple (ts.map<|fL false)),M):=by
 obtain⟨qs,k,D⟩:=vW e;have A:qs.length<=1000:=by rw[<- k,A1]at u;exact u
 have E:∀q∈qs,RdT q.1:=λq o=>C q.1 (by rw[<- k];exact List.mem_map.mpr ⟨q,o,rfl⟩);have G:tT [Z (S x)] M=Z (.d (.list (qs.map<|xX<|fL false)),M):=CT (uN h D) A λq o J=>aEt<|E q o;have B:=qT (r:=fL false) (qs:=qs) (M:=M) (λq _=>rfl) A;rw[k]at B;unfold cS;refine fJ rfl ?_;show mI [Z (S x)] M=_;unfold mI;simp only[bP,aY (F:=dY) (aH G aP) B,Option.bind_some]
def aGf(h:RdS ns):kF [.d (.list ((lK ns).map .str))] M=Z (.d (sqK false ns),M):=by
 obtain⟨k,o,q⟩:=h;cases ns with
 |nil=>exact absurd rfl k
 |cons n ns=>exact ZR o (by rw[C0]at q;omega)
def JH{ss:T0}(h:x.length<=1000000)(e:(sdS x).map (·.1)=ss.map lK)(C:∀t∈ss,RdS t)(u:ss.length<=1000):cG [S x] M=Z (.d (.tuple (ss.map<|sqK false)),M):=by
 obtain⟨qs,k,D⟩:=vW e;have A:qs.length<=1000:=by rw[<- k,A1]at u;exact u
 have E:∀q∈qs,RdS q.1:=λq o=>C q.1 (by rw[<- k];exact List.mem_map.mpr ⟨q,o,rfl⟩)
 have G:sS [Z (S x)] M=Z (.d (.list (qs.map<|xX<|sqK false)),M):=CT (uN h D) A λq o J=>
  jI (aH (show aB 0 [Z (I J),Z (.d (wD<|lK q.1))] M=Z (I J,M)from rfl)<|aH (aY (F:=kF) (aH (show aB 1 [Z (I J),Z (.d (wD<|lK q.1))] M=Z (.d (.list ((lK q.1).map .str)),M)from rfl) aP)<|aGf<|E q o) aP) (ds:=[.int J,sqK false q.1]) rfl (show(2:Nat)<=500 by decide)
 have B:=qT (r:=sqK false) (qs:=qs) (M:=M) (λq _=>rfl) A;rw[k]at B;unfold cG;refine fJ rfl ?_;show jZ [Z (S x)] M=_;unfold jZ;simp only[bP,aY (F:=dY) (aH G aP) B,Option.bind_some]
def aMH(h:0<=n)(k:n<100):bZ [S (sI n)] M=Z (I n,M):=by
 obtain⟨m,rfl⟩:=F7 h;exact pW (by omega)
def aAE(n1:1<=n)(n40:n<=40):nV [.d (wD ["places",sI n])] M=Z (I n,M):=by
 obtain⟨W,h⟩:∃W,CD.d (wD ["places",sI n])=W:=⟨_,rfl⟩;have t:ixF W (I 0) M=Z (S "places",M):=by rw[<- h];rfl
 have u:ixF W (I 1) M=Z (S<|sI n,M):=by rw[<- h];rfl
 have le:iA [W] M=Z (I 2,M):=by rw[<- h];rfl
 rw[h];have o:∀A,aB 0 [Z W,A] M=Z (W,M):=λ_=>rfl;have q:eqX false (S "places") (S "places") M=Z (B true,M):=rfl;have t1:=fT<|bO (k:=eqX false) (aY (F:=iA) (aH (o Y) aP) le) (bL (i:=2)) (show eqX false (I 2) (I 2) M=Z (B true,M)from rfl);have t2:=fT<|bO (k:=eqX false) (bO (k:=ixF) (o Y) (bL (i:=0)) t) (show fC (.str "places") [Z W,Y] M=Z (S "places",M)from rfl) q
 have C:fIf (yE (gB<|fOp (eqX false) (aL iA<|aA (aB 0) aF)<|fC (.int 2))<|gB<|fOp (eqX false) (fOp ixF (aB 0)<|fC (.int 0))<|fC (.str "places")) (aL bZ<|aA (fOp ixF (aB 0)<|fC (.int 1)) aF) (fC .none) [Z W,Y] M=Z (I n,M):=by
  have D:yE (gB<|fOp (eqX false) (aL iA<|aA (aB 0) aF)<|fC (.int 2)) (gB<|fOp (eqX false) (fOp ixF (aB 0)<|fC (.int 0))<|fC (.str "places")) [Z W,Y] M=Z (true,M):=by
   unfold yE;rw[t1];exact t2
  unfold fIf;rw[D,A2];dsimp only;rw[A4 rfl];exact aY (F:=bZ) (aH (bO (k:=ixF) (o Y) (bL (i:=1)) u) aP)<|aMH (by omega) (by omega)
 have E:aZ _ (br 1) [Z W,Y] M=Z (.nx [Z W,Z<|I n],M):=bS C;have G:decide (1<=n)=true:=C7 n1;have H:decide (n<=40)=true:=C7 n40;have nn:AS true (I n) (.d .none) M=Z (B true,M):=rfl;unfold nV;refine fJ rfl ?_;show sZ [Z W,Y] M=_;unfold sZ;rw[aV E];simp![nn,G,H]
def RX{us:Tv Tie}{M:Sto}(h:x.length<=1000000)(e:(sdS x).map (·.1)=((["places",sI n]:Tb)::us.map (jB "tie")))(Q:∀t∈us,RdT t)(ok:OkB n us)(n1:1<=n)(n40:n<=40):
 ∃vs:Tv Tie,vs.Perm us/\vs.Pairwise Tie.lt/\eC [S x] M=Z (.c M.length,M++tL M.length n us vs):=by
 obtain⟨vs,pm,pw,C⟩:=YN (M:=M) ok n1 n40;refine⟨vs,pm,pw,?_⟩;have sl:=wX (x:=x) (M:=M) h;cases hs:sdS x with
 |nil=>rw[hs]at e;simp at e
 |cons p ps=>
  rw[hs,B2]at e;injection e with T U
  obtain⟨u,A,V⟩:=vW U
  have G:u.length<=1000:=by
   have:=ok.2.2.le;rw[<- A,A1]at this;omega
  have X:∀q∈u,RdT q.1:=λq D=>Q q.1 (by rw[<- A];exact List.mem_map.mpr ⟨q,D,rfl⟩);obtain⟨J,hJ⟩:∃J:Int,((p.2:Nat):Int)=J:=⟨_,rfl⟩;obtain⟨R,H⟩:∃R,ps.map sdD=R:=⟨_,rfl⟩;obtain⟨W,K⟩:∃W,wD ["places",sI n]=W:=⟨_,rfl⟩;rw[hs,B2,H,show sdD p=.tuple [.int J,W]by unfold sdD;rw[hJ,<- K,<- T]]at sl;have a1:aZ (aL cQ<|aA (aB 0) aF) (br 1) [Z (S x),Y,Y,Y] M=Z (.nx [Z (S x),Z (.d (.list (.tuple [.int J,W]::R))),Y,Y],M):=bS<|aY (aH (show aB 0 [Z (S x),Y,Y,Y] M=Z (S x,M)from rfl) aP) sl;have O:∀a b,aB 1 [Z (S x),Z (.d (.list (.tuple [.int J,W]::R))),a,b] M=Z (.d (.list (.tuple [.int J,W]::R)),M):=λ_ _=>rfl;have a2:sIf (qG<|vZ<|aB 1) vF cV [Z (S x),Z (.d (.list (.tuple [.int J,W]::R))),Y,Y] M=Z (.nx [Z (S x),Z (.d (.list (.tuple [.int J,W]::R))),Y,Y],M):=rfl
  have i0:ixF (.d (.list (.tuple [.int J,W]::R))) (I 0) M=Z (.d (.tuple [.int J,W]),M):=by
   show(atI (PyData.tuple [.int J,W]::R) ((0:Nat):Int)).bind _=_;rw[jY (k:=0) (x:=PyData.tuple [.int J,W]) rfl];rfl
  have i1:ixF (.d (.tuple [.int J,W])) (I 1) M=Z (.d W,M):=rfl;have P:=aAE (M:=M) n1 n40;rw[K]at P;have a3:aZ (aL nV<|aA (fOp ixF (fOp ixF (aB 1)<|fC (.int 0))<|fC (.int 1)) aF) (br 2) [Z (S x),Z (.d (.list (.tuple [.int J,W]::R))),Y,Y] M=Z (.nx [Z (S x),Z (.d (.list (.tuple [.int J,W]::R))),Z<|I n,Y],M):=bS<|aY (aH (bO (k:=ixF) (bO (k:=ixF) (O Y Y) (bL (i:=0)) i0) (bL (i:=1)) i1) aP) P;have a4:sIf (gB<|fOp (AS false) (aB 2)<|fC .none) vF cV [Z (S x),Z (.d (.list (.tuple [.int J,W]::R))),Z<|I n,Y] M=Z (.nx [Z (S x),Z (.d (.list (.tuple [.int J,W]::R))),Z<|I n,Y],M):=rfl
  have it:bD (fSl (aB 1) (dX<|fC (.int 1)) cW) [Z (S x),Z (.d (.list (.tuple [.int J,W]::R))),Z<|I n,Y] M=Z (u.map λq=>.d (.tuple [.int (q.2:Nat),wD<|jB "tie" q.1]),M):=by
   have e:fSl (aB 1) (dX<|fC (.int 1)) cW [Z (S x),Z (.d (.list (.tuple [.int J,W]::R))),Z<|I n,Y] M=Z (.d (.list R),M):=by
    unfold fSl;rw[O,A2];show Z (CD.d (.list (nT (.tuple [.int J,W]::R) (Z 1) Y)),M)=_;rw[NV]
   unfold bD;rw[e,A2];show(Z R).bind _=_;rw[A2,<- H,V,B7,B7];rfl
  have cp:jR [Z (S x),Z (.d (.list (.tuple [.int J,W]::R))),Z<|I n,Y] M=Z (.d (.list (bG us)),M):=by
   unfold jR;refine iN it (by rw[A1];exact G) ?_ (by unfold bG;rw[A1,<- A,A1];exact G);rw[show lJ [Y,Y] [Z (S x),Z (.d (.list (.tuple [.int J,W]::R))),Z<|I n,Y]=[Y,Y]from rfl];refine(DR (c:=eP) (M:=M) (λq=>.int (q.2:Nat)) (λq=>wD<|jB "tie" q.1) (λ_=>true) (λq=>fL false q.1) u Y Y λq D=>⟨rfl,λ_=>?_⟩).trans ?_
   .obtain⟨B,E⟩:∃B:Int,((q.2:Nat):Int)=B:=⟨_,rfl⟩;rw[E];exact aY (F:=gC) (aH (show aB 1 [Z (I B),Z (.d (wD<|jB "tie" q.1))] M=Z (.d (.list ((jB "tie" q.1).map .str)),M)from rfl)<|aH (show fC (.str "tie") [Z (I B),Z (.d (wD<|jB "tie" q.1))] M=Z (S "tie",M)from rfl) aP)<|NZ<|X q D
   .rw[DI,<- A];unfold bG;rw[B7,B7,B7];rfl
  have mk:RI "Web" fP (aA (aB 2)<|aA jR aF) [Z (S x),Z (.d (.list (.tuple [.int J,W]::R))),Z<|I n,Y] M=Z (.v (.c M.length),M++tL M.length n us vs):=by
   unfold RI;rw[aH (show aB 2 [Z (S x),Z (.d (.list (.tuple [.int J,W]::R))),Z<|I n,Y] M=Z (I n,M)from rfl) (aH cp aP),A2,C,A2];rfl
  have tr:pA [Z (S x),Z (.d (.list (.tuple [.int J,W]::R))),Z<|I n,Y] M=Z (.o (.rt (.c M.length)),M++tL M.length n us vs):=by
   unfold pA PF;rw[mk,A2]
  unfold eC;refine fJ rfl ?_;show oO [Z (S x),Y,Y,Y] M=_;unfold oO;rw[aV a1,aV a2,aV a3,aV a4];unfold aCx;rw[tr,A2]
theorem XG{c:Nat}:∀(xs:Td),((spl c xs).map List.length).sum<=xs.length
 |[]=>A7 _
 |a::r=>by
  have ih:=XG (c:=c) r;unfold spl;by_cases q:a=c
  .rw[A4 q,B2,Z7,C0,A0a];omega
  .rw[A5 q];obtain⟨p,ps,e⟩:=KQ c r;rw[e]at ih ⊢;rw[B2,Z7]at ih;show(((a::p)::ps).map List.length).sum<=_;rw[B2,Z7,C0,C0];omega
def ZA:((Txt.split x ⟨#[c]⟩).map (·.length)).sum<=x.length:=by
 have h:=XG (c:=c)<|sg x;rw[<- nX,B7]at h;rw[str_len];refine C6 (Nat.le_of_eq ?_) h;exact U3 List.sum (O8 λp _=>str_len p)
noncomputable abbrev bl(k:Nat):Str:=⟨(List.replicate k 32).toArray⟩
def blanks:∀k:Nat,k<=3->Txt.mul " " (k:Int)=bl k
 |0=>λ_=>by decide
 |1=>λ_=>by decide
 |2=>λ_=>by decide
 |3=>λ_=>by decide
 |k+4=>λh=>by omega
def aIP(k:Nat):sg (bl k)=List.replicate k 32:=rfl
def MY(k:Nat):(bl k).length=k:=by rw[str_len,aIP,List.length_replicate]
theorem aEZ(n:Nat):∀ps:Tb,sg (Str.join (bl (n+1)) ps)=jn n (ps.map sg)
 |[]=>rfl
 |[p]=>rfl
 |p::q::ps=>by
  show sg (p++bl (n+1)++Str.join (bl (n+1)) (q::ps))=_;rw[dC,dC,aEZ n (q::ps)];rfl
structure sO(x:Str)(W:Tb):Prop where
 ne:W≠[]
 wd:∀w∈W,32∉sg w/\10∉sg w/\sg w≠[]
 is:sg x=eY 32 (W.map sg)
 len:x.length<=500
def sO.split{W:Tb}(h:sO x W):Txt.split x ⟨#[32]⟩=W:=by
 refine pH ?_;rw[nX,h.is];refine xR (λe=>h.ne<|List.map_eq_nil_iff.mp e) λp k=>?_;obtain⟨w,o,rfl⟩:=List.mem_map.mp k;exact(h.wd w o).1
theorem WO{n:Nat}:∀{ws:Tv (Td)},(∀w∈ws,10∉w)->10∉jn n ws
 |[]=>λ_=>by simp[jn]
 |[p]=>λh=>h p B0
 |p::q::ps=>λh=>by
  have ih:=WO (n:=n) (ws:=q::ps) λw k=>h w<|B1 _ k;show 10∉p++List.replicate (n+1) 32++jn n (q::ps);intro m;obtain m|m:=List.mem_append.mp m
  .obtain m|m:=List.mem_append.mp m
   .exact h p B0 m
   .have:=List.eq_of_mem_replicate m;omega
  .exact ih m
noncomputable abbrev MN:=Tv<|Tv<|Td
def PK{W:Tv (Td)}(h:∀w∈W,32∉w/\10∉w/\w≠[])(a n:Nat):said (List.replicate a 32++jn n W)=if W.isEmpty then[]else[W]:=by
 have o:wds (List.replicate a 32++jn n W)=W:=by
  rw[TH];exact aEY n λw k=>⟨(h w k).1,(h w k).2.2⟩
 have q:10∉List.replicate a 32++jn n W:=by
  intro m;obtain m|m:=List.mem_append.mp m
  .have:=List.eq_of_mem_replicate m;omega
  .exact WO (λw k=>(h w k).2.1) m
 rw[aCR q,o]
def aEw(zs:Td):said (sg (" \n":Str)++zs)=said zs:=by
 show said ([32]++10::zs)=_;rw[wF];rfl
theorem FH:∀{ps:Tv (Td)},ps≠[]->said (eY 10 ps)=(ps.map said).flatten
 |[]=>λh=>absurd rfl h
 |[p]=>λ_=>by simp[eY]
 |p::q::ps=>λ_=>by
  show said (p++10::eY 10 (q::ps))=_;rw[wF,FH (ps:=q::ps) (by simp)];rfl
def yL{zs:Tb}(h:zs≠[]):said (sg<|Txt.join "\n" zs)=(zs.map λz=>said<|sg z).flatten:=by
 have e:sg (Txt.join "\n" zs)=eY 10 (zs.map sg):=by
  show sg (Builtin.Str.glued "\n" zs)=_;rw[J9];exact xM 10 zs
 rw[e,FH λz=>h<|List.map_eq_nil_iff.mp z,B7];rfl
def Ln(l:Str)(D:MN):Prop:=(∃W,sO l W/\D=[W.map sg])\/(l=""/\D=[])
def Ln.len(h:Ln l D):l.length<=500:=by
 obtain⟨W,h,_⟩|⟨rfl,_⟩:=h
 .exact h.len
 .decide
def Ln.said(h:Ln l D)(a n:Nat):said (sg (bl a++Str.join (bl (n+1)) (Txt.split l ⟨#[32]⟩)))=D:=by
 rw[dC,aIP,aEZ];obtain⟨W,h,rfl⟩|⟨rfl,rfl⟩:=h
 .rw[h.split,PK λw k=>by obtain⟨v,o,rfl⟩:=List.mem_map.mp k;exact h.wd v o];cases W with
  |nil=>exact absurd rfl h.ne
  |cons w W=>rfl
 .rw[show Txt.split "" ⟨#[32]⟩=([""]:Tb)by decide];have:=PK (W:=[]) (λw k=>by simp at k) a n;exact this
def Ln.jlen(h:Ln l D){k:Nat}(o:k<=3):(Str.join (bl k)<|Txt.split l ⟨#[32]⟩).length<=2006:=by
 have q:=ZA (x:=l) (c:=32);have t:=mD (x:=l) (c:=32);have u:=h.len;have A:(Txt.split l ⟨#[32]⟩).length*k<=502*3:=Nat.mul_le_mul (by omega) o;refine C6 (S3 _ _) ?_;rw[MY];omega
def WJ{m:Int}(hm:0<m)(h:m<=4):∃k:Nat,z % m=(k:Int)/\(k:Int)<m:=by
 have o:=C8 z (show m≠0 by omega);have q:=C5 z hm;exact⟨(z % m).toNat,by omega,by omega⟩
def aLS{k:Nat}(h:k<=3):GM (S " ") (I (k:Int)) M=Z (S<|bl k,M):=by
 have c:((k:Int)<1000/\-1000<(k:Int)/\(" ":Str).length<=1000):=⟨by omega,by omega,by decide⟩;show(if ((k:Int)<1000/\-1000<(k:Int)/\(" ":Str).length<=1000)then Z (CD.d (.str (Txt.mul " " (k:Int))),M)else Y)=_;rw[A4 c,blanks k h]
def aGO{k:Nat}(o:f γ M=Z (S l,M))(q:g γ M=Z (I (k:Int),M))(h:k<=3)(t:l.length<=500):zU " " " " f g γ M=Z (S<|Str.join (bl k)<|Txt.split l ⟨#[32]⟩,M):=by
 unfold zU;rw[o,A2,q,A2];show(if ((k:Int)<1000/\-1000<(k:Int)/\(" ":Str).length<=1000)/\l.length+(l.length+1)*(Txt.mul " " (k:Int)).length<=16777216 then Z (CD.d (.str (Txt.replace l ⟨#[32]⟩<|Txt.mul " " (k:Int))),M)else Y)=_;rw[blanks k h,MY,StrLaws.replace_one];have:(l.length+1)*k<=501*3:=Nat.mul_le_mul (by omega) h;exact A4 ⟨⟨by omega,by omega,by decide⟩,by omega⟩
def aNc{k:Nat}{v:CD}(h:M[d]?=Z (.lst xs))(o:xs[k]?=Z v):ixF (.c d) (I (k:Int)) M=Z (v,M):=by
 simp only[ixF,h,jY o,Option.bind_some]
def aJe{k:Nat}{v:CD}(h:M[d]?=Z (.lst xs))(o:k<xs.length):tK (.c d) (I (k:Int)) v M=Z (M.set d (.lst (xs.set k v))):=by
 have e:ixN xs.length (k:Int)=Z k:=by
  unfold ixN;rw[A4 (by omega),A4 (by omega)];rfl
 simp only[tK,h,e,Option.bind_some]
abbrev GO(c:Nat)(x:CD)(d:Nat)(g3 g4:Te):Ga:=[Z (.c c),Z x,Z (.c d),g3,g4]
def TY{x:CD}{zs rest:Tb}{g4:Te}(ln:Ln l D)(dk:Dk M c (m+1))(ne:d≠c)(hd:M[d]?=Z (.lst ((zs++l::rest).map λy=>S y))):
 ∃(y:Str)(T:Te)(M':Sto),fH (GO c x d (Z<|I (zs.length:Nat)) g4) M=Z (.nx (GO c x d (Z<|I (zs.length:Nat)) T),M')/\said (sg y)=D/\y.length<=2010/\M'[d]?=Z (.lst ((zs++y::rest).map λy=>S y))/\Dk M' c m/\M'.length=M.length/\∀i,i≠c->i≠d->M'[i]?=M[i]?:=by
 obtain⟨z,M1,p1,d1,O,z0,z1⟩:=dk.pop;have u:M1[d]?=Z (.lst ((zs++l::rest).map λy=>S y)):=by rw[O.at_ d ne];exact hd
 obtain⟨xs,C⟩:∃xs,(zs++l::rest).map (λy=>S y)=xs:=⟨_,rfl⟩;have hk:xs[zs.length]?=Z (S l):=by rw[<- C,D3,D7<|A7 _,O2];rfl
 have hl:zs.length<xs.length:=(List.getElem?_eq_some_iff.mp hk).1;rw[C]at u
 have st:∀y,xs.set zs.length (S y)=(zs++y::rest).map λy=>S y:=λy=>by
  rw[<- C,D0,D0,B2,B2,List.set_append_right (h:=by rw[A1];exact A7 _),A1,O2];rfl
 obtain⟨a,ea,la⟩:=WJ (z:=z) (m:=3) (by decide) (by decide);obtain⟨n,en,a5⟩:=WJ (z:=z / 3) (m:=3) (by decide) (by decide);have a1:aZ (aX "list" dU (aB 0) aF) (br 4) (GO c x d (Z<|I (zs.length:Nat)) g4) M=Z (.nx (GO c x d (Z<|I (zs.length:Nat))<|Z<|I z),M1):=bS<|pop_at rfl dk.ty p1;obtain⟨γ,o⟩:∃γ,GO c x d (Z<|I (zs.length:Nat)) (Z<|I z)=γ:=⟨_,rfl⟩;have U:∀N,aB 4 γ N=Z (I z,N):=λN=>by rw[<- o];rfl
 have P:∀N,aB 2 γ N=Z (.c d,N):=λN=>by rw[<- o];rfl
 have Q:∀N,aB 3 γ N=Z (I (zs.length:Nat),N):=λN=>by rw[<- o];rfl
 obtain⟨y,V⟩:∃y,bl a++Str.join (bl (n+1)) (Txt.split l ⟨#[32]⟩)=y:=⟨_,rfl⟩;have sy:said (sg y)=D:=by rw[<- V];exact ln.said a n
 have ly:y.length<=2008:=by
  rw[<- V,dF,MY];have:=ln.jlen (k:=n+1) (by omega);omega
 have W:fOp ixF (aB 2) (aB 3) γ M1=Z (S l,M1):=bO (k:=ixF) (P M1) (Q M1)<|aNc u hk
 have q1:fOp GM (fC (.str " ")) (fOp bB (aB 4)<|fC (.int 3)) γ M1=Z (S<|bl a,M1):=by
  have m1:=aLS (k:=a) (M:=M1) (by omega);rw[<- ea]at m1;exact bO (k:=GM) (show fC (.str " ") _ M1=Z (S " ",M1)from rfl) (bN (k:=bB) (U M1) (bL (i:=3))<|dJ (by decide)) m1
 have q2:fOp bY (fC (.int 1)) (fOp bB (fOp bR (aB 4)<|fC (.int 3))<|fC (.int 3)) γ M1=Z (I ((n+1:Nat):Int),M1):=by
  have:=bN (k:=bY) (bL (i:=1) (γ:=γ) (M:=M1)) (bN (k:=bB) (bN (k:=bR) (U M1) (bL (i:=3))<|tQ (by decide) (by decide)) (bL (i:=3))<|dJ (by decide)) rO;rw[this,en];congr 2;congr 1;congr 1;omega
 have rp:=aGO W q2 (by omega) ln.len;have jl:=ln.jlen (k:=n+1) (by omega)
 have ex:fOp xQ (fOp GM (fC (.str " "))<|fOp bB (aB 4)<|fC (.int 3)) (zU " " " " (fOp ixF (aB 2)<|aB 3)<|fOp bY (fC (.int 1))<|fOp bB (fOp bR (aB 4)<|fC (.int 3))<|fC (.int 3)) γ M1=Z (S y,M1):=by
  rw[<- V];exact bO (k:=xQ) q1 rp<|UD (by rw[MY,szl];omega)
 have a2:aZ (fOp xQ (fOp GM (fC (.str " "))<|fOp bB (aB 4)<|fC (.int 3))<|zU " " " " (fOp ixF (aB 2)<|aB 3)<|fOp bY (fC (.int 1))<|fOp bB (fOp bR (aB 4)<|fC (.int 3))<|fC (.int 3)) (hSub (aB 2) (aB 3) tK) γ M1=Z (.nx γ,M1.set d (.lst ((zs++y::rest).map λy=>S y))):=by
  have sc:=aJe (v:=S y) u hl;rw[st]at sc;simp only[aZ,ex,Option.bind_some,hSub,P,Q,sc]
 have ld:d<M1.length:=(List.getElem?_eq_some_iff.mp u).1;obtain⟨M2,q⟩:∃M2,M1.set d (.lst ((zs++y::rest).map λy=>S y))=M2:=⟨_,rfl⟩;have E:M2[d]?=Z (.lst ((zs++y::rest).map λy=>S y)):=by rw[<- q,C3 ld]
 have d2:Dk M2 c m:=by rw[<- q];exact d1.put ne
 have X:M2.length=M.length:=by rw[<- q,E1,O.len]
 have G:∀i,i≠c->i≠d->M2[i]?=M[i]?:=λi h1 R=>by rw[<- q,B6<|J7 R,O.at_ i h1]
 rw[q]at a2
 have go:∀r,bF (aZ (aX "list" dU (aB 0) aF)<|br 4) (bF (aZ (fOp xQ (fOp GM (fC (.str " "))<|fOp bB (aB 4)<|fC (.int 3))<|zU " " " " (fOp ixF (aB 2)<|aB 3)<|fOp bY (fC (.int 1))<|fOp bB (fOp bR (aB 4)<|fC (.int 3))<|fC (.int 3))<|hSub (aB 2) (aB 3) tK) r) (GO c x d (Z<|I (zs.length:Nat)) g4) M=r γ M2:=λr=>by
  rw[aV a1];show bF _ _ (GO c x d (Z<|I (zs.length:Nat))<|Z<|I z) M1=_;rw[o,aV a2]
 obtain⟨b,hb⟩:∃b,(z / 9 % 4==0)=b:=⟨_,rfl⟩
 have H:gB (fOp (eqX false) (fOp bB (fOp bR (aB 4)<|fC (.int 9))<|fC (.int 4))<|fC (.int 0)) γ M2=Z (b,M2):=by
  have:=bO (k:=eqX false) (bN (k:=bB) (bN (k:=bR) (U M2) (bL (i:=9))<|tQ (by decide) (by decide)) (bL (i:=4))<|dJ (by decide)) (bL (i:=0) (γ:=γ) (M:=M2)) MM;rw[hb]at this;simp only[gB,this,Option.bind_some];rfl
 cases b with
 |false=>
  refine⟨y,Z<|I z,M2,?_,sy,by omega,E,d2,X,G⟩;unfold fH;rw[go,qB H];show Z (Out.nx γ,M2)=_;rw[<- o]
 |true=>
  obtain⟨A,t⟩:∃xs,(zs++y::rest).map (λy=>S y)=xs:=⟨_,rfl⟩;have K:A[zs.length]?=Z (S y):=by rw[<- t,D3,D7<|A7 _,O2];rfl
  have a0:zs.length<A.length:=(List.getElem?_eq_some_iff.mp K).1;have B:M2[d]?=Z (.lst A):=by rw[<- t];exact E
  have a4:A.set zs.length (S (" \n"++y))=(zs++(" \n"++y)::rest).map λy=>S y:=by
   rw[<- t,D0,D0,B2,B2,List.set_append_right (h:=by rw[A1];exact A7 _),A1,O2];rfl
  have ex2:fOp xQ (fC (.str " \n")) (fOp ixF (aB 2)<|aB 3) γ M2=Z (S (" \n"++y),M2):=bO (k:=xQ) (show fC (.str " \n") _ M2=Z (S " \n",M2)from rfl) (bO (k:=ixF) (P M2) (Q M2)<|aNc B K)<|UD (by rw[show(" \n":Str).length=2 by decide,szl];omega)
  have a3:aZ (fOp xQ (fC (.str " \n"))<|fOp ixF (aB 2)<|aB 3) (hSub (aB 2) (aB 3) tK) γ M2=Z (.nx γ,M2.set d (.lst ((zs++(" \n"++y)::rest).map λy=>S y))):=by
   have sc:=aJe (v:=S (" \n"++y)) B a0;rw[a4]at sc;simp only[aZ,ex2,Option.bind_some,hSub,P,Q,sc]
  refine⟨" \n"++y,Z<|I z,_,?_,by rw[dC,aEw];exact sy,by rw[dF,show(" \n":Str).length=2 by decide];omega,C3 (by rw[X,<- O.len];exact ld),d2.put ne,by rw[E1];exact X,λi h1 R=>by rw[B6 (J7 R)];exact G i h1 R⟩;unfold fH;rw[go,aEb H,a3,<- o]
theorem ER{c d m:Nat}{x:CD}(ne:d≠c):∀(rest:Tv (Str×MN))(zs:Tb)(g3 g4:Te)(M:Sto),(∀p∈rest,Ln p.1 p.2)->Dk M c (m+rest.length)->M[d]?=Z (.lst ((zs++rest.map (·.1)).map λy=>S y))->(∀z∈zs,z.length<=2010)->
 ∃(ys:Tb)(A k:Te)(M':Sto),wR (br 3) fH (gO (zs.length:Nat) rest.length) (GO c x d g3 g4) M=Z (.nx (GO c x d A k),M')/\M'[d]?=Z (.lst (ys.map λy=>S y))/\(ys.map λz=>said<|sg z)=(zs.map λz=>said<|sg z)++rest.map (·.2)/\(∀z∈ys,z.length<=2010)/\Dk M' c m/\M'.length=M.length/\∀i,i≠c->i≠d->M'[i]?=M[i]?
 |[]=>λzs g3 g4 M _ dk hd B=>⟨zs,g3,g4,M,rfl,by rw[List.map_nil,D8]at hd;exact hd,by rw[List.map_nil,D8],B,dk,rfl,λ_ _ _=>rfl⟩
 |p::rest=>λzs g3 g4 M h dk hd B=>by
  rw[C0]at dk;obtain⟨y,k,M1,O,P,Q,o,R,T,C⟩:=TY (x:=x) (g4:=g4) (m:=m+rest.length) (h p B0) dk ne hd;have U:zs++y::rest.map (·.1)=(zs++[y])++rest.map (·.1):=by rw[E2];rfl
  rw[U]at o
  obtain⟨ys,t,u,M2,K,D,s2,E,V,W,G⟩:=ER ne rest (zs++[y]) (Z<|I (zs.length:Nat)) k M1 (λq X=>h q<|B1 _ X) R o λz H=>by
   obtain q|q:=List.mem_append.mp H
   .exact B z q
   .rw[List.mem_singleton.mp q];exact Q
  refine⟨ys,t,u,M2,?_,D,?_,E,V,W.trans T,λi a b=>(G i a b).trans (C i a b)⟩
  .rw[C0,rM,kN (show br 3 (I (zs.length:Nat)) (GO c x d g3 g4) M=Z (GO c x d (Z<|I (zs.length:Nat)) g4,M)from rfl) O];rw[B9,F0]at K;rw[show((zs.length:Nat):Int)+1=((zs.length+1:Nat):Int)by omega];exact K
  .rw[s2,D0,B2,E2];show _++(said (sg y)::_)=_;rw[P];rfl
def YS{ls:Tv (Str×MN)}(u:Txt.split x ⟨#[10]⟩=ls.map (·.1))(h:∀p∈ls,Ln p.1 p.2)(ne:ls≠[])(C:ls.length<=250)(A:x.length<=1000000)(dk:Dk M c (m+ls.length)):
 ∃(y:Str)(M':Sto),cF [.c c,S x] M=Z (S y,M')/\said (sg y)=(ls.map (·.2)).flatten/\y.length<=1000000/\Dk M' c m/\Ex c M M':=by
 have ok:=RJ (x:=x) (c:=10) A;have q:=dk.lt;obtain⟨M1,o⟩:∃M1,M++[Cell.lst ((ls.map (·.1)).map λy=>S y)]=M1:=⟨_,rfl⟩
 have B:aZ (aX "str" DJ (aB 1)<|aA (fC (.str "\n")) aF) (br 2) [Z (.c c),Z<|S x,Y,Y,Y] M=Z (.nx (GO c (S x) M.length Y Y),M1):=by
  refine bS<|oU (show aB 1 _ M=Z (S x,M)from rfl) rfl (aH (show fC (.str "\n") _ M=Z (S ⟨#[10]⟩,M)from rfl) aP) ?_;show(if jV x ⟨#[10]⟩=true then Z (CD.c M.length,M++[Cell.lst ((Txt.split x ⟨#[10]⟩).map λt=>.d (.str t))])else Y)=_;rw[A4 ok,u,<- o]
 have hd:M1[M.length]?=Z (.lst ((ls.map (·.1)).map λy=>S y)):=by rw[<- o,D7<|A7 _,O2];rfl
 have dk1:Dk M1 c (m+ls.length):=by rw[<- o];exact dk.app
 obtain⟨ys,g3,g4,M2,lp,hd2,sy,ly,d2,l2,at2⟩:=ER (x:=S x) (d:=M.length) (m:=m) (E9 q) ls [] Y Y M1 h dk1 (by rw[Z2];exact hd) (λz hz=>by simp at hz);rw[List.map_nil,Z2]at sy
 have yl:ys.length=ls.length:=by
  have:=U3 List.length sy;rw[A1,A1]at this;exact this
 have rg:fA (aA (aL iA<|aA (aB 2) aF) aF) (GO c (S x) M.length Y Y) M1=Z (gO ((0:Nat):Int) ls.length,M1):=by
  have ln:iA [.c M.length] M1=Z (I ((ls.length:Nat):Int),M1):=by
   simp only[iA,hd,List.length_map,Option.bind_some]
  have:=yT (fa:=aA (aL iA<|aA (aB 2) aF) aF) (γ:=GO c (S x) M.length Y Y) (M:=M1) (J:=((ls.length:Nat):Int)) (aH (by
   show(Z ([CD.c M.length],M1)).bind _=_;rw[A2];exact ln) aP) (uF (by omega) (by omega))
  rw[this];rfl
 have jn:=LZ (sep:="\n") (ls:=ys) (n:=2010) (M:=M2.set M.length .dead) ly (by rw[show("\n":Str).length=1 by decide];omega)
 have rt:bP (aX "str" kM (fC (.str "\n"))<|aA (sY<|aB 2) aF) (GO c (S x) M.length g3 g4) M2=Z (.rt (S<|Txt.join "\n" ys),M2.set M.length .dead):=by
  have fz:sY (aB 2) (GO c (S x) M.length g3 g4) M2=Z (.d (.list (ys.map .str)),M2.set M.length .dead):=by
   have e:aB 2 (GO c (S x) M.length g3 g4) M2=Z (.c M.length,M2):=rfl;unfold sY;rw[e,A2];simp only[hd2];rw[show(ys.map λy=>S y)=(ys.map PyData.str).map CD.d by rw[B7];rfl,qQ];rfl
  have:=oU (T:="str") (h:=kM) (show fC (.str "\n") (GO c (S x) M.length g3 g4) M2=Z (S "\n",M2)from rfl) rfl (aH fz aP) jn;simp only[bP,this,Option.bind_some]
 refine⟨Txt.join "\n" ys,M2.set M.length .dead,?_,?_,?_,d2.put<|E9 q,⟨by rw[E1,l2,<- o,B9];omega,λi hi hc=>by rw[B6 (by omega),at2 i hc (by omega),<- o,J0 hi]⟩⟩
 .unfold cF;refine fJ rfl ?_;show kB [Z (.c c),Z<|S x,Y,Y,Y] M=_;unfold kB;rw[aV B,aV<|sH rg lp];exact rt
 .rw[yL (λz=>ne<|List.length_eq_zero_iff.mp (by rw[<- yl,z];rfl)),sy]
 .show(Builtin.Str.glued "\n" ys).length<=_;rw[J9];refine C6 (S3 _ _) ?_
  have:=vB (n:=2010) (ls:=ys.map (·.length)) λk hk=>by
   obtain⟨z,hz,rfl⟩:=List.mem_map.mp hk;exact ly z hz
  rw[A1]at this;rw[show("\n":Str).length=1 by decide];omega
def Wd(w:Str):Prop:=32∉sg w/\10∉sg w/\sg w≠[]
def aES{w:Str}(k:∀c∈sg w,47<=c)(o:sg w≠[]):Wd w:=⟨λh=>by have:=k _ h;omega,λh=>by have:=k _ h;omega,o⟩
def FI(h:(sg w).all (λc=>decide (47<=c))=true/\(sg w).isEmpty=false):Wd w:=aES (λc k=>D4<|List.all_eq_true.mp h.1 c k) λe=>by
 have:=h.2;rw[e]at this;cases this
def BV{n:Int}(h:0<=n):(∀c∈sg (sI n),47<=c)/\sg (sI n)≠[]:=by
 obtain⟨m,rfl⟩:=F7 h;rw[fY];refine⟨λc k=>by have:=xN m c k;omega,?_⟩;by_cases q:m<10
 .rw[rT q];simp
 .rw[JM q];simp
def QY(h:0<=n):Wd (sI n):=aES (BV h).1 (BV h).2
def aKi(ha:0<=a)(q:0<=b):Wd (iJ a b):=by
 unfold iJ;split
 .exact QY ha
 .have t:=BV ha;have k:=BV q;refine aES (λc o=>?_) λe=>?_
  .rw[dC,dC,show sg ("/":Str)=[47]by decide]at o;obtain h|h:=List.mem_append.mp o
   .obtain h|h:=List.mem_append.mp h
    .exact t.1 c h
    .rw[List.mem_singleton.mp h];exact A7 _
   .exact k.1 c h
  .rw[dC,dC]at e;have:=(List.append_eq_nil_iff.mp e).2;exact k.2 this
def aOp:sg (" ":Str)=[32]:=by decide
def PV{k:Nat}(o:0<=n)(h:n<(10:Int) ^ (k+1)):(sI n).length<=k+1:=by
 obtain⟨m,rfl⟩:=F7 o;rw[str_len,fY]
 exact(qS k m (by
  have:((10:Int) ^ (k+1))=((10 ^ (k+1):Nat):Int):=by rw[Int.natCast_pow];rfl
  rw[this]at h;exact Int.ofNat_lt.mp h)).1
def aAU(o:w.length<=100)(h:RdT t):(gW w t).length<=500:=by
 have q:=PV (k:=1) h.i.1 (by have:=h.i.2;omega);have u:=PV (k:=1) h.j.1 (by have:=h.j.2;omega);have A:=PV (k:=29) h.a.1 (by have:=h.a.2;exact this);have B:=PV (n:=t.b) (k:=29) (by have:=h.b.1;omega) h.b.2
 have ln:(iJ t.a t.b).length<=61:=by
  unfold iJ;split
  .omega
  .rw[dF,dF,sl1];omega
 show(w++" "++sI t.i++" "++sI t.j++" "++iJ t.a t.b).length<=_;rw[dF,dF,dF,dF,dF,dF,sp1];omega
def aBZ(o:Wd w)(q:w.length<=100)(h:RdT t):sO (gW w t) (jB w t):=by
 refine⟨by simp[jB],λx k=>?_,?_,aAU q h⟩
 .simp only[jB,List.mem_cons,List.not_mem_nil,or_false]at k;obtain rfl|rfl|rfl|rfl:=k
  .exact o
  .exact QY h.i.1
  .exact QY h.j.1
  .exact aKi h.a.1 (by have:=h.b.1;omega)
 .show sg (w++" "++sI t.i++" "++sI t.j++" "++iJ t.a t.b)=sg w++32::(sg (sI t.i)++32::(sg (sI t.j)++32::sg (iJ t.a t.b)));rw[dC,dC,dC,dC,dC,dC,aOp];simp only[List.append_assoc,List.cons_append,List.nil_append]
def UL{ns:T7}(h:∀k∈ns,0<=k/\k<100)(u:ns.length<=40):(wL ns).length<=500:=by
 have g:=S3 " " ("side"::ns.map sI)
 have q:=vB (n:=2) (ls:=(ns.map sI).map (·.length)) λx o=>by
  rw[B7]at o;obtain⟨n,hn,rfl⟩:=List.mem_map.mp o;obtain⟨t,n1⟩:=h n hn;obtain⟨m,rfl⟩:=F7 t;show(sI ((m:Nat):Int)).length<=2;rw[str_len,fY];exact(qS 1 m (by omega)).1
 rw[A1,A1]at q;rw[B2,Z7,C0,A1,sp1,sd4]at g;show(Builtin.Str.glued " " ("side"::ns.map sI)).length<=_;rw[J9];refine C6 g ?_;omega
def aIa(h:RdS ns):sO (wL ns) (lK ns):=by
 refine⟨by simp[lK],λx hx=>?_,?_,UL h.2.1 h.2.2⟩
 .obtain rfl|hx:=List.mem_cons.mp hx
  .exact FI (by decide)
  .obtain⟨n,hn,rfl⟩:=List.mem_map.mp hx;exact QY (h.2.1 n hn).1
 .show sg (Builtin.Str.glued " "<|lK ns)=_;rw[J9];exact xM 32<|lK ns
def pl(n:Int):Str:="places "++sI n
def YY(h:0<=n)(o:n<100):sO (pl n) ["places",sI n]:=by
 have l:=PV (k:=1) h (by omega);refine⟨by simp,λx hx=>?_,?_,by unfold pl;rw[dF,show("places ":Str).length=7 by decide];omega⟩
 .obtain rfl|hx:=List.mem_cons.mp hx
  .exact FI (by decide)
  .rw[List.mem_singleton.mp hx];exact QY h
 .unfold pl;rw[dC,show sg ("places ":Str)=sg ("places":Str)++[32]by decide,E2];rfl
structure Sm(k:Nat)(d:Ua):Prop where
 eq:bp d d=true
 lay:PyData.canLay0 d=true
 dp:d.depth<=k
def yX(i:Int):Sm 0 (.int i):=⟨by show(i==i)=true;exact Y8 i,rfl,A7 _⟩
theorem aBx:∀{ds:T4},(∀d∈ds,Sm k d)->PyData.eqvAll ds ds=true/\PyData.canLayAll0 ds=true/\PyData.depthAll ds<=k
 |[]=>λ_=>⟨rfl,rfl,E6 _⟩
 |d::ds=>λh=>by
  obtain⟨o,q,t⟩:=aBx (k:=k) (ds:=ds) λx u=>h x<|B1 _ u;obtain⟨A,B,g3⟩:=h d B0;refine⟨?_,?_,Nat.max_le.mpr ⟨g3,t⟩⟩
  .show(bp d d&&PyData.eqvAll ds ds)=true;rw[A,o];rfl
  .show(d.canLay0&&PyData.canLayAll0 ds)=true;rw[B,q];rfl
def DZ{ds:T4}(h:∀d∈ds,Sm k d):Sm (k+1) (.tuple ds):=by
 obtain⟨o,q,t⟩:=aBx h;exact⟨o,q,Nat.succ_le_succ t⟩
def Sm.mono{d:Ua}(h:Sm k d)(l:k<=m):Sm m d:=⟨h.1,h.2,C6 h.3 l⟩
def aDb(t:Tie):Sm 2 (fL false t):=DZ (k:=1) (ds:=[.int t.i,.int t.j,.tuple [.int t.a,.int t.b]]) λd hd=>by
 simp only[List.mem_cons,List.not_mem_nil,or_false]at hd;obtain rfl|rfl|rfl:=hd
 .exact(yX _).mono (by decide)
 .exact(yX _).mono (by decide)
 .refine DZ (k:=0) λd hd=>?_;simp only[List.mem_cons,List.not_mem_nil,or_false]at hd;obtain rfl|rfl:=hd
  .exact yX _
  .exact yX _
def aGQ(ns:T7):Sm 2 (sqK false ns):=(DZ (k:=0) (ds:=ns.map .int) λd hd=>by
 obtain⟨i,_,rfl⟩:=List.mem_map.mp hd;exact yX i).mono (by decide)
def aFK{p:Td}:∀{ps:Tv (Td)},ps≠[]->eY 10 (p::ps)=p++10::eY 10 ps
 |[]=>λh=>absurd rfl h
 |_::_=>λ_=>rfl
theorem aIq:∀ls:Tb,sg (Str.join ""<|ls.map nl)=eY 10 (ls.map sg++[[]])
 |[]=>rfl
 |[l]=>by
  show sg (l++"\n")=_;rw[dC];rfl
 |l::q::ls=>by
  show sg (nl l++""++Str.join "" ((q::ls).map nl))=_;rw[dC,dC,aIq (q::ls)];show sg (l++"\n")++[]++_=eY 10 (sg l::((q::ls).map sg++[[]]));rw[aFK (by simp),dC,D8,E2];rfl
def WU(ls:Tb):sg (Tx ls)=eY 10 (ls.map sg++[[]]):=by
 show sg (Builtin.Str.glued ""<|ls.map nl)=_;rw[J9];exact aIq ls
noncomputable abbrev em:Str:=""
noncomputable abbrev Lns:=Tv (Str×Tb)
def txL(ls:Lns):Str:=Tx (ls.map (·.1))
def yV{ls:Lns}(h:∀p∈ls,sO p.1 p.2):Txt.split (txL ls) ⟨#[10]⟩=ls.map (·.1)++[em]:=by
 refine pH ?_;unfold txL;rw[nX,WU,D0,A0k];refine xR (by simp) λp hp=>?_;obtain hp|hp:=List.mem_append.mp hp
 .obtain⟨l,u,rfl⟩:=List.mem_map.mp hp;obtain⟨q,A,rfl⟩:=List.mem_map.mp u;have k:=h q A;rw[k.is];intro m
  have:∀{o:Tv (Td)},(∀w∈o,10∉w)->10∉eY 32 o:=by
   intro o
   induction o with
   |nil=>simp[eY]
   |cons w o ih=>
    intro t;cases o with
    |nil=>exact t w B0
    |cons v o=>
     show 10∉w++32::eY 32 (v::o);intro m;obtain m|m:=List.mem_append.mp m
     .exact t w B0 m
     .obtain m|m:=List.mem_cons.mp m
      .omega
      .exact ih (λx B=>t x<|B1 _ B) m
  refine this (λw t=>?_) m;obtain⟨v,C,rfl⟩:=List.mem_map.mp t;exact(k.wd v C).2.1
 .rw[List.mem_singleton.mp hp];simp
def pcs(ls:Lns):Tv (Str×MN):=ls.map (λp=>(p.1,[p.2.map sg]))++[(em,[])]
def KB(ls:Lns):(pcs ls).map (·.1)=ls.map (·.1)++[em]:=by
 unfold pcs;rw[D0,B7];rfl
def LX{ls:Lns}(h:∀p∈ls,sO p.1 p.2):∀p∈pcs ls,Ln p.1 p.2:=λp hp=>by
 unfold pcs at hp;obtain hp|hp:=List.mem_append.mp hp
 .obtain⟨q,k,rfl⟩:=List.mem_map.mp hp;exact .inl ⟨q.2,h q k,rfl⟩
 .rw[List.mem_singleton.mp hp];exact .inr ⟨rfl,rfl⟩
def ED(ls:Lns):((pcs ls).map (·.2)).flatten=ls.map λp=>p.2.map sg:=by
 unfold pcs;rw[D0,B7,List.flatten_append];show(ls.map λp=>[p.2.map sg]).flatten++_=_;rw[show([(em,[])]:Tv (Str×MN)).map (·.2)=[[]]from rfl];simp only[List.flatten_cons,List.flatten_nil,List.append_nil]
 induction ls with
 |nil=>rfl
 |cons p ls ih=>rw[B2,O6,ih];rfl
def JS{ls:Lns}(h:∀p∈ls,sO p.1 p.2)(A:ls.length<=200):(txL ls).length<=101000:=by
 show(Builtin.Str.glued "" ((ls.map (·.1)).map nl)).length<=_;rw[J9];refine C6 (S3 _ _) ?_
 have:=vB (n:=501) (ls:=((ls.map (·.1)).map nl).map (·.length)) λk q=>by
  obtain⟨z,t,rfl⟩:=List.mem_map.mp q;obtain⟨l,o,rfl⟩:=List.mem_map.mp t;obtain⟨p,u,rfl⟩:=List.mem_map.mp o;show(p.1++"\n").length<=_;rw[dF,nl1];have:=(h p u).len;omega
 rw[A1,A1,A1]at this;rw[em0];omega
def UN{ls:Lns}(h:said (sg x)=ls.map λp=>p.2.map sg):(sdS x).map (·.1)=ls.map (·.2):=
 ZT (by rw[h,B7];rfl)
def wW{ls:Lns}(h:∀p∈ls,sO p.1 p.2):said (sg<|txL ls)=ls.map λp=>p.2.map sg:=by
 have e:=yL (zs:=ls.map (·.1)++[em]) (by simp)
 have u:sg (Txt.join "\n" (ls.map (·.1)++[em]))=sg (txL ls):=by
  unfold txL;rw[WU];show sg (Builtin.Str.glued "\n" _)=_;rw[J9];have:=xM 10 (ls.map (·.1)++[em]);rw[D0,A0k]at this;exact this
 rw[u]at e;rw[e,<- ED,<- KB,B7];refine U3 List.flatten (O8 λp t=>?_);have k:=(LX h p t).said 0 0;obtain⟨W,q,r⟩|⟨q,r⟩:=LX h p t
 .rw[q.split]at k;show said (sg p.1)=_;rw[<- k,dC,aEZ,q.is];show _=said (jn 0<|W.map sg);congr 1;generalize W.map sg=o
  induction o with
  |nil=>rfl
  |cons w o ih=>
   cases o with
   |nil=>rfl
   |cons v o=>
    show w++32::eY 32 (v::o)=w++List.replicate (0+1) 32++jn 0 (v::o);rw[ih,E2];rfl
 .show said (sg p.1)=p.2;rw[q,r];rfl
def IT{t:Tie}(n40:n<=40)(h:fR t.a t.b=true/\0<=t.i/\t.i<t.j/\t.j<n):RdT t:=by
 obtain⟨k,o,A,B⟩:=h;obtain⟨q,C,u,D⟩:=aNp k
 have g:Int.gcd t.a t.b=1:=by
  unfold fR at k;simp only[Bool.and_eq_true,decide_eq_true_eq,beq_iff_eq]at k;exact k.1.2
 exact⟨⟨o,by omega⟩,⟨by omega,by omega⟩,⟨q,by rw[QU];omega⟩,⟨u,by rw[QU];omega⟩,g⟩
def dW(n:Int)(ts:Tv Tie):Lns:=(pl n,["places",sI n])::ts.map λt=>(gW "tie" t,jB "tie" t)
def EG{n:Int}{ts:Tv Tie}(k:0<=n)(n40:n<=40)(h:∀t∈ts,RdT t):∀p∈dW n ts,sO p.1 p.2:=λp hp=>by
 obtain rfl|hp:=List.mem_cons.mp hp
 .exact YY k (by omega)
 .obtain⟨t,ht,rfl⟩:=List.mem_map.mp hp;exact aBZ (FI (by decide)) (by decide)<|h t ht
def aGn(n:Int)(ts:Tv Tie):(dW n ts).map (·.2)=(["places",sI n]:Tb)::ts.map (jB "tie"):=by
 unfold dW;rw[B2,B7];rfl
def zE(n:Int)(ts:Tv Tie):(dW n ts).map (·.1)=pl n::ts.map (gW "tie"):=by
 unfold dW;rw[B2,B7];rfl
def aOs{M1:Sto}{d:Ua}(h:f γ M=Z (.d d,M1)):dP (aA f aF) γ M=Z (.d (.list [d]),M1):=by
 unfold dP;rw[aH h aP,A2];show(Z [d]).bind _=_;rw[A2];exact A4<|s9 (show(1:Nat)<=9 by decide)
def tE(vs:Tv Tie):dZ vs=(vs.filter big).map (fL false):=rfl
def TV{w:Nat}(k:γ[v]?=Z (Z (.c w)))(o:N[w]?=Z (tI w n vs)):kW "Web" "many" (aB v) γ N=Z (I n,N)/\kW "Web" "ties" (aB v) γ N=Z (.d (.tuple (dZ vs)),N):=by
 have h:objOf "Web" N (.c w)=Z (w,([("many",I n),("ties",.d (.tuple (dZ vs))),("weights",.c (w+2))]:Tu)):=by
  simp only[objOf,o,tI,if_true]
 have e:aB v γ N=Z (.c w,N):=by simp only[aB,k]
 constructor
 .unfold kW;rw[e,A2];dsimp only;rw[h];rfl
 .unfold kW;rw[e,A2];dsimp only;rw[h];rfl
def uO{w:Nat}{vs:Tv Tie}(B:N[w]?=Z (tI w n vs))(q:0<=n)(n40:n<=40)(u:∀t∈vs.filter big,RdT t)(K:(vs.filter big).length<=196):dO [.c w] N=Z (S<|txL<|dW n<|vs.filter big,N):=by
 have t2:=EZ;have A:Bd n:=Bd.of q (by omega);obtain⟨f1,f2⟩:=TV (γ:=[Z (.c w)]) (v:=0) rfl B
 have it:bD (kW "Web" "ties"<|aB 0) [Z (.c w)] N=Z ((vs.filter big).map λt=>.d (fL false t),N):=by
  unfold bD;rw[f2,A2];show(Z<|dZ vs).bind _=_;rw[A2,tE,B7];rfl
 have C:pR [Z (.c w)] N=Z (.d (.list (((vs.filter big).map (gW "tie")).map .str)),N):=yU (by decide) it (λt ht=>(u t ht).bd) (by omega) rfl;have ls:=kX A;have D:Str.empty++("places ":Str)="places ":=Z3 _;have k:("places ":Str).length=7:=by decide
 have E:("places ":Str).length<=ba:=by decide
 have G:(("places ":Str)++sI n).length<=ba:=by rw[dF,k,szl];omega
 have j:jT (gV (fC (.str "places "))<|gV (vT<|kW "Web" "many"<|aB 0) JJ) [Z (.c w)] N=Z (.d (.str (pl n)),N):=by
  simp only[jT,gV,JJ,vT,f1,fC,Option.bind_some,aCk A,D,E,G,if_true];rfl
 obtain⟨L,o⟩:∃L,pl n::(vs.filter big).map (gW "tie")=L:=⟨_,rfl⟩;have fs:=zE n<|vs.filter big;rw[o]at fs;have O:L.length<=197:=by rw[<- o,C0,A1];omega
 have ad:fOp bY (dP<|aA (jT<|gV (fC (.str "places "))<|gV (vT<|kW "Web" "many"<|aB 0) JJ) aF) pR [Z (.c w)] N=Z (.d (.list (L.map .str)),N):=by
  rw[<- o];exact bO (aOs j) C<|wN (by rw[A1,A1];show 1+_<=1000;omega)
 have H:=tD (M:=N) (ls:=L) (n:=500) (λl h=>by
  rw[<- fs]at h;obtain⟨p,I,rfl⟩:=List.mem_map.mp h;exact(EG q n40 u p I).len) (by decide) (by omega) (by omega)
 unfold txL;rw[fs];unfold dO;refine fJ rfl ?_;show oA [Z (.c w)] N=_;unfold oA;simp only[bP,aY (F:=gX) (aH ad aP) H,Option.bind_some]
def UM{ds:T4}(h:∀d∈ds,Sm k d)(t:k<=60):eqX true (.d (.tuple ds)) (.d (.tuple ds)) M=Z (B false,M):=by
 obtain⟨e,l,p⟩:=DZ h
 have s:bo (.tuple ds)=true:=by
  unfold bo;rw[l,C7 (show(PyData.tuple ds).depth<=64 by omega)];rfl
 have o:eqS true (.d (.tuple ds)) (.d (.tuple ds)) M=Y:=rfl
 have q:eqD true (.d (.tuple ds)) (.d (.tuple ds)) M=Z (B false,M):=by
  show(if (bo (.tuple ds)&&bo (.tuple ds))=true then Z (CD.d (.bool (!bp (.tuple ds) (.tuple ds))),M)else Y)=_;rw[s,e];rfl
 simp only[eqX,yF,o,q]
def TQ{f g:TF}{M1 M2:Sto}(h:f γ M=Z (false,M1))(k:g γ M1=Z (false,M2)):gOr f g γ M=Z (false,M2):=by
 simp only[gOr,h,k,Option.bind_some,Bool.false_eq_true,if_false]
def ne_str:eqX true (S x) (S x) M=Z (B false,M):=by
 have:eqX true (S x) (S x) M=Z (B (!(x==x)),M):=rfl;rw[this,Y8];rfl
def HK{M:Sto}(h:x.length<=1000000)(e:(sdS x).map (·.1)=((["places",sI n]:Tb)::us.map (jB "tie")))(ok:OkB n us)(n1:1<=n)(n40:n<=40)(pm:us.Perm ts)(pw:ts.Pairwise Tie.lt):
 eC [S x] M=Z (.c M.length,M++tL M.length n us ts):=by
 obtain⟨vs,k,o,r⟩:=RX (M:=M) h e (λt ht=>IT n40<|ok.1 t ht) ok n1 n40;have:vs=ts:=uK o pw<|k.trans pm;rw[this]at r;exact r
def YC(vs:Tv Tie):(vs.filter big).filter big=vs.filter big:=by rw[List.filter_filter];simp
def YW{w:Nat}(Q:γ[5]?=Z (Z (.c w)))(G:γ[6]?=Z (Z<|S<|txL<|dW n<|vs.filter big))(R:γ[7]?=Z (Z<|S x))(T:8<γ.length)(H:M[w]?=Z (tI w n vs))(U:x.length<=1000000)(e:(sdS x).map (·.1)=((["places",sI n]:Tb)::us.map (jB "tie")))
 (ok:OkB n us) (n1:1<=n) (n40:n<=40) (pm:us.Perm (vs.filter big)) (pw:(vs.filter big).Pairwise Tie.lt) (V:us.length<=196):tH γ M=Z (.nx (γ.set 8<|Z (.c M.length)),M++tL M.length n us (vs.filter big)):=by
 have rd:=HK (M:=M) U e ok n1 n40 pm pw;obtain⟨ts,h⟩:∃ts,vs.filter big=ts:=⟨_,rfl⟩;have u:ts.filter big=ts:=by rw[<- h];exact YC vs
 have W:dZ ts=dZ vs:=by rw[tE,tE,u,h]
 have rt:∀t∈ts,RdT t:=λt ht=>IT n40<|ok.1 t<|pm.mem_iff.mpr (by rw[h];exact ht);have lt:ts.length<=196:=by rw[<- h,<- pm.length_eq];exact V
 rw[h]at G rd ⊢
 have C:aZ (aL eC<|aA (aB 7) aF) (br 8) γ M=Z (.nx (γ.set 8<|Z (.c M.length)),M++tL M.length n us ts):=
  bS (aY (F:=eC) (aH (show aB 7 γ M=Z (S x,M)by simp only[aB,R]) aP) rd)
 obtain⟨N,D⟩:∃N,M++tL M.length n us ts=N:=⟨_,rfl⟩;obtain⟨o,A⟩:∃o,γ.set 8 (Z (.c M.length))=o:=⟨_,rfl⟩;have E:N[w]?=Z (tI w n vs):=by rw[<- D,J0 (List.getElem?_eq_some_iff.mp H).1];exact H
 have B:N[M.length]?=Z (tI M.length n ts):=by rw[<- D,D7<|A7 _,O2];rfl
 have X:o[5]?=Z (Z (.c w)):=by rw[<- A,B6 (by decide)];exact Q
 have d6:o[6]?=Z (Z<|S<|txL<|dW n ts):=by rw[<- A,B6 (by decide)];exact G
 have K:o[8]?=Z (Z (.c M.length)):=by rw[<- A,C3 T]
 obtain⟨f1,f2⟩:=TV K B;obtain⟨g1,g2⟩:=TV X E;rw[W]at f2
 have O:∀v,kW "Web" "many" (aB v) o N=Z (I n,N)->kW "Web" "ties" (aB v) o N=Z (.d (.tuple (dZ vs)),N)->eF (aA (kW "Web" "many"<|aB v)<|aA (kW "Web" "ties"<|aB v) aF) o N=Z (.d (.tuple [.int n,.tuple (dZ vs)]),N):=λv p q=>
  jI (aH p<|aH q aP) rfl (by show 2<=500;decide)
 have sm:∀d∈[PyData.int n,.tuple (dZ vs)],Sm 3 d:=λd hd=>by
  simp only[List.mem_cons,List.not_mem_nil,or_false]at hd;obtain rfl|rfl:=hd
  .exact(yX _).mono (by decide)
  .refine DZ (k:=2) λd hd=>?_;rw[tE]at hd;obtain⟨t,_,rfl⟩:=List.mem_map.mp hd;exact aDb t
 have c1:=fT<|bO (k:=eqX true) (O 8 f1 f2) (O 5 g1 g2)<|UM (M:=N) sm (by decide);have P:=uO B (by omega) n40 (by rw[u];exact rt) (by rw[u];exact lt);rw[u]at P;have c2:=fT<|bO (k:=eqX true) (aY (F:=dO) (aH (show aB 8 o N=Z (.c M.length,N)by simp only[aB,K]) aP) P) (show aB 6 o N=Z (S<|txL<|dW n ts,N)by simp only[aB,d6])<|ne_str (M:=N);rw[D]at C ⊢;rw[A]at C ⊢;unfold tH;rw[aV C,qB<|TQ c1 c2];rfl
structure Kd(Fs Fr:FN)(hd:Ua)(ls:Lns):Prop where
 sh:∀M,Fs [.d hd] M=Z (S<|txL ls,M)
 rd:∀x M,x.length<=1000000->(sdS x).map (·.1)=ls.map (·.2)->Fr [S x] M=Z (.d hd,M)
 ok:∀p∈ls,sO p.1 p.2
 ln:ls.length<=100
 ne:∀M,eqX true (.d hd) (.d hd) M=Z (B false,M)
def tO(w:Str)(ts:Tv Tie):Lns:=ts.map λt=>(gW w t,jB w t)
def aAM(w:Str)(ts:Tv Tie):(tO w ts).map (·.1)=ts.map (gW w):=by unfold tO;rw[B7];rfl
def aHw(w:Str)(ts:Tv Tie):(tO w ts).map (·.2)=ts.map (jB w):=by unfold tO;rw[B7];rfl
def WK{Fr:FN}{ts:Tv Tie}(h:Wd w)(o:w.length<=100)(q:∀t∈ts,RdT t)(u:ts.length<=100)(A:∀M,Fs [.d (.tuple (ts.map<|fL false))] M=Z (S<|Tx<|ts.map<|gW w,M))
 (B:∀x M,x.length<=1000000->(sdS x).map (·.1)=ts.map (jB w)->Fr [S x] M=Z (.d (.tuple (ts.map<|fL false)),M)):Kd Fs Fr (.tuple (ts.map<|fL false)) (tO w ts):=by
 refine⟨λM=>?_,λx M a b=>B x M a (by rw[b,aHw]),λp C=>?_,by unfold tO;rw[A1];exact u,λM=>UM (k:=2) (λd hd=>?_) (by decide)⟩
 .unfold txL;rw[aAM];exact A M
 .obtain⟨t,ht,rfl⟩:=List.mem_map.mp C;exact aBZ h o<|q t ht
 .obtain⟨t,_,rfl⟩:=List.mem_map.mp hd;exact aDb t
def aGb{ts:Tv Tie}(h:∀t∈ts,RdT t)(k:ts.length<=100):Kd eB cU (.tuple (ts.map<|fL false)) (tO "branch" ts):=
 WK (FI (by decide)) (by decide) h k (λM=>OZ rfl (λt ht=>(h t ht).bd) (by omega)) λx M a b=>NO a b h (by omega)
def aHH{ts:Tv Tie}(h:∀t∈ts,RdT t)(k:ts.length<=100):Kd eA cS (.tuple (ts.map<|fL false)) (tO "flow" ts):=
 WK (FI (by decide)) (by decide) h k (λM=>OR rfl (λt ht=>(h t ht).bd) (by omega)) λx M a b=>QF a b h (by omega)
def aDt{ss:T0}(h:∀s∈ss,RdS s)(o:ss.length<=100):Kd dB cG (.tuple (ss.map<|sqK false)) (ss.map λs=>(wL s,lK s)):=by
 have t2:=EZ;refine⟨λM=>?_,λx M a b=>JH a (by rw[b,B7];rfl) h (by omega),λp t=>?_,by rw[A1];exact o,λM=>UM (k:=2) (λd hd=>?_) (by decide)⟩
 .have:=KH (x:=.tuple (ss.map<|sqK false)) (k:=false) (ss:=ss) (M:=M) rfl (λs hs=>⟨λk q=>Bd.of ((h s hs).2.1 k q).1 (by have:=((h s hs).2.1 k q).2;omega),(h s hs).2.2⟩) o;rw[this];unfold txL;rw[B7];rfl
 .obtain⟨s,hs,rfl⟩:=List.mem_map.mp t;exact aIa<|h s hs
 .obtain⟨s,_,rfl⟩:=List.mem_map.mp hd;exact aGQ s
def MC{i:Nat}{tbl:Tv (Str×FN)}{M1:Sto}{r:Tw (CD×Sto)}(k:γ[i]?=Z (Z (.g nm)))(ht:tbl.lookup nm=Z F)(ha:fa γ M=Z (xs,M1))(h:F xs M1=r):kO i tbl fa γ M=r:=by
 unfold kO;simp only[k,ht,Option.bind_some,aL,ha,h]
noncomputable abbrev tS:Tv (Str×FN):=[("show_tree",eB),("show_flow",eA),("show_sides",dB)]
noncomputable abbrev tR:Tv (Str×FN):=[("read_tree",cU),("read_flow",cS),("read_sides",cG)]
def aAD{Fr:FN}{ns:Str}(k:Kd Fs Fr hd ls)(K:γ[1]?=Z (Z (.c c)))(O:6<γ.length)(hs:γ[13]?=Z (Z (.g ns)))(P:γ[14]?=Z (Z (.g nr)))(q:γ[15]?=Z (Z (.d hd)))(es:tS.lookup ns=Z Fs)(E:tR.lookup nr=Z Fr)(dk:Dk M c (m+ls.length+1)):
 ∃M',pX γ M=Z (.nx (γ.set 6<|Z<|S<|txL ls),M')/\Dk M' c m/\Ex c M M':=by
 have xl:=JS k.ok (by have:=k.ln;omega)
 have G:aZ (kO 13 tS<|aA (aB 15) aF) (br 6) γ M=Z (.nx (γ.set 6<|Z<|S<|txL ls),M):=
  bS (MC hs es (aH (show aB 15 γ M=Z (.d hd,M)by simp only[aB,q]) aP)<|k.sh M)
 obtain⟨h,o⟩:∃h,γ.set 6 (Z<|S<|txL ls)=h:=⟨_,rfl⟩;have Q:h[1]?=Z (Z (.c c)):=by rw[<- o,B6 (by decide)];exact K
 have A:h[13]?=Z (Z (.g ns)):=by rw[<- o,B6 (by decide)];exact hs
 have t:h[14]?=Z (Z (.g nr)):=by rw[<- o,B6 (by decide)];exact P
 have B:h[15]?=Z (Z (.d hd)):=by rw[<- o,B6 (by decide)];exact q
 have R:h[6]?=Z (Z<|S<|txL ls):=by rw[<- o,C3 O]
 have u:∀N,aB 15 h N=Z (.d hd,N):=λN=>by simp only[aB,B]
 have C:∀N,aB 6 h N=Z (S<|txL ls,N):=λN=>by simp only[aB,R]
 have T:∀N,aB 1 h N=Z (.c c,N):=λN=>by simp only[aB,Q]
 have D:∀N,Fr [S (txL ls)] N=Z (.d hd,N):=λN=>k.rd _ N (by omega)<|UN<|wW k.ok;have H:∀N,kO 14 tR (aA (aB 6) aF) h N=Z (.d hd,N):=λN=>MC t E (aH (C N) aP)<|D N;have U:=fT<|bO (k:=eqX true) (H M) (u M)<|k.ne M;have pl:(pcs ls).length=ls.length+1:=by unfold pcs;rw[B9,A1];rfl
 obtain⟨y,M1,V,I,W,X,ex⟩:=YS (c:=c) (m:=m) (x:=txL ls) (ls:=pcs ls) (M:=M) (by rw[KB];exact yV k.ok) (LX k.ok) (by unfold pcs;simp) (by rw[pl];have:=k.ln;omega) (by omega) (by rw[pl];exact dk);rw[ED]at I;have lo:aL cF (aA (aB 1)<|aA (aB 6) aF) h M=Z (S y,M1):=aY (F:=cF) (aH (T M)<|aH (C M) aP) V;have r2:kO 14 tR (aA (aL cF<|aA (aB 1)<|aA (aB 6) aF) aF) h M=Z (.d hd,M1):=MC t E (aH lo aP)<|k.rd y M1 W<|UN I;have c2:=fT<|uB (k:=eqX true) r2 (u M1)<|k.ne M1;have s3:kO 13 tS (aA (kO 14 tR<|aA (aB 6) aF) aF) h M1=Z (S<|txL ls,M1):=MC A es (aH (H M1) aP)<|k.sh M1;have c3:=fT<|bO (k:=eqX true) s3 (C M1)<|ne_str (M:=M1);refine⟨M1,?_,X,ex⟩;rw[o]at G ⊢;unfold pX;rw[aV G,qB<|TQ U<|TQ c2 c3];rfl
noncomputable def gT(i j:Nat):Tie:=match (i+j) % 4 with
 |0=>⟨i,j,1,1⟩
 |1=>⟨i,j,1,2⟩
 |2=>⟨i,j,1000000000000,1⟩
 |_=>⟨i,j,13,55440⟩
def IB(i j:Nat):(gT i j).i=i/\(gT i j).j=j/\fR (gT i j).a (gT i j).b=true/\([PyData.tuple [.int 1,.int 1],.tuple [.int 1,.int 2],.tuple [.int 1000000000000,.int 1],.tuple [.int 13,.int 55440]])[(i+j) % 4]?=Z (.tuple [.int (gT i j).a,.int (gT i j).b]):=by
 have h:(i+j) % 4=0\/(i+j) % 4=1\/(i+j) % 4=2\/(i+j) % 4=3:=by omega
 unfold gT;obtain h|h|h|h:=h
 .rw[h];exact⟨rfl,rfl,(by decide:fR 1 1=true),rfl⟩
 .rw[h];exact⟨rfl,rfl,(by decide:fR 1 2=true),rfl⟩
 .rw[h];exact⟨rfl,rfl,(by decide:fR 1000000000000 1=true),rfl⟩
 .rw[h];exact⟨rfl,rfl,(by decide:fR 13 55440=true),rfl⟩
def gR(i:Nat):Tv Tie:=(List.range (39-i)).map λk=>gT i (i+1+k)
def gA(n:Nat):Tv Tie:=((List.range n).map gR).flatten
def NC(n:Nat):gA (n+1)=gA n++gR n:=by
 unfold gA;rw[A0c,D0,List.flatten_append];simp
theorem aIC:∀{k n:Nat},k<=n->(gA k).length<=(gA n).length
 |k,0=>λh=>by rw[Nat.le_zero.mp h];exact A7 _
 |k,n+1=>λh=>by
  by_cases q:k=n+1
  .rw[q];exact A7 _
  .rw[NC,B9];have:=aIC (k:=k) (n:=n) (by omega);omega
def aCB:(gA 40).length=780:=by decide +kernel
def aLk{i:Nat}{t:Tie}(hi:i<40)(h:t∈gR i):fR t.a t.b=true/\t.i=i/\(i:Int)<t.j/\t.j<40:=by
 obtain⟨k,o,rfl⟩:=List.mem_map.mp h;have o:=List.mem_range.mp o;obtain⟨a,b,c,_⟩:=IB i (i+1+k);exact⟨c,a,by rw[b];omega,by rw[b];omega⟩
def aKp{t:Tie}(h:t∈gA 40):fR t.a t.b=true/\0<=t.i/\t.i<t.j/\t.j<40:=by
 obtain⟨l,k,ht⟩:=List.mem_flatten.mp h;obtain⟨i,hi,rfl⟩:=List.mem_map.mp k;have hi:=List.mem_range.mp hi;obtain⟨a,b,c,d⟩:=aLk hi ht;exact⟨a,by omega,by omega,d⟩
def aMy:(gA 40).Pairwise Tie.lt:=by
 unfold gA;refine List.pairwise_flatten.mpr ⟨λl o=>?_,?_⟩
 .obtain⟨i,hi,rfl⟩:=List.mem_map.mp o;unfold gR;rw[List.pairwise_map];refine List.pairwise_lt_range.imp λ{a b} h=>?_;obtain⟨q,t,_,_⟩:=IB i (i+1+a);obtain⟨u,A,_,_⟩:=IB i (i+1+b);exact .inr ⟨by rw[q,u],by rw[t,A];omega⟩
 .rw[List.pairwise_map];refine List.pairwise_lt_range.imp λ{a b} h x B y C=>?_;obtain⟨k,_,rfl⟩:=List.mem_map.mp B;obtain⟨D,_,rfl⟩:=List.mem_map.mp C;exact .inl (by rw[(IB a _).1,(IB b _).1];omega)
theorem aCc{i:Nat}{M:Sto}:∀(n k:Nat)(g:Te),lcF (br 1) eP (eF<|aA (aB 0)<|aA (aB 1)<|aA (fOp ixF lC<|fOp bB (fOp bY (aB 0)<|aB 1)<|fC (.int 4)) aF) (gO ((i+1+k:Nat):Int) n) [Z (I (i:Nat)),g] M=Z (((List.range' k n).map λk=>.tuple (f2<|gT i (i+1+k))).map .d,M)
 |0=>λk g=>rfl
 |n+1=>λk g=>by
  obtain⟨q,t,_,u⟩:=IB i (i+1+k)
  have ix:ixF (.d (.list [.tuple [.int 1,.int 1],.tuple [.int 1,.int 2],.tuple [.int 1000000000000,.int 1],.tuple [.int 13,.int 55440]])) (I ((((i:Nat):Int)+((i+1+k:Nat):Int)) % 4)) M=Z (.d (.tuple [.int (gT i (i+1+k)).a,.int (gT i (i+1+k)).b]),M):=by
   rw[show((i:Nat):Int)+((i+1+k:Nat):Int)=((i+(i+1+k):Nat):Int)by omega,show(((i+(i+1+k):Nat):Int)) % 4=(((i+(i+1+k)) % 4:Nat):Int)by omega];show(atI [PyData.tuple [.int 1,.int 1],.tuple [.int 1,.int 2],.tuple [.int 1000000000000,.int 1],.tuple [.int 13,.int 55440]] _).bind _=_;rw[jY u];rfl
  have h:aB 0 [Z (I (i:Nat)),Z<|I ((i+1+k:Nat):Int)] M=Z (I (i:Nat),M):=rfl;have o:aB 1 [Z (I (i:Nat)),Z<|I ((i+1+k:Nat):Int)] M=Z (I ((i+1+k:Nat):Int),M):=rfl;have e:=jI (aH h<|aH o<|aH (bO (k:=ixF) (AZ [Z (I (i:Nat)),Z<|I ((i+1+k:Nat):Int)] M) (bN (k:=bB) (bN (k:=bY) h o rO) (bL (i:=4))<|dJ (by decide)) ix) aP) rfl (by show 3<=500;decide);have ih:=aCc (i:=i) (M:=M) n (k+1)<|Z<|I ((i+1+k:Nat):Int);rw[show((i+1+(k+1):Nat):Int)=((i+1+k:Nat):Int)+1 by omega]at ih;rw[rM];show lcF _ _ _ (I ((i+1+k:Nat):Int)::_) _ _=_
  conv=>lhs;unfold lcF
  rw[show br 1 (I ((i+1+k:Nat):Int)) [Z (I (i:Nat)),g] M=Z ([Z (I (i:Nat)),Z<|I ((i+1+k:Nat):Int)],M)from rfl,A2];rw[show eP [Z (I (i:Nat)),Z<|I ((i+1+k:Nat):Int)] M=Z (true,M)from rfl,A2];dsimp only;rw[A4 rfl,e,A2];dsimp only;rw[ih,A2];rw[List.range'_succ,B2,B2];unfold f2;rw[q,t]
def aAR{i:Nat}{L:CD}(hi:i<40):kR [Z (.c c),Z<|I z,Z L,Z<|I (i:Nat)] M=Z (.d (.list (bG<|gR i)),M):=by
 have it:HI (aA (fOp bY (aB 3)<|fC (.int 1))<|aA (fC (.int 40)) aF) [Z (.c c),Z<|I z,Z L,Z<|I (i:Nat)] M=Z (gO ((i+1+0:Nat):Int) (39-i),M):=by
  have:=aGD (i:=(i:Nat)+1) (j:=40) (aH (bN (k:=bY) (show aB 3 [Z (.c c),Z<|I z,Z L,Z<|I (i:Nat)] M=Z (I (i:Nat),M)from rfl) (bL (i:=1)) rO)<|aH (bL (i:=40)) aP) (uF (by omega) (by omega))<|uF (by omega) (by omega);rw[this,show((40:Int)-((i:Nat)+1)).toNat=39-i by omega];rfl
 have h:(gO ((i+1+0:Nat):Int) (39-i)).length<=1000:=by rw[BI];omega
 have o:((List.range' 0 (39-i)).map λk=>PyData.tuple<|f2<|gT i (i+1+k))=bG (gR i):=by
  unfold bG gR;rw[B7,List.range_eq_range'];rfl
 unfold kR;refine iN it h ?_ (by unfold bG gR;rw[A1,A1,Y2];omega);rw[show lJ [Z 3,Y] [Z (CD.c c),Z<|I z,Z L,Z<|I (i:Nat)]=[Z (I (i:Nat)),Y]from rfl,aCc (39-i) 0 Y,o]
noncomputable def gP(z:Int)(k:Nat):Bool:=((k:Int)*(1+2*(z % 50))+z / 50) % 4==0
def aGc(z:Int)(m:Nat):(([4*m,4*m+1,4*m+2,4*m+3]:Td).filter (gP z)).length<=1:=by
 obtain⟨q,E⟩:∃q,z % 50=q:=⟨_,rfl⟩;obtain⟨s,hs⟩:∃s,z / 50=s:=⟨_,rfl⟩;obtain⟨u,G⟩:∃u:Int,(m:Int)*(1+2*q)=u:=⟨_,rfl⟩
 have e:∀r:Nat,gP z (4*m+r)=((4*u+(r:Int)*(1+2*q)+s) % 4==0):=λr=>by
  unfold gP;rw[E,hs,<- G];congr 2;rw[Int.natCast_add,Int.natCast_mul,Int.add_mul,Int.mul_assoc];rfl
 have o:=e 0;have H:=e 1;have I:=e 2;have K:=e 3;rw[Nat.add_zero]at o;have t:∀{b:Bool}{x:Int},b=(x % 4==0)->b=true->x % 4=0:=λh k=>by rw[h]at k;exact eq_of_beq k
 cases A:gP z (4*m)<;>cases B:gP z (4*m+1)<;>cases C:gP z (4*m+2)<;>cases D:gP z (4*m+3)<;>simp only[List.filter_cons,List.filter_nil,A,B,C,D,if_true,if_false,Bool.false_eq_true,List.length_cons,List.length_nil]<;>first|omega|(exfalso;(try have O:=t o A);(try have P:=t H B);(try have Q:=t I C);(try have g3:=t K D);omega)
theorem aCW(z:Int):∀m:Nat,((List.range (4*m)).filter (gP z)).length<=m
 |0=>A7 _
 |m+1=>by
  have ih:=aCW z m;have f:=aGc z m;rw[show 4*(m+1)=4*m+1+1+1+1 by omega,A0c,A0c,A0c,A0c,E2,E2,E2,List.filter_append,B9];exact Nat.add_le_add ih f
theorem aIE{z:Int}{us:Tv Tie}{L:Ua}{M:Sto}(t:L=.list (bG us))(B:0<=z)(C:z<2147483647):∀(n k:Nat)(g:Te),k+n<=us.length->us.length<=1000->
 lcF (br 2) (gB<|fOp (eqX false) (fOp bB (fOp bY (fOp mR (aB 2)<|fOp bY (fC (.int 1))<|fOp mR (fC (.int 2))<|fOp bB (aB 1)<|fC (.int 50))<|fOp bR (aB 1)<|fC (.int 50))<|fC (.int 4))<|fC (.int 0)) (fOp ixF (aB 0)<|aB 2) (gO (k:Nat) n) [Z (.d L),Z<|I z,g] M=Z ((((List.range' k n).filter (gP z)).map λq=>.tuple (f2<|us.getD q t0)).map .d,M)
 |0=>λk g _ _=>rfl
 |n+1=>λk g h D=>by
  have ih:=aIE (M:=M) t B C n (k+1) (Z<|I (k:Nat)) (by omega) D;rw[show((k+1:Nat):Int)=(k:Nat)+1 by omega]at ih;have E:us[k]?=Z (us.getD k t0):=by rw[JI (by omega),C4 (by omega)]
  obtain⟨γ,o⟩:∃γ:Ga,[Z (CD.d L),Z<|I z,Z<|I (k:Nat)]=γ:=⟨_,rfl⟩;have G:aB 0 γ M=Z (.d L,M):=by rw[<- o];rfl
  have u:aB 1 γ M=Z (I z,M):=by rw[<- o];rfl
  have A:aB 2 γ M=Z (I (k:Nat),M):=by rw[<- o];rfl
  have H:=bN (k:=mR) (bL (i:=2) (γ:=γ) (M:=M)) (bN (k:=bB) u (bL (i:=50))<|dJ (by decide))<|YA (by omega);have K:=bN (k:=mR) A (bN (k:=bY) (bL (i:=1)) H rO)<|YA (by omega);have c:=fT<|bO (k:=eqX false) (bN (k:=bB) (bN (k:=bY) K (bN (k:=bR) u (bL (i:=50))<|tQ (by decide) (by decide)) rO) (bL (i:=4))<|dJ (by decide)) (bL (i:=0)) MM
  have e:fOp ixF (aB 0) (aB 2) γ M=Z (.d (.tuple (f2<|us.getD k t0)),M):=bO (k:=ixF) G A (by
   rw[t];show(atI (bG us) (k:Nat)).bind _=_;rw[jY (show(bG us)[k]?=Z (.tuple (f2 (us.getD k t0)))by unfold bG;rw[D3,E];rfl)];rfl)
  rw[rM]
  conv=>lhs;unfold lcF
  rw[show br 2 (I (k:Nat)) [Z (CD.d L),Z<|I z,g] M=Z (γ,M)by rw[<- o];rfl,A2];dsimp only;rw[c,A2];dsimp only;rw[o]at ih;rw[List.range'_succ,List.filter_cons];cases b:gP z k with
  |true=>
   rw[show((((k:Nat):Int)*(1+2*(z % 50))+z / 50) % 4==0)=true from b,A4 rfl,e,A2];dsimp only;rw[ih,A2,A4 rfl];rfl
  |false=>
   rw[show((((k:Nat):Int)*(1+2*(z % 50))+z / 50) % 4==0)=false from b,A5 A8,ih,A5 A8]
def aGU(dk:Dk M c (m+1)):∃(vs:Tv Tie)(M':Sto),fS [.c c] M=Z (.d (.list (bG vs)),M')/\(∀t∈vs,fR t.a t.b=true/\0<=t.i/\t.i<t.j/\t.j<40)/\vs.Pairwise Tie.lt/\vs.length<=196/\Dk M' c m:=by
 obtain⟨z,M1,D,E,S,H,K⟩:=dk.pop;have O:aZ (aX "list" dU (aB 0) aF) (br 1) [Z (.c c),Y,Y,Y] M=Z (.nx [Z (.c c),Z<|I z,Y,Y],M1):=bS<|pop_at rfl dk.ty D
 have P:aZ (dP aF) (br 2) [Z (.c c),Z<|I z,Y,Y] M1=Z (.nx [Z (.c c),Z<|I z,Z (.d (.list (bG<|gA 0))),Y],M1):=bS (by
  unfold dP;rw[aP,A2];show(Z []).bind _=_;rw[A2];exact A4 (E6 _))
 have Q:fA (aA (fC (.int 40)) aF) [Z (.c c),Z<|I z,Z (.d (.list (bG<|gA 0))),Y] M1=Z (gO ((0:Nat):Int) 40,M1):=yT (J:=40) rfl<|uF (by decide) (by decide)
 obtain⟨γ',M2,u,rfl,g3,rfl⟩:=wV (g:=br 3) (b:=qH) (n:=40) (Inv:=λk γ N=>N=M1/\∃g3,γ=[Z (.c c),Z<|I z,Z (.d (.list (bG<|gA k))),g3]) (λk A γ N i=>by
  obtain⟨rfl,g3,rfl⟩:=i;refine⟨[Z (.c c),Z<|I z,Z (.d (.list (bG<|gA k))),Z<|I (k:Nat)],_,N,rfl,bS<|bO (k:=bY) (show aB 2 [Z (.c c),Z<|I z,Z (.d (.list (bG<|gA k))),Z<|I (k:Nat)] N=Z (.d (.list (bG<|gA k)),N)from rfl) (aAR A)<|wN ?_,rfl,Z<|I (k:Nat),?_⟩
  .unfold bG;rw[A1,A1,<- B9,<- NC];have:=aIC (k:=k+1) (n:=40) A;rw[aCB]at this;omega
  .unfold bG;rw[NC,D0];rfl) 40 0 _ M1 rfl ⟨rfl,Y,rfl⟩
 obtain⟨G,o⟩:∃G,gA 40=G:=⟨_,rfl⟩;have B:G.length=780:=by rw[<- o];exact aCB
 rw[o]at u;obtain⟨vs,h⟩:∃vs,(((List.range 780).filter (gP z)).map λq=>G.getD q t0)=vs:=⟨_,rfl⟩
 have sub:vs.Sublist G:=by
  have:=(List.filter_sublist (p:=gP z) (l:=List.range G.length)).map λq=>G.getD q t0;rw[IP,B,h]at this;exact this
 have vl:vs.length<=195:=by
  rw[<- h,A1];exact aCW z 195
 have it:fA (aA (aL iA<|aA (aB 2) aF) aF) [Z (.c c),Z<|I z,Z (.d (.list (bG G))),g3] M2=Z (gO ((0:Nat):Int) 780,M2):=by
  have ln:iA [.d (.list (bG G))] M2=Z (I 780,M2):=by
   show Z (I ((bG G).length:Nat),M2)=_;unfold bG;rw[A1,B];rfl
  exact yT (J:=780) (aH (aY (F:=iA) (aH (show aB 2 [Z (.c c),Z<|I z,Z (.d (.list (bG G))),g3] M2=Z (.d (.list (bG G)),M2)from rfl) aP) ln) aP)<|uF (by decide) (by decide)
 have R:lB [Z (.c c),Z<|I z,Z (.d (.list (bG G))),g3] M2=Z (.d (.list (bG vs)),M2):=by
  have C:=aIE (M:=M2) (us:=G) (L:=.list (bG G)) rfl H K 780 0 Y (by omega) (by omega)
  have e:(((List.range' 0 780).filter (gP z)).map λq=>PyData.tuple<|f2<|G.getD q t0)=bG vs:=by
   unfold bG;rw[<- h,B7,List.range_eq_range'];rfl
  rw[e]at C;unfold lB;exact iN it (by rw[BI];decide) C (by unfold bG;rw[A1];omega)
 refine⟨vs,M2,?_,λt ht=>aKp (by rw[o];exact sub.subset ht),List.Pairwise.sublist sub (by rw[<- o];exact aMy),by omega,E⟩;unfold fS;refine fJ rfl ?_;show jX [Z (.c c),Y,Y,Y] M=_;unfold jX;rw[aV O,aV P,aV<|sH Q u];simp only[bP,R,Option.bind_some]
def yY{k:F2}{M1 M2:Sto}{a b c:CD}(o:f γ M=Z (a,M1))(q:g γ M1=Z (b,M2))(h:k a b M2=Z (c,M2)):fOp k f g γ M=Z (c,M2):=by
 simp only[fOp,o,q,Option.bind_some,h]
abbrev Gf(s0:Te)(g1 g2 g3 g4:Te):Ga:=[s0,g1,g2,g3,g4,Y,Y,Y,Y,Y,Y,Y,Y,Y,Y,Y]
def aMw{f1 f2:EF}{M1:Sto}{c d:Int}(h:f1 γ M=Z (I a,M))(k:f2 γ M=Z (I b,M))(o:f3 γ M=Z (I c,M))(q:f4 γ M=Z (I d,M1)):dP (aA f1<|aA f2<|aA f3<|aA f4 aF) γ M=Z (.d (.list (([a,b,c,d]:T7).map .int)),M1):=by
 unfold dP;rw[aH h (aH k<|aH o<|aH q aP),A2];show(Z<|([a,b,c,d]:T7).map PyData.int).bind _=_;rw[A2];exact A4<|s9 (show(4:Nat)<=9 by decide)
def front(ns:T7):∃(c:Nat)(n:Int)(b:Bool)(us:Tv Tie)(M:Sto),(∀r:SF,bF (aZ (aL jD<|aA (aB 0)<|aA (fC (.int 800)) aF)<|br 1)
 (bF (aZ (fOp ixF (dP<|aA (fC (.int 1))<|aA (fC (.int 2))<|aA (fC (.int 40))<|aA (fOp bY (fC (.int 2))<|fOp bB (aX "list" dU (aB 1) aF)<|fC (.int 30)) aF)<|fOp bB (aX "list" dU (aB 1) aF)<|fC (.int 4))<|br 2)
 (bF (aZ (fOp (eqX false) (fOp bB (aX "list" dU (aB 1) aF)<|fC (.int 4))<|fC (.int 0))<|br 3)
 (bF (aZ (aL jF<|aA (aB 1)<|aA (aB 2) aF)<|br 4)
 (bF (sIf (vZ (aB 3)) (bF (aZ (fC (.int 40)) (br 2)) (aZ (aL fS (aA (aB 1) aF)) (br 4))) cV) r)))) (Gf (Z (.d (.list (ns.map .int)))) Y Y Y Y) []=r (Gf (Z (.d (.list (ns.map .int)))) (Z (.c c)) (Z (I n)) (Z (B b)) (Z (.d (.list (bG us))))) M) /\
 1<=n/\n<=40/\(∀t∈us,fR t.a t.b=true/\0<=t.i/\t.i<t.j/\t.j<n)/\us.Pairwise Tie.lt/\us.length<=196/\Dk M c 780:=by
 obtain⟨c,A,W,u⟩:=aJC ns;generalize hs:Z (CD.d<|PyData.list<|ns.map PyData.int)=h
 have H:aZ (aL jD<|aA (aB 0)<|aA (fC (.int 800)) aF) (br 1) (Gf h Y Y Y Y) []=Z (.nx (Gf h (Z (.c c)) Y Y Y),A):=by
  subst hs;exact bS<|aY (aH (show aB 0 (Gf (Z<|CD.d<|PyData.list<|ns.map PyData.int) Y Y Y Y) []=Z (.d (.list (ns.map .int)),[])from rfl)<|aH bL aP) W
 have u:Dk A c ((((780+1)+9)+1)+1+1):=u.le (by decide);obtain⟨z,M1,X,K,o1,z0,z1⟩:=u.pop;obtain⟨y,M2,p2,O,o2,y0,y1⟩:=K.pop;obtain⟨n,hn,xn⟩:=EJ (M:=M2) (ns:=[1,2,40,2+z % 30]) (z:=y) (m:=4) (by decide) rfl;have n1:=C8 z (show(30:Int)≠0 by decide);have n2:=C5 z (show(0:Int)<30 by decide)
 have C:1<=n/\n<=40:=by
  simp only[List.mem_cons,List.not_mem_nil,or_false]at hn;obtain rfl|rfl|rfl|rfl:=hn<;>omega
 have P:aZ (fOp ixF (dP<|aA (fC (.int 1))<|aA (fC (.int 2))<|aA (fC (.int 40))<|aA (fOp bY (fC (.int 2))<|fOp bB (aX "list" dU (aB 1) aF)<|fC (.int 30)) aF)<|fOp bB (aX "list" dU (aB 1) aF)<|fC (.int 4)) (br 2) (Gf h (Z (.c c)) Y Y Y) A=Z (.nx (Gf h (Z (.c c)) (Z<|I n) Y Y),M2):=
  bS (yY (aMw (bL (i:=1)) (bL (i:=2)) (bL (i:=40))<|yY (k:=bY) (bL (i:=2)) (uB (k:=bB) (pop_at (γ:=Gf h (Z (.c c)) Y Y Y) (v:=1) rfl u.ty X) (bL (i:=30))<|dJ (by decide)) rO) (uB (k:=bB) (pop_at (γ:=Gf h (Z (.c c)) Y Y Y) (v:=1) rfl K.ty p2) (bL (i:=4))<|dJ (by decide)) xn)
 obtain⟨x,q,p3,d3,o3,x0,x1⟩:=O.pop;obtain⟨b,hb⟩:∃b,(x % 4==0)=b:=⟨_,rfl⟩
 have Q:aZ (fOp (eqX false) (fOp bB (aX "list" dU (aB 1) aF)<|fC (.int 4))<|fC (.int 0)) (br 3) (Gf h (Z (.c c)) (Z<|I n) Y Y) M2=Z (.nx (Gf h (Z (.c c)) (Z<|I n) (Z<|B b) Y),q):=by
  have:=yY (k:=eqX false) (uB (k:=bB) (pop_at (γ:=Gf h (Z (.c c)) (Z<|I n) Y Y) (v:=1) rfl O.ty p3) (bL (i:=4))<|dJ (by decide)) (bL (i:=0)) MM;rw[hb]at this;exact bS this
 obtain⟨vs,o,e4,D,pw,l8,R,_⟩:=aKd (n:=n) C.1 d3;have S:aZ (aL jF<|aA (aB 1)<|aA (aB 2) aF) (br 4) (Gf h (Z (.c c)) (Z<|I n) (Z<|B b) Y) q=Z (.nx (Gf h (Z (.c c)) (Z<|I n) (Z<|B b)<|Z (.d (.list (bG vs)))),o):=bS<|aY (aH (show aB 1 (Gf h (Z (.c c)) (Z<|I n) (Z<|B b) Y) q=Z (.c c,q)from rfl)<|aH (show aB 2 (Gf h (Z (.c c)) (Z<|I n) (Z<|B b) Y) q=Z (I n,q)from rfl) aP) e4;have T:vZ (aB 3) (Gf h (Z (.c c)) (Z<|I n) (Z<|B b)<|Z (.d (.list (bG vs)))) o=Z (b,o):=by cases b<;>rfl
 cases b with
 |false=>
  exact⟨c,n,false,vs,o,λr=>by rw[aV H,aV P,aV Q,aV S,aV<|qB T],C.1,C.2,D.1,pw,by omega,R.le (by decide)⟩
 |true=>
  obtain⟨U,V,e5,E,G,l5,d5⟩:=aGU (c:=c) (m:=780) (M:=o) R
  have a5:sIf (vZ<|aB 3) (bF (aZ (fC (.int 40))<|br 2)<|aZ (aL fS<|aA (aB 1) aF)<|br 4) cV (Gf h (Z (.c c)) (Z<|I n) (Z<|B true)<|Z (.d (.list (bG vs)))) o=Z (.nx (Gf h (Z (.c c)) (Z<|I 40) (Z<|B true)<|Z (.d (.list (bG U)))),V):=by
   rw[aEb T,aV<|bS (show fC (.int 40) (Gf h (Z (.c c)) (Z<|I n) (Z<|B true)<|Z (.d (.list (bG vs)))) o=Z (I 40,o)from rfl)];exact bS<|aY (aH (show aB 1 _ o=Z (.c c,o)from rfl) aP) e5
  exact⟨c,40,true,U,V,λr=>by rw[aV H,aV P,aV Q,aV S,aV a5],by decide,by decide,E,G,l5,d5⟩
def aIH(h:us.Pairwise Tie.lt):(us.map Tie.key).Nodup:=by
 unfold List.Nodup;rw[List.pairwise_map];refine h.imp λ{s t} k q=>?_;have e:([.inl s.i,.inl s.j]:Tv Key)=[.inl t.i,.inl t.j]:=q;injection e with u o
 injection u with u
 injection o with o _
 injection o with o
 unfold Tie.lt at k;omega
structure vC(n:Int)(us:Tv Tie):Prop where
 n1:1<=n
 n40:n<=40
 ok:∀t∈us,fR t.a t.b=true/\0<=t.i/\t.i<t.j/\t.j<n
 pw:us.Pairwise Tie.lt
 len:us.length<=196
def vC.okB(h:vC n us):OkB n us:=⟨h.ok,aIH h.pw,.inr ⟨by have:=h.len;omega,.inl h.pw⟩⟩
def vC.big(h:vC n us):vC n (us.filter big):=⟨h.n1,h.n40,λt ht=>h.ok t (List.mem_filter.mp ht).1,h.pw.filter _,C6 (Y1 ..) h.len⟩
def vC.back(h:vC n us):OkB n us.reverse:=⟨λt ht=>h.ok t<|List.mem_reverse.mp ht,by rw[Y9];exact(List.reverse_perm _).nodup_iff.mpr (aIH h.pw),.inr ⟨by rw[U1];have:=h.len;omega,.inr (List.pairwise_reverse.mpr h.pw)⟩⟩
def vC.rd{us:Tv Tie}(h:vC n us):∀t∈us,RdT t:=λt ht=>IT h.n40<|h.ok t ht
def vC.ln{n:Int}{us:Tv Tie}(h:vC n us):∀p∈dW n us,sO p.1 p.2:=EG (by have:=h.n1;omega) h.n40 h.rd
def yP(n:Int)(us:Tv Tie):(dW n us).length=us.length+1:=by unfold dW;rw[C0,A1]
def VG(x:Str):sg (Txt.slice x Y<|Z (-1))=(sg x).take ((sg x).length-1):=by
 by_cases h:x.length=0
 .have e:sg x=[]:=List.length_eq_zero_iff.mp (by rw[<- str_len];exact h);have l:=Txt.slice_le x Y<|Z (-1);rw[h]at l;have k:sg (Txt.slice x Y<|Z (-1))=[]:=List.length_eq_zero_iff.mp (by rw[<- str_len];omega);rw[e,k];rfl
 .have:=StrLaws.sliceText_to_neg (x:=x) (j:=-1) (by decide) (by omega);show sg (StrLaws.sliceText x Y<|Z (-1))=_;rw[this];show(List.take (-1+(x.length:Int)-0).toNat (List.drop 0<|sg x))=_;rw[List.drop_zero,<- str_len];congr 1;omega
theorem FS:∀{ps:Tv (Td)},ps≠[]->eY 10 (ps++[[]])=eY 10 ps++[10]
 |[]=>λh=>absurd rfl h
 |[p]=>λ_=>rfl
 |p::q::ps=>λ_=>by
  show p++10::eY 10 ((q::ps)++[[]])=(p++10::eY 10 (q::ps))++[10];rw[FS (ps:=q::ps) (by simp),E2];rfl
def aCK{ls:Lns}(ne:ls≠[])(h:∀p∈ls,sO p.1 p.2):said (sg<|Txt.slice (txL ls) Y<|Z (-1))=ls.map λp=>p.2.map sg:=by
 have e:sg (txL ls)=eY 10 ((ls.map (·.1)).map sg)++[10]:=by
  unfold txL;rw[WU,FS λz=>ne<|List.map_eq_nil_iff.mp<|List.map_eq_nil_iff.mp z]
 have s:=wW h;rw[e,wF,NY,D8]at s;rw[VG,e,B9,F0,Nat.add_sub_cancel,List.take_left];exact s
def IC(h:said (sg x)=(dW n us).map λp=>p.2.map sg):(sdS x).map (·.1)=((["places",sI n]:Tb)::us.map (jB "tie")):=by
 rw[UN h,aGn]
abbrev Gg(s0 g1 g2 g3 g4 g5 g6 g7 g8:Te):Ga:=[s0,g1,g2,g3,g4,g5,g6,g7,g8,Y,Y,Y,Y,Y,Y,Y]
def aBV(h:vC n us):aZ (CQ "Web" fP<|aA (aB 2)<|aA (aB 4) aF) (br 5) (Gg s0 (Z (.c c)) (Z<|I n) g3 (Z (.d (.list (bG us)))) Y Y Y Y) M=Z (.nx (Gg s0 (Z (.c c)) (Z<|I n) g3 (Z (.d (.list (bG us)))) (Z (.c M.length)) Y Y Y),M++tL M.length n us us):=by
 obtain⟨vs,pm,pw,k⟩:=YN (M:=M) h.okB h.n1 h.n40;have e:vs=us:=uK pw h.pw pm;rw[e]at k;refine bS ?_;unfold CQ;rw[aH (show aB 2 (Gg s0 (Z (.c c)) (Z<|I n) g3 (Z (.d (.list (bG us)))) Y Y Y Y) M=Z (I n,M)from rfl) (aH (show aB 4 (Gg s0 (Z (.c c)) (Z<|I n) g3 (Z (.d (.list (bG us)))) Y Y Y Y) M=Z (.d (.list (bG us)),M)from rfl) aP),A2];dsimp only;rw[k,A2];rfl
def aDe{g2 g3:Te}{w:Nat}(h:vC n vs)(T:M[w]?=Z (tI w n vs))(ne:w≠c)(dk:Dk M c (m+198)):
 ∃(g7 g8:Te)(M':Sto),xO (bD<|dP<|aA (aB 6)<|aA (aL cF<|aA (aB 1)<|aA (aB 6) aF)<|aA (TX (aB 6) cW<|dX<|fUn vP<|fC (.int 1)) aF) (br 7) tH (Gg s0 (Z (.c c)) g2 g3 g4 (Z (.c w)) (Z<|S<|txL<|dW n<|vs.filter big) Y Y) M=Z (.nx (Gg s0 (Z (.c c)) g2 g3 g4 (Z (.c w)) (Z<|S<|txL<|dW n<|vs.filter big) g7 g8),M')/\Dk M' c m:=by
 have t:=h.big;obtain⟨ts,u⟩:∃ts,vs.filter big=ts:=⟨_,rfl⟩;rw[u]at t;obtain⟨k,A⟩:∃k,txL (dW n ts)=k:=⟨_,rfl⟩;have P:=yP n ts;have U:k.length<=101000:=by rw[<- A];exact JS t.ln (by rw[P];have:=t.len;omega)
 have pl:(pcs<|dW n ts).length=ts.length+2:=by unfold pcs;rw[B9,A1,P];rfl
 obtain⟨y,M1,V,Q,W,X,ex⟩:=YS (c:=c) (m:=m) (x:=k) (ls:=pcs<|dW n ts) (M:=M) (by rw[KB,<- A];exact yV t.ln) (LX t.ln) (by unfold pcs;simp) (by rw[pl];have:=t.len;omega) (by omega)<|dk.le (by rw[pl];have:=t.len;omega);rw[ED]at Q;obtain⟨γ,C⟩:∃γ,Gg s0 (Z (.c c)) g2 g3 g4 (Z (.c w)) (Z<|S k) Y Y=γ:=⟨_,rfl⟩;have O:∀N,aB 6 γ N=Z (S k,N):=λN=>by rw[<- C];rfl
 have v1:aB 1 γ M=Z (.c c,M):=by rw[<- C];rfl
 obtain⟨o,E⟩:∃o,Txt.slice k Y (Z (-1))=o:=⟨_,rfl⟩
 have sl:TX (aB 6) cW (dX<|fUn vP<|fC (.int 1)) γ M1=Z (S o,M1):=by
  unfold TX;rw[O,A2];show(if k.length<=ba then Z (S<|Txt.slice k Y<|Z (-1),M1)else Y)=_;rw[E];exact A4<|szM (by omega)
 have it:bD (dP<|aA (aB 6)<|aA (aL cF<|aA (aB 1)<|aA (aB 6) aF)<|aA (TX (aB 6) cW<|dX<|fUn vP<|fC (.int 1)) aF) γ M=Z ([S k,S y,S o],M1):=by
  unfold bD dP;rw[aH (O M) (aH (aY (F:=cF) (aH v1<|aH (O M) aP) V)<|aH sl aP),A2];show((Z [PyData.str k,.str y,.str o]).bind _).bind _=_;rw[A2];rw[A4 (show([PyData.str k,.str y,.str o]).length<=ba from s9 (by show 3<=9;decide))];rfl
 have H:M1[w]?=Z (tI w n vs):=ex.to T ne;have a0:o.length<=101000:=by rw[<- E];exact C6 (Txt.slice_le ..) U
 have one:∀{x:Str}{g7 g8:Te}{N:Sto},x.length<=1000000->said (sg x)=((dW n ts).map λp=>p.2.map sg)->N[w]?=Z (tI w n vs)->tH (Gg s0 (Z (.c c)) g2 g3 g4 (Z (.c w)) (Z<|S k) (Z<|S x) g8) N=Z (.nx (Gg s0 (Z (.c c)) g2 g3 g4 (Z (.c w)) (Z<|S k) (Z<|S x)<|Z (.c N.length)),N++tL N.length n ts ts):=λ{x g7 g8 N} hx o hN=>by
  have:=YW (γ:=Gg s0 (Z (.c c)) g2 g3 g4 (Z (.c w)) (Z<|S k) (Z<|S x) g8) (M:=N) (w:=w) (n:=n) (us:=ts) (vs:=vs) (x:=x) rfl (by rw[u,A];rfl) rfl (by show 8<16;decide) hN hx (IC o) t.okB t.n1 t.n40 (by rw[u]) (by rw[u];exact t.pw) t.len;rw[u]at this;exact this
 have keep:∀{N L:Sto},N[w]?=Z (tI w n vs)->(N++L)[w]?=Z (tI w n vs):=λ{N L} q=>by rw[J0 (List.getElem?_eq_some_iff.mp q).1];exact q
 obtain⟨B,G⟩:∃B,M1++tL M1.length n ts ts=B:=⟨_,rfl⟩;obtain⟨D,hN3⟩:∃D,B++tL B.length n ts ts=D:=⟨_,rfl⟩;obtain⟨I,K⟩:∃I,D++tL D.length n ts ts=I:=⟨_,rfl⟩;have R:B[w]?=Z (tI w n vs):=by rw[<- G];exact keep H
 have k3:D[w]?=Z (tI w n vs):=by rw[<- hN3];exact keep R
 have d4:Dk I c m:=by rw[<- K,<- hN3,<- G];exact X.app.app.app
 have t1:=one (g7:=Y) (g8:=Y) (x:=k) (by omega) (by rw[<- A];exact wW t.ln) H;have t2:=one (g7:=Y) (g8:=Z (.c M1.length)) (x:=y) W Q R;have t3:=one (g7:=Y) (g8:=Z (.c B.length)) (x:=o) (by omega) (by rw[<- E,<- A];exact aCK (by unfold dW;simp) t.ln) k3;rw[G]at t1;rw[hN3]at t2;rw[K]at t3
 have lp:wR (br 7) tH [S k,S y,S o] γ M1=Z (.nx (Gg s0 (Z (.c c)) g2 g3 g4 (Z (.c w)) (Z<|S k) (Z<|S o)<|Z (.c D.length)),I):=by
  rw[<- C];rw[kN (show br 7 (S k) (Gg s0 (Z (.c c)) g2 g3 g4 (Z (.c w)) (Z<|S k) Y Y) M1=Z (Gg s0 (Z (.c c)) g2 g3 g4 (Z (.c w)) (Z<|S k) (Z<|S k) Y,M1)from rfl) t1];rw[kN (show br 7 (S y) (Gg s0 (Z (.c c)) g2 g3 g4 (Z (.c w)) (Z<|S k) (Z<|S k)<|Z (.c M1.length)) B=Z (Gg s0 (Z (.c c)) g2 g3 g4 (Z (.c w)) (Z<|S k) (Z<|S y)<|Z (.c M1.length),B)from rfl) t2];rw[kN (show br 7 (S o) (Gg s0 (Z (.c c)) g2 g3 g4 (Z (.c w)) (Z<|S k) (Z<|S y)<|Z (.c B.length)) D=Z (Gg s0 (Z (.c c)) g2 g3 g4 (Z (.c w)) (Z<|S k) (Z<|S o)<|Z (.c B.length),D)from rfl) t3];rfl
 refine⟨Z<|S o,Z (.c D.length),I,?_,d4⟩;rw[u,A,C];exact sH it lp
def aBg{h:Type}{xs:Tv h}(k:0<=z):nT xs Y (Z z)=xs.take (min z.toNat xs.length):=by
 unfold nT HT.sIx;dsimp only;rw[A5 (by omega),List.drop_zero,Nat.sub_zero]
def aDr{h:Type}{xs:Tv h}{y:h}:nT (xs++[y]) Y (Z (-1))=xs:=by
 unfold nT HT.sIx;dsimp only;rw[A4 (by decide),List.drop_zero,Nat.sub_zero];have l:(xs++[y]).length=xs.length+1:=by rw[B9];rfl
 rw[l];simp;rw[show((-1:Int)+((xs.length:Int)+1)).toNat=xs.length by omega,List.take_left]
def aHk{W:Tb}(h:sO l W):said (sg l)=[W.map sg]:=by
 have s:=wW (ls:=[(l,W)]) λp k=>by rw[List.mem_singleton.mp k];exact h
 have e:sg (txL [(l,W)])=sg l++10::[]:=by
  unfold txL;rw[WU];rfl
 rw[e,wF,NY,D8]at s;exact s
def VJ{ls:Lns}(ne:ls≠[])(h:∀p∈ls,sO p.1 p.2):said (sg (Txt.join "\n" (ls.map (·.1))))=ls.map λp=>p.2.map sg:=by
 rw[yL λz=>ne<|List.map_eq_nil_iff.mp z,B7]
 induction ls with
 |nil=>exact absurd rfl ne
 |cons p ls ih=>
  rw[B2,B2,O6];show said (sg p.1)++_=_;rw[aHk (h p B0)];cases ls with
  |nil=>rfl
  |cons q ls=>rw[ih (by simp) λr k=>h r<|B1 _ k];rfl
def aDN:dX (fC (.int i)) γ M=Z (Z i,M):=by
 unfold dX;rw[bL,A2];rfl
def aLl:dX (fUn vP<|fC (.int 1)) γ M=Z (Z (-1),M):=rfl
def turned{M:Sto}(h:vC n ts)(u:ts.filter big=ts)(A:γ[6]?=Z (Z<|S<|txL<|dW n ts))(C:9<γ.length):
 ∃M':Sto,(∀r:SF,bF (aZ (fSl (aX "str" iM (aB 6)<|aA (fC (.str "\n")) aF) cW<|dX<|fUn vP<|fC (.int 1))<|br 9)
  (bF (sIf (gB<|fOp (eqX true) (aL dO<|aA (aL eC<|aA (aX "str" kM (fC (.str "\n"))<|aA (fOp bY (fSl (aB 9) cW<|dX<|fC (.int 1))<|DU (aB 9) (dX<|fC (.int 0))<|dX<|fUn vP<|fC (.int 1)) aF) aF) aF)<|aB 6)
   (bP (fC (.bool false))) cV) r) γ M=r (γ.set 9 (Z (.d (.list (((dW n ts).map (·.1)).map .str))))) M')/\∀c m,Dk M c m->Dk M' c m:=by
 obtain⟨q,o⟩:∃q,txL (dW n ts)=q:=⟨_,rfl⟩;have D:=yP n ts;have G:q.length<=101000:=by rw[<- o];exact JS h.ln (by rw[D];have:=h.len;omega)
 rw[o]at A;obtain⟨L,B⟩:∃L,(dW n ts).map (·.1)=L:=⟨_,rfl⟩;have E:∀N,aB 6 γ N=Z (S q,N):=λN=>by simp only[aB,A]
 have sp:aX "str" iM (aB 6) (aA (fC (.str "\n")) aF) γ M=Z (.d (.list (L.map .str++[.str em])),M):=by
  have:=FA (c:=10) (E M) (show fC (.str "\n") γ M=Z (S ⟨#[10]⟩,M)from rfl) (by omega);rw[<- o,yV h.ln,B,D0]at this;exact this
 have a9:aZ (fSl (aX "str" iM (aB 6)<|aA (fC (.str "\n")) aF) cW<|dX<|fUn vP<|fC (.int 1)) (br 9) γ M=Z (.nx (γ.set 9<|Z (.d (.list (L.map .str)))),M):=bS (by
  unfold fSl;rw[sp,A2];show Z (CD.d (.list (nT (L.map .str++[.str em]) Y (Z (-1)))),M)=_;rw[aDr])
 obtain⟨δ,hδ⟩:∃δ,γ.set 9 (Z (.d (.list (L.map .str))))=δ:=⟨_,rfl⟩
 have d6:∀N,aB 6 δ N=Z (S q,N):=λN=>by
  have:δ[6]?=Z (Z<|S q):=by rw[<- hδ,B6 (by decide)];exact A
  simp only[aB,this]
 have d9:aB 9 δ M=Z (.d (.list (L.map .str)),M):=by
  have:δ[9]?=Z (Z (.d (.list (L.map .str)))):=by rw[<- hδ,C3 C]
  simp only[aB,this]
 obtain⟨K,hK⟩:∃K,dW n ts.reverse=K:=⟨_,rfl⟩;have hLc:L=pl n::ts.map (gW "tie"):=by rw[<- B,zE]
 have hKc:K.map (·.1)=pl n::(ts.map<|gW "tie").reverse:=by rw[<- hK,zE,Y9]
 have Kok:∀p∈K,sO p.1 p.2:=by
  rw[<- hK];exact EG (by have:=h.n1;omega) h.n40 λt ht=>h.rd t<|List.mem_reverse.mp ht
 have Kl:K.length=ts.length+1:=by rw[<- hK,yP,U1]
 have s1:fSl (aB 9) cW (dX<|fC (.int 1)) δ M=Z (.d (.list [.str (pl n)]),M):=by
  unfold fSl;rw[d9,A2];dsimp only;rw[show cW δ M=Z (Y,M)from rfl,A2];dsimp only;rw[aDN,A2];show Z (CD.d (.list (nT (L.map .str) Y<|Z 1)),M)=_;rw[aBg (by decide),hLc,B2];rfl
 have s2:DU (aB 9) (dX<|fC (.int 0)) (dX<|fUn vP<|fC (.int 1)) δ M=Z (.d (.list ((ts.map<|gW "tie").reverse.map .str)),M):=by
  unfold DU;rw[d9,A2,aDN,A2,aLl,A2];rw[A4 ⟨rfl,rfl⟩];show Z (CD.d (.list ((L.map .str).drop 1).reverse),M)=_;rw[hLc,B2,List.drop_one,List.tail_cons,Y9]
 have ad:fOp bY (fSl (aB 9) cW<|dX<|fC (.int 1)) (DU (aB 9) (dX<|fC (.int 0))<|dX<|fUn vP<|fC (.int 1)) δ M=Z (.d (.list ((K.map (·.1)).map .str)),M):=by
  have:=bO (k:=bY) s1 s2<|wN (by rw[A1,U1,A1];have:=h.len;show 1+_<=1000;omega);rw[this,hKc,B2];rfl
 have jl:∀l∈K.map (·.1),l.length<=500:=λl hl=>by
  obtain⟨p,hp,rfl⟩:=List.mem_map.mp hl;exact(Kok p hp).len
 have lt:=h.len;have jn:=LZ (sep:="\n") (ls:=K.map (·.1)) (n:=500) (M:=M) jl (by rw[show("\n":Str).length=1 by decide,A1,Kl];omega);obtain⟨x2,hx2⟩:∃x2,Txt.join "\n" (K.map (·.1))=x2:=⟨_,rfl⟩;rw[hx2]at jn
 have xl2:x2.length<=1000000:=by
  rw[<- hx2];show(Builtin.Str.glued "\n" _).length<=_;rw[J9];refine C6 (S3 _ _) ?_
  have:=vB (n:=500) (ls:=(K.map (·.1)).map (·.length)) λk hk=>by
   obtain⟨z,hz,rfl⟩:=List.mem_map.mp hk;exact jl z hz
  rw[A1,A1,Kl]at this;rw[show("\n":Str).length=1 by decide,A1,Kl];omega
 have sd:said (sg x2)=(dW n ts.reverse).map λp=>p.2.map sg:=by
  rw[<- hx2,hK];exact VJ (by rw[<- hK];unfold dW;simp) Kok
 have rd:=HK (M:=M) xl2 (IC sd) h.back h.n1 h.n40 (List.reverse_perm ts) h.pw;obtain⟨N,hN⟩:∃N,M++tL M.length n ts.reverse ts=N:=⟨_,rfl⟩;have hw8:N[M.length]?=Z (tI M.length n ts):=by rw[<- hN,D7<|A7 _,O2];rfl
 have sw:=uO hw8 (by have:=h.n1;omega) h.n40 (by rw[u];exact h.rd) (by rw[u];exact h.len);rw[u,o]at sw;rw[hN]at rd;have jt:=oU (T:="str") (h:=kM) (show fC (.str "\n") δ M=Z (S "\n",M)from rfl) rfl (aH ad aP) jn;have c:=fT<|uB (k:=eqX true) (aY (F:=dO) (aH (aY (F:=eC) (aH jt aP) rd) aP) sw) (d6 N)<|ne_str (M:=N);refine⟨N,λr=>?_,λc m d=>by rw[<- hN];exact d.app⟩;rw[aV a9,B,hδ,aV<|qB c]
def aIU{b:Bool}(h:γ[v]?=Z (Z<|B b)):aL FZ (aA (aB v) aF) γ M=Z (I (if b then 1 else 0),M):=by
 refine aY (F:=FZ) (aH (show aB v γ M=Z (B b,M)by simp only[aB,h]) aP) ?_;cases b<;>rfl
def aIB{f:Nat}(h:M[f]?=Z (.lst (ds.map .d))):cH [.c f] M=Z (.d (.tuple ds),M):=by
 simp only[cH,h,qQ,Option.bind_some]
def aBE{b:Bool}(h:γ[1]?=Z (Z (.c c)))(A:γ[3]?=Z (Z<|B b))(dk:Dk M c (m+180+1+1)):
 ∃(ts:Tv Tie)(M':Sto),aZ (aL cH<|aA (aL iB<|aA (aB 1)<|aA (fOp ixF (dP<|aA (fOp bB (aX "list" dU (aB 1) aF)<|fC (.int 7))<|aA (fOp bY (fC (.int 30))<|fOp bB (aX "list" dU (aB 1) aF)<|fC (.int 31)) aF)<|aL FZ<|aA (aB 3) aF) aF) aF) (br 10) γ M=Z (.nx (γ.set 10<|Z (.d (.tuple (ts.map<|fL false)))),M')/\(∀t∈ts,RdT t)/\ts.length<=60/\Dk M' c m:=by
 obtain⟨z,M1,C,u,T,U,V⟩:=dk.pop;obtain⟨y,M2,D,E,W,X,y1⟩:=u.pop;have G:∀N,aB 1 γ N=Z (.c c,N):=λN=>by simp only[aB,h]
 have l:dP (aA (fOp bB (aX "list" dU (aB 1) aF)<|fC (.int 7))<|aA (fOp bY (fC (.int 30))<|fOp bB (aX "list" dU (aB 1) aF)<|fC (.int 31)) aF) γ M=Z (.d (.list [.int (z % 7),.int (30+y % 31)]),M2):=by
  unfold dP;rw[aH (uB (k:=bB) (pop_at h dk.ty C) (bL (i:=7))<|dJ (by decide)) (aH (yY (k:=bY) (bL (i:=30)) (uB (k:=bB) (pop_at h u.ty D) (bL (i:=31))<|dJ (by decide)) rO) aP),A2];show(Z [PyData.int (z % 7),.int (30+y % 31)]).bind _=_;rw[A2];exact A4<|s9 (show(2:Nat)<=9 by decide)
 have H:=C8 z (show(7:Int)≠0 by decide);have a1:=C5 z (show(0:Int)<7 by decide);have b0:=C8 y (show(31:Int)≠0 by decide);have b1:=C5 y (show(0:Int)<31 by decide)
 obtain⟨n,hn,K,o⟩:∃n,ixF (.d (.list [.int (z % 7),.int (30+y % 31)])) (I (if b then 1 else 0)) M2=Z (I n,M2)/\0<=n/\n<=60:=by
  cases b
  .exact⟨z % 7,rfl,H,by omega⟩
  .exact⟨30+y % 31,rfl,by omega,by omega⟩
 obtain⟨f,ts,q,O,P,Q,rt,R,_⟩:=aFM (c:=c) (m:=m) (n:=n) (M:=M2) K o E;have S:cH [.c f] q=Z (.d (.tuple (ts.map<|fL false)),q):=aIB (by rw[P,B7];rfl);refine⟨ts,q,bS<|aY (F:=cH) (aH (aY (F:=iB) (aH (G M)<|aH (yY l (aIU A) hn) aP) O) aP) S,rt,Q,R⟩
noncomputable def zW:T7:=(List.range 40).map λ(k:Nat)=>((0:Int)+(k:Nat))
def aOu:RdS zW:=⟨by decide,λk h=>by
 obtain⟨q,o,rfl⟩:=List.mem_map.mp h;have:=List.mem_range.mp o;omega,by decide⟩
def aAf{b:Bool}(t:γ[1]?=Z (Z (.c c)))(A:γ[3]?=Z (Z<|B b))(dk:Dk M c (m+35+1)):
 ∃(ss:T0)(M':Sto),aZ (fOp bY (aL cH<|aA (aL eT<|aA (aB 1)<|aA (fOp bB (aX "list" dU (aB 1) aF)<|fC (.int 6)) aF) aF)<|fOp DB (eF<|aA (rH<|aA (fC (.int 40)) aF) aF)<|fOp mR (fC (.int 20))<|aL FZ<|aA (aB 3) aF) (br 11) γ M=Z (.nx (γ.set 11<|Z (.d (.tuple (ss.map<|sqK false)))),M')/\(∀s∈ss,RdS s)/\ss.length<=25/\Dk M' c m:=by
 obtain⟨z,M1,C,D,T,U,V⟩:=dk.pop;have E:∀N,aB 1 γ N=Z (.c c,N):=λN=>by simp only[aB,t]
 have G:=C8 z (show(6:Int)≠0 by decide);have W:=C5 z (show(0:Int)<6 by decide);obtain⟨f,ss,M2,H,K,sl,rs,O,_⟩:=aCr (c:=c) (m:=m) (n:=z % 6) (M:=M1) G (by omega) D;have P:cH [.c f] M2=Z (.d (.tuple (ss.map<|sqK false)),M2):=aIB (by rw[K,B7];rfl)
 have Q:aL cH (aA (aL eT<|aA (aB 1)<|aA (fOp bB (aX "list" dU (aB 1) aF)<|fC (.int 6)) aF) aF) γ M=Z (.d (.tuple (ss.map<|sqK false)),M2):=
  aY (F:=cH) (aH (aY (F:=eT) (aH (E M)<|aH (uB (k:=bB) (pop_at t dk.ty C) (bL (i:=6))<|dJ (by decide)) aP) H) aP) P
 have h:eF (aA (rH<|aA (fC (.int 40)) aF) aF) γ M2=Z (.d (.tuple [sqK false zW]),M2):=by
  refine jI (aH (show rH (aA (fC (.int 40)) aF) γ M2=Z (.d (sqK false zW),M2)from ?_) aP) rfl (by show 1<=500;decide);unfold rH;rw[aH (bL (i:=40)) aP,A2];show(if dR 40=true/\(40:Int).toNat<=ba then Z (CD.d (.tuple (aFr 0 (40:Int).toNat)),M2)else Y)=_;rw[A4 ⟨uF (by decide) (by decide),sz (show 40<=1000 by decide)⟩];rfl
 obtain⟨o,R,X,S⟩:∃o:T0,fOp DB (eF<|aA (rH<|aA (fC (.int 40)) aF) aF) (fOp mR (fC (.int 20))<|aL FZ<|aA (aB 3) aF) γ M2=Z (.d (.tuple (o.map<|sqK false)),M2)/\o.length<=20/\∀s∈o,RdS s:=by
  have u:=bN (k:=mR) (bL (i:=20) (γ:=γ) (M:=M2)) (aIU (b:=b) A)<|YA (by cases b<;>decide);cases b with
  |false=>
   refine⟨[],bO (k:=DB) h u ?_,by decide,λs hs=>by simp at hs⟩;rfl
  |true=>
   refine⟨List.replicate 20 zW,bO (k:=DB) h u ?_,by decide,λs hs=>by rw[List.eq_of_mem_replicate hs];exact aOu⟩;have c:([sqK false zW]:T4)≠[]/\(2:Int)<=20*(if true=true then 1 else 0)/\(20:Int)*(if true=true then 1 else 0)<2 ^ 62/\([sqK false zW]:T4).length*((20:Int)*(if true=true then 1 else 0)).toNat<=ba:=⟨by simp,by decide,by decide,sz (show 20<=1000 by decide)⟩
   have e:aBt (.d (.tuple [sqK false zW])) (I (20*(if true=true then 1 else 0))) M2=Z (.d (.tuple ((List.replicate 20 zW).map (sqK false))),M2):=by
    unfold aBt;exact(A4 c).trans rfl
   unfold DB yF;rw[e]
 refine⟨ss++o,M2,bS ?_,λs hs=>?_,by rw[B9];omega,O⟩
 .have:=yY (k:=bY) Q R<|WM (by rw[A1,A1];omega);rw[this,D0]
 .obtain q|q:=List.mem_append.mp hs
  .exact rs s q
  .exact S s q
def aCb{g:GsF}{b:SF}{x:T6}{xs:Tv (T6)}{M1 M2:Sto}(h:g x γ M=Z (γ1,M1))(k:b γ1 M1=Z (.nx γ2,M2)):DP g b (x::xs) γ M=DP g b xs γ2 M2:=by
 conv=>lhs;unfold DP
 rw[h,A2];dsimp only;rw[k,A2]
abbrev hN3:GsF:=bC (br 13)<|bC (br 14)<|bC (br 15) gG
def aDl{f g:Str}{d:Ua}(h:γ[v]?=Z (Z (.d d))):aA (fG f) (aA (fG g)<|aA (aB v) aF) γ M=Z ([.g f,.g g,.d d],M):=
 aH (show fG f γ M=Z (.g f,M)from rfl) (aH (show fG g γ M=Z (.g g,M)from rfl)<|aH (show aB v γ M=Z (.d d,M)by simp only[aB,h]) aP)
def aCP{ts:Tv Tie}{ss:T0}(T:γ.length=16)(h1:γ[1]?=Z (Z (.c c)))(C:γ[10]?=Z (Z (.d (.tuple (ts.map<|fL false)))))(G:γ[11]?=Z (Z (.d (.tuple (ss.map<|sqK false)))))(rt:∀t∈ts,RdT t)(tl:ts.length<=60)(rs:∀s∈ss,RdS s)(sl:ss.length<=25)(dk:Dk M c (m+26+61+61)):
 ∃(γ':Ga)(M':Sto),aBN 12 3 (qA (aA (fG "show_tree")<|aA (fG "read_tree")<|aA (aB 10) aF)<|qA (aA (fG "show_flow")<|aA (fG "read_flow")<|aA (aB 10) aF)<|qA (aA (fG "show_sides")<|aA (fG "read_sides")<|aA (aB 11) aF) aCF) (bC (br 13)<|bC (br 14)<|bC (br 15) gG) pX γ M=Z (.nx γ',M'):=by
 have U:=aGb rt (by omega);have V:=aHH rt (by omega);have ks:=aDt rs (by omega);obtain⟨R,hR⟩:∃R,PyData.tuple (ts.map<|fL false)=R:=⟨_,rfl⟩;obtain⟨h,hZ⟩:∃h,PyData.tuple (ss.map<|sqK false)=h:=⟨_,rfl⟩;rw[hR]at C U V;rw[hZ]at G ks
 have H:qA (aA (fG "show_tree")<|aA (fG "read_tree")<|aA (aB 10) aF) (qA (aA (fG "show_flow")<|aA (fG "read_flow")<|aA (aB 10) aF)<|qA (aA (fG "show_sides")<|aA (fG "read_sides")<|aA (aB 11) aF) aCF) γ M=Z ([[.g "show_tree",.g "read_tree",.d R],[.g "show_flow",.g "read_flow",.d R],[.g "show_sides",.g "read_sides",.d h]],M):=by
  have s3:∀(a b d:CD),([a,b,d]:T6).length<=ba:=λa b d=>s9 (by show 3<=9;decide);unfold qA;rw[aDl C,A2];dsimp only;rw[A4 (s3 _ _ _),aDl C,A2];dsimp only;rw[A4 (s3 _ _ _),aDl G,A2];dsimp only;rw[A4 (s3 _ _ _)];rfl
 obtain⟨A,B⟩:∃A,γ.set 12 (Z (.c M.length))=A:=⟨_,rfl⟩;have l0:A.length=16:=by rw[<- B,E1];exact T
 have c0:A[1]?=Z (Z (.c c)):=by rw[<- B,B6 (by decide)];exact h1
 have d0:Dk (M++[.dead]) c (m+26+61+61):=dk.app
 have step:∀{E:Ga}{N:Sto}{k:Nat}{Fs Fr:FN}{ns nr:Str}{hd:Ua}{ls:Lns},Kd Fs Fr hd ls->E.length=16->E[1]?=Z (Z (.c c))->tS.lookup ns=Z Fs->tR.lookup nr=Z Fr->Dk N c (k+ls.length+1)->
  ∃(D:Ga)(N':Sto),(∀xs,DP hN3 pX ([.g ns,.g nr,.d hd]::xs) E N=DP hN3 pX xs D N')/\D.length=16/\D[1]?=Z (Z (.c c))/\Dk N' c k:=λ{E N k Fs Fr ns nr hd ls} kd l q es er d=>by
  obtain⟨o,u⟩:∃o,((E.set 13<|Z (.g ns)).set 14 (Z (.g nr))).set 15 (Z (.d hd))=o:=⟨_,rfl⟩;have I:o.length=16:=by rw[<- u,E1,E1,E1];exact l
  have W:o[1]?=Z (Z (.c c)):=by rw[<- u,B6 (by decide),B6 (by decide),B6 (by decide)];exact q
  have K:o[13]?=Z (Z (.g ns)):=by rw[<- u,B6 (by decide),B6 (by decide),C3 (by rw[l];decide)]
  have O:o[14]?=Z (Z (.g nr)):=by rw[<- u,B6 (by decide),C3 (by rw[E1,l];decide)]
  have P:o[15]?=Z (Z (.d hd)):=by rw[<- u,C3 (by rw[E1,E1,l];decide)]
  obtain⟨N',e,dN,_⟩:=aAD (γ:=o) (M:=N) (m:=k) kd W (by rw[I];decide) K O P es er d;refine⟨o.set 6<|Z<|S<|txL ls,N',λxs=>aCb (show hN3 [.g ns,.g nr,.d hd] E N=Z (o,N)by rw[<- u];rfl) e,by rw[E1];exact I,by rw[B6 (by decide)];exact W,dN⟩
 have X:∀w,(tO w ts).length=ts.length:=λw=>by unfold tO;rw[A1]
 obtain⟨o,N1,e1,I,c1,d1⟩:=step (k:=m+26+61) (N:=M++[.dead]) (ns:="show_tree") (nr:="read_tree") U l0 c0 rfl rfl<|d0.le (by rw[X];omega);obtain⟨a0,N2,e2,l2,c2,d2⟩:=step (k:=m+26) (N:=N1) (ns:="show_flow") (nr:="read_flow") V I c1 rfl rfl<|d1.le (by rw[X];omega);obtain⟨Q,N3,e3,l3,c3,d3⟩:=step (k:=m) (N:=N2) (ns:="show_sides") (nr:="read_sides") ks l2 c2 rfl rfl<|d2.le (by rw[A1];omega);refine⟨Q,N3,?_⟩;unfold aBN;rw[H,A2];dsimp only
 rw[A4 ⟨by rw[T];decide,s9 (by show 3<=9;decide),λx hx=>by
  simp only[List.mem_cons,List.not_mem_nil,or_false]at hx;obtain rfl|rfl|rfl:=hx<;>rfl⟩,B]
 show DP hN3 pX _ A (M++[.dead])=_;rw[e1,e2,e3];rfl
def main(ns:T7)(hl:ns.length<=63):∃M',F_law [.d (.list (ns.map .int))] []=Z (.d (.bool true),M'):=by
 obtain⟨c,n,b,us,M,fr,n1,n40,ok,pw,ul,dk⟩:=front ns;have W:vC n us:=⟨n1,n40,ok,pw,ul⟩;generalize hs:Z (CD.d<|PyData.list<|ns.map PyData.int)=s0 at fr;obtain⟨ts,E⟩:∃ts,us.filter big=ts:=⟨_,rfl⟩;have Wb:=W.big;rw[E]at Wb;have U:ts.filter big=ts:=by rw[<- E];exact YC us
 have T:=aBV (s0:=s0) (g3:=Z<|B b) (c:=c) (M:=M) W;have cl:=dk.lt;obtain⟨w,hw⟩:∃w,M.length=w:=⟨_,rfl⟩;rw[hw]at T;obtain⟨M1,H⟩:∃M1,M++tL w n us us=M1:=⟨_,rfl⟩;have K:M1[w]?=Z (tI w n us):=by rw[<- H,<- hw,D7<|A7 _,O2];rfl
 rw[H]at T;have d1:Dk M1 c 780:=by rw[<- H];exact dk.app
 have sw:=uO K (by omega) n40 (λt ht=>Wb.rd t (by rw[<- E];exact ht)) (by rw[E];exact Wb.len);obtain⟨g4,V⟩:∃g4,Z (CD.d (.list (bG us)))=g4:=⟨_,rfl⟩;rw[V]at T fr
 have a7:aZ (aL dO<|aA (aB 5) aF) (br 6) (Gg s0 (Z (.c c)) (Z<|I n) (Z<|B b) g4 (Z (.c w)) Y Y Y) M1=Z (.nx (Gg s0 (Z (.c c)) (Z<|I n) (Z<|B b) g4 (Z (.c w)) (Z<|S<|txL<|dW n<|us.filter big) Y Y),M1):=
  bS (aY (F:=dO) (aH (show aB 5 (Gg s0 (Z (.c c)) (Z<|I n) (Z<|B b) g4 (Z (.c w)) Y Y Y) M1=Z (.c w,M1)from rfl) aP) sw)
 obtain⟨g7,g8,M2,a8,d2⟩:=aDe (s0:=s0) (g2:=Z<|I n) (g3:=Z<|B b) (g4:=g4) (m:=582) W K (by omega) d1;rw[E]at a7 a8;obtain⟨A,u⟩:∃A,Gg s0 (Z (.c c)) (Z<|I n) (Z<|B b) g4 (Z (.c w)) (Z<|S<|txL<|dW n ts) g7 g8=A:=⟨_,rfl⟩;have l8:A.length=16:=by rw[<- u];rfl
 have q1:A[1]?=Z (Z (.c c)):=by rw[<- u];rfl
 have q3:A[3]?=Z (Z<|B b):=by rw[<- u];rfl
 obtain⟨M3,a9,k3⟩:=turned (γ:=A) (M:=M2) Wb U (by rw[<- u];rfl) (by rw[l8];decide);obtain⟨D,C⟩:∃D,A.set 9 (Z (.d (.list (((dW n ts).map (·.1)).map .str))))=D:=⟨_,rfl⟩;rw[C]at a9;have l9:D.length=16:=by rw[<- C,E1];exact l8
 have r1:D[1]?=Z (Z (.c c)):=by rw[<- C,B6 (by decide)];exact q1
 have r3:D[3]?=Z (Z<|B b):=by rw[<- C,B6 (by decide)];exact q3
 have d3:Dk M3 c ((((0+26+61+61)+35+1)+180+1)+1):=(k3 c _ d2).le (by decide);obtain⟨ds,M4,O,rt,tl,d4⟩:=aBE r1 r3 d3;obtain⟨R,hR⟩:∃R,Z (CD.d<|PyData.tuple<|ds.map<|fL false)=R:=⟨_,rfl⟩;obtain⟨k,o⟩:∃k,D.set 10 R=k:=⟨_,rfl⟩;rw[hR,o]at O;have u1:k[1]?=Z (Z (.c c)):=by rw[<- o,B6 (by decide)];exact r1
 have u3:k[3]?=Z (Z<|B b):=by rw[<- o,B6 (by decide)];exact r3
 have X:k[10]?=Z R:=by rw[<- o,C3 (by rw[l9];decide)]
 have P:k.length=16:=by rw[<- o,E1];exact l9
 obtain⟨ss,M5,Q,rs,sl,d5⟩:=aAf u1 u3 d4;obtain⟨h,hZ⟩:∃h,Z (CD.d<|PyData.tuple<|ss.map<|sqK false)=h:=⟨_,rfl⟩;obtain⟨G,q⟩:∃G,k.set 11 h=G:=⟨_,rfl⟩;rw[hZ,q]at Q;obtain⟨γ',M6,a0⟩:=aCP (γ:=G) (c:=c) (m:=0) (ts:=ds) (ss:=ss) (M:=M5) (by rw[<- q,E1];exact P) (by rw[<- q,B6 (by decide)];exact u1) (by rw[<- q,B6 (by decide),X,<- hR]) (by rw[<- q,C3 (by rw[P];decide),<- hZ]) rt tl rs sl d5;refine⟨M6,?_⟩;unfold F_law;refine fJ rfl ?_;show YL (Gf (Z<|CD.d (.list (ns.map .int))) Y Y Y Y) []=_;rw[hs];unfold YL;rw[fr,aV T,aV a7,aV a8,u,a9,aV O,aV Q,aV a0];rfl
end Q71
end
end
open PySem PySem.W PyProof.Rows
set_option maxRecDepth 100000 in
set_option maxHeartbeats 0 in
theorem PySem.Challenge.cw_cutstree_k71_whole_text_there_and_back_holds : PySem.Challenge.rw_cutstree_k71_whole_text_there_and_back.Holds := by
 refine Q71.k_top ?_
 k_fill
 refine L2.law_walk (l:=PySem.Challenge.rw_cutstree_k71_whole_text_there_and_back) (F:=Q71.F_law) (k:=11) (p:="_law_script") (by decide +kernel) rfl rfl ⟨λ_=>rfl,by decide,by decide,rfl⟩ (λw h a=>PySem.W.kIn_of a) ?T Q71.main (λ_=>by kernel_rfl)
 case T=>
  intro w mg h KX G;refine Q71.fn_law (K:=_) (mg:=mg) ?TT
  refine' Q71.txt_mk KX G ?v0 ?v1 ?v2 ?v3 ?v4 ?v5 ?v6 ?v7 ?v8 ?v9 ?v10 ?v11 ?v12 ?v13 ?v14 ?v15 ?v16 ?v17 ?v18 ?v19 ?v20 ?v21 ?v22 ?v23 ?v24 ?v25 ?v26 ?v27 ?v28 ?v29 ?v30 ?v31 ?v32 ?v33 ?v34 ?v35 ?v36 ?v37 ?v38 ?v39 ?v40 ?v41 ?v42 ?v43 ?v44 ?v45 ?v46 ?v47 ?v48 ?v49 ?v50 ?v51 ?v52 ?v53 ?v54 ?v55 ?v56 ?v57 ?v58 ?v59 ?v60 ?v61 ?v62 ?v63 ?v64 ?v65 ?v66 ?v67 ?v68 ?v69 ?v70 ?v71 ?v72 ?v73 ?v74 ?v75 ?v76 ?v77 ?v78 ?v79 ?v80 ?v81 ?v82 ?v83 ?v84 ?v85 ?v86 ?v87 ?v88 ?v89 ?v90 ?v91 ?v92 ?v93 ?v94 ?v95 ?v96 ?v97 ?v98 ?v99 ?v100 ?v101 ?v102 ?v103 ?v104 ?v105 ?v106
  (case v0|v1|v2|v3|v4|v5|v6|v7|v8|v9|v10|v11|v12|v13|v14|v15|v16|v17|v18|v19|v20|v21|v22|v24|v25|v26|v27|v28|v32|v33|v34|v35|v39|v40|v41|v42|v43|v44|v45|v49|v50|v52|v53|v54|v55|v58|v59|v60|v61|v62|v65=>k_is)
  (case v23|v29|v30|v31|v36|v37|v38|v46|v47|v48|v51|v56|v57|v63|v64=>kernel_rfl)
  (case v66|v67|v68|v69|v70|v71|v72|v73|v74|v75|v76|v77|v78|v79|v80|v81|v82|v83|v84|v85|v86|v87|v88|v89|v90|v91|v92|v93|v94|v95|v96|v97|v98|v99|v100|v101|v102|v103|v104|v105|v106=>exact L2.def_mk KX G (by k_is) (by k_is) (by k_is) (by k_is))