import PyProof.Rows.All
import Open.Boot
import OpenK.KLine
import OpenK.KWalk
import OpenK.KMore
import OpenK.KOwn
import OpenK.KRaise
import KE.KSortTup
import PyProof.EqAt
import PyProof.EqKinds
import PyProof.TupleCall
import KE.KIsAll
import PyProof.ExcArgsOwn
import PyProof.NsDelKeeps
import KE.KTryMore
import PyProof.InstStoreFacts
import PyProof.ExcInit
import PyProof.ExcClass2
import PyProof.Rows.ListMul
import PyProof.Draws
import PyProof.EnumMake
import PyProof.Rows.EnumRows
import KE.KItemsList
import PyProof.DictCompW
import PyProof.ListRange
import PyProof.ZipIter
import PyProof.AttrMissHeap
import KE.KDictOf
import KE.KUnpack
import PyProof.SetKind
import PyProof.Rows.SetFrom
import KE.KIntText
import KE.KMinKey
import KE.KLam
import PySem.Challenge.RW_cutstree_k49_behind_refused
set_option Elab.async false
section
set_option maxRecDepth 100000
set_option maxHeartbeats 0
namespace Q49
open PySem PySem.W PyProof.Rows
noncomputable def qv:Program:={ PySem.Challenge.rw_cutstree_k49_behind_refused.prog with main:={ PySem.Challenge.rw_cutstree_k49_behind_refused.prog.main with body:=(((((((((PySem.Challenge.rw_cutstree_k49_behind_refused.prog.main.body.eraseIdx 53).eraseIdx 45).eraseIdx 43).eraseIdx 40).eraseIdx 32).eraseIdx 27).eraseIdx 15).eraseIdx 6).eraseIdx 0) } }
noncomputable abbrev ran(w:World)(os:OsState):Option Shared:=topFrom treeTable PySem.Challenge.rw_cutstree_k49_behind_refused.prog w 6100 { heap:=boot_heap w.params,gens:=#[],drawn:=boot_drawn,toks:=boot_toks,os:=os }
noncomputable abbrev xt(s:Shared):Bool:=xlAt qv [] s&&recOk (RowW.records (OpenRow.toRowW PySem.Challenge.rw_cutstree_k49_behind_refused.row)) s
theorem two{c d:Type}{o:Option Shared}{f:Shared->c}{g:Shared->d}{a:c}{b:d}(e:o.map f=some a)(h:o.map g=some b):o.map (fun s=>(f s,g s))=some (a,b):=by
 cases o with
 |none=>cases e
 |some s=>cases e;cases h;rfl
theorem pk{o p γ q r s t u ι:Type}{a j:o}{b k:p}{c c':γ}{d d':q}{e l:r}{f m:s}{g g':t}{h h':u}{i n:ι}(k1:a=j)(k2:b=k)(k3:c=c')(v:(d,e)=(d',l))(k5:(f,g)=(m,g'))(w:(h,i)=(h',n)):(a,b,c,d,e,f,g,h,i)=(j,k,c',d',l,m,g',h',n):=by
 cases k1;cases k2;cases k3;cases v;cases k5;cases w;rfl
theorem t1(w:World)(os:OsState):(ran w os).map (fun s=>seen (List.map (fun x=>x.name) (recsOf qv)) (ownsOf qv) [] { heap:=s.heap,drawn:=s.drawn,toks:=s.toks,os:=s.os })=some (expectedOf qv):=by kernel_rfl
theorem t2(w:World)(os:OsState):(ran w os).map (fun s=>s.heap.bltView)=some bltViewBooted:=by kernel_rfl
theorem t3(w:World)(os:OsState):(ran w os).map (fun s=>s.heap.keysOk (looseW qv []) (List.map (fun x=>x.name) (recsOf qv)) (List.map (fun x=>x.fst) (litsOf qv)) (List.map (fun x=>x.name) (clssOf qv (looseW qv [])))&&s.heap.accountedOkI (importedModules PySem.Challenge.rw_cutstree_k49_behind_refused.prog.main.body)&&s.heap.isNs mainGlobals&&s.heap.isNs builtinsNs&&tablesOk qv s.heap&&xt s&&if true=true then s.gens.size==0 else !leftWithCleanup s.gens)=some true:=by kernel_rfl
theorem t4(w:World)(os:OsState):(ran w os).map (fun s=>(tabsOk qv s,pinSeenD qv (drecsOf qv) s))=some (true,pinGoodD (drecsOf qv)):=by kernel_rfl
theorem t5(w:World)(os:OsState):(ran w os).map (fun s=>(plainSeenE qv (looseW qv []) s,plainSeenD qv [] s))=some (plainGoodE qv (looseW qv []),plainGoodD qv []):=by kernel_rfl
theorem t6(w:World)(os:OsState):(ran w os).map (fun s=>(wideSeen qv s,clsSeenW qv [] s))=some (wideGood qv,clsGoodW qv []):=by kernel_rfl
theorem left_boot{l:Type}{Yf:Shared->l}{Ya:World->l}(m:opening PySem.Challenge.rw_cutstree_k49_behind_refused.prog=plainProg (PySem.Challenge.rw_cutstree_k49_behind_refused.prog).main.scope.names)(n:Nat.ble 600 6100=true)(o:∀s:Shared,fenceModules? PySem.Challenge.rw_cutstree_k49_behind_refused.prog s=some s)(h:∀(w:World)(os:OsState),(ran w os).map Yf=some (Ya w)):LeftO PySem.Challenge.rw_cutstree_k49_behind_refused.prog qv [] xt Yf Ya 6100 true:=by
 intro w;have b:=boot_open m n o w;unfold openEnds;cases e:fencedOpening treeTable PySem.Challenge.rw_cutstree_k49_behind_refused.prog w 6100 with
 |none=>rw[e]at b;cases b
 |some s=>
  rw[e]at b;obtain⟨q,r,t,p,a⟩:=s;simp only[Option.map_some,Option.some.injEq,Prod.mk.injEq]at b;obtain⟨rfl,rfl,rfl,rfl⟩:=b;have d:=t4 w a;have f:=t5 w a;have g:=t6 w a;show(ran w a).map _=_;have c:=t1 w a;have i:=t2 w a;have j:=t3 w a;have k:=h w a;revert c i j d f g k;cases ran w a with
  |none=>intro c;cases c
  |some s=>
   intro d f g c i j k;have c:=Option.some.inj c;have i:=Option.some.inj i;have j:=Option.some.inj j;have d:=Option.some.inj d;have f:=Option.some.inj f;have g:=Option.some.inj g;have k:=Option.some.inj k;refine congrArg some (Prod.ext ?_ k);exact pk c i j d f g
end Q49
open PySem PySem.W PyProof.Rows
local macro_rules | `(tactic| o_head $H) => `(tactic| (
 refine holds_open (r:=PySem.Challenge.rw_cutstree_k49_behind_refused.row) (q:=Q49.qv) (loose:=[]) (Xt:=Q49.xt) (XP:=XL Q49.qv []) (Yf:=Hook.obs $H) (Ya:=Hook.val $H) (YP:=Hook.says $H) (N:=6100) ?hl (Hook.of $H) (Hook.keeps $H) (fun s e=>xl_of s (Bool.and_eq_true_iff.mp e).1) XL.keeps (by rfl) (by rfl) (by rfl) (fun s e=>recFacts_of (Bool.and_eq_true_iff.mp e).2) (by rfl) (by first|assumption|decide +kernel) (by decide +kernel) ⟨rfl,rfl,rfl,rfl,rfl,by decide +kernel⟩ ?hw ?hc
 (case hl=>exact Q49.left_boot rfl rfl (fun _=>rfl) (fun w os=>by kernel_rfl))))
open_top Q49.k_top for PySem.Challenge.rw_cutstree_k49_behind_refused
end
section
set_option linter.all false
set_option maxRecDepth 100000
set_option maxHeartbeats 4000000
noncomputable abbrev Fg:=PySem.W.Frag
noncomputable section
abbrev T0:=PySem.Value->PySem.Shared->Prop
abbrev T1:=List (PySem.Addr×PySem.Obj)
abbrev T2:=List (Option Nat)
abbrev T3:=List PySem.PyData
abbrev T4:=List PySem.Value
abbrev T6:=List Int
abbrev T7:=List PySem.Expr
abbrev T8:=List PySem.Stmt
abbrev T9:=List PySem.Addr
abbrev Tc:=List PySem.Str
abbrev Tf:=Option PySem.Value
abbrev Tg:=Option Nat
abbrev Th:=Option PySem.Addr
abbrev Ti:=Array PySem.Value
abbrev Tj:=Array Nat
abbrev Tk:=Option Int
abbrev Tl:=PySem.Str×PySem.NameKind
abbrev Tn:=PySem.Value->PySem.Value->PySem.Sem PySem.Value
abbrev To:=Nat->Nat->Bool
abbrev Tq:=PySem.Str->Option PySem.NameKind
abbrev Tt:=List (PySem.Str×PySem.Value)
abbrev Tv:=List
abbrev Tw:=Option
abbrev Tx:=PySem.Value
abbrev Tz:=PySem.PyData
abbrev Ua:=PySem.Shared
abbrev Ub:=PySem.Addr
abbrev Uc:=PySem.Expr
abbrev Ud:=PySem.Program
abbrev Ue:=PySem.Around
noncomputable abbrev Z{α:Type _}(x:α):=some x
noncomputable abbrev Y{α:Type _}:=@none α
abbrev A0:=@PySem.wpAny_bind
abbrev A1:=@PySem.Heap.get?_push_of_some
abbrev A2:=@Option.bind_some
abbrev A3:=@List.length_map
abbrev A4:=@PySem.wpAny_pure
abbrev A6:=@Bool.false_ne_true
abbrev A7:=@if_pos
abbrev A8:=@PySem.Heap.lt_size
abbrev A9:=@Nat.le_refl
abbrev B0:=@if_neg
abbrev B1:=@List.length_append
abbrev B2:=@List.getElem?_eq_getElem
abbrev B3:=@PySem.Heap.get?_push_size
abbrev B4:=@List.mem_cons_of_mem
abbrev B5:=@Nat.ne_of_lt
abbrev B6:=@Nat.lt_of_lt_of_le
abbrev B7:=@List.mem_cons_self
abbrev B8:=@Bool.and_eq_true
abbrev B9:=@List.size_toArray
abbrev C0:=@List.getElem?_map
abbrev C1:=@List.length_range
abbrev C2:=@decide_eq_false
abbrev C3:=@List.mem_append_right
abbrev C4:=@PySem.wpAny_newObj_type
abbrev C5:=@Option.some.inj
abbrev C6:=@List.getElem?_set_ne
abbrev C7:=@List.map_cons
abbrev C8:=@List.getD_eq_getElem?_getD
abbrev C9:=@of_decide_eq_true
abbrev D0:=@PySem.W.mg_none_of
abbrev D3:=@PySem.wpAny_field
abbrev D4:=@List.lookup_cons
abbrev D5:=@PySem.wpAny_mono
abbrev D6:=@List.length_singleton
abbrev D7:=@List.append_nil
abbrev D8:=@decide_eq_true
abbrev D9:=@Nat.le_trans
abbrev E1:=@Nat.ne_of_gt
abbrev E2:=@PySem.mem_of_lookup
abbrev E3:=@PySem.wpAny_setField_rec
abbrev E4:=@List.map_map
abbrev E5:=@List.length_cons
abbrev E6:=@PySem.sizeLine_eq
abbrev E7:=@List.getElem?_append_left
abbrev E8:=@List.getElem?_set_self
abbrev E9:=@PyProof.Rows.callWith_type1
abbrev F0:=@Int.toNat_natCast
abbrev F4:=@PySem.wpAny_call_entry
abbrev F5:=@Ne.symm
abbrev F6:=@List.getElem?_append_right
abbrev F7:=@PySem.wpAny_callSpecial?_slot
abbrev F8:=@PySem.wpAny_loadPart'
abbrev F9:=@PySem.Heap.get?_update_other
abbrev I0:=@Nat.lt_irrefl
abbrev J0:=@List.map_append
abbrev J1:=@PySem.Heap.get?_update_self
abbrev J2:=@List.mem_append_left
abbrev J3:=@Nat.lt_succ_self
abbrev J4:=@PySem.wpAny_holding
abbrev J5:=@PySem.wpAny_truthy_bool
abbrev J6:=@Array.getElem?_toList
abbrev J7:=@Int.emod_lt_of_pos
abbrev J8:=@PySem.wpAny_Call_Name_kw
abbrev J9:=@PySem.Obj.data_mapFields
abbrev L3:=@List.append_assoc
abbrev L7:=@Int.emod_nonneg
abbrev L8:=@Nat.zero_le
abbrev L9:=@List.flatten_cons
abbrev O0:=@PySem.W.mg_of
abbrev O1:=@PyProof.Rows.slot_tuple_getitem
abbrev O6:=@List.replicate_succ
abbrev O7:=@PySem.PassesOwn.never
abbrev O8:=@PySem.F.plainAttrs_list
abbrev O9:=@Bool.and_false
abbrev S0:=@PySem.Heap.size_push
abbrev S3:=@List.length_set
abbrev S4:=@PySem.wpAny_setField
abbrev S5:=@PySem.wpAny_seqItems
abbrev S6:=@List.mem_append
abbrev S7:=@PySem.wpAny_pyIter_tuple
abbrev S8:=@PySem.wpAny_passesOwn
abbrev S9:=@Nat.le_of_lt
abbrev U0:=@Nat.lt_trans
abbrev U1:=@PySem.F.plain_extend_loop
abbrev U2:=@Array.length_toList
abbrev U3:=@List.map_congr_left
abbrev U4:=@PyProof.Rows.assignInOrder_cons
abbrev U5:=@congrArg
abbrev U6:=@List.any_cons
abbrev U7:=@PySem.F.slot_tuple_iterator_next
abbrev U8:=@Bool.eq_iff_iff
abbrev U9:=@List.zip_cons_cons
abbrev Y0:=@PySem.Heap.SameBut.update
abbrev Y1:=@Nat.sub_self
abbrev Y2:=@PySem.F.slot_zip_next
abbrev Y3:=@PySem.codeAny_mono
abbrev Y4:=@List.eq_nil_of_length_eq_zero
abbrev Y5:=@PySem.SeqAt.canLay_of_shaped
abbrev Y6:=@PySem.Obj.isFreed_of_fields
abbrev Y7:=@List.mem_map_of_mem
abbrev Y8:=@Nat.le_of_eq
abbrev Y9:=@PySem.wpAny_typeNameOfWhole_itemiter
abbrev Z0:=@PySem.Paired.length
abbrev Z1:=@PySem.wpAny_standAt
abbrev Z2:=@PySem.wpAny_attempt
abbrev Z3:=@PySem.Heap.get?_none_of_le
abbrev Z4:=@Bool.false_and
abbrev Z5:=@PySem.wpAny_typeNameOfWhole_keyiter
abbrev Z6:=@PySem.wpAny_execs_nil
abbrev Z7:=@PySem.wpAny_rule
abbrev Z8:=@PySem.wpAny_bindName
abbrev Z9:=@PySem.call_meets
namespace L2
variable{H:Hp}{s:Ua}{A:Ue}{σ:St}{K:Fg}{pos:Pos}
open PySem PySem.Spec PyProof.Rows
noncomputable abbrev Key:=Sum Int Str
noncomputable def xY:Key->Tx->Bool
 |.inl k,v=>Value.isInt k v
 |.inr x,v=>Value.isStrOf x v
noncomputable def aHp(w:World):Key->Int
 |.inl k=>hashInt k
 |.inr x=>hashStr w x
def cX:∀{k:Key}{v:Tx},xY k v=true->(∃i t,k=Sum.inl i/\v=Value.int i t)\/(∃x t,k=Sum.inr x/\v=Value.str x t)
 |.inl i,v=>fun h=>by
  obtain⟨t,e⟩:=Value.isInt_shape (k:=i) (v:=v) h;exact .inl ⟨i,t,rfl,e⟩
 |.inr x,v=>fun h=>by
  obtain⟨t,e⟩:=Value.isStrOf_shape (x:=x) (v:=v) h;exact .inr ⟨x,t,rfl,e⟩
def LU(i:Int)(t:Tok):xY (.inl i) (.int i t)=true:=by simp[xY,Value.isInt]
def NT(x:Str)(t:Tok):xY (.inr x) (.str x t)=true:=by simp[xY,Value.isStrOf]
def aEA(a b:Int):decide ((Sum.inl a:Key)=Sum.inl b)=(a==b):=by
 by_cases e:a=b
 .subst e;simp
 .have h:¬(Sum.inl a:Key)=Sum.inl b:=fun q=>e<|Sum.inl.inj q;rw[C2 h];exact(beq_eq_false_iff_ne.mpr e).symm
def aEI(a b:Str):decide ((Sum.inr a:Key)=Sum.inr b)=decide (a=b):=by
 by_cases e:a=b
 .subst e;simp
 .have h:¬(Sum.inr a:Key)=Sum.inr b:=fun q=>e<|Sum.inr.inj q;rw[C2 h,C2 e]
def aCG(a:Int)(b:Str):decide ((Sum.inl a:Key)=Sum.inr b)=false:=C2 fun q=>nomatch q
def aCQ(a:Str)(b:Int):decide ((Sum.inr a:Key)=Sum.inl b)=false:=C2 fun q=>nomatch q
def dM(prog:Ud)(w:World):PySem.KeyKind prog w Key where
 is:=xY
 hash:=aHp w
 inj:=fun v a b ha hb=>by
  rcases cX ha with⟨i,t,rfl,rfl⟩|⟨x,t,rfl,rfl⟩
  .rcases cX hb with⟨j,u,rfl,e⟩|⟨y,u,rfl,e⟩
   .injection e with e1 _;rw[e1]
   .exact nomatch e
  .rcases cX hb with⟨j,u,rfl,e⟩|⟨y,u,rfl,e⟩
   .exact nomatch e
   .injection e with e1 _;rw[e1]
 byValue:=fun k v h=>by
  rcases cX h with⟨i,t,rfl,rfl⟩|⟨x,t,rfl,rfl⟩<;>rfl
 pyHash:=fun hv h=>by
  rcases cX hv with⟨i,t,rfl,rfl⟩|⟨x,t,rfl,rfl⟩
  .exact wpAny_pyHash_int h
  .exact wpAny_pyHash_str h
 eqBool:=fun hu hv h=>by
  rcases cX hu with⟨i,t,rfl,rfl⟩|⟨x,t,rfl,rfl⟩
  .rcases cX hv with⟨j,u,rfl,rfl⟩|⟨y,u,rfl,rfl⟩
   .rw[aEA]at h;exact wpAny_eqBool_int h
   .rw[aCG]at h;exact SeqAt.EqAt.int_str i t y u _ _ _ _ h
  .rcases cX hv with⟨j,u,rfl,rfl⟩|⟨y,u,rfl,rfl⟩
   .rw[aCQ]at h;exact SeqAt.EqAt.str_int x t j u _ _ _ _ h
   .rw[aEI]at h;exact wpAny_eqBool_str h
 «strs»:=fun k x t v h=>by
  rcases cX h with⟨i,u,rfl,e⟩|⟨y,u,rfl,e⟩
  .exact nomatch e
  .injection e with e1 _
   subst e1;cases v<;>rfl
def DF(prog:Ud)(w:World)(i:Int)(t:Tok):(dM prog w).is (.inl i) (.int i t)=true:=LU i t
def EK(prog:Ud)(w:World)(x:Str)(t:Tok):(dM prog w).is (.inr x) (.str x t)=true:=NT x t
inductive V where
 |non|bl (b:Bool)|int (i:Int)|str (x:Str)|byt (b:Array UInt8)|flt (b:UInt64)|ref (a:Ub)|ty (n:String)
 deriving DecidableEq
abbrev Td:=Tv V
def RelV:V->Tx->Prop
 |.non,u=>u=Value.none
 |.bl b,u=>u=Value.bool b
 |.int i,u=>∃t,u=Value.int i t
 |.str x,u=>∃t,u=Value.str x t
 |.byt b,u=>∃t,u=Value.bytes b t
 |.flt b,u=>∃t,u=Value.float b t
 |.ref a,u=>u=Value.ref a
 |.ty n,u=>u=Value.type n
abbrev bB:Td->T4->Prop:=Paired RelV
def bB.length{xs:Td}{us:T4}(r:bB xs us):xs.length=us.length:=Z0 r
def bB.get:∀{xs:Td}{us:T4}{i:Nat}{x:V},bB xs us->xs[i]?=Z x->∃u,us[i]?=Z u/\RelV x u
 |_,_,_,_,.nil=>fun e=>by simp at e
 |_,_,0,_,.cons r _=>fun e=>by simp at e;subst e;exact⟨_,rfl,r⟩
 |_,_,i+1,x,.cons _ t=>fun e=>by
  obtain⟨u,a,b⟩:=bB.get (i:=i) (x:=x) t (by simpa using e);exact⟨u,by simpa using a,b⟩
def bB.set{x:V}{u:Tx}(r:RelV x u):∀{xs:Td}{us:T4}(i:Nat),bB xs us->bB (xs.set i x) (us.set i u)
 |_,_,_,.nil=>.nil
 |_,_,0,.cons _ t=>.cons r t
 |_,_,i+1,.cons q t=>.cons q (bB.set r i t)
def bB.append:∀{xs ys:Td}{us a:T4},bB xs us->bB ys a->bB (xs++ys) (us++a)
 |_,_,_,_,.nil=>fun s=>s
 |_,_,_,_,.cons r t=>fun s=>.cons r (bB.append t s)
def bB.take:∀{xs:Td}{us:T4}(n:Nat),bB xs us->bB (xs.take n) (us.take n)
 |_,_,0,_=>.nil
 |_,_,_+1,.nil=>.nil
 |_,_,n+1,.cons r t=>.cons r (bB.take n t)
def bB.drop:∀{xs:Td}{us:T4}(n:Nat),bB xs us->bB (xs.drop n) (us.drop n)
 |_,_,0,r=>r
 |_,_,_+1,.nil=>.nil
 |_,_,n+1,.cons _ t=>bB.drop n t
def uG:Tw V->Tf->Prop
 |some v,some u=>RelV v u
 |none,none=>True
 |_,_=>False
def KV{a:Type}:Tv (a×V)->Tv (a×Tx)->Prop:=Paired fun(p:a×V)(q:a×Tx)=>p.1=q.1/\RelV p.2 q.2
noncomputable def kV:Key->V
 |.inl i=>.int i
 |.inr x=>.str x
inductive HO where
 |lst (xs:Td)
 |tup (xs:Td)
 |dK (kvs:Tv (Key×V))|dT (kvs:Tv (Tv Key×V))
 |set (S:Int->Bool) (n:Nat)
 |ins (C dx:Ub) (fs:Tv (Str×V))
 |own (x:Ub)
 |xd (fs:Tv (Str×V))
 |met (f x:Ub)
 |rng (lo hi:Int)
 |frz (o:Obj) (u:HO)
 |tbl (ps:Ti)
 |ext (φ:Heap->Prop)
noncomputable abbrev Hp:=Ub->Tw HO
def upd(H:Hp)(a:Ub)(o:HO):Hp:=fun b=>if b=a then Z o else H b
def aS{a:Ub}{o:HO}:upd H a o a=Z o:=by unfold upd;rw[A7 rfl]
def aN{a b:Ub}{o:HO}(h:b≠a):upd H a o b=H b:=by unfold upd;rw[B0 h]
def aAY{a b:Ub}{o u:HO}(h:H a=Z o)(h':H b=Z u)(d:o≠u):a≠b:=by
 intro e;subst e;rw[h]at h';exact d<|C5 h'
def aT{a b:Ub}{o:HO}(h:H a=Z o)(h':H b=Y):a≠b:=by
 intro e;subst e;rw[h]at h';cases h'
section
variable(P:Ud)(w:World)
def cO(H:Hp)(h:Heap)(a:Ub):HO->Prop
 |.lst xs=>xs.length<=sizeLine/\∃(b:T4)(n:Nat),bB xs b/\h.get? a=Z { cls:=.type "list",data:=.seq b.toArray n }
 |.tup xs=>xs.length<=sizeLine/\∃b:T4,bB xs b/\IsTup h a b.toArray
 |.dK kvs=>kvs.length<=sizeLine/\(a==sysModules)=false/\∃vs,KV kvs vs/\h.DictOf (dM P w) a vs
 |.dT kvs=>kvs.length<=sizeLine/\(a==sysModules)=false/\∃xs:Tv (Tv Key×Ub×Tx),
  Paired (fun(p:Tv Key×V)(q:Tv Key×Ub×Tx)=>p.1=q.1/\H q.2.1=Z (.tup (p.1.map kV))/\RelV p.2 q.2.2) kvs xs /\
  ∃o es ep,h.get? a=Z o/\o.ExactDict/\o.data=.dict es ep/\es.toList=xs.map (entryOfKey<|tupleKind<|dM P w)/\(xs.map (·.1)).Nodup
 |.set S n=>h.SetOf (intKind P w) a S n
 |.ins C dx fs=>H dx=Z (.own a)/\fs.length<=1000/\dx≠a/\h.get? a=Z (W.instObj C dx) /\
  ∃mA,h.Ns1 dx mA/\(∀f,uG (fs.lookup f)<|mA f)/\PySem.Within mA (fs.map (·.1))
 |.own _=>∃o,h.get? a=Z o
 |.xd fs=>∃mA,h.Ns1 a mA/\∀f,uG (fs.lookup f)<|mA f
 |.rng lo hi=>∃t u v,h.get? a=Z { cls:=.type "range",data:=.fields #[.int lo t,.int hi u,.int 1 v] }
 |.frz o u=>h.get? a=Z o/\cO H h a u
 |.tbl ps=>h.get? a=Z { cls:=.none,data:=.fields ps }
 |.met f x=>h.get? a=Z (W.methodObj (.ref f) (.ref x))
 |.ext c=>c h/\(∃o,h.get? a=Z o)/\∀d e:Heap,c d->(∀o,d.get? a=Z o->e.get? a=Z o)->c e
def HOk(H:Hp)(h:Heap):Prop:=∀a o,H a=Z o->cO P w H h a o
end
section
variable{P:Ud}{w:World}{H H':Hp}{h h':Heap}{a:Ub}{o:HO}
def cO.lt(x:cO P w H h a o):a<h.objs.size:=by
 cases o with
 |lst xs=>obtain⟨_,_,_,_,e⟩:=x;exact A8 e
 |tup xs=>obtain⟨_,_,_,p⟩:=x;exact p.lt
 |dK kvs=>obtain⟨_,_,_,_,o,_,_,e,_⟩:=x;exact A8 e
 |dT kvs=>obtain⟨_,_,_,_,o,_,_,e,_⟩:=x;exact A8 e
 |set S n=>obtain⟨o,_,_,_,e,_⟩:=x;exact A8 e
 |ins C dx fs=>obtain⟨_,_,_,e,_⟩:=x;exact A8 e
 |own y=>obtain⟨_,e⟩:=x;exact A8 e
 |xd fs=>obtain⟨_,⟨_,_,_,e,_⟩,_⟩:=x;exact A8 e
 |rng lo hi=>obtain⟨_,_,_,e⟩:=x;exact A8 e
 |frz ob u=>obtain⟨e,_⟩:=x;exact A8 e
 |tbl ps=>exact A8 (show h.get? a=Z _ from x)
 |met f y=>exact A8 (show h.get? a=Z _ from x)
 |ext b=>obtain⟨_,⟨_,e⟩,_⟩:=x;exact A8 e
def Paired.mapP{c d:Type}{F G:c->d->Prop}:∀{l₁:Tv c}{l₂:Tv d},Paired F l₁ l₂->(∀a b,F a b->G a b)->Paired G l₁ l₂
 |_,_,.nil=>fun _=>.nil
 |_,_,.cons r t=>fun f=>.cons (f _ _ r) (Paired.mapP t f)
def cO.stay(x:cO P w H h a o)(k:∀b u,(b=a\/H b=Z (.own a))->h.get? b=Z u->h'.get? b=Z u)
 (i:∀b,H b=Z (.own a)->H' b=Z (.own a)) (ht:∀b xs,H b=Z (.tup xs)->H' b=Z (.tup xs)):cO P w H' h' a o:=by
 induction o with
 |lst xs=>obtain⟨z,g,n,r,e⟩:=x;exact⟨z,g,n,r,k _ _ (.inl rfl) e⟩
 |tup xs=>obtain⟨z,g,r,ob,e,c⟩:=x;exact⟨z,g,r,ob,k _ _ (.inl rfl) e,c⟩
 |dK kvs=>obtain⟨z,y,vs,r,ob,es,ep,e,c⟩:=x;exact⟨z,y,vs,r,ob,es,ep,k _ _ (.inl rfl) e,c⟩
 |dT kvs=>
  obtain⟨z,y,xs,r,ob,es,ep,e,c⟩:=x;exact⟨z,y,xs,Paired.mapP r fun p q z=>⟨z.1,ht _ _ z.2.1,z.2.2⟩,ob,es,ep,k _ _ (.inl rfl) e,c⟩
 |set S n=>obtain⟨ob,es,ep,t,e,c⟩:=x;exact⟨ob,es,ep,t,k _ _ (.inl rfl) e,c⟩
 |ins C dx fs=>
  obtain⟨d,z,ne,e,mA,⟨od,es,ep,j,c⟩,r⟩:=x;exact⟨i _ d,z,ne,k _ _ (.inl rfl) e,mA,⟨od,es,ep,k _ _ (.inr d) j,c⟩,r⟩
 |own y=>obtain⟨ob,e⟩:=x;exact⟨ob,k _ _ (.inl rfl) e⟩
 |xd fs=>obtain⟨mA,⟨od,es,ep,e,c⟩,r⟩:=x;exact⟨mA,⟨od,es,ep,k _ _ (.inl rfl) e,c⟩,r⟩
 |rng lo hi=>obtain⟨t,u,v,e⟩:=x;exact⟨t,u,v,k _ _ (.inl rfl) e⟩
 |frz ob u ih=>obtain⟨e,q⟩:=x;exact⟨k _ _ (.inl rfl) e,ih q⟩
 |tbl ps=>
  have e:h.get? a=Z { cls:=.none,data:=.fields ps }:=x;show h'.get? a=Z { cls:=.none,data:=.fields ps };exact k a _ (.inl rfl) e
 |met f y=>
  have e:h.get? a=Z (W.methodObj (.ref f) (.ref y)):=x;show h'.get? a=Z (W.methodObj (.ref f) (.ref y));exact k a _ (.inl rfl) e
 |ext l=>obtain⟨p,⟨o,e⟩,st⟩:=x;exact⟨st _ _ p fun o q=>k _ _ (.inl rfl) q,⟨o,k _ _ (.inl rfl) e⟩,st⟩
def HOk.lt(x:HOk P w H h)(e:H a=Z o):a<h.objs.size:=(x a o e).lt
def HOk.fresh(x:HOk P w H h)(e:h.objs.size<=a):H a=Y:=by
 cases q:H a with
 |none=>rfl
 |some u=>exact absurd (B6 (x.lt q) e)<|I0 _
def HOk.kept(x:HOk P w H h)(k:∀b u,h.get? b=Z u->h'.get? b=Z u):HOk P w H h':=fun a o e=>
 (x a o e).stay (fun b u _ q=>k b u q) (fun _ q=>q) fun _ _ q=>q
def HOk.laid(x:HOk P w H h)(k:∀b u,h.get? b=Z u->h'.get? b=Z u)(f:h.objs.size<=a)(new:cO P w (upd H a o) h' a o):HOk P w (upd H a o) h':=fun b u e=>by
 have hn:=x.fresh f;by_cases d:b=a
 .subst d;rw[aS]at e;cases e;exact new
 .rw[aN d]at e;exact(x b u e).stay (fun c v _ q=>k c v q) (fun c q=>by rw[aN (aT q hn)];exact q) fun c xs q=>by rw[aN (aT q hn)];exact q
end
def Rd(H:Hp)(a:Ub)(u:HO):Prop:=H a=Z u\/∃o,H a=Z (.frz o u)
def Rd.ok{P:Ud}{w:World}{h:Heap}{a:Ub}{u:HO}(r:Rd H a u)(x:HOk P w H h):cO P w H h a u:=by
 rcases r with r|⟨o,r⟩
 .exact x a u r
 .obtain⟨_,q⟩:=x a _ r;exact q
def Mut:Tw HO->Prop
 |some (.lst _)=>True
 |some (.dK _)=>True
 |some (.dT _)=>True
 |some (.set _ _)=>True
 |some (.ins _ _ _)=>True
 |some (.ext _)=>True
 |_=>False
section
variable{P:Ud}{w:World}{H:Hp}{h h':Heap}{x e:Ub}{o':HO}
def HOk.write(ok:HOk P w H h)(g:Mut (H x))(l:e=x\/H e=Z (.own x))(k:∀b u,b≠e->h.get? b=Z u->h'.get? b=Z u)(j:∃u,h'.get? e=Z u)
 (new:cO P w (upd H x o') h' x o'):HOk P w (upd H x o') h':=fun b u q=>by
 have d:∀c y,H c=Z (.own y)->c≠x:=fun c y r z=>by subst z;rw[r]at g;exact g
 have f:∀c xs,H c=Z (.tup xs)->c≠x:=fun c xs r z=>by subst z;rw[r]at g;exact g
 by_cases i:b=x
 .subst i;rw[aS]at q;cases q;exact new
 .rw[aN i]at q;by_cases a:b=e
  .have m:H b=Z (.own x):=by
    rcases l with z|z
    .exact absurd (a.trans z) i
    .rw[a];exact z
   rw[q]at m;cases m;obtain⟨v,n⟩:=j;exact⟨v,by rw[a];exact n⟩
  .refine(ok b u q).stay (fun c v hc r=>k c v ?_ r) (fun c r=>by rw[aN (d c b r)];exact r) fun c xs r=>by rw[aN (f c xs r)];exact r
   rcases hc with rfl|hc
   .exact a
   .rintro rfl;rcases l with z|z
    .exact d c b hc z
    .rw[hc]at z;cases z;exact i rfl
end
structure Un(fs ex:T9)(H H':Hp)(h h':Heap):Prop where
 keep:∀b o,h.get? b=Z o->H b=Y->b∉fs->b∉ex->h'.get? b=Z o
 slot:∀b o,h.get? b=Z o->H b=Y->b∈fs->b∉ex->∃sl,h'.get? b=Z { o with slots:=sl }
 free:∀b o,h.get? b=Z o->H b=Y->b∉ex->H' b=Y
 there:∀b o,h.get? b=Z o->b∉ex->∃o',h'.get? b=Z o'
 tups:∀b xs,H b=Z (.tup xs)->H' b=Z (.tup xs)
 frzs:∀b o u,H b=Z (.frz o u)->H' b=Z (.frz o u)
 tbls:∀b ps,H b=Z (.tbl ps)->∃more,H' b=Z (.tbl (ps++more))
section
variable{fs fs' ex ex':T9}{H H1 H2:Hp}{h h1 h2 h':Heap}{a x e:Ub}{o:HO}
def Un.any(u:Un fs ex H H1 h h1){b:Ub}{ob:Obj}(q:h.get? b=Z ob)(n:H b=Y)(c:b∉ex):∃sl,h1.get? b=Z { ob with slots:=sl }:=by
 by_cases d:b∈fs
 .exact u.slot b ob q n d c
 .exact⟨ob.slots,u.keep b ob q n d c⟩
def Un.kept(k:∀b u,h.get? b=Z u->h'.get? b=Z u):Un fs ex H H h h':=
 ⟨fun b ob q _ _ _=>k b ob q,fun b ob q _ _ _=>⟨ob.slots,k b ob q⟩,fun _ _ _ n _=>n,fun b ob q _=>⟨ob,k b ob q⟩,fun _ _ q=>q,fun _ _ _ q=>q,fun _ ps q=>⟨#[],by rw[q];simp⟩⟩
def Un.refl:Un fs ex H H h h:=Un.kept fun _ _ q=>q
def Un.laid(k:∀b u,h.get? b=Z u->h'.get? b=Z u)(hp:h.objs.size<=a)(hn:H a=Y):Un fs ex H (upd H a o) h h' where
 keep:=fun b u q _ _ _=>k b u q
 slot:=fun b u q _ _ _=>⟨u.slots,k b u q⟩
 free:=fun b u q n _=>by rw[aN (B5<|B6 (A8 q) hp)];exact n
 there:=fun b u q _=>⟨u,k b u q⟩
 tups:=fun b xs q=>by rw[aN (aT q hn)];exact q
 frzs:=fun b u xs q=>by rw[aN (aT q hn)];exact q
 tbls:=fun b ps q=>⟨#[],by rw[aN (aT q hn),q];simp⟩
def Un.write(d:Mut (H x))(j:e=x\/H e=Z (.own x))(k:∀b u,b≠e->h.get? b=Z u->h'.get? b=Z u)(f:∃u,h'.get? e=Z u):Un fs ex H (upd H x o) h h':=by
 have g:∀b,H b=Y->b≠x:=fun b n z=>by subst z;rw[n]at d;exact d
 have i:∀b,H b=Y->b≠e:=fun b n z=>by
  subst z;rcases j with r|r
  .exact g b n r
  .rw[n]at r;cases r
 have hm:∀b u,H b=Z u->¬Mut (Z u)->b≠x:=fun b u q nm z=>by subst z;rw[q]at d;exact nm d
 refine⟨fun b u q n _ _=>k b u (i b n) q,fun b u q n _ _=>⟨u.slots,k b u (i b n) q⟩,fun b u q n _=>by rw[aN (g b n)];exact n,fun b u q _=>?_,
  fun b xs q=>by rw[aN (hm b _ q fun z=>z)];exact q,fun b u xs q=>by rw[aN (hm b _ q fun z=>z)];exact q,fun b ps q=>⟨#[],by rw[aN (hm b _ q fun z=>z),q];simp⟩⟩
 by_cases c:b=e
 .subst c;exact f
 .exact⟨u,k b u c q⟩
end
noncomputable def trk(h:Heap)(H:Hp):T9:=(List.range h.objs.size).filter fun a=>(H a).isSome
def CA(h:Heap)(H:Hp):Heap:=W.hideAll h<|trk h H
def LH(h:Heap)(H:Hp):(CA h H).objs.size=h.objs.size:=W.hideAll_size _ _
def RZ{h:Heap}{b:Ub}{o:Obj}(e:h.get? b=Z o)(n:H b=Y):(CA h H).get? b=Z o:=
 W.hideAll_get _ e fun hm=>by
  have q:(H b).isSome=true:=(List.mem_filter.mp hm).2;rw[n]at q;simp at q
def aAP{h:Heap}{b:Ub}{o:Obj}(e:(CA h H).get? b=Z o):h.get? b=Z o/\H b=Y:=by
 have a:h.get? b=Z o:=W.of_hideAll (trk h H) e;refine⟨a,?_⟩;cases q:H b with
 |none=>rfl
 |some x=>
  have hm:b∈trk h H:=List.mem_filter.mpr ⟨List.mem_range.mpr<|A8 a,by simp[q]⟩;have z:(CA h H).get? b=Y:=W.hideAll_none (trk h H) hm;rw[z]at e;cases e
def mW(g h:Heap)(L:Ub):T1:=(List.range h.objs.size).filterMap fun a=>if a=L\/(g.get? a).isSome=true then Y else(h.get? a).map fun o=>(a,o)
def nV{g h:Heap}{L a:Ub}{o:Obj}(c:a≠L)(d:g.get? a=Y)(b:h.get? a=Z o):(a,o)∈mW g h L:=
 List.mem_filterMap.mpr ⟨a,List.mem_range.mpr<|A8 b,by simp[c,d,b]⟩
def wW{g h:Heap}{L:Ub}{p:Ub×Obj}(a:p∈mW g h L):p.1≠L/\g.get? p.1=Y/\h.get? p.1=Z p.2:=by
 obtain⟨b,_,e⟩:=List.mem_filterMap.mp a;split at e
 .cases e
 .rename_i hn;cases q:h.get? b with
  |none=>rw[q]at e;simp at e
  |some u=>
   rw[q]at e;simp only[Option.map_some,Option.some.injEq]at e;subst e;refine⟨fun z=>hn (.inl z),?_,q⟩;show g.get? b=Y;cases r:g.get? b with
   |none=>rfl
   |some v=>exact(hn (.inr (by simp[r]))).elim
def rest(g h:Heap)(L d:Ub):T1:=(mW g h L).filter fun p=>decide (p.1≠d)
def FK{g h:Heap}{L:Ub}:News g L h (mW g h L):=fun p d=>let⟨a,b,c⟩:=wW d;⟨c,a,b⟩
structure Mod(K:Fg)(mg:Str->Tf)(base:Heap):Prop where
 kin:K.In base
 glob:base.Ns mainGlobals mg
 blt:∃mb,base.Ns builtinsNs mb/\∀x:Str,x≠"__name__"->mb x=bootBuiltins x
 nolimit:base.NoLimit
 sysm:∃o es ep,base.get? sysModules=Z o/\o.data=.dict es ep
 bmn:∃bm ob,mg "__builtins__"=Z (.ref bm)/\bm≠builtinsNs/\base.get? bm=Z ob/\ob.cls=.type "module"/\ob.dict=Z builtinsNs/\ob.data=.plain
structure Cx where
 prog:Ud
 w:World
 K:Fg
 mg:Str->Tf
 base:Heap
 A:Ue
 N:Tc
 s₀:Ua
 H₀:Hp
 env:Env
 outer:Tv Env
 stack:Tv Env
 ex:T9
 fn:Str->Bool
 calm:Bool
 pn:T1
 xe:T0
noncomputable def frs(l:Tv Env):T9:=l.filterMap (·.frame)
abbrev Cx.fs(X:Cx):List Addr:=frs X.outer
def Vis(sc:Scope)(x:Str):Prop:=sc.names.lookup x=Z .local\/sc.names.lookup x=Z .cell\/sc.names.lookup x=Z .free
def Loc(sc:Scope)(x:Str):Prop:=sc.names.lookup x=Z .local\/sc.names.lookup x=Z .cell
def Look(env:Env)(h:Heap)(m:Str->Tf)(x:Str)(u:Tx):Prop:=
 (env.kindOf x=Z .local/\m x=Z u)\/((env.kindOf x=Z .cell\/env.kindOf x=Z .free)/\∃c,env.cells.lookup x=Z c/\h.IsCell c (Z u))
structure Cx.Ok(X:Cx):Prop where
 mod:Mod X.K X.mg X.base
 kind:X.env.scope.kind=.function
 glob:X.env.globals=mainGlobals
 blt:X.env.builtins=builtinsNs
 above:X.s₀.heap.objs.size<=X.env.locals
 inj:∀x y c,X.env.cells.lookup x=Z c->X.env.cells.lookup y=Z c->x=y
 has:∀x,(X.env.kindOf x=Z .cell\/X.env.kindOf x=Z .free)->∃c,X.env.cells.lookup x=Z c
 cab:∀x c,X.fn x=true->X.env.cells.lookup x=Z c->X.s₀.heap.objs.size<=c
 hd:X.calm=true->X.A.handled=Y
 frames:X.A.frames=Z X.stack
 stk:X.stack=X.outer\/(X.stack=X.env::X.outer/\X.env.frame=Z X.env.locals)
 exf:∀b∈X.ex,b≠X.env.locals/\∀x c,X.env.cells.lookup x=Z c->c≠b
 bs:∀b o,X.base.get? b=Z o->X.s₀.heap.get? b=Z o/\X.H₀ b=Y
 bsz:X.base.objs.size<=X.s₀.heap.objs.size
 noex:∀b o,X.base.get? b=Z o->b∉X.ex
 exfs:∀b∈X.ex,b∉X.fs
 funs:X.s₀.heap.FunFrames X.base X.outer
 frf:∀b∈X.fs,X.H₀ b=Y
structure Inv(X:Cx)(pins:T1)(σ:Tv (Tw V))(H:Hp)(s:Ua):Prop where
 ok:X.Ok
 os:s.os=X.s₀.os
 bare:AllBare s.gens
 base:Un X.fs X.ex X.H₀ H X.s₀.heap s.heap
 loc:∃m,s.heap.Ns X.env.locals m/\∀(i:Nat)(x:Str)(v:V),X.N[i]?=Z x->σ[i]?=Z (Z v)->Vis X.env.scope x->∃u,RelV v u/\Look X.env s.heap m x u
 cell:∀x c,X.env.cells.lookup x=Z c->∃v,s.heap.IsCell c v
 free:H X.env.locals=Y
 freeC:∀x c,X.env.cells.lookup x=Z c->H c=Y
 pin:∀p∈X.pn++pins,s.heap.get? p.1=Z p.2/\H p.1=Y/\p.1≠X.env.locals/\p.1∉X.fs/\∀v,p.2.data≠.cell v
 hok:HOk X.prog X.w H s.heap
 len:σ.length=X.N.length
section
variable{X:Cx}{pins:T1}{σ:Tv (Tw V)}{H H':Hp}{s:Ua}{h':Heap}
def Cx.Ok.nofr(ok:X.Ok){b:Ub}{o:Obj}(e:X.base.get? b=Z o):b∉X.fs:=fun a=>by
 have:=(ok.funs.mem a).1;rw[e]at this;cases this
def Inv.bs(I:Inv X pins σ H s):∀b o,X.base.get? b=Z o->s.heap.get? b=Z o/\H b=Y:=fun b o e=>
 ⟨I.base.keep b o (I.ok.bs b o e).1 (I.ok.bs b o e).2 (I.ok.nofr e) (I.ok.noex b o e),I.base.free b o (I.ok.bs b o e).1 (I.ok.bs b o e).2 (I.ok.noex b o e)⟩
def Inv.bk(I:Inv X pins σ H s):∀b o,X.base.get? b=Z o->s.heap.get? b=Z o:=fun b o e=>(I.bs b o e).1
def Inv.mod(I:Inv X pins σ H s):Mod X.K X.mg X.base:=I.ok.mod
def Inv.kIn(I:Inv X pins σ H s):X.K.In s.heap:=I.ok.mod.kin.keeps I.bk
def Inv.fr(I:Inv X pins σ H s):∃m,Fr X.base X.env.locals s.heap m:=
 let⟨m,hn,_⟩:=I.loc
 ⟨m,hn,I.bk,D9 I.ok.bsz I.ok.above⟩
def Inv.lt(I:Inv X pins σ H s):X.env.locals<s.heap.objs.size:=let⟨_,hn,_⟩:=I.loc;hn.lt
def Inv.sz(I:Inv X pins σ H s):X.s₀.heap.objs.size<=s.heap.objs.size:=D9 I.ok.above<|S9 I.lt
def Inv.nofs(I:Inv X pins σ H s){a:Ub}(h:s.heap.objs.size<=a):a∉X.fs:=fun b=>by
 obtain⟨_,o,c,_⟩:=I.ok.funs.mem b;exact absurd (B6 (A8 c)<|D9 I.sz h)<|I0 _
def Inv.cne(I:Inv X pins σ H s):∀x c,X.env.cells.lookup x=Z c->c≠X.env.locals:=fun x c e z=>by
 obtain⟨v,o,d,hd⟩:=I.cell x c e;obtain⟨m,⟨o',es,ep,a,b,_⟩,_⟩:=I.loc;rw[z,a]at d;cases d;rw[b]at hd;cases hd
def Inv.funs(I:Inv X pins σ H s):s.heap.FunFrames X.base X.outer:=by
 have all:∀(l:Tv Env),(∀b∈frs l,b∈X.fs)->X.s₀.heap.FunFrames X.base l->s.heap.FunFrames X.base l:=by
  intro l
  induction l with
  |nil=>intro _ _;trivial
  |cons env r ih=>
   intro hs f;obtain⟨g,⟨L,o,a,hn,h,hd⟩,i⟩:=f;have c:L∈X.fs:=hs L (by unfold frs;rw[List.filterMap_cons,a];exact B7);obtain⟨sl,e⟩:=I.base.slot L o h (I.ok.frf L c) c fun z=>I.ok.exfs L z c;exact⟨g,⟨L,_,a,hn,e,hd⟩,ih (fun b d=>hs b (by unfold frs;rw[List.filterMap_cons,a];exact B4 _ d)) i⟩
 exact all X.outer (fun _ d=>d) I.ok.funs
def Inv.stack(I:Inv X pins σ H s):s.heap.FunFrames X.base X.stack:=by
 rcases I.ok.stk with e|⟨e,a⟩
 .rw[e];exact I.funs
 .rw[e];obtain⟨m,hn,_⟩:=I.loc;refine .cons (by rw[I.ok.kind];decide) a hn ?_ I.funs;exact Z3<|D9 I.ok.bsz I.ok.above
def Inv.stkSub(I:Inv X pins σ H s):∀b∈frs X.stack,b∈X.env.locals::X.fs:=fun b a=>by
 rcases I.ok.stk with e|⟨e,c⟩
 .rw[e]at a;exact B4 _ a
 .rw[e]at a;unfold frs at a;rw[List.filterMap_cons,c]at a;exact a
def Inv.stkFree(I:Inv X pins σ H s):∀b∈frs X.stack,H b=Y:=fun b hb=>by
 rcases List.mem_cons.mp (I.stkSub b hb)with e|hb
 .rw[e];exact I.free
 .obtain⟨_,o,a,_⟩:=I.ok.funs.mem hb;exact I.base.free b o a (I.ok.frf b hb) fun z=>I.ok.exfs b z hb
def Inv.step{g':Array GenState}{t':Nat}{d':Drawn}{ch:T9}(I:Inv X pins σ H s)
 (f:∀b∈ch,(b∈X.ex\/X.s₀.heap.objs.size<=b)/\b≠X.env.locals/\(∀x c,X.env.cells.lookup x=Z c->c≠b)/\∀p∈X.pn++pins,p.1≠b)
 (keep:∀b o,b≠X.env.locals->b∉X.fs->b∉ch->s.heap.get? b=Z o->H b=Y->h'.get? b=Z o)
 (slot:∀b o,b≠X.env.locals->b∈X.fs->b∉ch->s.heap.get? b=Z o->H b=Y->∃sl,h'.get? b=Z { o with slots:=sl }) (free:∀b o,b∉ch->s.heap.get? b=Z o->H b=Y->H' b=Y)
 (there:∀b o,b∉ch->s.heap.get? b=Z o->∃o',h'.get? b=Z o')
 (tups:∀b xs,H b=Z (.tup xs)->H' b=Z (.tup xs)) (frzs:∀b o u,H b=Z (.frz o u)->H' b=Z (.frz o u)) (tbls:∀b ps,H b=Z (.tbl ps)->∃more,H' b=Z (.tbl (ps++more)))
 (ns:∀m,s.heap.Ns X.env.locals m->h'.Ns X.env.locals m) (hok:HOk X.prog X.w H' h') (L:AllBare g'):
 Inv X pins σ H' { s with heap:=h',gens:=g',drawn:=d',toks:=t' }:=by
 have C:∀b o,X.s₀.heap.get? b=Z o->b≠X.env.locals:=fun b o e=>B5<|B6 (A8 e) I.ok.above
 have j:∀b o,X.s₀.heap.get? b=Z o->b∉X.ex->b∉ch:=fun b o e a y=>by
  rcases (f b y).1 with z|z
  .exact a z
  .exact absurd (B6 (A8 e) z)<|I0 _
 have g:∀x c,X.env.cells.lookup x=Z c->∀v,s.heap.IsCell c v->h'.IsCell c v:=fun x c e v ⟨o,B,hd⟩=>by
  have h:c∉ch:=fun z=>(f c z).2.2.1 x c e rfl;by_cases F:c∈X.fs
  .obtain⟨sl,q⟩:=slot c o (I.cne x c e) F h B<|I.freeC x c e;exact⟨_,q,hd⟩
  .exact⟨o,keep c o (I.cne x c e) F h B<|I.freeC x c e,hd⟩
 refine⟨I.ok,I.os,L,⟨fun b o e n y a=>?_,fun b o e n y a=>?_,fun b o e n a=>?_,fun b o e a=>?_,fun b xs e=>tups b xs<|I.base.tups b xs e,fun b o xs e=>frzs b o xs<|I.base.frzs b o xs e,fun b ps e=>?_⟩,?_,fun x c e=>?_,?_,fun x c e=>?_,fun p G=>?_,hok,I.len⟩
 .exact keep b o (C b o e) y (j b o e a) (I.base.keep b o e n y a)<|I.base.free b o e n a
 .obtain⟨sl,t⟩:=I.base.slot b o e n y a;obtain⟨E,D⟩:=slot b _ (C b o e) y (j b o e a) t<|I.base.free b o e n a;exact⟨E,D⟩
 .obtain⟨o',t⟩:=I.base.there b o e a;exact free b o' (j b o e a) t<|I.base.free b o e n a
 .obtain⟨o',t⟩:=I.base.there b o e a;exact there b o' (j b o e a) t
 .obtain⟨M,t⟩:=I.base.tbls b ps e;obtain⟨N,D⟩:=tbls b _ t;exact⟨M++N,by rw[D,Array.append_assoc]⟩
 .obtain⟨m,hn,O⟩:=I.loc;refine⟨m,ns m hn,fun i x v t D P=>?_⟩;obtain⟨u,r,l⟩:=O i x v t D P;refine⟨u,r,?_⟩;rcases l with l|⟨k,c,e,z⟩
  .exact .inl l
  .exact .inr ⟨k,c,e,g x c e _ z⟩
 .obtain⟨v,z⟩:=I.cell x c e;exact⟨v,g x c e v z⟩
 .obtain⟨m,⟨o,_,_,B,_⟩,_⟩:=I.loc;exact free _ o (fun z=>(f _ z).2.1 rfl) B I.free
 .obtain⟨v,o,B,hd⟩:=I.cell x c e;exact free c o (fun z=>(f c z).2.2.1 x c e rfl) B<|I.freeC x c e
 .obtain⟨e,n,ne,J,d⟩:=I.pin p G;have h:p.1∉ch:=fun z=>(f p.1 z).2.2.2 p G rfl;exact⟨keep p.1 p.2 ne J h e n,free p.1 p.2 h e n,ne,J,d⟩
def Inv.un{t':Nat}(I:Inv X pins σ H s)(u:Un X.fs [] H H' s.heap h')(hok:HOk X.prog X.w H' h'):Inv X pins σ H' { s with heap:=h',toks:=t' }:=by
 obtain⟨m,⟨o,es,ep,g,r⟩,_⟩:=id I.loc;obtain⟨sl,h⟩:=u.any g I.free (by simp)
 exact I.step (g':=s.gens) (d':=s.drawn) (ch:=[]) (fun _ z=>nomatch z) (fun b o _ c _ e n=>u.keep b o e n c (by simp)) (fun b o _ c _ e n=>u.slot b o e n c (by simp)) (fun b o _ e n=>u.free b o e n (by simp)) (fun b o _ e=>u.there b o e (by simp)) u.tups u.frzs u.tbls (fun j hm=>by
  obtain⟨o',d,f,a,i⟩:=hm;rw[g]at a;cases a;exact⟨_,d,f,h,i⟩) hok I.bare
def Inv.call{g':Array GenState}{t':Nat}{d':Drawn}{ch:T9}(I:Inv X pins σ H s)(u:Un (frs X.stack) ch H H' s.heap h')(hok:HOk X.prog X.w H' h')(k:AllBare g')
 (d:∀b∈ch,(b∈X.ex\/X.s₀.heap.objs.size<=b)/\b≠X.env.locals/\(∀x c,X.env.cells.lookup x=Z c->c≠b)/\∀p∈X.pn++pins,p.1≠b):
 Inv X pins σ H' { s with heap:=h',gens:=g',drawn:=d',toks:=t' }:=by
 obtain⟨m,⟨o,es,ep,j,r⟩,_⟩:=id I.loc;obtain⟨sl,g⟩:=u.any j I.free fun z=>(d _ z).2.1 rfl
 exact I.step (ch:=ch) d (fun b o g l a e n=>u.keep b o e n (fun z=>(List.mem_cons.mp<|I.stkSub b z).elim g l) a) (fun b o _ _ a e n=>u.any e n a) (fun b o a e n=>u.free b o e n a) (fun b o a e=>u.there b o e a) u.tups u.frzs u.tbls (fun t hm=>by
  obtain⟨o',h,i,f,q⟩:=hm;rw[j]at f;cases f;exact⟨_,h,i,g,q⟩) hok k
def Inv.turned{t':Nat}{it:Ub}(I:Inv X pins σ H s)(k:∀b o,b≠it->s.heap.get? b=Z o->h'.get? b=Z o)(hn:H it=Y)(f:it≠X.env.locals)
 (g:it∈X.ex\/X.s₀.heap.objs.size<=it) (h:∀x c,X.env.cells.lookup x=Z c->c≠it) (i:∀p∈X.pn++pins,p.1≠it):Inv X pins σ H { s with heap:=h',toks:=t' }:=by
 have d:∀b u,H b=Z u->b≠it:=fun b u e z=>by rw[z,hn]at e;cases e
 refine I.step (g':=s.gens) (d':=s.drawn) (ch:=[it]) (fun b j=>?_) (fun b o _ _ a e _=>k b o (fun z=>a (by simp[z])) e) (fun b o _ _ a e _=>⟨o.slots,k b o (fun z=>a (by simp[z])) e⟩) (fun _ _ _ _ n=>n)
  (fun b o a e=>⟨o,k b o (fun z=>a (by simp[z])) e⟩) (fun _ _ e=>e) (fun _ _ _ e=>e) (fun b ps e=>⟨#[],by rw[e];simp⟩) (fun m hm=>?_) (fun b u e=>?_) I.bare
 .have e:b=it:=by simpa using j
  subst e;exact⟨g,f,h,i⟩
 .obtain⟨o,es,ep,l,r⟩:=hm;exact⟨o,es,ep,k _ o (F5 f) l,r⟩
 .refine(I.hok b u e).stay (fun c v a q=>k c v ?_ q) (fun _ q=>q) fun _ _ q=>q;rcases a with z|z
  .rw[z];exact d b u e
  .exact d c _ z
def Inv.tok(I:Inv X pins σ H s)(t:Nat):Inv X pins σ H { s with toks:=t }:=I.un (h':=s.heap) (t':=t) Un.refl I.hok
def Inv.kept{t':Nat}(I:Inv X pins σ H s)(k:∀b u,s.heap.get? b=Z u->h'.get? b=Z u):Inv X pins σ H { s with heap:=h',toks:=t' }:=I.un (Un.kept k)<|I.hok.kept k
def Inv.laid{a:Ub}{o:HO}{t':Nat}(I:Inv X pins σ H s)(k:∀b u,s.heap.get? b=Z u->h'.get? b=Z u)(c:s.heap.objs.size<=a)(new:cO X.prog X.w (upd H a o) h' a o):
 Inv X pins σ (upd H a o) { s with heap:=h',toks:=t' }:=I.un (Un.laid k c<|I.hok.fresh c)<|I.hok.laid k c new
def Inv.write{x e:Ub}{o:HO}{t':Nat}(I:Inv X pins σ H s)(c:Mut (H x))(d:e=x\/H e=Z (.own x))(k:∀b u,b≠e->s.heap.get? b=Z u->h'.get? b=Z u)(a:∃u,h'.get? e=Z u)
 (new:cO X.prog X.w (upd H x o) h' x o):Inv X pins σ (upd H x o) { s with heap:=h',toks:=t' }:=I.un (Un.write c d k a)<|I.hok.write c d k a new
def Inv.pins_of{a:T1}(I:Inv X pins σ H s)(h:∀p∈a,s.heap.get? p.1=Z p.2/\H p.1=Y/\p.1≠X.env.locals/\p.1∉X.fs/\∀v,p.2.data≠.cell v):Inv X a σ H s:=
 ⟨I.ok,I.os,I.bare,I.base,I.loc,I.cell,I.free,I.freeC,fun p b=>(List.mem_append.mp b).elim (fun z=>I.pin p<|J2 _ z) (h p),I.hok,I.len⟩
def wU{N:Tc}(c:N.Nodup){i j:Nat}{x:Str}(a:N[i]?=Z x)(b:N[j]?=Z x):i=j:=by
 obtain⟨f,d⟩:=List.getElem?_eq_some_iff.mp a;obtain⟨g,e⟩:=List.getElem?_eq_some_iff.mp b;exact(List.getElem_inj c).mp (d.trans e.symm)
def AV{M:Model}{A:Ue}{E:T0}{i:Nat}{x:Str}{v:V}{u:Tx}{Q:Unit->Ua->Prop}(I:Inv X pins σ H s)(hN:X.N.Nodup)(hi:X.N[i]?=Z x)(l:Loc X.env.scope x)(r:RelV v u)
 (h:∀T,Inv X pins (σ.set i<|Z v) H T->(∃a,Heap.SameBut a s.heap T.heap/\(a=X.env.locals\/X.env.cells.lookup x=Z a))->Q () T) (hf:X.fn x=true\/X.env.scope.names.lookup x=Z .local:=by first|exact .inl rfl|exact .inr rfl|assumption):wpAny M A (storeName X.env x u) Q E s:=by
 obtain⟨m,hn,hl⟩:=id I.loc;have J:(X.env.scope.kind==.class || (X.env.scope.kind==.module&&X.env.locals != X.env.globals))=false:=by rw[I.ok.kind];rfl
 have C:i<σ.length:=by rw[I.len];exact(List.getElem?_eq_some_iff.mp hi).1
 have cne:=I.cne
 have f:∀{a:Ub}{h':Heap},(∃o,s.heap.get? a=Z o/\H a=Y)->Heap.SameBut a s.heap h'->HOk X.prog X.w H h':=fun{a h'} ha hs b ob e=>by
  obtain⟨_,_,t⟩:=ha;refine(I.hok b ob e).stay (fun c S hc q=>(hs.2 c ?_).trans q) (fun _ q=>q) fun _ _ q=>q;rintro rfl;rcases hc with rfl|hc
  .rw[t]at e;cases e
  .rw[t]at hc;cases hc
 rcases l with hk|hk
 .refine wpAny_storeName_local hk hn (fun h' U hs=>?_) J;obtain⟨oL,_,_,W,_⟩:=id hn;refine h _ ⟨I.ok,I.os,I.bare,⟨fun b o e n D l=>?_,fun b o e n D l=>?_,I.base.free,fun b o e l=>?_,I.base.tups,I.base.frzs,I.base.tbls⟩,⟨_,U,fun j y v' g B e3=>?_⟩,fun y c e=>?_,I.free,I.freeC,fun p hp=>?_,f ⟨oL,W,I.free⟩ hs,by simpa using I.len⟩ ⟨_,hs,.inl rfl⟩
  .exact(hs.2 b<|B5<|B6 (A8 e) I.ok.above).trans (I.base.keep b o e n D l)
  .obtain⟨sl,g⟩:=I.base.slot b o e n D l;exact⟨sl,(hs.2 b<|B5<|B6 (A8 e) I.ok.above).trans g⟩
  .obtain⟨o',g⟩:=I.base.there b o e l;exact⟨o',(hs.2 b<|B5<|B6 (A8 e) I.ok.above).trans g⟩
  .by_cases F:j=i
   .subst F;rw[hi]at g;cases g;rw[E8 C]at B;cases B;exact⟨u,r,.inl ⟨hk,by simp⟩⟩
   .rw[C6 (F5 F)]at B;obtain⟨u',r',q⟩:=hl j y v' g B e3;refine⟨u',r',?_⟩;rcases q with⟨k,e⟩|⟨k,c,e,z⟩
    .refine .inl ⟨k,?_⟩;have:y≠x:=fun e=>F<|wU hN g (e▸hi);simp[this,e]
    .exact .inr ⟨k,c,e,z.sameBut hs<|cne y c e⟩
  .obtain⟨S,z⟩:=I.cell y c e;exact⟨S,z.sameBut hs<|cne y c e⟩
  .obtain⟨e,n,ne,nf,d⟩:=I.pin p hp;exact⟨(hs.2 p.1 ne).trans e,n,ne,nf,d⟩
 .have G:X.fn x=true:=by
   rcases hf with z|z
   .exact z
   .rw[z]at hk;cases hk
  obtain⟨c,hc⟩:=I.ok.has x (.inl hk);obtain⟨S,z⟩:=I.cell x c hc;refine wpAny_storeName_cell I.ok.kind hk hc z (fun h' L hs=>?_);obtain⟨oc,O,P⟩:=id z;refine h { s with heap:=h' } ⟨I.ok,I.os,I.bare,⟨fun b o e n D l=>?_,fun b o e n D l=>?_,I.base.free,fun b o e l=>?_,I.base.tups,I.base.frzs,I.base.tbls⟩,⟨m,hn.sameBut hs<|F5<|cne x c hc,fun j y v' g B e3=>?_⟩,fun y c' e=>?_,I.free,I.freeC,fun p hp=>?_,f ⟨oc,O,I.freeC x c hc⟩ hs,by simpa using I.len⟩ ⟨c,hs,.inr hc⟩
  .exact(hs.2 b<|B5<|B6 (A8 e)<|I.ok.cab x c G hc).trans (I.base.keep b o e n D l)
  .obtain⟨sl,g⟩:=I.base.slot b o e n D l;exact⟨sl,(hs.2 b<|B5<|B6 (A8 e)<|I.ok.cab x c G hc).trans g⟩
  .obtain⟨o',g⟩:=I.base.there b o e l;exact⟨o',(hs.2 b<|B5<|B6 (A8 e)<|I.ok.cab x c G hc).trans g⟩
  .by_cases F:j=i
   .subst F;rw[hi]at g;cases g;rw[E8 C]at B;cases B;exact⟨u,r,.inr ⟨.inl hk,c,hc,L⟩⟩
   .rw[C6 (F5 F)]at B;obtain⟨u',r',q⟩:=hl j y v' g B e3;refine⟨u',r',?_⟩;rcases q with q|⟨k,c',e,z'⟩
    .exact .inl q
    .refine .inr ⟨k,c',e,z'.sameBut hs ?_⟩;rintro rfl;exact F<|wU hN g (I.ok.inj _ _ _ e hc▸hi)
  .by_cases R:c'=c
   .subst R;exact⟨_,L⟩
   .obtain⟨w2,z2⟩:=I.cell y c' e;exact⟨w2,z2.sameBut hs R⟩
  .obtain⟨e,n,ne,nf,d⟩:=I.pin p hp;refine⟨(hs.2 p.1 ?_).trans e,n,ne,nf,d⟩;intro q;rw[q,O]at e;have q':oc=p.2:=C5 e;exact d S (by rw[<- q'];exact P)
def iB{M:Model}{A:Ue}{E:T0}{i:Nat}{x:Str}{v:V}{u:Tx}{Q:Unit->Ua->Prop}(I:Inv X pins σ H s)(b:X.N.Nodup)(hi:X.N[i]?=Z x)(c:Loc X.env.scope x)(r:RelV v u)
 (h:∀a,Inv X pins (σ.set i<|Z v) H a->Q () a) (d:X.fn x=true\/X.env.scope.names.lookup x=Z .local:=by first|exact .inl rfl|exact .inr rfl|assumption):wpAny M A (storeName X.env x u) Q E s:=
 AV I b hi c r (fun a e _=>h a e) d
def Inv.call'{a:Ua}{ch:T9}(I:Inv X pins σ H s)(f:a.os=s.os)(u:Un (frs X.stack) ch H H' s.heap a.heap)(hok:HOk X.prog X.w H' a.heap)(g:AllBare a.gens)
 (d:∀b∈ch,(b∈X.ex\/X.s₀.heap.objs.size<=b)/\b≠X.env.locals/\(∀x c,X.env.cells.lookup x=Z c->c≠b)/\∀p∈X.pn++pins,p.1≠b):Inv X pins σ H' a:=by
 obtain⟨h',g',d',t',o'⟩:=a;have e:o'=s.os:=f;subst e;exact I.call (g':=g') (t':=t') (d':=d') u hok g d
end
abbrev XK:=Tx->Th->Hp->Prop
noncomputable abbrev St:=Tv<|Tw V
abbrev VK:=V->Hp->Prop
abbrev TE:=St->Hp->VK->Prop
abbrev TT:=St->Hp->(Bool->Hp->Prop)->Prop
abbrev TA:=St->Hp->(Td->Hp->Prop)->Prop
structure Ends where
 nx:St->Hp->Prop
 rt:VK
 bk:St->Hp->Prop:=fun _ _=>False
 ct:St->Hp->Prop:=fun _ _=>False
abbrev TS:=Ends->St->Hp->Prop
def EP(X:Cx)(pins:T1)(σ:St)(Q:VK)(u:Tx)(a:Ua):Prop:=∃v H',Inv X pins σ H' a/\RelV v u/\Q v H'
def TP(X:Cx)(pins:T1)(σ:St)(Q:Bool->Hp->Prop)(b:Bool)(a:Ua):Prop:=∃H',Inv X pins σ H' a/\Q b H'
def AP(X:Cx)(pins:T1)(σ:St)(Q:Td->Hp->Prop)(us:T4)(a:Ua):Prop:=∃vs H',Inv X pins σ H' a/\bB vs us/\Q vs H'
def SP(X:Cx)(pins:T1)(D:Ends)(f:Flow)(b:Ua):Prop:=
 match f with
 |.next=>∃a H',Inv X pins a H' b/\D.nx a H'
 |.brk=>∃a H',Inv X pins a H' b/\D.bk a H'
 |.cont=>∃a H',Inv X pins a H' b/\D.ct a H'
 |.ret u=>∃v a H',Inv X pins a H' b/\RelV v u/\D.rt v H'
def PE(X:Cx)(e:Uc)(t:TE):Prop:=
 ∀(pins:T1)(s:Ua)(σ:St)(H:Hp)(Q:VK),Inv X pins σ H s->t σ H Q->wpAny (model X.prog X.w) X.A (eval e X.env) (EP X pins σ Q) X.xe s
def PT(X:Cx)(e:Uc)(t:TT):Prop:=
 ∀(pins:T1)(s:Ua)(σ:St)(H:Hp)(Q:Bool->Hp->Prop),Inv X pins σ H s->t σ H Q->wpAny (model X.prog X.w) X.A (isTrue e X.env<|eval e X.env) (TP X pins σ Q) X.xe s
def PW(X:Cx)(e:Uc)(t:TT):Prop:=
 ∀(a:Sem Tx)(pins:T1)(s:Ua)(σ:St)(H:Hp)(Q:Bool->Hp->Prop),Inv X pins σ H s->t σ H Q->wpAny (model X.prog X.w) X.A (isTrue e X.env a) (TP X pins σ Q) X.xe s
def PW.pt{X:Cx}{e:Uc}{t:TT}(h:PW X e t):PT X e t:=h _
def PA(X:Cx)(es:T7)(t:TA):Prop:=
 ∀(pos:Pos)(pins:T1)(s:Ua)(σ:St)(H:Hp)(Q:Td->Hp->Prop),Inv X pins σ H s->t σ H Q->wpAny (model X.prog X.w) X.A (spliced<|backTo pos<|starEach es X.env) (AP X pins σ Q) X.xe s
def PS(X:Cx)(st:Stmt)(t:TS):Prop:=
 ∀(pins:T1)(s:Ua)(σ:St)(H:Hp)(D:Ends),Inv X pins σ H s->t D σ H->wpAny (model X.prog X.w) X.A (exec st X.env) (SP X pins D) X.xe s
def PSs(X:Cx)(st:T8)(t:TS):Prop:=
 ∀(pins:T1)(s:Ua)(σ:St)(H:Hp)(D:Ends),Inv X pins σ H s->t D σ H->wpAny (model X.prog X.w) X.A (execs st X.env) (SP X pins D) X.xe s
def thn{b:Type}{t:Sem b}{Q c:b->Ua->Prop}{M:Model}{E:T0}{s:Ua}(h:wpAny M A t Q E s)(d:∀a s,Q a s->c a s):wpAny M A t c E s:=D5 h d fun _ _ x=>x
section
variable{X:Cx}
def bin{a b:Uc}{i tb:TE}(ha:PE X a i)(k:PE X b tb){pins:T1}{R:V->V->Hp->Prop}(I:Inv X pins σ H s)(h:i σ H fun x g=>tb σ g fun y c=>R x y c)
 {j:Type} {Q:j->Ua->Prop} {f:Tx->Tx->Sem j}
 (l:∀v u s2 x y c,Inv X pins σ c s2->RelV x v->RelV y u->R x y c->wpAny (model X.prog X.w) X.A (f v u) Q X.xe s2):
 wpAny (model X.prog X.w) X.A (eval a X.env) (fun v d=>wpAny (model X.prog X.w) X.A (eval b X.env) (fun u e=>wpAny (model X.prog X.w) X.A (f v u) Q X.xe e) X.xe d) X.xe s:=by
 refine thn (ha pins s σ H _ I h) fun v s1 ⟨x,g,m,n,o⟩=>?_;refine thn (k pins s1 σ g _ m o) fun u s2 ⟨y,c,p,q,r⟩=>?_;exact l v u s2 x y c p n q r
def aGG(i:Nat):TE:=fun σ H Q=>∃v,σ[i]?=Z (Z v)/\Q v H
noncomputable def tC(v:V):TE:=fun _ H Q=>Q v H
def aDf{i:Nat}{x:Str}(g:X.N[i]?=Z x)(j:Vis X.env.scope x)(hd:(x==("__debug__":Str))=false:=by decide)(d:(x==("__classdict__":Str))=false:=by decide):PE X (.Name x pos) (aGG i):=by
 intro pins s σ H Q I h;obtain⟨v,e,h⟩:=h;obtain⟨m,hn,k⟩:=I.loc;obtain⟨u,r,l⟩:=k i x v g e j;have b:EP X pins σ Q u s:=⟨v,H,I,r,h⟩;rcases l with⟨hk,hm⟩|⟨hk,c,f,a⟩
 .exact wpAny_Name (wpAny_loadName_local I.ok.kind hk hn hm b) hd
 .rcases hk with hk|hk
  .exact wpAny_Name (wpAny_loadName_cell I.ok.kind hk f a b) hd
  .exact wpAny_Name (wpAny_loadName_free I.ok.kind hk f a b d) hd
def aEJ{i j pos}:PE X (.Constant (.int i) j pos) (tC (.int i)):=fun _ _ _ H _ I h=>wpAny_Constant_int ⟨.int i,H,I.tok _,⟨_,rfl⟩,h⟩
def aGe{b j pos}:PE X (.Constant (.bool b) j pos) (tC (.bl b)):=fun _ _ _ H _ I h=>Constant_bool ⟨.bl b,H,I,rfl,h⟩
def aDS{j pos}:PE X (.Constant .none j pos) (tC .non):=fun _ _ _ H _ I h=>Constant_none ⟨.non,H,I,rfl,h⟩
def aDv{x j pos}:PE X (.Constant (.str x) j pos) (tC (.str x)):=fun _ _ _ H _ I h=>Calls.Constant_str ⟨.str x,H,I.tok _,⟨_,rfl⟩,h⟩
def Gl(X:Cx)(x:Str):Prop:=X.env.kindOf x=Z .globalImplicit
def nE{E:T0}{pins:T1}{x:Str}{u:Tx}{pos:Pos}{Q:T0}(I:Inv X pins σ H s)(a:Gl X x)(hm:X.mg x=Z u)(h:Q u s)
 (hd:(x==("__debug__":Str))=false:=by decide):wpAny (model X.prog X.w) X.A (eval (.Name x pos) X.env) Q E s:=
 Calls.Name_function_global I.ok.kind a (Calls.loadGlobal_global (by rw[I.ok.glob];exact I.mod.glob.keeps I.bk) hm h) hd
def jL{E:T0}{pins:T1}{x:Str}{u:Tx}{pos:Pos}{Q:T0}(I:Inv X pins σ H s)(a:Gl X x)(hm:X.mg x=Y)(b:bootBuiltins x=Z u)(h:Q u s)
 (hn:x≠"__name__":=by decide) (hd:(x==("__debug__":Str))=false:=by decide):wpAny (model X.prog X.w) X.A (eval (.Name x pos) X.env) Q E s:=by
 obtain⟨mb,c,d⟩:=I.mod.blt;exact Calls.Name_function_global I.ok.kind a (Calls.loadGlobal_builtin (by rw[I.ok.glob];exact I.mod.glob.keeps I.bk) hm (by rw[I.ok.blt];exact c.keeps I.bk) ((d x hn).trans b) h) hd
def KI{x:Str}{v:V}{u:Tx}(a:Gl X x)(hm:X.mg x=Z u)(r:RelV v u)(hd:(x==("__debug__":Str))=false:=by decide):PE X (.Name x pos) (tC v):=
 fun _ _ _ H _ I h=>nE I a hm ⟨v,H,I,r,h⟩ hd
def vZ{x:Str}{v:V}{u:Tx}(a:Gl X x)(hm:X.mg x=Y)(b:bootBuiltins x=Z u)(r:RelV v u)(hn:x≠"__name__":=by decide)(hd:(x==("__debug__":Str))=false:=by decide):PE X (.Name x pos) (tC v):=
 fun _ _ _ H _ I h=>jL I a hm b ⟨v,H,I,r,h⟩ hn hd
variable{a b:Uc}{ta tb:TE}{pos:Pos}
def PC(X:Cx)(op:CmpOp)(a b:Uc)(t:TE):Prop:=
 ∀(pins:T1)(s:Ua)(σ:St)(H:Hp)(Q:VK),Inv X pins σ H s->t σ H Q->
  wpAny (model X.prog X.w) X.A (eval a X.env) (fun v c=>wpAny (model X.prog X.w) X.A (eval b X.env) (fun u d=>wpAny (model X.prog X.w) X.A (compareOp op v u) (EP X pins σ Q) X.xe d) X.xe c) X.xe s
def VS(b:Uc){op:CmpOp}(h:op≠.In)(c:op≠.NotIn):behindInMarks op b=false:=by
 have d:(op==CmpOp.In)=false:=by cases op<;>first|rfl|exact absurd rfl h
 have e:(op==CmpOp.NotIn)=false:=by cases op<;>first|rfl|exact absurd rfl c
 cases b<;>simp[behindInMarks,d,e]
noncomputable def tB(t:TE):TT:=fun σ H Q=>t σ H fun x d=>∃c,x=.bl c/\Q c d
def aEp{op:CmpOp}{t:TE}(h:PC X op a b t)(e:behindInMarks op b=false:=by first|exact VS _ (by decide) (by decide)|rfl):PT X (.Compare a [op] [b] pos) (tB t):=by
 intro pins s σ H Q I f;refine wpAny_isTrue_Compare1 (thn (h pins s σ H _ I f) fun v s1 e=>thn e fun u s2 g=>thn g fun c m ⟨x,i,j,k,l⟩=>?_) e;obtain⟨d,rfl,q⟩:=l;cases k;exact J5 ⟨i,j,q⟩
def aEh{e:Uc}{t:TE}(h:PE X e t)(f:∀c,isTrue e X.env c=(do let v <- c;standAt e.pos;holding [v]<|truthy v):=by intro _;rfl):PT X e (tB t):=by
 intro pins s σ H Q I g;refine isTrue_plain (thn (h pins s σ H _ I g) fun v s1 ⟨x,i,j,k,l⟩=>?_)<|f _;obtain⟨d,rfl,q⟩:=l;cases k;exact J5 ⟨i,j,q⟩
variable{tA tB':TT}{rest:T7}
noncomputable def aFd(t u:TT):TT:=fun σ H Q=>t σ H fun c d=>if c=true then u σ d Q else Q false d
noncomputable def tOr(t u:TT):TT:=fun σ H Q=>t σ H fun c d=>if c=true then Q true d else u σ d Q
noncomputable def aGH(t:TT):TT:=fun σ H Q=>t σ H fun c d=>Q (!c) d
def ZU(ha:PT X a tA):PW X (.BoolOp .And [a] pos) tA:=by
 intro d pins s σ H Q I h;refine isTrue_and (thn (ha pins s σ H Q I h) fun c s1 e=>?_);cases c with
 |true=>exact isTrue_and_nil e
 |false=>exact e
def aDo(ha:PT X a tA):PW X (.BoolOp .Or [a] pos) tA:=by
 intro d pins s σ H Q I h;refine isTrue_or (thn (ha pins s σ H Q I h) fun c s1 e=>?_);cases c with
 |false=>exact isTrue_or_nil e
 |true=>exact e
def aDm(ha:PT X a tA)(g:PW X (.BoolOp .And (b::rest) pos) tB'):PW X (.BoolOp .And (a::b::rest) pos) (aFd tA tB'):=by
 intro i pins s σ H Q I h;refine isTrue_and (thn (ha pins s σ H _ I h) fun c s1 ⟨d,e,f⟩=>?_);cases c with
 |true=>exact g i pins s1 σ d Q e f
 |false=>exact⟨d,e,f⟩
def aGg(ha:PT X a tA)(g:PW X (.BoolOp .Or (b::rest) pos) tB'):PW X (.BoolOp .Or (a::b::rest) pos) (tOr tA tB'):=by
 intro i pins s σ H Q I h;refine isTrue_or (thn (ha pins s σ H _ I h) fun c s1 ⟨d,e,f⟩=>?_);cases c with
 |true=>exact⟨d,e,f⟩
 |false=>exact g i pins s1 σ d Q e f
def aCB(ha:PT X a tA):PT X (.UnaryOp .Not a pos) (aGH tA):=by
 intro pins s σ H Q I h;exact isTrue_not<|ha pins s σ H (fun c d=>Q (!c) d) I h
noncomputable def aBe(ta tb:TE):TE:=fun σ H Q=>ta σ H fun x d=>∃c,x=.bl c/\if c=true then tb σ d Q else Q (.bl false) d
noncomputable def aGo(ta tb:TE):TE:=fun σ H Q=>ta σ H fun x d=>∃c,x=.bl c/\if c=true then Q (.bl true) d else tb σ d Q
noncomputable def aBu(ta:TE):TE:=fun σ H Q=>ta σ H fun x d=>∃c,x=.bl c/\Q (.bl (!c)) d
def aCW{op}{t:TE}(h:PE X a t):PE X (.BoolOp op [a] pos) t:=fun pins s σ H Q I c=>BoolOp_one<|h pins s σ H Q I c
def aBR(ha:PE X a ta)(g:PE X (.BoolOp .And (b::rest) pos) tb):PE X (.BoolOp .And (a::b::rest) pos) (aBe ta tb):=by
 intro pins s σ H Q I h;refine BoolOp_and (thn (ha pins s σ H _ I h) fun v s1 ⟨x,e,f,i,d⟩=>?_);obtain⟨c,rfl,d⟩:=d;cases i;refine J5 ?_;cases c with
 |true=>exact g pins s1 σ e Q f d
 |false=>exact⟨.bl false,e,f,rfl,d⟩
def aGj(ha:PE X a ta)(g:PE X (.BoolOp .Or (b::rest) pos) tb):PE X (.BoolOp .Or (a::b::rest) pos) (aGo ta tb):=by
 intro pins s σ H Q I h;refine BoolOp_or (thn (ha pins s σ H _ I h) fun v s1 ⟨x,e,f,i,d⟩=>?_);obtain⟨c,rfl,d⟩:=d;cases i;refine J5 ?_;cases c with
 |false=>exact g pins s1 σ e Q f d
 |true=>exact⟨.bl true,e,f,rfl,d⟩
def aEn(ha:PE X a ta):PE X (.UnaryOp .Not a pos) (aBu ta):=by
 intro pins s σ H Q I h;refine UnaryOp_ (thn (ha pins s σ H _ I h) fun v s1 ⟨x,e,f,g,d⟩=>?_);obtain⟨c,rfl,d⟩:=d;cases g;exact not_of<|J5 ⟨.bl (!c),e,f,rfl,d⟩
end
def SqL(K:Fg)(H:Hp)(a:Ub)(xs:Td):Prop:=
 Rd H a (.lst xs) \/
  ∃(o:Obj)(b:Ti)(n:Nat),K.lookup a=Z o/\o.cls=.type "list"/\o.dict=Y/\o.data=.seq b n/\b.size<=sizeLine/\bB xs b.toList
def SqT(K:Fg)(H:Hp)(a:Ub)(xs:Td):Prop:=
 Rd H a (.tup xs) \/
  ∃(o:Obj)(b:Ti)(n:Nat),K.lookup a=Z o/\o.cls=.type "tuple"/\o.data=.seq b n/\b.size<=sizeLine/\bB xs b.toList
def aHq:Tx->Tw V
 |.none=>Z .non
 |.bool b=>Z (.bl b)
 |.int i _=>Z (.int i)
 |.str x _=>Z (.str x)
 |.bytes b _=>Z (.byt b)
 |.float b _=>Z (.flt b)
 |.ref a=>Z (.ref a)
 |.type n=>Z (.ty n)
 |_=>Y
def RelV.abs{x:V}{u:Tx}(r:RelV x u):aHq u=Z x:=by
 cases x with
 |non=>cases r;rfl
 |bl _=>cases r;rfl
 |int _=>obtain⟨t,rfl⟩:=r;rfl
 |str _=>obtain⟨t,rfl⟩:=r;rfl
 |byt _=>obtain⟨t,rfl⟩:=r;rfl
 |flt _=>obtain⟨t,rfl⟩:=r;rfl
 |ref _=>cases r;rfl
 |ty _=>cases r;rfl
def RelV.inj{x y:V}{u:Tx}(r:RelV x u)(q:RelV y u):x=y:=C5<|r.abs.symm.trans q.abs
def bB.inj:∀{xs ys:Td}{us:T4},bB xs us->bB ys us->xs=ys
 |_,_,_,.nil,.nil=>rfl
 |_,_,_,.cons r t,.cons a b=>by rw[r.inj a,bB.inj t b]
section
variable{X:Cx}{pins:T1}{σ:St}{H:Hp}{s:Ua}{a:Ub}{xs ys:Td}
def SqL.of(h:H a=Z (.lst xs)):SqL K H a xs:=.inl (.inl h)
def SqT.of(h:H a=Z (.tup xs)):SqT K H a xs:=.inl (.inl h)
def Inv.list(I:Inv X pins σ H s)(h:SqL X.K H a xs):∃its:T4,bB xs its/\PlainL s.heap a its.toArray/\xs.length<=sizeLine:=by
 rcases h with h|⟨o,its,n,b,c,hd,hs,d,r⟩
 .obtain⟨z,its,n,r,e⟩:=h.ok I.hok;exact⟨its,r,⟨_,n,e,rfl,rfl,rfl⟩,z⟩
 .refine⟨its.toList,r,⟨o,n,I.kIn a o b,c,hd,by simpa using hs⟩,?_⟩;have e:=r.length;simp only[Array.length_toList]at e;omega
def Inv.tuple(I:Inv X pins σ H s)(h:SqT X.K H a xs):∃its:T4,bB xs its/\IsTup s.heap a its.toArray/\xs.length<=sizeLine:=by
 rcases h with h|⟨o,its,n,b,c,hs,d,r⟩
 .obtain⟨z,its,r,p⟩:=h.ok I.hok;exact⟨its,r,p,z⟩
 .refine⟨its.toList,r,⟨o,I.kIn a o b,c,n,by simpa using hs⟩,?_⟩;have e:=r.length;simp only[Array.length_toList]at e;omega
def Inv.list_inj(I:Inv X pins σ H s)(h:SqL X.K H a xs)(h':SqL X.K H a ys):xs=ys:=by
 obtain⟨c,r,⟨o,n,e,_,_,d⟩,_⟩:=I.list h;obtain⟨b,i,⟨o',k,f,_,_,g⟩,_⟩:=I.list h';rw[e]at f;cases f;rw[d]at g;injection g with j _
 have:c=b:=by simpa using U5 Array.toList j
 subst this;exact r.inj i
def Inv.tuple_inj(I:Inv X pins σ H s)(h:SqT X.K H a xs)(h':SqT X.K H a ys):xs=ys:=by
 obtain⟨c,r,⟨o,e,_,n,d⟩,_⟩:=I.tuple h;obtain⟨b,i,⟨o',f,_,k,g⟩,_⟩:=I.tuple h';rw[e]at f;cases f;rw[d]at g;injection g with j _
 have:c=b:=by simpa using U5 Array.toList j
 subst this;exact r.inj i
end
noncomputable abbrev Cx.wish(X:Cx)(E:T0):Cx:={ X with xe:=E }
abbrev Cx.nox(X:Cx):Cx:=X.wish fun _ _=>False
def Cx.Ok.wish{X:Cx}(ok:X.Ok)(E:T0):(X.wish E).Ok:=
 ⟨ok.mod,ok.kind,ok.glob,ok.blt,ok.above,ok.inj,ok.has,ok.cab,ok.hd,ok.frames,ok.stk,ok.exf,ok.bs,ok.bsz,ok.noex,ok.exfs,ok.funs,ok.frf⟩
def Cx.Ok.unwish{X:Cx}{E:T0}(ok:(X.wish E).Ok):X.Ok:=
 ⟨ok.mod,ok.kind,ok.glob,ok.blt,ok.above,ok.inj,ok.has,ok.cab,ok.hd,ok.frames,ok.stk,ok.exf,ok.bs,ok.bsz,ok.noex,ok.exfs,ok.funs,ok.frf⟩
section
variable{X:Cx}{pins:T1}{σ:St}{H:Hp}{s:Ua}{E:T0}
def Inv.wish(I:Inv X pins σ H s)(E:T0):Inv (X.wish E) pins σ H s:=⟨I.ok.wish E,I.os,I.bare,I.base,I.loc,I.cell,I.free,I.freeC,I.pin,I.hok,I.len⟩
def Inv.unwish(I:Inv (X.wish E) pins σ H s):Inv X pins σ H s:=⟨I.ok.unwish,I.os,I.bare,I.base,I.loc,I.cell,I.free,I.freeC,I.pin,I.hok,I.len⟩
def SP.unwish{D:Ends}{f:Flow}{b:Ua}(h:SP (X.wish E) pins D f b):SP X pins D f b:=by
 cases f with
 |next=>obtain⟨a,H',I,q⟩:=h;exact⟨a,H',I.unwish,q⟩
 |brk=>obtain⟨a,H',I,q⟩:=h;exact⟨a,H',I.unwish,q⟩
 |cont=>obtain⟨a,H',I,q⟩:=h;exact⟨a,H',I.unwish,q⟩
 |ret u=>obtain⟨v,a,H',I,r,q⟩:=h;exact⟨v,a,H',I.unwish,r,q⟩
def PSs.nox{st:T8}{t:TS}(h:PSs X.nox st t):PSs X st t:=fun pins s σ H D I a=>
 D5 (h pins s σ H D (I.wish _) a) (fun _ _ q=>q.unwish) fun _ _ z=>False.elim z
end
section
variable{X:Cx}{st:Stmt}{rest:T8}{t u:TS}{e:Uc}{te:TE}{pos:Pos}
noncomputable def aBk:TS:=fun D σ H=>D.nx σ H
noncomputable def aCz(t u:TS):TS:=fun D σ H=>t { D with nx:=u D } σ H
def XQ:PSs X [] aBk:=fun _ _ σ H _ I h=>Z6 ⟨σ,H,I,h⟩
def DH(b:PS X st t)(c:PSs X rest u):PSs X (st::rest) (aCz t u):=by
 intro pins s σ H D I h;refine wpAny_execs_cons (thn (b pins s σ H { D with nx:=u D } I h) fun f s1 q=>?_);cases f with
 |next=>
  obtain⟨a,H',d,q⟩:=q;exact c pins s1 a H' D d q
 |ret v=>exact q
 |brk=>exact q
 |cont=>exact q
def JI(a:PS X st t):PSs X [st] t:=by
 intro pins s σ H D I h;refine wpAny_execs_cons (thn (a pins s σ H D I h) fun f s1 q=>?_);cases f with
 |next=>exact Z6 q
 |ret v=>exact q
 |brk=>exact q
 |cont=>exact q
def Inv.quiet{pins:T1}(I:Inv X pins σ H s):interactive X.env=false:=by simp[interactive,I.ok.kind]
noncomputable def TB(te:TE):TS:=fun D σ H=>te σ H fun _ a=>D.nx σ a
def KG(a:PE X e te)(hs:swapsWith e Y pos.line X.env=pure false:=by rfl):PS X (.Expr e pos) (TB te):=by
 intro pins s σ H D I h;exact wpAny_Expr_any (thn (a pins s σ H _ I h) fun v s1 ⟨x,b,c,f,d⟩=>⟨σ,b,c,d⟩) I.quiet hs
noncomputable def aFX(te:TE):TS:=fun D σ H=>te σ H D.rt
def aCD(a:PE X e te):PS X (.Return (Z e) pos) (aFX te):=by
 intro pins s σ H D I h;exact wpAny_Return_some (thn (a pins s σ H _ I h) fun v s1 ⟨x,b,c,d,f⟩=>⟨x,σ,b,c,d,f⟩)
noncomputable def aEL(c:TT)(t u:TS):TS:=fun D σ H=>c σ H fun b a=>if b=true then t D σ a else u D σ a
def aBI{c:Uc}{a b:T8}{f:TT}(k:PT X c f)(ha:PSs X a t)(l:PSs X b u):PS X (.If c a b pos) (aEL f t u):=by
 intro pins s σ H D I h;refine wpAny_If (thn (k pins s σ H _ I h) fun d s1 ⟨g,i,j⟩=>?_);cases d with
 |true=>exact ha pins s1 σ g D i j
 |false=>exact l pins s1 σ g D i j
noncomputable def PP:TS:=fun _ _ _=>False
def PF:PS X st PP:=fun _ _ _ _ _ _ h=>h.elim
end
abbrev TG:=V->St->Hp->(St->Hp->Prop)->Prop
abbrev TGs:=Td->St->Hp->(St->Hp->Prop)->Prop
def PG(X:Cx)(a:Uc)(t:TG):Prop:=
 ∀(pins:T1)(s:Ua)(σ:St)(H:Hp)(v:V)(u:Tx)(Q:St->Hp->Prop),Inv X pins σ H s->RelV v u->t v σ H Q->
  wpAny (model X.prog X.w) X.A (assign a X.env u) (fun _ c=>∃b H',Inv X pins b H' c/\Q b H') X.xe s
def PGs(X:Cx)(ts:T7)(t:TGs):Prop:=
 ∀(pins:T1)(s:Ua)(σ:St)(H:Hp)(vs:Td)(us:T4)(Q:St->Hp->Prop),Inv X pins σ H s->bB vs us->t vs σ H Q->
  wpAny (model X.prog X.w) X.A (assignInOrder ((assignEach ts X.env).map (·.2)) us) (fun _ b=>∃a H',Inv X pins a H' b/\Q a H') X.xe s
section
variable{X:Cx}{pos:Pos}
def DN(i:Nat):TG:=fun v σ H Q=>Q (σ.set i<|Z v) H
def aAO{i:Nat}{x:Str}(a:X.N.Nodup)(hi:X.N[i]?=Z x)(b:Loc X.env.scope x)(c:X.fn x=true\/X.env.scope.names.lookup x=Z .local:=by first|exact .inl rfl|exact .inr rfl|assumption):PG X (.Name x pos) (DN i):=by
 intro pins s σ H v u Q I r h;exact wpAny_assign_Name<|iB I a hi b r (fun e d=>⟨_,H,d,h⟩) c
noncomputable def aFD:TGs:=fun vs σ H Q=>vs=[]/\Q σ H
noncomputable def aBs(t:TG)(u:TGs):TGs:=fun vs σ H Q=>∃v r,vs=v::r/\t v σ H fun a H'=>u r a H' Q
def aAf:PGs X [] aFD:=by
 intro pins s σ H vs us Q I r h;obtain⟨e,h⟩:=h;subst e;cases r;exact assignInOrder_nil ⟨σ,H,I,h⟩
def VU{e:Uc}{es:T7}{t:TG}{u:TGs}(b:PG X e t)(c:PGs X es u)
 (hs:(assignEach (e::es) X.env).map (·.2)=assign e X.env::(assignEach es X.env).map (·.2):=by rfl):PGs X (e::es) (aBs t u):=by
 intro pins s σ H vs us Q I r h;obtain⟨v,k,d,h⟩:=h;subst d;cases r with
 |cons r f=>
  rw[hs];refine U4 (thn (b pins s σ H _ _ _ I r h) fun _ s1 ⟨a,g,i,j⟩=>?_);exact c pins s1 a g _ _ Q i f j
noncomputable def aEa(K:Fg)(n:Nat)(t:TGs):TG:=fun v σ H Q=>∃a xs,v=.ref a/\SqT K H a xs/\xs.length=n/\t xs σ H Q
def aEe{es:T7}{k:Nat}{t:TGs}{n:Nat}(g:X.calm=true)(h:PGs X es t)
 (hn:(assignEach es X.env).length=n:=by rfl) (c:(assignEach es X.env).findIdx? (·.1)=Y:=by rfl):PG X (.Tuple es k pos) (aEa X.K n t):=by
 intro pins s σ H v u Q I r d;obtain⟨a,xs,i,j,l,d⟩:=d;subst i;cases r;obtain⟨m,f,ht,w⟩:=I.tuple j;refine assign_Tuple_tuple (I.ok.hd g) ht (by simp[hn,<- l,f.length]) c fun h' p=>?_;have q:Inv X pins σ H { s with heap:=h' }:=I.kept (t':=s.toks) fun b o e=>p b o (B5<|A8 e) e;exact h pins _ σ H xs _ Q q (by simpa using f) d
noncomputable def XT(a:TE)(g:TG):TS:=fun D σ H=>a σ H fun x b=>g x σ b D.nx
def aDn{tg e:Uc}{a:TE}{g:TG}(b:PE X e a)(c:PG X tg g)(hs:swapsWithSole [tg] e pos.line X.env=pure false:=by rfl)(d:swappedStores [tg] e X.env=pure Y:=by rfl)
 (f:(assignEach [tg] X.env).map (·.2)=[assign tg X.env]:=by rfl):PS X (.Assign [tg] e pos) (XT a g):=by
 intro pins s σ H D I h;refine wpAny_Assign_stores (thn (b pins s σ H _ I h) fun v s1 ⟨x,i,j,k,l⟩=>?_) hs d;rw[f];exact thn (c pins s1 σ i x v _ j k l) fun _ s2 q=>q
def aEF{i:Nat}{x:Str}{e:Uc}{b:TE}{a:Pos}(c:X.N.Nodup)(hi:X.N[i]?=Z x)(d:Loc X.env.scope x)(f:PE X e b)(hs:swapsWith e (Z (.Name x a)) pos.line X.env=pure false:=by rfl)(g:X.fn x=true\/X.env.scope.names.lookup x=Z .local:=by first|exact .inl rfl|exact .inr rfl|assumption):
 PS X (.Assign [.Name x a] e pos) (XT b<|DN i):=by
 intro pins s σ H D I h;refine wpAny_Assign_Name (thn (f pins s σ H _ I h) fun v s1 ⟨y,j,k,l,m⟩=>?_) hs;exact iB k c hi d l (fun s2 n=>⟨_,j,n,m⟩) g
def aFu(i j:Nat)(a:TA):TS:=fun D σ H=>a σ H fun vs b=>∃v w,vs=[v,w]/\D.nx ((σ.set i<|Z v).set j (Z w)) b
def aDr{i j:Nat}{x y:Str}{a b:Uc}{n:TA}{d f pt:Pos}{kt k2 pt2}(C:X.calm=true)(r:X.N.Nodup)(hi:X.N[i]?=Z x)(E:X.N[j]?=Z y)(g:i≠j)
 (t:X.env.scope.names.lookup x=Z .local) (u:X.env.scope.names.lookup y=Z .local) (ha:PA X [a,b] n)
 (F:swappedStores [.Tuple [.Name x d,.Name y f] kt pt] (.Tuple [a,b] k2 pt2) X.env=pure (Z [x,y]))
 (hs:swapsWithSole [.Tuple [.Name x d,.Name y f] kt pt] (.Tuple [a,b] k2 pt2) pos.line X.env=pure false:=by rfl):
 PS X (.Assign [.Tuple [.Name x d,.Name y f] kt pt] (.Tuple [a,b] k2 pt2) pos) (aFu i j n):=by
 intro pins s σ H D I h;rw[exec_Assign_arm];refine A0<|Z1 ?_;rw[hs];refine A0<|A4 ?_;rw[B0 (by decide)];refine A0<|Tuple_ (thn (ha _ pins s σ H _ I h) fun us s1 ⟨vs,z,G,J,k⟩=>?_);obtain⟨v,w,L,k⟩:=k;subst L
 obtain⟨u1,c,rfl,M,l⟩:∃u1 c,us=[u1,c]/\RelV v u1/\RelV w c:=by
  cases J with
  |cons p q=>
   cases q with
   |cons O P=>
    cases P;exact⟨_,_,rfl,p,O⟩
 refine C4 ?_ (by show 2<=sizeLine;decide);have Q:Inv X pins σ z { s1 with heap:=s1.heap.push { cls:=.type "tuple",data:=.seq [u1,c].toArray } }:=G.kept (t':=s1.toks) fun b o e=>A1 _ e;rw[F];refine A0<|A4 ?_;show wpAny (model X.prog X.w) X.A (do rule "assign.swapped-stores";let items <- unpackItems (.ref s1.heap.objs.size) 2 Y;assignInOrder [fun v=>bindName X.env y v,fun v=>bindName X.env x v] items.reverse;pure Flow.next) _ _ _;refine A0<|Z7<|A0 (unpackItems_tuple (items:=#[u1,c]) (I.ok.hd C) (IsTup.new s1.heap _) fun h' m=>?_);have R:=Q.kept (h':=h') (t':=s1.toks) fun b o e=>m b o (B5<|A8 e) e;show wpAny _ _ (assignInOrder [fun v=>bindName X.env y v,fun v=>bindName X.env x v] [c,u1] >>= fun _=>pure Flow.next) _ _ _;refine A0<|U4<|Z8<|iB R r E (.inl u) l (fun s2 S=>?_) (.inr u);refine U4<|Z8<|iB S r hi (.inl t) M (fun T B=>assignInOrder_nil<|A4 ?_) (.inr t);rw[List.set_comm _ _ (F5 g)]at B;exact⟨_,z,B,k⟩
end
section
variable{X:Cx}{pos:Pos}
def QO(c:TT)(tb:TS):TS:=fun D σ H=>∃W:Nat->St->Hp->Prop,(∃m,W m σ H)/\∀m σ H,W m σ H->
 c σ H fun b d=>if b=true then ∃N:St->Hp->Prop,(∀a H',N a H'->∃e,e<m/\W e a H')/\tb { D with nx:=N,ct:=N,bk:=D.nx } σ d else D.nx σ d
def UZ{c:Uc}{e:T8}{r:TT}{tb:TS}(t:PassesOwn (model X.prog X.w) X.A X.env X.xe)(B:PT X c r)(C:PSs X e tb):PS X (.While c e [] pos) (QO r tb):=by
 intro pins s σ H D I h;obtain⟨W,⟨E,F⟩,g⟩:=h;refine wpAny_While<|codeAny_whileLoop (fun n G=>∃i H',Inv X pins i H' G/\W n i H') ?_ E ⟨σ,H,I,F⟩;rintro n s1 ⟨d,u,J,L⟩;refine S8 t (thn (B pins s1 d u _ J<|g n d u L) fun b s2 ⟨x,y,k⟩=>?_);cases b with
 |true=>
  obtain⟨N,z,k⟩:=k;rw[A7 rfl];refine S8 t (thn (C pins s2 d x _ y k) fun f M l=>?_);cases f with
  |next=>
   obtain⟨a,j,m,o⟩:=l;obtain⟨p,hm,q⟩:=z a j o;exact⟨p,hm,a,j,m,q⟩
  |cont=>
   obtain⟨a,j,m,o⟩:=l;obtain⟨p,hm,q⟩:=z a j o;exact⟨p,hm,a,j,m,q⟩
  |brk=>exact l
  |ret v=>exact l
 |false=>
  rw[B0 A6];exact Z6 ⟨d,x,y,k⟩
end
structure It where
 go:Nat->Hp->Prop
 yld:Nat->Hp->V->Hp->Prop
 stop:Nat->Hp->Prop
def nQ(X:Cx)(pins:T1)(H:Hp)(b:Ub):Prop:=
 H b=Y/\b≠X.env.locals/\b∉X.fs/\(b∈X.ex\/X.s₀.heap.objs.size<=b)/\(∀x c,X.env.cells.lookup x=Z c->c≠b)/\∀p∈X.pn++pins,p.1≠b
def Inv.fpOk{X:Cx}{pins:T1}{H':Hp}{b:Ub}(I:Inv X pins σ H s)(a:s.heap.objs.size<=b)(hn:H' b=Y):nQ X pins H' b:=by
 refine⟨hn,E1<|B6 I.lt a,I.nofs a,.inr (D9 I.sz a),fun x c e z=>?_,fun p d z=>?_⟩
 .obtain⟨v,q⟩:=I.cell x c e;exact absurd (B6 q.lt (by rw[z];exact a))<|I0 _
 .exact absurd (B6 (A8 (I.pin p d).1) (by rw[z];exact a))<|I0 _
structure Turn(P:Ud)(w:World)(K:Fg)(tg:Uc)(J:It)(fp:T9)(it:Ub)(tn:Nat->Heap->Prop):Prop where
 mem:it∈fp
 obj:∀i h,tn i h->∀b∈fp,∃o,h.get? b=Z o/\∀v,o.data≠.cell v
 keep:∀i h h',tn i h->(∀b∈fp,∀o,h.get? b=Z o->h'.get? b=Z o)->tn i h'
 item:∀(X:Cx),X.prog=P->X.w=w->X.K=K->X.calm=true->∀(i:Nat)(pins:T1)(s:Ua)(σ:St)(H:Hp)(E:T0),Inv X pins σ H s->(∀b∈fp,nQ X pins H b)->tn i s.heap->J.go i H->
  wpAny (model P w) X.A (pyNext (.ref it)) (fun r s1=>∃u,r=Z u /\
   wpAny (model P w) X.A (letOwnedTupleGo tg (.ref it) u) (fun _ s2=>∃x H',Inv X pins σ H' s2/\RelV x u/\J.yld i H x H'/\tn (i+1) s2.heap/\∀b∈fp,H' b=Y) E s1) E s
 done:∀(X:Cx),X.prog=P->X.w=w->X.K=K->X.calm=true->∀(i:Nat)(pins:T1)(s:Ua)(σ:St)(H:Hp)(E:T0),Inv X pins σ H s->(∀b∈fp,nQ X pins H b)->tn i s.heap->J.stop i H->
  wpAny (model P w) X.A (pyNext (.ref it)) (fun r s1=>r=Y/\Inv X pins σ H s1) E s
 self:∀(A:Ue)(i:Nat)(s:Ua)(Q:T0)(E:T0),tn i s.heap->Q (.ref it) s->wpAny (model P w) A (pyIter (.ref it)) Q E s
abbrev TI:=St->Hp->(It->Hp->Prop)->Prop
def PIE(X:Cx)(pins:T1)(σ:St)(tg:Uc)(R:It->Hp->Prop)(a:Tx)(s2:Ua):Prop:=
 ∃(it:Ub)(fp:T9)(tn:Nat->Heap->Prop)(J:It)(H':Hp),a=.ref it/\Inv X pins σ H' s2/\Turn X.prog X.w X.K tg J fp it tn/\tn 0 s2.heap/\(∀b∈fp,nQ X pins H' b)/\R J H'
def PI(X:Cx)(tg a:Uc)(b:TI):Prop:=
 ∀(pins:T1)(s:Ua)(σ:St)(H:Hp)(R:It->Hp->Prop),Inv X pins σ H s->b σ H R->
  wpAny (model X.prog X.w) X.A (eval a X.env) (fun v s1=>wpAny (model X.prog X.w) X.A (pyIter v) (PIE X pins σ tg R) X.xe s1) X.xe s
def JA{M:Model}{A:Ue}{E:T0}{tg:Uc}{it:Ub}{u:Tx}{o:Obj}{n:String}{vs:Ti}{Q:Unit->Ua->Prop}(b:s.heap.get? it=Z o)(c:o.cls=.type n)(hd:o.data=.fields vs)
 (hn:["enumerate","zip","dict_itemiterator","dict_reverseitemiterator","odict_iterator","itertools.zip_longest","itertools.pairwise"].contains n=false) (a:Q () s):wpAny M A (letOwnedTupleGo tg (.ref it) u) Q E s:=by
 unfold letOwnedTupleGo
 cases tg<;>first
  |exact A4 a
  |(cases u<;>first
   |exact A4 a
   | (refine A0 (wpAny_load b ?_)
      rw[c,hd];show wpAny M A (if (["enumerate","zip","dict_itemiterator","dict_reverseitemiterator","odict_iterator","itertools.zip_longest","itertools.pairwise"].contains n&&vs[0]?==Z (rawInt _))=true then _ else _) Q E s;rw[B0 (by intro h;rw[hn,Z4]at h;cases h)];exact A4 a))
def Itl(K:Fg)(a:Ub):It:=
 ⟨fun i H=>∃xs x,SqL K H a xs/\xs[i]?=Z x,fun i H x H'=>H'=H/\∀xs,SqL K H a xs->xs[i]?=Z x,fun i H=>∃xs,SqL K H a xs/\xs.length<=i⟩
def Itt(K:Fg)(a:Ub):It:=
 ⟨fun i H=>∃xs x,SqT K H a xs/\xs[i]?=Z x,fun i H x H'=>H'=H/\∀xs,SqT K H a xs->xs[i]?=Z x,fun i H=>∃xs,SqT K H a xs/\xs.length<=i⟩
noncomputable def Itr(lo:Int)(n:Nat):It:=⟨fun i _=>i<n,fun i H x H'=>H'=H/\x=.int (lo+i),fun i _=>n<=i⟩
def NI{P:Ud}{w:World}{tg:Uc}(a it:Ub):Turn P w K tg (Itl K a) [it] it (fun i h=>h.IsListIter it a i) where
 mem:=by simp
 obj:=fun i h st b hb=>by
  have e:b=it:=by simpa using hb
  subst e;obtain⟨o,e,c,d⟩:=st;exact⟨o,e,fun v z=>by rw[d]at z;cases z⟩
 keep:=fun i h h' st k=>st.at fun o e=>k it (by simp) o e
 item:=by
  intro X hP hw hK hc i pins s σ H E I hf st hg;subst hP hw hK;obtain⟨xs,x,hq,hx⟩:=hg;obtain⟨its,rv,p,hz⟩:=I.list hq;obtain⟨u,hu,ru⟩:=rv.get hx;obtain⟨f0,f1,f2,f3,f4,f5⟩:=hf it (by simp);refine wpAny_pyNext_list_item st p.isList (x:=u) (by simpa using hu) fun h' st' sb=>?_;have I1:Inv X pins σ H { s with heap:=h' }:=I.turned (t':=s.toks) (fun b o hb e=>(sb.2 b hb).trans e) f0 f1 f3 f4 f5;obtain⟨o,e,c,d⟩:=id st';exact⟨u,rfl,JA (s:={ s with heap:=h' }) e c d (by decide) ⟨x,H,I1,ru,⟨rfl,fun ys hy=>by rw[I.list_inj hy hq];exact hx⟩,st',fun b hb=>(hf b hb).1⟩⟩
 done:=by
  intro X hP hw hK hc i pins s σ H E I hf st hg;subst hP hw hK;obtain⟨xs,hq,hx⟩:=hg;obtain⟨its,rv,p,hz⟩:=I.list hq;obtain⟨f0,f1,f2,f3,f4,f5⟩:=hf it (by simp);have hl:=rv.length;exact wpAny_pyNext_list_end (I.ok.hd hc) st p.isList (by simp;omega) fun h' eb=>⟨rfl,I.turned (t':=s.toks) (fun b o hb e=>eb b o hb e) f0 f1 f3 f4 f5⟩
 self:=fun _ _ _ _ _ st h=>wpAny_pyIter_listiter st h
def IM{P:Ud}{w:World}{tg:Uc}(a it:Ub):Turn P w K tg (Itt K a) [it] it (fun i h=>h.IsTupleIter it a i) where
 mem:=by simp
 obj:=fun i h st b hb=>by
  have e:b=it:=by simpa using hb
  subst e;obtain⟨o,e,c,d⟩:=st;exact⟨o,e,fun v z=>by rw[d]at z;cases z⟩
 keep:=fun i h h' st k=>st.at fun o e=>k it (by simp) o e
 item:=by
  intro X hP hw hK hc i pins s σ H E I hf st hg;subst hP hw hK;obtain⟨xs,x,hq,hx⟩:=hg;obtain⟨its,rv,p,hz⟩:=I.tuple hq;obtain⟨u,hu,ru⟩:=rv.get hx;obtain⟨f0,f1,f2,f3,f4,f5⟩:=hf it (by simp);refine wpAny_pyNext_tuple_item st (show s.heap.IsTuple a its.toArray from p) (x:=u) (by simpa using hu) fun h' st' sb=>?_;have I1:Inv X pins σ H { s with heap:=h' }:=I.turned (t':=s.toks) (fun b o hb e=>(sb.2 b hb).trans e) f0 f1 f3 f4 f5;obtain⟨o,e,c,d⟩:=id st';exact⟨u,rfl,JA (s:={ s with heap:=h' }) e c d (by decide) ⟨x,H,I1,ru,⟨rfl,fun ys hy=>by rw[I.tuple_inj hy hq];exact hx⟩,st',fun b hb=>(hf b hb).1⟩⟩
 done:=by
  intro X hP hw hK hc i pins s σ H E I hf st hg;subst hP hw hK;obtain⟨xs,hq,hx⟩:=hg;obtain⟨its,rv,p,hz⟩:=I.tuple hq;obtain⟨f0,f1,f2,f3,f4,f5⟩:=hf it (by simp);have hl:=rv.length;exact wpAny_pyNext_tuple_end (I.ok.hd hc) st (show s.heap.IsTuple a its.toArray from p) (by simp;omega) fun h' eb=>⟨rfl,I.turned (t':=s.toks) (fun b o hb e=>eb b o hb e) f0 f1 f3 f4 f5⟩
 self:=fun _ _ _ _ _ st h=>wpAny_pyIter_tupleiter st h
def HK{P:Ud}{w:World}{tg:Uc}(it:Ub)(lo:Int)(n:Nat):Turn P w K tg (Itr lo n) [it] it (fun i h=>IsRangeIter h it (lo+(i:Nat)*1) ((n:Int)-(i:Nat)) 1) where
 mem:=by simp
 obj:=fun i h st b hb=>by
  have e:b=it:=by simpa using hb
  subst e
  exact⟨_,st,fun v z=>by
   have z':Data.fields _=Data.cell v:=z;cases z'⟩
 keep:=fun i h h' st k=>k it (by simp) _ st
 item:=by
  intro X hP hw hK hc i pins s σ H E I hf st hg;subst hP hw hK;obtain⟨f0,f1,f2,f3,f4,f5⟩:=hf it (by simp);have W:=Walks.range (prog:=X.prog) (w:=X.w) (I.ok.hd hc) it lo 1 n;refine W.item i s _ _ hg st fun v h' tk hv st' kk=>?_;obtain⟨t,rfl⟩:=hv;have I1:Inv X pins σ H { s with heap:=h',toks:=tk }:=I.turned (fun b o hb e=>kk b o (by simpa using hb) e) f0 f1 f3 f4 f5;refine⟨_,rfl,JA (s:={ s with heap:=h',toks:=tk }) (n:="range_iterator") st' rfl rfl (by decide) ⟨.int (lo+i),H,I1,⟨t,?_⟩,⟨rfl,rfl⟩,st',fun b hb=>(hf b hb).1⟩⟩;rw[Int.mul_one]
 done:=by
  intro X hP hw hK hc i pins s σ H E I hf st hg;subst hP hw hK;obtain⟨f0,f1,f2,f3,f4,f5⟩:=hf it (by simp);exact wpAny_pyNext_range_end (I.ok.hd hc) st (by have:n<=i:=hg;omega) fun h' eb=>⟨rfl,I.turned (t':=s.toks) (fun b o hb e=>eb b o hb e) f0 f1 f3 f4 f5⟩
 self:=fun _ _ _ _ _ st h=>wpAny_pyIter_rangeiter st h
section
variable{X:Cx}{tg:Uc}
def DI{pins:T1}{R:It->Hp->Prop}{E:T0}{lo hi:Int}{t u v:Tok}{tk:Nat}(I:Inv X pins σ H s)(c:-(2 ^ 62)<=lo)(d:lo<2 ^ 62)(f:-(2 ^ 62)<=hi)(g:hi<2 ^ 62)
 (q:R (Itr lo (hi-lo).toNat) H):wpAny (model X.prog X.w) X.A (pyIter (.ref s.heap.objs.size)) (PIE X pins σ tg R) E { s with heap:=s.heap.push { cls:=.type "range",data:=.fields #[.int lo t,.int hi u,.int 1 v] },toks:=tk }:=by
 refine wpAny_pyIter_range (IsRange.new ..) (small_one c d f g) ?_;have a:Inv X pins σ H { s with heap:=s.heap.push { cls:=.type "range",data:=.fields #[.int lo t,.int hi u,.int 1 v] },toks:=tk }:=I.kept fun b o e=>A1 _ e
 refine⟨(s.heap.push { cls:=.type "range",data:=.fields #[.int lo t,.int hi u,.int 1 v] }).objs.size,[(s.heap.push { cls:=.type "range",data:=.fields #[.int lo t,.int hi u,.int 1 v] }).objs.size],_,_,H,rfl,
  a.kept (t':=tk) fun b o e=>A1 _ e,HK _ lo (hi-lo).toNat,?_,fun b h=>?_,q⟩
 .have i:lo+((0:Nat):Int)*1=lo:=by simp
  have j:(((hi-lo).toNat:Nat):Int)-((0:Nat):Int)=Builtin.Range.rangeSize lo hi 1:=by rw[rangeSize_one];split<;>omega
  show IsRangeIter _ _ (lo+((0:Nat):Int)*1) ((((hi-lo).toNat:Nat):Int)-((0:Nat):Int)) 1;rw[i,j];exact B3 _ rfl
 .have e:b=(s.heap.push { cls:=.type "range",data:=.fields #[.int lo t,.int hi u,.int 1 v] }).objs.size:=by simpa using h
  subst e;exact a.fpOk (A9 _)<|a.hok.fresh<|A9 _
def aBa(a:TA):TI:=fun σ H R=>a σ H fun vs b=>∃j:Int,vs=[.int j]/\-(2 ^ 62)<=j/\j<2 ^ 62/\R (Itr 0 j.toNat) b
def aBp(a:TA):TI:=fun σ H R=>a σ H fun vs b=>∃i j:Int,vs=[.int i,.int j]/\(-(2 ^ 62)<=i/\i<2 ^ 62/\-(2 ^ 62)<=j/\j<2 ^ 62)/\R (Itr i (j-i).toNat) b
def OI{a:Uc}{c:TA}{p:Pos}(d:Gl X "range")(hm:X.mg "range"=Y)(ha:PA X [a] c)(hs:starEach [a] X.env=[(false,eval a X.env)]:=by rfl):PI X tg (.Call (.Name "range" p) [a] [] pos) (aBa c):=by
 intro pins s σ H R I h;refine Call_<|jL I d hm boot_range<|E9 (thn (ha pos pins s σ H _ I h) fun us s1 ⟨vs,l,f,g,b⟩=>?_) hs rfl;obtain⟨j,e,b,i,q⟩:=b;subst e;cases g with
 |cons r k=>
  cases k;obtain⟨t,rfl⟩:=r;exact call_range_1<|DI f (by omega) (by omega) b i (by simpa using q)
def MY{a b:Uc}{g:TA}{p pos:Pos}(k:Gl X "range")(hm:X.mg "range"=Y)(ha:PA X [a,b] g)(hs:starEach [a,b] X.env=[(false,eval a X.env),(false,eval b X.env)]:=by rfl)(c:starEach [b] X.env=[(false,eval b X.env)]:=by rfl):
 PI X tg (.Call (.Name "range" p) [a,b] [] pos) (aBp g):=by
 intro pins s σ H R I h;refine Call_<|jL I k hm boot_range<|E9 (thn (ha pos pins s σ H _ I h) fun us s1 ⟨vs,w,l,m,d⟩=>?_) (by rw[hs,c]) (by rw[c];rfl);obtain⟨i,j,e,⟨d,n,o,u⟩,q⟩:=d;subst e;cases m with
 |cons r f=>
  cases f with
  |cons v f=>
   cases f;obtain⟨t,rfl⟩:=r;obtain⟨x,rfl⟩:=v;exact call_range_2<|DI l d n o u q
def aGA(d:TI)(g:TG)(tb:TS):TS:=fun D σ H=>d σ H fun J e=>∃W:Nat->Nat->St->Hp->Prop,(∃m,W 0 m σ e)/\∀i m σ H,W i m σ H->
 (J.stop i H/\D.nx σ H)\/(J.go i H/\∃N:St->Hp->Prop,(∀a H',N a H'->∃c,c<m/\W (i+1) c a H')/\∀x H',J.yld i H x H'->g x σ H' fun b f=>tb { D with nx:=N,ct:=N,bk:=D.nx } b f)
noncomputable def uD(fp:T9)(h:Heap):T1:=fp.filterMap fun b=>(h.get? b).map fun o=>(b,o)
def gP{fp:T9}{h:Heap}{b:Ub}{o:Obj}(a:b∈fp)(e:h.get? b=Z o):(b,o)∈uD fp h:=List.mem_filterMap.mpr ⟨b,a,by rw[e];rfl⟩
def NA{fp:T9}{h:Heap}{p:Ub×Obj}(a:p∈uD fp h):p.1∈fp/\h.get? p.1=Z p.2:=by
 obtain⟨b,c,e⟩:=List.mem_filterMap.mp a;cases q:h.get? b with
 |none=>rw[q]at e;cases e
 |some o=>
  rw[q]at e;have d:(b,o)=p:=C5 e;subst d;exact⟨c,q⟩
def Inv.pinned{pins:T1}{fp:T9}(I:Inv X pins σ H s)(f:∀b∈fp,nQ X pins H b)(g:∀b∈fp,∃o,s.heap.get? b=Z o/\∀v,o.data≠.cell v):Inv X (pins++uD fp s.heap) σ H s:=
 I.pins_of fun p h=>(List.mem_append.mp h).elim (fun z=>I.pin p<|C3 _ z) fun z=>by
  obtain⟨a,e⟩:=NA z;obtain⟨i,f1,f2,_⟩:=f p.1 a;obtain⟨o,c,d⟩:=g p.1 a;rw[e]at c;cases c;exact⟨e,i,f1,f2,d⟩
def Inv.unpinned{pins a:T1}(I:Inv X (pins++a) σ H s):Inv X pins σ H s:=I.pins_of fun p b=>I.pin p<|C3 _<|J2 _ b
def aDy{c:Uc}{y:T8}{V:TI}{g:TG}{tb:TS}{pos:Pos}(C:PassesOwn (model X.prog X.w) X.A X.env X.xe)(hc:X.calm=true)(hi:PI X tg c V)(hg:PG X tg g)(j:PSs X y tb)
 (hs:∀x,foldedSetIterable c X.env x=pure x:=by intro _;rfl):PS X (.For tg c y [] pos) (aGA V g tb):=by
 intro pins s σ H D I h;refine wpAny_For (thn (hi pins s σ H _ I h) fun v s1 h1=>thn h1 fun a0 s2 h2=>?_) hs;obtain⟨it,fp,tn,J,H2,e,I2,T,O,f2,W,⟨m0,w0⟩,E⟩:=h2;subst e;have k:∀{H':Hp},(∀b∈fp,H' b=Y)->∀b∈fp,nQ X pins H' b:=fun hn b j=>⟨hn b j,(f2 b j).2⟩;refine codeAny_forLoop_any (fun n s'=>∃i l H',Inv X pins l H' s'/\tn i s'.heap/\(∀b∈fp,H' b=Y)/\W i n l H') ?_ m0 ⟨0,σ,H2,I2,O,fun b j=>(f2 b j).1,w0⟩;rintro n s3 ⟨i,p,M,I3,F,G,w3⟩;rcases E i n p M w3 with⟨stop,qn⟩|⟨go,N,hN,step⟩
 .refine S8 C (thn (T.done X rfl rfl rfl hc i pins s3 p M X.xe I3 (k G) F stop) fun r s4 ⟨P,I4⟩=>?_);subst P;exact Z6 ⟨p,M,I4,qn⟩
 .refine S8 C (thn (T.item X rfl rfl rfl hc i pins s3 p M X.xe I3 (k G) F go) fun r s4 ⟨u,P,h4⟩=>?_);subst P;refine S8 C (thn h4 fun _ s5 ⟨x,H5,I5,r5,y5,B,Q⟩=>?_);have R:=I5.pinned (k Q)<|T.obj _ _ B;refine S8 C (thn (hg _ s5 p H5 x u _ R r5<|step x H5 y5) fun _ s6 ⟨S,H6,I6,q6⟩=>?_);refine S8 C (thn (j _ s6 S H6 _ I6 q6) fun f U z=>?_)
  have again:∀{a:St}{q:Hp},Inv X (pins++uD fp s5.heap) a q U->N a q->∃m,m<n/\∃i l H',Inv X pins l H' U/\tn i U.heap/\(∀b∈fp,H' b=Y)/\W i m l H':=fun{a q} t L=>by
   obtain⟨m',hm,w7⟩:=hN a q L;refine⟨m',hm,i+1,a,q,t.unpinned,T.keep _ _ _ B fun b j o e=>(t.pin (b,o)<|C3 _<|C3 _<|gP j e).1,fun b j=>?_,w7⟩;obtain⟨o,e,d⟩:=T.obj _ _ B b j;exact(t.pin (b,o)<|C3 _<|C3 _<|gP j e).2.1
  cases f with
  |next=>obtain⟨a,q,t,L⟩:=z;exact again t L
  |cont=>obtain⟨a,q,t,L⟩:=z;exact again t L
  |brk=>obtain⟨a,q,t,z⟩:=z;exact⟨a,q,t.unpinned,z⟩
  |ret v=>obtain⟨x7,a,q,t,r7,z⟩:=z;exact⟨x7,a,q,t.unpinned,r7,z⟩
end
abbrev R2:=V->V->Hp->VK->Prop
def OpR(X:Cx)(f:Tn)(r:R2):Prop:=
 ∀(pins:T1)(s:Ua)(σ:St)(H:Hp)(x y:V)(v u:Tx)(Q:VK),Inv X pins σ H s->RelV x v->RelV y u->r x y H Q->
  wpAny (model X.prog X.w) X.A (f v u) (EP X pins σ Q) X.xe s
def UnR(X:Cx)(f:Tx->Sem Tx)(r:V->Hp->VK->Prop):Prop:=
 ∀(pins:T1)(s:Ua)(σ:St)(H:Hp)(x:V)(v:Tx)(Q:VK),Inv X pins σ H s->RelV x v->r x H Q->
  wpAny (model X.prog X.w) X.A (f v) (EP X pins σ Q) X.xe s
def eP(X:Cx)(f:Tx)(r:Td->Hp->VK->Prop):Prop:=
 ∀(pins:T1)(s:Ua)(σ:St)(H:Hp)(xs:Td)(us:T4)(Q:VK),Inv X pins σ H s->bB xs us->r xs H Q->
  wpAny (model X.prog X.w) X.A (call f us) (EP X pins σ Q) X.xe s
def aHn(X:Cx)(r:V->Hp->(Bool->Hp->Prop)->Prop):Prop:=
 ∀(pins:T1)(s:Ua)(σ:St)(H:Hp)(x:V)(v:Tx)(Q:Bool->Hp->Prop),Inv X pins σ H s->RelV x v->r x H Q->
  wpAny (model X.prog X.w) X.A (truthy v) (TP X pins σ Q) X.xe s
noncomputable def tOp(r:R2)(a tb:TE):TE:=fun σ H Q=>a σ H fun x b=>tb σ b fun y c=>r x y c Q
noncomputable def tUn(r:V->Hp->VK->Prop)(a:TE):TE:=fun σ H Q=>a σ H fun x b=>r x b Q
noncomputable def rI(C:Int->Int->Prop)(g:Int->Int->V):R2:=fun x y H Q=>∃i j,x=.int i/\y=.int j/\C i j/\Q (g i j) H
noncomputable def rI0(g:Int->Int->V):R2:=fun x y H Q=>∃i j,x=.int i/\y=.int j/\Q (g i j) H
def rU(g:Int->V):V->Hp->VK->Prop:=fun x H Q=>∃i,x=.int i/\Q (g i) H
section
variable{X:Cx}{a b c:Uc}{ta tb tc:TE}{pos:Pos}
def aEw(ha:PE X a ta)(j:PE X b tb){pins:T1}{R:V->V->Hp->Prop}(I:Inv X pins σ H s)
 (h:ta σ H fun x i=>tb σ i fun y d=>R x y d) {Q:T0} {f:Tn}
 (k:∀v u s2 x y d,Inv X pins σ d s2->RelV x v->RelV y u->R x y d->wpAny (model X.prog X.w) X.A (f v u) Q X.xe s2):
 wpAny (model X.prog X.w) X.A (eval a X.env) (fun v e=>wpAny (model X.prog X.w) X.A (eval b X.env) (fun u g=>wpAny (model X.prog X.w) X.A (f v u) Q X.xe g) X.xe e) X.xe s:=by
 refine thn (ha pins s σ H _ I h) fun v s1 ⟨x,i,l,m,n⟩=>?_;refine thn (j pins s1 σ i _ l n) fun u s2 ⟨y,d,o,p,q⟩=>?_;exact k v u s2 x y d o m p q
def aFb{op:Operator}{r:R2}(d:OpR X (binaryOp op) r)(ha:PE X a ta)(e:PE X b tb):PE X (.BinOp a op b pos) (tOp r ta tb):=by
 intro pins s σ H Q I h;exact wpAny_BinOp (aEw ha e I h fun v u s2 x y f g i j q=>d pins s2 σ f x y v u Q g i j q)
def aGB{op:UnaryOp}{r:V->Hp->VK->Prop}(d:UnR X (unaryOp op) r)(ha:PE X a ta):PE X (.UnaryOp op a pos) (tUn r ta):=by
 intro pins s σ H Q I h;exact UnaryOp_ (thn (ha pins s σ H _ I h) fun v s1 ⟨x,e,f,g,i⟩=>d pins s1 σ e x v Q f g i)
def opI{f:Tn}{C:Int->Int->Prop}{g:Int->Int->Int}
 (rule:∀(i j:Int)(t u:Tok)(s:Ua)(Q:T0)(E:T0),C i j->Q (.int (g i j) s.toks) { s with toks:=s.toks+1 }->wpAny (model X.prog X.w) X.A (f (.int i t) (.int j u)) Q E s):
 OpR X f (rI C fun i j=>.int (g i j)):=by
 intro pins s σ H x y v u Q I d e h;obtain⟨i,j,rfl,rfl,k,q⟩:=h;obtain⟨t,rfl⟩:=d;obtain⟨l,rfl⟩:=e;exact rule i j t l s _ _ k ⟨.int (g i j),H,I.tok _,⟨_,rfl⟩,q⟩
def aGa{f:Tn}{g:Int->Int->Int}
 (rule:∀(i j:Int)(t u:Tok)(s:Ua)(Q:T0)(E:T0),Q (.int (g i j) s.toks) { s with toks:=s.toks+1 }->wpAny (model X.prog X.w) X.A (f (.int i t) (.int j u)) Q E s):
 OpR X f (rI0 fun i j=>.int (g i j)):=by
 intro pins s σ H x y v u Q I d e h;obtain⟨i,j,rfl,rfl,q⟩:=h;obtain⟨t,rfl⟩:=d;obtain⟨k,rfl⟩:=e;exact rule i j t k s _ _ ⟨.int (g i j),H,I.tok _,⟨_,rfl⟩,q⟩
def aAQ{f:Tn}{g:Int->Int->Bool}
 (rule:∀(i j:Int)(t u:Tok)(s:Ua)(Q:T0)(E:T0),Q (.bool (g i j)) s->wpAny (model X.prog X.w) X.A (f (.int i t) (.int j u)) Q E s):
 OpR X f (rI0 fun i j=>.bl (g i j)):=by
 intro pins s σ H x y v u Q I d e h;obtain⟨i,j,rfl,rfl,q⟩:=h;obtain⟨t,rfl⟩:=d;obtain⟨k,rfl⟩:=e;exact rule i j t k s _ _ ⟨.bl (g i j),H,I,rfl,q⟩
def aFF(i j:Int):Prop:=0<=j/\j<=1000000/\i.natAbs<2 ^ 64
def aDT(i j:Int):Prop:=(-(2 ^ 64)<i/\i<2 ^ 64)\/(-(2 ^ 64)<j/\j<2 ^ 64)
def aDT.ok{i j:Int}(h:aDT i j):IntMulOk i j:=by
 rcases h with⟨d,e⟩|⟨d,e⟩
 .exact .of_left (intBits_le_64 d e)
 .exact .of_right (intBits_le_64 d e)
def op_add:OpR X (binaryOp .Add) (rI0 fun i j=>.int (i+j)):=aGa fun _ _ _ _ _ _ _ q=>add_int q
def aCa:OpR X (binaryOp .Sub) (rI0 fun i j=>.int (i-j)):=aGa fun _ _ _ _ _ _ _ q=>sub_int q
def aCs:OpR X (binaryOp .Mod) (rI (fun _ j=>0<j) fun i j=>.int (i % j)):=opI fun i j _ _ _ _ _ d q=>by
 have e:(0:Int)<j:=d;exact mod_int' (by omega) (by rw[Int.fmod_eq_emod_of_nonneg i (by omega)];exact q)
def aEm:OpR X (binaryOp .Pow) (rI aFF fun i j=>.int (i ^ j.toNat)):=opI fun _ _ _ _ _ _ _ d q=>pow_int_small d.1 d.2.1 d.2.2 q
def unI{f:Tx->Sem Tx}{g:Int->Int}
 (rule:∀(i:Int)(t:Tok)(s:Ua)(Q:T0)(E:T0),Q (.int (g i) s.toks) { s with toks:=s.toks+1 }->wpAny (model X.prog X.w) X.A (f (.int i t)) Q E s):
 UnR X f (rU fun i=>.int (g i)):=by
 intro pins s σ H x v Q I d h;obtain⟨i,rfl,q⟩:=h;obtain⟨t,rfl⟩:=d;exact rule i t s _ _ ⟨.int (g i),H,I.tok _,⟨_,rfl⟩,q⟩
def aCX:UnR X (unaryOp .USub) (rU fun i=>.int (-i)):=unI fun _ _ _ _ _ q=>neg_int q
end
noncomputable def aGl:V->V->Bool
 |.non,.non=>true|.non,.int _=>true|.int _,.non=>true|.non,.bl _=>true|.bl _,.non=>true|.non,.str _=>true|.str _,.non=>true
 |.int _,.int _=>true|.bl _,.bl _=>true|.str _,.str _=>true|.byt _,.byt _=>true
 |.int _,.str _=>true|.str _,.int _=>true|.bl _,.str _=>true|.str _,.bl _=>true
 |_,_=>false
def rEq:R2:=fun x y H Q=>aGl x y=true/\Q (.bl (decide (x=y))) H
def rNe:R2:=fun x y H Q=>aGl x y=true/\Q (.bl (!decide (x=y))) H
def JZ{i j:Int}:decide (V.int i=V.int j)=(i==j):=by
 rw[U8];simp
def RV{i j:Bool}:decide (V.bl i=V.bl j)=(i==j):=by
 rw[U8];simp
def JK{i j:Str}:decide (V.str i=V.str j)=(i==j):=by
 rw[U8];simp
def LC{i j:Array UInt8}:decide (V.byt i=V.byt j)=(i.toList==j.toList):=by
 rw[U8];cases i;cases j;simp
section
variable{X:Cx}{a b c:Uc}{ta tb tc:TE}{pos:Pos}
def bZ{pins:T1}{Q:VK}{k d:Bool}(I:Inv X pins σ H s)(q:Q (.bl k) H)(e:k=d):EP X pins σ Q (.bool d) s:=by
 subst e;exact⟨.bl k,H,I,rfl,q⟩
def op_eq:OpR X (compareOp .Eq) rEq:=by
 intro pins s σ H x y v u Q I f d h;obtain⟨hs,q⟩:=h;cases x with
 |non=>
  cases f;cases y with
  |non=>cases d;exact PySem.EqNone.eq_none_none<|bZ I q (by simp)
  |bl j=>cases d;exact PySem.EqNone.eq_none_bool<|bZ I q (by simp)
  |int j=>obtain⟨e,rfl⟩:=d;exact PySem.EqNone.eq_none_int<|bZ I q (by simp)
  |str j=>obtain⟨e,rfl⟩:=d;exact PySem.EqNone.eq_none_str<|bZ I q (by simp)
  |_=>exact absurd (show false=true from hs) A6
 |bl i=>
  cases f;cases y with
  |non=>cases d;exact PySem.EqNone.eq_bool_none<|bZ I q (by simp)
  |bl j=>cases d;exact eq_bool<|bZ I q RV
  |str j=>obtain⟨e,rfl⟩:=d;exact PySem.EqMixed.eq_bool_str<|bZ I q (by simp)
  |_=>exact absurd (show false=true from hs) A6
 |int i=>
  obtain⟨t,rfl⟩:=f;cases y with
  |non=>cases d;exact PySem.EqNone.eq_int_none<|bZ I q (by simp)
  |int j=>obtain⟨e,rfl⟩:=d;exact eq_int<|bZ I q JZ
  |str j=>obtain⟨e,rfl⟩:=d;exact PySem.EqMixed.eq_int_str<|bZ I q (by simp)
  |_=>exact absurd (show false=true from hs) A6
 |str i=>
  obtain⟨t,rfl⟩:=f;cases y with
  |non=>cases d;exact PySem.EqNone.eq_str_none<|bZ I q (by simp)
  |bl j=>cases d;exact PySem.EqMixed.eq_str_bool<|bZ I q (by simp)
  |int j=>obtain⟨e,rfl⟩:=d;exact PySem.EqMixed.eq_str_int<|bZ I q (by simp)
  |str j=>obtain⟨e,rfl⟩:=d;exact eq_str<|bZ I q JK
  |_=>exact absurd (show false=true from hs) A6
 |byt i=>
  obtain⟨t,rfl⟩:=f;cases y with
  |byt j=>obtain⟨e,rfl⟩:=d;exact W.eq_bytes<|bZ I q LC
  |_=>exact absurd (show false=true from hs) A6
 |_=>cases y<;>exact absurd (show false=true from hs) A6
def op_ne:OpR X (compareOp .NotEq) rNe:=by
 intro pins s σ H x y v u Q I f d h;obtain⟨hs,q⟩:=h;cases x with
 |non=>
  cases f;cases y with
  |non=>cases d;exact PySem.EqNone.ne_none_none<|bZ I q (by simp)
  |bl j=>cases d;exact PySem.EqNone.ne_none_bool<|bZ I q (by simp)
  |int j=>obtain⟨e,rfl⟩:=d;exact PySem.EqNone.ne_none_int<|bZ I q (by simp)
  |str j=>obtain⟨e,rfl⟩:=d;exact PySem.EqNone.ne_none_str<|bZ I q (by simp)
  |_=>exact absurd (show false=true from hs) A6
 |bl i=>
  cases f;cases y with
  |non=>cases d;exact PySem.EqNone.ne_bool_none<|bZ I q (by simp)
  |bl j=>cases d;exact ne_bool<|bZ I q<|U5 not RV
  |str j=>obtain⟨e,rfl⟩:=d;exact PySem.EqMixed.ne_bool_str<|bZ I q (by simp)
  |_=>exact absurd (show false=true from hs) A6
 |int i=>
  obtain⟨t,rfl⟩:=f;cases y with
  |non=>cases d;exact PySem.EqNone.ne_int_none<|bZ I q (by simp)
  |int j=>obtain⟨e,rfl⟩:=d;exact ne_int<|bZ I q<|U5 not JZ
  |str j=>obtain⟨e,rfl⟩:=d;exact PySem.EqMixed.ne_int_str<|bZ I q (by simp)
  |_=>exact absurd (show false=true from hs) A6
 |str i=>
  obtain⟨t,rfl⟩:=f;cases y with
  |non=>cases d;exact PySem.EqNone.ne_str_none<|bZ I q (by simp)
  |bl j=>cases d;exact PySem.EqMixed.ne_str_bool<|bZ I q (by simp)
  |int j=>obtain⟨e,rfl⟩:=d;exact PySem.EqMixed.ne_str_int<|bZ I q (by simp)
  |str j=>obtain⟨e,rfl⟩:=d;exact ne_str<|bZ I q<|U5 not JK
  |_=>exact absurd (show false=true from hs) A6
 |byt i=>
  obtain⟨t,rfl⟩:=f;cases y with
  |byt j=>obtain⟨e,rfl⟩:=d;exact W.ne_bytes<|bZ I q<|U5 not LC
  |_=>exact absurd (show false=true from hs) A6
 |_=>cases y<;>exact absurd (show false=true from hs) A6
def op_lt:OpR X (compareOp .Lt) (rI0 fun i j=>.bl (decide (i<j))):=aAQ fun _ _ _ _ _ _ _ q=>lt_int q
def aFe:OpR X (compareOp .LtE) (rI0 fun i j=>.bl (decide (i<=j))):=aAQ fun _ _ _ _ _ _ _ q=>le_int q
def aFN:OpR X (compareOp .Gt) (rI0 fun i j=>.bl (decide (j<i))):=aAQ fun _ _ _ _ _ _ _ q=>gt_int q
def aFY:OpR X (compareOp .GtE) (rI0 fun i j=>.bl (decide (j<=i))):=aAQ fun _ _ _ _ _ _ _ q=>ge_int q
def OpR.or{f:Tn}{r d:R2}(h:OpR X f r)(h':OpR X f d):OpR X f (fun x y H Q=>r x y H Q\/d x y H Q):=by
 intro pins s σ H x y v u Q I e g q;rcases q with q|q
 .exact h pins s σ H x y v u Q I e g q
 .exact h' pins s σ H x y v u Q I e g q
def aAj{op:CmpOp}{r:R2}(d:OpR X (compareOp op) r)(ha:PE X a ta)(e:PE X b tb)(hm:behindInMarks op b=false):PE X (.Compare a [op] [b] pos) (tOp r ta tb):=by
 intro pins s σ H Q I h;exact wpAny_Compare1 (aEw ha e I h fun v u s2 x y f g i j q=>d pins s2 σ f x y v u Q g i j q) hm
noncomputable def aBr(t:TE):TT:=fun σ H Q=>t σ H fun x H'=>∃k,x=.bl k/\Q k H'
def YL{op:CmpOp}{r:R2}(d:OpR X (compareOp op) r)(ha:PE X a ta)(f:PE X b tb)(hm:behindInMarks op b=false):PT X (.Compare a [op] [b] pos) (aBr<|tOp r ta tb):=by
 intro pins s σ H Q I h
 refine wpAny_isTrue_Compare1 (thn (ha pins s σ H _ I h) fun v s1 ⟨x,g,i,j,l⟩=>thn (f pins s1 σ g _ i l) fun u s2 ⟨y,m,n,o,p⟩=>
  thn (d pins s2 σ m x y v u _ n j o p) fun c C ⟨z,q,t,w,k,e,B⟩=>?_) hm
 subst e;cases w;exact J5 ⟨q,t,B⟩
noncomputable def QE(r e:R2)(ta tb tc:TE):TE:=fun σ H Q=>ta σ H fun x f=>tb σ f fun y g=>r x y g fun z d=>∃k,z=.bl k /\
 (if k=true then tc σ d fun h i=>e y h i Q else Q (.bl false) d)
def TR{op f:CmpOp}{r i:R2}(o:OpR X (compareOp op) r)(g:OpR X (compareOp f) i)(ha:PE X a ta)(p:PE X b tb)(q:PE X c tc)
 (hm:lastMarks [op,f] [b,c]=false:=by with_unfolding_all rfl):PE X (.Compare a [op,f] [b,c] pos) (QE r i ta tb tc):=by
 intro pins s σ H Q I h
 refine Compare_chain (thn (ha pins s σ H _ I h) fun v s1 ⟨x,t,w,B,C⟩=>chain_link (thn (p pins s1 σ t _ w C) fun u s2 ⟨y,D,E,j,F⟩=>
  thn (o pins s2 σ D x y v u _ E B j F) fun d G ⟨z,l,m,J,k,e,n⟩=>?_)) hm
 subst e;cases J;refine J5 ?_;cases k with
 |false=>exact ite_ff ⟨.bl false,l,m,rfl,n⟩
 |true=>exact ite_tt<|chain_last (thn (q pins G σ l _ m n) fun L M ⟨N,O,P,R,S⟩=>g pins M σ O y N u L Q P j R S)
def aAp(K:Fg)(x:V)(H:Hp)(k:Bool):Prop:=
 match x with
 |.non=>k=false
 |.bl b=>k=b
 |.int i=>k=(i != 0)
 |.str y=>y.length<=sizeLine/\k=((y.length:Int) != 0)
 |.byt y=>y.size<=sizeLine/\k=((y.size:Int) != 0)
 |.ref p=>(∃xs,SqL K H p xs/\k=!xs.isEmpty)\/(∃xs,SqT K H p xs/\k=!xs.isEmpty)\/∃kvs,H p=Z (.dK kvs)/\k=!kvs.isEmpty
 |_=>False
def IK{d:Type}{kvs:Tv (d×V)}{vs:Tv (d×Tx)}(r:KV kvs vs):(!vs.isEmpty)=!kvs.isEmpty:=by
 cases r<;>rfl
def wL{xs:Td}{its:T4}(r:bB xs its):(!its.toArray.isEmpty)=!xs.isEmpty:=by
 cases r<;>simp
def xJ:(sizeLine:Nat)<2 ^ 63:=by rw[E6];decide
def aCY:aHn X (fun x H Q=>∃k,aAp X.K x H k/\Q k H):=by
 intro pins s σ H x v Q I g h;obtain⟨k,e,q⟩:=h;have z:=xJ;have hs:sizeLine=16777216:=E6;cases x with
 |non=>
  cases g;have d:k=false:=e;subst d;exact truthy_none ⟨H,I,q⟩
 |bl b=>
  cases g;have d:k=b:=e;subst d;exact J5 ⟨H,I,q⟩
 |int i=>
  obtain⟨t,rfl⟩:=g;have d:k=(i != 0):=e;subst d;exact PySem.P.truthy_int ⟨H,I,q⟩
 |str y=>
  obtain⟨t,rfl⟩:=g;obtain⟨u,d⟩:y.length<=sizeLine/\k=((y.length:Int) != 0):=e;subst d;exact PySem.P.truthy_str (by omega) ⟨H,I.tok _,q⟩
 |byt y=>
  obtain⟨t,rfl⟩:=g;obtain⟨u,d⟩:y.size<=sizeLine/\k=((y.size:Int) != 0):=e;subst d;exact W.truthy_bytes (by omega) ⟨H,I.tok _,q⟩
 |ref p=>
  cases g;have d:(∃xs,SqL X.K H p xs/\k=!xs.isEmpty)\/(∃xs,SqT X.K H p xs/\k=!xs.isEmpty)\/∃kvs,H p=Z (.dK kvs)/\k=!kvs.isEmpty:=e;rcases d with⟨xs,j,d⟩|⟨xs,j,d⟩|⟨kvs,j,d⟩
  .subst d;obtain⟨l,r,n,o⟩:=I.list j;have f:=r.length;exact wpAny_truthy_list n.isList (by simp only[List.size_toArray];omega) ⟨H,I.tok _,by rw[wL r];exact q⟩
  .subst d;obtain⟨l,r,n,o⟩:=I.tuple j;have f:=r.length;exact truthy_tuple n (by simp only[List.size_toArray];omega) ⟨H,I.tok _,by rw[wL r];exact q⟩
  .subst d;obtain⟨o,hS,vs,r,m⟩:kvs.length<=sizeLine/\(p==sysModules)=false/\∃vs,KV kvs vs/\s.heap.DictOf (dM X.prog X.w) p vs:=I.hok p _ j;have f:kvs.length=vs.length:=Z0 r;exact wpAny_truthy_dict hS m (by omega) ⟨H,I.tok _,by rw[IK r];exact q⟩
 |_=>exact(show False from e).elim
def RL(ha:PE X a ta)(e:∀d,isTrue a X.env d=(do let v <- d;standAt a.pos;holding [v]<|truthy v)):
 PT X a (fun σ H Q=>ta σ H fun x H'=>∃k,aAp X.K x H' k/\Q k H'):=by
 intro pins s σ H Q I h;exact isTrue_plain (thn (ha pins s σ H _ I h) fun v s1 ⟨x,f,g,i,j⟩=>aCY pins s1 σ f x v Q g i j)<|e _
def vals1{x:V}{us:T4}(r:bB [x] us):∃u,us=[u]/\RelV x u:=by
 cases r with
 |cons d e=>cases e;exact⟨_,rfl,d⟩
def vals2{x y:V}{us:T4}(r:bB [x,y] us):∃u d,us=[u,d]/\RelV x u/\RelV y d:=by
 cases r with
 |cons e f=>
  cases f with
  |cons g h=>cases h;exact⟨_,_,rfl,e,g⟩
def NJ(e:X.calm=true):eP X (.builtin "max") (fun xs H Q=>∃i j,xs=[.int i,.int j]/\Q (.int (if j > i then j else i)) H):=by
 intro pins s σ H xs us Q I r h;obtain⟨i,j,rfl,q⟩:=h;obtain⟨u,f,rfl,⟨t,rfl⟩,⟨g,rfl⟩⟩:=vals2 r;refine max_two_ints (I.ok.hd e) fun h' l k=>⟨_,H,I.kept k,?_,q⟩;by_cases d:j > i
 .rw[A7 d,A7 d];exact⟨_,rfl⟩
 .rw[B0 d,B0 d];exact⟨_,rfl⟩
def LP(e:X.calm=true):eP X (.builtin "min") (fun xs H Q=>∃i j,xs=[.int i,.int j]/\Q (.int (if j<i then j else i)) H):=by
 intro pins s σ H xs us Q I r h;obtain⟨i,j,rfl,q⟩:=h;obtain⟨u,f,rfl,⟨t,rfl⟩,⟨g,rfl⟩⟩:=vals2 r;refine min_two_ints (I.ok.hd e) fun h' l k=>⟨_,H,I.kept k,?_,q⟩;by_cases d:j<i
 .rw[A7 d,A7 d];exact⟨_,rfl⟩
 .rw[B0 d,B0 d];exact⟨_,rfl⟩
def NO:eP X (.type "int") (fun xs H Q=>(∃i,xs=[.int i]/\Q (.int i) H)\/∃k,xs=[.bl k]/\Q (.int (if k then 1 else 0)) H):=by
 intro pins s σ H xs us Q I r h;rcases h with⟨i,rfl,q⟩|⟨k,rfl,q⟩
 .obtain⟨u,rfl,t,rfl⟩:=vals1 r;exact call_int_int ⟨.int i,H,I,⟨_,rfl⟩,q⟩
 .obtain⟨u,rfl,d⟩:=vals1 r;cases d;exact call_int_bool ⟨.int (if k then 1 else 0),H,I.tok _,⟨_,rfl⟩,q⟩
end
structure OD(h:Heap)(x dx C:Ub)(mA:Str->Tf):Prop where
 obj:h.get? x=Z (W.instObj C dx)
 ns:h.Ns1 dx mA
 ne:dx≠x
def NU{h:Heap}{dx:Ub}{mA:Str->Tf}(n:h.Ns1 dx mA):∃od,h.get? dx=Z od/\∀name,W.lookIn name od=Z (mA name):=by
 obtain⟨o,es,ep,c,hd,d,_,hm⟩:=n;refine⟨o,c,fun name=>?_⟩;have e:=hm name;unfold nsFind findBy at e;rw[<- Array.find?_toList]at e;unfold W.lookIn;rw[hd];dsimp only;split
 .rename_i y q;rw[q]at e;exact U5 Z e
 .rename_i q;rw[q]at e
  have a:es.toList.any (·.refKey)=false:=by
   rw[List.any_eq_false];intro y f;obtain⟨z,t,b⟩:=d y<|Array.mem_toList_iff.mp f;simp[DictEntry.refKey,b]
  have g:¬es.toList.any (·.refKey)=true:=by rw[a];exact A6
  rw[B0 g];exact U5 Z e
def OD.look{h:Heap}{x dx C:Ub}{mA:Str->Tf}(I:OD h x dx C mA):∃od,W.InstAt h x (W.instObj C dx) C (Z od)/\∀name,W.lookIn name od=Z (mA name):=
 let⟨od,a,b⟩:=NU I.ns
 ⟨od,⟨I.obj,rfl,rfl,a⟩,b⟩
section
variable{prog:Ud}{w:World}{A:Ue}{E:T0}{s:Ua}{K:Fg}{x dx C f:Ub}{mA:Str->Tf}{name:Str}{v:Tx}
def get_map{a:Bool}{Q:T0}(X:K.In s.heap)(I:OD s.heap x dx C mA)(c:W.plainGet K C name=true)(d:W.hasDictIn K C=true)
 (ha:W.findIn K (.ref C) name=Z Y) (e:mA name=Z v) (b:W.handedIn v=true) (h:Q v { s with toks:=s.toks+1 }):
 wpAny (model prog w) A (getAttr (.ref x) name a) Q E s:=by
 obtain⟨od,J,g⟩:=I.look;exact W.get_value X J (W.plainGet_of c).1 (W.findObj_own d ha rfl (by rw[g,e])) b h
def ZT{ns:Tc}{Q:Unit->Ua->Prop}(X:K.In s.heap)(I:OD s.heap x dx C mA)
 (hs:W.findIn K (.ref C) "__setattr__"=Z (Z (.builtin "object.__setattr__"))) (k:W.plainOver K C=true) (ht:W.takerIn K C name=Z Y) (l:W.hasDictIn K C=true)
 (m:PySem.Within mA ns) (hsz:ns.length<=sizeLine)
 (h:∀h',OD h' x dx C (fun y=>if y=name then Z v else mA y)->Heap.SameBut dx s.heap h'->Q () { s with heap:=h',toks:=s.toks+2 }):
 wpAny (model prog w) A (setAttr (.ref x) name v) Q E s:=by
 obtain⟨od,J,t⟩:=I.look;refine W.set_plain X J hs (W.osa_open (s:={ s with toks:=s.toks+1 }) (r:=Y) X J k ht fun b=>?_);obtain⟨u,n,e⟩:=W.any_some l;have o:s.heap.get? x=Z ⟨.ref C,Z dx,.plain,#[]⟩:=I.obj;refine A0<|A4<|A0<|A0<|wpAny_loadPart o<|A0<|W.Looks.here (s:={ s with toks:=s.toks+1 }) (W.looks_clsIn X n) ?_;rw[e];refine A4 (a:=Z dx)<|A0<|A4<|A0 ?_;refine wpAny_nsSet1 (s:={ s with toks:=s.toks+1 }) I.ns fun h' c d=>?_;obtain⟨z,p,q,g,i,j⟩:=c.count<|PySem.Within.cons name v m;refine A0<|wpAny_lookBehind g (by rw[i];exact pastItsLine_dict<|D9 j (by rw[E5];omega)) ?_;exact A4<|h _ ⟨(d.2 _<|F5 I.ne).trans I.obj,c,I.ne⟩ d
def VG{R:Result->Ua->Prop}{vs:T4}{a:Tt}(X:K.In s.heap)(hm:W.makesIn K C=true)
 (hi:W.findIn K (.ref C) "__init__"=Z (Z (.ref f))) (b:W.typeIn K (.ref f)=Z (.type "function"))
 (h:codeAny (model prog w) (A.under (.builtin "type.__call__" ⟨.ref C::vs,a⟩)) (.call (.ref f) ⟨.ref (s.heap.objs.size+1)::vs,a⟩) (W.InitBack (s.heap.objs.size+1) R)
  { s with heap:=(s.heap.push W.emptyDict).push (W.instObj C s.heap.objs.size) }):
 codeAny (model prog w) A (.call (.ref C) ⟨vs,a⟩) R s:=by
 obtain⟨c,g,d,t,os⟩:=s;exact W.make_core (W.makes_of X hm) (W.looks_findIn X hi) (fun self=>W.bind_fn X self b) (.inl rfl) h
end
noncomputable def mT(f:Str)(v:V):Tv (Str×V)->Tv (Str×V)
 |[]=>[(f,v)]
 |(g,x)::r=>if g=f then(g,v)::r else(g,x)::mT f v r
def uI(f g:Str)(v:V):∀fs:Tv (Str×V),(mT f v fs).lookup g=if g=f then Z v else fs.lookup g
 |[]=>by
  show List.lookup g [(f,v)]=_;by_cases h:g=f
  .have a:(g==f)=true:=beq_iff_eq.mpr h;simp only[List.lookup,a,if_pos h]
  .have a:(g==f)=false:=beq_eq_false_iff_ne.mpr h;simp only[List.lookup,a,if_neg h]
 |(k,x)::r=>by
  have ih:=uI f g v r;rw[show mT f v ((k,x)::r)=(if k=f then(k,v)::r else(k,x)::mT f v r)from rfl];by_cases b:k=f
  .rw[A7 b];by_cases h:g=k
   .have a:(g==k)=true:=beq_iff_eq.mpr h;simp only[List.lookup,a,if_pos<|h.trans b]
   .have a:(g==k)=false:=beq_eq_false_iff_ne.mpr h;simp only[List.lookup,a,if_neg (fun e:g=f=>h<|e.trans b.symm)]
  .rw[B0 b];by_cases h:g=k
   .have a:(g==k)=true:=beq_iff_eq.mpr h;simp only[List.lookup,a,if_neg (fun e:g=f=>b<|h.symm.trans e)]
   .have a:(g==k)=false:=beq_eq_false_iff_ne.mpr h;simp only[List.lookup,a];exact ih
def tM(f:Str)(v:V):∀fs:Tv (Str×V),f∈(mT f v fs).map (·.1)/\∀g,g∈fs.map (·.1)->g∈(mT f v fs).map (·.1)
 |[]=>⟨by simp[mT],fun g h=>by simp at h⟩
 |(k,x)::r=>by
  obtain⟨i1,i2⟩:=tM f v r;rw[show mT f v ((k,x)::r)=(if k=f then(k,v)::r else(k,x)::mT f v r)from rfl];by_cases a:k=f
  .rw[A7 a];subst a;exact⟨by simp,fun g h=>by simpa using h⟩
  .rw[B0 a];refine⟨?_,fun g h=>?_⟩
   .rw[C7];exact B4 _ i1
   .rw[C7]at h ⊢;rcases List.mem_cons.mp h with e|e
    .exact List.mem_cons.mpr (.inl e)
    .exact B4 _<|i2 g e
def uY(f:Str)(v:V):∀fs:Tv (Str×V),(mT f v fs).length<=fs.length+1
 |[]=>by simp[mT]
 |(k,x)::r=>by
  have ih:=uY f v r;rw[show mT f v ((k,x)::r)=(if k=f then(k,v)::r else(k,x)::mT f v r)from rfl];by_cases a:k=f
  .rw[A7 a,E5,E5];omega
  .rw[B0 a,E5,E5];omega
def uG.some_of{v:V}{o:Tf}(r:uG (Z v) o):∃u,o=Z u/\RelV v u:=by
 cases o with
 |none=>exact(show False from r).elim
 |some u=>exact⟨u,rfl,r⟩
def OA{v:V}{u:Tx}(r:RelV v u):W.handedIn u=true:=by
 cases v with
 |non=>cases (show u=Value.none from r);rfl
 |bl b=>cases (show u=Value.bool b from r);rfl
 |int i=>obtain⟨t,e⟩:=(show ∃t,u=Value.int i t from r);cases e;rfl
 |str x=>obtain⟨t,e⟩:=(show ∃t,u=Value.str x t from r);cases e;rfl
 |byt b=>obtain⟨t,e⟩:=(show ∃t,u=Value.bytes b t from r);cases e;rfl
 |flt b=>obtain⟨t,e⟩:=(show ∃t,u=Value.float b t from r);cases e;rfl
 |ref a=>cases (show u=Value.ref a from r);rfl
 |ty n=>cases (show u=Value.type n from r);rfl
section
variable{P:Ud}{w:World}{H H':Hp}{h h':Heap}{a C dx:Ub}{fs fs':Tv (Str×V)}
def JW(hok:HOk P w H h)(e:H a=Z (.ins C dx fs)):∃mA,OD h a dx C mA/\(∀f,uG (fs.lookup f)<|mA f)/\PySem.Within mA (fs.map (·.1))/\fs.length<=1000/\H dx=Z (.own a):=by
 obtain⟨d,z,ne,ob,mA,n,r,q⟩:=(show cO P w H h a (.ins C dx fs)from hok a _ e);exact⟨mA,⟨ob,n,ne⟩,r,q,z,d⟩
end
structure Cls(K:Fg)(C:Ub):Prop where
 pg:W.plainGet K C Str.empty=true
 hd:W.hasDictIn K C=true
 po:W.plainOver K C=true
 sa:W.findIn K (.ref C) "__setattr__"=Z (Z (.builtin "object.__setattr__"))
def Cls.get{C:Ub}(c:Cls K C)(f:Str):W.plainGet K C f=true:=c.pg
def gT(K:Fg)(C:Ub)(f:Str):Prop:=W.findIn K (.ref C) f=Z Y
def gT.taker{C:Ub}{f:Str}(n:gT K C f):W.takerIn K C f=Z Y:=by
 unfold W.takerIn;rw[show W.findIn K (.ref C) f=Z Y from n];rfl
section
variable{X:Cx}{pins:T1}{σ:St}{H:Hp}{s:Ua}{a C dx:Ub}{fs:Tv (Str×V)}{f:Str}{v:V}{A:Ue}{E:T0}
def IL{b:Bool}{Q:T0}(I:Inv X pins σ H s)(e:H a=Z (.ins C dx fs))(c:Cls X.K C)(n:gT X.K C f)(l:fs.lookup f=Z v)
 (h:∀u d,Inv X pins σ H d->RelV v u->Q u d):wpAny (model X.prog X.w) A (getAttr (.ref a) f b) Q E s:=by
 obtain⟨mA,O,r,_,_,_⟩:=JW I.hok e;obtain⟨u,i,g⟩:=uG.some_of (v:=v) (o:=mA f) (by rw[<- l];exact r f);exact get_map I.kIn O (c.get f) c.hd n i (OA g)<|h u _ (I.tok _) g
def IF{y:V}{u:Tx}{Q:Unit->Ua->Prop}(I:Inv X pins σ H s)(e:H a=Z (.ins C dx fs))(c:Cls X.K C)(n:gT X.K C f)(F:fs.length<1000)(l:RelV y u)
 (h:∀i,Inv X pins σ (upd H a (.ins C dx (mT f y fs))) i->Q () i):wpAny (model X.prog X.w) A (setAttr (.ref a) f u) Q E s:=by
 obtain⟨mA,O,r,j,_,k⟩:=JW I.hok e;have m:(fs.map (·.1)).length<=sizeLine:=by rw[A3,E6];omega
 refine ZT I.kIn O c.sa c.po n.taker c.hd j m fun h' d p=>h _ ?_;have hd:∃o,h'.get? dx=Z o:=let⟨o,_,_,t,_⟩:=d.ns;⟨o,t⟩;refine I.write (x:=a) (e:=dx) (by rw[e];exact True.intro) (.inr k) (fun b q B z=>(p.2 b B).trans z) hd ?_;refine⟨by rw[aN O.ne];exact k,?_,O.ne,d.obj,_,d.ns,fun g=>?_,fun g D=>?_⟩
 .have:=uY f y fs;omega
 .show uG ((mT f y fs).lookup g) (if g=f then Z u else mA g);rw[uI];by_cases q:g=f
  .rw[A7 q,A7 q];exact l
  .rw[B0 q,B0 q];exact r g
 .by_cases q:g=f
  .rw[q];exact(tM f y fs).1
  .refine(tM f y fs).2 g (j g fun z=>D ?_);show(if g=f then Z u else mA g)=Y;rw[B0 q];exact z
def Inv.made(I:Inv X pins σ H s):Inv X pins σ (upd (upd H s.heap.objs.size (.own (s.heap.objs.size+1))) (s.heap.objs.size+1) (.ins C s.heap.objs.size []))
 { s with heap:=(s.heap.push W.emptyDict).push (W.instObj C s.heap.objs.size) }:=by
 have c:(s.heap.push W.emptyDict).get? s.heap.objs.size=Z W.emptyDict:=B3 s.heap rfl
 have d:((s.heap.push W.emptyDict).push (W.instObj C s.heap.objs.size)).get? (s.heap.objs.size+1)=Z (W.instObj C s.heap.objs.size):=by
  have:=B3 (s.heap.push W.emptyDict) (o:=W.instObj C s.heap.objs.size) rfl
  rwa [S0]at this
 have g:(s.heap.push W.emptyDict).Ns s.heap.objs.size (fun _=>Y):=⟨W.emptyDict,#[],_,c,rfl,(fun e h=>absurd h (by simp)),fun _=>rfl⟩;have i:=I.laid (a:=s.heap.objs.size) (o:=.own (s.heap.objs.size+1)) (h':=s.heap.push W.emptyDict) (t':=s.toks) (fun b u q=>A1 _ q) (A9 _) ⟨_,c⟩;refine i.laid (a:=s.heap.objs.size+1) (o:=.ins C s.heap.objs.size []) (t':=s.toks) (fun b u q=>A1 _ q) (Y8<|S0 _ _) ?_;have ne:s.heap.objs.size≠s.heap.objs.size+1:=B5<|J3 _;refine⟨by rw[aN ne,aS],L8 _,ne,d,fun _=>Y,(Heap.Ns1.of_empty g).at fun o q=>A1 _ q,fun _=>True.intro,fun y j=>absurd rfl j⟩
def aAu{prog:Ud}{w:World}{env:Env}{e:Uc}{f:Str}{pos:Pos}{s:Ua}{Q:T0}(c:attributeBase e f env (eval e env)=eval e env)
 (h:wpAny (model prog w) A (eval e env) (fun o b=>wpAny (model prog w) A (getAttr o f true) Q E b) E s):wpAny (model prog w) A (eval (.Attribute e f pos) env) Q E s:=
 Attribute_any_ h (by rw[arm_eval_Attribute,c])
end
def aFk(K:Fg)(c:TE)(f:Str):TE:=fun σ H Q=>c σ H fun x b=>∃a C dx fs v,x=.ref a/\b a=Z (.ins C dx fs)/\Cls K C/\gT K C f/\fs.lookup f=Z v/\Q v b
def aFq(K:Fg)(c d:TE)(f:Str):TS:=fun D σ H=>d σ H fun y e=>c σ e fun x b=>∃a C dx fs,x=.ref a/\b a=Z (.ins C dx fs)/\Cls K C/\gT K C f/\fs.length<1000 /\
 D.nx σ (upd b a (.ins C dx (mT f y fs)))
section
variable{X:Cx}{o e value:Uc}{f:Str}{pos pos' tpos:Pos}{ta tv:TE}
def aDN(b:PE X e ta)(d:attributeBase e f X.env (eval e X.env)=eval e X.env):PE X (.Attribute e f pos) (aFk X.K ta f):=by
 intro pins s σ H Q I h;refine aAu d (thn (b pins s σ H _ I h) fun u s1 ⟨x,g,i,j,a,C,dx,fs,v,ex,k,c,n,l,q⟩=>?_);subst ex;obtain rfl:u=Value.ref a:=j;exact IL i k c n l fun r s2 m p=>⟨v,g,m,p,q⟩
def aCn(ha:PE X o ta)(b:PE X value tv)(hs:swapsWith value (Z (.Attribute o f pos')) pos.line X.env=pure false):PS X (.Assign [.Attribute o f pos'] value pos) (aFq X.K ta tv f):=by
 intro pins s σ H D I h;refine plainObj_wpAny_Assign_Attribute (thn (b pins s σ H _ I h) fun u s1 ⟨y,d,g,i,q⟩=>thn (ha pins s1 σ d _ g q) fun j s2 ⟨x,v,k,m,a,C,dx,fs,ex,p,c,n,l,r⟩=>?_) hs;subst ex;obtain rfl:j=Value.ref a:=m;exact IF k p c n l i fun w t=>⟨σ,_,t,r⟩
end
structure cL(k:Nat)(A:Ue)(q:Bool:=true):Prop where
 hd:q=true->A.handled=Y
 dp:A.depth+3*k+5<recursionLimit
 un:A.units+16*k+200<cLine
 gd:A.guards=Z []
def cL.mono{j k:Nat}{q:Bool}(r:cL k A q)(h:j<=k):cL j A q:=⟨r.hd,by have:=r.dp;omega,by have:=r.un;omega,r.gd⟩
def cL.deeper{k:Nat}{q:Bool}(r:cL (k+1) A q)(env:Env):cL k (A.deeper env) q:=
 ⟨r.hd,by have:=r.dp;show A.depth+1+3*k+5<_;omega,by have:=r.un;show A.units+3+16*k+200<_;omega,r.gd⟩
def IU{C:Ub}{us:T4}{a:Tt}:(A.under (.builtin "type.__call__" ⟨.ref C::us,a⟩)).depth=A.depth+1:=by
 first|rfl|simp[Around.under,Code.weight,Code.isCreation,Code.isGuard,Code.isCaller,Code.frames,Code.isFrame,guardIds]
def IS{C:Ub}{us:T4}{a:Tt}:(A.under (.builtin "type.__call__" ⟨.ref C::us,a⟩)).units=A.units+1:=by
 first|rfl|simp[Around.under,Code.cUnits,Code.frames,Code.isFrame]
def EU{C:Ub}{us:T4}{a:Tt}:(A.under (.builtin "type.__call__" ⟨.ref C::us,a⟩)).guards=A.guards:=by
 first|rfl|simp[Around.under,Code.guards,pushGuards,Code.isGuard,guardIds]|(unfold Around.under;cases A.guards<;>rfl)
def cL.make{k:Nat}{q:Bool}(r:cL (k+1) A q)(C:Ub)(us:T4)(a:Tt):cL k (A.under (.builtin "type.__call__" ⟨.ref C::us,a⟩)) q:=
 ⟨r.hd,by have:=r.dp;rw[IU];omega,by have:=r.un;rw[IS];omega,by rw[EU];exact r.gd⟩
def cL.depth{k:Nat}{q:Bool}(r:cL k A q):A.depth<recursionLimit:=by have:=r.dp;omega
def cL.units{k:Nat}{q:Bool}(r:cL k A q):A.units+64<cLine:=by have:=r.un;omega
noncomputable def ER:TA:=fun _ H Q=>Q [] H
noncomputable def qG(a:TE)(tr:TA):TA:=fun σ H Q=>a σ H fun x b=>tr σ b fun xs c=>Q (x::xs) c
section
variable{X:Cx}{e:Uc}{es:T7}{te:TE}{t:TA}{pos:Pos}
def xS:PA X [] ER:=fun _ _ _ _ H Q I h=>Calls.spliced_nil ⟨[],H,I,.nil,h⟩
def iO(ha:PE X e te)(a:PA X es t)(hs:starEach (e::es) X.env=(false,eval e X.env)::starEach es X.env:=by rfl):PA X (e::es) (qG te t):=by
 intro pos pins s σ H Q I h;rw[hs];show wpAny _ _ (spliced ((false,eval e X.env)::backTo pos (starEach es X.env))) _ _ s;refine Calls.spliced_cons (thn (ha pins s σ H _ I h) fun u s1 ⟨x,b,c,d,f⟩=>?_);exact thn (a pos pins s1 σ b _ c f) fun us s2 ⟨xs,g,i,j,k⟩=>⟨x::xs,g,i,.cons d j,k⟩
def SR(t:TA):TE:=fun σ H Q=>t σ H fun xs a=>xs.length<=sizeLine/\∀p,a p=Y->Q (.ref p) (upd a p (.tup xs))
def aCb(t:TA):TE:=fun σ H Q=>t σ H fun xs a=>xs.length<=sizeLine/\∀p,a p=Y->Q (.ref p) (upd a p (.lst xs))
def BP{x1}(h:PA X es t):PE X (.Tuple es x1 pos) (SR t):=by
 intro pins s σ H Q I d;refine wpAny_Tuple_spliced (thn (h pos pins s σ H _ I d) fun us s1 ⟨xs,a,c,r,z,q⟩=>⟨by rw[<- r.length];exact z,?_⟩);have f:a s1.heap.objs.size=Y:=c.hok.fresh<|A9 _;refine⟨.ref s1.heap.objs.size,upd a s1.heap.objs.size (.tup xs),c.laid (t':=s1.toks) (fun b u e=>A1 _ e) (A9 _) ?_,rfl,q _ f⟩;exact⟨z,us,r,⟨_,B3 _ rfl,rfl,_,rfl⟩⟩
def VI(h:PA X es t):PE X (.List es pos) (aCb t):=by
 intro pins s σ H Q I d;refine wpAny_List_spliced (thn (h pos pins s σ H _ I d) fun us s1 ⟨xs,a,c,r,z,q⟩=>⟨by rw[<- r.length];exact z,?_⟩);have f:a s1.heap.objs.size=Y:=c.hok.fresh<|A9 _;refine⟨.ref s1.heap.objs.size,upd a s1.heap.objs.size (.lst xs),c.laid (t':=s1.toks) (fun b u e=>A1 _ e) (A9 _) ?_,rfl,q _ f⟩;exact⟨z,us,0,r,B3 _ rfl⟩
end
abbrev Sp:=Td->Hp->VK->XK->Prop
abbrev CXT:=List Env->Hp->Shared->XK->Value->Shared->Prop
structure HF(P:Ud)(w:World)(K:Fg)(mg:Str->Tf)(base:Heap)(A:Ue)(outer:Tv Env)(s:Ua)(H:Hp):Prop where
 frames:A.frames=Z outer
 mod:Mod K mg base
 bs:∀b o,base.get? b=Z o->s.heap.get? b=Z o/\H b=Y
 bsz:base.objs.size<=s.heap.objs.size
 funs:s.heap.FunFrames base outer
 frf:∀b∈frs outer,H b=Y
 hok:HOk P w H s.heap
 bare:AllBare s.gens
def CE(outer:Tv Env)(P:Ud)(w:World)(H:Hp)(s:Ua)(Q:VK)(u:Tx)(a:Ua):Prop:=
 ∃v H',a.os=s.os/\AllBare a.gens/\Un (frs outer) [] H H' s.heap a.heap/\HOk P w H' a.heap/\RelV v u/\Q v H'
def CR(CX:CXT)(outer:Tv Env)(P:Ud)(w:World)(H:Hp)(s:Ua)(Q:VK)(E:XK)(r:Result)(a:Ua):Prop:=
 match r with
 |.ok (.ret u)=>CE outer P w H s Q u a
 |.ok _=>False
 |.error e=>CX outer H s E e a
structure kX(P:Ud)(w:World)(K:Fg)(mg:Str->Tf)(base:Heap)(CX:CXT)(k:Nat)(f:Ub)(fd:FuncData)(ps:Tc)(sp:Sp)(q:Bool:=true):Prop where
 len:∀vs H Q E,sp vs H Q E->vs.length=ps.length
 run:∀(A:Ue)(outer:Tv Env)(s:Ua)(H:Hp)(args:Args)(us:T4)(vs:Td)(Q:VK)(E:XK),cL k A q->HF P w K mg base A outer s H->BindsTo s fd args (ps.zip us)->bB vs us->sp vs H Q E->
  codeAny (model P w) A (.call (.ref f) args) (CR CX outer P w H s Q E) s
def HF.make{P:Ud}{w:World}{mg:Str->Tf}{base:Heap}{outer:Tv Env}(e:HF P w K mg base A outer s H)(C:Ub)(us:T4)(a:Tt):
 HF P w K mg base (A.under (.builtin "type.__call__" ⟨.ref C::us,a⟩)) outer s H:=⟨by first|exact e.frames|(simpa[Around.under,Code.envs,Code.isFrame,pushEnvs]using e.frames),e.mod,e.bs,e.bsz,e.funs,e.frf,e.hok,e.bare⟩
section
variable{X:Cx}{pins:T1}{σ:St}{H:Hp}{s s':Ua}
def Inv.env0(I:Inv X pins σ H s):HF X.prog X.w X.K X.mg X.base X.A X.stack s H:=
 ⟨I.ok.frames,I.ok.mod,I.bs,D9 I.ok.bsz I.sz,I.stack,I.stkFree,I.hok,I.bare⟩
def Inv.after{Q:VK}{u:Tx}(I:Inv X pins σ H s)(h:CE X.stack X.prog X.w H s Q u s'):EP X pins σ Q u s':=by
 obtain⟨v,H',os,bare,un,hok,r,q⟩:=h;obtain⟨c,g,d,t,a⟩:=s';obtain rfl:a=s.os:=os;exact⟨v,H',I.call (h':=c) (g':=g) (d':=d) (t':=t) (ch:=[]) un hok bare (fun b z=>absurd z (by simp)),r,q⟩
end
noncomputable def EI(sp:Sp)(a:Td)(E:XK)(t:TA):TE:=fun σ H Q=>t σ H fun vs b=>sp (vs++a) b Q E
def aBD(C:Ub)(sp:Sp)(a:Td)(E:XK)(t:TA):TE:=fun σ H Q=>t σ H fun vs b=>∀x dx,b x=Y->b dx=Y->dx≠x->
 sp (.ref x::(vs++a)) (upd (upd b dx (.own x)) x (.ins C dx [])) (fun v c=>v=.non/\Q (.ref x) c) E
def Binds(K:Fg)(fd:FuncData)(ps:Tc)(ds:T4):Prop:=
 ∀(s:Ua)(us:T4),K.In s.heap->(us++ds).length=ps.length->BindsTo s fd ⟨us,[]⟩ (ps.zip (us++ds))
def Binds.all{fd:FuncData}{ps:Tc}(h:∀us:T4,us.length=ps.length->bindArgs fd ⟨us,[]⟩=pure (ps.zip us)):Binds K fd ps []:=fun s us _ a=>by
 rw[D7]at a ⊢;exact .of_eq (h us a)
def xW(CX:CXT)(X:Cx)(E:XK):Prop:=∀(pins:T1)(σ:St)(H:Hp)(s:Ua)(e:Tx)(a:Ua),Inv X pins σ H s->CX X.stack H s E e a->X.xe e a
section
variable{X:Cx}{CX:CXT}{k:Nat}{f C:Ub}{fd:FuncData}{ps:Tc}{sp:Sp}{dvs:Td}{ds:T4}{E:XK}{x m:Str}{p pos apos:Pos}{e o:Uc}{es:T7}{ta:TE}{t:TA}
def WC{pins:T1}{σ:St}{H:Hp}{s:Ua}{Q:VK}{us:T4}{vs:Td}{q:Bool}(F:kX X.prog X.w X.K X.mg X.base CX k f fd ps sp q)(c:cL k X.A q)(d:Binds X.K fd ps ds)(hd:bB dvs ds)(g:xW CX X E)
 (I:Inv X pins σ H s) (r:bB vs us) (h:sp (vs++dvs) H Q E):wpAny (model X.prog X.w) X.A (call (.ref f) us) (EP X pins σ Q) X.xe s:=by
 have b:bB (vs++dvs) (us++ds):=r.append hd;have i:(us++ds).length=ps.length:=by rw[<- b.length];exact F.len _ _ _ _ h
 refine wpAny_call (Y3 (F.run X.A X.stack s H ⟨us,[]⟩ (us++ds) (vs++dvs) Q E c I.env0 (d s us I.kIn i) b h) fun r j a=>?_);cases r with
 |error e=>exact g pins σ H s e j I a
 |ok l=>
  cases l with
  |ret u=>exact I.after a
  |next=>exact False.elim a
  |brk=>exact False.elim a
  |cont=>exact False.elim a
def YE{q:Bool}(F:kX X.prog X.w X.K X.mg X.base CX k f fd ps sp q)(d:cL k X.A q)(g:Gl X x)(hm:X.mg x=Z (.ref f))(i:W.keepIn X.K (.ref f)=true)(j:Binds X.K fd ps ds)(hd:bB dvs ds)(l:xW CX X E)
 (ha:PA X (e::es) t) (a:(x==("__debug__":Str))=false:=by decide) (n:starEach (e::es) X.env=(false,eval e X.env)::starEach es X.env:=by rfl) (b:(backTo pos<|starEach es X.env).any (·.1)=false:=by rfl):
 PE X (.Call (.Name x p) (e::es) [] pos) (EI sp dvs E t):=by
 intro pins s σ H Q I h;refine J8<|nE I g hm ?_ a;refine W.callWith_K (h₀:=X.base) I.ok.mod.kin i (thn (ha pos pins s σ H _ I h) fun us s1 ⟨vs,u,c,r,q⟩=>⟨c.kIn,?_⟩) n b;exact WC F d j hd l c r q
def OU(F:kX X.prog X.w X.K X.mg X.base CX k f fd ps sp)(b:cL k X.A)(c:Gl X x)(hm:X.mg x=Z (.ref f))(d:W.keepIn X.K (.ref f)=true)(g:Binds X.K fd ps ds)(hd:bB dvs ds)(i:xW CX X E)
 (a:(x==("__debug__":Str))=false:=by decide):PE X (.Call (.Name x p) [] [] pos) (EI sp dvs E ER):=by
 intro pins s σ H Q I h;refine J8<|nE I c hm ?_ a;exact W.callWith_K0 I.kIn d<|WC (us:=[]) F b g hd i I .nil h
structure Mk(K:Fg)(C f:Ub):Prop where
 makes:W.makesIn K C=true
 init:W.findIn K (.ref C) "__init__"=Z (Z (.ref f))
 fn:W.isFn K (.ref f)=true
 kp:W.keepIn K (.ref C)=true
def PD{pins:T1}{σ:St}{H:Hp}{s:Ua}{Q:VK}{us:T4}{vs:Td}(M:Mk X.K C f)(F:kX X.prog X.w X.K X.mg X.base CX k f fd ps sp)(i:cL (k+1) X.A)(j:Binds X.K fd ps ds)(hd:bB dvs ds)
 (l:∀H s e b,Inv X pins σ H s->CX X.stack H s E e b->X.xe e b) (I:Inv X pins σ H s) (r:bB vs us)
 (h:∀x dx,H x=Y->H dx=Y->dx≠x->sp (.ref x::(vs++dvs)) (upd (upd H dx (.own x)) x (.ins C dx [])) (fun v n=>v=.non/\Q (.ref x) n) E):
 wpAny (model X.prog X.w) X.A (call (.ref C) us) (EP X pins σ Q) X.xe s:=by
 have d:=h (s.heap.objs.size+1) s.heap.objs.size (I.hok.fresh<|Nat.le_succ _) (I.hok.fresh<|A9 _)<|B5<|J3 _;have c:=Inv.made (C:=C) I;have g:bB (V.ref (s.heap.objs.size+1)::(vs++dvs)) (Value.ref (s.heap.objs.size+1)::(us++ds)):=.cons rfl (r.append hd)
 have q:(Value.ref (s.heap.objs.size+1)::us++ds).length=ps.length:=by
  have e:=g.length;rw[F.len _ _ _ _ d]at e;exact e.symm
 refine wpAny_call (VG (f:=f) I.kIn M.makes M.init (beq_iff_eq.mp M.fn) (Y3 (F.run _ X.stack _ _ ⟨Value.ref (s.heap.objs.size+1)::us,[]⟩ (Value.ref (s.heap.objs.size+1)::(us++ds)) _ _ E (i.make C us [])
  (c.env0.make C us []) (j _ (Value.ref (s.heap.objs.size+1)::us) c.kIn q) g d) fun r b a=>?_))
 cases r with
 |error e=>exact l _ _ e b c a
 |ok y=>
  cases y with
  |ret u=>
   obtain⟨v,H',z,B,ev,D⟩:=c.after a;subst ev;exact⟨B,⟨V.ref (s.heap.objs.size+1),H',z,rfl,D⟩⟩
  |next=>exact False.elim a
  |brk=>exact False.elim a
  |cont=>exact False.elim a
def YX(M:Mk X.K C f)(F:kX X.prog X.w X.K X.mg X.base CX k f fd ps sp)(d:cL (k+1) X.A)(g:Gl X x)(hm:X.mg x=Z (.ref C))(i:Binds X.K fd ps ds)(hd:bB dvs ds)(j:xW CX X E)
 (ha:PA X (e::es) t) (a:(x==("__debug__":Str))=false:=by decide) (l:starEach (e::es) X.env=(false,eval e X.env)::starEach es X.env:=by rfl) (b:(backTo pos<|starEach es X.env).any (·.1)=false:=by rfl):
 PE X (.Call (.Name x p) (e::es) [] pos) (aBD C sp dvs E t):=by
 intro pins s σ H Q I h;refine J8<|nE I g hm ?_ a;refine W.callWith_K (h₀:=X.base) I.ok.mod.kin M.kp (thn (ha pos pins s σ H _ I h) fun us s1 ⟨vs,n,c,r,q⟩=>⟨c.kIn,?_⟩) l b;exact PD M F d i hd (j pins σ) c r q
end
structure aX(N P:Tc)(sc:Scope):Prop where
 kind:sc.kind=.function
 co:sc.isCoroutine=false
 gen:sc.isGenerator=false
 nd:N.Nodup
 pre:N.take P.length=P
 par:∀x∈P,sc.names.lookup x=Z .local\/sc.names.lookup x=Z .cell
 nofree:∀y∈sc.names,y.2≠.free
def AL{kindOf:Tq}{x:Str}:∀{binds:Tt}{m:Str->Tf},(∀v,(x,v)∉binds)->bindL kindOf binds m x=m x
 |[],_=>fun _=>rfl
 |(n,v)::r,m=>fun h=>by
  unfold bindL;rw[AL fun w a=>h w<|B4 _ a];split
  .have:x≠n:=by rintro rfl;exact h v B7
   simp[this]
  .rfl
def BC{kindOf:Tq}{x:Str}:∀{binds:Tt}{m:Str->Tf},(∀v,(x,v)∉binds)->bindC kindOf binds m x=m x
 |[],_=>fun _=>rfl
 |(n,v)::r,m=>fun h=>by
  unfold bindC;rw[BC fun w a=>h w<|B4 _ a];split
  .rfl
  .have:x≠n:=by rintro rfl;exact h v B7
   simp[this]
def zV{kindOf:Tq}{x:Str}{v:Tx}:∀{P:Tc}{vs:T4}{i:Nat}{m:Str->Tf},P.Nodup->P[i]?=Z x->vs[i]?=Z v->kindOf x=Z .local->
 bindL kindOf (P.zip vs) m x=Z v
 |[],_,_,_=>fun _ h _ _=>by simp at h
 |_::_,[],_,_=>fun _ _ h _=>by simp at h
 |p::P,w::vs,0,m=>fun nd a b c=>by
  simp at a b;subst a;subst b;show bindL kindOf ((p,w)::P.zip vs) m p=_;unfold bindL;rw[AL fun v d=>(List.nodup_cons.mp nd).1 (List.of_mem_zip d).1,A7 c];simp
 |p::P,w::vs,i+1,m=>fun nd a b c=>by
  show bindL kindOf ((p,w)::P.zip vs) m x=_;unfold bindL;exact zV (i:=i) (List.nodup_cons.mp nd).2 (by simpa using a) (by simpa using b) c
def BA{kindOf:Tq}{x:Str}{v:Tx}:∀{P:Tc}{vs:T4}{i:Nat}{m:Str->Tf},P.Nodup->P[i]?=Z x->vs[i]?=Z v->kindOf x≠Z .local->
 bindC kindOf (P.zip vs) m x=Z v
 |[],_,_,_=>fun _ h _ _=>by simp at h
 |_::_,[],_,_=>fun _ _ h _=>by simp at h
 |p::P,w::vs,0,m=>fun nd a b c=>by
  simp at a b;subst a;subst b;show bindC kindOf ((p,w)::P.zip vs) m p=_;unfold bindC;rw[BC fun v d=>(List.nodup_cons.mp nd).1 (List.of_mem_zip d).1,B0 c];simp
 |p::P,w::vs,i+1,m=>fun nd a b c=>by
  show bindC kindOf ((p,w)::P.zip vs) m x=_;unfold bindC;exact BA (i:=i) (List.nodup_cons.mp nd).2 (by simpa using a) (by simpa using b) c
def start(N:Tc)(vs:Td):St:=vs.map Z++List.replicate (N.length-vs.length) Y
noncomputable def lB(CX:CXT)(P:Ud)(w:World)(K:Fg)(mg:Str->Tf)(base:Heap)(N:Tc)(qual:Str)(scope:Scope)(f:Ub)(cd:Tx)(A:Ue)(outer:Tv Env)(s:Ua)(H:Hp)(E:XK)(q:Bool:=true):Cx where
 prog:=P
 w:=w
 K:=K
 mg:=mg
 base:=base
 A:=A.deeper<|envOfC qual scope s.heap.objs.size f cd
 N:=N
 s₀:=s
 H₀:=H
 env:=envOfC qual scope s.heap.objs.size f cd
 outer:=outer
 stack:=envOfC qual scope s.heap.objs.size f cd::outer
 ex:=[]
 calm:=q
 fn:=fun _=>true
 pn:=[]
 xe:=fun e s'=>wpAny (model P w) (A.deeper<|envOfC qual scope s.heap.objs.size f cd) (leaving (envOfC qual scope s.heap.objs.size f cd) e) (fun _ s''=>CX outer H s E e s'') (fun e' s''=>CX outer H s E e' s'') s'
def EC{sc:Scope}{n:Nat}{x:Str}(h:sc.names.lookup x=Z .cell):∃c,(cellsFrom n sc.names []).lookup x=Z c:=by
 have q:=W.cellsFrom_some sc.names n [] (.inl h);exact Option.isSome_iff_exists.mp q
def ND{CX:CXT}{P:Ud}{w:World}{K:Fg}{mg:Str->Tf}{base:Heap}{N ps:Tc}{qual:Str}{scope:Scope}{f:Ub}{m:Tx}{A:Ue}{outer:Tv Env}{s s1:Ua}{H:Hp}{E:XK}{us:T4}{vs:Td}{q:Bool}
 (S:aX N ps scope) (hd:q=true->A.handled=Y) (g:HF P w K mg base A outer s H) (F:vs.length=ps.length) (r:bB vs us)
 (x:InCallC s s.heap.objs.size (bindL (envOfC qual scope s.heap.objs.size f m).kindOf (ps.zip us) fun _=>Y) (cellsFrom (s.heap.objs.size+1) scope.names []) (bindC (envOfC qual scope s.heap.objs.size f m).kindOf (ps.zip us) fun _=>Y) s1):
 Inv (lB CX P w K mg base N qual scope f m A outer s H E q) [] (start N vs) H s1:=by
 have C:ps.length<=N.length:=by have:=U5 List.length S.pre;rw[List.length_take]at this;omega
 obtain⟨o,G,rfl,t⟩:=x.done;have noA:∀b:Ub,b∉(lB CX P w K mg base N qual scope f m A outer s H E q).ex:=fun b z=>absurd (show b∈([]:T9)from z) (by simp)
 refine⟨⟨g.mod,S.kind,rfl,rfl,A9 _,fun y z c o d=>?_,fun y hy=>?_,fun y c _ h=>?_,hd,Around.frames_deeper g.frames,.inr ⟨rfl,rfl⟩,fun b z=>absurd z<|noA b,g.bs,g.bsz,fun b _ _=>noA b,fun b z=>absurd z<|noA b,g.funs,g.frf⟩,
  rfl,g.bare,Un.kept t,⟨_,x.toInCall.ns,fun i y v o d I=>?_⟩,fun y c h=>⟨_,x.cell y c h⟩,g.hok.fresh (A9 _),fun y c h=>?_,fun p j=>absurd (show p∈([]:T1)from j) (by simp),g.hok.kept t,?_⟩
 .exact name_of_addr x.apart (E2 o)<|E2 d
 .have hy:scope.names.lookup y=Z .cell\/scope.names.lookup y=Z .free:=hy;rcases hy with hy|hy
  .exact EC hy
  .exact absurd rfl<|S.nofree _<|E2 hy
 .exact S9<|x.above y c<|E2 h
 .have hi:i<vs.length:=by
   unfold start at d;by_cases hi:i<vs.length
   .exact hi
   .rw[F6 (by simpa using hi)]at d;rw[List.getElem?_replicate]at d;split at d<;>cases d
  have ha:vs[i]?=Z v:=by
   unfold start at d;rw[E7 (by simpa using hi),C0]at d;cases e:vs[i]? with
   |none=>rw[e]at d;cases d
   |some a=>rw[e]at d;cases d;rfl
  obtain⟨u,B,D⟩:=r.get ha
  have j:ps[i]?=Z y:=by
   rw[<- S.pre,List.getElem?_take_of_lt (by omega)];exact o
  have l:ps.Nodup:=by rw[<- S.pre];exact S.nd.sublist<|List.take_sublist _ _
  refine⟨u,D,?_⟩;rcases S.par y (List.mem_of_getElem? j)with k|k
  .exact .inl ⟨k,zV l j B k⟩
  .obtain⟨c,e⟩:=EC (n:=s.heap.objs.size+1) k;refine .inr ⟨.inl k,c,e,?_⟩;have q:=x.cell y c e;rw[BA l j B (by show scope.names.lookup y≠_;rw[k];decide)]at q;exact q
 .exact g.hok.fresh<|S9<|x.above y c<|E2 h
 .unfold start;show _=N.length;rw[B1,A3,List.length_replicate];omega
def aAV{CX:CXT}{P:Ud}{w:World}{K:Fg}{mg:Str->Tf}{base:Heap}{k:Nat}{f:Ub}{name qual:Str}{a:Arguments}{c:T8}{scope:Scope}{D kV doc pm cdv ct oc:Tx}{an od:Th}
 {osl:Array (Tf)} {N ps:Tc} {sp:Sp} {q:Bool} (F:K.lookup f=Z ⟨oc,od,.func (W.fnOf name qual a c scope D kV doc pm an cdv ct),osl⟩) (m:W.codeIn K cdv qual=true) (S:aX N ps scope)
 (len:∀vs H Q E,sp vs H Q E->vs.length=ps.length)
 (g:∀(A:Ue)(outer:Tv Env)(s:Ua)(H:Hp)(vs:Td)(Q:VK)(E:XK),cL k (A.deeper<|envOfC qual scope s.heap.objs.size f cdv) q->sp vs H Q E->
  ∃t,PSs (lB CX P w K mg base N qual scope f cdv A outer s H E q) c t/\t { nx:=fun _ H'=>Q .non H',rt:=Q } (start N vs) H):
 kX P w K mg base CX (k+1) f (W.fnOf name qual a c scope D kV doc pm an cdv ct) ps sp q:=by
 refine⟨len,fun A outer s H args us vs Q E p i G r j=>?_⟩;have L:=len _ _ _ _ j;have KX:K.In s.heap:=i.mod.kin.keeps fun b o e=>(i.bs b o e).1;have z:s.heap.NoLimit:=i.mod.nolimit.keeps fun b o e=>(i.bs b o e).1
 have h:∀y∈ps.zip us,scope.names.lookup y.1=Z .local\/(scope.names.lookup y.1=Z .cell/\((cellsFrom (s.heap.objs.size+1) scope.names []).lookup y.1).isSome=true):=fun⟨n,v⟩ M=>by
  rcases S.par n (List.of_mem_zip M).1 with q|q
  .exact .inl q
  .exact .inr ⟨q,W.cellsFrom_some _ _ _ (.inl q)⟩
 refine codeAny_call_function p.depth (KX _ _ F) rfl S.co S.gen rfl (W.codeRec_of KX m)<|G _ _ _ _ ?_;refine wpAny_newFunctionEnv_cells S.kind h fun env O s1 x=>?_;subst O;refine⟨z.keeps x.toInCall.keep,codeAny_func ?_⟩;obtain⟨t,ht,R⟩:=g A outer s H vs Q E (p.deeper _) j;have I:Inv (lB CX P w K mg base N qual scope f cdv A outer s H E q) [] (start N vs) H s1:=ND S p.hd i L r x;refine D5 (ht [] s1 (start N vs) H _ I R) (fun T B hs=>?_) fun e B hs=>hs
 have l:∀{d:St}{H':Hp}{v:V}{u:Tx},Inv (lB CX P w K mg base N qual scope f cdv A outer s H E q) [] d H' B->RelV v u->Q v H'->CE outer P w H s Q u B:=
  fun{d H' v u} J C q=>⟨v,H',J.os,J.bare,J.base,J.hok,C,q⟩
 cases T with
 |ret u=>
  obtain⟨v,d,H',J,C,q⟩:=hs;exact l J C q
 |next=>
  obtain⟨d,H',J,q⟩:=hs;exact l (v:=V.non) (u:=Value.none) J rfl q
 |brk=>
  obtain⟨_,_,_,q⟩:=hs;exact False.elim q
 |cont=>
  obtain⟨_,_,_,q⟩:=hs;exact False.elim q
section
variable{X:Cx}{x:Str}{p pos:Pos}{e:Uc}{es:T7}{t:TA}{id T:String}{r:Td->Hp->VK->Prop}
noncomputable def tCB(r:Td->Hp->VK->Prop)(t:TA):TE:=fun σ H Q=>t σ H fun vs a=>r vs a Q
def tF(c:eP X (.builtin id) r)(d:Gl X x)(hm:X.mg x=Y)(f:bootBuiltins x=Z (.builtin id))(ha:PA X (e::es) t)(hn:x≠"__name__":=by decide)(a:(x==("__debug__":Str))=false:=by decide)
 (g:starEach (e::es) X.env=(false,eval e X.env)::starEach es X.env:=by rfl) (b:(backTo pos<|starEach es X.env).any (·.1)=false:=by rfl):PE X (.Call (.Name x p) (e::es) [] pos) (tCB r t):=by
 intro pins s σ H Q I h;refine J8<|jL I d hm f ?_ hn a;exact PyProof.Rows.callWith_builtin1 (thn (ha pos pins s σ H _ I h) fun us s1 ⟨vs,i,j,k,l⟩=>c pins s1 σ i vs us Q j k l) g b
def NV(c:eP X (.type T) r)(d:Gl X x)(hm:X.mg x=Y)(f:bootBuiltins x=Z (.type T))(ha:PA X (e::es) t)(hn:x≠"__name__":=by decide)(a:(x==("__debug__":Str))=false:=by decide)
 (g:starEach (e::es) X.env=(false,eval e X.env)::starEach es X.env:=by rfl) (b:(backTo pos<|starEach es X.env).any (·.1)=false:=by rfl):PE X (.Call (.Name x p) (e::es) [] pos) (tCB r t):=by
 intro pins s σ H Q I h;refine J8<|jL I d hm f ?_ hn a;exact E9 (thn (ha pos pins s σ H _ I h) fun us s1 ⟨vs,i,j,k,l⟩=>c pins s1 σ i vs us Q j k l) g b
end
end L2
namespace HT
open PySem PyProof.Rows
noncomputable def lexLt:T6->T6->Bool
 |[],[]=>false
 |[],_::_=>true
 |_::_,[]=>false
 |x::xs,y::a=>if x=y then lexLt xs a else decide (x<y)
def HN(x y:Int)(xs ys:T6):lexLt (x::xs) (y::ys)=if x=y then lexLt xs ys else decide (x<y):=rfl
def zB:lexLt [] []=false:=rfl
def xT(y:Int)(ys:T6):lexLt [] (y::ys)=true:=rfl
def yQ(x:Int)(xs:T6):lexLt (x::xs) []=false:=rfl
def SH(A:Ue)(s:Ua)(a:Int)(t:Tok)(c:Int)(u:Tok):∃e,SeqAt.EqAt A s (.int a t) (.int c u) e/\(e=true↔a=c):=
 ⟨(a==c),SeqAt.EqAt.int_int a t c u,by simp⟩
def rcLt_int(A:Ue)(s:Ua)(a:Int)(t:Tok)(c:Int)(u:Tok)(prog:Ud)(w:World)(E:T0)(Q:T0)(h:Q (.bool (decide (a<c))) s):
 wpAny (model prog w) A (richCompare .Lt (.int a t) (.int c u)) Q E s:=
 (PyProof.Rows.lt_int h:wpAny (model prog w) A (compareOp .Lt (.int a t) (.int c u)) Q E s)
section
open PySem.SeqAt
open PySem.AutoSeq1 (wpAny_loadPart')
open PySem.MeetsSeq PySem.MeetsSeq2 PySem.MeetsSeq3
def zJ(l b:Ub)(items f:Ti)(n n2:Nat)(dd H:Th)(sl I:Array (Tf))(ns ms:T6)(hi:IntsAre items.toList ns)(M:IntsAre f.toList ms):
 Meets (Builtin.«tuple.__lt__» ⟨[.ref l,.ref b],[]⟩)
  (fun _ R s=>s.heap.get? l=Z { cls:=.type "tuple",dict:=dd,data:=.seq items n,slots:=sl }/\s.heap.get? b=Z { cls:=.type "tuple",dict:=H,data:=.seq f n2,slots:=I } /\
   R (.ok (.ret (.bool (lexLt ns ms)))) s):=
 .of_wp fun prog w A R s h=>by
  obtain⟨E,g,d,F,os⟩:=s;obtain⟨O,P,h⟩:=h;have f2:=AutoSeq1.sub_tuple_tuple;have V:items.size=ns.length:=by rw[<- hi.length];simp
  have W:f.size=ms.length:=by rw[<- M.length];simp
  wp_walk using F8 O,F8 P,wpAny_forIn_list _ (fun rest b J=>b.1=Y/\J=⟨E,g,d,F,os⟩/\∃(vs G:T4)(j k:T6),rest=vs.zip G /\
   IntsAre vs j/\IntsAre G k/\j.length+f.size=k.length+items.size/\R (.ok (.ret (.bool (lexLt j k)))) ⟨E,g,d,F,os⟩) _
  case turn=>
   rintro⟨y,x⟩ rest b J ⟨v,rfl,vs,G,j,k,m,z,o,i,p⟩;cases z with
   |nil=>rw[List.zip_nil_left]at m;cases m
   |cons a t C=>
    cases o with
    |nil=>rw[List.zip_nil_right]at m;cases m
    |cons c u D=>
     rw[U9]at m;injection m with K B
     injection K with Q S
     subst Q S;rw[HN]at p;simp only[List.length_cons]at i;obtain⟨e,T,r⟩:=SH A.in1 ⟨E,g,d,F,os⟩ a t c u;refine A0<|T prog w _ _ ?_;cases e with
     |true=>
      rw[A7 (r.mp rfl)]at p
      wp_walk
      exact⟨rfl,rfl,_,_,_,_,B,C,D,by omega,p⟩
     |false=>
      rw[B0 fun q=>absurd (r.mpr q) A6]at p;have L:=rcLt_int A.in1 ⟨E,g,d,F,os⟩ a t c u prog w
      wp_walk using L
      exact⟨_,rfl,by simpa using p⟩
  case fin=>
   rintro⟨X,b2⟩ J ⟨v,rfl,vs,G,j,k,m,z,o,i,p⟩;simp only at v;subst v
   have N:lexLt j k=decide (items.size<f.size):=by
    cases z with
    |nil=>
     cases o with
     |nil=>
      simp only[List.length_nil]at i;rw[zB];exact(C2 (by omega)).symm
     |cons c u U=>
      simp only[List.length_nil,List.length_cons]at i;rw[xT];exact(D8 (by omega)).symm
    |cons a t N=>
     cases o with
     |nil=>
      simp only[List.length_nil,List.length_cons]at i;rw[yQ];exact(C2 (by omega)).symm
     |cons c u U=>
      rw[U9]at m;cases m
   rw[N]at p
   wp_walk
   exact⟨_,rfl,by simpa[Builtin.Tuple.tupleCompareSizes]using p⟩
  case h=>
   exact⟨rfl,rfl,items.toList,f.toList,ns,ms,rfl,hi,M,by omega,h⟩
end
section
variable{prog:Ud}{w:World}{A:Ue}{E:T0}{s:Ua}
def lt_tupInts{l b:Ub}{items a:Ti}{ns ms:T6}{Q:T0}(m:IsTup s.heap l items)(o:IsTup s.heap b a)(hi:IntsAre items.toList ns)(p:IntsAre a.toList ms)
 (q:A.units<cLine) (h:Q (.bool (lexLt ns ms)) s):wpAny (model prog w) A (compareOp .Lt (.ref l) (.ref b)) Q E s:=by
 obtain⟨⟨cls,r,data,sl⟩,i,j,n,hd⟩:=id m;obtain⟨⟨k,f,data2,g⟩,c,d,n2,e⟩:=id o;simp only at j hd d e;subst j hd d e
 exact richCompare_meets_room (op:=.Lt) ⟨_,i,rfl⟩ ⟨_,c,rfl⟩ F.slot_tuple_lt F.entry_tuple_lt (F.args_tuple_lt_2 _ _) (zJ l b items a n n2 r f sl g ns ms hi p)
  ⟨i,c,show Value.bool (lexLt ns ms)≠Value.notImplemented/\Q (.bool (lexLt ns ms)) s from⟨(fun x=>nomatch x),h⟩⟩ q
def cat_tup{t b:Ub}{vs a:T4}{Q:T0}(ht:IsTup s.heap t vs.toArray)(p:IsTup s.heap b a.toArray)(k:vs≠[])
 (q:a=[]->Q (.ref t) s) (r:a≠[]->Q (.ref s.heap.objs.size) { s with heap:=s.heap.push { cls:=.type "tuple",data:=.seq (vs++a).toArray } })
 (hsz:vs.length+a.length<=sizeLine):wpAny (model prog w) A (binaryOp .Add (.ref t) (.ref b)) Q E s:=by
 obtain⟨⟨cls,l,data,sl⟩,i,m,n,hd⟩:=id ht;obtain⟨⟨o,d,data2,f⟩,c,g,n2,h⟩:=id p;simp only at m hd g h;subst m hd g h;have e:vs.toArray++a.toArray=(vs++a).toArray:=by simp
 by_cases j:a=[]
 .exact concat_meets ⟨_,i,rfl⟩ ⟨_,c,rfl⟩ noFill_tuple_add seq_tuple_add F.slot_tuple_add F.entry_tuple_add (F.args_tuple_add_2 _ _)
   (tuple_addW1 t b vs.toArray a.toArray n n2 l d sl f (by simpa using k) (by simp[j])) ⟨i,c,q j⟩
 .refine concat_meets ⟨_,i,rfl⟩ ⟨_,c,rfl⟩ noFill_tuple_add seq_tuple_add F.slot_tuple_add F.entry_tuple_add (F.args_tuple_add_2 _ _)
   (tuple_addW2 t b vs.toArray a.toArray n n2 l d sl f (by simpa using k) (by simpa using j) (by rw[B9,B9];exact hsz)) ⟨i,c,?_⟩
  rw[e];exact r j
def sIx(n d:Nat):Tk->Nat
 |none=>d
 |some v=>if v<0 then(v+(n:Int)).toNat else min v.toNat n
def aDk(n d:Nat)(hd:d<=n)(o:Tk):sIx n d o<=n:=by
 cases o with
 |none=>exact hd
 |some v=>
  show(if v<0 then(v+(n:Int)).toNat else min v.toNat n)<=n;by_cases a:v<0
  .rw[A7 a];omega
  .rw[B0 a];exact Nat.min_le_right _ _
def JD(v:Int)(n d:Nat):(if v<0 then max (v+(n:Int)) 0 else min v (n:Int))=((sIx n d (Z v):Nat):Int):=by
 show(if v<0 then max (v+(n:Int)) 0 else min v (n:Int))=(((if v<0 then(v+(n:Int)).toNat else min v.toNat n):Nat):Int);by_cases a:v<0
 .simp only[if_pos a];omega
 .simp only[if_neg a];omega
def HE(lo hi:Tk)(n:Nat):Builtin.Slice.sliceAdjust lo hi 1 (n:Int)=(((sIx n 0 lo:Nat):Int),((sIx n n hi:Nat):Int)):=by
 have a:¬((1:Int)<0):=by omega
 unfold Builtin.Slice.sliceAdjust;simp only[a,if_false];refine Prod.ext ?_ ?_
 .cases lo with
  |none=>rfl
  |some v=>exact JD v n 0
 .cases hi with
  |none=>rfl
  |some v=>exact JD v n n
def IA(i j:Nat):Builtin.Slice.slicePlaces (i:Int) (j:Int) 1=j-i:=by
 unfold Builtin.Slice.slicePlaces;have a:(1:Int) > 0:=by omega
 simp only[a,if_true,Int.ediv_one];split<;>omega
def yT{v:Tx}{o:Tk}{Q:Tk->Ua->Prop}(p:IsPart v o)(h:Q o s):wpAny (model prog w) A (Builtin.Slice.slicePartIndex v) Q E s:=by
 cases p with
 |none=>exact slicePart_none h
 |int i t=>exact slicePart_int h
def lZ{sl:Ub}{vl c:Tx}{lo hi:Tk}{n:Nat}{Q:Int×Int×Nat->Ua->Prop}(hs:s.heap.IsSliceOf sl vl c .none)(d:IsPart vl lo)(e:IsPart c hi)
 (h:Q (((sIx n 0 lo:Nat):Int),1,sIx n n hi-sIx n 0 lo) s):wpAny (model prog w) A (Builtin.Slice.sliceApplied (.ref sl)<|pure (n:Int)) Q E s:=by
 obtain⟨os,a,f,b⟩:=id hs;unfold Builtin.Slice.sliceApplied Builtin.Slice.sliceFields;refine A0<|A0<|D3 a b (x:=vl) rfl<|A0<|D3 a b (x:=c) rfl<|A0<|D3 a b (x:=.none) rfl<|A4 ?_;refine A0<|slicePart_none ?_;show wpAny _ _ (if ((1:Int)==0)=true then _ else _) _ _ s;rw[B0 (by decide)];refine A0<|yT d<|A0<|yT e<|A0<|A4 ?_;show wpAny _ _ (match Builtin.Slice.sliceAdjust lo hi 1 (n:Int)with|(lo,hi)=>pure (lo,(1:Int),Builtin.Slice.slicePlaces lo hi 1)) _ _ s;rw[HE lo hi n];show wpAny _ _ (pure (((sIx n 0 lo:Nat):Int),(1:Int),Builtin.Slice.slicePlaces ((sIx n 0 lo:Nat):Int) ((sIx n n hi:Nat):Int) 1)) _ _ s;rw[IA];exact A4 h
def TJ(xs:Ti)(i k:Nat):((List.range k).filterMap fun(m:Nat)=>xs[((i:Int)+(m:Int)*1).toNat]?).toArray=((xs.toList.drop i).take k).toArray:=by
 have e:(fun(m:Nat)=>xs[((i:Int)+(m:Int)*1).toNat]?)=fun m=>xs[i+m]?:=by
  funext m;have:((i:Int)+(m:Int)*1).toNat=i+m:=by omega
  rw[this]
 rw[e];have:=pick_run xs i k;rw[List.filterMap_map]at this;have a:((fun x=>xs[x]?) ∘ fun x=>i+x)=fun m=>xs[i+m]?:=rfl;rw[a]at this;rw[this]
def getItem_tuple_cut{t sl:Ub}{items:Ti}{vl f:Tx}{lo hi:Tk}{Q:T0}(ht:IsTup s.heap t items)(hs:s.heap.IsSliceOf sl vl f .none)(g:IsPart vl lo)(i:IsPart f hi)
 (j:¬(sIx items.size 0 lo=0/\sIx items.size items.size hi=items.size))
 (h:Q (.ref s.heap.objs.size) { s with heap:=s.heap.push { cls:=.type "tuple",data:=.seq ((items.toList.drop<|sIx items.size 0 lo).take (sIx items.size items.size hi-sIx items.size 0 lo)).toArray } })
 (hsz:items.size<=sizeLine):wpAny (model prog w) A (getItem (.ref t) (.ref sl)) Q E s:=by
 have a:sizeOk (.seq ((items.toList.drop<|sIx items.size 0 lo).take (sIx items.size items.size hi-sIx items.size 0 lo)).toArray):=by
  show((items.toList.drop<|sIx items.size 0 lo).take (sIx items.size items.size hi-sIx items.size 0 lo)).toArray.size<=sizeLine;rw[B9,List.length_take,List.length_drop,U2];omega
 have l:sIx items.size items.size hi<=items.size:=aDk _ _ (A9 _) hi;obtain⟨os,b,c,k⟩:=id hs;have d:s.TypeIs (.ref sl) "slice":=⟨os,b,c⟩;unfold getItem
 try with_reducible refine J4 ?_
 first|refine A0 (A4 ?_)|skip
 refine A0<|wpAny_sequenceKey ht.typeIs (by decide) ?_
 refine A0 (F7 (name:=Str.ofString "__getitem__") ht.typeIs O1
  (F4 O1 ht.typeIs entry_tuple_getitem ?_ (args_tuple_getitem _ _)))
 show wpAny _ _ (Builtin.Tuple.tupleItemsOf (.ref t) >>= _) _ _ s;refine A0<|tupleItemsOf_ ht ?_;refine A0<|wpAny_typeOf d ?_;rw[A7 (by decide)];refine A0<|lZ hs g i ?_
 have e:¬((((sIx items.size 0 lo:Nat):Int)==0&&(1:Int)==1&&(sIx items.size items.size hi-sIx items.size 0 lo)==items.size)=true):=by
  intro q;rw[B8,B8]at q;have n:((sIx items.size 0 lo:Nat):Int)=0:=eq_of_beq q.1.1;have o:sIx items.size items.size hi-sIx items.size 0 lo=items.size:=eq_of_beq q.2;exact j ⟨by omega,by omega⟩
 show wpAny _ _ (if (((sIx items.size 0 lo:Nat):Int)==0&&(1:Int)==1&&(sIx items.size items.size hi-sIx items.size 0 lo)==items.size)=true then _ else _) _ _ s;rw[B0 e,TJ]
 first
  |exact A0 (m:=Builtin.Tuple.tupleExact _)<|C4 (A4 ⟨_,rfl,A4 h⟩) a
  |exact A0 (m:=Builtin.Tuple.tupleExact _)<|C4 (A0<|A4<|A4 ⟨_,rfl,A4 h⟩) a
  |exact A0<|A0 (m:=Builtin.Tuple.tupleExact _)<|C4 (A4<|A4 ⟨_,rfl,A4 h⟩) a
  |exact A0<|A0 (m:=Builtin.Tuple.tupleExact _)<|C4 (A4 ⟨_,rfl,A4 h⟩) a
end
end HT
namespace L2
variable{H:Hp}
open PySem PySem.Spec PyProof.Rows
abbrev TO:=St->Hp->(Tk->Hp->Prop)->Prop
def PO(X:Cx)(e:Tw Uc)(t:TO):Prop:=
 ∀(pins:T1)(s:Ua)(a:St)(H:Hp)(Q:Tk->Hp->Prop),Inv X pins a H s->t a H Q->
  wpAny (model X.prog X.w) X.A (evalPart e X.env) (fun u b=>∃o H',Inv X pins a H' b/\IsPart u o/\Q o H') X.xe s
def KP:TO:=fun _ H Q=>Q Y H
def aBi(t:TE):TO:=fun a H Q=>t a H fun x b=>∃i,x=.int i/\Q (Z i) b
def intsAre_of{ns:T6}:∀{us:T4},bB (ns.map V.int) us->IntsAre us ns:=by
 induction ns with
 |nil=>intro us r;rw[List.map_nil]at r;cases r;exact .nil
 |cons n ns ih=>
  intro us r;rw[C7]at r;cases r with
  |cons a b=>
   obtain⟨t,e⟩:=a;subst e;exact .cons n t (ih b)
section
variable{X:Cx}{e:Uc}{te:TE}{lo hi:Tw Uc}{tl th:TO}{pos p2:Pos}
def YS:PO X Y KP:=by
 intro pins s a H Q I h;rw[evalPart_none];exact A4 ⟨Y,H,I,.none,h⟩
def ZS(h:PE X e te):PO X (Z e) (aBi te):=by
 intro pins s a H Q I b;rw[evalPart_some];refine thn (h pins s a H _ I b) fun u s1 ⟨x,c,d,f,g⟩=>?_;obtain⟨i,rfl,q⟩:=g;obtain⟨t,rfl⟩:=f;exact⟨Z i,c,d,.int i t,q⟩
def SlR(X:Cx)(r:V->Tk->Tk->Hp->VK->Prop):Prop:=
 ∀(pins:T1)(s:Ua)(a:St)(H:Hp)(x:V)(v vl b:Tx)(lo hi:Tk)(sl:Ub)(Q:VK),Inv X pins a H s->RelV x v->s.heap.IsSliceOf sl vl b .none->IsPart vl lo->IsPart b hi->r x lo hi H Q->
  ∃T id,typeLookup (.type T) "__getitem__"=pure (Z (.builtin id))/\s.TypeIs v T/\wpAny (model X.prog X.w) X.A (getItem v (.ref sl)) (EP X pins a Q) X.xe s
def SlR.or{r a:V->Tk->Tk->Hp->VK->Prop}(h:SlR X r)(h':SlR X a):SlR X (fun x lo hi H Q=>r x lo hi H Q\/a x lo hi H Q):=by
 intro pins s b H x v vl c lo hi sl Q I d hs f g q;rcases q with q|q
 .exact h pins s b H x v vl c lo hi sl Q I d hs f g q
 .exact h' pins s b H x v vl c lo hi sl Q I d hs f g q
noncomputable def tSl(r:V->Tk->Tk->Hp->VK->Prop)(te:TE)(tl th:TO):TE:=fun a H Q=>te a H fun x b=>tl a b fun l c=>th a c fun u d=>r x l u d Q
def SN{r:V->Tk->Tk->Hp->VK->Prop}(g:SlR X r)(i:PE X e te)(j:PO X lo tl)(k:PO X hi th):PE X (.Subscript e (.Slice lo hi Y p2) pos) (tSl r te tl th):=by
 intro pins s c H Q I h;refine Subscript_ (thn (i pins s c H _ I h) fun v s1 ⟨x,m,n,o,p⟩=>?_);refine wpAny_Slice (thn (j pins s1 c m _ n p) fun vl s2 ⟨l,t,y,z,B⟩=>thn (k pins s2 c t _ y B) fun d a ⟨u,f,C,D,E⟩=>?_);rw[evalPart_none];refine A4 ?_;have F:Inv X pins c f { a with heap:=a.heap.push { cls:=.type "slice",data:=.fields #[vl,d,.none] } }:=C.kept (t':=a.toks) fun b ob q=>A1 _ q;obtain⟨T,id,hT,ht,G⟩:=g pins { a with heap:=a.heap.push { cls:=.type "slice",data:=.fields #[vl,d,.none] } } c f x v vl d l u a.heap.objs.size Q F o (Heap.IsSliceOf.new ..) z D E;show wpAny (model X.prog X.w) X.A (subscriptTail e (.Slice lo hi Y p2) v (.ref a.heap.objs.size)) (EP X pins c Q) X.xe { a with heap:=a.heap.push { cls:=.type "slice",data:=.fields #[vl,d,.none] } };exact tail_any (ops:=[.ref a.heap.objs.size,v]) ht hT G (by with_unfolding_all rfl)
def tN(xs:Td)(lo hi:Tk):Td:=(xs.drop<|HT.sIx xs.length 0 lo).take (HT.sIx xs.length xs.length hi-HT.sIx xs.length 0 lo)
def uM(xs:Td)(lo hi:Tk):(tN xs lo hi).length<=xs.length:=by
 unfold tN;rw[List.length_take,List.length_drop];omega
def aGu(K:Fg):V->Tk->Tk->Hp->VK->Prop:=fun x lo hi H Q=>∃a xs,x=.ref a/\SqT K H a xs /\
 ¬(HT.sIx xs.length 0 lo=0/\HT.sIx xs.length xs.length hi=xs.length)/\∀p,H p=Y->Q (.ref p) (upd H p (.tup (tN xs lo hi)))
def sl_tup:SlR X (aGu X.K):=by
 intro pins s m H x v vl n lo hi sl Q I g hs i j h;obtain⟨a,xs,rfl,k,l,q⟩:=h;cases g;obtain⟨d,r,ht,f⟩:=I.tuple k;have c:d.toArray.size=xs.length:=by rw[B9];exact r.length.symm
 refine⟨"tuple",_,PyProof.Rows.slot_tuple_getitem.lookup,ht.typeIs,?_⟩;refine HT.getItem_tuple_cut ht hs i j (by rw[c];exact l) ?_ (by rw[c];exact f);rw[c];refine⟨.ref s.heap.objs.size,_,I.laid (t':=s.toks) (o:=.tup (tN xs lo hi)) (fun b ob q=>A1 _ q) (A9 _) ?_,rfl,q _<|I.hok.fresh<|A9 _⟩;exact⟨D9 (uM xs lo hi) f,_,(r.drop<|HT.sIx xs.length 0 lo).take (HT.sIx xs.length xs.length hi-HT.sIx xs.length 0 lo),IsTup.new _ _⟩
def QT(K:Fg):R2:=fun x y H Q=>∃a b xs c,x=.ref a/\y=.ref b/\SqT K H a xs/\SqT K H b c/\xs≠[]/\xs.length+c.length<=sizeLine /\
 (c=[]->Q (.ref a) H)/\(c≠[]->∀p,H p=Y->Q (.ref p) (upd H p (.tup (xs++c))))
def bB.nil_iff{xs:Td}{us:T4}(r:bB xs us):us=[]↔xs=[]:=by
 cases r with
 |nil=>simp
 |cons _ _=>simp
def YK:OpR X (binaryOp .Add) (QT X.K):=by
 intro pins s A H x y v u Q I i j h;obtain⟨a,b,xs,k,rfl,rfl,ha,l,m,f,n,p⟩:=h;cases i;cases j;obtain⟨r,d,t,_⟩:=I.tuple ha;obtain⟨g,c,p2,_⟩:=I.tuple l;refine HT.cat_tup t p2 (fun z=>m<|d.nil_iff.mp z) (fun z=>⟨.ref a,H,I,rfl,n<|c.nil_iff.mp z⟩) (fun z=>?_) (by rw[<- d.length,<- c.length];exact f);refine⟨.ref s.heap.objs.size,_,I.laid (t':=s.toks) (o:=.tup (xs++k)) (fun b ob q=>A1 _ q) (A9 _) ?_,rfl,p (fun w=>z<|c.nil_iff.mpr w) _<|I.hok.fresh<|A9 _⟩;exact⟨by rw[B1];exact f,_,d.append c,IsTup.new _ _⟩
end
def ixN(n:Nat)(i:Int):Tg:=if 0<=i then(if i<n then Z i.toNat else Y)else if -(n:Int)<=i then Z (i+n).toNat else Y
def atI{a:Type}(xs:Tv a)(i:Int):Tw a:=(ixN xs.length i).bind fun j=>xs[j]?
def YF{n:Nat}{i:Int}{j:Nat}(h:ixN n i=Z j):seqIndex? i n=Z j/\j<n/\-(n:Int)<=i/\i<n:=by
 unfold ixN at h;by_cases b:0<=i
 .rw[A7 b]at h;by_cases a:i<n
  .rw[A7 a]at h;have e:i.toNat=j:=C5 h;exact⟨by rw[seqIndex_of b a,e],by omega,by omega,a⟩
  .rw[B0 a]at h;cases h
 .rw[B0 b]at h;by_cases a:-(n:Int)<=i
  .rw[A7 a]at h;have e:(i+n).toNat=j:=C5 h;exact⟨by rw[seqIndex_neg (by omega) a,e],by omega,a,by omega⟩
  .rw[B0 a]at h;cases h
def BN{a:Type}{xs:Tv a}{i:Int}{v:a}(h:atI xs i=Z v):∃j,seqIndex? i xs.length=Z j/\xs[j]?=Z v/\j<xs.length/\-(xs.length:Int)<=i/\i<xs.length:=by
 unfold atI at h;cases e:ixN xs.length i with
 |none=>rw[e]at h;cases h
 |some j=>
  rw[e]at h;obtain⟨b,c,d,f⟩:=YF e;exact⟨j,b,h,c,d,f⟩
def wF{a:Type}{xs:Tv a}{j:Nat}{v:a}(h:xs[j]?=Z v):atI xs (j:Int)=Z v:=by
 have b:j<xs.length:=(List.getElem?_eq_some_iff.mp h).1
 have e:ixN xs.length (j:Int)=Z j:=by
  unfold ixN;rw[A7 (by omega),A7 (by omega)];simp
 unfold atI;rw[e];exact h
def KD(b:Uc):Prop:=∀o i,subscripted b false o i=operate [o,i] (getItem o i)
def IxR(X:Cx)(r:R2):Prop:=
 ∀(b a:Uc)(pins:T1)(s:Ua)(c:St)(H:Hp)(x y:V)(v u:Tx)(Q:VK),Inv X pins c H s->RelV x v->RelV y u->r x y H Q->
  subscripted a false v u=operate [v,u] (getItem v u)->wpAny (model X.prog X.w) X.A (subscriptTail b a v u) (EP X pins c Q) X.xe s
def MtR(X:Cx)(id:String)(r:V->Td->Hp->VK->Prop):Prop:=
 ∀(pins:T1)(s:Ua)(a:St)(H:Hp)(x:V)(xs:Td)(v:Tx)(us:T4)(Q:VK),Inv X pins a H s->RelV x v->bB xs us->r x xs H Q->
  wpAny (model X.prog X.w) X.A (call (.builtin id) (v::us)) (EP X pins a Q) X.xe s
section
variable{X:Cx}{a b:Uc}{ta tb:TE}{pos:Pos}
def IxR.or{r e:R2}(h:IxR X r)(h':IxR X e):IxR X (fun x y H Q=>r x y H Q\/e x y H Q):=by
 intro c d pins s f H x y v u Q I g i q hs;rcases q with q|q
 .exact h c d pins s f H x y v u Q I g i q hs
 .exact h' c d pins s f H x y v u Q I g i q hs
def aFQ{r:R2}(c:IxR X r)(ha:PE X a ta)(d:PE X b tb)(hs:KD b):PE X (.Subscript a b pos) (tOp r ta tb):=by
 intro pins s e H Q I h;exact Subscript_ (aEw ha d I h fun v u s2 x y f g i j q=>c a b pins s2 e f x y v u Q g i j q<|hs _ _)
def aGi(K:Fg):R2:=fun x y H Q=>∃p xs i v,x=.ref p/\y=.int i/\SqL K H p xs/\atI xs i=Z v/\Q v H
def aFg(K:Fg):R2:=fun x y H Q=>∃p xs i v,x=.ref p/\y=.int i/\SqT K H p xs/\atI xs i=Z v/\Q v H
def aFm:R2:=fun x y H Q=>∃z i c,x=.str z/\y=.int i/\z.length<=sizeLine/\atI z.cps.toList i=Z c/\Q (.str ⟨#[c]⟩) H
def ix_list:IxR X (aGi X.K):=by
 intro e f pins s n H x y v u Q I B C h hs;obtain⟨p,xs,i,z,rfl,rfl,D,E,q⟩:=h;cases B;obtain⟨t,rfl⟩:=C;obtain⟨g,r,k,N⟩:=I.list D;obtain⟨j,d,F,O,G,J⟩:=BN E;obtain⟨w,o,l⟩:=r.get F;have L:=r.length;have hn:=xJ;have c:EP X pins n Q w s:=⟨z,H,I,l,q⟩;by_cases A:0<=i
 .have m:i.toNat=j:=by
   rw[seqIndex_of A J]at d;exact C5 d
  exact item_listR k.isList A (by omega) (by rw[m];simpa using o) c hs
 .have m:(i+(g.toArray.size:Int)).toNat=j:=by
   rw[seqIndex_neg (by omega) G]at d;rw[B9,<- L];exact C5 d
  exact subscriptTail_builtinR (x:=w) k.isList.typeIs slot_list_getitem.lookup
   (wpAny_getItem_list_neg (Q:=fun r M=>r=w/\EP X pins n Q r M) k.isList (by omega) (by rw[B9]<;>omega) (by omega) (by rw[m];simpa using o) ⟨rfl,c⟩) hs
def ix_tup:IxR X (aFg X.K):=by
 intro c d pins s g H x y v u Q I l m h hs;obtain⟨p,xs,i,z,rfl,rfl,n,o,q⟩:=h;cases l;obtain⟨t,rfl⟩:=m;obtain⟨A,r,k,G⟩:=I.tuple n;obtain⟨j,B,C,J,L,M⟩:=BN o;obtain⟨w,D,e⟩:=r.get C;have E:=r.length;have hn:=xJ;have f:EP X pins g Q w s:=⟨z,H,I,e,q⟩
 exact subscriptTail_builtinR (x:=w) k.typeIs slot_tuple_getitem.lookup
  (getItem_tuple (j:=j) (Q:=fun r F=>r=w/\EP X pins g Q r F) k (by omega) (by omega) (by rw[B9,<- E];exact B) (by simpa using D) ⟨rfl,f⟩) hs
def aDw:IxR X aFm:=by
 intro d e pins s A H x y v u Q I g k h hs;obtain⟨z,i,c,rfl,rfl,B,l,q⟩:=h;obtain⟨t,rfl⟩:=g;obtain⟨C,rfl⟩:=k;obtain⟨j,f,m,D,n,o⟩:=BN l;have p:z.cps.toList.length=z.length:=by simp[Str.length]
 rw[p]at f n o;have hn:=xJ
 exact tail_any (typeIs_str s z t) slot_str_getitem.lookup (getItem_str (c:=c) (by
  have r:decide (i < -(2 ^ 63:Int))=false:=C2 (by omega);have w:decide (i>=2 ^ 63)=false:=C2 (by omega);rw[r,w,Bool.or_false]) (by rw[f];simpa using m) ⟨.str ⟨#[c]⟩,H,I.tok _,⟨_,rfl⟩,q⟩) hs
def rIx(K:Fg):R2:=fun x y H Q=>aGi K x y H Q\/aFg K x y H Q\/aFm x y H Q
def aEq:IxR X (rIx X.K):=ix_list.or<|ix_tup.or aDw
def CI(lo hi:Tk)(n:Nat):(sliceBounds lo hi Y n).1=((HT.sIx n 0 lo:Nat):Int)/\(sliceBounds lo hi Y n).2.1=((HT.sIx n n hi:Nat):Int)/\(sliceBounds lo hi Y n).2.2=1:=by
 refine⟨?_,?_,rfl⟩
 .cases lo with
  |none=>simp[sliceBounds,HT.sIx]
  |some i=>
   simp only[sliceBounds,HT.sIx,Option.getD_none,show(1:Int) > 0 by decide,if_true];by_cases h:i<0
   .simp only[h,if_true]<;>omega
   .simp only[h,if_false]<;>omega
 .cases hi with
  |none=>simp[sliceBounds,HT.sIx]
  |some i=>
   simp only[sliceBounds,HT.sIx,Option.getD_none,show(1:Int) > 0 by decide,if_true];by_cases h:i<0
   .simp only[h,if_true]<;>omega
   .simp only[h,if_false]<;>omega
def zA(its:T4)(lo hi:Tk):slicePick its.toArray lo hi Y=((its.drop<|HT.sIx its.length 0 lo).take (HT.sIx its.length its.length hi-HT.sIx its.length 0 lo)).toArray:=by
 obtain⟨c,d,e⟩:=CI lo hi its.toArray.size;unfold slicePick;rw[c,d,e];simp only[sliceRange_one,pick_run,List.size_toArray]<;>rfl
def aFP(K:Fg):V->Tk->Tk->Hp->VK->Prop:=fun x lo hi H Q=>∃a xs,x=.ref a/\SqL K H a xs/\∀p,H p=Y->Q (.ref p) (upd H p (.lst (tN xs lo hi)))
def sl_list:SlR X (aFP X.K):=by
 intro pins s k H x v vl l lo hi sl Q I d hs e f h;obtain⟨a,xs,rfl,g,q⟩:=h;cases d;obtain⟨i,r,ht,j⟩:=I.list g;have c:=r.length;refine⟨"list",_,slot_list_getitem.lookup,ht.isList.typeIs,?_⟩;refine wpAny_getItem_list_slice ht.isList hs e f .none (by simp) ?_ (by rw[B9]<;>omega);rw[zA,<- c];refine⟨.ref s.heap.objs.size,_,I.laid (t':=s.toks) (o:=.lst (tN xs lo hi)) (fun b ob q=>A1 _ q) (A9 _) ?_,rfl,q _<|I.hok.fresh<|A9 _⟩;exact⟨D9 (uM xs lo hi) j,_,0,(r.drop<|HT.sIx xs.length 0 lo).take (HT.sIx xs.length xs.length hi-HT.sIx xs.length 0 lo),B3 _ rfl⟩
def BX:eP X (.builtin "len") (fun xs H Q=>∃p ys,xs=[.ref p]/\(SqL X.K H p ys\/SqT X.K H p ys)/\Q (.int ys.length) H):=by
 intro pins s j H xs us Q I r h;obtain⟨p,ys,rfl,hq,q⟩:=h;obtain⟨u,rfl,g⟩:=vals1 r;cases g;have hn:=xJ;rcases hq with hq|hq
 .obtain⟨d,e,f,i⟩:=I.list hq;have c:=e.length;exact Calls.call_len_list f.isList (by simp only[List.size_toArray]<;>omega) ⟨.int ys.length,H,I.tok _,⟨s.toks+1,by rw[B9,c]⟩,q⟩
 .obtain⟨d,e,f,i⟩:=I.tuple hq;have c:=e.length;exact len_tuple f (by simp only[List.size_toArray]<;>omega) ⟨.int ys.length,H,I.tok _,⟨s.toks+1,by rw[B9,c]⟩,q⟩
def CY:eP X (.type "list") (fun xs H Q=>∃p ys,xs=[.ref p]/\(SqL X.K H p ys\/SqT X.K H p ys)/\∀l,H l=Y->Q (.ref l) (upd H l (.lst ys))):=by
 intro pins s t H xs us Q I r h;obtain⟨p,ys,rfl,hq,q⟩:=h;obtain⟨u,rfl,v⟩:=vals1 r;cases v
 have f:∀(c:T4),bB ys c->ys.length<=sizeLine->∀(h':Heap)(c':Nat),(∀b o',s.heap.get? b=Z o'->h'.get? b=Z o')->
  h'.get? s.heap.objs.size=Z { cls:=.type "list",dict:=Y,data:=.seq c.toArray c',slots:=#[] }->EP X pins t Q (.ref s.heap.objs.size) { s with heap:=h' }:=fun c d g h' c' kp e=>
  ⟨.ref s.heap.objs.size,_,I.laid (t':=s.toks) kp (A9 _) (show cO X.prog X.w _ h' _ (.lst ys)from⟨g,c,c',d,e⟩),rfl,q _<|I.hok.fresh<|A9 _⟩
 rcases hq with hq|hq
 .obtain⟨c,d,j,g⟩:=I.list hq;have i:=d.length;obtain⟨o,k,m,n,hd⟩:=j.isList;exact call_list_seq p (.inl rfl) k m hd (fun h' c' kp e=>f c d g h' c' kp e) (by simp only[List.size_toArray]<;>omega)
 .obtain⟨c,d,j,g⟩:=I.tuple hq;have i:=d.length;obtain⟨o,k,m,n,hd⟩:=j;exact call_list_seq p (.inr rfl) k m hd (fun h' c' kp e=>f c d g h' c' kp e) (by simp only[List.size_toArray]<;>omega)
def zK:eP X (.type "tuple") (fun xs H Q=>∃p ys,xs=[.ref p]/\((SqL X.K H p ys/\∀l,H l=Y->Q (.ref l) (upd H l (.tup ys)))\/(SqT X.K H p ys/\Q (.ref p) H))):=by
 intro pins s i H xs us Q I r h;obtain⟨p,ys,rfl,h⟩:=h;obtain⟨u,rfl,n⟩:=vals1 r;cases n;rcases h with⟨d,q⟩|⟨d,q⟩
 .obtain⟨c,f,g,j⟩:=I.list d;have k:=f.length;refine call_tuple_list g.isList (fun h' kp=>?_) (by simp only[List.size_toArray]<;>omega);have m:Inv X pins i H { s with heap:=h' }:=I.kept (t':=s.toks) kp
  have t:Inv X pins i (upd H h'.objs.size (.tup ys)) { s with heap:=h'.push { cls:=.type "tuple",data:=.seq c.toArray } }:=
   m.laid (t':=s.toks) (fun b o e=>A1 _ e) (A9 _) (show cO X.prog X.w _ _ _ (.tup ys)from⟨j,c,f,IsTup.new _ _⟩)
  exact⟨.ref h'.objs.size,_,t,rfl,q _<|m.hok.fresh<|A9 _⟩
 .obtain⟨c,f,g,j⟩:=I.tuple d;exact call_tuple_same g ⟨.ref p,H,I,rfl,q⟩
def tyV(K:Fg)(T:String)(x:V)(H:Hp):Prop:=match x with
 |.str _=>T="str"
 |.int _=>T="int"
 |.ref p=>(T="list"/\∃xs,SqL K H p xs)\/(T="tuple"/\∃o,K.lookup p=Z o/\o.cls=.type "tuple"/\o.dict=Y) \/
  (T="dict"/\((∃kvs,H p=Z (.dK kvs))\/∃kvs,H p=Z (.dT kvs)))\/(T="set"/\∃S n,H p=Z (.set S n))
 |_=>False
def QZ{pins:T1}{h:St}{s:Ua}{T:String}{x:V}{v:Tx}(I:Inv X pins h H s)(r:RelV x v)(ty:tyV X.K T x H):
 s.TypeIs v T/\∀a,v=.ref a->∃ob,s.heap.get? a=Z ob/\ob.dict=Y:=by
 cases x with
 |str z=>
  obtain⟨t,rfl⟩:=r;cases (show T="str" from ty);exact⟨typeIs_str s z t,fun _ e=>nomatch e⟩
 |int i=>
  obtain⟨t,rfl⟩:=r;cases (show T="int" from ty);exact⟨typeIs_int s i t,fun _ e=>nomatch e⟩
 |ref p=>
  cases r;rcases ty with⟨rfl,xs,j⟩|⟨rfl,o,d,k,hd⟩|⟨rfl,d⟩|⟨rfl,S,n,d⟩
  .obtain⟨l,_,g,_⟩:=I.list j;refine⟨g.isList.typeIs,fun a e=>?_⟩;cases e;obtain⟨o,n,e,c,hd,_⟩:=g;exact⟨o,e,hd⟩
  .refine⟨⟨o,I.kIn p o d,k⟩,fun a e=>?_⟩;cases e;exact⟨o,I.kIn _ o d,hd⟩
  .have z:∃o,s.heap.get? p=Z o/\o.ExactDict:=by
    rcases d with⟨kvs,d⟩|⟨kvs,d⟩
    .obtain⟨_,_,_,_,o,_,_,e,ex,_⟩:=I.hok p _ d;exact⟨o,e,ex⟩
    .obtain⟨_,_,_,_,o,_,_,e,ex,_⟩:=I.hok p _ d;exact⟨o,e,ex⟩
   obtain⟨o,e,ex⟩:=z;refine⟨⟨o,e,ex.1⟩,fun a f=>?_⟩;cases f;exact⟨o,e,ex.2.1⟩
  .obtain⟨o,_,_,_,e,ex,_⟩:=I.hok p _ d;refine⟨⟨o,e,ex.1⟩,fun a f=>?_⟩;cases f;exact⟨o,e,ex.2.1⟩
 |_=>exact False.elim ty
noncomputable def aGw(K:Fg)(T:String)(r:V->Td->Hp->VK->Prop)(to:TE):TE:=fun d H Q=>to d H fun x c=>tyV K T x c/\r x [] c Q
noncomputable def tBM(K:Fg)(T:String)(r:V->Td->Hp->VK->Prop)(to:TE)(t:TA):TE:=fun c H Q=>to c H fun x d=>tyV K T x d/\t c d fun xs e=>r x xs e Q
variable{o e:Uc}{es:T7}{to:TE}{t:TA}{name:Str}{apos cpos:Pos}{T id:String}{r:V->Td->Hp->VK->Prop}
def QL(k:PlainAttrs T)(slot:Slot T name id)(f:typeOf (.builtin id)=pure (.type "method_descriptor"))(hm:MtR X id r)(l:PE X o to)
 (c:attributeBase o name X.env (eval o X.env)=eval o X.env:=by rfl) (d:(apos.endLine==cpos.line)=true:=by rfl):PE X (.Call (.Attribute o name apos) [] [] cpos) (aGw X.K T r to):=by
 intro pins s g H Q I h;refine wpAny_Call_method0_late c d (thn (l pins s g H _ I h) fun v s1 ⟨x,m,i,j,ty,n⟩=>?_);obtain⟨p,q⟩:=QZ i j ty;exact⟨T,id,k,slot,f,p,q,Calls.callWith_builtin rfl<|PySem.evalArgs_none<|hm pins s1 g m x [] v [] Q i j .nil n⟩
def UV(n:PlainAttrs T)(slot:Slot T name id)(i:typeOf (.builtin id)=pure (.type "method_descriptor"))(hm:MtR X id r)(p:PE X o to)(ha:PA X (e::es) t)
 (d:attributeBase o name X.env (eval o X.env)=eval o X.env:=by rfl)
 (g:((backTo cpos<|starEach (e::es) X.env).all (fun x=>!x.1)&&(backToKw cpos<|keywordEach [] X.env).all (fun x=>x.1.isSome)
  && decide ((e::es).length+([]:Tv Keyword).length+(if ([]:Tv Keyword).isEmpty then 0 else 1)<30))=true:=by rfl)
 (f:(apos.endLine==cpos.line)=true:=by rfl) (hs:starEach (e::es) X.env=(false,eval e X.env)::starEach es X.env:=by rfl) (c:(backTo cpos<|starEach es X.env).any (·.1)=false:=by rfl):
 PE X (.Call (.Attribute o name apos) (e::es) [] cpos) (tBM X.K T r to t):=by
 intro pins s j H Q I h;refine wpAny_Call_method_late d g f rfl (thn (p pins s j H _ I h) fun v s1 ⟨x,q,k,l,ty,u⟩=>?_);obtain⟨w,y⟩:=QZ k l ty;refine⟨T,id,n,slot,i,w,y,?_⟩;have m:=ha cpos pins s1 j q _ k u;rw[hs]at m ⊢;refine Calls.callWith_builtin (by show(false || (backTo cpos<|starEach es X.env).any (·.1))=false;rw[c]<;>rfl)<|Calls.evalArgs_plain ?_;exact thn m fun us s2 ⟨vs,z,A,B,C⟩=>hm pins s2 j z x vs v us Q A l B C
end
def MtM(X:Cx)(id:String)(r:V->Td->Hp->VK->Prop):Prop:=
 ∀(pins:T1)(s:Ua)(a:St)(H:Hp)(x:V)(xs:Td)(v:Tx)(us:T4)(Q:VK),Inv X pins a H s->RelV x v->bB xs us->r x xs H Q->
  wpAny (model X.prog X.w) X.A (call (.builtin id) (v::us)) (EP X pins a Q) X.xe s
def bB.one:∀{x:V}{us:T4},bB [x] us->∃u,us=[u]/\RelV x u
 |_,_,.cons r .nil=>⟨_,rfl,r⟩
def bB.zero:∀{us:T4},bB [] us->us=[]
 |_,.nil=>rfl
def bB.dropLast{xs:Td}{us:T4}(h:bB xs us):bB xs.dropLast us.dropLast:=by
 induction h with
 |nil=>exact .nil
 |cons r t ih=>
  cases t with
  |nil=>exact .nil
  |cons q a=>exact .cons r ih
def bB.eraseIdx:∀{xs:Td}{us:T4}(i:Nat),bB xs us->bB (xs.eraseIdx i) (us.eraseIdx i)
 |_,_,_,.nil=>.nil
 |_,_,0,.cons _ t=>t
 |_,_,i+1,.cons r t=>.cons r (bB.eraseIdx i t)
def bB.reverse{xs:Td}{us:T4}(h:bB xs us):bB xs.reverse us.reverse:=by
 induction h with
 |nil=>exact .nil
 |cons r t ih=>rw[List.reverse_cons,List.reverse_cons];exact bB.append ih (.cons r .nil)
def GW{c:Type}(l:Tv c):l.eraseIdx (l.length-1)=l.dropLast:=by
 induction l with
 |nil=>rfl
 |cons a r ih=>
  cases r with
  |nil=>rfl
  |cons b r=>
   have e:(a::b::r).length-1=((b::r).length-1)+1:=by
    have d:(a::b::r).length=r.length+2:=rfl;have f:(b::r).length=r.length+1:=rfl;omega
   rw[e,List.eraseIdx_cons_succ,ih]
   all_goals rfl
def zQ{a:Type}:∀(l:Tv a)(i:Nat),(l.eraseIdx i).length<=l.length
 |[],_=>A9 _
 |_::_,0=>Nat.le_succ _
 |_::r,i+1=>Nat.succ_le_succ<|zQ r i
section
variable{X:Cx}{pins:T1}{σ:St}{H:Hp}{s:Ua}{l b:Ub}{xs ys zs:Td}
def Inv.lset{its its':T4}{n:Nat}{f:Ti->Ti}{t':Nat}(I:Inv X pins σ H s)(a:H l=Z (.lst xs))
 (e:s.heap.get? l=Z { cls:=.type "list",data:=.seq its.toArray n }) (c:f its.toArray=its'.toArray) (d:bB ys its') (hz:ys.length<=sizeLine):
 Inv X pins σ (upd H l (.lst ys)) { s with heap:=s.heap.update l<|Obj.mapSeq f,toks:=t' }:=by
 have q:=PySem.IsL.update e f;rw[c]at q;refine I.write (x:=l) (e:=l) (by rw[a];exact trivial) (.inl rfl) (fun i u g h=>(F9 s.heap (Obj.mapSeq f)<|F5 g).trans h) ⟨_,q⟩ ?_;exact⟨hz,its',_,d,q⟩
def Inv.lnew{its:T4}{t':Nat}(I:Inv X pins σ H s)(a:bB ys its)(hz:ys.length<=sizeLine):
 Inv X pins σ (upd H s.heap.objs.size (.lst ys)) { s with heap:=s.heap.push { cls:=.type "list",data:=.seq its.toArray },toks:=t' }:=
 I.laid (fun _ _ q=>A1 _ q) (A9 _) ⟨hz,its,0,a,B3 _ rfl⟩
def Inv.fresh(I:Inv X pins σ H s):H s.heap.objs.size=Y:=I.hok.fresh<|A9 _
def Inv.lstM(I:Inv X pins σ H s)(a:H l=Z (.lst xs)):xs.length<=sizeLine/\∃(its:T4)(n:Nat),bB xs its/\xs.length=its.length/\s.heap.get? l=Z { cls:=.type "list",data:=.seq its.toArray n }:=by
 obtain⟨z,its,n,r,e⟩:=I.hok l _ a;exact⟨z,its,n,r,r.length,e⟩
end
section
variable{X:Cx}
def KC:V->Td->Hp->VK->Prop:=fun x vs H Q=>∃l xs y,x=.ref l/\vs=[y]/\H l=Z (.lst xs)/\xs.length<sizeLine/\Q .non (upd H l (.lst (xs++[y])))
def NK:MtM X "list.append" KC:=by
 intro pins s g H x vs v us Q I c d h;obtain⟨l,xs,y,rfl,rfl,b,i,q⟩:=h;cases c;obtain⟨u,rfl,f⟩:=d.one;obtain⟨z,a,n,r,j,e⟩:=I.lstM b;refine Z9 F.slot_list_append ⟨_,e,rfl⟩ F.entry_list_append (F.args_list_append_2 _ _) (PySem.list_append l a.toArray n u (by rw[B9];omega)) ⟨e,?_⟩;refine⟨.non,_,I.lset (its':=a++[u]) b e (by simp) (r.append (.cons f .nil)) ?_,rfl,q⟩;rw[B1,D6];omega
def aGh:V->Td->Hp->VK->Prop:=fun x vs H Q=>∃l xs y,x=.ref l/\vs=[]/\H l=Z (.lst xs)/\xs[xs.length-1]?=Z y/\Q y (upd H l (.lst xs.dropLast))
def aDg:MtM X "list.pop" aGh:=by
 intro pins s o H x vs v us Q I f g h;obtain⟨l,xs,y,rfl,rfl,d,i,q⟩:=h;cases f;have b:=g.zero;subst b;obtain⟨z,a,n,r,j,e⟩:=I.lstM d;obtain⟨u,k,m⟩:=r.get i
 have c:a.toArray[a.toArray.size-1]?=Z u:=by
  show a.toArray[a.length-1]?=Z u;rw[<- J6,<- j];exact k
 refine Z9 F.slot_list_pop ⟨_,e,rfl⟩ F.entry_list_pop (F.args_list_pop_1 _) (MeetsSeq.list_pop_last l a.toArray n u c (by rw[B9];omega)) ⟨e,?_⟩;refine⟨y,_,I.lset (its':=a.dropLast) d e ?_ r.dropLast ?_,m,q⟩
 .show a.toArray.eraseIdxIfInBounds (a.toArray.size-1)=a.dropLast.toArray;rw[B9,List.eraseIdxIfInBounds_toArray,GW]
 .rw[List.length_dropLast];omega
def TM:V->Td->Hp->VK->Prop:=fun x vs H Q=>∃l xs i k y,x=.ref l/\vs=[.int i]/\H l=Z (.lst xs)/\-(2 ^ 63)<=i/\i<2 ^ 63/\seqIndex? i xs.length=Z k/\xs[k]?=Z y/\Q y (upd H l (.lst (xs.eraseIdx k)))
def RC:MtM X "list.pop" TM:=by
 intro pins s C H x vs v us Q I d f h;obtain⟨l,xs,i,k,y,rfl,rfl,c,g,j,m,o,q⟩:=h;cases d;obtain⟨u,rfl,p⟩:=f.one;obtain⟨t,rfl⟩:=p;obtain⟨z,a,n,r,A,e⟩:=I.lstM c;obtain⟨w,B,b⟩:=r.get o
 refine Z9 F.slot_list_pop ⟨_,e,rfl⟩ F.entry_list_pop (F.args_list_pop_2 _ _)
  (MeetsSeq.list_pop_at l a.toArray n i t k w (fitsIndex_both g j) (by rw[B9,<- A];exact m) (by rw[<- J6];exact B) (by rw[B9];omega)) ⟨e,?_⟩
 refine⟨y,_,I.lset (its':=a.eraseIdx k) c e ?_ (r.eraseIdx k) ?_,b,q⟩
 .show a.toArray.eraseIdxIfInBounds k=(a.eraseIdx k).toArray;rw[List.eraseIdxIfInBounds_toArray]
 .have:=zQ xs k;omega
def GM:V->Td->Hp->VK->Prop:=fun x vs H Q=>∃l xs,x=.ref l/\vs=[]/\H l=Z (.lst xs)/\Q .non (upd H l (.lst xs.reverse))
def HG:MtM X "list.reverse" GM:=by
 intro pins s g H x vs v us Q I d f h;obtain⟨l,xs,rfl,rfl,c,q⟩:=h;cases d;have b:=f.zero;subst b;obtain⟨z,a,n,r,i,e⟩:=I.lstM c;refine Z9 F.slot_list_reverse ⟨_,e,rfl⟩ F.entry_list_reverse (F.args_list_reverse_1 _) (AutoSeq1.list_reverse_list_0 l a.toArray n (by rw[B9];omega)) ⟨e,?_⟩;refine⟨.non,_,I.lset (its':=a.reverse) c e (by simp) r.reverse ?_,rfl,q⟩;rw[List.length_reverse];omega
def len_rep{a:Type}(xs:Tv a)(k:Nat):(List.replicate k xs).flatten.length=k*xs.length:=by
 induction k with
 |zero=>simp
 |succ k ih=>rw[O6,L9,B1,ih,Nat.succ_mul,Nat.add_comm]
end
section
variable{κ:Type}[DecidableEq κ]
noncomputable def iP(kvs:Tv (κ×V))(k:κ):Tw V:=(kvs.find? fun a=>decide (a.1=k)).map (·.2)
noncomputable def putK(kvs:Tv (κ×V))(k:κ)(v:V):Tv (κ×V):=
 if (kvs.any fun a=>decide (a.1=k))=true then kvs.map (fun a=>if a.1=k then(a.1,v)else a)else kvs++[(k,v)]
def yC{p:κ×V}{r:Tv (κ×V)}{k:κ}(e:p.1=k):iP (p::r) k=Z p.2:=by simp[iP,List.find?_cons,e]
def xP{p:κ×V}{r:Tv (κ×V)}{k:κ}(e:¬p.1=k):iP (p::r) k=iP r k:=by simp[iP,List.find?_cons,e]
def EJ(k:κ):∀kvs:Tv (κ×V),(kvs.any fun a=>decide (a.1=k))=(iP kvs k).isSome
 |[]=>rfl
 |p::r=>by
  rw[U6];by_cases e:p.1=k
  .simp only[yC e,decide_eq_true e,Bool.true_or,Option.isSome_some]
  .rw[xP e,C2 e,Bool.false_or];exact EJ k r
def kN(kvs:Tv (κ×V))(k:κ)(v:V):(putK kvs k v).length<=kvs.length+1:=by
 unfold putK;split
 .rw[A3];omega
 .rw[B1,E5,List.length_nil];omega
def uG.isSome_eq{o:Tw V}{u:Tf}(r:uG o u):o.isSome=u.isSome:=by
 cases o with
 |none=>cases u with
  |none=>rfl
  |some _=>exact(show False from r).elim
 |some _=>cases u with
  |none=>exact(show False from r).elim
  |some _=>rfl
def KV.val{kvs:Tv (κ×V)}{vs:Tv (κ×Tx)}(r:KV kvs vs)(k:κ):uG (iP kvs k) (valueAt vs k):=by
 unfold KV at r
 induction r with
 |nil=>exact True.intro
 |@cons p q ps a h t ih=>
  obtain⟨d,f⟩:=h;by_cases e:p.1=k
  .have c:q.1=k:=d.symm.trans e;have b:valueAt (q::a) k=Z q.2:=by simp[valueAt,List.find?_cons,c]
   rw[yC e,b];exact f
  .have c:¬q.1=k:=fun z=>e<|d.trans z;have b:valueAt (q::a) k=valueAt a k:=by simp[valueAt,List.find?_cons,c]
   rw[xP e,b];exact ih
def KV.any{kvs:Tv (κ×V)}{vs:Tv (κ×Tx)}(r:KV kvs vs)(k:κ):(kvs.any fun a=>decide (a.1=k))=vs.any fun a=>decide (a.1=k):=by
 unfold KV at r
 induction r with
 |nil=>rfl
 |cons h t ih=>rw[U6,U6,ih,h.1]
def KV.repl{kvs:Tv (κ×V)}{vs:Tv (κ×Tx)}(r:KV kvs vs)(k:κ){y:V}{u:Tx}(c:RelV y u):
 KV (kvs.map fun a=>if a.1=k then(a.1,y)else a) (vs.map fun a=>if a.1=k then(a.1,u)else a):=by
 unfold KV at r ⊢
 induction r with
 |nil=>exact .nil
 |@cons p q ps f h t ih=>
  rw[C7,C7];refine .cons ?_ ih;obtain⟨b,d⟩:=h;by_cases e:p.1=k
  .rw[A7 e,A7<|b.symm.trans e];exact⟨b,c⟩
  .rw[B0 e,B0 fun z=>e<|b.trans z];exact⟨b,d⟩
def KV.put{kvs:Tv (κ×V)}{vs:Tv (κ×Tx)}(r:KV kvs vs)(k:κ){y:V}{u:Tx}(a:RelV y u):KV (putK kvs k y) (stored vs k u):=by
 unfold putK stored;rw[r.any k];by_cases e:(vs.any fun b=>decide (b.1=k))=true
 .rw[A7 e,A7 e];exact r.repl k a
 .rw[B0 e,B0 e];exact Paired.snoc r ⟨rfl,a⟩
def KV.length{kvs:Tv (κ×V)}{vs:Tv (κ×Tx)}(r:KV kvs vs):kvs.length=vs.length:=Z0 r
end
def GH{P:Ud}{w:World}{k:Key}{u:Tx}(r:RelV (kV k) u):(dM P w).is k u=true:=by
 cases k with
 |inl i=>obtain⟨t,e⟩:=(show ∃t,u=Value.int i t from r);subst e;exact DF P w i t
 |inr x=>obtain⟨t,e⟩:=(show ∃t,u=Value.str x t from r);subst e;exact EK P w x t
def zU{P:Ud}{w:World}:∀{ks:Tv Key}{us:T4},bB (ks.map kV) us->ItemsAre (dM P w) ks us
 |[],_=>fun r=>by rw[List.map_nil]at r;cases r;exact .nil
 |k::ks,_=>fun r=>by
  rw[C7]at r;cases r with
  |cons h t=>exact .cons (GH h) (zU t)
abbrev KT(H:Hp):Tv (Tv Key×V)->Tv (Tv Key×Ub×Tx)->Prop:=Paired fun p q=>p.1=q.1/\H q.2.1=Z (.tup (p.1.map kV))/\RelV p.2 q.2.2
def KT.val{kvs:Tv (Tv Key×V)}{xs:Tv (Tv Key×Ub×Tx)}(r:KT H kvs xs)(k:Tv Key):uG (iP kvs k) ((atKey xs k).map (·.2)):=by
 induction r with
 |nil=>exact True.intro
 |@cons p q ps a h t ih=>
  obtain⟨d,_,f⟩:=h;by_cases e:p.1=k
  .have c:q.1=k:=d.symm.trans e;have b:atKey (q::a) k=Z q.2:=by simp[atKey,List.find?_cons,c]
   rw[yC e,b];exact f
  .have c:¬q.1=k:=fun z=>e<|d.trans z;have b:atKey (q::a) k=atKey a k:=by simp[atKey,List.find?_cons,c]
   rw[xP e,b];exact ih
def KT.repl{kvs:Tv (Tv Key×V)}{xs:Tv (Tv Key×Ub×Tx)}(r:KT H kvs xs)(k:Tv Key){y:V}{u:Tx}(d:RelV y u):
 KT H (kvs.map fun b=>if b.1=k then(b.1,y)else b) (xs.map<|putAt k u):=by
 induction r with
 |nil=>exact .nil
 |@cons p q ps g h t ih=>
  rw[C7,C7];refine .cons ?_ ih;obtain⟨a,c,f⟩:=h;unfold putAt;by_cases e:p.1=k
  .rw[A7 e,A7<|a.symm.trans e];exact⟨a,c,d⟩
  .rw[B0 e,B0 fun z=>e<|a.trans z];exact⟨a,c,f⟩
def KT.put{kvs:Tv (Tv Key×V)}{xs:Tv (Tv Key×Ub×Tx)}(r:KT H kvs xs)(k:Tv Key){b:Ub}{y:V}{u:Tx}(c:H b=Z (.tup (k.map kV)))(a:RelV y u):
 KT H (putK kvs k y) (storedH xs k b u):=by
 have e:(kvs.any fun d=>decide (d.1=k))=(atKey xs k).isSome:=by
  rw[EJ,(r.val k).isSome_eq,Option.isSome_map]
 unfold putK storedH;rw[e];by_cases q:(atKey xs k).isSome=true
 .rw[A7 q,A7 q];exact r.repl k a
 .rw[B0 q,B0 q];exact Paired.snoc r ⟨rfl,c,a⟩
def KT.keeps{H':Hp}{kvs:Tv (Tv Key×V)}{xs:Tv (Tv Key×Ub×Tx)}(r:KT H kvs xs)(ht:∀b ys,H b=Z (.tup ys)->H' b=Z (.tup ys)):KT H' kvs xs:=
 Paired.mapP r fun _ _ z=>⟨z.1,ht _ _ z.2.1,z.2.2⟩
section
variable{P:Ud}{w:World}{H:Hp}{h:Heap}{a:Ub}
def aBE{u:HO}(ok:HOk P w H h)(e:Rd H a u):cO P w H h a u:=e.ok ok
def LD{kvs:Tv (Key×V)}(ok:HOk P w H h)(e:Rd H a (.dK kvs)):kvs.length<=sizeLine/\(a==sysModules)=false/\∃vs,KV kvs vs/\h.DictOf (dM P w) a vs:=
 show cO P w H h a (.dK kvs)from aBE ok e
def aBz{kvs:Tv (Key×V)}(ok:HOk P w H h)(e:H a=Z (.dK kvs)):kvs.length<=sizeLine/\(a==sysModules)=false/\∃vs,KV kvs vs/\h.DictOf (dM P w) a vs:=LD ok (.inl e)
def yF{ks:Tv Key}(ok:HOk P w H h)(e:H a=Z (.tup (ks.map kV))):(tupleKind<|dM P w).is h ks a:=by
 obtain⟨_,b,r,o,c,d,n,f⟩:=(show cO P w H h a (.tup (ks.map kV))from ok a _ e);exact⟨o,b.toArray,n,c,d,f,by simpa using zU r⟩
def KU{kvs:Tv (Tv Key×V)}(ok:HOk P w H h)(e:Rd H a (.dT kvs)):kvs.length<=sizeLine/\(a==sysModules)=false /\
 ∃xs,KT H kvs xs/\h.DictOfH (tupleKind<|dM P w) a xs:=by
 obtain⟨z,y,xs,r,o,es,ep,c,d,f,g,i⟩:=(show cO P w H h a (.dT kvs)from aBE ok e);refine⟨z,y,xs,r,o,es,ep,c,d,f,g,fun x hx=>?_,i⟩
 have all:∀{l:Tv (Tv Key×V)}{m:Tv (Tv Key×Ub×Tx)},KT H l m->∀x∈m,(tupleKind<|dM P w).is h x.1 x.2.1:=by
  intro l m q
  induction q with
  |nil=>intro x hx;exact nomatch hx
  |@cons p q ps j b t ih=>
   intro x hx;rcases List.mem_cons.mp hx with e|hx
   .subst e;exact yF ok (by rw[<- b.1];exact b.2.1)
   .exact ih x hx
 exact all r x hx
def aBb{kvs:Tv (Tv Key×V)}(ok:HOk P w H h)(e:H a=Z (.dT kvs)):kvs.length<=sizeLine/\(a==sysModules)=false /\
 ∃xs,KT H kvs xs/\h.DictOfH (tupleKind<|dM P w) a xs:=KU ok (.inl e)
end
def vK(H:Hp)(a:Ub)(y:V)(r:Tw V):Prop:=
 (∃kvs k,Rd H a (.dK kvs)/\y=kV k/\r=iP kvs k)\/∃kvs k b,Rd H a (.dT kvs)/\y=.ref b/\H b=Z (.tup (k.map kV))/\r=iP kvs k
def yZ(H:Hp)(a:Ub)(y v:V)(H':Hp):Prop:=
 (∃kvs k,H a=Z (.dK kvs)/\y=kV k/\kvs.length<sizeLine/\H'=upd H a (.dK (putK kvs k v))) \/
 ∃kvs k b,H a=Z (.dT kvs)/\y=.ref b/\H b=Z (.tup (k.map kV))/\kvs.length<sizeLine/\H'=upd H a (.dT (putK kvs k v))
def vK.k{a:Ub}{kvs:Tv (Key×V)}{k:Key}(e:H a=Z (.dK kvs)):vK H a (kV k) (iP kvs k):=.inl ⟨kvs,k,.inl e,rfl,rfl⟩
def vK.t{a b:Ub}{kvs:Tv (Tv Key×V)}{k:Tv Key}(e:H a=Z (.dT kvs))(c:H b=Z (.tup (k.map kV))):vK H a (.ref b) (iP kvs k):=.inr ⟨kvs,k,b,.inl e,rfl,c,rfl⟩
def yZ.k{a:Ub}{kvs:Tv (Key×V)}{k:Key}{v:V}(e:H a=Z (.dK kvs))(b:kvs.length<sizeLine):yZ H a (kV k) v (upd H a (.dK (putK kvs k v))):=.inl ⟨kvs,k,e,rfl,b,rfl⟩
def yZ.t{a b:Ub}{kvs:Tv (Tv Key×V)}{k:Tv Key}{v:V}(e:H a=Z (.dT kvs))(c:H b=Z (.tup (k.map kV)))(d:kvs.length<sizeLine):
 yZ H a (.ref b) v (upd H a (.dT (putK kvs k v))):=.inr ⟨kvs,k,b,e,rfl,c,d,rfl⟩
section
variable{X:Cx}{pins:T1}{σ:St}{H:Hp}{s:Ua}{a:Ub}{y v:V}{u r:Tx}{o:Tw V}{A:Ue}{E:T0}
def Inv.big(I:Inv X pins σ H s):sysModules<s.heap.objs.size:=by
 have h:mainGlobals<s.heap.objs.size:=(I.mod.glob.keeps I.bk).lt;exact U0 (by decide) h
def NF{Q:T0}(x:A.units+1<cLine)(I:Inv X pins σ H s)(g:vK H a y (Z v))(q:RelV y u)(h:∀f t,Inv X pins σ H t->RelV v f->Q f t):
 wpAny (model X.prog X.w) A (getItem (.ref a) u) Q E s:=by
 rcases g with⟨kvs,k,e,i,l⟩|⟨kvs,k,b,e,i,B,l⟩
 .subst i;obtain⟨z,hd,vs,c,j⟩:=LD I.hok e;obtain⟨f,m,d⟩:=uG.some_of (v:=v) (o:=valueAt vs k) (by rw[l];exact c.val k);exact wpAny_getItem_of (GH q) j.mapOf m<|h f _ (I.tok _) d
 .subst i;cases (show u=Value.ref b from q);obtain⟨z,hd,xs,c,j⟩:=KU I.hok e;obtain⟨f,m,d⟩:=uG.some_of (v:=v) (o:=(atKey xs k).map (·.2)) (by rw[l];exact c.val k);obtain⟨p,C,n⟩:=Option.map_eq_some_iff.mp m;refine wpAny_getItem_heap (tupleKind_room_in1 x) (yF I.hok B) j C ?_;rw[n];exact h f _ (I.tok _) d
def aHo{Q:T0}(m:A.units+1<cLine)(I:Inv X pins σ H s)(g:vK H a y o)(i:RelV y u)(h:∀j,Inv X pins σ H j->Q (.bool o.isSome) j):
 wpAny (model X.prog X.w) A (compareOp .In u (.ref a)) Q E s:=by
 rcases g with⟨kvs,k,e,d,l⟩|⟨kvs,k,b,e,d,n,l⟩
 .subst d;obtain⟨z,hd,vs,c,f⟩:=LD I.hok e;refine wpAny_in_of (GH i) hd f.mapOf ?_;rw[<- (c.val k).isSome_eq,<- l];exact h _<|I.tok _
 .subst d;cases (show u=Value.ref b from i);obtain⟨z,hd,xs,c,f⟩:=KU I.hok e;refine wpAny_in_heap (tupleKind_room_in1 m) (yF I.hok n) hd f ?_;have q:=(c.val k).isSome_eq;rw[Option.isSome_map]at q;rw[<- q,<- l];exact h _<|I.tok _
def rZ{h':Heap}{t':Nat}{ob:HO}(I:Inv X pins σ H s)(c:Mut (H a))(hs:Heap.SameBut a s.heap h')(d:∃q,h'.get? a=Z q)(new:cO X.prog X.w (upd H a ob) h' a ob):
 Inv X pins σ (upd H a ob) { s with heap:=h',toks:=t' }:=
 I.write (x:=a) (e:=a) c (.inl rfl) (fun b q f z=>(hs.2 b f).trans z) d new
def PK{P:Ud}{w:World}{H':Hp}{h':Heap}{kvs:Tv (Key×V)}{vs:Tv (Key×Tx)}(z:kvs.length<=sizeLine)(hd:(a==sysModules)=false)(b:KV kvs vs)(dd:h'.DictOf (dM P w) a vs):
 cO P w H' h' a (.dK kvs):=⟨z,hd,vs,b,dd⟩
def MR{H':Hp}{Q:Unit->Ua->Prop}(G:A.units+1<cLine)(I:Inv X pins σ H s)(g:yZ H a y v H')(x:RelV y u)(B:RelV v r)(h:∀C,Inv X pins σ H' C->Q () C):
 wpAny (model X.prog X.w) A (setItem (.ref a) u r) Q E s:=by
 rcases g with⟨kvs,k,e,j,l,m⟩|⟨kvs,k,b,e,j,D,l,m⟩
 .subst j m;obtain⟨z,hd,vs,d,n⟩:=aBz I.hok e;have p:vs.length<=sizeLine:=by rw[<- d.length];exact z
  have t:(putK kvs k v).length<=sizeLine:=by have:=kN kvs k v;omega
  refine wpAny_setItem_pairs (hsz:=p) (GH x) n fun h' f hs=>h _ ?_;have J:∃q,h'.get? a=Z q:=let⟨q,_,_,i,_⟩:=f;⟨q,i⟩;exact rZ I (by rw[e];exact True.intro) hs J<|PK t hd (d.put k B) f
 .subst j m;cases (show u=Value.ref b from x);obtain⟨z,hd,xs,d,n⟩:=aBb I.hok e;have p:xs.length<=sizeLine:=by rw[<- Z0 d];exact z
  have t:(putK kvs k v).length<=sizeLine:=by have:=kN kvs k v;omega
  refine wpAny_setItem_heap (hsz:=p) (tupleKind_room_in1 G) (yF I.hok D) n fun h' f hs=>h _ ?_;obtain⟨q,es,ep,i,K,L,M,_,N⟩:=f;refine rZ I (by rw[e];exact True.intro) hs ⟨q,i⟩ ⟨t,hd,_,(d.put k D B).keeps fun c O F=>?_,q,es,ep,i,K,L,M,N⟩;rw[aN (aAY F e fun z=>nomatch z)];exact F
end
def aDC(i:Uc):Prop:=∀a b,subscripted i false a b=operate [a,b] (getItem a b)
def aAE{prog:Ud}{w:World}{A:Ue}{E:T0}{s:Ua}{env:Env}{b a:Uc}{pos:Pos}{T id:String}{Q:T0}
 (l:typeLookup (.type T) "__getitem__"=pure (Z (.builtin id))) (hs:aDC a)
 (h:wpAny (model prog w) A (eval b env) (fun o e=>wpAny (model prog w) A (eval a env) (fun i c=>c.TypeIs o T/\wpAny (model prog w) A (getItem o i) Q E c) E e) E s):
 wpAny (model prog w) A (eval (.Subscript b a pos) env) Q E s:=by
 refine Subscript_ (D5 h (fun o e j=>D5 j (fun i c d=>?_) fun _ _ x=>x) fun _ _ x=>x);obtain⟨hT,d⟩:=d;unfold subscriptTail;refine A0 ?_;rw[getitemInPython_of_ne hT.not_modules];refine A0<|wpAny_specialOf hT l ?_
 have g:wpAny (model prog w) A (subscripted a false o i) (fun r f=>wpAny (model prog w) A (letTemporaryGo b o r >>= fun _=>pure r) Q E f) E c:=by
  rw[hs o i];exact wpAny_operating (D5 d (fun r f k=>A0<|wpAny_letTemporaryGo<|A4 k) fun _ _ x=>x)
 first
  |exact A4<|A0 g
  |exact A0<|A4<|A0 g
  |exact A0 g
def EW{X:Cx}{pins:T1}{d:St}{s:Ua}{a:Ub}{y:V}{o:Tw V}(I:Inv X pins d H s)(g:vK H a y o):s.TypeIs (.ref a) "dict":=by
 rcases g with⟨kvs,k,e,_,_⟩|⟨kvs,k,b,e,_,_,_⟩
 .obtain⟨_,_,vs,_,c⟩:=LD I.hok e;exact c.typeIs
 .obtain⟨_,_,xs,_,c⟩:=KU I.hok e;exact c.typeIs
def aBg(d ty:TE):TE:=fun b H Q=>d b H fun x e=>ty b e fun y c=>∃a v,x=.ref a/\vK c a y (Z v)/\Q v c
noncomputable def aGI(ty d:TE):TE:=fun b H Q=>ty b H fun y e=>d b e fun x c=>∃a o,x=.ref a/\vK c a y o/\Q (.bl o.isSome) c
noncomputable def aBf(d ty e:TE):TS:=fun D b H=>e b H fun v f=>d b f fun x g=>ty b g fun y h=>∃a c,x=.ref a/\yZ h a y v c/\D.nx b c
section
variable{X:Cx}{o i e value:Uc}{pos pos' tpos:Pos}{td ty tv:TE}
def WL(f:X.A.units+1<cLine)(j:PE X o td)(hi:PE X i ty)(hs:aDC i):PE X (.Subscript o i pos) (aBg td ty):=by
 intro pins s c H Q I h;refine aAE F.slot_dict_getitem.lookup hs (thn (j pins s c H _ I h) fun u s1 ⟨x,k,l,m,n⟩=>thn (hi pins s1 c k _ l n) fun w s2 ⟨y,p,d,q,a,v,ex,g,r⟩=>?_);subst ex;obtain rfl:u=Value.ref a:=m;exact⟨EW d g,NF f d g q fun z B t b=>⟨v,p,t,b,r⟩⟩
def aDx(c:X.A.units+1<cLine)(hi:PE X i ty)(d:PE X o td):PC X .In i o (aGI ty td):=by
 intro pins s b H Q I h;refine thn (hi pins s b H _ I h) fun v s1 ⟨y,f,j,k,l⟩=>thn (d pins s1 b f _ j l) fun u s2 ⟨x,m,n,p,a,q,ex,g,r⟩=>?_;subst ex;obtain rfl:u=Value.ref a:=p;exact aHo c n g k fun w t=>⟨.bl q.isSome,m,t,rfl,r⟩
def XO(c:X.A.units+1<cLine)(d:PE X o td)(hi:PE X i ty)(f:PE X value tv)(hs:swapsWith value (Z (.Subscript o i pos')) pos.line X.env=pure false):
 PS X (.Assign [.Subscript o i pos'] value pos) (aBf td ty tv):=by
 intro pins s b H D I h;refine wpAny_Assign_Subscript (thn (f pins s b H _ I h) fun r s1 ⟨v,j,k,l,m⟩=>thn (d pins s1 b j _ k m) fun u s2 ⟨x,n,p,q,t⟩=>thn (hi pins s2 b n _ p t) fun F G ⟨y,J,w,z,a,B,ex,g,C⟩=>?_) hs;subst ex;obtain rfl:u=Value.ref a:=q;exact MR c w g z l fun K E=>⟨b,B,E,C⟩
end
def EO{P:Ud}{w:World}(h:Heap)(a:sysModules<h.objs.size):cO P w H (h.push { cls:=.type "dict",data:=.dict #[] }) h.objs.size (.dK []):=
 ⟨L8 _,beq_eq_false_iff_ne.mpr<|F5<|B5 a,[],.nil,Heap.DictOf.new h⟩
def FB{P:Ud}{w:World}(h:Heap)(a:sysModules<h.objs.size):cO P w H (h.push { cls:=.type "dict",data:=.dict #[] }) h.objs.size (.dT []):=
 ⟨L8 _,beq_eq_false_iff_ne.mpr<|F5<|B5 a,[],.nil,_,#[],0,B3 _ rfl,⟨rfl,rfl,rfl⟩,rfl,rfl,List.nodup_nil⟩
def UE:TE:=fun _ H Q=>∀p,H p=Y->Q (.ref p) (upd H p (.dK []))
def RU:TE:=fun _ H Q=>∀p,H p=Y->Q (.ref p) (upd H p (.dT []))
section
variable{X:Cx}{pos:Pos}
def RA:PE X (.Dict [] [] pos) UE:=fun pins s b H Q I h=>
 wpAny_Dict_empty ⟨.ref s.heap.objs.size,_,I.laid (a:=s.heap.objs.size) (o:=.dK []) (t':=s.toks) (fun _ _ q=>A1 _ q) (A9 _)<|EO s.heap I.big,rfl,h _<|I.hok.fresh<|A9 _⟩
def VH:PE X (.Dict [] [] pos) RU:=fun pins s b H Q I h=>
 wpAny_Dict_empty ⟨.ref s.heap.objs.size,_,I.laid (a:=s.heap.objs.size) (o:=.dT []) (t':=s.toks) (fun _ _ q=>A1 _ q) (A9 _)<|FB s.heap I.big,rfl,h _<|I.hok.fresh<|A9 _⟩
end
structure M1(X:Cx)(o:Uc)(m:Str)(apos:Pos)(e:Uc)(cpos:Pos):Prop where
 base:attributeBase o m X.env (eval o X.env)=eval o X.env
 few:((backTo cpos<|starEach [e] X.env).all (fun x=>!x.1)&&(backToKw cpos<|keywordEach [] X.env).all (fun x=>x.1.isSome)
  && decide (([e]:T7).length+([]:Tv Keyword).length+(if ([]:Tv Keyword).isEmpty then 0 else 1)<30))=true
 line:(apos.endLine==cpos.line)=true
 trees:backTo cpos (starEach [e] X.env)=[(false,eval e X.env)]
structure M2(X:Cx)(o:Uc)(m:Str)(apos:Pos)(e f:Uc)(cpos:Pos):Prop where
 base:attributeBase o m X.env (eval o X.env)=eval o X.env
 few:((backTo cpos<|starEach [e,f] X.env).all (fun x=>!x.1)&&(backToKw cpos<|keywordEach [] X.env).all (fun x=>x.1.isSome)
  && decide (([e,f]:T7).length+([]:Tv Keyword).length+(if ([]:Tv Keyword).isEmpty then 0 else 1)<30))=true
 line:(apos.endLine==cpos.line)=true
 trees:backTo cpos (starEach [e,f] X.env)=[(false,eval e X.env),(false,eval f X.env)]
end L2
namespace Att
open PySem PySem.W PySem.Calls PyProof.Rows
def vR{P:Params}{h:Heap}:∀(ns:T6)(vs:T4),WellAll P h vs (ns.map WData.int)->IntsAre vs ns:=by
 intro ns
 induction ns with
 |nil=>
  intro vs w;rw[List.map_nil]at w;cases w;exact .nil
 |cons n ns ih=>
  intro vs w;rw[C7]at w;cases w with
  |cons a b=>
   cases a;exact .cons _ _ (ih _ b)
def OH{l:OpenLaw}{n:Nat}(hn:l.most=Z n){P:Params}{h:Heap}{args:Tv WData}{b:T4}
 (c:l.row.toRowW.claim.pre args=true) (j:WellAll P h b args):
 ∃a vs ns,b=[Value.ref a]/\args=[WData.list (ns.map WData.int)]/\h.get? a=Z { cls:=.type "list",data:=.seq vs.toArray }/\IntsAre vs ns/\ns.length<=n:=by
 have k:WShape.hasAll [] args [.list .int]=true:=(pre_splitW c).1;have m:l.pre.holds [] { args:=args }=true:=(pre_splitW c).2;obtain⟨d,r,rfl,o,p⟩:=hasAllW_cons k;obtain rfl:=hasAllW_nil p;obtain⟨xs,rfl,s⟩:=hasW_list o;obtain⟨ns,rfl⟩:=items_int s
 have e:ns.length<=n:=by
  unfold OpenLaw.pre at m
  have g:(WTm.not (.lt (.lit (.int (n:Int))) (.len (.arg 0)))).holds [] { args:=[.list (ns.map .int)] }=true:=by
   have g:=(holds_andW m).1;rw[hn]at g;exact g
  have i:=condW_of g<|w_not<|w_lt w_lit<|w_len_list<|w_arg rfl;rw[A3]at i;refine Nat.le_of_not_lt fun q=>?_;have t:(n:Int)<((ns.length:Nat):Int):=by omega
  first
   |(rw[D8 t]at i;exact absurd i (by decide))
   |(simp at i;omega)
 cases j with
 |cons u v=>
  cases v;cases u with
  |list w f=>exact⟨_,_,ns,rfl,rfl,w,vR ns _ f,e⟩
def NN(l:OpenLaw)(args:Tv WData):l.row.toRowW.claim.post args (.bool true) args=true:=
 postW_of (r:=l.row.toRowW) (X:=(true==true))
  (show WShape.has [] (.bool true) .bool=true by first|rfl|decide|simp[WShape.has,WShape.arms,WShape.armsAll])
  (show(WTm.eq .res (.lit (.bool true))).value [] { args:=args,res:=Z (.bool true),after:=args }=Z (.bool (true==true))from w_eq_bool (w_res rfl) w_lit) rfl
def attach_call{l:OpenLaw}{n:Nat}{q:Ud}{loose:Tc}{XP:(Str->Tf)->Heap->Prop}{YP:World->Heap->Prop}{d:DefRec}
 (hn:l.most=Z n) (m:d.params.defaults=[])
 (call:∀(w:World)(s₀ c:Ua)(mg mb:Str->Tf)(fa:Ub)(o:Obj)(pm j doc:Tx)(a:Ub)(vs:T4)(ns:T6),
  Ground q loose [] XP w s₀ mg mb c.heap->YP w c.heap->
  c.heap.get? fa=Z o->o.data=.func (docDef d.name d.params d.body d.scope pm j doc)->c.heap.CodeRec j d.name->mg d.name=Z (.ref fa)->
  c.heap.get? a=Z { cls:=.type "list",data:=.seq vs.toArray }->IntsAre vs ns->ns.length<=n->c.gens=#[]->
  codeAny (model l.prog w) callerA (.call (.ref fa) ⟨[.ref a],[]⟩) (fun r k=>r=.ok (.ret (.bool true))/\OldK c.heap k.heap/\k.os=c.os/\AllBare k.gens) c):
 WalkO q loose XP YP l.row.toRowW d [] (fun f vs=>PySem.call f vs):=by
 intro w s₀ c mg mb G b fa o pm j doc y kV z hd p u s A args v as g x B t C;obtain rfl:y=.none:=Dflts.none u m;obtain rfl:kV=.none:=Dflts.noKw u;obtain⟨a,vs,ns,rfl,rfl,h,e,i⟩:=OH hn g t;refine enter_call (Y3 (call w s₀ c mg mb fa o pm j doc a vs ns G b z (fd_plain hd) p s h e i A) fun r k D=>?_);obtain⟨rfl,E,F,H⟩:=D;exact⟨.inl ⟨.bool true,.bool true,[],rfl,fun _=>rfl,.bool true,NN l _,fun _=>⟨List.Pairwise.nil,fun _ hm=>(nomatch hm)⟩⟩,E,F,H⟩
section
variable{prog:Ud}{w:World}{A:Ue}{E:T0}{s:Ua}{K:Frag}
end
end Att
namespace L2
open PySem PySem.Spec PyProof.Rows
def zP:∀{vs:T4}{ns:T6},IntsAre vs ns->bB (ns.map V.int) vs
 |_,_,.nil=>.nil
 |_,_,.cons n t h=>.cons ⟨t,rfl⟩ (zP h)
def aEk(H:Hp):Prop:=∀b,H b=Y\/∃o xs,H b=Z (.frz o (.lst xs))
def SW{P:Ud}{w:World}{K:Fg}{mg mb:Str->Tf}{CX:CXT}{k:Nat}{fa a:Ub}{fd:FuncData}{x:Str}{sp:Sp}{c:Ua}{vs:T4}{ns:T6}
 (KX:K.In c.heap) (t:c.heap.Ns mainGlobals mg) (g:c.heap.Ns builtinsNs mb) (G:∀x:Str,x≠"__name__"->mb x=bootBuiltins x) (y:c.heap.NoLimit) (I:∃U,c.heap.Ns sysModules U) (J:∃bm ob,mg "__builtins__"=Z (.ref bm)/\bm≠builtinsNs/\c.heap.get? bm=Z ob/\ob.cls=.type "module"/\ob.dict=Z builtinsNs/\ob.data=.plain) (hg:c.gens=#[])
 (ha:c.heap.get? a=Z { cls:=.type "list",data:=.seq vs.toArray }) (hi:IntsAre vs ns) (W:ns.length<=sizeLine) (hr:cL k callerA)
 (F:∀base:Heap,K.In base->base.Ns mainGlobals mg->kX P w K mg base CX k fa fd [x] sp) (p:∀(s:Ua)(u:Tx),BindsTo s fd ⟨[u],[]⟩ [(x,u)])
 (L:∀H:Hp,aEk H->SqL K H a (ns.map V.int)->sp [.ref a] H (fun v _=>v=.bl true) fun _ _ _=>False)
 (M:∀H e i,CX [] H c (fun _ _ _=>False) e i->False):
 codeAny (model P w) callerA (.call (.ref fa) ⟨[.ref a],[]⟩) (fun r i=>r=.ok (.ret (.bool true))/\OldK c.heap i.heap/\i.os=c.os/\AllBare i.gens) c:=by
 have X:=zP hi;have A:=hi.length
 have l:∀H:Hp,aEk H->SqL K H a (ns.map V.int)->HOk P w H c.heap->(∀b,H b≠Y->b=a)->(H a≠Y->K.lookup a=Y)->
  codeAny (model P w) callerA (.call (.ref fa) ⟨[.ref a],[]⟩) (fun r i=>r=.ok (.ret (.bool true))/\OldK c.heap i.heap/\i.os=c.os/\AllBare i.gens) c:=by
  intro H hO hS hok N hK;have f:∀{b:Ub}{o:Obj},c.heap.get? b=Z o->H b=Y->(CA c.heap H).get? b=Z o:=fun e n=>RZ e n
  have noA:∀{b:Ub}{o:Obj}{es:Array DictEntry}{ep:Nat},c.heap.get? b=Z o->o.data=.dict es ep->H b=Y:=fun{b o es ep} e d=>by
   cases q:H b with
   |none=>rfl
   |some u=>
    have B:b=a:=N b (by rw[q];simp);subst B;rw[ha]at e;cases e;have d':Data.seq vs.toArray _=Data.dict es ep:=d;cases d'
  have j:∀{b:Ub}{m:Str->Tf},c.heap.Ns b m->(CA c.heap H).Ns b m:=fun{b m} ⟨o,es,ep,e,d,r⟩=>⟨o,es,ep,f e<|noA e d,d,r⟩
  have C:K.In (CA c.heap H):=fun b o e=>f (KX b o e) (by
   cases q:H b with
   |none=>rfl
   |some u=>
    have B:b=a:=N b (by rw[q];simp);subst B;rw[hK (by rw[q];simp)]at e;cases e)
  have hM:Mod K mg (CA c.heap H):=⟨C,j t,⟨mb,j g,G⟩,(let⟨mc,O,Q⟩:=y;⟨mc,j O,Q⟩),(let⟨U,R⟩:=I;let⟨o,es,ep,O,Q,_⟩:=j R;⟨o,es,ep,O,Q⟩),(let⟨bm,ob,b1,b2,S,b4,b5,b6⟩:=J;⟨bm,ob,b1,b2,f S (by
   cases q:H bm with
   |none=>rfl
   |some u=>
    have B:bm=a:=N bm (by rw[q];simp);rw[B,ha]at S;cases S;cases b6),b4,b5,b6⟩)⟩
  have e0:HF P w K mg (CA c.heap H) callerA [] c H:=⟨rfl,hM,fun b o e=>aAP e,Y8<|LH _ _,trivial,fun b g=>absurd (show b∈([]:T9)from g) (by simp),hok,.of_eq hg⟩;refine Y3 ((F _ C<|j t).run callerA [] c H ⟨[.ref a],[]⟩ [.ref a] [.ref a] _ _ hr e0 (p c (.ref a)) (.cons rfl .nil) (L H hO hS)) fun r i h=>?_;cases r with
  |error e=>exact(M H e i h).elim
  |ok fl=>
   cases fl with
   |next=>exact False.elim h
   |brk=>exact False.elim h
   |cont=>exact False.elim h
   |ret u=>
    obtain⟨v,H',os,bare,un,D,r',q⟩:=h;have q':v=.bl true:=q;subst q';obtain rfl:u=Value.bool true:=r';refine⟨rfl,OldK.of_keep fun b o e=>?_,os,bare⟩;cases q:H b with
    |none=>exact un.keep b o e q (by intro z;exact absurd (show b∈([]:T9)from z) (by simp)) (by simp)
    |some u=>
     rcases hO b with z|⟨ob,xs,z⟩
     .rw[q]at z;cases z
     .have z2:=un.frzs b ob _ z;obtain⟨e1,_⟩:=hok b _ z;obtain⟨e2,_⟩:=D b _ z2;rw[e]at e1;cases e1;exact e2
 cases T:K.lookup a with
 |some o=>
  have e:=KX a o T;rw[ha]at e;cases e;refine l (fun _=>Y) (fun _=>.inl rfl) (.inr ⟨_,vs.toArray,_,T,rfl,rfl,rfl,by rw[B9,A];exact W,by simpa using X⟩) (fun b u z=>by have E:(Y:Tw HO)=Z u:=z;cases E) (fun b z=>absurd rfl z) fun z=>absurd rfl z
 |none=>
  refine l (fun b=>if b=a then Z (.frz { cls:=.type "list",data:=.seq vs.toArray } (.lst (ns.map V.int)))else Y) (fun b=>?_) (.inl (.inr ⟨{ cls:=.type "list",data:=.seq vs.toArray },A7 rfl⟩)) (fun b u z=>?_) (fun b z=>?_) fun _=>T
  .by_cases g:b=a
   .exact .inr ⟨_,_,A7 g⟩
   .exact .inl (B0 g)
  .by_cases g:b=a
   .have E:=(A7 g).symm.trans z;cases E;subst g;exact⟨ha,by rw[A3];exact W,vs,_,X,ha⟩
   .have E:=(B0 g).symm.trans z;cases E
  .by_cases g:b=a
   .exact g
   .exact absurd (B0 g) z
noncomputable abbrev KOf{K:Fg}{h:Heap}(_:K.In h):Fg:=K
def walk_of{l:W.OpenLaw}{n k:Nat}{q:Ud}(D:PyProof.Rows.importsNone q=true){loose:Tc}{XP:(Str->Tf)->Heap->Prop}{YP:World->Heap->Prop}{d:DefRec}{K:Params->Fg}{CX:World->CXT}{sp:World->Sp}{x:Str}
 (hn:l.most=Z n) (r:n<=sizeLine) (t:d.params.defaults=[]) (E:cL k callerA)
 (I:∀(w:World)(h:Heap),YP w h->(K w.params).In h)
 (F:∀(w:World)(mg:Str->Tf)(fa:Ub)(h:Heap),(K w.params).In h->h.Ns mainGlobals mg->mg d.name=Z (.ref fa)->
  ∃fd:FuncData,(∀(s:Ua)(u:Tx),BindsTo s fd ⟨[u],[]⟩ [(x,u)]) /\
   ∀base:Heap,(K w.params).In base->base.Ns mainGlobals mg->kX l.prog w (K w.params) mg base (CX w) k fa fd [x] (sp w))
 (y:∀(w:World)(H:Hp)(a:Ub)(ns:T6),ns.length<=n->aEk H->SqL (K w.params) H a (ns.map V.int)->sp w [.ref a] H (fun v _=>v=.bl true) fun _ _ _=>False)
 (z:∀(w:World)(H:Hp)(s:Ua)(e:Tx)(A:Ua),CX w [] H s (fun _ _ _=>False) e A->False):
 W.WalkO q loose XP YP l.row.toRowW d [] (fun f vs=>PySem.call f vs):=by
 refine Att.attach_call hn t fun w s₀ m mg mb fa o pm Q doc a vs ns G c R hd J B p j i L=>?_;have KX:=I w _ c;obtain⟨fd,M,N⟩:=F w mg fa _ KX G.T.g B;exact SW KX G.T.g G.T.b G.T.builtins G.T.nolimit (let⟨O,C,_⟩:=(G.T.seer D).mods;⟨O,C⟩) G.T.bmain L p j (D9 i r) E N M (fun H P hS=>y w H a ns i P hS) fun H e A=>z w H m e A
end L2
namespace L2
variable{F H H':Hp}{W:Wd}{K:Fg}{M M':Sto}{γ:Ga}
open PySem PySem.Spec PyProof.Rows
noncomputable def inClass(s:Stmt)(j:Nat):Stmt:=match s with
 |.ClassDef _ _ _ a _ _ _ _ _ _ _=>a.getD j (.Pass ⟨0,0,0,0⟩)
 |_=>.Pass ⟨0,0,0,0⟩
def eG(s:Stmt):Arguments:=match s with
 |.FunctionDef _ a _ _ _ _ _ _ _ _=>a
 |_=>{ posonlyargs:=[],args:=[],vararg:=Y,kwonlyargs:=[],kw_defaults:=[],kwarg:=Y,defaults:=[] }
noncomputable def bU(s:Stmt):T8:=match s with
 |.FunctionDef _ _ b _ _ _ _ _ _ _=>b
 |_=>[]
noncomputable def aJ(s:Stmt):Scope:=match s with
 |.FunctionDef _ _ _ _ _ _ sc _ _ _=>sc
 |_=>{ kind:=.function,names:=[],isGenerator:=false,isCoroutine:=false }
noncomputable abbrev CX0:CXT:=fun _ _ _ _ _ _=>False
noncomputable abbrev E0:XK:=fun _ _ _=>False
def SY{X:Cx}:xW CX0 X E0:=fun _ _ _ _ _ _ _ h=>h.elim
structure Fun(K:Fg)(x qual:Str)(st:Stmt)(f:Ub)(fd:FuncData):Prop where
 ex:∃(oc:Tx)(od:Th)(kV doc pm:Tx)(an:Th)(cdv ct:Tx)(osl:Array (Tf)),
  fd=PySem.W.fnOf x qual (eG st) (bU st) (aJ st) .none kV doc pm an cdv ct/\K.lookup f=Z ⟨oc,od,.func fd,osl⟩/\PySem.W.codeIn K cdv qual=true
 kp:PySem.W.keepIn K (.ref f)=true
section
variable{P:Ud}{w:World}{K:Fg}{mg:Str->Tf}{base:Heap}
def Fun.ok{x qual:Str}{st:Stmt}{f:Ub}{fd:FuncData}{N ps:Tc}{k:Nat}{sp:Sp}{q:Bool}(F:Fun K x qual st f fd)(S:aX N ps (aJ st))(len:∀vs H Q E,sp vs H Q E->vs.length=ps.length)
 (a:∀(cdv:Tx)(A:Ue)(outer:Tv Env)(s:Ua)(H:Hp)(vs:Td)(Q:VK)(E:XK),cL k (A.deeper<|envOfC qual (aJ st) s.heap.objs.size f cdv) q->sp vs H Q E->
  ∃t,PSs (lB CX0 P w K mg base N qual (aJ st) f cdv A outer s H E q).nox (bU st) t/\t { nx:=fun _ H'=>Q .non H',rt:=Q } (start N vs) H):kX P w K mg base CX0 (k+1) f fd ps sp q:=by
 obtain⟨oc,od,kV,doc,pm,an,cdv,ct,osl,rfl,d,b⟩:=F.ex;refine aAV d b S len fun A outer s H vs Q E e c=>?_;obtain⟨t,h,z⟩:=a cdv A outer s H vs Q E e c;exact⟨t,h.nox,z⟩
def Fun.binds{x qual:Str}{st:Stmt}{f:Ub}{fd:FuncData}{ps:Tc}(F:Fun K x qual st f fd)
 (h:∀(kV doc pm:Tx)(an:Th)(cdv ct:Tx)(us:T4),us.length=ps.length->bindArgs (PySem.W.fnOf x qual (eG st) (bU st) (aJ st) .none kV doc pm an cdv ct) ⟨us,[]⟩=pure (ps.zip us)):Binds K fd ps []:=by
 obtain⟨oc,od,kV,doc,pm,an,cdv,ct,osl,rfl,b,a⟩:=F.ex;exact .all (h kV doc pm an cdv ct)
def UM{x qual:Str}{st:Stmt}{f:Ub}{oc:Tx}{od an:Th}{osl:Array (Tf)}{kV doc pm cdv ct:Tx}(l:K.lookup f=Z ⟨oc,od,.func (PySem.W.fnOf x qual (eG st) (bU st) (aJ st) .none kV doc pm an cdv ct),osl⟩)
 (c:PySem.W.codeIn K cdv qual=true) (k:PySem.W.keepIn K (.ref f)=true):Fun K x qual st f (PySem.W.fnOf x qual (eG st) (bU st) (aJ st) .none kV doc pm an cdv ct):=⟨⟨oc,od,kV,doc,pm,an,cdv,ct,osl,rfl,l,c⟩,k⟩
end
def gO(H H':Hp):Prop:=∀b o,H b=Z o->H' b=Z o
def gO.refl(H:Hp):gO H H:=fun _ _ h=>h
def gO.trans{d e:Hp}(a:gO H d)(b:gO d e):gO H e:=fun c o h=>b c o<|a c o h
def gO.free(e:gO H H'){l:Ub}(h:H' l=Option.none):H l=Option.none:=by
 cases q:H l with
 |none=>rfl
 |some o=>
  rw[e l o q]at h;cases h
def gO.seq{a:Ub}{xs:Td}(e:gO H H')(h:SqL K H a xs):SqL K H' a xs:=by
 rcases h with(h|⟨o,h⟩)|h
 .exact .inl (.inl (e _ _ h))
 .exact .inl (.inr ⟨o,e _ _ h⟩)
 .exact .inr h
noncomputable def eL(env:Env):Tv (Tl)->Tv (Str×Ub)->Tv (Str×Ub)
 |[],cs=>cs
 |y::r,cs=>eL env r (if (y.2==NameKind.free)=true then(y.1,(env.cells.lookup y.1).getD 0)::cs else cs)
def qQ{env:Env}:∀(l:Tv (Tl))(cs:Tv (Str×Ub)),(∀y∈l,y.2=.free->∃c,env.cells.lookup y.1=Z c)->
 (forIn l cs fun(x:Tl)(r:Tv (Str×Ub))=>if (x.2==NameKind.free)=true then(do
  let a <- cellOf env x.1
  pure (ForInStep.yield ((x.1,a)::r)))else pure (ForInStep.yield r))=(pure (eL env l cs):Sem (Tv (Str×Ub)))
 |[]=>fun cs _=>rfl
 |y::l=>fun cs h=>by
  rw[List.forIn_cons];by_cases b:(y.2==NameKind.free)=true
  .obtain⟨c,e⟩:=h y B7 (by simpa using b);have f:cellOf env y.1=pure c:=by unfold cellOf;rw[e]
   rw[A7 b,f];show(forIn l ((y.1,c)::cs) _:Sem _)=_;rw[qQ l _ fun z d=>h z<|B4 _ d]
   conv=>rhs;unfold eL
   rw[A7 b,e];rfl
  .rw[B0 b];show(forIn l cs _:Sem _)=_;rw[qQ l _ fun z d=>h z<|B4 _ d]
   conv=>rhs;unfold eL
   rw[B0 b]
def yL{scope:Scope}{env:Env}(h:∀y∈scope.names,y.2=.free->∃c,env.cells.lookup y.1=Z c):closureFor scope env=pure (eL env scope.names []):=by
 have e:=qQ (env:=env) scope.names [] h;unfold closureFor
 show((forIn scope.names ([]:Tv (Str×Ub)) fun(x:Tl)(r:Tv (Str×Ub))=>if (x.2==NameKind.free)=true then(do
  let a <- cellOf env x.1
  pure (ForInStep.yield ((x.1,a)::r)))else pure (ForInStep.yield r)) >>= fun z=>pure z:Sem (Tv (Str×Ub)))=_
 rw[e];rfl
def AA{env:Env}:∀(l:Tv (Tl))(cs:Tv (Str×Ub)),(∀y∈l,y.2=.free->∃c,env.cells.lookup y.1=Z c)->(∀x c,cs.lookup x=Z c->env.cells.lookup x=Z c)->
 ∀x c,(eL env l cs).lookup x=Z c->env.cells.lookup x=Z c
 |[]=>fun cs _ h x c e=>h x c e
 |y::l=>fun cs j h x c e=>by
  unfold eL at e;refine AA l _ (fun z f=>j z<|B4 _ f) ?_ x c e;intro z d a;by_cases i:(y.2==NameKind.free)=true
  .rw[A7 i]at a;obtain⟨c',g⟩:=j y B7 (by simpa using i);rw[g]at a;rw[D4]at a;by_cases f:(z==y.1)=true
   .rw[f]at a;have b:z=y.1:=by simpa using f
    rw[b,g];exact a
   .have b:(z==y.1)=false:=by simpa using f
    rw[b]at a;exact h z d a
  .rw[B0 i]at a;exact h z d a
def tP{env:Env}:∀(l:Tv (Tl))(cs:Tv (Str×Ub))(x:Str),((x,NameKind.free)∈l\/∃c,cs.lookup x=Z c)->∃c,(eL env l cs).lookup x=Z c
 |[]=>fun cs x h=>by
  rcases h with h|h
  .exact absurd h (by simp)
  .exact h
 |y::l=>fun cs x h=>by
  unfold eL;refine tP l _ x ?_;rcases h with h|⟨c,b⟩
  .rcases List.mem_cons.mp h with e|e
   .subst e;refine .inr ?_;rw[A7 (by rfl)];exact⟨(env.cells.lookup x).getD 0,by rw[D4];simp⟩
   .exact .inl e
  .refine .inr ?_;by_cases d:(y.2==NameKind.free)=true
   .rw[A7 d,D4];by_cases f:(x==y.1)=true
    .rw[f];exact⟨_,rfl⟩
    .have a:(x==y.1)=false:=by simpa using f
     rw[a];exact⟨c,b⟩
   .rw[B0 d];exact⟨c,b⟩
def qN{env:Env}:∀{names:Tv (Tl)}{x:Str}{k:NameKind},
 (names.map fun(y:Tl)=>if (y.2==NameKind.free&&env.scope.kind==.function&&env.kindOf y.1==Z .cell)=true then(y.1,NameKind.cell)else(y.1,y.2)).lookup x=Z k->
 (names.lookup x=Z k)\/(names.lookup x=Z .free/\k=.cell)
 |[],x,k=>fun h=>by simp at h
 |y::r,x,k=>fun h=>by
  rw[C7]at h;by_cases c:(x==y.1)=true
  .by_cases a:(y.2==NameKind.free&&env.scope.kind==.function&&env.kindOf y.1==Z .cell)=true
   .rw[A7 a,D4,c]at h;rw[D4,c];have:y.2=.free:=by simp at a;exact a.1.1
    refine .inr ⟨by rw[this],?_⟩;cases h;rfl
   .rw[B0 a,D4,c]at h;rw[D4,c];exact .inl h
  .have b:(x==y.1)=false:=by simpa using c
   have h':(r.map fun(y:Tl)=>if (y.2==NameKind.free&&env.scope.kind==.function&&env.kindOf y.1==Z .cell)=true then(y.1,NameKind.cell)else(y.1,y.2)).lookup x=Z k:=by
    by_cases a:(y.2==NameKind.free&&env.scope.kind==.function&&env.kindOf y.1==Z .cell)=true
    .rw[A7 a,D4,b]at h;exact h
    .rw[B0 a,D4,b]at h;exact h
   rw[D4,b];exact qN h'
def xF{env:Env}:∀{names:Tv (Tl)}{x:Str},names.lookup x=Z .free->
 (names.map fun(y:Tl)=>if (y.2==NameKind.free&&env.scope.kind==.function&&env.kindOf y.1==Z .cell)=true then(y.1,NameKind.cell)else(y.1,y.2)).lookup x=Z .cell \/
 (names.map fun(y:Tl)=>if (y.2==NameKind.free&&env.scope.kind==.function&&env.kindOf y.1==Z .cell)=true then(y.1,NameKind.cell)else(y.1,y.2)).lookup x=Z .free
 |[],x=>fun h=>by simp at h
 |y::r,x=>fun h=>by
  rw[C7];by_cases c:(x==y.1)=true
  .rw[D4,c]at h;have d:y.2=.free:=C5 h;by_cases b:(y.2==NameKind.free&&env.scope.kind==.function&&env.kindOf y.1==Z .cell)=true
   .rw[A7 b,D4,c];exact .inl rfl
   .rw[B0 b,D4,c];exact .inr (by rw[d])
  .have a:(x==y.1)=false:=by simpa using c
   rw[D4,a]at h;have ih:=xF (env:=env) h;by_cases b:(y.2==NameKind.free&&env.scope.kind==.function&&env.kindOf y.1==Z .cell)=true
   .rw[A7 b,D4,a];exact ih
   .rw[B0 b,D4,a];exact ih
def DP(X:Cx)(a:T7)(t:TT):Prop:=
 ∀(pins:T1)(s:Ua)(b:St)(H:Hp)(Q:Bool->Hp->Prop),Inv X pins b H s->t b H Q->
  wpAny (model X.prog X.w) X.A (forIn a true fun c r=>if r=true then(do
   let ok <- isTrue c X.env (eval c X.env)
   pure (ForInStep.yield ok))else pure (ForInStep.yield r)) (TP X pins b Q) X.xe s
noncomputable def aFw:TT:=fun _ H Q=>Q true H
def UT{X:Cx}:DP X [] aFw:=fun _ _ _ H _ I h=>wpAny_tests_nil ⟨H,I,h⟩
def VV{X:Cx}{c:Uc}{t:TT}(h:PT X c t):DP X [c] t:=fun pins s a H Q I b=>wpAny_tests_one<|h pins s a H Q I b
section
variable{prog:Ud}{w:World}{A:Ue}{R:Result->Ua->Prop}{s:Ua}
def WX{d a b:Uc}{e:T7}{scope:Scope}{pos:Pos}{it g:Tx}{env:Env}(I:Nat->Ua->Prop)
 (i:∀n s,I n s->wpAny (model prog w) A (pyNext it) (fun r s1=>(r=Y/\R (.ok .next) s1)\/∃v,r=Z v /\
  wpAny (model prog w) A (letOwnedTupleGo a it v) (fun _ s2=>wpAny (model prog w) A (assign a env v) (fun _ o=>
   wpAny (model prog w) A (forIn e true fun c r=>if r=true then(do
    let ok <- isTrue c env (eval c env)
    pure (ForInStep.yield ok))else pure (ForInStep.yield r)) (fun ok l=>
     (ok=true/\wpAny (model prog w) A (eval d env) (fun x p=>wpAny (model prog w) A (call (.builtin "list.append") [g,x]) (fun _ q=>∃m,m<n/\I m q) (fun _ _=>False) p) (fun _ _=>False) l) \/
     (ok=false/\∃m,m<n/\I m l)) (fun _ _=>False) o) (fun _ _=>False) s2) (fun _ _=>False) s1) (fun _ _=>False) s)
 (n:Nat) (h:I n s):codeAny (model prog w) A (.compLoop (.ListComp d [⟨a,b,e,0⟩] scope pos) 0 it g env) R s:=by
 refine codeAny_loop rfl I (fun n s t=>?_) n h
 show wpAny _ A ((compTurn (.ListComp d [⟨a,b,e,0⟩] scope pos) 0 it g env).onRaise fun x=>do
  noteFrame x env
  theTreesLotGoes x) _ _ s
 refine wpAny_noted ?_;rw[compTurn_list];refine A0<|Z1<|A0 (D5 (i n s t) (fun r s1 j=>?_) fun _ _ f=>f.elim);rcases j with⟨rfl,j⟩|⟨v,rfl,j⟩
 .exact A4 j
 .refine A0 (D5 j (fun _ s2 u=>?_) fun _ _ f=>f.elim);refine A0 (D5 u (fun _ o y=>?_) fun _ _ f=>f.elim);refine A0 (D5 y (fun ok l k=>?_) fun _ _ f=>f.elim);rcases k with⟨rfl,k⟩|⟨rfl,k⟩
  .refine A0<|A0 (D5 k (fun x p z=>?_) fun _ _ f=>f.elim);exact A0 (D5 z (fun _ q B=>A4<|A4 ⟨rfl,B⟩) fun _ _ f=>f.elim)
  .exact A4 ⟨rfl,k⟩
end
def eO(X:Cx)(N':Tc)(scope:Scope)(C:Ub)(s2:Ua)(a:Hp)(fp:T9)(pn:T1):Cx:=
 { X with N:=N',s₀:=s2,H₀:=a,env:=compEnvC scope (eL X.env scope.names []) C X.env,outer:=X.stack,stack:=X.stack,ex:=fp,fn:=fun _=>false,pn:=X.pn++pn,xe:=fun _ _=>False }
noncomputable def vP(cap:T2)(a:St):St:=cap.map fun o=>o.bind fun j=>(a[j]?).join
structure oZ(X:Cx)(N':Tc)(cap:T2)(scope:Scope):Prop where
 nocell:∀y∈scope.names,y.2≠.cell
 kind:scope.kind=.function
 names:∀y∈scope.names,y.2=.local->scope.names.lookup y.1=Z .local
 frees:∀y∈scope.names,y.2=.free->X.env.kindOf y.1=Z .cell\/X.env.kindOf y.1=Z .free
 len:cap.length=N'.length
 cap:∀(i j:Nat),cap[i]?=Z (Z j)->∃x,N'[i]?=Z x/\X.N[j]?=Z x/\scope.names.lookup x=Z .free
section
variable{X:Cx}{N':Tc}{cap:T2}{scope:Scope}{pins:T1}{σ:St}{H:Hp}{s:Ua}
def oZ.cells(S:oZ X N' cap scope)(ok:X.Ok):∀y∈scope.names,y.2=.free->∃c,X.env.cells.lookup y.1=Z c:=fun y a b=>ok.has y.1<|S.frees y a b
def oZ.sub(S:oZ X N' cap scope)(ok:X.Ok):∀x c,(eL X.env scope.names []).lookup x=Z c->X.env.cells.lookup x=Z c:=
 AA scope.names [] (S.cells ok) fun x c e=>by simp at e
def oZ.kinds(S:oZ X N' cap scope){C:Ub}{cl:Tv (Str×Ub)}{x:Str}(h:(compEnvC scope cl C X.env).kindOf x=Z .cell\/(compEnvC scope cl C X.env).kindOf x=Z .free):scope.names.lookup x=Z .free:=by
 rcases h with h|h
 .rcases qN (names:=scope.names) h with q|⟨q,_⟩
  .exact absurd rfl<|S.nocell _<|E2 q
  .exact q
 .rcases qN (names:=scope.names) h with q|⟨q,_⟩
  .exact q
  .exact q
def Inv.stkAll(I:Inv X pins σ H s){b:Ub}(a:b≠X.env.locals)(c:b∉X.fs):b∉frs X.stack:=fun d=>(List.mem_cons.mp<|I.stkSub b d).elim a c
def FE(S:oZ X N' cap scope)(I:Inv X pins σ H s){fp:T9}{E:Heap}{C:Ub}{tk:Nat}(A:∀b∈fp,nQ X pins H b)(G:∀b∈fp,b<s.heap.objs.size)
 (B:s.heap.objs.size<=C) (hn:E.Ns C fun _=>Y) (k:∀b o,s.heap.get? b=Z o->E.get? b=Z o):
 Inv (eO X N' scope C s H fp pins) [] (vP cap σ) H { s with heap:=E,toks:=tk }:=by
 have D:∀x c,X.env.cells.lookup x=Z c->c<s.heap.objs.size:=fun x c e=>by
  obtain⟨v,q⟩:=I.cell x c e;exact q.lt
 have fresh:H C=Y:=I.hok.fresh B
 have ok:(eO X N' scope C s H fp pins).Ok:=by
  refine⟨I.ok.mod,S.kind,I.ok.glob,I.ok.blt,B,fun x y c J L=>?_,fun x N=>?_,fun x c N _=>?_,I.ok.hd,I.ok.frames,.inl rfl,fun b g=>⟨?_,fun x c e=>?_⟩,I.bs,D9 I.ok.bsz I.sz,fun b o e g=>?_,fun b g=>?_,I.stack,I.stkFree⟩
  .exact I.ok.inj x y c (S.sub I.ok x c J)<|S.sub I.ok y c L
  .exact tP scope.names [] x (.inl (E2<|S.kinds N))
  .exact absurd N (by show ¬(false=true);decide)
  .exact B5<|B6 (G b g) B
  .exact(A b g).2.2.2.2.1 x c (S.sub I.ok x c e)
  .rcases (A b g).2.2.2.1 with z|z
   .exact I.ok.noex b o e z
   .exact absurd (B6 (A8 (I.ok.bs b o e).1) z)<|I0 _
  .exact I.stkAll (A b g).2.1 (A b g).2.2.1
 refine⟨ok,rfl,I.bare,Un.kept k,⟨_,hn,fun i x v J L h3=>?_⟩,fun x c e=>?_,fresh,fun x c e=>I.freeC x c<|S.sub I.ok x c e,fun p R=>?_,I.hok.kept k,?_⟩
 .
  have a:(cap[i]?).map (fun o=>o.bind fun j=>(σ[j]?).join)=Z (Z v):=by
   have:(vP cap σ)[i]?=Z (Z v):=L;unfold vP at this;rw[C0]at this;exact this
  cases e:cap[i]? with
  |none=>rw[e]at a;simp at a
  |some o=>
   cases o with
   |none=>rw[e]at a;simp at a
   |some j=>
    rw[e]at a;obtain⟨h,T,a2,a3⟩:=S.cap i j e
    have ex:h=x:=by
     have:N'[i]?=Z x:=J;rw[T]at this;exact C5 this
    subst ex
    have U:σ[j]?=Z (Z v):=by
     have q:(σ[j]?).join=Z v:=C5 a;cases f:σ[j]? with
     |none=>rw[f]at q;simp at q
     |some o=>rw[f]at q;cases o with
      |none=>simp at q
      |some v'=>simp at q;rw[q]
    have Q:X.env.kindOf h=Z .cell\/X.env.kindOf h=Z .free:=S.frees _ (E2 a3) rfl;obtain⟨m,hm,V⟩:=I.loc;obtain⟨u,r,l⟩:=V j h v a2 U (Q.elim (fun z=>.inr (.inl z)) fun z=>.inr (.inr z));refine⟨u,r,.inr ⟨?_,?_⟩⟩
    .exact xF (env:=X.env) (names:=scope.names) a3
    .rcases l with⟨t,_⟩|⟨_,c,hc,o,O,hd⟩
     .rcases Q with z|z<;>rw[z]at t<;>cases t
     .obtain⟨c',w⟩:=tP (env:=X.env) scope.names [] h (.inl (E2 a3));have:=S.sub I.ok h c' w;rw[hc]at this;cases this;exact⟨c,w,o,k c o O,hd⟩
 .obtain⟨v,o,O,hd⟩:=I.cell x c<|S.sub I.ok x c e;exact⟨v,o,k c o O,hd⟩
 .have P:p∈X.pn++pins:=by
   rcases List.mem_append.mp R with z|z
   .exact z
   .exact absurd z (by simp)
  obtain⟨e,n,ne,nf,d⟩:=I.pin p P;exact⟨k _ _ e,n,B5<|B6 (A8 e) B,I.stkAll ne nf,d⟩
 .show(vP cap σ).length=N'.length;unfold vP;rw[A3];exact S.len
end
def tLc(cap:T2)(l:TI)(g:TG)(n:TT)(o:TE):TE:=fun h H Q=>l h H fun J q=>∃W:Nat->Nat->Td->St->Hp->Prop,(∃m,W 0 m [] (vP cap h) q)/\∀i m c e H',W i m c e H'->
 (J.stop i H'/\∀p,H' p=Y->Q (.ref p) (upd H' p (.lst c))) \/
 (J.go i H'/\c.length<sizeLine/\∃N:Td->St->Hp->Prop,(∀d a f,N d a f->∃j,j<m/\W (i+1) j d a f)/\∀x f,J.yld i H' x f->g x e f fun a r=>n a r fun b k=>(b=true/\o a k fun v s=>N (c++[v]) a s)\/(b=false/\N c a k))
section
variable{X:Cx}{N':Tc}{cap:T2}{scope:Scope}
def RK{a0 tg f:Uc}{l:T7}{pos:Pos}{wi:TI}{g:TG}{tc:TT}{te:TE}(hc:X.calm=true)(S:oZ X N' cap scope)(hi:PI X tg f wi)
 (hg:∀C s H fp pn,PG (eO X N' scope C s H fp pn) tg g) (ap:∀C s H fp pn,DP (eO X N' scope C s H fp pn) l tc) (he:∀C s H fp pn,PE (eO X N' scope C s H fp pn) a0 te)
 (hs:∀x,foldedSetIterable f X.env x=pure x) {pins:T1} {s:Ua} {σ:St} {H:Hp} {Q:VK} (I:Inv X pins σ H s) (h:tLc cap wi g tc te σ H Q)
 {use:Tw (Tx->Sem Unit)} {QQ:T0}
 (af:∀(D C:Ub)(H':Hp)(d:Td)(s':Ua),D≠C->(∃m,s'.heap.Ns C m)->(∀h',Heap.SameBut C s'.heap h'->Inv X pins σ (upd H' D (.lst d)) { s' with heap:=h' })->nQ X pins (upd H' D (.lst d)) C->Q (.ref D) (upd H' D (.lst d))->compPost (model X.prog X.w) X.A X.xe use QQ (.ref D) C (.ok .next) s'):
 wpAny (model X.prog X.w) X.A (comprehension (.ListComp a0 [⟨tg,f,l,0⟩] scope pos) scope X.env (firstIterPos [⟨tg,f,l,0⟩] pos) (newList []) false (firstIter [⟨tg,f,l,0⟩] X.env) use) QQ X.xe s:=by
 refine wpAny_comprehension_free (e:=.ListComp a0 [⟨tg,f,l,0⟩] scope pos) (g:=⟨tg,f,l,0⟩) (gs:=[]) rfl hs (yL<|S.cells I.ok) S.kind S.names ?_;refine thn (hi pins s σ H _ I h) fun v s1 h1=>thn h1 fun b6 s2 h2=>?_;obtain⟨it,fp,tn,J,E,e,U,T,a8,f2,W,⟨m0,w0⟩,ag⟩:=h2;subst e
 have t:∀b∈fp,b<s2.heap.objs.size:=fun b a=>by
  obtain⟨o,e,_⟩:=T.obj _ _ a8 b a;exact A8 e
 refine C4<|wpAny_newFunctionEnv S.nocell (fun y hy=>by simp at hy) (fun G a9 aa=>?_) S.kind;dsimp only at a9 aa ⊢;generalize hP:s2.heap.push { cls:=.type "list",dict:=Y,data:=.seq ([]:T4).toArray }=P2 at a9 aa ⊢;have ah:P2.objs.size=s2.heap.objs.size+1:=by rw[<- hP,S0]
 have B:s2.heap.objs.size≠P2.objs.size:=by rw[ah];exact B5<|J3 _
 have hC:s2.heap.objs.size<=P2.objs.size:=by rw[ah];exact Nat.le_succ _
 have L:∀b o,P2.get? b=Z o->b≠P2.objs.size->G.get? b=Z o:=fun b o e a=>aa.extBut b o a<|A1 _ e;have ab:∀b o,s2.heap.get? b=Z o->G.get? b=Z o:=fun b o e=>L b o (by rw[<- hP];exact A1 _ e)<|B5<|B6 (A8 e) hC;have aq:G.get? s2.heap.objs.size=Z { cls:=.type "list",data:=.seq #[] 0 }:=L _ _ (by rw[<- hP];exact B3 _ rfl) B
 have I4:Inv (eO X N' scope P2.objs.size s2 E fp pins) [] (vP cap σ) E { s2 with heap:=G,toks:=s2.toks+([]:Tt).length }:=
  FE S U f2 t hC (by simpa using a9) ab
 have a6:∀s4:Ua,s4={ s2 with heap:=G,toks:=s2.toks+([]:Tt).length }->
  codeAny (model X.prog X.w) X.A (.compLoop (.ListComp a0 [⟨tg,f,l,0⟩] scope pos) 0 (.ref it) (.ref s2.heap.objs.size) (compEnvC scope (eL X.env scope.names []) P2.objs.size X.env)) (compPost (model X.prog X.w) X.A X.xe use QQ (.ref s2.heap.objs.size) P2.objs.size) s4:=by
  rintro s4 rfl
  have ai:s2.heap.objs.size∉frs X.stack:=fun a=>by
   obtain⟨_,o,ho,_⟩:=U.stack.mem a;exact absurd (A8 ho)<|I0 _
  have cne:∀x c,(eL X.env scope.names []).lookup x=Z c->c<s2.heap.objs.size:=fun x c e=>by
   obtain⟨v,q⟩:=U.cell x c<|S.sub U.ok x c e;exact q.lt
  have O:∀{Hx:Hp}{ob:Obj},(∀b∈fp,Hx b=Y)->∀b∈fp,nQ (eO X N' scope P2.objs.size s2 E fp pins) [(s2.heap.objs.size,ob)] Hx b:=fun{Hx ob} hn b a=>by
   refine⟨hn b a,B5<|B6 (t b a) hC,U.stkAll (f2 b a).2.1 (f2 b a).2.2.1,.inl a,fun x c e=>(f2 b a).2.2.2.2.1 x c (S.sub U.ok x c e),fun p P=>?_⟩;rcases List.mem_append.mp P with z|z
   .exact(f2 b a).2.2.2.2.2 p z
   .rw[List.mem_singleton.mp z];exact E1<|t b a
  refine WX (fun n s'=>∃(i:Nat)(k:St)(H':Hp)(d:Td)(j:T4)(nn:Nat),Inv (eO X N' scope P2.objs.size s2 E fp pins) [] k H' s'/\tn i s'.heap/\(∀b∈fp,H' b=Y)/\H' s2.heap.objs.size=Y /\
   s'.heap.get? s2.heap.objs.size=Z { cls:=.type "list",data:=.seq j.toArray nn }/\bB d j/\d.length<=sizeLine/\W i n d k H') ?_ m0
   ⟨0,vP cap σ,E,[],[],0,I4,T.keep _ _ _ a8 fun b _ o e=>ab b o e,fun b a=>(f2 b a).1,U.hok.fresh<|A9 _,aq,.nil,L8 _,w0⟩
  rintro n s5 ⟨i,k,H',d,j,nn,I5,t5,aj,d5,g5,va,la,w5⟩
  have I5p:Inv (eO X N' scope P2.objs.size s2 E fp pins) [(s2.heap.objs.size,{ cls:=.type "list",data:=.seq j.toArray nn })] k H' s5:=I5.pins_of fun p P=>by
   rw[List.mem_singleton.mp P];exact⟨g5,d5,B,ai,fun v z=>by cases z⟩
  rcases ag i n d k H' w5 with⟨stop,q⟩|⟨go,lt,N,hN,step⟩
  .refine thn (T.done (eO X N' scope P2.objs.size s2 E fp pins) rfl rfl rfl hc i _ s5 k H' _ I5p (O aj) t5 stop) fun r s6 ⟨hr,I6⟩=>.inl ⟨hr,?_⟩;have d6:=(I6.pin (s2.heap.objs.size,{ cls:=.type "list",data:=.seq j.toArray nn }) (by simp)).1;have nC:H' P2.objs.size=Y:=I6.free;refine af _ _ H' d s6 B (let⟨m,hn,_⟩:=I6.loc;⟨m,hn⟩) (fun h' ac=>?_) (U.fpOk hC (by rw[aN B.symm];exact nC))<|q _ d5;have up:∀b o,b≠P2.objs.size->s6.heap.get? b=Z o->h'.get? b=Z o:=fun b o a e=>ac.extBut b o a e;have a1:∀b o,s2.heap.get? b=Z o->b≠P2.objs.size/\b≠s2.heap.objs.size:=fun b o e=>⟨B5<|B6 (A8 e) hC,B5<|A8 e⟩;have u6:Un (frs X.stack) fp E H' s2.heap s6.heap:=I6.base
   have u7:Un (frs X.stack) fp E (upd H' s2.heap.objs.size (.lst d)) s2.heap h':=by
    refine⟨fun b o e n a hx=>up b o (a1 b o e).1 (u6.keep b o e n a hx),fun b o e n a hx=>?_,fun b o e n hx=>?_,fun b o e hx=>?_,fun b xs e=>?_,fun b o u e=>?_,fun b ps e=>?_⟩
    .obtain⟨sl,q⟩:=u6.slot b o e n a hx;exact⟨sl,up b _ (a1 b o e).1 q⟩
    .rw[aN (a1 b o e).2];exact u6.free b o e n hx
    .obtain⟨o',q⟩:=u6.there b o e hx;exact⟨o',up b o' (a1 b o e).1 q⟩
    .have z:=u6.tups b xs e;rw[aN (aT z d5)];exact z
    .have z:=u6.frzs b o u e;rw[aN (aT z d5)];exact z
    .obtain⟨more,z⟩:=u6.tbls b ps e;exact⟨more,by rw[aN (aT z d5)];exact z⟩
   have ar:HOk X.prog X.w (upd H' s2.heap.objs.size (.lst d)) h':=fun b u e=>by
    by_cases a:b=s2.heap.objs.size
    .subst a;rw[aS]at e;cases e;exact⟨la,j,nn,va,up _ _ B d6⟩
    .rw[aN a]at e;refine(I6.hok b u e).stay (fun c v au z=>up c v ?_ z) (fun c z=>by rw[aN (aT z d5)];exact z) fun c xs z=>by rw[aN (aT z d5)];exact z
     rcases au with rfl|z
     .exact aT e nC
     .exact aT z nC
   have av:s6.os=s2.os:=I6.os;have aw:=I6.bare;obtain⟨hh,gg,dd,tt,oo⟩:=s6;subst av;have z7:=U.call (s:=s2) (h':=h') (g':=gg) (d':=dd) (t':=tt) (ch:=fp) u7 ar aw fun b a=>⟨(f2 b a).2.2.2.1,(f2 b a).2.1,(f2 b a).2.2.2.2.1,(f2 b a).2.2.2.2.2⟩;exact z7
  .refine thn (T.item (eO X N' scope P2.objs.size s2 E fp pins) rfl rfl rfl hc i _ s5 k H' _ I5p (O aj) t5 go) fun r s6 ⟨u,hr,h6⟩=>.inr ⟨u,hr,?_⟩;refine thn h6 fun _ s7 ⟨x,H7,I7,r7,y7,t7,ax⟩=>?_;have ay:=I7.pinned (O ax) (T.obj _ _ t7)
   have a7:∀{ak:St}{Hx:Hp}{sx:Ua},Inv (eO X N' scope P2.objs.size s2 E fp pins) ([(s2.heap.objs.size,{ cls:=.type "list",data:=.seq j.toArray nn })]++uD fp s7.heap) ak Hx sx->
    (∀b∈fp,∀o,s7.heap.get? b=Z o->sx.heap.get? b=Z o)/\(∀b∈fp,Hx b=Y)/\sx.heap.get? s2.heap.objs.size=Z { cls:=.type "list",data:=.seq j.toArray nn }/\Hx s2.heap.objs.size=Y:=fun{ak Hx sx} Ix=>by
    refine⟨fun b a o e=>(Ix.pin (b,o)<|C3 _<|C3 _<|gP a e).1,fun b a=>?_,?_,?_⟩
    .obtain⟨o,e,_⟩:=T.obj _ _ t7 b a;exact(Ix.pin (b,o)<|C3 _<|C3 _<|gP a e).2.1
    .exact(Ix.pin (s2.heap.objs.size,_)<|C3 _<|J2 _<|List.mem_singleton.mpr rfl).1
    .exact(Ix.pin (s2.heap.objs.size,{ cls:=.type "list",data:=.seq j.toArray nn })<|C3 _<|J2 _<|List.mem_singleton.mpr rfl).2.1
   refine thn (hg _ _ _ _ _ _ s7 k H7 x u _ ay r7<|step x H7 y7) fun _ s8 ⟨R,H8,I8,q8⟩=>?_;refine thn (ap _ _ _ _ _ _ s8 R H8 _ I8 q8) fun b s9 ⟨H9,I9,q9⟩=>?_;rcases q9 with⟨rfl,q9⟩|⟨rfl,n9⟩
   .refine .inl ⟨rfl,thn (he _ _ _ _ _ _ s9 R H9 _ I9 q9) fun uv ae ⟨v,am,ao,rv,az⟩=>?_⟩;obtain⟨m',hm,b0⟩:=hN _ _ _ az;obtain⟨b1,b2,b3,b4⟩:=a7 ao;refine wpAny_list_append_plain ⟨nn,b3⟩ (fun h' P ac=>?_) (by rw[B9,<- va.length];exact la);obtain⟨n2,e2⟩:=P;have up:∀b o,b≠s2.heap.objs.size->ae.heap.get? b=Z o->h'.get? b=Z o:=fun b o a e=>ac.extBut b o a e;have I10':Inv (eO X N' scope P2.objs.size s2 E fp pins) [] R am ae:=ao.pins_of fun p P=>absurd P (by simp);refine⟨m',hm,i+1,R,am,d++[v],j++[uv],n2,I10'.turned (t':=ae.toks) up b4 B (.inr (A9 _)) (fun x c e=>B5<|cne x c e) fun p P=>?_,T.keep _ _ _ t7 fun b a o e=>up b o (B5<|t b a)<|b1 b a o e,b2,b4,?_,va.append (.cons rv .nil),?_,b0⟩
    .have b5:p∈X.pn++pins:=by
      rcases List.mem_append.mp P with z|z
      .exact z
      .exact absurd z (by simp)
     exact B5<|A8 (U.pin p b5).1
    .rw[e2];simp
    .rw[B1,D6];exact lt
   .obtain⟨m',hm,w9⟩:=hN _ _ _ n9;obtain⟨b1,b2,b3,b4⟩:=a7 I9;exact .inr ⟨rfl,m',hm,i+1,R,H9,d,j,nn,I9.pins_of fun p P=>absurd P (by simp),T.keep _ _ _ t7 b1,b2,b4,b3,va,la,w9⟩
 exact codeAny_compStart_list (a6 _ rfl)<|T.self _ 0 _ _ _ (T.keep _ _ _ a8 fun b _ o e=>ab b o e)<|a6 _ rfl
def aBm{b tg a:Uc}{c:T7}{pos:Pos}{f:TI}{g:TG}{i:TT}{j:TE}(k:X.calm=true)(S:oZ X N' cap scope)(hi:PI X tg a f)
 (l:∀C s H fp pn,PG (eO X N' scope C s H fp pn) tg g) (d:∀C s H fp pn,DP (eO X N' scope C s H fp pn) c i) (n:∀C s H fp pn,PE (eO X N' scope C s H fp pn) b j)
 (hs:∀x,foldedSetIterable a X.env x=pure x:=by intro _;rfl):PE X (.ListComp b [⟨tg,a,c,0⟩] scope pos) (tLc cap f g i j):=by
 intro pins s t H Q I h;rw[eval_ListComp];refine RK (use:=Y) (Q:=Q) k S hi l d n hs I h fun D C H' o u p ⟨m,hn⟩ q _ r=>⟨m,hn,fun h' e=>?_⟩;exact⟨.ref D,_,q h' e,rfl,r⟩
def OR{i:Nat}{x:Str}{k tg c:Uc}{f:T7}{pos d j:Pos}{P:TI}{g:TG}{R:TT}{T:TE}(V:X.N.Nodup)(q:X.N[i]?=Z x)(hc:X.calm=true)(S:oZ X N' cap scope)(hi:PI X tg c P)
 (hg:∀C s H fp pn,PG (eO X N' scope C s H fp pn) tg g) (r:∀C s H fp pn,DP (eO X N' scope C s H fp pn) f R) (he:∀C s H fp pn,PE (eO X N' scope C s H fp pn) k T)
 (t:swapsWith (.ListComp k [⟨tg,c,f,0⟩] scope pos) (Z (.Name x d)) j.line X.env=pure true:=by rfl) (U:X.env.scope.names.lookup x=Z .local:=by rfl)
 (hs:∀x,foldedSetIterable c X.env x=pure x:=by intro _;rfl):PS X (.Assign [.Name x d] (.ListComp k [⟨tg,c,f,0⟩] scope pos) j) (XT (tLc cap P g R T)<|DN i):=by
 intro pins s y H D I h;rw[exec_Assign_Name_used _ _ _ _ t];refine A0<|Z1<|A0 ?_;show wpAny _ _ (comprehension (.ListComp k [⟨tg,c,f,0⟩] scope pos) scope X.env _ (newList []) false (firstIter [⟨tg,c,f,0⟩] X.env) (Z<|assign (.Name x d) X.env) >>= fun _=>pure ()) _ _ s;refine A0 (thn (RK (use:=Z<|assign (.Name x d) X.env) (QQ:=fun _ l=>∃n H',Inv X pins n H' l/\D.nx n H') (Q:=fun v H1=>DN i v y H1 D.nx) hc S hi hg r he hs I h fun E C H' p l a0 ⟨m,hn⟩ hI fC hq=>?_) fun _ l hz=>A4<|A4 hz);have B:Inv X pins y (upd H' E (.lst p)) l:=hI l.heap<|Heap.SameBut.refl ..;have B:Inv X pins y (upd H' E (.lst p)) l:=B;refine wpAny_assign_Name<|AV (M:=model X.prog X.w) (A:=X.A) (E:=X.xe) B V q (.inl U) (v:=.ref E) (u:=.ref E) rfl (fun s2 I2 G=>?_) (.inr U);obtain⟨a,J,ha⟩:=G
 have L:C≠a:=by
  rcases ha with z|z
  .rw[z];exact fC.2.1
  .exact fun w=>fC.2.2.2.2.1 x a z w.symm
 refine⟨m,hn.extBut J.extBut L,fun h' O=>?_⟩;exact⟨_,_,I2.turned (t':=s2.toks) (fun b o hb e=>O.extBut b o hb e) fC.1 fC.2.1 fC.2.2.2.1 fC.2.2.2.2.1 fC.2.2.2.2.2,hq⟩
end
noncomputable def UU:Key->Tz
 |.inl i=>.int i
 |.inr x=>.str x
mutual
noncomputable def Rep(K:Fg)(H:Hp):Tz->V->Prop
 |.none,v=>v=.non
 |.bool b,v=>v=.bl b
 |.int i,v=>v=.int i
 |.str x,v=>v=.str x
 |.list xs,v=>∃a vs,v=.ref a/\SqL K H a vs/\aK K H xs vs
 |.tuple xs,v=>∃a vs,v=.ref a/\SqT K H a vs/\aK K H xs vs
 |.dict kvs,v=>∃a ks,v=.ref a/\H a=Z (.dK ks)/\pL K H kvs ks
noncomputable def aK(K:Fg)(H:Hp):T3->Td->Prop
 |[],vs=>vs=[]
 |d::e,vs=>∃v r,vs=v::r/\Rep K H d v/\aK K H e r
noncomputable def pL(K:Fg)(H:Hp):Tv (Tz×Tz)->Tv (Key×V)->Prop
 |[],ks=>ks=[]
 |(k,d)::kvs,ks=>∃c v r,ks=(c,v)::r/\k=UU c/\Rep K H d v/\pL K H kvs r
end
def gO.seqT{a:Ub}{xs:Td}(e:gO H H')(h:SqT K H a xs):SqT K H' a xs:=by
 rcases h with h|h
 .refine .inl ?_;rcases h with h|⟨o,h⟩
  .exact .inl (e _ _ h)
  .exact .inr ⟨o,e _ _ h⟩
 .exact .inr h
mutual
def Rep.same{K:Fg}{H H':Hp}(e:gO H H'):∀(d:Tz)(v:V),Rep K H d v->Rep K H' d v
 |.none=>fun v h=>h
 |.bool b=>fun v h=>h
 |.int i=>fun v h=>h
 |.str x=>fun v h=>h
 |.list xs=>fun v h=>by
  obtain⟨a,vs,c,f,g⟩:=h;exact⟨a,vs,c,e.seq f,aK.same e xs vs g⟩
 |.tuple xs=>fun v h=>by
  obtain⟨a,vs,c,f,g⟩:=h;exact⟨a,vs,c,e.seqT f,aK.same e xs vs g⟩
 |.dict kvs=>fun v h=>by
  obtain⟨a,ks,c,f,g⟩:=h;exact⟨a,ks,c,e _ _ f,pL.same e kvs ks g⟩
def aK.same{K:Fg}{H H':Hp}(e:gO H H'):∀(j:T3)(vs:Td),aK K H j vs->aK K H' j vs
 |[]=>fun vs h=>h
 |d::j=>fun vs h=>by
  obtain⟨v,r,c,f,g⟩:=h;exact⟨v,r,c,Rep.same e d v f,aK.same e j r g⟩
def pL.same{K:Fg}{H H':Hp}(e:gO H H'):∀(kvs:Tv (Tz×Tz))(ks:Tv (Key×V)),pL K H kvs ks->pL K H' kvs ks
 |[]=>fun ks h=>h
 |(k,d)::kvs=>fun ks h=>by
  obtain⟨l,v,r,c,f,g,m⟩:=h;exact⟨l,v,r,c,f,Rep.same e d v g,pL.same e kvs r m⟩
end
def aK.length{K:Fg}{H:Hp}:∀{ds:T3}{vs:Td},aK K H ds vs->ds.length=vs.length
 |[],vs=>fun h=>by rw[show vs=[]from h];rfl
 |d::ds,vs=>fun h=>by
  obtain⟨v,r,a,_,b⟩:=h;rw[a,E5,E5,aK.length b]
def aK.get{K:Fg}{H:Hp}:∀{ds:T3}{vs:Td}{i:Nat}{v:V},aK K H ds vs->vs[i]?=Z v->∃d,ds[i]?=Z d/\Rep K H d v
 |[],vs,i,v=>fun h e=>by rw[show vs=[]from h]at e;simp at e
 |d::ds,vs,0,v=>fun h e=>by
  obtain⟨w,r,a,b,c⟩:=h;rw[a]at e;simp at e;subst e;exact⟨d,rfl,b⟩
 |d::ds,vs,i+1,v=>fun h e=>by
  obtain⟨w,r,a,b,c⟩:=h;rw[a]at e;exact aK.get (i:=i) c (by simpa using e)
def aK.app{K:Fg}{H:Hp}:∀{ds es:T3}{vs a:Td},aK K H ds vs->aK K H es a->aK K H (ds++es) (vs++a)
 |[],es,vs,a=>fun h k=>by rw[show vs=[]from h];exact k
 |d::ds,es,vs,a=>fun h k=>by
  obtain⟨v,r,b,c,e⟩:=h;exact⟨v,r++a,by rw[b];rfl,c,aK.app e k⟩
section
variable{X:Cx}{pins:T1}{σ:St}{H:Hp}{s:Ua}
def Inv.sysN(I:Inv X pins σ H s):H sysModules=Y:=by
 obtain⟨o,es,ep,h,_⟩:=I.mod.sysm;exact(I.bs _ _ h).2
def Inv.sysL(I:Inv X pins σ H s){a:Ub}{xs:Td}(h:SqL X.K H a xs):sysModules≠a:=by
 intro e;subst e;have hn:=I.sysN;rcases h with(h|⟨o,h⟩)|⟨o,c,n,d,_,_,hd,_⟩
 .rw[hn]at h;cases h
 .rw[hn]at h;cases h
 .obtain⟨o',es,ep,h',b⟩:=I.mod.sysm;have:=I.mod.kin _ _ d;rw[h']at this;cases this;rw[hd]at b;cases b
mutual
def Rep.reads'(I:Inv X pins σ H s):∀(d:Tz)(v:V)(u:Tx),Rep X.K H d v->RelV v u->∃as,Reads s.heap u d as/\sysModules∉as
 |.none=>fun v u r q=>by
  rw[show v=.non from r]at q;rw[show u=Value.none from q];exact⟨_,.none,by simp⟩
 |.bool b=>fun v u r q=>by
  rw[show v=.bl b from r]at q;rw[show u=Value.bool b from q];exact⟨_,.bool b,by simp⟩
 |.int i=>fun v u r q=>by
  rw[show v=.int i from r]at q;obtain⟨t,rfl⟩:=(show ∃t,u=Value.int i t from q);exact⟨_,.int i t,by simp⟩
 |.str x=>fun v u r q=>by
  rw[show v=.str x from r]at q;obtain⟨t,rfl⟩:=(show ∃t,u=Value.str x t from q);exact⟨_,.str x t,by simp⟩
 |.list xs=>fun v u r q=>by
  obtain⟨a,vs,rfl,c,f⟩:=r;rw[show u=Value.ref a from q];obtain⟨g,C,⟨o,n,h,j,_,hd⟩,_⟩:=I.list c;obtain⟨as,ha,hs⟩:=aK.reads' I xs vs g f C;exact⟨_,.list h j hd (by simpa using ha),fun z=>(List.mem_cons.mp z).elim (I.sysL c) hs⟩
 |.tuple xs=>fun v u r q=>by
  obtain⟨a,vs,rfl,c,f⟩:=r;rw[show u=Value.ref a from q];obtain⟨g,C,⟨o,h,j,n,hd⟩,_⟩:=I.tuple c;obtain⟨as,ha,hs⟩:=aK.reads' I xs vs g f C;exact⟨_,.tuple h j hd (by simpa using ha),hs⟩
 |.dict kvs=>fun v u r q=>by
  obtain⟨a,ks,rfl,c,f⟩:=r;rw[show u=Value.ref a from q];obtain⟨_,hS,vs,D,o,es,ep,h,E,hd,_,P,_⟩:=(show cO X.prog X.w H s.heap a (.dK ks)from I.hok a _ c);obtain⟨as,bs,Q,R,l,n2⟩:=pL.reads' I kvs ks vs es.toList f D P;refine⟨_,.dict h E.1 hd Q R,fun z=>?_⟩;rcases List.mem_append.mp z with z|z
  .rcases List.mem_cons.mp z with z|z
   .rw[z]at hS;simp at hS
   .exact l z
  .exact n2 z
def aK.reads'(I:Inv X pins σ H s):∀(A:T3)(vs:Td)(us:T4),aK X.K H A vs->bB vs us->∃as,ReadsAll s.heap us A as/\sysModules∉as
 |[]=>fun vs us r q=>by
  rw[show vs=[]from r]at q;cases q;exact⟨_,.nil,by simp⟩
 |d::A=>fun vs us r q=>by
  obtain⟨v,t,rfl,c,f⟩:=r;cases q with
  |cons B G=>
   obtain⟨as,ha,l⟩:=Rep.reads' I d v _ c B;obtain⟨bs,J,n2⟩:=aK.reads' I A t _ f G;exact⟨_,.cons ha J,fun z=>(List.mem_append.mp z).elim l n2⟩
def pL.reads'(I:Inv X pins σ H s):∀(kvs:Tv (Tz×Tz))(ks:Tv (Key×V))(vs:Tv (Key×Tx))(es:Tv DictEntry),pL X.K H kvs ks->KV ks vs->Pairs (dM X.prog X.w) es vs->
 ∃as bs,ReadsAll s.heap (es.map (·.key)) (kvs.map (·.1)) as/\ReadsAll s.heap (es.map (·.val)) (kvs.map (·.2)) bs/\sysModules∉as/\sysModules∉bs
 |[]=>fun ks vs es r q p=>by
  rw[show ks=[]from r]at q;cases q;cases p;exact⟨_,_,.nil,.nil,by simp,by simp⟩
 |(k,d)::kvs=>fun ks vs es r q p=>by
  obtain⟨S,v,t,rfl,T,c,f⟩:=r;cases q with
  |@cons _ O _ U B G=>
   cases p with
   |@cons e _ a0 _ p1 p2 p3=>
    obtain⟨as,bs,ha,J,l,n2⟩:=pL.reads' I kvs t _ _ f G p3;obtain⟨cs,j,n3⟩:=Rep.reads' I d v _ c B.2
    have m:Reads s.heap e.key k []:=by
     rw[T];have y:xY O.1 e.key=true:=p1;rw[<- show S=O.1 from B.1]at y;rcases cX y with⟨i,L,rfl,N⟩|⟨x,L,rfl,N⟩
     .rw[N];exact .int i L
     .rw[N];exact .str x L
    refine⟨_,_,.cons m ha,.cons (show Reads s.heap e.val d cs by rw[p2];exact j) J,by simpa using l,fun z=>(List.mem_append.mp z).elim n3 n2⟩
end
def Rep.reads(I:Inv X pins σ H s)(d:Tz)(v:V)(u:Tx)(r:Rep X.K H d v)(q:RelV v u):∃as,Reads s.heap u d as:=let⟨as,h,_⟩:=Rep.reads' I d v u r q;⟨as,h⟩
def aK.reads(I:Inv X pins σ H s)(ds:T3)(vs:Td)(us:T4)(r:aK X.K H ds vs)(q:bB vs us):∃as,ReadsAll s.heap us ds as:=let⟨as,h,_⟩:=aK.reads' I ds vs us r q;⟨as,h⟩
end
section
variable{X:Cx}
def SV(K:Fg)(neg:Bool):R2:=fun x y H Q=>∃dx a,Rep K H dx x/\Rep K H a y/\SeqAt.shaped dx=true/\SeqAt.shaped a=true/\Q (.bl (if neg then !PyData.eqv dx a else PyData.eqv dx a)) H
def aDX(a:X.A.units+64<cLine):OpR X (compareOp .Eq) (SV X.K false):=by
 intro pins s k H x y v u Q I b c h;obtain⟨dx,d,e,f,g,i,q⟩:=h;obtain⟨as,ha⟩:=Rep.reads I dx x v e b;obtain⟨bs,j⟩:=Rep.reads I d y u f c;exact eq_dataH ha j g i a ⟨.bl _,H,I,rfl,q⟩
def aEQ(a:X.A.units+64<cLine):OpR X (compareOp .NotEq) (SV X.K true):=by
 intro pins s k H x y v u Q I b c h;obtain⟨dx,d,e,f,g,i,q⟩:=h;obtain⟨as,ha⟩:=Rep.reads I dx x v e b;obtain⟨bs,j⟩:=Rep.reads I d y u f c;exact ne_dataH ha j g i a ⟨.bl _,H,I,rfl,q⟩
def bB.types:∀{Ts:Tv String}{its:T4},bB (Ts.map V.ty) its->its=Ts.map Value.type
 |[],_=>fun h=>by cases h;rfl
 |t::Ts,its=>fun h=>by
  cases h with
  |cons a b=>rw[show _=Value.type t from a,bB.types b];rfl
def bB.bools:∀{bs:Tv Bool}{its:T4},bB (bs.map V.bl) its->its=bs.map Value.bool
 |[],_=>fun h=>by cases h;rfl
 |b::bs,its=>fun h=>by
  cases h with
  |cons a c=>rw[show _=Value.bool b from a,bB.bools c];rfl
def all_range(bs:Tv Bool):(List.range bs.length).all (fun i=>bs.getD i false)=bs.all id:=by
 rw[U8];simp only[List.all_eq_true,List.mem_range,id];constructor
 .intro h b a;obtain⟨i,hi,rfl⟩:=List.mem_iff_getElem.mp a;have:=h i hi;rw[C8,B2 hi]at this;exact this
 .intro h i hi;rw[C8,B2 hi];exact h _<|List.getElem_mem hi
def DY{prog:Ud}{w:World}{A:Ue}{bs:Tv Bool}:TruthOf prog w A (fun i v=>(bs.map Value.bool).toArray[i]?=Z v) (fun i=>bs.getD i false):=by
 intro i v s Q E a d;rw[List.getElem?_toArray,C0]at a;cases e:bs[i]? with
 |none=>rw[e]at a;cases a
 |some b=>
  rw[e]at a;cases a;have f:bs.getD i false=b:=by rw[C8,e];rfl
  have c:Q (bs.getD i false) s:=d;rw[f]at c;exact J5 c
noncomputable def xV:Nat:=2 ^ 8000
def TY(i:Int):Prop:=i.natAbs<xV
def DL{j:Int}(h:TY j):j.natAbs.log2<9000:=by
 by_cases a:j.natAbs=0
 .rw[a];decide +kernel
 .exact U0 ((Nat.log2_lt a).mpr h) (by decide)
def aFR(i j:Int):Prop:=TY i/\TY j
def AG{j:Int}(h:TY j):Builtin.Int.intBits j<=2 ^ 20:=by
 unfold Builtin.Int.intBits;by_cases a:(j==0)=true
 .rw[A7 a];exact L8 _
 .rw[B0 a];have:=DL h;omega
end
structure Callee(P:Ud)(w:World)(K:Fg)(mg:Str->Tf)(base:Heap)(k:Nat)(x:Str)(ps:Tc)(sp:Sp)(q:Bool:=true):Prop where
 ex:∃f fd,kX P w K mg base CX0 k f fd ps sp q/\mg x=Z (.ref f)/\PySem.W.keepIn K (.ref f)=true/\Binds K fd ps []
structure Def(K:Fg)(mg:Str->Tf)(x:Str)(st:Stmt):Prop where
 ex:∃f fd,Fun K x x st f fd/\mg x=Z (.ref f)
section
variable{P:Ud}{w:World}{K:Fg}{mg:Str->Tf}{base:Heap}{X:Cx}
def Def.ok{x:Str}{st:Stmt}{N ps:Tc}{k:Nat}{sp:Sp}{q:Bool}(D:Def K mg x st)(S:aX N ps (aJ st))
 (b:∀(kV doc pm:Tx)(an:Th)(cdv ct:Tx)(us:T4),us.length=ps.length->bindArgs (PySem.W.fnOf x x (eG st) (bU st) (aJ st) .none kV doc pm an cdv ct) ⟨us,[]⟩=pure (ps.zip us))
 (len:∀vs H Q E,sp vs H Q E->vs.length=ps.length)
 (a:∀(f:Ub)(cdv:Tx)(A:Ue)(outer:Tv Env)(s:Ua)(H:Hp)(vs:Td)(Q:VK)(E:XK),cL k (A.deeper<|envOfC x (aJ st) s.heap.objs.size f cdv) q->sp vs H Q E->
  ∃t,PSs (lB CX0 P w K mg base N x (aJ st) f cdv A outer s H E q).nox (bU st) t/\t { nx:=fun _ H'=>Q .non H',rt:=Q } (start N vs) H):Callee P w K mg base (k+1) x ps sp q:=by
 obtain⟨f,fd,F,m⟩:=D.ex;exact⟨f,fd,F.ok S len fun cdv A outer s H vs Q E c h=>a f cdv A outer s H vs Q E c h,m,F.kp,F.binds b⟩
def def_mk{x:Str}{st:Stmt}{h:Heap}{f:Ub}{oc:Tx}{od an:Th}{osl:Array (Tf)}{kV doc pm cdv ct:Tx}(X:K.In h)(G:h.Ns mainGlobals mg)(a:PySem.W.nsIn K mainGlobals x=Z (Z (.ref f)))
 (l:K.lookup f=Z ⟨oc,od,.func (PySem.W.fnOf x x (eG st) (bU st) (aJ st) .none kV doc pm an cdv ct),osl⟩) (c:PySem.W.codeIn K cdv x=true) (k:PySem.W.keepIn K (.ref f)=true):Def K mg x st:=
 ⟨f,_,UM l c k,O0 X G a⟩
def aEU{k:Nat}{x:Str}{ps:Tc}{sp:Sp}{p pos:Pos}{e:Uc}{es:T7}{t:TA}{q:Bool}(C:Callee X.prog X.w X.K X.mg X.base k x ps sp q)(d:cL k X.A q)(ha:PA X (e::es) t)(g:Gl X x:=by rfl)
 (a:(x==("__debug__":Str))=false:=by decide) (h:starEach (e::es) X.env=(false,eval e X.env)::starEach es X.env:=by rfl) (c:(backTo pos<|starEach es X.env).any (·.1)=false:=by rfl):
 PE X (.Call (.Name x p) (e::es) [] pos) (EI sp [] E0 t):=by
 obtain⟨f,fd,F,m,kp,b⟩:=C.ex;exact YE F d g m kp b .nil SY ha a h c
def YJ{k:Nat}{x:Str}{ps:Tc}{sp:Sp}{p pos:Pos}(C:Callee X.prog X.w X.K X.mg X.base k x ps sp)(c:cL k X.A)(d:Gl X x:=by rfl)
 (a:(x==("__debug__":Str))=false:=by decide):PE X (.Call (.Name x p) [] [] pos) (EI sp [] E0 ER):=by
 obtain⟨f,fd,F,m,kp,b⟩:=C.ex;exact OU F c d m kp b .nil SY a
def cL.units1{k:Nat}{A:Ue}(r:cL k A):A.in1.units+64<cLine:=by have:=r.un;show A.units+1+64<_;omega
def LW(mg:Str->Tf)(xs:Tc):Prop:=∀x∈xs,mg x=Y
def LW.of{xs:Tc}(h:LW mg xs)(x:Str)(a:x∈xs:=by decide +kernel):mg x=Y:=h x a
def VL:LW mg []:=fun _ h=>absurd h (by simp)
def cD{x:Str}{xs:Tc}(h:mg x=Y)(a:LW mg xs):LW mg (x::xs):=fun y b=>(List.mem_cons.mp b).elim (fun e=>e▸h) (a y)
def FP(i j:Int):Prop:=aDT i j\/aFR i j
def FP.ok{i j:Int}(h:FP i j):IntMulOk i j:=by
 rcases h with h|h
 .exact h.ok
 .exact IntMulOk.of_bits (AG h.1)<|AG h.2
def op_mulA:OpR X (binaryOp .Mult) (rI FP fun i j=>.int (i*j)):=opI fun _ _ _ _ _ _ _ a q=>mul_int q a.ok
def aBF(_ j:Int):Prop:=0<j/\TY j
def UO:OpR X (binaryOp .FloorDiv) (rI aBF fun i j=>.int (i / j)):=opI fun i j _ _ _ _ _ a q=>by
 refine floordiv_int (Int.ne_of_gt a.1) ?_ (.inl (PyProof.noPylong_of_log2<|DL a.2));rw[Int.fdiv_eq_ediv_of_nonneg _ (Int.le_of_lt a.1)];exact q
end
def aAT(sc0:Scope)(N N':Tc)(cap:T2)(scope:Scope):Bool:=
 scope.names.all (fun y=>y.2 != .cell)&&(scope.kind==.function)&&scope.names.all (fun y=>y.2 != .local || scope.names.lookup y.1==Z .local) &&
 scope.names.all (fun y=>y.2 != .free || (sc0.names.lookup y.1==Z .cell || sc0.names.lookup y.1==Z .free))&&(cap.length==N'.length) &&
 (List.range cap.length).all fun i=>match cap[i]? with
  |some (some j)=>(match N'[i]?,N[j]? with
   |some x,some y=>x==y&&scope.names.lookup x==Z .free
   |_,_=>false)
  |_=>true
def XG{X:Cx}{k scope:Scope}{N N':Tc}{cap:T2}(o:X.env.scope=k)(p:X.N=N)(h:aAT k N N' cap scope=true):oZ X N' cap scope:=by
 unfold aAT at h;simp only[Bool.and_eq_true,List.all_eq_true,beq_iff_eq,bne_iff_ne,ne_eq,Bool.or_eq_true,List.mem_range]at h;obtain⟨⟨⟨⟨⟨a,b⟩,c⟩,d⟩,e⟩,f⟩:=h;refine⟨a,b,fun y m n=>?_,fun y m n=>?_,e,fun i j l=>?_⟩
 .rcases c y m with z|z
  .exact absurd n z
  .exact z
 .show X.env.scope.names.lookup y.1=_\/X.env.scope.names.lookup y.1=_;rw[o];rcases d y m with z|z
  .exact absurd n z
  .exact z
 .have hi:i<cap.length:=(List.getElem?_eq_some_iff.mp l).1;have g:=f i hi;rw[l]at g;dsimp only at g;rw[p];split at g
  .rename_i x y ex q;rw[B8,beq_iff_eq,beq_iff_eq]at g;exact⟨x,ex,by rw[q,g.1],g.2⟩
  .cases g
noncomputable def tyName:Tz->String
 |.none=>"NoneType"
 |.bool _=>"bool"
 |.int _=>"int"
 |.str _=>"str"
 |.list _=>"list"
 |.tuple _=>"tuple"
 |.dict _=>"dict"
noncomputable def asked:Tv String:=["int","bool","str","list","tuple","dict"]
noncomputable def isT(T S:String):Bool:=T==S || (T=="int"&&S=="bool")
def yI(T:String)(d:Tz):Bool:=isT T<|tyName d
def aFo(S T:String):Tw Bool:=if (Value.type S==Value.type T)=true then Z true else if PySem.W.kitMeta T=true then(PySem.fastBuiltinMro S).map (·.contains (Value.type T))else Y
def SL:(["NoneType","bool","int","str","list","tuple","dict"].all fun S=>asked.all fun T=>aFo S T==Z (isT T S))=true:=by decide +kernel
def WD{T:String}{d:Tz}(h:T∈asked):PySem.W.kitOne K (.type (tyName d)) (.type T)=Z (yI T d):=by
 have e:PySem.W.kitOne K (.type (tyName d)) (.type T)=aFo (tyName d) T:=rfl;rw[e];have a:=SL;rw[List.all_eq_true]at a;have b:=a (tyName d) (by cases d<;>simp[tyName]);rw[List.all_eq_true]at b;exact eq_of_beq<|b T h
def JU{K:Fg}{d:Tz}:∀{Ts:Tv String},(∀T∈Ts,T∈asked)->PySem.W.kitAny K (.type (tyName d)) (Ts.map Value.type)=Z (Ts.any fun T=>yI T d)
 |[]=>fun _=>rfl
 |T::Ts=>fun h=>by
  rw[C7];unfold PySem.W.kitAny;rw[WD (h T B7),U6];cases yI T d with
  |true=>rfl
  |false=>rw[Bool.false_or];exact JU fun U a=>h U<|B4 _ a
section
variable{X:Cx}
def JL{pins:T1}{j:St}{H:Hp}{s:Ua}(I:Inv X pins j H s):∀{d:Tz}{v:V}{u:Tx},Rep X.K H d v->RelV v u->∃Hc:Heap->Prop,PySem.W.KitX X.K u (.type (tyName d)) Hc/\Hc s.heap/\u≠.builtin "__main__.__loader__#opaque"
 |.none,v,u=>fun h r=>by
  rw[show v=.non from h]at r;cases (show u=Value.none from r);exact⟨_,PySem.W.kitx_none,True.intro,fun z=>nomatch z⟩
 |.bool b,v,u=>fun h r=>by
  rw[show v=.bl b from h]at r;cases (show u=Value.bool b from r);exact⟨_,PySem.W.kitx_bool,True.intro,fun z=>nomatch z⟩
 |.int i,v,u=>fun h r=>by
  rw[show v=.int i from h]at r;obtain⟨t,q⟩:=(show ∃t,u=Value.int i t from r);cases q;exact⟨_,PySem.W.kitx_int,True.intro,fun z=>nomatch z⟩
 |.str x,v,u=>fun h r=>by
  rw[show v=.str x from h]at r;obtain⟨t,q⟩:=(show ∃t,u=Value.str x t from r);cases q;exact⟨_,PySem.W.kitx_str,True.intro,fun z=>nomatch z⟩
 |.list xs,v,u=>fun h r=>by
  obtain⟨a,vs,rfl,c,_⟩:=h;cases (show u=Value.ref a from r);obtain⟨e,k,⟨o,n,f,g,_,hd⟩,_⟩:=I.list c;exact⟨_,PySem.W.kitx_list,⟨o,f,g⟩,fun z=>nomatch z⟩
 |.tuple xs,v,u=>fun h r=>by
  obtain⟨a,vs,rfl,c,_⟩:=h;cases (show u=Value.ref a from r);obtain⟨e,k,⟨o,f,g,n,hd⟩,_⟩:=I.tuple c;exact⟨_,PySem.W.kitx_tuple,⟨o,f,g⟩,fun z=>nomatch z⟩
 |.dict kvs,v,u=>fun h r=>by
  obtain⟨a,ks,rfl,c,_⟩:=h;cases (show u=Value.ref a from r);obtain⟨_,_,vs,_,o,es,ep,l,m,_⟩:=(show cO X.prog X.w H s.heap a (.dK ks)from I.hok a _ c);exact⟨_,PySem.W.kitx_dict,⟨o,l,m.1⟩,fun z=>nomatch z⟩
def aDc(K:Fg):Td->Hp->VK->Prop:=fun xs H Q=>∃x T d,xs=[x,.ty T]/\T∈asked/\Rep K H d x/\Q (.bl (yI T d)) H
def LL:eP X (.builtin "isinstance") (aDc X.K):=by
 intro pins s j H xs us Q I r h;obtain⟨x,T,d,rfl,hT,hd,q⟩:=h;obtain⟨u,e,rfl,f,b⟩:=vals2 r;cases (show e=Value.type T from b);obtain⟨Hc,a,g,c⟩:=JL I hd f;exact PySem.W.kia_one a I.kIn g (WD hT) c fun i=>⟨.bl _,H,I.tok i,rfl,q⟩
def SQ(K:Fg):Td->Hp->VK->Prop:=fun xs H Q=>∃(x:V)(p:Ub)(Ts:Tv String)(d:Tz),xs=[x,.ref p]/\H p=Z (.tup (Ts.map V.ty))/\(∀T∈Ts,T∈asked)/\Rep K H d x/\Q (.bl (Ts.any fun T=>yI T d)) H
def IR:eP X (.builtin "isinstance") (SQ X.K):=by
 intro pins s A H xs us Q I r h;obtain⟨x,p,Ts,d,rfl,j,hT,hd,q⟩:=h;obtain⟨u,k,rfl,l,f⟩:=vals2 r;cases (show k=Value.ref p from f);obtain⟨_,g,m,o,t,b,n,c⟩:=(show cO X.prog X.w H s.heap p (.tup (Ts.map V.ty))from I.hok p _ j);have e:g=Ts.map Value.type:=bB.types m;subst e;obtain⟨oc,od,v,osl⟩:=o;dsimp only at b c;subst b c;obtain⟨Hc,a,y,i⟩:=JL I hd l;exact PySem.W.kia_tup a I.kIn y t (JU hT) i fun z=>⟨.bl _,H,I.tok z,rfl,q⟩
end
def gO.upd{p:Ub}{o:HO}(h:H p=Y):gO H (upd H p o):=fun b u e=>by rw[aN (aT e h)];exact e
def bI:Tz->Tw (T3)
 |.list xs=>Z xs
 |.tuple xs=>Z xs
 |_=>Y
def pW{K:Fg}{H:Hp}:∀{d:Tz}{v:V}{ds:T3},Rep K H d v->bI d=Z ds->∃a vs,v=.ref a/\(SqL K H a vs\/SqT K H a vs)/\aK K H ds vs
 |.list xs,v,ds=>fun h e=>by
  obtain⟨a,vs,b,c,f⟩:=h;cases e;exact⟨a,vs,b,.inl c,f⟩
 |.tuple xs,v,ds=>fun h e=>by
  obtain⟨a,vs,b,c,f⟩:=h;cases e;exact⟨a,vs,b,.inr c,f⟩
 |.none,_,_=>fun _ e=>by cases e
 |.bool _,_,_=>fun _ e=>by cases e
 |.int _,_,_=>fun _ e=>by cases e
 |.str _,_,_=>fun _ e=>by cases e
 |.dict _,_,_=>fun _ e=>by cases e
section
variable{X:Cx}{tg:Uc}
def aBV(K:Fg)(c:TE):TI:=fun d H R=>c d H fun x b=>∃a,x=.ref a/\((∃xs,SqL K b a xs/\R (Itl K a) b)\/(∃xs,SqT K b a xs/\R (Itt K a) b))
def aEc{l:Uc}{j:TE}(k:PE X l j):PI X tg l (aBV X.K j):=by
 intro pins s m H R I h;refine thn (k pins s m H _ I h) fun v s1 f=>?_;obtain⟨x,g,c,n,a,e,r⟩:=f;subst e;cases n
 have fp:∀b∈[s1.heap.objs.size],nQ X pins g b:=fun b t=>by
  have e:b=s1.heap.objs.size:=List.mem_singleton.mp t;subst e;exact c.fpOk (A9 _)<|c.hok.fresh<|A9 _
 rcases r with⟨xs,i,q⟩|⟨xs,i,q⟩
 .obtain⟨d,u,p,f⟩:=c.list i;refine wpAny_pyIter_list p.isList ?_;exact⟨s1.heap.objs.size,[s1.heap.objs.size],_,_,g,rfl,c.kept (t':=s1.toks) fun b o e=>A1 _ e,NI a _,⟨_,B3 _ rfl,rfl,rfl⟩,fp,q⟩
 .obtain⟨d,u,p,f⟩:=c.tuple i;refine S7 (show s1.heap.IsTuple a d.toArray from p) ?_;exact⟨s1.heap.objs.size,[s1.heap.objs.size],_,_,g,rfl,c.kept (t':=s1.toks) fun b o e=>A1 _ e,IM a _,⟨_,B3 _ rfl,rfl,rfl⟩,fp,q⟩
end
inductive CD where
 |d (x:Tz)
 |c (n:Nat)
 |t (xs:Tv (Tz ⊕ Nat))
 |f (kvs:Tv (Tv Key×Tz))
 |g (nm:Str)
abbrev Tu:=Tv (Str×CD)
abbrev Te:=Tw CD
abbrev T5:=Tv CD
inductive Cell where
 |lst (xs:T5)
 |dk (kvs:Tv (Key×CD))
 |dt (kvs:Tv (Tv Key×CD))
 |obj (nm:Str) (fs:Tu)
 |exc (fr:Bool) (nm:Str) (fs:Tu)
 |dead
structure Wd where
 F:Hp
 α:Nat->Ub
 n:Nat
structure Wd.Ext(W W':Wd):Prop where
 ff:gO W.F W'.F
 ln:W.n<=W'.n
 al:∀i,i<W.n->W'.α i=W.α i
def Wd.Ext.refl(W:Wd):W.Ext W:=⟨gO.refl _,A9 _,fun _ _=>rfl⟩
def Wd.Ext.trans{c d:Wd}(a:W.Ext c)(b:c.Ext d):W.Ext d:=⟨a.ff.trans b.ff,D9 a.ln b.ln,fun i h=>(b.al i<|B6 h a.ln).trans (a.al i h)⟩
def BL(K:Fg)(W:Wd):Tz ⊕ Nat->V->Prop
 |.inl x,v=>Rep K W.F x v
 |.inr i,v=>i<W.n/\v=.ref (W.α i)
noncomputable def cdA:Tz ⊕ Nat->CD
 |.inl x=>.d x
 |.inr i=>.c i
def bH(K:Fg)(nm:Str):Ub:=match PySem.W.nsIn K mainGlobals nm with
 |some (some (.ref C))=>C
 |_=>0
def cR(K:Fg)(W:Wd):CD->V->Prop
 |.d x,v=>Rep K W.F x v
 |.c i,v=>i<W.n/\v=.ref (W.α i)
 |.t xs,v=>∃a vs,v=.ref a/\W.F a=Z (.tup vs)/\Paired (BL K W) xs vs
 |.f kvs,v=>∃a o us,v=.ref a/\W.F a=Z (.frz o (.dT us))/\Paired (fun p q=>p.1=q.1/\Rep K W.F p.2 q.2) kvs us
 |.g nm,v=>v=.ref (bH K nm)
abbrev bY(K:Fg)(W:Wd):T5->Td->Prop:=Paired<|cR K W
def EV(K:Fg)(W:Wd):Te->Tw V->Prop
 |none,none=>True
 |some x,some v=>cR K W x v
 |_,_=>False
abbrev cM(K:Fg)(W:Wd):Tv (Te)->St->Prop:=Paired<|EV K W
def DV(a:Ub)(c:Tx)(dx:Th)(fr:Bool)(h:Heap):Prop:=∃o vs,h.get? a=Z o/\o.cls=c/\o.dict=dx/\o.data=.fields vs/\(fr=true->1<vs.size/\vs[1]?=Z .none)
def DE(K:Fg)(W:Wd)(dx:Th)(fs:Tu):Prop:=match dx with
 |none=>fs=[]
 |some d=>fs≠[]/\∃us,W.F d=Z (.xd us)/\Paired (fun p q=>p.1=q.1/\cR K W p.2 q.2) fs us
def CJ(K:Fg)(W:Wd)(a:Ub):Cell->HO->Prop
 |.lst xs,.lst vs=>bY K W xs vs
 |.dk kvs,.dK us=>Paired (fun p q=>p.1=q.1/\cR K W p.2 q.2) kvs us
 |.dt kvs,.dT us=>Paired (fun p q=>p.1=q.1/\cR K W p.2 q.2) kvs us
 |.obj nm fs,.ins C _ us=>C=bH K nm/\Paired (fun p q=>p.1=q.1/\cR K W p.2 q.2) fs us
 |.exc fr nm fs,.ext b=>∃dx,b=DV a (.ref (bH K nm)) dx fr/\DE K W dx fs
 |_,_=>False
noncomputable def QY:Tc:=["straight_within"]
def tabOf(K:Fg):Tx->Th
 |.ref c=>match K.lookup c with
  |some o=>(match o.data with
   |.fields vs=>(match (vs[11]?:Tf)with
    |some (Value.ref P)=>Z P
    |_=>Y)
   |_=>Y)
  |none=>Y
 |_=>Y
def UR(K:Fg):Tv (Ub×Str):=K.filterMap fun p=>match p.2.data with
 |.func fd=>if QY.contains fd.name=true then(tabOf K fd.code).map fun P=>(P,fd.qualname++".<locals>.<lambda>")else Y
 |_=>Y
def TabAt(H:Hp)(x:Ub×Str):Prop:=∃ps,H x.1=Z (.tbl ps)/\TriplesOk ps.toList/\∀pos a,codeAmong pos ps.toList=Z a->∃c' oc u vs t,a=.ref c'/\H c'=Z (.frz oc u)/\oc.data=.fields vs/\vs[1]?=Z (.str x.2 t)
def TabAt.upd{x:Ub×Str}{p:Ub}{o:HO}(h:TabAt H x)(b:∀ps,H p≠Z (.tbl ps))(d:∀ob u,H p≠Z (.frz ob u)):TabAt (upd H p o) x:=by
 obtain⟨ps,e,t,k⟩:=h;refine⟨ps,by rw[aN (show x.1≠p from fun z=>b ps (z▸e))];exact e,t,fun pos f c=>?_⟩;obtain⟨c',oc,u,vs,g,i,a,j⟩:=k pos f c;exact⟨c',oc,u,vs,g,i,by rw[aN (show c'≠p from fun z=>d oc u (z▸a))];exact a,j⟩
def TabsOk(K:Fg)(F H:Hp):Prop:=∀x∈UR K,F x.1=Y/\TabAt H x
def TabsOk.upd{p:Ub}{o:HO}(h:TabsOk K F H)(b:∀ps,H p≠Z (.tbl ps))(c:∀ob u,H p≠Z (.frz ob u)):TabsOk K F (upd H p o):=fun x a=>⟨(h x a).1,(h x a).2.upd b c⟩
def TabsOk.fresh{p:Ub}{o:HO}(h:TabsOk K F H)(a:H p=Y):TabsOk K F (L2.upd H p o):=h.upd (fun ps e=>by rw[a]at e;cases e) fun ob u e=>by rw[a]at e;cases e
def TabsOk.updF{p:Ub}{o:HO}(h:TabsOk K F H)(b:∀ps,H p≠Z (.tbl ps)):TabsOk K (L2.upd F p o) H:=fun x a=>⟨by
 obtain⟨ps,e,_⟩:=(h x a).2;rw[aN (show x.1≠p from fun z=>b ps (z▸e))];exact(h x a).1,(h x a).2⟩
def CJ.nt{a:Ub}{c:Cell}{o:HO}(r:CJ K W a c o):(∀ps,o≠.tbl ps)/\∀ob u,o≠.frz ob u:=by
 cases c<;>cases o<;>first|exact False.elim r|exact⟨fun _ e=>(by cases e),fun _ _ e=>(by cases e)⟩
def TabsOk.cell{a:Ub}{c:Cell}{o o':HO}(h:TabsOk K F H)(e:H a=Z o)(r:CJ K W a c o):TabsOk K F (L2.upd H a o'):=
 h.upd (fun ps z=>r.nt.1 ps<|C5<|e.symm.trans z) fun ob u z=>r.nt.2 ob u<|C5<|e.symm.trans z
structure Good(K:Fg)(W:Wd)(M:Tv Cell)(H:Hp):Prop where
 fh:gO W.F H
 n:W.n=M.length
 cs:∀i c,M[i]?=Z c->c≠.dead->W.F (W.α i)=Y/\∃o,H (W.α i)=Z o/\CJ K W (W.α i) c o
 inj:∀i j c c',M[i]?=Z c->M[j]?=Z c'->c≠.dead->c'≠.dead->W.α i=W.α j->i=j
 tb:TabsOk K W.F H
section
variable{K:Fg}{W W':Wd}{M M':Tv Cell}{H H':Hp}
def BL.up{x:Tz ⊕ Nat}{v:V}(h:BL K W x v)(e:W.Ext W'):BL K W' x v:=by
 cases x with
 |inl x=>exact Rep.same e.ff _ _ h
 |inr i=>exact⟨B6 h.1 e.ln,by rw[e.al i h.1];exact h.2⟩
def cR.up{x:CD}{v:V}(h:cR K W x v)(e:W.Ext W'):cR K W' x v:=by
 cases x with
 |d x=>exact Rep.same e.ff _ _ h
 |c i=>exact⟨B6 h.1 e.ln,by rw[e.al i h.1];exact h.2⟩
 |t xs=>
  obtain⟨a,vs,b,j,k⟩:=h;exact⟨a,vs,b,e.ff _ _ j,Paired.mapP k fun _ _ r=>BL.up r e⟩
 |f kvs=>
  obtain⟨a,o,us,b,j,k⟩:=h;exact⟨a,o,us,b,e.ff _ _ j,Paired.mapP k fun _ _ r=>⟨r.1,Rep.same e.ff _ _ r.2⟩⟩
 |g nm=>exact h
def bY.up{xs:T5}{vs:Td}(h:bY K W xs vs)(e:W.Ext W'):bY K W' xs vs:=Paired.mapP h fun _ _ r=>cR.up r e
def cM.up{γ:Tv (Te)}{c:St}(h:cM K W γ c)(e:W.Ext W'):cM K W' γ c:=Paired.mapP h fun a b r=>by
 cases a<;>cases b
 .exact True.intro
 .exact False.elim r
 .exact False.elim r
 .exact cR.up r e
def DE.up{dx:Th}{fs:Tu}(h:DE K W dx fs)(e:W.Ext W'):DE K W' dx fs:=by
 cases dx with
 |none=>exact h
 |some d=>
  obtain⟨a,us,b,c⟩:=h;exact⟨a,us,e.ff _ _ b,Paired.mapP c fun _ _ r=>⟨r.1,cR.up r.2 e⟩⟩
def CJ.up{a:Ub}{c:Cell}{o:HO}(h:CJ K W a c o)(e:W.Ext W'):CJ K W' a c o:=by
 cases c<;>cases o<;>first|exact(let⟨dx,b,d⟩:=h;⟨dx,b,d.up e⟩)|exact False.elim h|exact bY.up h e|exact Paired.mapP h fun _ _ r=>⟨r.1,cR.up r.2 e⟩|exact⟨h.1,Paired.mapP h.2 fun _ _ r=>⟨r.1,cR.up r.2 e⟩⟩
def Good.lay(g:Good K W M H){p:Ub}{o:HO}(d:H p=Y):W.Ext { W with F:=upd W.F p o }/\Good K { W with F:=upd W.F p o } M (upd H p o):=by
 have fp:W.F p=Y:=g.fh.free d;have e:W.Ext { W with F:=upd W.F p o }:=⟨gO.upd fp,A9 _,fun _ _=>rfl⟩;refine⟨e,?_,g.n,fun i c hi h=>?_,g.inj,(g.tb.updF fun ps e=>by rw[d]at e;cases e).fresh d⟩
 .intro b u a;have a:upd W.F p o b=Z u:=a;by_cases q:b=p
  .subst q;rw[aS]at a;rw[aS];exact a
  .rw[aN q]at a;rw[aN q];exact g.fh b u a
 .obtain⟨j,o',f,k⟩:=g.cs i c hi h;have ne:W.α i≠p:=aT f d;exact⟨by show upd W.F p o (W.α i)=Y;rw[aN ne];exact j,o',by rw[aN ne];exact f,k.up e⟩
noncomputable def Wd.more(W:Wd)(p:Ub):Wd:={ W with α:=fun i=>if i=W.n then p else W.α i,n:=W.n+1 }
def Wd.ext_more(W:Wd)(p:Ub):W.Ext (W.more p):=⟨gO.refl _,Nat.le_succ _,fun i h=>B0<|B5 h⟩
def Good.new(g:Good K W M H){p:Ub}{c:Cell}{o:HO}(f:H p=Y)(r:CJ K W p c o):Good K (W.more p) (M++[c]) (upd H p o):=by
 have e:=W.ext_more p
 have at_:∀i c',(M++[c])[i]?=Z c'->(i<M.length/\M[i]?=Z c')\/(i=M.length/\c'=c):=fun i c' h=>by
  by_cases q:i<M.length
  .rw[E7 q]at h;exact .inl ⟨q,h⟩
  .rw[F6 (Nat.le_of_not_lt q)]at h
   have h':i-M.length=0:=by
    cases k:i-M.length with
    |zero=>rfl
    |succ m=>rw[k]at h;simp at h
   rw[h']at h;refine .inr ⟨by omega,?_⟩;simpa using h.symm
 have al:∀i,i<M.length->(W.more p).α i=W.α i:=fun i h=>e.al i (by rw[g.n];exact h);have an:(W.more p).α M.length=p:=by show(if M.length=W.n then p else _)=p;rw[A7 g.n.symm]
 have a:∀i c',M[i]?=Z c'->c'≠.dead->W.α i≠p:=fun i c' h l=>by
  obtain⟨_,o',t,_⟩:=g.cs i c' h l;exact aT t f
 refine⟨?_,?_,fun i c' hi l=>?_,fun i j v s hi x y z d=>?_,g.tb.fresh f⟩
 .intro b u A;have:=g.fh b u A;rw[aN (aT this f)];exact this
 .show W.n+1=_;rw[g.n,B1];rfl
 .rcases at_ i c' hi with⟨q,h⟩|⟨rfl,rfl⟩
  .obtain⟨B,o',t,C⟩:=g.cs i c' h l;rw[al i q];exact⟨B,o',by rw[aN (a i c' h l)];exact t,C.up e⟩
  .rw[an];exact⟨g.fh.free f,o,aS,r.up e⟩
 .rcases at_ i v hi with⟨q,h⟩|⟨rfl,rfl⟩
  .rcases at_ j s x with⟨w,h'⟩|⟨rfl,rfl⟩
   .rw[al i q,al j w]at d;exact g.inj i j v s h h' y z d
   .rw[al i q,an]at d;exact absurd d<|a i v h y
  .rcases at_ j s x with⟨w,h'⟩|⟨rfl,rfl⟩
   .rw[an,al j w]at d;exact absurd d.symm<|a j s h' z
   .rfl
def Good.set(g:Good K W M H){i:Nat}{c c':Cell}{o':HO}(hi:M[i]?=Z c)(a:c≠.dead)(r:CJ K W (W.α i) c' o'):Good K W (M.set i c') (upd H (W.α i) o'):=by
 obtain⟨p,o,w,x⟩:=g.cs i c hi a;have lt:i<M.length:=(List.getElem?_eq_some_iff.mp hi).1
 have at_:∀j d,(M.set i c')[j]?=Z d->(j=i/\d=c')\/(j≠i/\M[j]?=Z d):=fun j d h=>by
  by_cases q:i=j
  .subst q;rw[E8 lt]at h;exact .inl ⟨rfl,(C5 h).symm⟩
  .rw[C6 q]at h;exact .inr ⟨fun z=>q z.symm,h⟩
 refine⟨?_,by rw[g.n,S3],fun j d e hd=>?_,fun j k f l e y s t m=>?_,g.tb.cell w x⟩
 .intro b u v;rw[aN (aT v p)];exact g.fh b u v
 .rcases at_ j d e with⟨rfl,rfl⟩|⟨q,h⟩
  .exact⟨p,o',aS,r⟩
  .obtain⟨A,u,B,C⟩:=g.cs j d h hd;have ne:W.α j≠W.α i:=fun z=>q<|g.inj j i d c h hi hd a z;exact⟨A,u,by rw[aN ne];exact B,C⟩
 .rcases at_ j f e with⟨rfl,rfl⟩|⟨q,h⟩<;>rcases at_ k l y with⟨rfl,rfl⟩|⟨D,h'⟩
  .rfl
  .exact g.inj _ k c l hi h' a t m
  .exact g.inj j _ f c h hi s a m
  .exact g.inj j k f l h h' s t m
end
noncomputable abbrev Ga:=Tv<|Te
noncomputable abbrev Sto:=Tv Cell
abbrev EF:=Ga->Sto->Option (CD×Sto)
abbrev TF:=Ga->Sto->Tw (Bool×Sto)
abbrev AF:=Ga->Sto->Option (List CD×Sto)
inductive Out where
 |nx (γ:Ga)|bk (γ:Ga)|ct (γ:Ga)|rt (x:CD)
abbrev SF:=Ga->Sto->Tw (Out×Sto)
abbrev GF:=CD->Ga->Sto->Tw (Ga×Sto)
abbrev GsF:=T5->Ga->Sto->Tw (Ga×Sto)
abbrev F1:=CD->Sto->Tw (CD×Sto)
abbrev F2:=CD->CD->Sto->Tw (CD×Sto)
abbrev FN:=T5->Sto->Tw (CD×Sto)
section
variable(K:Fg)
def SE(t:TE)(f:EF):Prop:=∀γ M x M',f γ M=Z (x,M')->∀(W:Wd)(H:Hp)(a:St)(Q:VK),Good K W M H->cM K W γ a->(∀v W' H',W.Ext W'->Good K W' M' H'->cR K W' x v->Q v H')->t a H Q
def STt(t:TT)(f:TF):Prop:=∀γ M b M',f γ M=Z (b,M')->∀(W:Wd)(H:Hp)(a:St)(Q:Bool->Hp->Prop),Good K W M H->cM K W γ a->(∀W' H',W.Ext W'->Good K W' M' H'->Q b H')->t a H Q
def SA(t:TA)(f:AF):Prop:=∀γ M xs M',f γ M=Z (xs,M')->∀(W:Wd)(H:Hp)(a:St)(Q:Td->Hp->Prop),Good K W M H->cM K W γ a->(∀vs W' H',W.Ext W'->Good K W' M' H'->bY K W' xs vs->Q vs H')->t a H Q
def UW(D:Ends)(W:Wd)(H:Hp):Out->Prop
 |.nx γ=>∀a,cM K W γ a->D.nx a H
 |.bk γ=>∀a,cM K W γ a->D.bk a H
 |.ct γ=>∀a,cM K W γ a->D.ct a H
 |.rt x=>∀v,cR K W x v->D.rt v H
def SS(t:TS)(f:SF):Prop:=∀γ M o M',f γ M=Z (o,M')->∀(W:Wd)(H:Hp)(a:St)(D:Ends),Good K W M H->cM K W γ a->(∀W' H',W.Ext W'->Good K W' M' H'->UW K D W' H' o)->t D a H
def SG(t:TG)(f:GF):Prop:=∀x γ M a M',f x γ M=Z (a,M')->∀(W:Wd)(H:Hp)(c:St)(v:V)(Q:St->Hp->Prop),Good K W M H->cM K W γ c->cR K W x v->(∀b W' H',W.Ext W'->Good K W' M' H'->cM K W' a b->Q b H')->t v c H Q
def SGs(t:TGs)(f:GsF):Prop:=∀xs γ M a M',f xs γ M=Z (a,M')->∀(W:Wd)(H:Hp)(c:St)(vs:Td)(Q:St->Hp->Prop),Good K W M H->cM K W γ c->bY K W xs vs->(∀b W' H',W.Ext W'->Good K W' M' H'->cM K W' a b->Q b H')->t vs c H Q
def P2(r:R2)(f:F2):Prop:=∀x y M z M',f x y M=Z (z,M')->∀(W:Wd)(H:Hp)(v u:V)(Q:VK),Good K W M H->cR K W x v->cR K W y u->(∀w W' H',W.Ext W'->Good K W' M' H'->cR K W' z w->Q w H')->r v u H Q
def P1(r:V->Hp->VK->Prop)(f:F1):Prop:=∀x M z M',f x M=Z (z,M')->∀(W:Wd)(H:Hp)(v:V)(Q:VK),Good K W M H->cR K W x v->(∀w W' H',W.Ext W'->Good K W' M' H'->cR K W' z w->Q w H')->r v H Q
def PN(r:Td->Hp->VK->Prop)(f:FN):Prop:=∀xs M z M',f xs M=Z (z,M')->∀(W:Wd)(H:Hp)(vs:Td)(Q:VK),Good K W M H->bY K W xs vs->(∀w W' H',W.Ext W'->Good K W' M' H'->cR K W' z w->Q w H')->r vs H Q
def spM(f:FN):Sp:=fun vs H Q _=>∃xs M W y M',Good K W M H/\bY K W xs vs/\f xs M=Z (y,M')/\∀v W' H',W.Ext W'->Good K W' M' H'->cR K W' y v->Q v H'
end
def aE(i:Nat):EF:=fun γ M=>match γ[i]? with
 |some (some x)=>Z (x,M)
 |_=>Y
def fC(x:Tz):EF:=fun _ M=>Z (.d x,M)
noncomputable def fOp(h:F2)(f g:EF):EF:=fun γ M=>(f γ M).bind fun r=>(g γ r.2).bind fun q=>h r.1 q.1 q.2
noncomputable def fUn(h:F1)(f:EF):EF:=fun γ M=>(f γ M).bind fun r=>h r.1 r.2
def asB:CD->Tw Bool
 |.d (.bool b)=>Z b
 |_=>Y
def mM(f g:EF):EF:=fun γ M=>(f γ M).bind fun r=>(asB r.1).bind fun b=>if b=true then g γ r.2 else Z (.d (.bool false),r.2)
def fOr(f g:EF):EF:=fun γ M=>(f γ M).bind fun r=>(asB r.1).bind fun b=>if b=true then Z (.d (.bool true),r.2)else g γ r.2
def aAb(f:EF):EF:=fun γ M=>(f γ M).bind fun r=>(asB r.1).bind fun b=>Z (.d (.bool (!b)),r.2)
noncomputable def fIf(t:TF)(f g:EF):EF:=fun γ M=>(t γ M).bind fun r=>if r.1=true then f γ r.2 else g γ r.2
def wZ(f g:TF):TF:=fun γ M=>(f γ M).bind fun r=>if r.1=true then g γ r.2 else Z (false,r.2)
def gOr(f g:TF):TF:=fun γ M=>(f γ M).bind fun r=>if r.1=true then Z (true,r.2)else g γ r.2
def nP(f:TF):TF:=fun γ M=>(f γ M).bind fun r=>Z (!r.1,r.2)
def gB(f:EF):TF:=fun γ M=>(f γ M).bind fun r=>(asB r.1).bind fun b=>Z (b,r.2)
def CT(h h':F2)(f g e:EF):EF:=fun γ M=>(f γ M).bind fun r=>(g γ r.2).bind fun q=>(h r.1 q.1 q.2).bind fun z=>(asB z.1).bind fun b=>if b=true then(e γ z.2).bind fun w=>h' q.1 w.1 w.2 else Z (.d (.bool false),z.2)
def aG:AF:=fun _ M=>Z ([],M)
def aB(f:EF)(g:AF):AF:=fun γ M=>(f γ M).bind fun r=>(g γ r.2).bind fun q=>Z (r.1::q.1,q.2)
def jR:T5->Tw (T3)
 |[]=>Z []
 |.d x::r=>(jR r).map (x::·)
 |.c _::_=>Y
 |.t _::_=>Y
 |.f _::_=>Y
 |.g _::_=>Y
def aY(f:AF):EF:=fun γ M=>(f γ M).bind fun r=>(jR r.1).bind fun a=>if a.length<=sizeLine then Z (.d (.tuple a),r.2)else Y
def cA(f:AF):EF:=fun γ M=>(f γ M).bind fun r=>(jR r.1).bind fun a=>if a.length<=sizeLine then Z (.d (.list a),r.2)else Y
def rB(f:AF):EF:=fun γ M=>(f γ M).bind fun r=>if r.1.length<=sizeLine then Z (.c r.2.length,r.2++[.lst r.1])else Y
noncomputable def aL(h:FN)(f:AF):EF:=fun γ M=>(f γ M).bind fun r=>h r.1 r.2
def cH:SF:=fun γ M=>Z (.nx γ,M)
def bA(f g:SF):SF:=fun γ M=>(f γ M).bind fun r=>match r.1 with
 |.nx a=>g a r.2
 |o=>Z (o,r.2)
def oR(f:EF):SF:=fun γ M=>(f γ M).bind fun r=>Z (.nx γ,r.2)
def cV(f:EF):SF:=fun γ M=>(f γ M).bind fun r=>Z (.rt r.1,r.2)
def aGn:SF:=fun _ M=>Z (.rt (.d .none),M)
noncomputable def sIf(c:TF)(f g:SF):SF:=fun γ M=>(c γ M).bind fun r=>if r.1=true then f γ r.2 else g γ r.2
def bG(f:EF)(g:GF):SF:=fun γ M=>(f γ M).bind fun r=>(g r.1 γ r.2).bind fun q=>Z (.nx q.1,q.2)
def hName(i:Nat):GF:=fun x γ M=>Z (γ.set i<|Z x,M)
def lJ:GsF:=fun xs γ M=>match xs with
 |[]=>Z (γ,M)
 |_=>Y
def bT(f:GF)(g:GsF):GsF:=fun xs γ M=>match xs with
 |x::r=>(f x γ M).bind fun q=>g r q.1 q.2
 |[]=>Y
def lE(n:Nat)(g:GsF):GF:=fun x γ M=>match x with
 |.d (.tuple a)=>if a.length=n then g (a.map .d) γ M else Y
 |.t xs=>if xs.length=n then g (xs.map cdA) γ M else Y
 |_=>Y
abbrev F3:=CD->CD->CD->Sto->Tw Sto
def hSub(fo a:EF)(s:F3):GF:=fun x γ M=>(fo γ M).bind fun r=>(a γ r.2).bind fun q=>(s r.1 q.1 x q.2).bind fun M'=>Z (γ,M')
def VO(i j:Nat)(f:AF):SF:=fun γ M=>(f γ M).bind fun r=>match r.1 with
 |[x,y]=>Z (.nx ((γ.set i<|Z x).set j (Z y)),r.2)
 |_=>Y
def nO(g:GF)(b:SF):T5->Ga->Sto->Tw (Out×Sto)
 |[],γ,M=>Z (.nx γ,M)
 |x::xs,γ,M=>(g x γ M).bind fun r=>(b r.1 r.2).bind fun q=>match q.1 with
  |.nx a=>nO g b xs a q.2
  |.ct a=>nO g b xs a q.2
  |.bk a=>Z (.nx a,q.2)
  |.rt x=>Z (.rt x,q.2)
def vQ(f:AF)(g:GF)(b:SF):SF:=fun γ M=>(f γ M).bind fun r=>nO g b r.1 γ r.2
def gE(c:TF)(b:SF):Nat->Ga->Sto->Tw (Out×Sto)
 |0,_,_=>Y
 |n+1,γ,M=>(c γ M).bind fun r=>if r.1=true then(b γ r.2).bind fun q=>match q.1 with
  |.nx a=>gE c b n a q.2
  |.ct a=>gE c b n a q.2
  |.bk a=>Z (.nx a,q.2)
  |.rt x=>Z (.rt x,q.2)else Z (.nx γ,r.2)
open Classical in
noncomputable def uF(c:TF)(b:SF):SF:=fun γ M=>if h:∃n,(gE c b n γ M).isSome=true then gE c b h.choose γ M else Y
def lcF(g:GF)(c:TF)(e:EF):T5->Ga->Sto->Tw (T5×Sto)
 |[],γ,M=>Z ([],M)
 |x::xs,γ,M=>(g x γ M).bind fun a=>(c a.1 a.2).bind fun b=>if b.1=true then(e a.1 b.2).bind fun r=>(lcF g c e xs a.1 r.2).bind fun q=>Z (r.1::q.1,q.2)else lcF g c e xs a.1 b.2
noncomputable def sP(cap:T2)(γ:Ga):Ga:=cap.map fun o=>o.bind fun j=>(γ[j]?).join
def fW:TF:=fun _ M=>Z (true,M)
def uN(cap:T2)(f:AF)(g:GF)(c:TF)(e:EF):AF:=fun γ M=>(f γ M).bind fun r=>if r.1.length<=sizeLine then lcF g c e r.1 (sP cap γ) r.2 else Y
def fLc(cap:T2)(f:AF)(g:GF)(c:TF)(e:EF):EF:=cA<|uN cap f g c e
def MB(cap:T2)(f:AF)(g:GF)(c:TF)(e:EF):EF:=rB<|uN cap f g c e
def fnF(ps N:Nat)(b:SF):FN:=fun xs M=>if xs.length=ps then(b (xs.map Z++List.replicate (N-xs.length) Y) M).bind fun r=>match r.1 with
 |.rt x=>Z (x,r.2)
 |.nx _=>Z (.d .none,r.2)
 |_=>Y else Y
def aI{b c:Type}{o:Tw b}{k:b->Tw c}{r:c}(h:o.bind k=Z r):∃a,o=Z a/\k a=Z r:=by
 cases o with
 |none=>cases h
 |some a=>exact⟨a,rfl,h⟩
def Paired.get{a b:Type}{R:a->b->Prop}:∀{xs:Tv a}{ys:Tv b}{i:Nat}{x:a},Paired R xs ys->xs[i]?=Z x->∃y,ys[i]?=Z y/\R x y
 |_,_,_,_,.nil=>fun e=>by simp at e
 |_,_,0,_,.cons r _=>fun e=>by simp at e;subst e;exact⟨_,rfl,r⟩
 |_,_,i+1,x,.cons _ t=>fun e=>by
  obtain⟨u,c,d⟩:=Paired.get (i:=i) (x:=x) t (by simpa using e);exact⟨u,by simpa using c,d⟩
def Paired.set{a b:Type}{R:a->b->Prop}{x:a}{y:b}(r:R x y):∀{xs:Tv a}{ys:Tv b}(i:Nat),Paired R xs ys->Paired R (xs.set i x) (ys.set i y)
 |_,_,_,.nil=>.nil
 |_,_,0,.cons _ t=>.cons r t
 |_,_,i+1,.cons q t=>.cons q (Paired.set r i t)
def Paired.app{c d:Type}{R:c->d->Prop}:∀{xs a:Tv c}{ys b:Tv d},Paired R xs ys->Paired R a b->Paired R (xs++a) (ys++b)
 |_,_,_,_,.nil=>fun s=>s
 |_,_,_,_,.cons r t=>fun s=>.cons r (Paired.app t s)
def Paired.len{a b:Type}{R:a->b->Prop}{xs:Tv a}{ys:Tv b}(p:Paired R xs ys):xs.length=ys.length:=Z0 p
section
variable{K:Fg}
def dR{W:Wd}:∀{xs:T5}{ds:T3}{vs:Td},jR xs=Z ds->bY K W xs vs->aK K W.F ds vs
 |[],ds,vs=>fun e h=>by
  cases e;cases h;rfl
 |.c _::_,ds,vs=>fun e h=>by cases e
 |.t _::_,ds,vs=>fun e h=>by cases e
 |.f _::_,ds,vs=>fun e h=>by cases e
 |.g _::_,ds,vs=>fun e h=>by cases e
 |.d x::r,ds,vs=>fun e h=>by
  cases h with
  |@cons _ v _ a b i=>
   unfold jR at e;cases q:jR r with
   |none=>rw[q]at e;cases e
   |some es=>
    rw[q]at e;cases e;exact⟨v,a,rfl,b,dR q i⟩
def ZV{xs:Tv (Tz ⊕ Nat)}{vs:Td}(h:Paired (BL K W) xs vs):bY K W (xs.map cdA) vs:=by
 induction h with
 |nil=>exact .nil
 |@cons x v _ _ r _ ih=>exact .cons (by cases x<;>exact r) ih
def gF{W:Wd}:∀{ds:T3}{vs:Td},aK K W.F ds vs->bY K W (ds.map .d) vs
 |[],vs=>fun h=>by rw[show vs=[]from h];exact .nil
 |d::ds,vs=>fun h=>by
  obtain⟨v,r,rfl,a,b⟩:=h;exact .cons a (gF b)
def xZ:∀{xs:T5}{ds:T3},jR xs=Z ds->ds.length=xs.length
 |[],ds=>fun e=>by cases e;rfl
 |.c _::_,ds=>fun e=>by cases e
 |.t _::_,ds=>fun e=>by cases e
 |.f _::_,ds=>fun e=>by cases e
 |.g _::_,ds=>fun e=>by cases e
 |.d x::r,ds=>fun e=>by
  unfold jR at e;cases q:jR r with
  |none=>rw[q]at e;cases e
  |some es=>
   rw[q]at e;cases e;rw[E5,E5,xZ q]
def aCK{i:Nat}:SE K (aGG i) (aE i):=by
 intro γ M x M' h W H c Q g r k;unfold aE at h;cases e:γ[i]? with
 |none=>rw[e]at h;cases h
 |some o=>
  cases o with
  |none=>rw[e]at h;cases h
  |some y=>
   rw[e]at h;cases h;obtain⟨v,b,a⟩:=Paired.get r e;cases v with
   |none=>exact False.elim a
   |some v=>exact⟨v,b,k v W H (.refl _) g a⟩
def PQ{i:Int}:SE K (tC (.int i)) (fC (.int i)):=by
 intro γ M x M' h W H a Q g r k;cases h;exact k _ W H (.refl _) g rfl
def aGQ{b:Bool}:SE K (tC (.bl b)) (fC (.bool b)):=by
 intro γ M x M' h W H a Q g r k;cases h;exact k _ W H (.refl _) g rfl
def aCf:SE K (tC .non) (fC .none):=by
 intro γ M x M' h W H a Q g r k;cases h;exact k _ W H (.refl _) g rfl
def aCL{x:Str}:SE K (tC (.str x)) (fC (.str x)):=by
 intro γ M x M' h W H a Q g r k;cases h;exact k _ W H (.refl _) g rfl
variable{ta tb tc:TE}{f g e:EF}{tt uu:TT}{ft gt:TF}{tA:TA}{fa:AF}
def JF{r:R2}{h:F2}(p:P2 K r h)(a:SE K ta f)(b:SE K tb g):SE K (tOp r ta tb) (fOp h f g):=by
 intro γ M x M' c W H d Q G R k;obtain⟨⟨y,M1⟩,l,c⟩:=aI c;obtain⟨⟨z,M2⟩,m,c⟩:=aI c;refine a _ _ _ _ l W H d _ G R fun v n o i q s=>?_;refine b _ _ _ _ m n o d _ q (R.up i) fun u t A j G2 B=>?_;exact p _ _ _ _ _ c t A v u Q G2 (s.up j) B fun w C D E I J=>k w C D ((i.trans j).trans E) I J
def aFZ{r:V->Hp->VK->Prop}{h:F1}(p:P1 K r h)(a:SE K ta f):SE K (tUn r ta) (fUn h f):=by
 intro γ M x M' b W H c Q G R k;obtain⟨⟨y,M1⟩,d,b⟩:=aI b;refine a _ _ _ _ d W H c _ G R fun v i j l m n=>?_;exact p _ _ _ _ b i j v Q m n fun w o q s t u=>k w o q (l.trans s) t u
def xR{x:CD}{b:Bool}(h:asB x=Z b):x=.d (.bool b):=by
 cases x with
 |c n=>cases h
 |t n=>cases h
 |f n=>cases h
 |g _=>cases h
 |d x=>cases x<;>first|cases h;rfl|cases h
def aCc(a:SE K ta f)(b:SE K tb g):SE K (aBe ta tb) (mM f g):=by
 intro γ M x M' d W H i Q G R k;obtain⟨⟨y,M1⟩,n,d⟩:=aI d;obtain⟨c,o,d⟩:=aI d;refine a _ _ _ _ n W H i _ G R fun v j l h m p=>?_;have q:y=_:=xR o;subst q;refine⟨c,p,?_⟩;cases c with
 |true=>rw[A7 rfl];rw[A7 rfl]at d;exact b _ _ _ _ d j l i Q m (R.up h) fun w r s t u z=>k w r s (h.trans t) u z
 |false=>
  rw[B0 A6];rw[B0 A6]at d;cases d;exact k _ j l h m rfl
def aGx(a:SE K ta f)(b:SE K tb g):SE K (aGo ta tb) (fOr f g):=by
 intro γ M x M' d W H i Q G R k;obtain⟨⟨y,M1⟩,n,d⟩:=aI d;obtain⟨c,o,d⟩:=aI d;refine a _ _ _ _ n W H i _ G R fun v j l h m p=>?_;have q:y=_:=xR o;subst q;refine⟨c,p,?_⟩;cases c with
 |true=>
  rw[A7 rfl];rw[A7 rfl]at d;cases d;exact k _ j l h m rfl
 |false=>rw[B0 A6];rw[B0 A6]at d;exact b _ _ _ _ d j l i Q m (R.up h) fun w r s t u z=>k w r s (h.trans t) u z
def aDu(a:SE K ta f):SE K (aBu ta) (aAb f):=by
 intro γ M x M' b W H d Q G R k;obtain⟨⟨y,M1⟩,h,b⟩:=aI b;obtain⟨c,i,b⟩:=aI b;refine a _ _ _ _ h W H d _ G R fun v j l m n o=>?_;have p:y=_:=xR i;subst p;cases b;exact⟨c,o,k _ j l m n rfl⟩
def UI{r l:R2}{h h':F2}(p:P2 K r h)(J:P2 K l h')(a:SE K ta f)(b:SE K tb g)(c:SE K tc e):SE K (QE r l ta tb tc) (CT h h' f g e):=by
 intro γ M x M' d W H j Q G R k;obtain⟨⟨y,M1⟩,L,d⟩:=aI d;obtain⟨⟨z,M2⟩,N,d⟩:=aI d;obtain⟨⟨w,M3⟩,O,d⟩:=aI d;obtain⟨q,P,d⟩:=aI d;refine a _ _ _ _ L W H j _ G R fun v S T n U V=>?_;refine b _ _ _ _ N S T j _ U (R.up n) fun u X H2 s G2 A=>?_;refine p _ _ _ _ _ O X H2 v u _ G2 (V.up s) A fun t B C D E r3=>?_;have hy:w=_:=xR P;subst hy;refine⟨q,r3,?_⟩;have i:=(n.trans s).trans D;cases q with
 |true=>
  rw[A7 rfl];rw[A7 rfl]at d;obtain⟨⟨m,M4⟩,h5,d⟩:=aI d;refine c _ _ _ _ h5 B C j _ E (R.up i) fun o W4 H4 I G4 r4=>?_;exact J _ _ _ _ _ d W4 H4 u o Q G4 (A.up<|D.trans I) r4 fun w W5 H5 e5 G5 r5=>k w W5 H5 ((i.trans I).trans e5) G5 r5
 |false=>
  rw[B0 A6];rw[B0 A6]at d;cases d;exact k _ B C i E rfl
def aEK(a:STt K tt ft)(b:STt K uu gt):STt K (aFd tt uu) (wZ ft gt):=by
 intro γ M x M' d W H i Q G R k;obtain⟨⟨c,M1⟩,n,d⟩:=aI d;refine a _ _ _ _ n W H i _ G R fun j l h m=>?_;cases c with
 |true=>rw[A7 rfl];rw[A7 rfl]at d;exact b _ _ _ _ d j l i Q m (R.up h) fun o p q r=>k o p (h.trans q) r
 |false=>rw[B0 A6];rw[B0 A6]at d;cases d;exact k j l h m
def aFz(a:STt K tt ft)(b:STt K uu gt):STt K (tOr tt uu) (gOr ft gt):=by
 intro γ M x M' d W H i Q G R k;obtain⟨⟨c,M1⟩,n,d⟩:=aI d;refine a _ _ _ _ n W H i _ G R fun j l h m=>?_;cases c with
 |true=>rw[A7 rfl];rw[A7 rfl]at d;cases d;exact k j l h m
 |false=>rw[B0 A6];rw[B0 A6]at d;exact b _ _ _ _ d j l i Q m (R.up h) fun o p q r=>k o p (h.trans q) r
def aDU(a:STt K tt ft):STt K (aGH tt) (nP ft):=by
 intro γ M x M' b W H d Q G R k;obtain⟨⟨c,M1⟩,h,b⟩:=aI b;cases b;exact a _ _ _ _ h W H d _ G R fun i j l m=>k i j l m
def aBX(a:SE K ta f):STt K (tB ta) (gB f):=by
 intro γ M x M' b W H d Q G R k;obtain⟨⟨y,M1⟩,h,b⟩:=aI b;obtain⟨c,i,b⟩:=aI b;refine a _ _ _ _ h W H d _ G R fun v j l m n o=>?_;have p:y=_:=xR i;subst p;cases b;exact⟨_,o,k j l m n⟩
def XX(a:SE K ta f):STt K (aBr ta) (gB f):=aBX a
def OX:SA K ER aG:=by
 intro γ M x M' a W H b Q G R k;cases a;exact k [] W H (.refl _) G .nil
def YY(a:SE K ta f)(b:SA K tA fa):SA K (qG ta tA) (aB f fa):=by
 intro γ M x M' c W H d Q G R k;obtain⟨⟨y,M1⟩,j,c⟩:=aI c;obtain⟨⟨t,M2⟩,l,c⟩:=aI c;cases c;refine a _ _ _ _ j W H d _ G R fun v m n h o p=>?_;exact b _ _ _ _ l m n d _ o (R.up h) fun vs q r i G2 s=>k _ q r (h.trans i) G2 (.cons (p.up i) s)
def aDp(b:SA K tA fa):SE K (SR tA) (aY fa):=by
 intro γ M x M' a W H i Q G R k;obtain⟨⟨t,M1⟩,j,a⟩:=aI a;obtain⟨l,m,a⟩:=aI a;by_cases c:l.length<=sizeLine
 .rw[A7 c]at a;cases a;refine b _ _ _ _ j W H i _ G R fun vs u v n q r=>?_;have d:=dR m r;refine⟨by rw[<- d.length];exact c,fun p s=>?_⟩;obtain⟨h,G2⟩:=q.lay (o:=.tup vs) s;exact k _ _ _ (n.trans h) G2 ⟨p,vs,rfl,SqT.of aS,aK.same h.ff _ _ d⟩
 .rw[B0 c]at a;cases a
def aBS(b:SA K tA fa):SE K (aCb tA) (cA fa):=by
 intro γ M x M' a W H i Q G R k;obtain⟨⟨t,M1⟩,j,a⟩:=aI a;obtain⟨l,m,a⟩:=aI a;by_cases c:l.length<=sizeLine
 .rw[A7 c]at a;cases a;refine b _ _ _ _ j W H i _ G R fun vs u v n q r=>?_;have d:=dR m r;refine⟨by rw[<- d.length];exact c,fun p s=>?_⟩;obtain⟨h,G2⟩:=q.lay (o:=.lst vs) s;exact k _ _ _ (n.trans h) G2 ⟨p,vs,rfl,SqL.of aS,aK.same h.ff _ _ d⟩
 .rw[B0 c]at a;cases a
def Good.newV(g:Good K W M H){p:Ub}:cR K (W.more p) (.c M.length) (.ref p):=by
 refine⟨?_,?_⟩
 .show M.length<W.n+1;rw[g.n];exact J3 _
 .show V.ref p=.ref (if M.length=W.n then p else W.α M.length);rw[A7 g.n.symm]
def aED(b:SA K tA fa):SE K (aCb tA) (rB fa):=by
 intro γ M x M' a W H l Q G R k;obtain⟨⟨d,M1⟩,m,a⟩:=aI a;by_cases h:d.length<=sizeLine
 .have a:(if d.length<=sizeLine then Z (CD.c M1.length,M1++[Cell.lst d])else Y)=Z (x,M'):=a;rw[A7 h]at a;cases a;refine b _ _ _ _ m W H l _ G R fun vs n s q i j=>?_;refine⟨by rw[<- Paired.len j];exact h,fun p r=>?_⟩;exact k _ _ _ (q.trans<|n.ext_more p) (i.new r (c:=.lst d) (o:=.lst vs) j) i.newV
 .have a:(if d.length<=sizeLine then Z (CD.c M1.length,M1++[Cell.lst d])else Y)=Z (x,M'):=a;rw[B0 h]at a;cases a
def KL{h:FN}(b:SA K tA fa):SE K (EI (spM K h) [] E0 tA) (aL h fa):=by
 intro γ M x M' a W H c Q G R k;obtain⟨⟨d,M1⟩,i,a⟩:=aI a;refine b _ _ _ _ i W H c _ G R fun vs j s l m n=>?_;rw[D7];exact⟨d,M1,j,x,M',m,n,a,fun v o p q G2 r=>k v o p (l.trans q) G2 r⟩
def aBy{r:Td->Hp->VK->Prop}{h:FN}(p:PN K r h)(b:SA K tA fa):SE K (tCB r tA) (aL h fa):=by
 intro γ M x M' a W H c Q G R k;obtain⟨⟨u,M1⟩,d,a⟩:=aI a;refine b _ _ _ _ d W H c _ G R fun vs i j l m n=>?_;exact p _ _ _ _ a i j vs Q m n fun v o q s G2 t=>k v o q (l.trans s) G2 t
end
section
variable{K:Fg}{ta tb tc:TE}{f g e:EF}{tt uu:TT}{ft gt:TF}{tA:TA}{fa:AF}{t u:TS}{p q:SF}{tg:TG}{hg:GF}{tgs:TGs}{hgs:GsF}
def WO:SS K aBk cH:=by
 intro γ M o M' a W H b D G R k;cases a;exact k W H (.refl _) G b R
def aEj(a:SS K t p)(b:SS K u q):SS K (aCz t u) (bA p q):=by
 intro γ M o M' c W H n D G R k;obtain⟨⟨r,M1⟩,s,c⟩:=aI c;refine a _ _ _ _ s W H n _ G R fun h i j l=>?_;cases r with
 |nx d=>
  intro m v;exact b _ _ _ _ c h i m D l v fun w y z G2=>k w y (j.trans z) G2
 |bk d=>cases c;exact k h i j l
 |ct d=>cases c;exact k h i j l
 |rt x=>cases c;exact k h i j l
def XA(a:SE K ta f):SS K (TB ta) (oR f):=by
 intro γ M o M' b W H c D G R k;obtain⟨⟨y,M1⟩,h,b⟩:=aI b;cases b;exact a _ _ _ _ h W H c _ G R fun v i j d l m=>k i j d l c<|R.up d
def aBT(a:SE K ta f):SS K (aFX ta) (cV f):=by
 intro γ M o M' b W H c D G R k;obtain⟨⟨y,M1⟩,d,b⟩:=aI b;cases b;exact a _ _ _ _ d W H c _ G R fun v h i j l m=>k h i j l v m
def aFt(c:STt K tt ft)(a:SS K t p)(b:SS K u q):SS K (aEL tt t u) (sIf ft p q):=by
 intro γ M o M' d W H i D G R k;obtain⟨⟨w,M1⟩,x,d⟩:=aI d;refine c _ _ _ _ x W H i _ G R fun r s h v=>?_;cases w with
 |true=>rw[A7 rfl];rw[A7 rfl]at d;exact a _ _ _ _ d r s i D v (R.up h) fun j l m n=>k j l (h.trans m) n
 |false=>rw[B0 A6];rw[B0 A6]at d;exact b _ _ _ _ d r s i D v (R.up h) fun j l m n=>k j l (h.trans m) n
def HW(a:SE K ta f)(b:SG K tg hg):SS K (XT ta tg) (bG f hg):=by
 intro γ M o M' c W H h D G R k;obtain⟨⟨y,M1⟩,j,c⟩:=aI c;obtain⟨⟨l,M2⟩,m,c⟩:=aI c;cases c;refine a _ _ _ _ j W H h _ G R fun v n r i s w=>?_;exact b _ _ _ _ _ m n r h v _ s (R.up i) w fun d x z A G2 R2=>k x z (i.trans A) G2 d R2
def cM.set{a:St}{x:CD}{v:V}(R:cM K W γ a)(i:Nat)(r:cR K W x v):cM K W (γ.set i<|Z x) (a.set i<|Z v):=Paired.set (R:=EV K W) (show EV K W (Z x) (Z v)from r) i R
def CF{i:Nat}:SG K (DN i) (hName i):=by
 intro x γ M a M' b W H c v Q G R r k;cases b;exact k _ W H (.refl _) G<|cM.set R i r
def ZZ:SGs K aFD lJ:=by
 intro xs γ M b M' a W H c vs Q G R r k;cases r with
 |nil=>cases a;exact⟨rfl,k c W H (.refl _) G R⟩
 |cons _ _=>cases a
def QR(a:SG K tg hg)(b:SGs K tgs hgs):SGs K (aBs tg tgs) (bT hg hgs):=by
 intro xs γ M j M' c W H l vs Q G R r k;cases r with
 |nil=>cases c
 |@cons x v xs vs m n=>
  obtain⟨⟨o,M1⟩,s,c⟩:=aI (show(hg x γ M).bind _=_ from c);refine⟨v,vs,rfl,a _ _ _ _ _ s W H l v _ G R m fun d w y i z A=>?_⟩;exact b _ _ _ _ _ c w y d vs _ z A (bY.up n i) fun h B C D G2 R2=>k h B C (i.trans D) G2 R2
def aCF{n:Nat}(b:SGs K tgs hgs):SG K (aEa K n tgs) (lE n hgs):=by
 intro x γ M j M' h W H s v Q G R r k;cases x with
 |c _=>cases h
 |f _=>cases h
 |g _=>cases h
 |t xs=>
  have h:(if xs.length=n then hgs (xs.map cdA) γ M else Y)=Z (j,M'):=h;by_cases i:xs.length=n
  .rw[A7 i]at h;obtain⟨a,vs,rfl,o,l⟩:=r;have w:=ZV l;exact⟨a,vs,rfl,SqT.of<|G.fh _ _ o,by rw[<- i];simpa using(Paired.len l).symm,b _ _ _ _ _ h W H s vs Q G R w k⟩
  .rw[B0 i]at h;cases h
 |d x=>
  cases x with
  |tuple m=>
   have h:(if m.length=n then hgs (m.map .d) γ M else Y)=Z (j,M'):=h;by_cases i:m.length=n
   .rw[A7 i]at h;obtain⟨a,vs,rfl,o,l⟩:=(show ∃a vs,v=.ref a/\SqT K W.F a vs/\aK K W.F m vs from r);exact⟨a,vs,rfl,G.fh.seqT o,by rw[<- l.length];exact i,b _ _ _ _ _ h W H s vs Q G R (gF l) k⟩
   .rw[B0 i]at h;cases h
  |_=>cases h
def aCA{i j:Nat}(b:SA K tA fa):SS K (aFu i j tA) (VO i j fa):=by
 intro γ M o M' a W H d D G R k;obtain⟨⟨v,M1⟩,h,a⟩:=aI a;refine b _ _ _ _ h W H d _ G R fun vs l m c n r=>?_;rcases r with _|⟨s,_|⟨a2,_|_⟩⟩
 .cases a
 .cases a
 .cases a;exact⟨_,_,rfl,k l m c n _<|cM.set (cM.set (R.up c) i s) j a2⟩
 .cases a
def GU(K:Fg)(J:It)(xs:T5)(W:Wd):Prop:=∀W' M' H',W.Ext W'->Good K W' M' H'->
 (∀i x,xs[i]?=Z x->J.go i H'/\∀y b,J.yld i H' y b->∃a,W'.Ext a/\Good K a M' b/\cR K a x y)/\J.stop xs.length H'
def SI(K:Fg)(b:TI)(f:AF):Prop:=∀γ M xs M',f γ M=Z (xs,M')->∀(W:Wd)(H:Hp)(a:St)(R:It->Hp->Prop),Good K W M H->cM K W γ a->(∀J W' H',W.Ext W'->Good K W' M' H'->GU K J xs W'->R J H')->b a H R
def dP(f:EF):AF:=fun γ M=>(f γ M).bind fun r=>match r.1 with
 |.d x=>(bI x).bind fun a=>Z (a.map .d,r.2)
 |_=>Y
def aCH(a:SE K ta f):SI K (aBV K ta) (dP f):=by
 intro γ M xs M' h W H J R G Rs k;obtain⟨⟨y,M1⟩,L,h⟩:=aI h;cases y with
 |c _=>cases h
 |t _=>cases h
 |f _=>cases h
 |g _=>cases h
 |d y=>
  obtain⟨C,N,h⟩:=aI (show(bI y).bind _=_ from h);cases h;refine a _ _ _ _ L W H J _ G Rs fun v w D E z O=>?_;obtain⟨p,vs,rfl,hs,I⟩:=pW (show Rep K w.F y v from O) N;refine⟨p,rfl,?_⟩
  have item:∀(i:Nat)(x:CD)(j:Wd),w.Ext j->(C.map CD.d)[i]?=Z x->∃u,vs[i]?=Z u/\cR K j x u:=fun i x j m o=>by
   obtain⟨u,n,r⟩:=Paired.get (gF I) o;exact⟨u,n,r.up m⟩
  have l:(C.map CD.d).length=vs.length:=by rw[A3];exact I.length
  rcases hs with hs|hs
  .refine .inl ⟨vs,z.fh.seq hs,k _ w D E z fun j M2 A m G2=>?_⟩;have b:SqL K A p vs:=G2.fh.seq<|m.ff.seq hs;refine⟨fun i x o=>?_,?_⟩
   .obtain⟨u,n,r⟩:=item i x j m o;refine⟨⟨vs,u,b,n⟩,fun P B s=>⟨j,.refl _,by rw[s.1];exact G2,?_⟩⟩;have:=s.2 vs b;rw[n]at this;cases this;exact r
   .rw[l];exact⟨vs,b,A9 _⟩
  .refine .inr ⟨vs,z.fh.seqT hs,k _ w D E z fun j M2 A m G2=>?_⟩;have b:SqT K A p vs:=G2.fh.seqT<|m.ff.seqT hs;refine⟨fun i x o=>?_,?_⟩
   .obtain⟨u,n,r⟩:=item i x j m o;refine⟨⟨vs,u,b,n⟩,fun P B s=>⟨j,.refl _,by rw[s.1];exact G2,?_⟩⟩;have:=s.2 vs b;rw[n]at this;cases this;exact r
   .rw[l];exact⟨vs,b,A9 _⟩
noncomputable def fG(lo:Int)(n:Nat):T5:=(List.range n).map fun i=>.d (.int (lo+(i:Nat)))
def EM{lo:Int}{n i:Nat}{x:CD}(h:(fG lo n)[i]?=Z x):i<n/\x=.d (.int (lo+i)):=by
 unfold fG at h;rw[C0]at h;by_cases hi:i<n
 .rw[List.getElem?_range hi]at h;exact⟨hi,(C5 h).symm⟩
 .rw[List.getElem?_eq_none_iff.mpr (by simpa using hi)]at h;cases h
noncomputable def dG(i:Int):Bool:=decide (-(2 ^ 62)<=i)&&decide (i<2 ^ 62)
def jP(f:AF):AF:=fun γ M=>(f γ M).bind fun r=>match r.1 with
 |[.d (.int j)]=>if dG j=true then Z (fG 0 j.toNat,r.2)else Y
 |_=>Y
def oF(f:AF):AF:=fun γ M=>(f γ M).bind fun r=>match r.1 with
 |[.d (.int i),.d (.int j)]=>if dG i=true/\dG j=true then Z (fG i (j-i).toNat,r.2)else Y
 |_=>Y
def zW{lo:Int}{n:Nat}:GU K (Itr lo n) (fG lo n) W:=fun W' M' H' e G=>
 ⟨fun i x a=>⟨(EM a).1,fun y c b=>⟨W',.refl _,by rw[b.1];exact G,by rw[(EM a).2];exact b.2⟩⟩,by show n<=_;simp[fG]⟩
def eR{i:Int}(h:dG i=true):-(2 ^ 62)<=i/\i<2 ^ 62:=by
 unfold dG at h;rw[B8]at h;exact⟨C9 h.1,C9 h.2⟩
def XF(b:SA K tA fa):SI K (aBa tA) (jP fa):=by
 intro γ M xs M' a W H c R G Rs k;obtain⟨⟨s,M1⟩,d,a⟩:=aI a;refine b _ _ _ _ d W H c _ G Rs fun vs h i l m n=>?_;revert a;dsimp only;split
 .rename_i j;intro a;by_cases hs:dG j=true
  .rw[A7 hs]at a;cases a;cases n with
   |cons r o=>
    cases o;exact⟨j,by rw[show _=V.int j from r],(eR hs).1,(eR hs).2,k _ h i l m zW⟩
  .rw[B0 hs]at a;cases a
 .intro a;cases a
def aAA(b:SA K tA fa):SI K (aBp tA) (oF fa):=by
 intro γ M xs M' a W H d R G Rs k;obtain⟨⟨x,M1⟩,h,a⟩:=aI a;refine b _ _ _ _ h W H d _ G Rs fun vs l m n o s=>?_;revert a;dsimp only;split
 .rename_i i j;intro a;by_cases hs:dG i=true/\dG j=true
  .rw[A7 hs]at a;cases a;cases s with
   |cons r v=>
    cases v with
    |cons w c=>
     cases c;exact⟨i,j,by rw[show _=V.int i from r,show _=V.int j from w],⟨(eR hs.1).1,(eR hs.1).2,(eR hs.2).1,(eR hs.2).2⟩,k _ l m n o zW⟩
  .rw[B0 hs]at a;cases a
 .intro a;cases a
def aEN{U:TI}(i:SI K U fa)(a:SG K tg hg)(b:SS K t p):SS K (aGA U tg t) (vQ fa hg p):=by
 intro γ M o M' w W H σ D G R k;obtain⟨⟨xs,M1⟩,h1,w⟩:=aI w;have w:nO hg p xs γ M1=Z (o,M'):=w;refine i _ _ _ _ h1 W H σ _ G R fun J V H1 C G1 gv=>?_;refine⟨fun j m d H'=>∃h M2 s,j<=xs.length/\m=xs.length-j/\V.Ext s/\Good K s M2 H'/\cM K s h d/\nO hg p (xs.drop j) h M2=Z (o,M'),⟨_,γ,M1,V,L8 _,rfl,.refl _,G1,R.up C,w⟩,?_⟩;rintro j m d H' ⟨h,M2,s,hj,rfl,z,G2,R2,c⟩;obtain⟨O,P⟩:=gv s M2 H' z G2;by_cases v:j<xs.length
 .obtain⟨go,yl⟩:=O j xs[j]<|B2 v;rw[List.drop_eq_getElem_cons v]at c;refine .inr ⟨go,fun A E=>∃l I B,s.Ext B/\Good K B I E/\cM K B l A/\nO hg p (xs.drop (j+1)) l I=Z (o,M'),?_,fun y E hy=>?_⟩
  .rintro A E ⟨l,I,B,e3,G3,R3,h3⟩;exact⟨_,by omega,l,I,B,v,rfl,z.trans e3,G3,R3,h3⟩
  .obtain⟨W8,X,G8,ry⟩:=yl y E hy;obtain⟨⟨a0,M4⟩,h4,c⟩:=aI (show(hg xs[j] h M2).bind _=_ from c);obtain⟨⟨o5,M5⟩,h5,c⟩:=aI c;refine a _ _ _ _ _ h4 W8 _ d y _ G8 (R2.up X) ry fun Q W4 H4 e4 G4 R4=>?_;refine b _ _ _ _ h5 W4 H4 Q _ G4 R4 fun L H5 e5 N=>?_;have n:=(X.trans e4).trans e5;cases o5 with
   |nx r=>exact fun S T=>⟨r,M5,L,n,N,T,c⟩
   |ct r=>exact fun S T=>⟨r,M5,L,n,N,T,c⟩
   |bk r=>cases c;exact k L H5 ((C.trans z).trans n) N
   |rt x=>cases c;exact k L H5 ((C.trans z).trans n) N
 .have e:j=xs.length:=by omega
  subst e;rw[List.drop_length]at c;cases c;exact .inl ⟨P,k s H' (C.trans z) G2 d R2⟩
def SX(c:STt K tt ft)(b:SS K t p):SS K (QO tt t) (uF ft p):=by
 intro γ M o M' v W H σ D G R k;unfold uF at v;by_cases r:∃n,(gE ft p n γ M).isSome=true
 .rw[dif_pos r]at v;generalize r.choose=n at v;refine⟨fun m d H'=>∃h M2 w,W.Ext w/\Good K w M2 H'/\cM K w h d/\gE ft p m h M2=Z (o,M'),⟨n,γ,M,W,.refl _,G,R,v⟩,?_⟩;rintro m d H' ⟨h,M2,w,A,G2,R2,a⟩;cases m with
  |zero=>cases a
  |succ m=>
   obtain⟨⟨T,M3⟩,U,a⟩:=aI (show(ft h M2).bind _=_ from a);refine c _ _ _ _ U w H' d _ G2 R2 fun N O B P=>?_;cases T with
   |true=>
    rw[A7 rfl];rw[A7 rfl]at a;obtain⟨⟨V,s⟩,I,a⟩:=aI a;refine⟨fun y Q=>∃i s z,w.Ext z/\Good K z s Q/\cM K z i y/\gE ft p m i s=Z (o,M'),?_,?_⟩
    .rintro y Q ⟨i,s,z,X,G4,R4,I⟩;exact⟨m,J3 _,i,s,z,A.trans X,G4,R4,I⟩
    .refine b _ _ _ _ I N O d _ P (R2.up B) fun C S e5 E=>?_;have j:=B.trans e5;cases V with
     |nx l=>exact fun J L=>⟨l,s,C,j,E,L,a⟩
     |ct l=>exact fun J L=>⟨l,s,C,j,E,L,a⟩
     |bk l=>cases a;exact k C S (A.trans j) E
     |rt x=>cases a;exact k C S (A.trans j) E
   |false=>
    rw[B0 A6];rw[B0 A6]at a;cases a;exact k N O (A.trans B) P d<|R2.up B
 .rw[dif_neg r]at v;cases v
def kL{c:TF}{b:SF}:∀{n m:Nat}{γ:Ga}{M:Sto}{r:Out×Sto},gE c b n γ M=Z r->n<=m->gE c b m γ M=Z r
 |0,_,_,_,_=>fun h _=>by cases h
 |n+1,0,_,_,_=>fun _ h=>by omega
 |n+1,m+1,γ,M,r=>fun h k=>by
  obtain⟨⟨d,M1⟩,i,h⟩:=aI (show(c γ M).bind _=_ from h);show(c γ M).bind _=_;rw[i];show(if d=true then _ else _)=_;cases d with
  |false=>exact h
  |true=>
   rw[A7 rfl];rw[A7 rfl]at h;obtain⟨⟨o,M2⟩,j,h⟩:=aI h;rw[j];cases o with
   |nx a=>exact kL (n:=n) (m:=m) h (by omega)
   |ct a=>exact kL (n:=n) (m:=m) h (by omega)
   |bk a=>exact h
   |rt x=>exact h
def QF{c:TF}{b:SF}{n:Nat}{r:Out×Sto}(h:gE c b n γ M=Z r):uF c b γ M=Z r:=by
 unfold uF;have a:∃n,(gE c b n γ M).isSome=true:=⟨n,by rw[h];rfl⟩;rw[dif_pos a];have hs:=a.choose_spec;cases q:gE c b a.choose γ M with
 |none=>rw[q]at hs;cases hs
 |some d=>
  rcases Nat.le_total n a.choose with z|z
  .rw[kL h z]at q;exact q.symm▸rfl
  .rw[kL q z]at h;exact h
def CL{W:Wd}{γ:Ga}{a:St}(R:cM K W γ a):∀cap:T2,cM K W (sP cap γ) (vP cap a)
 |[]=>.nil
 |none::r=>.cons True.intro (CL R r)
 |some j::r=>by
  refine .cons ?_ (CL R r);show EV K W ((γ[j]?).join) ((a[j]?).join);cases e:γ[j]? with
  |none=>
   have:a[j]?=Y:=by
    have d:=Paired.len R;exact List.getElem?_eq_none_iff.mpr (by have:=List.getElem?_eq_none_iff.mp e;omega)
   rw[this];exact True.intro
  |some x=>
   obtain⟨y,b,c⟩:=Paired.get R e;rw[b];exact c
def CM{g:GF}{c:TF}{e:EF}:∀{xs:T5}{γ:Ga}{M:Sto}{ys:T5}{M':Sto},lcF g c e xs γ M=Z (ys,M')->ys.length<=xs.length
 |[],_,_,_,_=>fun h=>by cases h;exact L8 _
 |x::xs,γ,M,ys,M'=>fun h=>by
  obtain⟨⟨a,M1⟩,i,h⟩:=aI (show(g x γ M).bind _=_ from h);obtain⟨⟨b,M2⟩,j,h⟩:=aI h;cases b with
  |true=>
   rw[A7 rfl]at h;obtain⟨⟨y,k⟩,l,h⟩:=aI h;obtain⟨⟨m,n⟩,d,h⟩:=aI h;cases h;have:=CM d;simp only[List.length_cons];omega
  |false=>
   rw[B0 A6]at h;have:=CM h;simp only[List.length_cons];omega
def VW{wi:TI}{cap:T2}{te:TE}{L:EF}(i:SI K wi fa)(a:SG K tg hg)(c:STt K tt ft)(b:SE K te L){xs:T5}(B:uN cap fa hg ft L γ M=Z (xs,M'))
 {W:Wd} {H:Hp} {σ:St} {Q:VK} (G:Good K W M H) (R:cM K W γ σ) (k:∀vs W' H',W.Ext W'->Good K W' M' H'->bY K W' xs vs->∀p,H' p=Y->Q (.ref p) (upd H' p (.lst vs))):tLc cap wi tg tt te σ H Q:=by
 obtain⟨⟨n,M1⟩,h1,B⟩:=aI B;have B:(if n.length<=sizeLine then lcF hg ft L n (sP cap γ) M1 else Y)=Z (xs,M'):=B;by_cases hl:n.length<=sizeLine
 .rw[A7 hl]at B;refine i _ _ _ _ h1 W H σ _ G R fun J W1 H1 e1 G1 gv=>?_
  refine⟨fun j m r D H'=>∃s M2 C pre w,j<=n.length/\m=n.length-j/\r.length<=j/\W1.Ext C/\Good K C M2 H'/\cM K C s D/\bY K C pre r/\pre++w=xs/\lcF hg ft L (n.drop j) s M2=Z (w,M'),
   ⟨_,sP cap γ,M1,W1,[],xs,L8 _,rfl,L8 _,.refl _,G1,CL (R.up e1) cap,.nil,rfl,B⟩,?_⟩
  rintro j m r D H' ⟨s,M2,C,pre,w,hj,rfl,a9,e2,G2,R2,rp,S,d⟩;obtain⟨a0,a1⟩:=gv C M2 H' e2 G2;by_cases E:j<n.length
  .obtain⟨go,yl⟩:=a0 j n[j]<|B2 E;rw[List.drop_eq_getElem_cons E]at d;refine .inr ⟨go,by omega,fun o N T=>∃x U I h l,o.length<=j+1/\C.Ext I/\Good K I U T/\cM K I x N/\bY K I h o/\h++l=xs/\lcF hg ft L (n.drop (j+1)) x U=Z (l,M'),?_,fun y T hy=>?_⟩
   .rintro o N T ⟨x,U,I,h,l,a6,e3,G3,R3,a7,a8,h3⟩;exact⟨_,by omega,x,U,I,h,l,E,rfl,a6,e2.trans e3,G3,R3,a7,a8,h3⟩
   .obtain⟨W8,e8,G8,ry⟩:=yl y T hy;obtain⟨⟨O,M4⟩,h4,d⟩:=aI (show(hg n[j] s M2).bind _=_ from d);obtain⟨⟨b5,M5⟩,h5,d⟩:=aI d;refine a _ _ _ _ _ h4 W8 _ D y _ G8 (R2.up e8) ry fun P W4 H4 e4 G4 V=>?_;refine c _ _ _ _ h5 W4 H4 P _ G4 V fun W5 H5 X G5=>?_;have A:=(e8.trans e4).trans X;cases b5 with
    |true=>
     rw[A7 rfl]at d;obtain⟨⟨z,M6⟩,h6,d⟩:=aI d;obtain⟨⟨zs,M7⟩,h7,d⟩:=aI d;cases d;refine .inl ⟨rfl,b _ _ _ _ h6 W5 H5 P _ G5 (V.up X) fun v W6 H6 e6 G6 r6=>?_⟩;refine⟨O,M6,W6,pre++[z],zs,by rw[B1];simp only[List.length_singleton];omega,A.trans e6,G6,V.up<|X.trans e6,Paired.app (bY.up rp<|A.trans e6) (.cons r6 .nil),by rw[<- S,L3];rfl,h7⟩
    |false=>
     rw[B0 A6]at d;exact .inr ⟨rfl,O,M5,W5,pre,w,by omega,A,G5,V.up X,bY.up rp A,S,d⟩
  .have e:j=n.length:=by omega
   subst e;rw[List.drop_length]at d;cases d;rw[D7]at S;subst S;exact .inl ⟨a1,k r C H' (e1.trans e2) G2 rp⟩
 .rw[B0 hl]at B;cases B
def NC{cap:T2}{fa:AF}{hg:GF}{ft:TF}{d:EF}{xs:T5}(a:uN cap fa hg ft d γ M=Z (xs,M')):xs.length<=sizeLine:=by
 obtain⟨⟨b,M1⟩,h,a⟩:=aI a;have a:(if b.length<=sizeLine then lcF hg ft d b (sP cap γ) M1 else Y)=Z (xs,M'):=a;by_cases c:b.length<=sizeLine
 .rw[A7 c]at a;exact D9 (CM a) c
 .rw[B0 c]at a;cases a
def aAU{h:TI}{cap:T2}{j:TE}{l:EF}(i:SI K h fa)(a:SG K tg hg)(c:STt K tt ft)(b:SE K j l):SE K (tLc cap h tg tt j) (fLc cap fa hg ft l):=by
 intro γ M x M' d W H B Q G R k;obtain⟨⟨C,M1⟩,r,d⟩:=aI d;obtain⟨s,v,d⟩:=aI d;by_cases m:s.length<=sizeLine
 .rw[A7 m]at d;cases d;refine VW i a c b r G R fun vs D E w y z p A=>?_;obtain⟨n,G2⟩:=y.lay (o:=.lst vs) A;exact k _ _ _ (w.trans n) G2 ⟨p,vs,rfl,SqL.of aS,aK.same n.ff _ _<|dR v z⟩
 .rw[B0 m]at d;cases d
def aDY{j:TI}{cap:T2}{l:TE}{m:EF}(i:SI K j fa)(a:SG K tg hg)(c:STt K tt ft)(b:SE K l m):SE K (tLc cap j tg tt l) (MB cap fa hg ft m):=by
 intro γ M x M' d W H z Q G R k;obtain⟨⟨h,M1⟩,n,d⟩:=aI d;have d:(if h.length<=sizeLine then Z (CD.c M1.length,M1++[Cell.lst h])else Y)=Z (x,M'):=d;rw[A7 (NC n)]at d;cases d;refine VW i a c b n G R fun vs s A v r w p y=>?_;exact k _ _ _ (v.trans<|s.ext_more p) (r.new y (c:=.lst h) (o:=.lst vs) w) r.newV
def aDR:STt K aFw fW:=by
 intro γ M x M' a W H b Q G R k;cases a;exact k W H (.refl _) G
def bY.some{W:Wd}:∀{xs:T5}{vs:Td},bY K W xs vs->cM K W (xs.map Z) (vs.map Z)
 |_,_,.nil=>.nil
 |_,_,.cons r t=>.cons r (bY.some t)
def pN{W:Wd}:∀n:Nat,cM K W (List.replicate n Y) (List.replicate n Y)
 |0=>.nil
 |n+1=>.cons True.intro (pN n)
def Def.okM{P:Ud}{w:World}{mg:Str->Tf}{base:Heap}{x:Str}{st:Stmt}{N ps:Tc}{k:Nat}{b:SF}{q:Bool}(D:Def K mg x st)(S:aX N ps (aJ st))
 (n:∀(kV doc pm:Tx)(an:Th)(cdv ct:Tx)(us:T4),us.length=ps.length->bindArgs (PySem.W.fnOf x x (eG st) (bU st) (aJ st) .none kV doc pm an cdv ct) ⟨us,[]⟩=pure (ps.zip us))
 (c:∀(f:Ub)(cdv:Tx)(A:Ue)(outer:Tv Env)(s:Ua)(H:Hp)(E:XK),cL k (A.deeper<|envOfC x (aJ st) s.heap.objs.size f cdv) q->
  ∃t,PSs (lB CX0 P w K mg base N x (aJ st) f cdv A outer s H E q).nox (bU st) t/\SS K t b):Callee P w K mg base (k+1) x ps (spM K (fnF ps.length N.length b)) q:=by
 have len:∀vs H Q E,spM K (fnF ps.length N.length b) vs H Q E->vs.length=ps.length:=fun vs H Q E h=>by
  obtain⟨xs,M,W,y,M',G,R,a,_⟩:=h;by_cases d:xs.length=ps.length
  .rw[<- Paired.len R];exact d
  .unfold fnF at a;rw[B0 d]at a;cases a
 refine D.ok S n len fun f cdv A outer s H vs Q E z h=>?_;obtain⟨t,B,hS⟩:=c f cdv A outer s H E z;refine⟨t,B,?_⟩;obtain⟨xs,M,W,y,M',G,R,a,k⟩:=h;by_cases d:xs.length=ps.length
 .unfold fnF at a;rw[A7 d]at a;obtain⟨⟨o,M1⟩,C,a⟩:=aI a
  have I:cM K W (xs.map Z++List.replicate (N.length-xs.length) Y) (start N vs):=by
   unfold start;rw[<- Paired.len R];exact Paired.app (bY.some R)<|pN _
  refine hS _ _ _ _ C W H _ _ G I fun i j l m=>?_;cases o with
  |rt x=>cases a;exact fun v r=>k v i j l m r
  |nx γ=>cases a;exact fun J r=>k .non i j l m rfl
  |bk γ=>cases a
  |ct γ=>cases a
 .unfold fnF at a;rw[B0 d]at a;cases a
end
def BW(h h':F2):F2:=fun x y M=>match h x y M with
 |some r=>Z r
 |none=>h' x y M
def pI(g:Int->Int->Tw Tz):F2:=fun x y M=>match x,y with
 |.d (.int i),.d (.int j)=>(g i j).bind fun z=>Z (.d z,M)
 |_,_=>Y
def RG{g:Int->Int->Tw Tz}{x y:CD}{z:CD}(h:pI g x y M=Z (z,M')):∃i j w,x=.d (.int i)/\y=.d (.int j)/\g i j=Z w/\z=.d w/\M'=M:=by
 unfold pI at h;split at h
 .rename_i i j;obtain⟨w,a,h⟩:=aI h;cases h;exact⟨i,j,w,rfl,rfl,a,rfl,rfl⟩
 .cases h
section
variable{X:Cx}{K:Fg}
def aBK{g:Int->Int->Int}:P2 K (rI0 fun i j=>.int (g i j)) (pI fun i j=>Z (.int (g i j))):=by
 intro x y M z M' h W H v u Q G a b k;obtain⟨i,j,w,rfl,rfl,c,rfl,rfl⟩:=RG h;cases c;exact⟨i,j,a,b,k _ W H (.refl _) G rfl⟩
def KR{g:Int->Int->Bool}:P2 K (rI0 fun i j=>.bl (g i j)) (pI fun i j=>Z (.bool (g i j))):=by
 intro x y M z M' h W H v u Q G a b k;obtain⟨i,j,w,rfl,rfl,c,rfl,rfl⟩:=RG h;cases c;exact⟨i,j,a,b,k _ W H (.refl _) G rfl⟩
def ifS(c:Bool)(x:Tz):Tw Tz:=if c=true then Z x else Y
def aES{c:Bool}{x y:Tz}(h:ifS c x=Z y):c=true/\y=x:=by
 unfold ifS at h;cases c with
 |true=>rw[A7 rfl]at h;cases h;exact⟨rfl,rfl⟩
 |false=>rw[B0 A6]at h;cases h
def ZI{C:Int->Int->Prop}{c:Int->Int->Bool}{g:Int->Int->Int}(a:∀i j,c i j=true->C i j):P2 K (rI C fun i j=>.int (g i j)) (pI fun i j=>ifS (c i j) (.int (g i j))):=by
 intro x y M z M' h W H v u Q G b d k;obtain⟨i,j,w,rfl,rfl,e,rfl,rfl⟩:=RG h;obtain⟨f,rfl⟩:=aES e;exact⟨i,j,b,d,a i j f,k _ W H (.refl _) G rfl⟩
def aGF:F2:=pI fun i j=>Z (.int (i+j))
def fH:F2:=pI fun i j=>Z (.int (i-j))
def sM(i j:Int):Bool:=decide (i.natAbs<2 ^ 64) || decide (j.natAbs<2 ^ 64) || (decide (i.natAbs<xV)&&decide (j.natAbs<xV))
def iW:F2:=pI fun i j=>ifS (sM i j) (.int (i*j))
def EG(_ j:Int):Bool:=decide (0<j)&&decide (j.natAbs<xV)
def cP:F2:=pI fun i j=>ifS (EG i j) (.int (i / j))
noncomputable def BB(_ j:Int):Bool:=decide (0<j)
def bV:F2:=pI fun i j=>ifS (BB i j) (.int (i % j))
noncomputable def aBJ(i j:Int):Bool:=decide (0<=j)&&decide (j<=1000000)&&decide (i.natAbs<2 ^ 64)
def BO:F2:=pI fun i j=>ifS (aBJ i j) (.int (i ^ j.toNat))
def mulOk_of{i j:Int}(h:sM i j=true):FP i j:=by
 unfold sM at h;simp only[Bool.or_eq_true,Bool.and_eq_true,decide_eq_true_eq]at h;rcases h with(h|h)|h
 .exact .inl (.inl ⟨by omega,by omega⟩)
 .exact .inl (.inr ⟨by omega,by omega⟩)
 .exact .inr h
def ltI:F2:=pI fun i j=>Z (.bool (decide (i<j)))
def leI:F2:=pI fun i j=>Z (.bool (decide (i<=j)))
def gtI:F2:=pI fun i j=>Z (.bool (decide (j<i)))
def geI:F2:=pI fun i j=>Z (.bool (decide (j<=i)))
def eqD(neg:Bool):F2:=fun x y M=>match x,y with
 |.d a,.d b=>if (SeqAt.shaped a&&SeqAt.shaped b)=true then Z (.d (.bool (if neg then !PyData.eqv a b else PyData.eqv a b)),M)else Y
 |_,_=>Y
def aBj{neg:Bool}:P2 K (SV K neg) (eqD neg):=by
 intro x y M z M' h W H v u Q G c d k;unfold eqD at h;split at h
 .rename_i a b;by_cases hs:(SeqAt.shaped a&&SeqAt.shaped b)=true
  .rw[A7 hs]at h;cases h;rw[B8]at hs;exact⟨a,b,Rep.same G.fh _ _ c,Rep.same G.fh _ _ d,hs.1,hs.2,k _ W H (.refl _) G rfl⟩
  .rw[B0 hs]at h;cases h
 .cases h
def aK.nth{ds:T3}{vs:Td}{i:Nat}{d:Tz}(h:aK K H ds vs)(e:ds[i]?=Z d):∃v,vs[i]?=Z v/\Rep K H d v:=by
 have b:i<vs.length:=by rw[<- h.length];exact(List.getElem?_eq_some_iff.mp e).1
 have c:vs[i]?=Z vs[i]:=B2 b;obtain⟨f,a,r⟩:=h.get c;rw[e]at a;cases a;exact⟨_,c,r⟩
def HM{a:Type}{xs:Tv a}{i:Int}{x:a}(h:atI xs i=Z x):∃j,ixN xs.length i=Z j/\xs[j]?=Z x:=by
 unfold atI at h;exact aI h
def CS{a:Type}{xs:Tv a}{i:Int}{j:Nat}{x:a}(h:ixN xs.length i=Z j)(e:xs[j]?=Z x):atI xs i=Z x:=by
 unfold atI;rw[h];exact e
def ixF:F2:=fun x y M=>match x,y with
 |.d a,.d (.int n)=>(bI a).bind fun b=>(atI b n).bind fun e=>Z (.d e,M)
 |.c i,.d (.int n)=>match M[i]? with
  |some (.lst xs)=>(atI xs n).bind fun e=>Z (e,M)
  |_=>Y
 |.t xs,.d (.int n)=>(atI xs n).bind fun e=>Z (cdA e,M)
 |_,_=>Y
def Good.lstAt{i:Nat}{xs:T5}(G:Good K W M H)(h:M[i]?=Z (.lst xs)):∃vs,H (W.α i)=Z (.lst vs)/\bY K W xs vs:=by
 obtain⟨_,o,b,a⟩:=G.cs i _ h (by intro z;cases z);cases o with
 |lst vs=>exact⟨vs,b,a⟩
 |_=>exact False.elim a
def aGK:P2 K (rIx K) ixF:=by
 intro x y M z M' h W H v u Q G B C k;unfold ixF at h;split at h
 .rename_i a n;obtain⟨P,E,h⟩:=aI h;obtain⟨e,s,h⟩:=aI h;cases h;obtain⟨p,vs,rfl,R,d⟩:=pW (Rep.same G.fh _ _ B) E;obtain⟨j,q,g⟩:=HM s;obtain⟨w,t,J⟩:=d.nth g;have A:=d.length;have b:atI vs n=Z w:=CS (by rw[<- A];exact q) t;obtain⟨S,c,L,hq',l⟩:=pW (show Rep K W.F a (.ref p)from B) E;cases L
  have same:∀m,c[j]?=Z m->Rep K W.F e m:=fun m o=>by
   obtain⟨T,I,N⟩:=l.nth g;rw[o]at I;cases I;exact N
  obtain⟨m,o,r⟩:=l.nth g;have f:atI c n=Z m:=CS (by rw[<- l.length];exact q) o;rcases hq' with hq'|hq'
  .exact .inl ⟨p,c,n,m,rfl,C,G.fh.seq hq',f,k _ W H (.refl _) G r⟩
  .exact .inr (.inl ⟨p,c,n,m,rfl,C,G.fh.seqT hq',f,k _ W H (.refl _) G r⟩)
 .rename_i i n;split at h
  .rename_i xs O;obtain⟨e,s,h⟩:=aI h;cases h;obtain⟨vs,D,d⟩:=G.lstAt O;obtain⟨j,q,g⟩:=HM s;obtain⟨w,t,r⟩:=Paired.get d g;have b:atI vs n=Z w:=CS (by rw[<- Paired.len d];exact q) t;rw[show v=.ref (W.α i)from B.2];exact .inl ⟨_,vs,n,w,rfl,C,SqL.of D,b,k _ W H (.refl _) G r⟩
  .cases h
 .rename_i xs n;obtain⟨e,s,h⟩:=aI h;cases h;obtain⟨a,vs,rfl,D,d⟩:=B;obtain⟨j,q,g⟩:=HM s;obtain⟨w,t,r⟩:=Paired.get d g;have b:atI vs n=Z w:=CS (by rw[<- Paired.len d];exact q) t;exact .inr (.inl ⟨_,vs,n,w,rfl,C,SqT.of<|G.fh _ _ D,b,k _ W H (.refl _) G (by cases e<;>exact r)⟩)
 .cases h
def jS:FN:=fun xs M=>match xs with
 |[.d a]=>(bI a).bind fun b=>Z (.d (.int b.length),M)
 |[.c i]=>match M[i]? with
  |some (.lst e)=>Z (.d (.int e.length),M)
  |_=>Y
 |[.t xs]=>Z (.d (.int xs.length),M)
 |_=>Y
def aDs:PN K (fun xs H Q=>∃p ys,xs=[.ref p]/\(SqL K H p ys\/SqT K H p ys)/\Q (.int ys.length) H) jS:=by
 intro xs M z M' h W H vs Q G r k;unfold jS at h;split at h
 .rename_i a;obtain⟨j,e,h⟩:=aI h;cases h;rcases r with _|⟨b,_|_⟩;obtain⟨p,us,rfl,f,c⟩:=pW (Rep.same G.fh _ _ b) e;refine⟨p,us,rfl,f,?_⟩;rw[<- c.length];exact k _ W H (.refl _) G rfl
 .rename_i i;split at h
  .rename_i ys g;cases h;rcases r with _|⟨b,_|_⟩;obtain⟨us,d,c⟩:=G.lstAt g;rw[b.2];refine⟨_,us,rfl,.inl (SqL.of d),?_⟩;rw[<- Paired.len c];exact k _ W H (.refl _) G rfl
  .cases h
 .rename_i xs;cases h;rcases r with _|⟨b,_|_⟩;obtain⟨a,us,rfl,d,c⟩:=b;refine⟨_,us,rfl,.inr (SqT.of<|G.fh _ _ d),?_⟩;rw[<- Paired.len c];exact k _ W H (.refl _) G rfl
 .cases h
def GN:FN:=fun xs M=>match xs with
 |[.d a]=>(bI a).bind fun b=>Z (.d (.list b),M)
 |[.c i]=>match M[i]? with
  |some (.lst e)=>(jR e).bind fun b=>Z (.d (.list b),M)
  |_=>Y
 |_=>Y
def YV:PN K (fun xs H Q=>∃p ys,xs=[.ref p]/\(SqL K H p ys\/SqT K H p ys)/\∀l,H l=Y->Q (.ref l) (upd H l (.lst ys))) GN:=by
 intro xs M z M' h W H vs Q G r k;unfold GN at h;split at h
 .rename_i a;obtain⟨g,c,h⟩:=aI h;cases h;rcases r with _|⟨d,_|_⟩;obtain⟨p,us,rfl,j,e⟩:=pW (show Rep K W.F a _ from d) c;refine⟨p,us,rfl,j.imp (fun z=>G.fh.seq z) fun z=>G.fh.seqT z,fun l f=>?_⟩;obtain⟨b,G2⟩:=G.lay (o:=.lst us) f;exact k _ _ _ b G2 ⟨l,us,rfl,SqL.of aS,aK.same b.ff _ _ e⟩
 .rename_i i;split at h
  .rename_i ys m;obtain⟨g,c,h⟩:=aI h;cases h;rcases r with _|⟨d,_|_⟩;obtain⟨us,n,e⟩:=G.lstAt m;rw[d.2];refine⟨_,us,rfl,.inl (SqL.of n),fun l f=>?_⟩;obtain⟨b,G2⟩:=G.lay (o:=.lst us) f;exact k _ _ _ b G2 ⟨l,us,rfl,SqL.of aS,aK.same b.ff _ _<|dR c e⟩
  .cases h
 .cases h
def jK:FN:=fun xs M=>match xs with
 |[.d (.list a)]=>Z (.d (.tuple a),M)
 |[.d (.tuple a)]=>Z (.d (.tuple a),M)
 |[.c i]=>match M[i]? with
  |some (.lst b)=>(jR b).bind fun a=>Z (.d (.tuple a),M)
  |_=>Y
 |_=>Y
def WG:PN K (fun xs H Q=>∃p ys,xs=[.ref p]/\((SqL K H p ys/\∀l,H l=Y->Q (.ref l) (upd H l (.tup ys)))\/(SqT K H p ys/\Q (.ref p) H))) jK:=by
 intro xs M z M' h W H vs Q G r k;unfold jK at h;split at h
 .rename_i e;cases h;rcases r with _|⟨b,_|_⟩;obtain⟨p,us,rfl,f,c⟩:=(show ∃a us,_=V.ref a/\SqL K W.F a us/\aK K W.F e us from b);refine⟨p,us,rfl,.inl ⟨G.fh.seq f,fun l g=>?_⟩⟩;obtain⟨d,G2⟩:=G.lay (o:=.tup us) g;exact k _ _ _ d G2 ⟨l,us,rfl,SqT.of aS,aK.same d.ff _ _ c⟩
 .rename_i e;cases h;rcases r with _|⟨b,_|_⟩;obtain⟨p,us,rfl,f,c⟩:=(show ∃a us,_=V.ref a/\SqT K W.F a us/\aK K W.F e us from b);exact⟨p,us,rfl,.inr ⟨G.fh.seqT f,k _ W H (.refl _) G ⟨p,us,rfl,f,c⟩⟩⟩
 .rename_i i;split at h
  .rename_i ys j;obtain⟨e,m,h⟩:=aI h;cases h;rcases r with _|⟨b,_|_⟩;obtain⟨us,n,c⟩:=G.lstAt j;rw[b.2];refine⟨_,us,rfl,.inl ⟨SqL.of n,fun l g=>?_⟩⟩;obtain⟨d,G2⟩:=G.lay (o:=.tup us) g;exact k _ _ _ d G2 ⟨l,us,rfl,SqT.of aS,aK.same d.ff _ _<|dR m c⟩
  .cases h
 .cases h
def VD(T:String)(f:EF):EF:=fun γ M=>(f γ M).bind fun r=>match r.1 with
 |.d a=>Z (.d (.bool (yI T a)),r.2)
 |_=>Y
def aDz{T:String}{e:TE}{f:EF}(hT:T∈asked)(a:SE K e f):SE K (tCB (aDc K)<|qG e<|qG (tC (.ty T)) ER) (VD T f):=by
 intro γ M x M' b W H i Q G R k;obtain⟨⟨y,M1⟩,j,b⟩:=aI b;cases y with
 |c _=>cases b
 |t _=>cases b
 |f _=>cases b
 |g _=>cases b
 |d y=>
  cases b;refine a _ _ _ _ j W H i _ G R fun v l m n h o=>?_;exact⟨v,T,y,rfl,hT,Rep.same h.fh _ _ o,k _ l m n h rfl⟩
def IX(T U:String)(f:EF):EF:=fun γ M=>(f γ M).bind fun r=>match r.1 with
 |.d a=>Z (.d (.bool (yI T a || yI U a)),r.2)
 |_=>Y
def YR{T U:String}{h:TE}{f:EF}(hT:T∈asked)(j:U∈asked)(a:SE K h f):SE K (tCB (SQ K)<|qG h<|qG (SR<|qG (tC (.ty T))<|qG (tC (.ty U)) ER) ER) (IX T U f):=by
 intro γ M x M' b W H l Q G R k;obtain⟨⟨y,M1⟩,m,b⟩:=aI b;cases y with
 |c _=>cases b
 |t _=>cases b
 |f _=>cases b
 |g _=>cases b
 |d y=>
  cases b;refine a _ _ _ _ m W H l _ G R fun v u w n q r=>?_;refine⟨by show 2<=sizeLine;decide,fun p s=>?_⟩;obtain⟨i,G2⟩:=q.lay (o:=.tup [.ty T,.ty U]) s;refine⟨v,p,[T,U],y,rfl,aS,fun S hS=>?_,Rep.same (i.ff.trans G2.fh) _ _ r,?_⟩
  .rcases List.mem_cons.mp hS with rfl|hS
   .exact hT
   .rw[List.mem_singleton.mp hS];exact j
  .have e:([T,U].any fun T=>yI T y)=(yI T y || yI U y):=by simp
   rw[e];exact k _ _ _ (n.trans i) G2 rfl
def WU(M:Sto):CD->Tw Bool
 |.d .none=>Z false
 |.d (.bool b)=>Z b
 |.d (.int i)=>Z (i != 0)
 |.d (.list a)=>Z (!a.isEmpty)
 |.d (.tuple a)=>Z (!a.isEmpty)
 |.c i=>match M[i]? with
  |some (.lst xs)=>Z (!xs.isEmpty)
  |some (.dk kvs)=>Z (!kvs.isEmpty)
  |_=>Y
 |_=>Y
def GR(f:EF):TF:=fun γ M=>(f γ M).bind fun r=>(WU r.2 r.1).bind fun b=>Z (b,r.2)
def kH{a b:Type}{xs:Tv a}{ys:Tv b}(h:xs.length=ys.length):xs.isEmpty=ys.isEmpty:=by
 cases xs<;>cases ys<;>simp at h ⊢
def aDt{w:TE}{f:EF}(a:SE K w f):STt K (fun q H Q=>w q H fun x H'=>∃k,aAp K x H' k/\Q k H') (GR f):=by
 intro γ M b M' j W H q Q G R k;obtain⟨⟨y,M1⟩,B,j⟩:=aI j;obtain⟨J,e,j⟩:=aI j;cases j;refine a _ _ _ _ B W H q _ G R fun v l C D m h=>⟨_,?_,k l C D m⟩;cases y with
 |d y=>
  cases y with
  |none=>cases e;rw[show v=.non from h];rfl
  |bool c=>cases e;rw[show v=.bl _ from h];rfl
  |int i=>cases e;rw[show v=.int _ from h];rfl
  |str x=>cases e
  |list r=>
   cases e;obtain⟨p,us,rfl,s,n⟩:=(show ∃a us,_=V.ref a/\SqL K l.F a us/\aK K l.F r us from h);exact .inl ⟨us,m.fh.seq s,by rw[kH n.length]⟩
  |tuple r=>
   cases e;obtain⟨p,us,rfl,s,n⟩:=(show ∃a us,_=V.ref a/\SqT K l.F a us/\aK K l.F r us from h);exact .inr (.inl ⟨us,m.fh.seqT s,by rw[kH n.length]⟩)
  |dict kvs=>cases e
 |t _=>cases e
 |f _=>cases e
 |g _=>cases e
 |c i=>
  rw[h.2];unfold WU at e;dsimp only at e;split at e
  .rename_i xs u;cases e;obtain⟨us,E,n⟩:=m.lstAt u;exact .inl ⟨us,SqL.of E,by rw[kH (Paired.len n)]⟩
  .rename_i kvs u;cases e;obtain⟨_,o,I,A⟩:=m.cs i _ u (by intro z;cases z);cases o with
   |dK us=>exact .inr (.inr ⟨us,I,by rw[kH (Paired.len A)]⟩)
   |_=>exact False.elim A
  .cases e
def boolsOf:T3->Tw (Tv Bool)
 |[]=>Z []
 |.bool b::r=>(boolsOf r).bind fun bs=>Z (b::bs)
 |_::_=>Y
def BU:FN:=fun xs M=>match xs with
 |[.d (.list a)]=>(boolsOf a).bind fun bs=>Z (.d (.bool (bs.all id)),M)
 |_=>Y
def AD{H:Hp}:∀{ds:T3}{bs:Tv Bool}{vs:Td},boolsOf ds=Z bs->aK K H ds vs->vs=bs.map V.bl
 |[],bs,vs=>fun e h=>by cases e;exact h
 |.bool b::r,bs,vs=>fun e h=>by
  obtain⟨cs,a,e⟩:=aI (show(boolsOf r).bind _=_ from e);cases e;obtain⟨v,us,rfl,c,d⟩:=h;rw[show v=V.bl b from c,AD a d];rfl
 |.none::_,_,_=>fun e _=>by cases e
 |.int _::_,_,_=>fun e _=>by cases e
 |.str _::_,_,_=>fun e _=>by cases e
 |.list _::_,_,_=>fun e _=>by cases e
 |.tuple _::_,_,_=>fun e _=>by cases e
 |.dict _::_,_,_=>fun e _=>by cases e
def NH(f:X.calm=true):eP X (.builtin "all") (fun xs H Q=>∃(p:Ub)(bs:Tv Bool),xs=[.ref p]/\SqL X.K H p (bs.map V.bl)/\Q (.bl (bs.all id)) H):=by
 intro pins s v H xs us Q I r h;obtain⟨p,bs,rfl,g,q⟩:=h;obtain⟨u,rfl,j⟩:=vals1 r;cases (show u=Value.ref p from j);obtain⟨k,l,c,w⟩:=I.list g;have a:=bB.bools l;subst a;refine call_all_walk<|wpAny_pyIter_list c.isList ?_;have d:p<s.heap.objs.size:=c.lt;refine⟨_,_,_,_,_,_,(fun i=>bs.getD i false),rfl,Walks.list (A:=X.A.in1) (I.ok.hd f) s.heap.objs.size p (B5 d) (bs.map Value.bool).toArray,⟨⟨_,B3 _ rfl,rfl,rfl⟩,c.isList.at fun o e=>A1 _ e⟩,DY,fun h' m n=>?_⟩;have t:((bs.map Value.bool).toArray).size=bs.length:=by simp
 rw[t,all_range];refine⟨.bl _,H,I.kept (h':=h') (t':=m) fun b o e=>?_,rfl,q⟩;exact n b o (fun z=>by rw[List.mem_singleton]at z;exact absurd (A8 e) (by rw[z];exact I0 _))<|A1 _ e
def aCg:PN K (fun xs H Q=>∃(p:Ub)(bs:Tv Bool),xs=[.ref p]/\SqL K H p (bs.map V.bl)/\Q (.bl (bs.all id)) H) BU:=by
 intro xs M z M' h W H vs Q G r k;unfold BU at h;split at h
 .rename_i b;obtain⟨bs,c,h⟩:=aI h;cases h;rcases r with _|⟨d,_|_⟩;obtain⟨p,us,rfl,f,g⟩:=(show ∃a us,_=V.ref a/\SqL K W.F a us/\aK K W.F b us from d);have e:=AD c g;subst e;exact⟨p,bs,rfl,G.fh.seq f,k _ W H (.refl _) G rfl⟩
 .cases h
end
section
variable{X:Cx}{K:Fg}
def FT(K:Fg):R2:=fun x y H Q=>∃l b xs a,x=.ref l/\y=.ref b/\SqL K H l xs/\SqL K H b a/\xs.length+a.length<=sizeLine/\∀p,H p=Y->Q (.ref p) (upd H p (.lst (xs++a)))
def op_catS:OpR X (binaryOp .Add) (FT X.K):=by
 intro pins s D H x y v u Q I t w h;obtain⟨l,b,xs,E,rfl,rfl,z,hB,G,q⟩:=h;cases t;cases w;obtain⟨c,r,⟨⟨cls,A,data,sl⟩,n,j,k,B,hd⟩,_⟩:=I.list z;obtain⟨a,m,⟨⟨o,g,data2,i⟩,n2,d,e,p,f⟩,_⟩:=I.list hB;simp only at k hd e f;subst k hd e f;have J:=r.length;have L:=m.length;refine concat_meets ⟨_,j,rfl⟩ ⟨_,d,rfl⟩ noFill_list_add seq_list_add PySem.F.slot_list_add PySem.F.entry_list_add (PySem.F.args_list_add_2 _ _) (list_addW l b c.toArray a.toArray n n2 A g sl i (by rw[B9,B9];omega)) ⟨j,d,?_⟩;have C:c.toArray++a.toArray=(c++a).toArray:=by simp
 rw[C];exact⟨.ref _,_,I.lnew (t':=s.toks) (r.append m) (by rw[B1];omega),rfl,q _ I.fresh⟩
def tD(M:Sto):CD->Tw (T5)
 |.d (.list a)=>Z<|a.map .d
 |.c i=>match M[i]? with
  |some (.lst xs)=>Z xs
  |_=>Y
 |_=>Y
def lU{x:CD}{xs:T5}{v:V}(G:Good K W M H)(h:tD M x=Z xs)(r:cR K W x v):∃p vs,v=.ref p/\SqL K H p vs/\bY K W xs vs:=by
 unfold tD at h;split at h
 .rename_i c;cases h;obtain⟨p,us,rfl,d,b⟩:=(show ∃a us,_=V.ref a/\SqL K W.F a us/\aK K W.F c us from r);exact⟨p,us,rfl,G.fh.seq d,gF b⟩
 .rename_i i;split at h
  .rename_i g e;cases h;obtain⟨us,f,b⟩:=G.lstAt e;exact⟨_,us,r.2,SqL.of f,b⟩
  .cases h
 .cases h
def VY:F2:=fun x y M=>(tD M x).bind fun xs=>(tD M y).bind fun b=>(jR (xs++b)).bind fun a=>if a.length<=sizeLine then Z (.d (.list a),M)else Y
def aAJ:P2 K (FT K) VY:=by
 intro x y M z M' h W H v u Q G e f k;obtain⟨xs,g,h⟩:=aI h;obtain⟨r,i,h⟩:=aI h;obtain⟨j,b,h⟩:=aI h;by_cases a:j.length<=sizeLine
 .rw[A7 a]at h;cases h;obtain⟨p,vs,rfl,m,c⟩:=lU G g e;obtain⟨q,us,rfl,n,hs⟩:=lU G i f;have el:=xZ b;rw[B1]at el;refine⟨p,q,vs,us,rfl,rfl,m,n,by rw[<- Paired.len c,<- Paired.len hs];omega,fun l a=>?_⟩;obtain⟨d,G2⟩:=G.lay (o:=.lst (vs++us)) a;exact k _ _ _ d G2 ⟨l,_,rfl,SqL.of aS,aK.same d.ff _ _<|dR b<|Paired.app c hs⟩
 .rw[B0 a]at h;cases h
def aEz:F2:=fun x y M=>match x,y with
 |.d (.tuple xs),.d (.tuple a)=>if xs≠[]/\xs.length+a.length<=sizeLine then Z (.d (.tuple (xs++a)),M)else Y
 |_,_=>Y
def aK.nil_iff{ds:T3}{vs:Td}(r:aK K H ds vs):vs=[]↔ds=[]:=by
 have:=r.length;constructor<;>intro h<;>subst h<;>simp at this
 .exact this
 .exact Y4 this.symm
def aAF:P2 K (QT K) aEz:=by
 intro x y M z M' h W H v u Q G g i k;unfold aEz at h;split at h
 .rename_i xs d;by_cases b:xs≠[]/\xs.length+d.length<=sizeLine
  .rw[A7 b]at h;cases h;obtain⟨p,vs,rfl,e,c⟩:=(show ∃a us,v=V.ref a/\SqT K W.F a us/\aK K W.F xs us from g);obtain⟨q,us,rfl,j,hs⟩:=(show ∃a us,u=V.ref a/\SqT K W.F a us/\aK K W.F d us from i);refine⟨p,q,vs,us,rfl,rfl,G.fh.seqT e,G.fh.seqT j,fun z=>b.1<|c.nil_iff.mp z,by rw[<- c.length,<- hs.length];exact b.2,fun z=>?_,fun z l m=>?_⟩
   .have:d=[]:=hs.nil_iff.mp z;subst this;rw[D7]at k;exact k _ W H (.refl _) G ⟨p,vs,rfl,e,c⟩
   .obtain⟨f,G2⟩:=G.lay (o:=.tup (vs++us)) m;exact k _ _ _ f G2 ⟨l,_,rfl,SqT.of aS,aK.same f.ff _ _<|aK.app c hs⟩
  .rw[B0 b]at h;cases h
 .cases h
def P2.or{r d:R2}{h h':F2}(a:P2 K r h)(b:P2 K d h'):P2 K (fun x y H Q=>r x y H Q\/d x y H Q) (BW h h'):=by
 intro x y M z M' c W H v u Q G f g k;unfold BW at c;cases e:h x y M with
 |some q=>
  rw[e]at c;cases c;exact .inl (a _ _ _ _ _ e W H v u Q G f g k)
 |none=>
  rw[e]at c;exact .inr (b _ _ _ _ _ c W H v u Q G f g k)
noncomputable def HQ(K:Fg):R2:=fun x y H Q=>∃a b c,x=.ref a/\y=.ref b/\SqT K H a []/\SqT K H b c/\Q (.ref b) H
def op_catT0:OpR X (binaryOp .Add) (HQ X.K):=by
 intro pins s z H x y v u Q I m o h;obtain⟨a,b,A,rfl,rfl,ha,p,q⟩:=h;cases m;cases o;obtain⟨r,t,⟨⟨cls,w,data,sl⟩,j,k,n,hd⟩,_⟩:=I.tuple ha;obtain⟨c,B,⟨⟨l,g,data2,i⟩,d,e,n2,f⟩,_⟩:=I.tuple p;simp only at k hd e f;subst k hd e f;cases t;exact concat_meets ⟨_,j,rfl⟩ ⟨_,d,rfl⟩ noFill_tuple_add seq_tuple_add PySem.F.slot_tuple_add PySem.F.entry_tuple_add (PySem.F.args_tuple_add_2 _ _) (tuple_addW0 a b #[] c.toArray n n2 w g sl i rfl) ⟨j,d,⟨.ref b,H,I,rfl,q⟩⟩
def OS:F2:=fun x y M=>match x,y with
 |.d (.tuple []),.d (.tuple a)=>Z (.d (.tuple a),M)
 |_,_=>Y
def UA:P2 K (HQ K) OS:=by
 intro x y M z M' h W H v u Q G d e k;unfold OS at h;split at h
 .rename_i f;cases h;obtain⟨p,vs,rfl,b,g⟩:=(show ∃a us,v=V.ref a/\SqT K W.F a us/\aK K W.F [] us from d);obtain⟨q,us,rfl,c,hs⟩:=(show ∃a us,u=V.ref a/\SqT K W.F a us/\aK K W.F f us from e);rw[show vs=[]from g]at b;exact⟨p,q,us,rfl,rfl,G.fh.seqT b,G.fh.seqT c,k _ W H (.refl _) G ⟨q,us,rfl,c,hs⟩⟩
 .cases h
def bP:F2:=BW aGF<|BW VY<|BW OS aEz
def VJ(K:Fg):R2:=fun x y H Q=>(rI0 fun i j=>.int (i+j)) x y H Q\/FT K x y H Q\/HQ K x y H Q\/QT K x y H Q
def aAk:OpR X (binaryOp .Add) (VJ X.K):=op_add.or<|op_catS.or<|op_catT0.or YK
def WM:P2 K (VJ K) bP:=P2.or aBK<|P2.or aAJ<|P2.or UA aAF
def eqS(neg:Bool):F2:=fun x y M=>match x,y with
 |.d (.str a),.d (.str b)=>Z (.d (.bool (if neg then !(a==b)else a==b)),M)
 |_,_=>Y
def eqX(neg:Bool):F2:=BW (eqS neg)<|eqD neg
def aBO(K:Fg):R2:=fun x y H Q=>rEq x y H Q\/SV K false x y H Q
def aDV(K:Fg):R2:=fun x y H Q=>rNe x y H Q\/SV K true x y H Q
def TQ{a b:Str}:decide (V.str a=V.str b)=(a==b):=by
 by_cases e:a=b
 .subst e;simp
 .have h:¬V.str a=V.str b:=fun q=>e<|V.str.inj q;rw[C2 h,beq_eq_false_iff_ne.mpr e]
def aEB:P2 K rEq (eqS false):=by
 intro x y M z M' h W H v u Q G c d k;unfold eqS at h;split at h
 .rename_i a b;cases h;rw[show v=.str a from c,show u=.str b from d];refine⟨rfl,?_⟩;rw[TQ];exact k _ W H (.refl _) G rfl
 .cases h
def aBU:P2 K rNe (eqS true):=by
 intro x y M z M' h W H v u Q G c d k;unfold eqS at h;split at h
 .rename_i a b;cases h;rw[show v=.str a from c,show u=.str b from d];refine⟨rfl,?_⟩;rw[TQ];exact k _ W H (.refl _) G rfl
 .cases h
def aCh:P2 K (aBO K) (eqX false):=P2.or aEB aBj
def PB:P2 K (aDV K) (eqX true):=P2.or aBU aBj
def aDb(a:X.A.units+64<cLine):OpR X (compareOp .Eq) (aBO X.K):=op_eq.or<|aDX a
def aCv(a:X.A.units+64<cLine):OpR X (compareOp .NotEq) (aDV X.K):=op_ne.or<|aEQ a
def aCe:P2 K (rI0 fun i j=>.int (i-j)) fH:=aBK
def RI:P2 K (rI FP fun i j=>.int (i*j)) iW:=ZI fun _ _ h=>mulOk_of h
def ZG:P2 K (rI aBF fun i j=>.int (i / j)) cP:=ZI fun i j h=>by
 unfold EG at h;rw[B8]at h;exact⟨C9 h.1,C9 (p:=j.natAbs<xV) h.2⟩
def aEX:P2 K (rI (fun _ j=>0<j) fun i j=>.int (i % j)) bV:=ZI fun i j h=>C9 h
def aEW:P2 K (rI aFF fun i j=>.int (i ^ j.toNat)) BO:=ZI fun i j h=>by
 unfold aBJ at h;rw[B8,B8]at h;exact⟨C9 h.1.1,C9 h.1.2,C9 h.2⟩
def aBv:P2 K (rI0 fun i j=>.bl (decide (i<j))) ltI:=KR
def aGW:P2 K (rI0 fun i j=>.bl (decide (i<=j))) leI:=KR
def aGM:P2 K (rI0 fun i j=>.bl (decide (j<i))) gtI:=KR
def aFy:P2 K (rI0 fun i j=>.bl (decide (j<=i))) geI:=KR
def jM:F1:=fun x M=>match x with
 |.d (.int i)=>Z (.d (.int (-i)),M)
 |_=>Y
def aEE:P1 K (rU fun i=>.int (-i)) jM:=by
 intro x M z M' h W H v Q G r k;unfold jM at h;split at h
 .rename_i i;cases h;exact⟨i,r,k _ W H (.refl _) G rfl⟩
 .cases h
end
section
variable{X:Cx}{K:Fg}
def aGZ(h:X.K=K):eP X (.builtin "isinstance") (aDc K):=by subst h;exact LL
def aGr(h:X.K=K):eP X (.builtin "isinstance") (SQ K):=by subst h;exact IR
def aFi(K:Fg):R2:=rIx K
def kIx(h:X.K=K):IxR X (aFi K):=by subst h;exact aEq
def aEi:P2 K (aFi K) ixF:=aGK
def aAS(K:Fg):Td->Hp->VK->Prop:=fun xs H Q=>∃p a,xs=[.ref p]/\(SqL K H p a\/SqT K H p a)/\Q (.int a.length) H
def aHc(h:X.K=K):eP X (.builtin "len") (aAS K):=by subst h;exact BX
def WH:PN K (aAS K) jS:=aDs
def VR(K:Fg):Td->Hp->VK->Prop:=fun xs H Q=>∃p a,xs=[.ref p]/\(SqL K H p a\/SqT K H p a)/\∀l,H l=Y->Q (.ref l) (upd H l (.lst a))
def aFj(h:X.K=K):eP X (.type "list") (VR K):=by subst h;exact CY
def RS:PN K (VR K) GN:=YV
def KQ(K:Fg):Td->Hp->VK->Prop:=fun xs H Q=>∃p a,xs=[.ref p]/\((SqL K H p a/\∀l,H l=Y->Q (.ref l) (upd H l (.tup a)))\/(SqT K H p a/\Q (.ref p) H))
def aCr(h:X.K=K):eP X (.type "tuple") (KQ K):=by subst h;exact zK
def NG:PN K (KQ K) jK:=WG
def aBH(K:Fg):Td->Hp->VK->Prop:=fun xs H Q=>∃(p:Ub)(bs:Tv Bool),xs=[.ref p]/\SqL K H p (bs.map V.bl)/\Q (.bl (bs.all id)) H
def aHe(h:X.K=K)(a:X.calm=true):eP X (.builtin "all") (aBH K):=by subst h;exact NH a
def aAq:PN K (aBH K) BU:=aCg
def kEq(h:X.K=K)(a:X.A.units+64<cLine):OpR X (compareOp .Eq) (aBO K):=by subst h;exact aDb a
def kNe(h:X.K=K)(a:X.A.units+64<cLine):OpR X (compareOp .NotEq) (aDV K):=by subst h;exact aCv a
def aHi(h:X.K=K):OpR X (binaryOp .Add) (VJ K):=by subst h;exact aAk
def aAl{tg l:Uc}{a:TE}(h:X.K=K)(b:PE X l a):PI X tg l (aBV K a):=by subst h;exact aEc b
def WQ{es:T7}{k:Nat}{t:TGs}{n:Nat}{pos:Pos}(b:X.K=K)(c:X.calm=true)(h:PGs X es t)
 (hn:(assignEach es X.env).length=n:=by rfl) (a:(assignEach es X.env).findIdx? (·.1)=Y:=by rfl):PG X (.Tuple es k pos) (aEa K n t):=by subst b;exact aEe c h hn a
noncomputable def aGc(K:Fg)(a:TE):TT:=fun b H Q=>a b H fun x H'=>∃k,aAp K x H' k/\Q k H'
def aAi{a:Uc}{c:TE}(d:X.K=K)(ha:PE X a c)(e:∀b,isTrue a X.env b=(do let v <- b;standAt a.pos;holding [v]<|truthy v)):PT X a (aGc K c):=by subst d;exact RL ha e
def ZR{b:TE}{f:EF}(a:SE K b f):STt K (aGc K b) (GR f):=aDt a
end
section
variable{es:T7}{env:Env}
def cZ{a b}:starEach (.Name a b::es) env=(false,eval (.Name a b) env)::starEach es env:=rfl
def xB{a b c}:starEach (.Tuple a b c::es) env=(false,eval (.Tuple a b c) env)::starEach es env:=rfl
def AZ{a b c d}:starEach (.Call a b c d::es) env=(false,eval (.Call a b c d) env)::starEach es env:=rfl
def tS{pos:Pos}:(backTo pos<|starEach [] env).any (·.1)=false:=rfl
def mO{pos:Pos}{e:Uc}(hs:starEach (e::es) env=(false,eval e env)::starEach es env)(h:(backTo pos<|starEach es env).any (·.1)=false):(backTo pos<|starEach (e::es) env).any (·.1)=false:=by
 rw[hs];have a:backTo pos ((false,eval e env)::starEach es env)=(false,(do let v <- eval e env;standAt pos;pure v:Sem Tx))::backTo pos (starEach es env)\/(backTo pos ((false,eval e env)::starEach es env)).any (·.1)=(backTo pos<|starEach es env).any (·.1):=.inr (by unfold backTo;simp);rcases a with q|q
 .rw[q,U6,h];rfl
 .rw[q];exact h
end
section
variable{P:Ud}{w:World}{K:Fg}{mg:Str->Tf}
def Fun.okM{base:Heap}{x:Str}{st:Stmt}{N ps:Tc}{k:Nat}{b:SF}{f:Ub}{fd:FuncData}(F:Fun K x x st f fd)(S:aX N ps (aJ st))
 (c:∀(f:Ub)(cdv:Tx)(A:Ue)(outer:Tv Env)(s:Ua)(H:Hp)(E:XK),cL k (A.deeper<|envOfC x (aJ st) s.heap.objs.size f cdv)->
  ∃t,PSs (lB CX0 P w K mg base N x (aJ st) f cdv A outer s H E).nox (bU st) t/\SS K t b):kX P w K mg base CX0 (k+1) f fd ps (spM K (fnF ps.length N.length b)):=by
 have len:∀vs H Q E,spM K (fnF ps.length N.length b) vs H Q E->vs.length=ps.length:=fun vs H Q E h=>by
  obtain⟨xs,M,W,y,M',G,R,a,_⟩:=h;by_cases d:xs.length=ps.length
  .rw[<- Paired.len R];exact d
  .unfold fnF at a;rw[B0 d]at a;cases a
 refine F.ok S len fun cdv A outer s H vs Q E l h=>?_;obtain⟨t,m,hS⟩:=c f cdv A outer s H E l;refine⟨t,m,?_⟩;obtain⟨xs,M,W,y,M',G,R,a,k⟩:=h;by_cases d:xs.length=ps.length
 .unfold fnF at a;rw[A7 d]at a;obtain⟨⟨o,M1⟩,n,a⟩:=aI a
  have p:cM K W (xs.map Z++List.replicate (N.length-xs.length) Y) (start N vs):=by
   unfold start;rw[<- Paired.len R];exact Paired.app (bY.some R)<|pN _
  refine hS _ _ _ _ n W H _ _ G p fun e g i j=>?_;cases o with
  |rt x=>cases a;exact fun v r=>k v e g i j r
  |nx γ=>cases a;exact fun q r=>k .non e g i j rfl
  |bk γ=>cases a
  |ct γ=>cases a
 .unfold fnF at a;rw[B0 d]at a;cases a
def Def.okL{x p:Str}{st:Stmt}{N:Tc}{k:Nat}{b:SF}{F:FN}(D:Def K mg x st)(S:aX N [p] (aJ st))(c:F=fnF 1 N.length b)
 (d:∀(kV doc pm:Tx)(an:Th)(cdv ct:Tx)(us:T4),us.length=[p].length->bindArgs (PySem.W.fnOf x x (eG st) (bU st) (aJ st) .none kV doc pm an cdv ct) ⟨us,[]⟩=pure ([p].zip us))
 (a:∀(base:Heap)(f:Ub)(cdv:Tx)(A:Ue)(outer:Tv Env)(s:Ua)(H:Hp)(E:XK),cL k (A.deeper<|envOfC x (aJ st) s.heap.objs.size f cdv)->
  ∃t,PSs (lB CX0 P w K mg base N x (aJ st) f cdv A outer s H E).nox (bU st) t/\SS K t b):
 ∃f fd,mg x=Z (.ref f)/\(∀(s:Ua)(u:Tx),BindsTo s fd ⟨[u],[]⟩ [(p,u)])/\∀base,kX P w K mg base CX0 (k+1) f fd [p] (spM K F):=by
 subst c;obtain⟨f,fd,Fu,m⟩:=D.ex;refine⟨f,fd,m,fun s u=>?_,fun base=>Fu.okM S<|a base⟩;obtain⟨oc,od,kV,doc,pm,an,cdv,ct,osl,rfl,g,e⟩:=Fu.ex;exact .of_eq (d kV doc pm an cdv ct [u] rfl)
def DU{H:Hp}:∀ns:T6,aK K H (ns.map .int) (ns.map V.int)
 |[]=>rfl
 |n::ns=>⟨.int n,ns.map V.int,rfl,rfl,DU ns⟩
def aDi{F:FN}(e:∀ns:T6,ns.length<=63->∃M',F [.d (.list (ns.map .int))] []=Z (.d (.bool true),M')){a:Ub}{ns:T6}(f:ns.length<=63)(hS:SqL K H a (ns.map V.int))(ht:TabsOk K H H)(E:XK):
 spM K F [.ref a] H (fun v _=>v=.bl true) E:=by
 obtain⟨M',h⟩:=e ns f;refine⟨[.d (.list (ns.map .int))],[],⟨H,fun _=>0,0⟩,_,M',⟨gO.refl H,rfl,fun i c h=>by simp at h,fun i j c c' h=>by simp at h,ht⟩,.cons (show ∃b vs,V.ref a=.ref b/\SqL K H b vs/\aK K H (ns.map .int) vs from⟨a,ns.map V.int,rfl,hS,DU ns⟩) .nil,h,fun v W' H' _ _ r=>r⟩
def law_walk{l:PySem.W.OpenLaw}{q:Ud}{loose:Tc}{XP:(Str->Tf)->Heap->Prop}{YP:World->Heap->Prop}{d:DefRec}{K:Params->Fg}{F:FN}{k:Nat}{p:Str}(i:PyProof.Rows.importsNone q=true)(hn:l.most=Z 63)(b:d.params.defaults=[])(j:cL k callerA)
 (o:∀(w:World)(h:Heap),YP w h->(K w.params).In h)
 (hT:∀(w:World)(mg:Str->Tf)(h:Heap),(K w.params).In h->h.Ns mainGlobals mg->∃f fd,mg d.name=Z (.ref f)/\(∀(s:Ua)(u:Tx),BindsTo s fd ⟨[u],[]⟩ [(p,u)])/\∀base,kX l.prog w (K w.params) mg base CX0 k f fd [p]<|spM (K w.params) F)
 (r:∀ns:T6,ns.length<=63->∃M',F [.d (.list (ns.map .int))] []=Z (.d (.bool true),M')) (ht:∀w:World,UR (K w.params)=[]):
 PySem.W.WalkO q loose XP YP l.row.toRowW d [] (fun f vs=>PySem.call f vs):=
 L2.walk_of i (n:=63) (k:=k) (x:=p) (CX:=fun _=>CX0) (sp:=fun w=>spM (K w.params) F) hn (by decide) b j o
  (fun w mg t h KX G c=>by
   obtain⟨f,fd,m,v,y⟩:=hT w mg h KX G;have e:(Z (Value.ref f))=Z (.ref t):=m.symm.trans c;cases e;exact⟨fd,v,fun base _ _=>y base⟩)
  (fun w H a ns A _ hS=>aDi r A hS (fun x g=>by rw[ht w]at g;cases g) _) fun _ _ _ _ _ z=>z
end
def UL(e:Uc)(es:T7):Prop:=∀env:Env,starEach (e::es) env=(false,eval e env)::starEach es env
def FC:T7->Prop
 |[]=>True
 |e::es=>UL e es/\FC es
def FC.plain:∀{es:T7},FC es->∀(env:Env)(pos:Pos),(backTo pos<|starEach es env).any (·.1)=false
 |[]=>fun _ _ _=>rfl
 |_::_=>fun h env pos=>mO (h.1 env)<|h.2.plain env pos
section
variable{ι:Type}
structure ME(K:Fg)(X:ι->Cx)(e:Uc)(f:EF):Prop where
 ex:∃t,(∀i,PE (X i) e t)/\SE K t f
structure MT(K:Fg)(X:ι->Cx)(e:Uc)(f:TF):Prop where
 ex:∃t,(∀i,PT (X i) e t)/\STt K t f
structure MW(K:Fg)(X:ι->Cx)(e:Uc)(f:TF):Prop where
 ex:∃t,(∀i,PW (X i) e t)/\STt K t f
structure MA(K:Fg)(X:ι->Cx)(es:T7)(f:AF):Prop where
 ex:∃t,(∀i,PA (X i) es t)/\SA K t f
 st:FC es
structure MG(K:Fg)(X:ι->Cx)(e:Uc)(f:GF):Prop where
 ex:∃t,(∀i,PG (X i) e t)/\SG K t f
structure MGs(K:Fg)(X:ι->Cx)(es:T7)(f:GsF):Prop where
 ex:∃t,(∀i,PGs (X i) es t)/\SGs K t f
structure MI(K:Fg)(X:ι->Cx)(tg e:Uc)(f:AF):Prop where
 ex:∃t,(∀i,PI (X i) tg e t)/\SI K t f
structure MF(K:Fg)(X:ι->Cx)(es:T7)(f:TF):Prop where
 ex:∃t,(∀i,DP (X i) es t)/\STt K t f
structure MS(K:Fg)(X:ι->Cx)(st:Stmt)(f:SF):Prop where
 ex:∃t,(∀i,PS (X i) st t)/\SS K t f
structure ML(K:Fg)(X:ι->Cx)(st:T8)(f:SF):Prop where
 ex:∃t,(∀i,PSs (X i) st t)/\SS K t f
structure Q2(K:Fg)(X:ι->Cx)(o:Tn)(h:F2):Prop where
 ex:∃r,(∀i,OpR (X i) o r)/\P2 K r h
structure Q1(K:Fg)(X:ι->Cx)(o:Tx->Sem Tx)(h:F1):Prop where
 ex:∃r,(∀i,UnR (X i) o r)/\P1 K r h
structure QN(K:Fg)(X:ι->Cx)(f:Tx)(h:FN):Prop where
 ex:∃r,(∀i,eP (X i) f r)/\PN K r h
structure QI(K:Fg)(X:ι->Cx)(h:F2):Prop where
 ex:∃r,(∀i,IxR (X i) r)/\P2 K r h
variable{K:Fg}{X:ι->Cx}{a b c e:Uc}{es:T7}{f g h:EF}{ft gt:TF}{fa:AF}{pos:Pos}
def aC(i:Nat){x:Str}(k:∀j,(X j).N[i]?=Z x:=by intro _;rfl)(l:∀j,Vis (X j).env.scope x:=by intro _;first|exact Or.inl rfl|exact Or.inr (Or.inl rfl)|exact Or.inr<|Or.inr rfl)(hd:(x==("__debug__":Str))=false:=by decide)(d:(x==("__classdict__":Str))=false:=by decide):
 ME K X (.Name x pos) (aE i):=⟨_,fun j=>aDf (k j) (l j) hd d,aCK⟩
def aD{i:Int}{j:Nat}:ME K X (.Constant (.int i) j pos) (fC (.int i)):=⟨_,fun _=>aEJ,PQ⟩
def gJ{i:Bool}{j:Nat}:ME K X (.Constant (.bool i) j pos) (fC (.bool i)):=⟨_,fun _=>aGe,aGQ⟩
def xH{j:Nat}:ME K X (.Constant .none j pos) (fC .none):=⟨_,fun _=>aDS,aCf⟩
def xX{i:Str}{j:Nat}:ME K X (.Constant (.str i) j pos) (fC (.str i)):=⟨_,fun _=>aDv,aCL⟩
def sU{x:Str}{n:Int}(hm:∀i,∃t:Tok,(X i).mg x=Z (.int n t))(d:∀i,Gl (X i) x:=by intro _;rfl)(hd:(x==("__debug__":Str))=false:=by decide):ME K X (.Name x pos) (fC (.int n)):=
 ⟨_,fun i=>KI (v:=.int n) (d i) (hm i).choose_spec ⟨_,rfl⟩ hd,PQ⟩
def aO{op:Operator}{k:F2}(q:Q2 K X (binaryOp op) k)(x:ME K X a f)(y:ME K X b g):ME K X (.BinOp a op b pos) (fOp k f g):=by
 obtain⟨r,d,j⟩:=q.ex;obtain⟨t,l,m⟩:=x.ex;obtain⟨u,n,o⟩:=y.ex;exact⟨_,fun i=>aFb (d i) (l i)<|n i,JF j m o⟩
def qL{op:UnaryOp}{k:F1}(q:Q1 K X (unaryOp op) k)(x:ME K X a f):ME K X (.UnaryOp op a pos) (fUn k f):=by
 obtain⟨r,d,j⟩:=q.ex;obtain⟨t,l,m⟩:=x.ex;exact⟨_,fun i=>aGB (d i)<|l i,aFZ j m⟩
def fN{rest:T7}(x:ME K X a f)(y:ME K X (.BoolOp .And (b::rest) pos) g):ME K X (.BoolOp .And (a::b::rest) pos) (mM f g):=by
 obtain⟨t,d,j⟩:=x.ex;obtain⟨u,k,l⟩:=y.ex;exact⟨_,fun i=>aBR (d i)<|k i,aCc j l⟩
def aGT{rest:T7}(x:ME K X a f)(y:ME K X (.BoolOp .Or (b::rest) pos) g):ME K X (.BoolOp .Or (a::b::rest) pos) (fOr f g):=by
 obtain⟨t,d,j⟩:=x.ex;obtain⟨u,k,l⟩:=y.ex;exact⟨_,fun i=>aGj (d i)<|k i,aGx j l⟩
def gR{op:BoolOp}(x:ME K X a f):ME K X (.BoolOp op [a] pos) f:=by
 obtain⟨t,d,j⟩:=x.ex;exact⟨_,fun i=>aCW<|d i,j⟩
def aDK(x:ME K X a f):ME K X (.UnaryOp .Not a pos) (aAb f):=by
 obtain⟨t,d,j⟩:=x.ex;exact⟨_,fun i=>aEn<|d i,aDu j⟩
def eF{op:CmpOp}{k:F2}(q:Q2 K X (compareOp op) k)(x:ME K X a f)(y:ME K X b g)(hm:behindInMarks op b=false:=by rfl):ME K X (.Compare a [op] [b] pos) (fOp k f g):=by
 obtain⟨r,d,j⟩:=q.ex;obtain⟨t,l,m⟩:=x.ex;obtain⟨u,n,o⟩:=y.ex;exact⟨_,fun i=>aAj (d i) (l i) (n i) hm,JF j m o⟩
def VA{op d:CmpOp}{k m:F2}(q:Q2 K X (compareOp op) k)(n:Q2 K X (compareOp d) m)(x:ME K X a f)(y:ME K X b g)(z:ME K X c h)(hm:lastMarks [op,d] [b,c]=false:=by with_unfolding_all rfl):ME K X (.Compare a [op,d] [b,c] pos) (CT k m f g h):=by
 obtain⟨r,o,p⟩:=q.ex;obtain⟨E,j,l⟩:=n.ex;obtain⟨t,s,w⟩:=x.ex;obtain⟨u,A,B⟩:=y.ex;obtain⟨v,C,D⟩:=z.ex;exact⟨_,fun i=>TR (o i) (j i) (s i) (A i) (C i) hm,UI p l w B D⟩
def aF:MA K X [] aG:=⟨⟨_,fun _=>xS,OX⟩,trivial⟩
def aA(x:ME K X e f)(y:MA K X es fa)(hs:UL e es:=by intro _;rfl):MA K X (e::es) (aB f fa):=by
 obtain⟨t,d,j⟩:=x.ex;obtain⟨u,k,l⟩:=y.ex;exact⟨⟨_,fun i=>iO (d i) (k i)<|hs _,YY j l⟩,hs,y.st⟩
def aP{k:Nat}(x:MA K X es fa):ME K X (.Tuple es k pos) (aY fa):=by
 obtain⟨t,d,j⟩:=x.ex;exact⟨_,fun i=>BP<|d i,aDp j⟩
def cC(x:MA K X es fa):ME K X (.List es pos) (cA fa):=by
 obtain⟨t,d,j⟩:=x.ex;exact⟨_,fun i=>VI<|d i,aBS j⟩
def ID(x:MA K X es fa):ME K X (.List es pos) (rB fa):=by
 obtain⟨t,d,j⟩:=x.ex;exact⟨_,fun i=>VI<|d i,aED j⟩
def cG{k:F2}(q:QI K X k)(x:ME K X a f)(y:ME K X b g)(hs:KD b:=by intro _ _;rfl):ME K X (.Subscript a b pos) (fOp k f g):=by
 obtain⟨r,d,j⟩:=q.ex;obtain⟨t,l,m⟩:=x.ex;obtain⟨u,n,o⟩:=y.ex;exact⟨_,fun i=>aFQ (d i) (l i) (n i) hs,JF j m o⟩
def aW{k:Nat}{x:Str}{ps:Tc}{F:FN}{p:Pos}{q:Bool}(C:∀i,Callee (X i).prog (X i).w (X i).K (X i).mg (X i).base k x ps (spM K F) q)(d:∀i,cL k (X i).A q)(y:MA K X (e::es) fa)(j:∀i,Gl (X i) x:=by intro _;rfl)(hd:(x==("__debug__":Str))=false:=by decide):
 ME K X (.Call (.Name x p) (e::es) [] pos) (aL F fa):=by
 obtain⟨u,l,m⟩:=y.ex;exact⟨_,fun i=>aEU (C i) (d i) (l i) (j i) hd (y.st.1 _)<|y.st.2.plain _ _,KL m⟩
def dF{x:Str}{id:String}{F:FN}{p:Pos}(q:QN K X (.builtin id) F)(hm:∀i,(X i).mg x=Y)(d:bootBuiltins x=Z (.builtin id))(y:MA K X (e::es) fa)(j:∀i,Gl (X i) x:=by intro _;rfl)(hn:x≠"__name__":=by decide)(hd:(x==("__debug__":Str))=false:=by decide):
 ME K X (.Call (.Name x p) (e::es) [] pos) (aL F fa):=by
 obtain⟨r,k,l⟩:=q.ex;obtain⟨u,m,n⟩:=y.ex;exact⟨_,fun i=>tF (k i) (j i) (hm i) d (m i) hn hd (y.st.1 _)<|y.st.2.plain _ _,aBy l n⟩
def lO{x:Str}{id:String}{F:FN}{p:Pos}(q:QN K X (.type id) F)(hm:∀i,(X i).mg x=Y)(d:bootBuiltins x=Z (.type id))(y:MA K X (e::es) fa)(j:∀i,Gl (X i) x:=by intro _;rfl)(hn:x≠"__name__":=by decide)(hd:(x==("__debug__":Str))=false:=by decide):
 ME K X (.Call (.Name x p) (e::es) [] pos) (aL F fa):=by
 obtain⟨r,k,l⟩:=q.ex;obtain⟨u,m,n⟩:=y.ex;exact⟨_,fun i=>NV (k i) (j i) (hm i) d (m i) hn hd (y.st.1 _)<|y.st.2.plain _ _,aBy l n⟩
def QU{T:String}{y:Str}{p k:Pos}(l:∀i,(X i).K=K)(hT:T∈asked)(x:ME K X a f)(hs:UL a [.Name y k])(hm:∀i,(X i).mg "isinstance"=Y)(d:∀i,(X i).mg y=Y)(m:bootBuiltins y=Z (.type T))(n:∀i,Gl (X i) "isinstance":=by intro _;rfl)(j:∀i,Gl (X i) y:=by intro _;rfl)
 (hn:y≠"__name__":=by decide) (hd:(y==("__debug__":Str))=false:=by decide):ME K X (.Call (.Name "isinstance" p) [a,.Name y k] [] pos) (VD T f):=by
 obtain⟨t,o,q⟩:=x.ex;refine⟨_,fun i=>tF (aGZ<|l i) (n i) (hm i) boot_isinstance (iO (o i) (iO (vZ (v:=.ty T) (j i) (d i) m rfl hn hd) xS cZ)<|hs _) (by decide) (by decide) (hs _)<|mO cZ tS,aDz hT q⟩
def aAm{T U:String}{y z:Str}{p s d u:Pos}{k:Nat}(w:∀i,(X i).K=K)(hT:T∈asked)(A:U∈asked)(x:ME K X a f)(hs:UL a [.Tuple [.Name y s,.Name z d] k u])(hm:∀i,(X i).mg "isinstance"=Y)(j:∀i,(X i).mg y=Y)(l:∀i,(X i).mg z=Y)
 (B:bootBuiltins y=Z (.type T)) (m:bootBuiltins z=Z (.type U)) (C:∀i,Gl (X i) "isinstance":=by intro _;rfl) (n:∀i,Gl (X i) y:=by intro _;rfl) (o:∀i,Gl (X i) z:=by intro _;rfl)
 (hn:y≠"__name__":=by decide) (hd:(y==("__debug__":Str))=false:=by decide) (q:z≠"__name__":=by decide) (r:(z==("__debug__":Str))=false:=by decide):ME K X (.Call (.Name "isinstance" p) [a,.Tuple [.Name y s,.Name z d] k u] [] pos) (IX T U f):=by
 obtain⟨t,D,E⟩:=x.ex;refine⟨_,fun i=>tF (aGr<|w i) (C i) (hm i) boot_isinstance (iO (D i) (iO (BP<|iO (vZ (v:=.ty T) (n i) (j i) B rfl hn hd) (iO (vZ (v:=.ty U) (o i) (l i) m rfl q r) xS cZ) cZ) xS xB)<|hs _) (by decide) (by decide) (hs _)<|mO xB tS,YR hT A E⟩
def jA(x:MT K X a ft):MT K X (.UnaryOp .Not a pos) (nP ft):=by
 obtain⟨t,d,j⟩:=x.ex;exact⟨_,fun i=>aCB<|d i,aDU j⟩
def GQ{rest:T7}(x:MT K X a ft)(y:MW K X (.BoolOp .And (b::rest) pos) gt):MW K X (.BoolOp .And (a::b::rest) pos) (wZ ft gt):=by
 obtain⟨t,d,j⟩:=x.ex;obtain⟨u,k,l⟩:=y.ex;exact⟨_,fun i=>aDm (d i)<|k i,aEK j l⟩
def DC(x:MT K X a ft):MW K X (.BoolOp .And [a] pos) ft:=by
 obtain⟨t,d,j⟩:=x.ex;exact⟨_,fun i=>ZU<|d i,j⟩
def sV{rest:T7}(x:MT K X a ft)(y:MW K X (.BoolOp .Or (b::rest) pos) gt):MW K X (.BoolOp .Or (a::b::rest) pos) (gOr ft gt):=by
 obtain⟨t,d,j⟩:=x.ex;obtain⟨u,k,l⟩:=y.ex;exact⟨_,fun i=>aGg (d i)<|k i,aFz j l⟩
def tV(x:MT K X a ft):MW K X (.BoolOp .Or [a] pos) ft:=by
 obtain⟨t,d,j⟩:=x.ex;exact⟨_,fun i=>aDo<|d i,j⟩
def CK(x:MW K X a ft):MT K X a ft:=by
 obtain⟨t,d,j⟩:=x.ex;exact⟨_,fun i=>(d i).pt,j⟩
def cB{op:CmpOp}{k:F2}(q:Q2 K X (compareOp op) k)(x:ME K X a f)(y:ME K X b g)(hm:behindInMarks op b=false:=by rfl):MT K X (.Compare a [op] [b] pos) (gB<|fOp k f g):=by
 obtain⟨r,d,j⟩:=q.ex;obtain⟨t,l,m⟩:=x.ex;obtain⟨u,n,o⟩:=y.ex;exact⟨_,fun i=>YL (d i) (l i) (n i) hm,XX<|JF j m o⟩
def jC(x:ME K X a f)(j:∀(env:Env)(d:Sem Tx),isTrue a env d=(do let v <- d;standAt a.pos;holding [v]<|truthy v):=by intro _ _;rfl):MT K X a (gB f):=by
 obtain⟨t,k,l⟩:=x.ex;exact⟨_,fun i=>aEh (k i)<|j _,aBX l⟩
def aCJ(j:∀i,(X i).K=K)(x:ME K X a f)(k:∀(env:Env)(d:Sem Tx),isTrue a env d=(do let v <- d;standAt a.pos;holding [v]<|truthy v):=by intro _ _;rfl):MT K X a (GR f):=by
 obtain⟨t,l,m⟩:=x.ex;exact⟨_,fun i=>aAi (j i) (l i)<|k _,ZR m⟩
def kJ{tg:Uc}{p:Pos}(hm:∀i,(X i).mg "range"=Y)(x:MA K X [a] fa)(d:∀i,Gl (X i) "range":=by intro _;rfl):MI K X tg (.Call (.Name "range" p) [a] [] pos) (jP fa):=by
 obtain⟨t,j,k⟩:=x.ex;exact⟨_,fun i=>OI (d i) (hm i) (j i)<|x.st.1 _,XF k⟩
def pV{tg:Uc}{p:Pos}(hm:∀i,(X i).mg "range"=Y)(x:MA K X [a,b] fa)(d:∀i,Gl (X i) "range":=by intro _;rfl):MI K X tg (.Call (.Name "range" p) [a,b] [] pos) (oF fa):=by
 obtain⟨t,j,k⟩:=x.ex;exact⟨_,fun i=>MY (d i) (hm i) (j i) (by rw[x.st.1,x.st.2.1];rfl) (by rw[x.st.2.1];rfl),aAA k⟩
def pK{tg:Uc}(d:∀i,(X i).K=K)(x:ME K X a f):MI K X tg a (dP f):=by
 obtain⟨t,j,k⟩:=x.ex;exact⟨_,fun i=>aAl (d i)<|j i,aCH k⟩
def bE(i:Nat){x:Str}(d:∀j,(X j).N.Nodup)(hi:∀j,(X j).N[i]?=Z x:=by intro _;rfl)(k:∀j,Loc (X j).env.scope x:=by intro _;first|exact Or.inl rfl|exact Or.inr rfl)(l:∀j,(X j).fn x=true\/(X j).env.scope.names.lookup x=Z .local:=by intro _;first|exact .inl rfl|exact .inr rfl):
 MG K X (.Name x pos) (hName i):=⟨_,fun j=>aAO (d j) (hi j) (k j)<|l j,CF⟩
def iL:MGs K X [] lJ:=⟨_,fun _=>aAf,ZZ⟩
def bW{d:GF}{gs:GsF}(x:MG K X e d)(y:MGs K X es gs)(hs:∀env:Env,(assignEach (e::es) env).map (·.2)=assign e env::(assignEach es env).map (·.2):=by intro _;rfl):MGs K X (e::es) (bT d gs):=by
 obtain⟨t,j,k⟩:=x.ex;obtain⟨u,l,m⟩:=y.ex;exact⟨_,fun i=>VU (j i) (l i)<|hs _,QR k m⟩
def mL{gs:GsF}{k n:Nat}(j:∀i,(X i).K=K)(l:∀i,(X i).calm=true)(x:MGs K X es gs)(hn:∀env:Env,(assignEach es env).length=n:=by intro _;rfl)(d:∀env:Env,(assignEach es env).findIdx? (·.1)=Y:=by intro _;rfl):MG K X (.Tuple es k pos) (lE n gs):=by
 obtain⟨t,m,o⟩:=x.ex;exact⟨_,fun i=>WQ (j i) (l i) (m i) (hn _)<|d _,aCF o⟩
def fD:MF K X [] fW:=⟨_,fun _=>UT,aDR⟩
def VB(x:MT K X c ft):MF K X [c] ft:=by
 obtain⟨t,d,j⟩:=x.ex;exact⟨_,fun i=>VV<|d i,j⟩
abbrev LcI(ι:Type):Type:=ι×Ub×Ua×Hp×T9×T1
def kP(X:ι->Cx)(N':Tc)(scope:Scope):LcI ι->Cx:=fun j=>eO (X j.1) N' scope j.2.1 j.2.2.1 j.2.2.2.1 j.2.2.2.2.1 j.2.2.2.2.2
variable{N':Tc}{cap:T2}{scope:Scope}{tg iter elt:Uc}{ifs:T7}{gf:GF}
def jX(d:∀i,(X i).calm=true)(S:∀i,oZ (X i) N' cap scope)(x:MI K X tg iter fa)(y:MG K (kP X N' scope) tg gf)(z:MF K (kP X N' scope) ifs ft)(w:ME K (kP X N' scope) elt f)(hs:∀(env:Env)(x:Tx),foldedSetIterable iter env x=pure x:=by intro _ _;rfl):
 ME K X (.ListComp elt [⟨tg,iter,ifs,0⟩] scope pos) (fLc cap fa gf ft f):=by
 obtain⟨t,j,k⟩:=x.ex;obtain⟨u,l,m⟩:=y.ex;obtain⟨v,n,p⟩:=z.ex;obtain⟨o,q,r⟩:=w.ex;exact⟨_,fun i=>aBm (d i) (S i) (j i) (fun C s H fp pn=>l (i,C,s,H,fp,pn)) (fun C s H fp pn=>n (i,C,s,H,fp,pn)) (fun C s H fp pn=>q (i,C,s,H,fp,pn))<|hs _,aAU k m p r⟩
def UP(d:∀i,(X i).calm=true)(S:∀i,oZ (X i) N' cap scope)(x:MI K X tg iter fa)(y:MG K (kP X N' scope) tg gf)(z:MF K (kP X N' scope) ifs ft)(w:ME K (kP X N' scope) elt f)(hs:∀(env:Env)(x:Tx),foldedSetIterable iter env x=pure x:=by intro _ _;rfl):
 ME K X (.ListComp elt [⟨tg,iter,ifs,0⟩] scope pos) (MB cap fa gf ft f):=by
 obtain⟨t,j,k⟩:=x.ex;obtain⟨u,l,m⟩:=y.ex;obtain⟨v,n,p⟩:=z.ex;obtain⟨o,q,r⟩:=w.ex;exact⟨_,fun i=>aBm (d i) (S i) (j i) (fun C s H fp pn=>l (i,C,s,H,fp,pn)) (fun C s H fp pn=>n (i,C,s,H,fp,pn)) (fun C s H fp pn=>q (i,C,s,H,fp,pn))<|hs _,aDY k m p r⟩
def UH(i:Nat){l:Str}{k d:Pos}(p:∀j,(X j).N.Nodup)(q:∀i,(X i).calm=true)(S:∀i,oZ (X i) N' cap scope)(x:MI K X tg iter fa)(y:MG K (kP X N' scope) tg gf)(z:MF K (kP X N' scope) ifs ft)(w:ME K (kP X N' scope) elt f)
 (m:∀j,(X j).N[i]?=Z l:=by intro _;rfl) (n:∀j,swapsWith (.ListComp elt [⟨tg,iter,ifs,0⟩] scope pos) (Z (.Name l k)) d.line (X j).env=pure true:=by intro _;rfl) (r:∀j,(X j).env.scope.names.lookup l=Z .local:=by intro _;rfl) (hs:∀(env:Env)(x:Tx),foldedSetIterable iter env x=pure x:=by intro _ _;rfl):
 MS K X (.Assign [.Name l k] (.ListComp elt [⟨tg,iter,ifs,0⟩] scope pos) d) (bG (fLc cap fa gf ft f)<|hName i):=by
 obtain⟨t,A,B⟩:=x.ex;obtain⟨u,D,E⟩:=y.ex;obtain⟨v,G,I⟩:=z.ex;obtain⟨o,J,L⟩:=w.ex;exact⟨_,fun j=>OR (p j) (m j) (q j) (S j) (A j) (fun C s H fp pn=>D (j,C,s,H,fp,pn)) (fun C s H fp pn=>G (j,C,s,H,fp,pn)) (fun C s H fp pn=>J (j,C,s,H,fp,pn)) (n j) (r j)<|hs _,HW (aAU B E I L) CF⟩
variable{st:Stmt}{sts:T8}{sf sg:SF}
def cJ:ML K X [] cH:=⟨_,fun _=>XQ,WO⟩
def aU(x:MS K X st sf):ML K X [st] sf:=by
 obtain⟨t,d,j⟩:=x.ex;exact⟨_,fun i=>JI<|d i,j⟩
def aM(x:MS K X st sf)(y:ML K X sts sg):ML K X (st::sts) (bA sf sg):=by
 obtain⟨t,d,j⟩:=x.ex;obtain⟨u,k,l⟩:=y.ex;exact⟨_,fun i=>DH (d i)<|k i,aEj j l⟩
def bF(x:ME K X e f):MS K X (.Return (Z e) pos) (cV f):=by
 obtain⟨t,d,j⟩:=x.ex;exact⟨_,fun i=>aCD<|d i,aBT j⟩
def mU:SF:=fun _ _=>Y
def iA:MS K X st mU:=⟨PP,fun _=>PF,fun _ _ _ _ h=>by cases h⟩
def vS(x:ME K X e f)(hs:∀i,swapsWith e Y pos.line (X i).env=pure false:=by intro _;rfl):MS K X (.Expr e pos) (oR f):=by
 obtain⟨t,d,j⟩:=x.ex;exact⟨_,fun i=>KG (d i)<|hs i,XA j⟩
def eB{d:T8}(x:MT K X c ft)(y:ML K X sts sf)(z:ML K X d sg):MS K X (.If c sts d pos) (sIf ft sf sg):=by
 obtain⟨t,j,k⟩:=x.ex;obtain⟨u,l,m⟩:=y.ex;obtain⟨v,n,o⟩:=z.ex;exact⟨_,fun i=>aBI (j i) (l i)<|n i,aFt k m o⟩
def RE(d:∀i,PassesOwn (model (X i).prog (X i).w) (X i).A (X i).env (X i).xe)(x:MT K X c ft)(y:ML K X sts sf):MS K X (.While c sts [] pos) (uF ft sf):=by
 obtain⟨t,j,k⟩:=x.ex;obtain⟨u,l,m⟩:=y.ex;exact⟨_,fun i=>UZ (d i) (j i)<|l i,SX k m⟩
def rW(d:∀i,PassesOwn (model (X i).prog (X i).w) (X i).A (X i).env (X i).xe)(j:∀i,(X i).calm=true)(x:MI K X tg iter fa)(y:MG K X tg gf)(z:ML K X sts sf)(hs:∀(env:Env)(x:Tx),foldedSetIterable iter env x=pure x:=by intro _ _;rfl):MS K X (.For tg iter sts [] pos) (vQ fa gf sf):=by
 obtain⟨t,k,l⟩:=x.ex;obtain⟨u,m,n⟩:=y.ex;obtain⟨v,o,p⟩:=z.ex;exact⟨_,fun i=>aDy (d i) (j i) (k i) (m i) (o i)<|hs _,aEN l n p⟩
def bJ(i:Nat){k:Str}{d:Pos}(l:∀j,(X j).N.Nodup)(x:ME K X e f)(hi:∀j,(X j).N[i]?=Z k:=by intro _;rfl)(m:∀j,Loc (X j).env.scope k:=by intro _;first|exact Or.inl rfl|exact Or.inr rfl)(hs:∀j,swapsWith e (Z (.Name k d)) pos.line (X j).env=pure false:=by intro _;rfl)
 (n:∀j,(X j).fn k=true\/(X j).env.scope.names.lookup k=Z .local:=by intro _;first|exact .inl rfl|exact .inr rfl):MS K X (.Assign [.Name k d] e pos) (bG f<|hName i):=by
 obtain⟨t,o,p⟩:=x.ex;exact⟨_,fun j=>aEF (l j) (hi j) (m j) (o j) (hs j)<|n j,HW p CF⟩
def aDW(i j:Nat){l m:Str}{n o pt d:Pos}{p k2:Nat}(r:∀j,(X j).calm=true)(s:∀j,(X j).N.Nodup)(x:MA K X [a,b] fa)(q:i≠j:=by decide)(hi:∀k,(X k).N[i]?=Z l:=by intro _;rfl)(u:∀k,(X k).N[j]?=Z m:=by intro _;rfl)(v:∀k,(X k).env.scope.names.lookup l=Z .local:=by intro _;rfl)(w:∀k,(X k).env.scope.names.lookup m=Z .local:=by intro _;rfl)
 (y:∀k,swappedStores [.Tuple [.Name l n,.Name m o] p pt] (.Tuple [a,b] k2 d) (X k).env=pure (Z [l,m]):=by intro _;rfl) (z:∀k,swapsWithSole [.Tuple [.Name l n,.Name m o] p pt] (.Tuple [a,b] k2 d) pos.line (X k).env=pure false:=by intro _;rfl):
 MS K X (.Assign [.Tuple [.Name l n,.Name m o] p pt] (.Tuple [a,b] k2 d) pos) (VO i j fa):=by
 obtain⟨t,A,B⟩:=x.ex;exact⟨_,fun k=>aDr (r k) (s k) (hi k) (u k) q (v k) (w k) (A k) (y k)<|z k,aCA B⟩
def aCm(x:ME K X e f)(y:MG K X tg gf)(d:∀k,swapsWithSole [tg] e pos.line (X k).env=pure false:=by intro _;rfl)(i:∀k,swappedStores [tg] e (X k).env=pure Y:=by intro _;rfl)(j:∀env:Env,(assignEach [tg] env).map (·.2)=[assign tg env]:=by intro _;rfl):MS K X (.Assign [tg] e pos) (bG f gf):=by
 obtain⟨t,l,m⟩:=x.ex;obtain⟨u,n,o⟩:=y.ex;exact⟨_,fun k=>aDn (l k) (n k) (d k) (i k)<|j _,HW m o⟩
def cS(d:∀i,(X i).K=K:=by intro _;rfl):Q2 K X (binaryOp .Add) bP:=⟨_,fun i=>aHi<|d i,WM⟩
def nJ:Q2 K X (binaryOp .Sub) fH:=⟨_,fun _=>aCa,aCe⟩
def pJ:Q2 K X (binaryOp .Mult) iW:=⟨_,fun _=>op_mulA,RI⟩
def fP:Q2 K X (binaryOp .FloorDiv) cP:=⟨_,fun _=>UO,ZG⟩
def dE:Q2 K X (binaryOp .Mod) bV:=⟨_,fun _=>aCs,aEX⟩
def IY:Q2 K X (binaryOp .Pow) BO:=⟨_,fun _=>aEm,aEW⟩
def qH:Q1 K X (unaryOp .USub) jM:=⟨_,fun _=>aCX,aEE⟩
def NL:Q2 K X (compareOp .Lt) ltI:=⟨_,fun _=>op_lt,aBv⟩
def aGR:Q2 K X (compareOp .LtE) leI:=⟨_,fun _=>aFe,aGW⟩
def HZ:Q2 K X (compareOp .Gt) gtI:=⟨_,fun _=>aFN,aGM⟩
def aEs:Q2 K X (compareOp .GtE) geI:=⟨_,fun _=>aFY,aFy⟩
def iD(d:∀i,(X i).K=K)(j:∀i,(X i).A.units+64<cLine):Q2 K X (compareOp .Eq) (eqX false):=⟨_,fun i=>kEq (d i)<|j i,aCh⟩
def aCu(d:∀i,(X i).K=K)(j:∀i,(X i).A.units+64<cLine):Q2 K X (compareOp .NotEq) (eqX true):=⟨_,fun i=>kNe (d i)<|j i,PB⟩
def dZ(d:∀i,(X i).K=K:=by intro _;rfl):QI K X ixF:=⟨_,fun i=>kIx<|d i,aEi⟩
def zT(d:∀i,(X i).K=K:=by intro _;rfl):QN K X (.builtin "len") jS:=⟨_,fun i=>aHc<|d i,WH⟩
def aDL(d:∀i,(X i).K=K):QN K X (.type "list") GN:=⟨_,fun i=>aFj<|d i,RS⟩
def vT(d:∀i,(X i).K=K):QN K X (.type "tuple") jK:=⟨_,fun i=>aCr<|d i,NG⟩
def aBL(d:∀i,(X i).K=K)(j:∀i,(X i).calm=true):QN K X (.builtin "all") BU:=⟨_,fun i=>aHe (d i)<|j i,aAq⟩
end
section
variable{P:Ud}{w:World}{K:Fg}{mg:Str->Tf}
def Def.okG{base:Heap}{x:Str}{st:Stmt}{N ps:Tc}{k:Nat}{b:SF}{q:Bool}(D:Def K mg x st)(S:aX N ps (aJ st))
 (c:∀(kV doc pm:Tx)(an:Th)(cdv ct:Tx)(us:T4),us.length=ps.length->bindArgs (PySem.W.fnOf x x (eG st) (bU st) (aJ st) .none kV doc pm an cdv ct) ⟨us,[]⟩=pure (ps.zip us))
 (a:∀(f:Ub)(cdv:Tx)(A:Ue)(outer:Tv Env)(s:Ua)(H:Hp)(E:XK),cL k (A.deeper<|envOfC x (aJ st) s.heap.objs.size f cdv) q->
  ML K (fun _:Unit=>(lB CX0 P w K mg base N x (aJ st) f cdv A outer s H E q).nox) (bU st) b):Callee P w K mg base (k+1) x ps (spM K (fnF ps.length N.length b)) q:=
 D.okM S c fun f cdv A outer s H E d=>by
  obtain⟨t,e,g⟩:=(a f cdv A outer s H E d).ex;exact⟨t,e (),g⟩
def Def.okLG{x p:Str}{st:Stmt}{N:Tc}{k:Nat}{b:SF}{F:FN}(D:Def K mg x st)(S:aX N [p] (aJ st))(c:F=fnF 1 N.length b)
 (d:∀(kV doc pm:Tx)(an:Th)(cdv ct:Tx)(us:T4),us.length=[p].length->bindArgs (PySem.W.fnOf x x (eG st) (bU st) (aJ st) .none kV doc pm an cdv ct) ⟨us,[]⟩=pure ([p].zip us))
 (a:∀(base:Heap)(f:Ub)(cdv:Tx)(A:Ue)(outer:Tv Env)(s:Ua)(H:Hp)(E:XK),cL k (A.deeper<|envOfC x (aJ st) s.heap.objs.size f cdv)->
  ML K (fun _:Unit=>(lB CX0 P w K mg base N x (aJ st) f cdv A outer s H E).nox) (bU st) b):
 ∃f fd,mg x=Z (.ref f)/\(∀(s:Ua)(u:Tx),BindsTo s fd ⟨[u],[]⟩ [(p,u)])/\∀base,kX P w K mg base CX0 (k+1) f fd [p] (spM K F):=
 D.okL S c d fun base f cdv A outer s H E e=>by
  obtain⟨t,g,h⟩:=(a base f cdv A outer s H E e).ex;exact⟨t,g (),h⟩
end
end L2
namespace HT
open PySem PyProof.Rows PySem.Spec
section
variable{prog:Ud}{w:World}{A:Ue}{E:T0}{s:Ua}
def getItem_tuple_whole{t sl:Ub}{items:Ti}{vl e:Tx}{lo hi:Tk}{Q:T0}(ht:IsTup s.heap t items)(hs:s.heap.IsSliceOf sl vl e .none)(g:IsPart vl lo)(i:IsPart e hi)
 (f:sIx items.size 0 lo=0/\sIx items.size items.size hi=items.size) (h:Q (.ref t) s):wpAny (model prog w) A (getItem (.ref t) (.ref sl)) Q E s:=by
 obtain⟨os,b,c,j⟩:=id hs;have d:s.TypeIs (.ref sl) "slice":=⟨os,b,c⟩;unfold getItem
 try with_reducible refine J4 ?_
 first|refine A0 (A4 ?_)|skip
 refine A0<|wpAny_sequenceKey ht.typeIs (by decide) ?_
 refine A0 (F7 (name:=Str.ofString "__getitem__") ht.typeIs O1
  (F4 O1 ht.typeIs entry_tuple_getitem ?_ (args_tuple_getitem _ _)))
 show wpAny _ _ (Builtin.Tuple.tupleItemsOf (.ref t) >>= _) _ _ s;refine A0<|tupleItemsOf_ ht ?_;refine A0<|wpAny_typeOf d ?_;rw[A7 (by decide)];refine A0<|lZ hs g i ?_
 have a:(((sIx items.size 0 lo:Nat):Int)==0&&(1:Int)==1&&(sIx items.size items.size hi-sIx items.size 0 lo)==items.size)=true:=by
  rw[f.1,f.2];simp
 show wpAny _ _ (if (((sIx items.size 0 lo:Nat):Int)==0&&(1:Int)==1&&(sIx items.size items.size hi-sIx items.size 0 lo)==items.size)=true then _ else _) _ _ s;rw[A7 a];refine A0 (m:=Builtin.Tuple.tupleIsExact (.ref t)) ?_;unfold Builtin.Tuple.tupleIsExact;refine A0<|wpAny_typeOf ht.typeIs<|A4 ?_;rw[A7 (by decide)];exact A0<|Z7<|A4 ⟨_,rfl,A4 h⟩
end
end HT
namespace L2
variable{W:Wd}{H:Hp}{M:Sto}{K:Fg}{apos cpos:Pos}
open PySem PySem.Spec PyProof.Rows
def aGE(K:Fg):V->Tk->Tk->Hp->VK->Prop:=fun x lo hi H Q=>∃a xs,x=.ref a/\SqT K H a xs/\(HT.sIx xs.length 0 lo=0/\HT.sIx xs.length xs.length hi=xs.length)/\Q (.ref a) H
def RB{X:Cx}:SlR X (aGE X.K):=by
 intro pins s j H x v vl k lo hi sl Q I d hs e f h;obtain⟨a,xs,rfl,g,i,q⟩:=h;cases d;obtain⟨c,r,ht,l⟩:=I.tuple g;have b:c.toArray.size=xs.length:=by rw[B9];exact r.length.symm
 refine⟨"tuple",_,PyProof.Rows.slot_tuple_getitem.lookup,ht.typeIs,?_⟩;exact HT.getItem_tuple_whole ht hs e f (by rw[b];exact i) ⟨.ref a,H,I,rfl,q⟩
def lV{a:Type}(xs:Tv a)(lo hi:Tk):Tv a:=(xs.drop<|HT.sIx xs.length 0 lo).take (HT.sIx xs.length xs.length hi-HT.sIx xs.length 0 lo)
abbrev OF:=Ga->Sto->Tw (Tk×Sto)
def bL:OF:=fun _ M=>Z (Y,M)
def asI:CD->Tk
 |.d (.int i)=>Z i
 |_=>Y
def cF(f:EF):OF:=fun a M=>(f a M).bind fun r=>(asI r.1).bind fun i=>Z (Z i,r.2)
def slF(x:CD)(lo hi:Tk)(M:Sto):Tw (CD×Sto):=match x with
 |.d (.list a)=>Z (.d (.list (lV a lo hi)),M)
 |.d (.tuple a)=>Z (.d (.tuple (lV a lo hi)),M)
 |.c i=>match M[i]? with
  |some (.lst xs)=>(jR<|lV xs lo hi).bind fun a=>Z (.d (.list a),M)
  |_=>Y
 |_=>Y
def fSl(f:EF)(l u:OF):EF:=fun a M=>(f a M).bind fun r=>(l a r.2).bind fun p=>(u a p.2).bind fun q=>slF r.1 p.1 q.1 q.2
def aDJ(K:Fg):V->Tk->Tk->Hp->VK->Prop:=fun x lo hi H Q=>aFP K x lo hi H Q\/aGu K x lo hi H Q\/aGE K x lo hi H Q
def kSl{X:Cx}(h:X.K=K):SlR X (aDJ K):=by subst h;exact sl_list.or<|sl_tup.or RB
section
variable{K:Fg}
def SO(K:Fg)(t:TO)(f:OF):Prop:=∀a M b M',f a M=Z (b,M')->∀(W:Wd)(H:Hp)(c:St)(Q:Tk->Hp->Prop),Good K W M H->cM K W a c->(∀W' H',W.Ext W'->Good K W' M' H'->Q b H')->t c H Q
def YO:SO K KP bL:=by
 intro b M x M' a W H c Q G R k;cases a;exact k W H (.refl _) G
def aEO{x:CD}{i:Int}(h:asI x=Z i):x=.d (.int i):=by
 cases x with
 |c n=>cases h
 |t n=>cases h
 |f n=>cases h
 |g _=>cases h
 |d x=>cases x<;>first|cases h;rfl|cases h
def WZ{c:TE}{f:EF}(a:SE K c f):SO K (aBi c) (cF f):=by
 intro p M x M' b W H d Q G R k;obtain⟨⟨y,M1⟩,e,b⟩:=aI b;obtain⟨i,g,b⟩:=aI b;cases b;refine a _ _ _ _ e W H d _ G R fun v h j l m n=>?_;have o:y=_:=aEO g;subst o;exact⟨i,n,k h j l m⟩
def aK.drop{H:Hp}:∀{ds:T3}{vs:Td}(n:Nat),aK K H ds vs->aK K H (ds.drop n) (vs.drop n)
 |_,_,0=>fun h=>h
 |[],vs,n+1=>fun h=>by rw[show vs=[]from h];rfl
 |d::ds,vs,n+1=>fun h=>by
  obtain⟨v,r,rfl,_,a⟩:=h;exact aK.drop n a
def aK.take{H:Hp}:∀{ds:T3}{vs:Td}(n:Nat),aK K H ds vs->aK K H (ds.take n) (vs.take n)
 |_,_,0=>fun h=>rfl
 |[],vs,n+1=>fun h=>by rw[show vs=[]from h];rfl
 |d::ds,vs,n+1=>fun h=>by
  obtain⟨v,r,rfl,a,b⟩:=h;exact⟨v,r.take n,rfl,a,aK.take n b⟩
def aK.cut{ds:T3}{vs:Td}(h:aK K H ds vs)(lo hi:Tk):aK K H (lV ds lo hi) (tN vs lo hi):=by
 unfold lV tN;rw[h.length];exact(h.drop _).take _
def wX{a b:Type}{R:a->b->Prop}:∀{xs:Tv a}{ys:Tv b}(n:Nat),Paired R xs ys->Paired R (xs.drop n) (ys.drop n)
 |_,_,0,h=>h
 |_,_,_+1,.nil=>.nil
 |_,_,n+1,.cons _ t=>wX n t
def qP{a b:Type}{R:a->b->Prop}:∀{xs:Tv a}{ys:Tv b}(n:Nat),Paired R xs ys->Paired R (xs.take n) (ys.take n)
 |_,_,0,h=>.nil
 |_,_,_+1,.nil=>.nil
 |_,_,n+1,.cons r t=>.cons r (qP n t)
def OC{xs:T5}{vs:Td}(h:bY K W xs vs)(lo hi:Tk):bY K W (lV xs lo hi) (tN vs lo hi):=by
 unfold lV tN;rw[Paired.len h];exact qP _<|wX _ h
def QP{x:CD}{lo hi:Tk}{z:CD}{M':Sto}(h:slF x lo hi M=Z (z,M')){v:V}{Q:VK}(G:Good K W M H)(m:cR K W x v)(k:∀w W' H',W.Ext W'->Good K W' M' H'->cR K W' z w->Q w H'):aDJ K v lo hi H Q:=by
 unfold slF at h;split at h
 .rename_i d;cases h;obtain⟨p,us,rfl,f,b⟩:=(show ∃a us,_=V.ref a/\SqL K W.F a us/\aK K W.F d us from m);refine .inl ⟨p,us,rfl,G.fh.seq f,fun l g=>?_⟩;obtain⟨c,G2⟩:=G.lay (o:=.lst (tN us lo hi)) g;exact k _ _ _ c G2 ⟨l,_,rfl,SqL.of aS,aK.same c.ff _ _<|b.cut lo hi⟩
 .rename_i d;cases h;obtain⟨p,us,rfl,f,b⟩:=(show ∃a us,_=V.ref a/\SqT K W.F a us/\aK K W.F d us from m);by_cases j:HT.sIx us.length 0 lo=0/\HT.sIx us.length us.length hi=us.length
  .refine .inr (.inr ⟨p,us,rfl,G.fh.seqT f,j,?_⟩)
   have e:lV d lo hi=d:=by
    unfold lV;rw[b.length,j.1,j.2,<- b.length];simp
   rw[e]at k;exact k _ W H (.refl _) G ⟨p,us,rfl,f,b⟩
  .refine .inr (.inl ⟨p,us,rfl,G.fh.seqT f,j,fun l g=>?_⟩);obtain⟨c,G2⟩:=G.lay (o:=.tup (tN us lo hi)) g;exact k _ _ _ c G2 ⟨l,_,rfl,SqT.of aS,aK.same c.ff _ _<|b.cut lo hi⟩
 .rename_i i;split at h
  .rename_i xs n;obtain⟨d,q,h⟩:=aI h;cases h;obtain⟨us,r,b⟩:=G.lstAt n;rw[m.2];refine .inl ⟨_,us,rfl,SqL.of r,fun l g=>?_⟩;obtain⟨c,G2⟩:=G.lay (o:=.lst (tN us lo hi)) g;exact k _ _ _ c G2 ⟨l,_,rfl,SqL.of aS,aK.same c.ff _ _<|dR q<|OC b lo hi⟩
  .cases h
 .cases h
def aFT{i:TE}{f:EF}{j m:TO}{l u:OF}(a:SE K i f)(b:SO K j l)(c:SO K m u):SE K (tSl (aDJ K) i j m) (fSl f l u):=by
 intro O M x M' d W H e Q G R k;obtain⟨⟨y,M1⟩,o,d⟩:=aI d;obtain⟨⟨p,M2⟩,r,d⟩:=aI d;obtain⟨⟨q,P⟩,s,d⟩:=aI d;refine a _ _ _ _ o W H e _ G R fun v t z g A B=>?_;refine b _ _ _ _ r t z e _ A (R.up g) fun C D h G2=>?_;refine c _ _ _ _ s C D e _ G2 (R.up<|g.trans h) fun S T n E=>?_;exact QP d E (B.up<|h.trans n) fun w F I J L N=>k w F I (((g.trans h).trans n).trans J) L N
def LM:FN:=fun xs M=>match xs with
 |[.d (.int i)]=>Z (.d (.int i),M)
 |[.d (.bool b)]=>Z (.d (.int (if b then 1 else 0)),M)
 |_=>Y
def aEZ:PN K (fun xs H Q=>(∃i,xs=[.int i]/\Q (.int i) H)\/∃k,xs=[.bl k]/\Q (.int (if k then 1 else 0)) H) LM:=by
 intro xs M z M' h W H vs Q G r k;unfold LM at h;split at h
 .rename_i i;cases h;rcases r with _|⟨a,_|_⟩;exact .inl ⟨i,by rw[show _=V.int i from a],k _ W H (.refl _) G rfl⟩
 .rename_i b;cases h;rcases r with _|⟨a,_|_⟩;exact .inr ⟨b,by rw[show _=V.bl b from a],k _ W H (.refl _) G rfl⟩
 .cases h
noncomputable def tyB(T:String)(M:Sto):CD->Bool
 |.d (.list _)=>T=="list"
 |.d (.str _)=>T=="str"
 |.c i=>match M[i]? with
  |some (.lst _)=>T=="list"
  |some (.dk _)=>T=="dict"
  |some (.dt _)=>T=="dict"
  |_=>false
 |_=>false
def ON{T:String}{x:CD}{v:V}(h:tyB T M x=true)(G:Good K W M H)(r:cR K W x v):tyV K T v H:=by
 unfold tyB at h;split at h
 .rename_i e;obtain⟨p,us,rfl,f,g⟩:=(show ∃a us,_=V.ref a/\SqL K W.F a us/\aK K W.F e us from r);exact .inl ⟨eq_of_beq h,us,G.fh.seq f⟩
 .rename_i x;rw[show v=.str x from r];exact eq_of_beq h
 .rename_i i;rw[r.2];split at h
  .rename_i xs b;obtain⟨us,j,g⟩:=G.lstAt b;exact .inl ⟨eq_of_beq h,us,SqL.of j⟩
  .rename_i kvs b;obtain⟨_,o,c,d⟩:=G.cs i _ b (by intro z;cases z);cases o with
   |dK us=>exact .inr (.inr (.inl ⟨eq_of_beq h,.inl ⟨us,c⟩⟩))
   |_=>exact False.elim d
  .rename_i kvs b;obtain⟨_,o,c,d⟩:=G.cs i _ b (by intro z;cases z);cases o with
   |dT us=>exact .inr (.inr (.inl ⟨eq_of_beq h,.inr ⟨us,c⟩⟩))
   |_=>exact False.elim d
  .cases h
 .cases h
abbrev FM:=CD->T5->Sto->Tw (CD×Sto)
def fJ(T:String)(h:FM)(f:EF)(fa:AF):EF:=fun a M=>(f a M).bind fun r=>if tyB T r.2 r.1=true then(fa a r.2).bind fun q=>h r.1 q.1 q.2 else Y
def PM(K:Fg)(r:V->Td->Hp->VK->Prop)(f:FM):Prop:=∀x xs M z M',f x xs M=Z (z,M')->∀(W:Wd)(H:Hp)(v:V)(vs:Td)(Q:VK),Good K W M H->cR K W x v->bY K W xs vs->(∀w W' H',W.Ext W'->Good K W' M' H'->cR K W' z w->Q w H')->r v vs H Q
def CN{T:String}{r:V->Td->Hp->VK->Prop}{h:FM}{d:TE}{f:EF}{e:TA}{fa:AF}(p:PM K r h)(a:SE K d f)(b:SA K e fa):SE K (tBM K T r d e) (fJ T h f fa):=by
 intro g M x M' c W H i Q G R k;obtain⟨⟨y,M1⟩,o,c⟩:=aI c;by_cases hT:tyB T M1 y=true
 .have c:(if tyB T M1 y=true then(fa g M1).bind fun q=>h y q.1 q.2 else Y)=Z (x,M'):=c;rw[A7 hT]at c;obtain⟨⟨J,M2⟩,s,c⟩:=aI c;refine a _ _ _ _ o W H i _ G R fun v t u j l m=>⟨ON hT l m,?_⟩;refine b _ _ _ _ s t u i _ l (R.up j) fun vs z A n G2 B=>?_;exact p _ _ _ _ _ c z A v vs Q G2 (m.up n) B fun w C D E F I=>k w C D ((j.trans n).trans E) F I
 .have c:(if tyB T M1 y=true then(fa g M1).bind fun q=>h y q.1 q.2 else Y)=Z (x,M'):=c;rw[B0 hT]at c;cases c
def FQ{T:String}{r:V->Td->Hp->VK->Prop}{h:FM}{c:TE}{f:EF}(p:PM K r h)(a:SE K c f):SE K (aGw K T r c) (fJ T h f aG):=by
 intro u M x M' b W H g Q G R k;obtain⟨⟨y,M1⟩,i,b⟩:=aI b;have b:(if tyB T M1 y=true then h y [] M1 else Y)=Z (x,M'):=b;by_cases hT:tyB T M1 y=true
 .rw[A7 hT]at b;refine a _ _ _ _ i W H g _ G R fun v j l m d e=>⟨ON hT d e,?_⟩;exact p _ _ _ _ _ b j l v [] Q d e .nil fun w n o q s t=>k w n o (m.trans q) s t
 .rw[B0 hT]at b;cases b
def fV:FM:=fun x a M=>match x,a with
 |.c i,[y]=>match M[i]? with
  |some (.lst xs)=>if xs.length<sizeLine then Z (.d .none,M.set i (.lst (xs++[y])))else Y
  |_=>Y
 |_,_=>Y
def LR:PM K KC fV:=by
 intro x g M z M' h W H v vs Q G d rs k;unfold fV at h;split at h
 .rename_i i y;split at h
  .rename_i xs b;by_cases a:xs.length<sizeLine
   .rw[A7 a]at h;cases h;obtain⟨us,e,c⟩:=G.lstAt b;rcases rs with _|⟨f,_|_⟩;refine⟨W.α i,us,_,d.2,rfl,e,by rw[<- Paired.len c];exact a,?_⟩;exact k _ W _ (.refl _) (G.set b (by intro q;cases q) (c':=.lst (xs++[y])) (show bY K W _ _ from Paired.app c (.cons f .nil))) rfl
   .rw[B0 a]at h;cases h
  .cases h
 .cases h
def MV:FM:=fun x a M=>match x,a with
 |.c i,[]=>match M[i]? with
  |some (.lst xs)=>(xs[xs.length-1]?).bind fun y=>Z (y,M.set i (.lst xs.dropLast))
  |_=>Y
 |_,_=>Y
def yA{a b:Type}{R:a->b->Prop}{xs:Tv a}{ys:Tv b}(h:Paired R xs ys):Paired R xs.dropLast ys.dropLast:=by
 rw[List.dropLast_eq_take,List.dropLast_eq_take,Paired.len h];exact qP _ h
def aEr:PM K aGh MV:=by
 intro x j M z M' h W H v vs Q G c rs k;unfold MV at h;split at h
 .rename_i i;split at h
  .rename_i xs b;obtain⟨y,d,h⟩:=aI h;cases h;obtain⟨us,e,a⟩:=G.lstAt b;obtain⟨u,f,g⟩:=Paired.get a d;cases rs;refine⟨W.α i,us,u,c.2,rfl,e,by rw[<- Paired.len a];exact f,?_⟩;exact k _ W _ (.refl _) (G.set b (by intro q;cases q) (c':=.lst xs.dropLast) (show bY K W _ _ from yA a)) g
  .cases h
 .cases h
end
section
variable{ι:Type}{K:Fg}{X:ι->Cx}{a b c e o:Uc}{es:T7}{f g h:EF}{fa:AF}{pos:Pos}
structure MO(K:Fg)(X:ι->Cx)(e:Tw Uc)(f:OF):Prop where
 ex:∃t,(∀i,PO (X i) e t)/\SO K t f
def fL:MO K X Y bL:=⟨_,fun _=>YS,YO⟩
def eM(x:ME K X e f):MO K X (Z e) (cF f):=by
 obtain⟨t,d,j⟩:=x.ex;exact⟨_,fun i=>ZS<|d i,WZ j⟩
def lM{lo hi:Tw Uc}{l u:OF}{d:Pos}(j:∀i,(X i).K=K)(x:ME K X a f)(y:MO K X lo l)(z:MO K X hi u):ME K X (.Subscript a (.Slice lo hi Y d) pos) (fSl f l u):=by
 obtain⟨t,k,m⟩:=x.ex;obtain⟨v,n,p⟩:=y.ex;obtain⟨q,r,s⟩:=z.ex;exact⟨_,fun i=>SN (kSl<|j i) (k i) (n i)<|r i,aFT m p s⟩
def aFc:QN K X (.type "int") LM:=⟨_,fun _=>NO,aEZ⟩
def tI(d:∀i,(X i).K=K)(x:ME K X o f)(y:MA K X [e] fa)(j:∀env:Env,attributeBase o "append" env (eval o env)=eval o env:=by intro _;rfl)(k:(apos.endLine==cpos.line)=true:=by rfl):
 ME K X (.Call (.Attribute o "append" apos) [e] [] cpos) (fJ "list" fV f fa):=by
 obtain⟨t,l,m⟩:=x.ex;obtain⟨u,n,p⟩:=y.ex;refine⟨_,fun i=>?_,CN LR m p⟩;have:=UV O8 F.slot_list_append F.type_list_append NK (l i) (n i) (apos:=apos) (cpos:=cpos) (j _) (by rw[y.st.1];rfl) k (y.st.1 _)<|y.st.2.plain _ _;rw[d i]at this;exact this
def aCy(d:∀i,(X i).K=K)(x:ME K X o f)(j:∀env:Env,attributeBase o "pop" env (eval o env)=eval o env:=by intro _;rfl)(k:(apos.endLine==cpos.line)=true:=by rfl):
 ME K X (.Call (.Attribute o "pop" apos) [] [] cpos) (fJ "list" MV f aG):=by
 obtain⟨t,l,m⟩:=x.ex;refine⟨_,fun i=>?_,FQ aEr m⟩;have:=QL O8 F.slot_list_pop F.type_list_pop aDg (l i) (apos:=apos) (cpos:=cpos) (j _) k;rw[d i]at this;exact this
end
def Good.freeze(g:Good K W M H){i:Nat}{c:Cell}{o':HO}(hi:M[i]?=Z c)(l:c≠.dead):
 W.Ext { W with F:=upd W.F (W.α i) o' }/\Good K { W with F:=upd W.F (W.α i) o' } (M.set i .dead) (upd H (W.α i) o'):=by
 obtain⟨w,o,m,p⟩:=g.cs i c hi l;have lt:i<M.length:=(List.getElem?_eq_some_iff.mp hi).1;have e:W.Ext { W with F:=upd W.F (W.α i) o' }:=⟨gO.upd w,A9 _,fun _ _=>rfl⟩
 have at_:∀j d,(M.set i .dead)[j]?=Z d->d≠.dead->j≠i/\M[j]?=Z d:=fun j d h hd=>by
  by_cases q:i=j
  .subst q;rw[E8 lt]at h;exact absurd (C5 h).symm hd
  .rw[C6 q]at h;exact⟨fun z=>q z.symm,h⟩
 refine⟨e,?_,by show W.n=_;rw[g.n,S3],fun j d f hd=>?_,fun j k r s f x t v y=>?_,(g.tb.updF fun ps z=>p.nt.1 ps<|C5<|m.symm.trans z).cell m p⟩
 .intro b u a;have a:upd W.F (W.α i) o' b=Z u:=a;by_cases q:b=W.α i
  .subst q;rw[aS]at a;rw[aS];exact a
  .rw[aN q]at a;rw[aN q];exact g.fh b u a
 .obtain⟨q,h⟩:=at_ j d f hd;obtain⟨A,u,B,C⟩:=g.cs j d h hd;have ne:W.α j≠W.α i:=fun z=>q<|g.inj j i d c h hi hd l z;exact⟨by show upd W.F (W.α i) o' (W.α j)=Y;rw[aN ne];exact A,u,by rw[aN ne];exact B,C.up e⟩
 .exact g.inj j k r s (at_ j r f t).2 (at_ k s x v).2 t v y
def qV:EF:=fun _ M=>Z (.d (.dict []),M)
def QW:SE K UE qV:=by
 intro d M x M' a W H e Q G R k;cases a;intro p b;obtain⟨c,G2⟩:=G.lay (o:=.dK []) b;exact k _ _ _ c G2 ⟨p,[],rfl,aS,rfl⟩
def keyOf:CD->Tw Key
 |.d (.int i)=>Z (.inl i)
 |.d (.str x)=>Z (.inr x)
 |_=>Y
section
variable{K:Fg}
def NQ{x:CD}{k:Key}{v:V}(h:keyOf x=Z k)(r:cR K W x v):v=kV k:=by
 unfold keyOf at h;split at h
 .cases h;exact r
 .cases h;exact r
 .cases h
end
section
variable{ι:Type}{K:Fg}{X:ι->Cx}
def yR{pos:Pos}:ME K X (.Dict [] [] pos) qV:=⟨_,fun _=>RA,QW⟩
end
noncomputable def zF(f:Str)(v:CD):Tu->Tu
 |[]=>[(f,v)]
 |(g,x)::r=>if g=f then(g,v)::r else(g,x)::zF f v r
section
variable{K:Fg}
def FY{W:Wd}{f:Str}{x:CD}{v:V}(r:cR K W x v):∀{fs:Tu}{us:Tv (Str×V)},Paired (fun p q=>p.1=q.1/\cR K W p.2 q.2) fs us->Paired (fun p q=>p.1=q.1/\cR K W p.2 q.2) (zF f x fs) (mT f v us)
 |_,_,.nil=>.cons ⟨rfl,r⟩ .nil
 |(g,y)::fs,(b,u)::us,.cons h t=>by
  obtain⟨a,c⟩:=h;have a:g=b:=a;subst a;unfold zF mT;by_cases e:g=f
  .rw[A7 e,A7 e];exact .cons ⟨rfl,r⟩ t
  .rw[B0 e,B0 e];exact .cons ⟨rfl,c⟩ (FY r t)
def AB{W:Wd}{f:Str}{x:CD}:∀{fs:Tu}{us:Tv (Str×V)},Paired (fun p q=>p.1=q.1/\cR K W p.2 q.2) fs us->fs.lookup f=Z x->∃v,us.lookup f=Z v/\cR K W x v
 |_,_,.nil=>fun h=>by cases h
 |(g,y)::fs,(b,u)::us,.cons h t=>fun e=>by
  obtain⟨a,c⟩:=h;have a:g=b:=a;subst a;rw[D4]at e ⊢;by_cases q:(f==g)=true
  .rw[q]at e ⊢;cases e;exact⟨u,rfl,c⟩
  .have d:(f==g)=false:=by simpa using q
   rw[d]at e ⊢;exact AB t e
def Good.objAt{i:Nat}{nm:Str}{fs:Tu}(G:Good K W M H)(h:M[i]?=Z (.obj nm fs)):∃dx us,H (W.α i)=Z (.ins (bH K nm) dx us)/\Paired (fun p q=>p.1=q.1/\cR K W p.2 q.2) fs us:=by
 obtain⟨_,o,b,a⟩:=G.cs i _ h (by intro z;cases z);cases o with
 |ins C dx us=>
  obtain⟨e,p⟩:=a;subst e;exact⟨dx,us,b,p⟩
 |_=>exact False.elim a
def Good.extra(g:Good K W M H){p:Ub}{o:HO}(a:H p=Y):Good K W M (upd H p o):=by
 refine⟨fun b u e=>?_,g.n,fun i c hi f=>?_,g.inj,g.tb.fresh a⟩
 .have:=g.fh b u e;rw[aN (aT this a)];exact this
 .obtain⟨h,o',d,j⟩:=g.cs i c hi f;exact⟨h,o',by rw[aN (aT d a)];exact d,j⟩
def objOf(nm:Str)(M:Sto):CD->Tw (Nat×Tu)
 |.c i=>match M[i]? with
  |some (.obj a fs)=>if a=nm then Z (i,fs)else Y
  |_=>Y
 |_=>Y
def FW{nm:Str}{x:CD}{i:Nat}{fs:Tu}(h:objOf nm M x=Z (i,fs)):x=.c i/\M[i]?=Z (.obj nm fs):=by
 unfold objOf at h;split at h
 .rename_i j;split at h
  .rename_i a b d;by_cases e:a=nm
   .rw[A7 e]at h;cases h;subst e;exact⟨rfl,d⟩
   .rw[B0 e]at h;cases h
  .cases h
 .cases h
def vN(nm f:Str)(e:EF):EF:=fun a M=>(e a M).bind fun r=>(objOf nm r.2 r.1).bind fun p=>(p.2.lookup f).bind fun v=>Z (v,r.2)
def aCq{nm f:Str}{g:TE}{e:EF}(c:Cls K (bH K nm))(n:gT K (bH K nm) f)(a:SE K g e):SE K (aFk K g f) (vN nm f e):=by
 intro C M x M' b W H l Q G R k;obtain⟨⟨y,M1⟩,m,b⟩:=aI b;obtain⟨⟨i,fs⟩,o,b⟩:=aI b;obtain⟨v,p,b⟩:=aI b;cases b;refine a _ _ _ _ m W H l _ G R fun u h q r j s=>?_;obtain⟨rfl,t⟩:=FW o;obtain⟨dx,us,z,A⟩:=j.objAt t;obtain⟨w,B,d⟩:=AB A p;exact⟨h.α i,_,dx,us,w,s.2,z,c,n,B,k w h q r j d⟩
def zS(nm f:Str)(b ev:EF):SF:=fun a M=>(ev a M).bind fun v=>(b a v.2).bind fun o=>(objOf nm o.2 o.1).bind fun p=>if p.2.length<1000 then Z (.nx a,o.2.set p.1 (.obj nm (zF f v.1 p.2)))else Y
def aDe{nm f:Str}{l m:TE}{p ev:EF}(c:Cls K (bH K nm))(n:gT K (bH K nm) f)(a:SE K l p)(b:SE K m ev):SS K (aFq K l m f) (zS nm f p ev):=by
 intro r M o M' d W H e D G R k;obtain⟨⟨y,M1⟩,x,d⟩:=aI d;obtain⟨⟨z,M2⟩,A,d⟩:=aI d;obtain⟨⟨i,fs⟩,B,d⟩:=aI d;by_cases g:fs.length<1000
 .have d:(if fs.length<1000 then Z (Out.nx r,M2.set i (.obj nm (zF f y fs)))else Y)=Z (o,M'):=d;rw[A7 g]at d;cases d;refine b _ _ _ _ x W H e _ G R fun v C E h F I=>?_;refine a _ _ _ _ A C E e _ F (R.up h) fun u s N j G2 J=>?_;obtain⟨rfl,t⟩:=FW B;obtain⟨dx,us,L,w⟩:=G2.objAt t;refine⟨s.α i,_,dx,us,J.2,L,c,n,by rw[<- Paired.len w];exact g,?_⟩;exact k s _ (h.trans j) (G2.set t (by intro q;cases q) (c':=.obj nm (zF f y fs)) (o':=.ins (bH K nm) dx (mT f v us)) ⟨rfl,FY (I.up j) w⟩) e<|R.up<|h.trans j
 .have d:(if fs.length<1000 then Z (Out.nx r,M2.set i (.obj nm (zF f y fs)))else Y)=Z (o,M'):=d;rw[B0 g]at d;cases d
noncomputable def EH:CD->Bool
 |.d .none=>true
 |_=>false
def yX(nm:Str)(h:FN)(fa:AF):EF:=fun a M=>(fa a M).bind fun r=>(h (.c r.2.length::r.1) (r.2++[.obj nm []])).bind fun q=>if EH q.1=true then Z (.c r.2.length,q.2)else Y
def UC{x:CD}(h:EH x=true):x=.d .none:=by
 cases x with
 |c n=>cases h
 |t n=>cases h
 |f n=>cases h
 |g _=>cases h
 |d x=>cases x<;>first|rfl|cases h
def aAM{nm:Str}{h:FN}{m:TA}{fa:AF}(b:SA K m fa):SE K (aBD (bH K nm) (spM K h) [] E0 m) (yX nm h fa):=by
 intro J M x M' a W H s Q G R k;obtain⟨⟨t,M1⟩,u,a⟩:=aI a;obtain⟨⟨z,M2⟩,w,a⟩:=aI a;by_cases e:EH z=true
 .have a:(if EH z=true then Z (CD.c M1.length,M2)else Y)=Z (x,M'):=a;rw[A7 e]at a;cases a;have f:=UC e;subst f;refine b _ _ _ _ u W H s _ G R fun vs n y A g B=>?_;intro p dx C i j;rw[D7];have Ga:=g.extra (o:=.own p) i;have l:(upd y dx (.own p)) p=Y:=by rw[aN (F5 j)];exact C
  have Gb:=Ga.new l (c:=.obj nm []) (o:=.ins (bH K nm) dx []) ⟨rfl,.nil⟩;have q:=n.ext_more p;refine⟨.c M1.length::t,M1++[.obj nm []],n.more p,.d .none,M',Gb,.cons g.newV (bY.up B q),w,fun v D E r F I=>⟨I,?_⟩⟩;exact k _ D E ((A.trans q).trans r) F<|g.newV.up r
 .have a:(if EH z=true then Z (CD.c M1.length,M2)else Y)=Z (x,M'):=a;rw[B0 e]at a;cases a
end
structure BI(P:Ud)(w:World)(K:Fg)(mg:Str->Tf)(base:Heap)(k:Nat)(nm:Str)(ps:Tc)(sp:Sp):Prop where
 ex:∃f fd,kX P w K mg base CX0 k f fd ps sp/\Mk K (bH K nm) f/\Binds K fd ps []/\mg nm=Z (.ref (bH K nm))
section
variable{ι:Type}{K:Fg}{X:ι->Cx}{a b c e o:Uc}{es:T7}{f g h:EF}{fa:AF}{pos:Pos}
def HA{nm d:Str}(j:∀i,(X i).K=K)(k:Cls K (bH K nm))(hn:gT K (bH K nm) d)(x:ME K X o f)(l:∀env:Env,attributeBase o d env (eval o env)=eval o env:=by intro _;rfl):ME K X (.Attribute o d pos) (vN nm d f):=by
 obtain⟨t,m,n⟩:=x.ex;refine⟨_,fun i=>?_,aCq k hn n⟩;have:=aDN (m i) (l _) (pos:=pos);rw[j i]at this;exact this
def IC{nm j:Str}{d:Pos}(k:∀i,(X i).K=K)(l:Cls K (bH K nm))(hn:gT K (bH K nm) j)(x:ME K X o f)(y:ME K X e g)(hs:∀i,swapsWith e (Z (.Attribute o j d)) pos.line (X i).env=pure false:=by intro _;rfl):MS K X (.Assign [.Attribute o j d] e pos) (zS nm j f g):=by
 obtain⟨t,m,n⟩:=x.ex;obtain⟨u,p,q⟩:=y.ex;refine⟨_,fun i=>?_,aDe l hn n q⟩;have:=aCn (m i) (p i)<|hs i;rw[k i]at this;exact this
def LF{k:Nat}{nm:Str}{ps:Tc}{F:FN}{p:Pos}(C:∀i,BI (X i).prog (X i).w (X i).K (X i).mg (X i).base k nm ps (spM K F))(d:∀i,(X i).K=K)(j:∀i,cL (k+1) (X i).A)(y:MA K X (e::es) fa)(l:∀i,Gl (X i) nm:=by intro _;rfl)(hd:(nm==("__debug__":Str))=false:=by decide):
 ME K X (.Call (.Name nm p) (e::es) [] pos) (yX nm F fa):=by
 obtain⟨u,n,q⟩:=y.ex;refine⟨_,fun i=>?_,aAM q⟩;obtain⟨f,fd,r,M,B,m⟩:=(C i).ex;have:=YX M r (j i) (l i) m B .nil SY (n i) hd (y.st.1 _) (y.st.2.plain _ _) (p:=p) (pos:=pos);rw[d i]at this;exact this
end
structure aAh(K:Fg)(nm m qual:Str)(st:Stmt):Prop where
 ex:∃f fd,Fun K m qual st f fd/\PySem.W.findIn K (.ref (bH K nm)) m=Z (Z (.ref f))/\PySem.W.isFn K (.ref f)=true
section
variable{P:Ud}{w:World}{K:Fg}{mg:Str->Tf}{base:Heap}
def Fun.okQ{x qual:Str}{st:Stmt}{N ps:Tc}{k:Nat}{b:SF}{f:Ub}{fd:FuncData}(F:Fun K x qual st f fd)(S:aX N ps (aJ st))
 (c:∀(f:Ub)(cdv:Tx)(A:Ue)(outer:Tv Env)(s:Ua)(H:Hp)(E:XK),cL k (A.deeper<|envOfC qual (aJ st) s.heap.objs.size f cdv)->
  ML K (fun _:Unit=>(lB CX0 P w K mg base N qual (aJ st) f cdv A outer s H E).nox) (bU st) b):kX P w K mg base CX0 (k+1) f fd ps (spM K (fnF ps.length N.length b)):=by
 have len:∀vs H Q E,spM K (fnF ps.length N.length b) vs H Q E->vs.length=ps.length:=fun vs H Q E h=>by
  obtain⟨xs,M,W,y,M',G,R,a,_⟩:=h;by_cases d:xs.length=ps.length
  .rw[<- Paired.len R];exact d
  .unfold fnF at a;rw[B0 d]at a;cases a
 refine F.ok S len fun cdv A outer s H vs Q E m h=>?_;obtain⟨t,n,hS⟩:=(c f cdv A outer s H E m).ex;refine⟨t,n (),?_⟩;obtain⟨xs,M,W,y,M',G,R,a,k⟩:=h;by_cases d:xs.length=ps.length
 .unfold fnF at a;rw[A7 d]at a;obtain⟨⟨o,M1⟩,p,a⟩:=aI a
  have q:cM K W (xs.map Z++List.replicate (N.length-xs.length) Y) (start N vs):=by
   unfold start;rw[<- Paired.len R];exact Paired.app (bY.some R)<|pN _
  refine hS _ _ _ _ p W H _ _ G q fun e g i j=>?_;cases o with
  |rt x=>cases a;exact fun v r=>k v e g i j r
  |nx l=>cases a;exact fun u r=>k .non e g i j rfl
  |bk l=>cases a
  |ct l=>cases a
 .unfold fnF at a;rw[B0 d]at a;cases a
def aAh.okI{nm qual:Str}{st:Stmt}{N ps:Tc}{k:Nat}{b:SF}(D:aAh K nm "__init__" qual st)(hm:PySem.W.makesIn K (bH K nm)=true)(c:PySem.W.keepIn K (.ref (bH K nm))=true)(d:mg nm=Z (.ref (bH K nm)))(S:aX N ps (aJ st))
 (e:∀(kV doc pm:Tx)(an:Th)(cdv ct:Tx)(us:T4),us.length=ps.length->bindArgs (PySem.W.fnOf "__init__" qual (eG st) (bU st) (aJ st) .none kV doc pm an cdv ct) ⟨us,[]⟩=pure (ps.zip us))
 (a:∀(f:Ub)(cdv:Tx)(A:Ue)(outer:Tv Env)(s:Ua)(H:Hp)(E:XK),cL k (A.deeper<|envOfC qual (aJ st) s.heap.objs.size f cdv)->
  ML K (fun _:Unit=>(lB CX0 P w K mg base N qual (aJ st) f cdv A outer s H E).nox) (bU st) b):BI P w K mg base (k+1) nm ps (spM K (fnF ps.length N.length b)):=by
 obtain⟨f,fd,F,g,h⟩:=D.ex;exact⟨f,fd,F.okQ S a,⟨hm,g,h,c⟩,F.binds e,d⟩
end
section
variable{K:Fg}
def AJ{a b:Type}{R:a->b->Prop}:∀{xs:Tv a}{ys:Tv b},Paired R xs ys->Paired R xs.reverse ys.reverse
 |_,_,.nil=>.nil
 |_,_,.cons h t=>by
  rw[List.reverse_cons,List.reverse_cons];exact Paired.app (AJ t) (.cons h .nil)
def iV:FM:=fun x a M=>match x,a with
 |.c i,[]=>match M[i]? with
  |some (.lst xs)=>Z (.d .none,M.set i (.lst xs.reverse))
  |_=>Y
 |_,_=>Y
def HY:PM K GM iV:=by
 intro x e M z M' h W H v vs Q G b rs k;unfold iV at h;split at h
 .rename_i i;split at h
  .rename_i xs a;cases h;obtain⟨us,c,d⟩:=G.lstAt a;cases rs;refine⟨W.α i,us,b.2,rfl,c,?_⟩;exact k _ W _ (.refl _) (G.set a (by intro q;cases q) (c':=.lst xs.reverse) (show bY K W _ _ from AJ d)) rfl
  .cases h
 .cases h
def aGs:Td->Hp->VK->Prop:=fun xs H Q=>∃i j,xs=[.int i,.int j]/\Q (.int (if j > i then j else i)) H
def aFA:Td->Hp->VK->Prop:=fun xs H Q=>∃i j,xs=[.int i,.int j]/\Q (.int (if j<i then j else i)) H
def sI:FN:=fun xs M=>match xs with
 |[.d (.int i),.d (.int j)]=>Z (.d (.int (if j > i then j else i)),M)
 |_=>Y
def yU:FN:=fun xs M=>match xs with
 |[.d (.int i),.d (.int j)]=>Z (.d (.int (if j<i then j else i)),M)
 |_=>Y
def aAx:PN K aGs sI:=by
 intro xs M z M' h W H vs Q G r k;unfold sI at h;split at h
 .rename_i i j;cases h;rcases r with _|⟨a,_|⟨b,_|_⟩⟩;exact⟨i,j,by rw[show _=V.int i from a,show _=V.int j from b],k _ W H (.refl _) G rfl⟩
 .cases h
def XJ:PN K aFA yU:=by
 intro xs M z M' h W H vs Q G r k;unfold yU at h;split at h
 .rename_i i j;cases h;rcases r with _|⟨a,_|⟨b,_|_⟩⟩;exact⟨i,j,by rw[show _=V.int i from a,show _=V.int j from b],k _ W H (.refl _) G rfl⟩
 .cases h
end
section
variable{ι:Type}{K:Fg}{X:ι->Cx}{a b c e o:Uc}{es:T7}{f g h:EF}{fa:AF}{pos:Pos}
def PU(d:∀i,(X i).calm=true):QN K X (.builtin "max") sI:=⟨_,fun i=>NJ<|d i,aAx⟩
def aDj(d:∀i,(X i).calm=true):QN K X (.builtin "min") yU:=⟨_,fun i=>LP<|d i,XJ⟩
def GT(d:∀i,(X i).K=K)(x:ME K X o f)(j:∀env:Env,attributeBase o "reverse" env (eval o env)=eval o env:=by intro _;rfl)(k:(apos.endLine==cpos.line)=true:=by rfl):
 ME K X (.Call (.Attribute o "reverse" apos) [] [] cpos) (fJ "list" iV f aG):=by
 obtain⟨t,l,m⟩:=x.ex;refine⟨_,fun i=>?_,FQ HY m⟩;have:=QL O8 F.slot_list_reverse F.type_list_reverse HG (l i) (apos:=apos) (cpos:=cpos) (j _) k;rw[d i]at this;exact this
end
open PySem PySem.W PyProof.Rows
def KS{b:Type}(lt:To)(n:Nat):KasT b->(b->Prop)->Prop
 |.ret a,Q=>Q a
 |.ask i j k,Q=>i<n/\j<n/\KS lt n (k<|lt i j) Q
def KS.mono{b:Type}{lt:To}{n:Nat}{Q R:b->Prop}(m:∀a,Q a->R a):∀{t:KasT b},KS lt n t Q->KS lt n t R
 |.ret _=>fun h=>m _ h
 |.ask _ _ _=>fun h=>⟨h.1,h.2.1,KS.mono m h.2.2⟩
def KS.wp{c:Type}{lt:To}{n:Nat}{Q:c->Prop}{R:c->Ua->Prop}{s:Ua}{b:Nat->Nat->(Bool->Ua->Prop)->Ua->Prop}
 (d:∀i j C,i<n->j<n->C (lt i j) s->b i j C s) (m:∀a,Q a->R a s):∀{t:KasT c},KS lt n t Q->KasT.kasWp b t R s
 |.ret _=>fun h=>m _ h
 |.ask _ _ _=>fun h=>d _ _ _ h.1 h.2.1<|KS.wp d m h.2.2
section
variable{lt:To}{n:Nat}
def Inv2(n:Nat)(p:Tj):Prop:=p.Perm (List.range n).toArray
def Inv2.ent{p:Tj}(h:Inv2 n p)(b:0<n)(k:Nat):p.getD k 0<n:=by
 rw[Array.getD_eq_getD_getElem?];cases e:p[k]? with
 |none=>exact b
 |some x=>
  have hm:x∈p:=Array.mem_of_getElem? e;have:=(h.mem_iff (a:=x)).mp hm;simpa using this
def pR{p:Tj}(a:Inv2 n p)(i j:Nat):Inv2 n (kas_rev p i j):=(mirror_perm p i j _).trans a
end
end L2
namespace L2
open PySem PySem.Spec PyProof.Rows
def oQ:T3->Tw (T6)
 |[]=>Z []
 |.int n::r=>(oQ r).bind fun ns=>Z (n::ns)
 |_=>Y
def lY{h:Heap}:∀{ds:T3}{us:T4}{as:T9}{ns:T6},ReadsAll h us ds as->oQ ds=Z ns->IntsAre us ns
 |[],_,_,_=>fun r e=>by cases r;cases e;exact .nil
 |d::ds,_,_,_=>fun r e=>by
  cases r with
  |cons a b=>
   cases d with
   |int n=>
    have e:(oQ ds).bind (fun ns=>Z (n::ns))=Z _:=e;obtain⟨ms,c,f⟩:=Option.bind_eq_some_iff.mp e;cases f;cases a;exact .cons _ _ (lY b c)
   |_=>cases e
def qY:Tz->Tz->Tw Bool
 |.int a,.int b=>Z<|decide (a<b)
 |.tuple xs,.tuple c=>(oQ xs).bind fun ns=>(oQ c).bind fun ms=>Z<|HT.lexLt ns ms
 |_,_=>Y
def gI:T3->T3->Tw Bool
 |[],a=>Z<|decide (0<a.length)
 |_::_,[]=>Z false
 |x::xs,y::a=>if PyData.eqv x y=true then gI xs a else qY x y
noncomputable def isI:Tz->Bool
 |.int _=>true
 |_=>false
section
variable{prog:Ud}{w:World}{A:Ue}{E:T0}{s:Ua}
def aAB{p q:Tx}{x y:Tz}{as bs:T9}{c d:Bool}{Q:Bool->Ua->Prop}(g:A.units<cLine)(e:Reads s.heap p x as)(f:Reads s.heap q y bs)(h:qY x y=Z c)(i:d=true->isI x=true/\isI y=true)(k:Q c s):
 wpAny (model prog w) A (oneLt' d p q) Q E s:=by
 unfold qY at h;split at h
 .rename_i a b;cases e;cases f;cases h;cases d with
  |true=>exact oneLt_int k
  |false=>exact W.kat_one _ _<|lt_int k
 .rename_i xs C;obtain⟨ns,j,h⟩:=Option.bind_eq_some_iff.mp h;obtain⟨ms,l,h⟩:=Option.bind_eq_some_iff.mp h;cases h;cases d with
  |true=>exact absurd (i rfl).1 (by intro z;cases z)
  |false=>
   cases e with
   |tuple m n o r=>
    cases f with
    |tuple t u v B=>
     exact W.kat_one _ _<|HT.lt_tupInts ⟨_,m,n,_,o⟩ ⟨_,t,u,_,v⟩ (lY r j) (lY B l) g k
 .cases h
def JO{b f c:Bool}{Q:Bool->Ua->Prop}(m:A.units+64<cLine)(k:Q c s):∀(xs ys:T3)(us a:T4)(as bs:T9)(i:Nat),ReadsAll s.heap us xs as->ReadsAll s.heap a ys bs->xs.all SeqAt.shaped=true->ys.all SeqAt.shaped=true->
 gI xs ys=Z c->f=decide (us.length<a.length)->((b&&i==0)=true->xs.head?.all isI=true/\ys.head?.all isI=true)->W.KatLex prog w A b f Q (us.zip a) i s
 |[],ys=>fun us a as bs i j g s1 s2 h d l=>by
  cases j
  have p:a.length=ys.length:=by
   clear k h d l s2
   induction g using ReadsAll.rec (motive_1:=fun _ _ _ _=>True)with
   |nil=>rfl
   |cons _ _ _ ih=>simp[ih]
   |_=>trivial
  rw[List.zip_nil_left];refine W.kat_nil ?_;have h:Z (decide (0<ys.length))=Z c:=h;cases h;rw[d,p];exact k
 |x::xs,[]=>fun us a as bs i j g s1 s2 h d l=>by
  cases g;rw[List.zip_nil_right];refine W.kat_nil ?_;cases h;rw[d];simpa using k
 |x::xs,y::ys=>fun us a as bs i j g s1 s2 h d l=>by
  cases j with
  |cons n a2=>
   cases g with
   |cons o q=>
    rw[List.all_cons,B8]at s1 s2;rw[U9];refine W.kat_cons ?_;refine SeqAt.eqAt_reads x y A s _ _ _ _ n o (Y5 s1.1) (Y5 s2.1) (SeqAt.room_of_shaped s1.1 m) _ _ _ _ ?_;have h:(if PyData.eqv x y=true then gI xs ys else qY x y)=Z c:=h;cases e:PyData.eqv x y with
    |true=>
     rw[e,A7 rfl]at h;refine W.kat_yes<|JO m k xs ys _ _ _ _ (i+1) a2 q s1.2 s2.2 h ?_ fun z=>?_
     .rw[d];simp
     .simp at z
    |false=>
     rw[e,B0 A6]at h;refine W.kat_no<|aAB (by omega) n o h (fun z=>?_) k;have:=l z;simpa using this
end
open PySem PySem.W PyProof.Rows
noncomputable def ZW{b:Type}(lt:To):KasT b->b
 |.ret a=>a
 |.ask i j k=>ZW lt<|k<|lt i j
def KA{c:Type}(n:Nat):KasT c->(c->Prop)->Prop
 |.ret a,Q=>Q a
 |.ask i j k,Q=>i<n/\j<n/\∀b,KA n (k b) Q
section
variable{n:Nat}
def KA.bind{c d:Type}{f:c->KasT d}{Q:d->Prop}:∀{t:KasT c},KA n t (fun a=>KA n (f a) Q)->KA n (t.bind f) Q
 |.ret _=>fun h=>h
 |.ask _ _ _=>fun h=>⟨h.1,h.2.1,fun b=>KA.bind<|h.2.2 b⟩
def KA.ks{b:Type}{lt:To}{Q:b->Prop}:∀{t:KasT b},KA n t Q->KS lt n t (fun a=>a=ZW lt t/\Q a)
 |.ret _=>fun h=>⟨rfl,h⟩
 |.ask i j _=>fun h=>⟨h.1,h.2.1,KA.ks<|h.2.2<|lt i j⟩
def KS.run{a:Type}{lt:To}{Q:a->Prop}:∀{t:KasT a},KS lt n t Q->Q (ZW lt t)
 |.ret _=>fun h=>h
 |.ask i j k=>fun h=>KS.run (t:=k<|lt i j) h.2.2
def IJ{p:Tj}(a:Inv2 n p)(c:0<n){Q:Nat->Prop}(q:∀r,Q r):∀(f m:Nat),KA n (kas_asc p f m) Q
 |0=>fun m=>by rw[kas_asc.eq_def];exact q m
 |f+1=>fun m=>by
  rw[kas_asc.eq_def];refine⟨a.ent c _,a.ent c _,fun b=>?_⟩;cases b with
  |true=>exact q m
  |false=>exact IJ a c q f (m+1)
def vW(c:0<n){Q:Tj×Nat×Nat->Prop}(k:∀p m q,Inv2 n p->Q (p,m,q)):∀(f:Nat)(p:Tj)(m q:Nat),Inv2 n p->KA n (kas_desc f p m q) Q
 |0=>fun p m q a=>by rw[kas_desc.eq_def];exact k p m q a
 |f+1=>fun p m q a=>by
  rw[kas_desc.eq_def];refine⟨a.ent c _,a.ent c _,fun b=>?_⟩;cases b with
  |true=>
   dsimp only;rw[A7 rfl];by_cases d:q > 0
   .rw[A7 d];exact vW c k f _ _ _<|pR a _ _
   .rw[B0 d];exact vW c k f _ _ _ a
  |false=>
   dsimp only;rw[B0 A6];refine⟨a.ent c _,a.ent c _,fun b=>?_⟩;cases b with
   |true=>exact k p m q a
   |false=>exact vW c k f _ _ _ a
def DD(b:0<n){p:Tj}{m:Nat}(a:Inv2 n p):KA n (kas_tail3 m n p) (fun r=>Inv2 n r.2):=by
 rw[kas_tail3.eq_def];exact KA.bind<|IJ (pR a 0 m) b (fun r=>pR a 0 m) _ _
def vH(c:0<n){p:Tj}{m:Nat}(g:Inv2 n p):KA n (kas_descPart m n p) (fun r=>Inv2 n r.2):=by
 rw[kas_descPart.eq_def];refine KA.bind<|vW c (fun e b d a=>?_) _ _ _ _ g;show KA n (if d > 0 then kas_tail3 b n (kas_rev e (b-(d+1)) b)else kas_tail3 b n e) _;by_cases f:d > 0
 .rw[A7 f];exact DD c<|pR a _ _
 .rw[B0 f];exact DD c a
def QG(c:0<n){p:Tj}(a:Inv2 n p):KA n (kas_count n p) (fun r=>Inv2 n r.2):=by
 rw[kas_count.eq_def];refine KA.bind<|IJ a c (fun r=>?_) _ _;by_cases e:(r==n)=true
 .rw[A7 e];exact a
 .rw[B0 e];by_cases g:r > 1
  .rw[A7 g];refine⟨a.ent c _,a.ent c _,fun b=>?_⟩;cases b with
   |true=>exact a
   |false=>exact vH c<|pR a _ _
  .rw[B0 g];exact vH c a
def wJ(a:0<n){p:Tj}(c:Inv2 n p){k:Nat}{Q:Nat->Prop}(q:∀l,Q l):∀(f l r:Nat),KA n (kas_place p k f l r) Q
 |0=>fun l r=>by rw[kas_place.eq_def];exact q l
 |f+1=>fun l r=>by
  rw[kas_place.eq_def];show KA n (if l>=r then _ else _) Q;by_cases g:l>=r
  .rw[A7 g];exact q l
  .rw[B0 g];refine⟨c.ent a _,c.ent a _,fun b=>?_⟩;cases b with
   |true=>exact wJ a c q f _ _
   |false=>exact wJ a c q f _ _
def OZ(b:0<n):∀(f:Nat)(p:Tj)(k:Nat),Inv2 n p->KA n (kas_bin f p k) (Inv2 n)
 |0=>fun p k a=>by rw[kas_bin.eq_def];exact a
 |f+1=>fun p k a=>by
  rw[kas_bin.eq_def];exact KA.bind<|wJ b a (fun l=>OZ b f _ (k+1)<|(bubble_perm p k (k-l)).trans a) k 0 k
def LB(d:0<n):KA n (kas_sort n) (Inv2 n):=by
 unfold kas_sort;have:=QG d (p:=(List.range n).toArray)<|Array.Perm.refl _;refine KA.bind ?_
 have mono:∀{c:Type}{Q R:c->Prop}(m:∀a,Q a->R a)(t:KasT c),KA n t Q->KA n t R:=by
  intro c Q R m t
  induction t with
  |ret a=>exact m a
  |ask i j k ih=>exact fun h=>⟨h.1,h.2.1,fun b=>ih b<|h.2.2 b⟩
 refine mono (fun r a=>?_) _ this;by_cases e:r.fst<n
 .rw[A7 e];exact OZ d _ _ _ a
 .rw[B0 e];exact a
def jE(lt:To)(n:Nat):Tv Nat:=(ZW lt<|kas_sort n).toList
def pA(lt:To)(a:0<n):(jE lt n).Perm (List.range n):=by
 have:=KS.run<|KA.ks (lt:=lt)<|LB a;simpa[jE]using Array.perm_iff_toList_perm.mp this.2
end
end L2
namespace L2
variable{H:Hp}{W:Wd}{σ:St}
open PySem PySem.Spec PyProof.Rows
mutual
noncomputable def uT:Tz->Bool
 |.int _=>true
 |.tuple xs=>jJ xs
 |_=>false
noncomputable def jJ:T3->Bool
 |[]=>true
 |x::r=>uT x&&jJ r
end
mutual
def rk{h h':Heap}(k:∀b o vs n,h.get? b=Z o->o.data=.seq vs n->h'.get? b=Z o):∀(d:Tz)(v:Tx)(as:T9),uT d=true->Reads h v d as->Reads h' v d as
 |.int n=>fun _ _ _ r=>by cases r;exact .int _ _
 |.tuple xs=>fun _ _ e r=>by
  cases r with
  |tuple a b c d=>exact .tuple (k _ _ _ _ a c) b c (TX k xs _ _ (by unfold uT at e;exact e) d)
 |.none=>fun _ _ e _=>by unfold uT at e;cases e
 |.bool _=>fun _ _ e _=>by unfold uT at e;cases e
 |.str _=>fun _ _ e _=>by unfold uT at e;cases e
 |.list _=>fun _ _ e _=>by unfold uT at e;cases e
 |.dict _=>fun _ _ e _=>by unfold uT at e;cases e
def TX{h h':Heap}(k:∀b o vs n,h.get? b=Z o->o.data=.seq vs n->h'.get? b=Z o):∀(f:T3)(vs:T4)(as:T9),jJ f=true->ReadsAll h vs f as->ReadsAll h' vs f as
 |[]=>fun _ _ _ r=>by cases r;exact .nil
 |d::f=>fun _ _ e r=>by
  cases r with
  |cons a b=>
   unfold jJ at e;rw[B8]at e;exact .cons (rk k d _ _ e.1 a) (TX k f _ _ e.2 b)
end
def ReadsAll.at{h:Heap}:∀{ds:T3}{vs:T4}{as:T9}(i:Nat),ReadsAll h vs ds as->i<ds.length->∃bs,Reads h (vs.getD i .none) (ds.getD i .none) bs
 |[],_,_,i=>fun _ hi=>absurd hi<|Nat.not_lt_zero _
 |d::ds,_,_,0=>fun r _=>by cases r with|cons a b=>exact⟨_,a⟩
 |d::ds,_,_,i+1=>fun r hi=>by
  cases r with
  |cons a b=>
   obtain⟨bs,x⟩:=ReadsAll.at i b<|Nat.lt_of_succ_lt_succ hi;exact⟨bs,x⟩
def ReadsAll.len{h:Heap}:∀{ds:T3}{vs:T4}{as:T9},ReadsAll h vs ds as->vs.length=ds.length
 |[],_,_=>fun r=>by cases r;rfl
 |d::ds,_,_=>fun r=>by
  cases r with
  |cons a b=>simp[ReadsAll.len b]
section
variable{prog:Ud}{w:World}{A:Ue}{E:T0}{s:Ua}
def aEd{b c:Bool}{p q:Tx}{xs ys:T3}{as bs:T9}{Q:Bool->Ua->Prop}(a:A.units+64<cLine)(d:Reads s.heap p (.tuple xs) as)(e:Reads s.heap q (.tuple ys) bs)
 (s1:xs.all SeqAt.shaped=true) (s2:ys.all SeqAt.shaped=true) (h:gI xs ys=Z c) (f:b=true->xs.head?.all isI=true/\ys.head?.all isI=true) (k:Q c s):wpAny (model prog w) A (keyLt' (tuples' b) p q) Q E s:=by
 cases d with
 |tuple g a2 a3 a4=>
  cases e with
  |tuple i l j b4=>
   refine PySem.W.kat_lt g a3 i j<|JO a k xs ys _ _ _ _ 0 a4 b4 s1 s2 h (by simp) fun z=>f ?_;simpa using z
noncomputable def nH(a:Tv (T3)):Bool:=a.all fun r=>match r with
 |.int _::_=>true
 |_=>false
noncomputable def nW(a:Tv (T3)):Bool:=a.all fun r=>match r with
 |.tuple _::_=>true
 |_=>false
def aCC{M:Model}{h:Heap}(n:Int)(t:Tok):PySem.W.Looks M h (typeOf (.int n t)) (.type "int"):=fun A Q E s _ q=>by
 show wpAny M A (pure _) Q E s;exact A4 q
def firstsI{h:Heap}:∀{c:Tv (T3)}{vs:T4}{as:T9},ReadsAll h vs (c.map .tuple) as->nH c=true->∃fs,PySem.W.KatTups h vs fs/\fs.length=c.length/\∀v∈fs,∃n t,v=.int n t
 |[],_,_=>fun r _=>by cases r;exact⟨[],.nil,rfl,fun v g=>nomatch g⟩
 |x::c,_,_=>fun r e=>by
  unfold nH at e;rw[List.all_cons,B8]at e;cases r with
  |cons a b=>
   obtain⟨fs,k,m,p⟩:=firstsI b (by unfold nH;exact e.2);cases x with
   |nil=>exact absurd e.1 (by decide)
   |cons d C=>
    cases d with
    |int n=>
     cases a with
     |tuple q u y j=>
      rename_i o vs D ;generalize g:vs.toList=l at j;cases j with
      |cons B F=>
       cases B with
       |int _ t=>
        refine⟨.int n t::fs,.cons q u y (f:=.int n t) ?_ k,by simp[m],?_⟩
        .rw[<- J6,g];rfl
        .intro v i;rcases List.mem_cons.mp i with z|z
         .exact⟨_,_,z⟩
         .exact p v z
    |_=>exact absurd e.1 (by intro z;cases z)
end
section
variable{prog:Ud}{w:World}{A:Ue}{E:T0}{s:Ua}
def aCO{M:Model}{h:Heap}{a:Ub}{o:Obj}(g:h.get? a=Z o)(c:o.cls=.type "tuple"):PySem.W.Looks M h (typeOf (.ref a)) (.type "tuple"):=fun A Q E s k q=>wpAny_typeOf (show s.TypeIs (.ref a) "tuple" from⟨o,k _ _ g,c⟩) q
def JN{h:Heap}:∀{c:Tv (T3)}{vs:T4}{as:T9},ReadsAll h vs (c.map .tuple) as->nW c=true->∃fs,PySem.W.KatTups h vs fs/\fs.length=c.length/\∀v∈fs,∃a o,v=.ref a/\h.get? a=Z o/\o.cls=.type "tuple"
 |[],_,_=>fun r _=>by cases r;exact⟨[],.nil,rfl,fun v g=>nomatch g⟩
 |x::c,_,_=>fun r e=>by
  unfold nW at e;rw[List.all_cons,B8]at e;cases r with
  |cons a b=>
   obtain⟨fs,m,n,p⟩:=JN b (by unfold nW;exact e.2);cases x with
   |nil=>exact absurd e.1 (by decide)
   |cons d D=>
    cases d with
    |tuple F=>
     cases a with
     |tuple q t u j=>
      rename_i o vs G;generalize g:vs.toList=l at j;cases j with
      |cons y I=>
       cases y with
       |@tuple k _ _ _ _ _ B C J K=>
        refine⟨.ref k::fs,.cons q t u (f:=.ref k) ?_ m,by simp[n],?_⟩
        .rw[<- J6,g];rfl
        .intro v i;rcases List.mem_cons.mp i with z|z
         .exact⟨_,_,z,B,C⟩
         .exact p v z
    |_=>exact absurd e.1 (by intro z;cases z)
def MJ{M:Model}{b:Tv (T3)}{vs:T4}{as:T9}{Q:SortKind->Ua->Prop}(r:ReadsAll s.heap vs (b.map .tuple) as)(j:0<b.length)(hk:nH b=true\/nW b=true)(q:Q (tuples'<|nH b) s):wpAny M A (keyKind' vs.toArray) Q E s:=by
 rcases hk with hk|hk
 .obtain⟨fs,f,k,h⟩:=firstsI r hk;rw[hk]at q;refine PySem.W.kat_kind (T:=.type "int") f (by omega) (fun v i=>?_) (by decide) q;obtain⟨n,t,rfl⟩:=h v i;exact aCC n t
 .obtain⟨fs,f,k,h⟩:=JN r hk
  have e:nH b=false:=by
   cases b with
   |nil=>cases j
   |cons x r=>
    unfold nW at hk;rw[List.all_cons,B8]at hk;cases x with
    |nil=>rfl
    |cons d l=>cases d<;>first|rfl|exact absurd hk.1 (by intro z;cases z)
  rw[e]at q;refine PySem.W.kat_kind (T:=.type "tuple") f (by omega) (fun v i=>?_) (by decide) q;obtain⟨a,o,rfl,g,c⟩:=h v i;exact aCO g c
end
section
variable{X:Cx}{pins:T1}{σ:St}{H:Hp}{s:Ua}{h':Heap}
def cO.there{P:Ud}{w:World}{h:Heap}{a:Ub}{o:HO}(x:cO P w H h a o):∃u,h.get? a=Z u:=by
 induction o with
 |lst xs=>obtain⟨_,_,_,_,e⟩:=x;exact⟨_,e⟩
 |tup xs=>obtain⟨_,_,_,_,e,_⟩:=x;exact⟨_,e⟩
 |dK kvs=>obtain⟨_,_,_,_,o,_,_,e,_⟩:=x;exact⟨_,e⟩
 |dT kvs=>obtain⟨_,_,_,_,o,_,_,e,_⟩:=x;exact⟨_,e⟩
 |set S n=>obtain⟨o,_,_,_,e,_⟩:=x;exact⟨_,e⟩
 |ins C dx fs=>obtain⟨_,_,_,e,_⟩:=x;exact⟨_,e⟩
 |own y=>exact x
 |xd fs=>obtain⟨_,⟨_,_,_,e,_⟩,_⟩:=x;exact⟨_,e⟩
 |rng lo hi=>obtain⟨_,_,_,e⟩:=x;exact⟨_,e⟩
 |frz o u=>exact⟨_,x.1⟩
 |tbl ps=>exact⟨_,x⟩
 |met f b=>exact⟨_,x⟩
 |ext c=>exact x.2.1
def HOk.none{P:Ud}{w:World}{h:Heap}{a:Ub}(x:HOk P w H h)(e:h.get? a=Y):H a=Y:=by
 cases q:H a with
 |none=>rfl
 |some o=>
  obtain⟨u,z⟩:=(x a o q).there;rw[e]at z;cases z
def Inv.laidL{a:Ub}{o:HO}(I:Inv X pins σ H s)(k:∀b u,b≠X.env.locals->s.heap.get? b=Z u->h'.get? b=Z u)(ns:∀m,s.heap.Ns X.env.locals m->h'.Ns X.env.locals m)(f:s.heap.get? a=Y)(new:cO X.prog X.w (upd H a o) h' a o):
 Inv X pins σ (upd H a o) { s with heap:=h' }:=by
 have hn:=I.hok.none f;have nt:∀b u,H b=Z u->b≠X.env.locals:=fun b u e z=>by rw[z,I.free]at e;cases e
 refine I.step (g':=s.gens) (t':=s.toks) (d':=s.drawn) (ch:=[]) (fun _ z=>nomatch z) (fun b o d _ _ e _=>k b o d e) (fun b o d _ _ e _=>⟨o.slots,k b o d e⟩) (fun b o _ e n=>?_) (fun b o _ e=>?_) (fun b xs e=>?_) (fun b o u e=>?_) (fun b ps e=>⟨#[],?_⟩) ns ?_ I.bare
 .rw[aN (fun z=>by subst z;rw[f]at e;cases e)];exact n
 .by_cases z:b=X.env.locals
  .subst z;obtain⟨m,hm,_⟩:=I.loc;obtain⟨o',_,_,q,_⟩:=ns m hm;exact⟨o',q⟩
  .exact⟨o,k b o z e⟩
 .rw[aN (aT e hn)];exact e
 .rw[aN (aT e hn)];exact e
 .rw[aN (aT e hn)];simpa using e
 .intro b u e;by_cases g:b=a
  .subst g;rw[aS]at e;cases e;exact new
  .rw[aN g]at e;refine(I.hok b u e).stay (fun c v h q=>k c v ?_ q) (fun c q=>by rw[aN (aT q hn)];exact q) fun c xs q=>by rw[aN (aT q hn)];exact q
   rcases h with z|z
   .rw[z];exact nt b _ e
   .exact nt c _ z
def JR{h:Heap}{L:Ub}{m c:Str->Tf}(a:h.Ns L m)(b:h.Ns L c):m=c:=by
 obtain⟨o,es,ep,f,g,_,i⟩:=a;obtain⟨o',j,k,d,e,_,l⟩:=b;rw[f]at d;cases d;rw[g]at e;cases e;funext x;rw[<- i x,l x]
def tG(a:Tv (T3))(i j:Nat):Bool:=(gI (a.getD i [])<|a.getD j []).getD false
def AY{vs:Td}{us:T4}(r:bB vs us):∀ps:Tv Nat,bB (ps.map fun i=>vs.getD i .non) (ps.map fun i=>us.getD i .none)
 |[]=>.nil
 |p::ps=>by
  refine .cons ?_ (AY r ps)
  have go:∀{vs:Td}{us:T4}(i:Nat),bB vs us->RelV (vs.getD i .non) (us.getD i .none):=by
   intro vs us i r
   induction r generalizing i with
   |nil=>exact rfl
   |cons a b ih=>cases i with
    |zero=>exact a
    |succ i=>exact ih i
  exact go p r
end
def sortable(a:Tv (T3)):Bool:=decide (2<=a.length)&&decide (a.length<64)&&a.all (fun r=>r.all SeqAt.shaped&&jJ r)&&(nH a || nW a)&&(List.range a.length).all fun i=>(List.range a.length).all fun j=>(gI (a.getD i [])<|a.getD j []).isSome
def WA(a:Tv (T3)):T3:=(jE (tG a) a.length).map fun i=>.tuple (a.getD i [])
def DR{a:Tv (T3)}(h:sortable a=true):2<=a.length/\a.length<64/\(∀r∈a,r.all SeqAt.shaped=true/\jJ r=true)/\(nH a=true\/nW a=true)/\(∀i j,i<a.length->j<a.length->(gI (a.getD i [])<|a.getD j []).isSome=true):=by
 unfold sortable at h;rw[B8,B8,B8,B8,Bool.or_eq_true]at h;obtain⟨⟨⟨⟨b,c⟩,d⟩,e⟩,f⟩:=h;refine⟨C9 b,C9 c,fun r g=>?_,e,fun i j hi k=>?_⟩
 .have:=List.all_eq_true.mp d r g
  rwa [B8]at this
 .exact List.all_eq_true.mp (List.all_eq_true.mp f i<|List.mem_range.mpr hi) j<|List.mem_range.mpr k
section
variable{K:Fg}
def aK.len{H:Hp}:∀{ds:T3}{vs:Td},aK K H ds vs->vs.length=ds.length
 |[],_=>fun h=>by
  have h:_=[]:=h;rw[h];rfl
 |d::ds,_=>fun h=>by
  obtain⟨v,r,rfl,_,a⟩:=(show ∃v r,_=v::r/\Rep K H d v/\aK K H ds r from h);simp[aK.len a]
def GB{H:Hp}{a:Tv (T3)}{us:Td}(r:aK K H (a.map .tuple) us):∀ps:Tv Nat,(∀i∈ps,i<a.length)->aK K H (ps.map fun i=>.tuple (a.getD i [])) (ps.map fun i=>us.getD i .non)
 |[]=>fun _=>rfl
 |p::ps=>fun b=>by
  refine⟨_,_,rfl,?_,GB r ps fun i hi=>b i<|B4 _ hi⟩;have hi:=b p B7;have f:=aK.len r;rw[A3]at f
  have g:us[p]?=Z (us.getD p .non):=by
   rw[C8,B2 (by omega)];rfl
  obtain⟨d,c,h⟩:=aK.get r g;rw[C0,B2 hi]at c;cases c;have e:a.getD p []=a[p]:=by rw[C8,B2 hi];rfl
  show Rep K H (.tuple (a.getD p [])) (us.getD p .non);rw[e];exact h
def aGC{lt:To}{n:Nat}(a:0<n):∀i∈jE lt n,i<n:=fun i hi=>List.mem_range.mp<|(pA lt a).mem_iff.mp hi
end
def cL.units2{k:Nat}{A:Ue}(r:cL k A):A.in1.in1.units+64<cLine:=by have:=r.un;show A.units+1+1+64<_;omega
section
variable{prog:Ud}{w:World}{A:Ue}{E:T0}{s:Ua}
def vJ{a:Ub}{vs:T4}{n:Nat}{P:PySem.Fin->Ua->Prop}(g:s.heap.get? a=Z (seqObj "list" vs.toArray n))(c:vs.length<2)
 (k:P (.done (.ret .none)) { s with heap:=sortedHeap s.heap a vs vs.toArray }):wpAny (model prog w) A (Builtin.«list.sort» ⟨[.ref a],[]⟩) P E s:=by
 rw[list_sort_plain];have d:vs.toArray.size<=sizeLine:=by rw[B9,E6];omega
 refine A0<|listItems_at g rfl ?_;refine A0<|listUpdate_at g rfl ?_ d (by simp);have b:=get?_update_seq g (fun _=>#[]);have f:=A8 b;refine A0<|seqEpoch_at b rfl ?_;refine A0<|wpAny_newTuple ?_ (by simpa using d);refine A0<|wpAny_newList ?_;refine J4 ?_;have hs:vs.toArray.size<2:=by simpa using c
 dsimp only;rw[A7 hs,A7 hs];refine A0<|A4 ?_;refine A0 ?_;show wpAny (model prog w) A (pure ((),SortSt.mk' general' (vs.toArray.zip vs.toArray) #[] 7 Y)) _ E _;refine A4 ?_;dsimp only;have h:=A1 { cls:=.type "tuple",data:=.seq vs.toArray.toList.toArray } b;have e:=A1 { cls:=.type "list",data:=.seq ([]:T4).toArray } h;refine A0<|seqEpoch_at e rfl ?_
 have hm:Array.map (fun x=>x.snd) (arrOf<|SortSt.mk' general' (vs.toArray.zip vs.toArray) #[] 7 Y)=vs.toArray:=by
  show Array.map (fun x=>x.snd) (vs.toArray.zip vs.toArray)=vs.toArray
  apply Array.ext
  .simp
  .intro i j c;simp
 rw[hm];refine A0<|listUpdate_at e rfl ?_ (by simp) (by omega);rw[B0 (by simp)];exact A4 k
end
def TrS(h B:Heap)(e:Ub)(vs:Ti):Tf->Prop
 |none=>vs[1]?=Z .none
 |some c=>∃T a b,vs[1]?=Z (.ref T)/\B.get? T=Y/\T≠e/\h.get? T=Z a/\a.data=.fields b/\b[3]?=Z c
def Tr(h B:Heap)(e:Ub)(c:Tx)(dx:Th)(st:Tf):Prop:=
 ∃a vs,h.get? e=Z a/\(a.cls=c/\a.dict=dx)/\a.data=.fields vs/\1<vs.size/\TrS h B e vs st
structure Fly(B:Heap)(l:Tv Env)(e:Ub)(c:Tx)(dx:Th)(st:Tf)(h:Heap):Prop where
 stays:B.StaysIn h
 new:B.get? e=Y
 frames:h.FunFrames B l
 tr:Tr h B e c dx st
def Fly.obj{B h:Heap}{l:Tv Env}{e:Ub}{c:Tx}{dx:Th}{st:Tf}(F:Fly B l e c dx st h):∃a vs,h.get? e=Z a/\a.cls=c/\a.dict=dx/\a.data=.fields vs:=by
 obtain⟨a,vs,d,b,f,_⟩:=F.tr;exact⟨a,vs,d,b.1,b.2,f⟩
def YQ(o:Obj)(f:Ti->Ti):(o.mapFields f).dict=o.dict:=by
 obtain⟨c,d,dt,sl⟩:=o;cases dt<;>rfl
section
variable{M:Model}{A:Ue}{E:T0}{s:Ua}{B:Heap}{env:Env}{outer l:Tv Env}{L e:Ub}{c:Tx}{dx:Th}{st:Tf}{Q:Unit->Ua->Prop}
def iU{h:Heap}{a b:Ub}{o d:Obj}{vs:Ti}(ha:h.get? a=Z d)(hd:d.data=.fields vs)(f:h.get? b=Z o)(hn:∀g,o.data≠.fields g):b≠a:=fun q=>by
 subst q;rw[ha]at f;cases f;exact hn vs hd
def FD{h:Obj}{vs:Ti}{hd:Tx}{nx:Bool}(v:A.frames=Z (env::outer))(G:env.frame=Z L)(stays:B.StaysIn s.heap)(new:B.get? e=Y)(fr:s.heap.FunFrames B (env::outer))
 (t:s.heap.get? e=Z h) (C:h.cls=c/\h.dict=dx) (i:h.data=.fields vs) (hz:1<vs.size)
 (q:∀h',Fly B (env::outer) e c dx (Z<|rawInt L) h'->s.heap.UpToSlots h'->Q () { s with heap:=h' }):
 wpAny M A (do let a <- frameOf env;let j <- entryPlaceOf L nx;let b <- EntryCells.newEntry hd a .none (rawInt L) .none j;setField (.ref e) 1 b) Q E s:=by
 have k:e∉(env::outer).filterMap (·.frame):=fun hm=>by
  obtain⟨_,o,I,f⟩:=fr.mem hm;exact iU t i I f rfl
 refine A0 (wpAny_frameOf_fun v fr G fun g u=>A0 (wpAny_entryPlaceOf fun j w=>?_));unfold EntryCells.newEntry newFields;refine A0<|C4 ?_<|w.sizeOk5 _ _ _ _ _;generalize m:({ cls:=.type "traceback",dict:=Y,data:=.fields ([hd,Value.ref L,.none,rawInt L,.none]++(if j.isEmpty then List.replicate 6 Value.none else j)).toArray }:Obj)=n;have x:n.data=.fields ([hd,Value.ref L,.none,rawInt L,.none]++(if j.isEmpty then List.replicate 6 Value.none else j)).toArray:=by rw[<- m]
 have D:g.get? e=Z h:=(u.2.1 e k).trans t;have p:B.StaysIn g:=fun b o d=>(u.2.1 b fun hm=>by rw[(fr.mem hm).1]at d;cases d).trans (stays b o d);have F:(g.push n).get? e=Z h:=A1 n D;refine S4 F i hz<|q _ ?_ ?_
 all_goals
  have r:g.objs.size≠e:=E1<|A8 D;have J:=J1 (Obj.mapFields (·.setIfInBounds 1 (Value.ref g.objs.size))) F<|Y6<|J9 i _
  have kp:∀b o,b≠e->g.get? b=Z o->((g.push n).update e (Obj.mapFields (·.setIfInBounds 1 (Value.ref g.objs.size)))).get? b=Z o:=fun b o y d=>by
   rw[F9 _ _ (F5 y)];exact A1 _ d
 .refine⟨fun b o d=>kp b o (fun z=>by rw[z,new]at d;cases d)<|p b o d,new,fr.of_keeps fun b o d f=>?_,?_⟩
  .obtain⟨sl,hs⟩:=u.2.2 b o d;exact⟨_,kp b _ (iU t i d f) hs,rfl⟩
  .refine⟨_,_,J,⟨(Obj.cls_mapFields _ _).trans C.1,(YQ _ _).trans C.2⟩,J9 i _,by simpa using hz,g.objs.size,n,_,by simp[hz],p.fresh,r,?_,x,by simp⟩;rw[F9 _ _ (F5 r)];exact B3 g (by rw[<- m];rfl)
 .intro b o d f;obtain⟨sl,hs⟩:=u.2.2 b o d;exact⟨sl,kp b _ (iU t i d f) hs⟩
def CP(f:A.frames=Z (env::outer))(i:env.frame=Z L)(F:Fly B (env::outer) e c dx st s.heap)(j:st=Y\/st=Z .none\/st=Z (rawInt L))
 (q:∀h',Fly B (env::outer) e c dx (Z<|rawInt L) h'->s.heap.UpToSlots h'->Q () { s with heap:=h' }):wpAny M A (noteFrame (.ref e) env) Q E s:=by
 obtain⟨t,vs,g,k,h,m,ht⟩:=id F.tr;unfold noteFrame;simp only[i];rcases j with rfl|rfl|rfl
 .refine A0<|D3 g h (show vs[1]?=Z .none from ht) ?_;rw[B0 (by decide)];exact FD f i F.stays F.new F.frames g k h m q
 .obtain⟨T,n,p,t1,t2,t3,t4,t5,t6⟩:=ht;refine A0<|D3 g h t1 ?_;rw[A7 (show(Value.ref T != Value.none)=true from by simp)];refine A0<|D3 t4 t5 t6 ?_;rw[B0 (show ¬((Value.none==rawInt L)=true)from by simp[rawInt])];refine A0<|S4 t4 t5 (Array.getElem?_eq_some_iff.mp t6).1 ?_;have oth:∀b,b≠T->(s.heap.update T<|Obj.mapFields (·.setIfInBounds 3 Value.none)).get? b=s.heap.get? b:=fun b a=>F9 _ _ (F5 a)
  refine FD (s:={ s with heap:=s.heap.update T (Obj.mapFields (·.setIfInBounds 3 Value.none)) }) f i (fun b o a=>(oth b fun z=>by rw[z,t2]at a;cases a).trans (F.stays b o a)) F.new
   (F.frames.of_keeps fun b o a d=>⟨o,(oth b<|iU t4 t5 a d).trans a,rfl⟩) ((oth e<|F5 t3).trans g) k h m fun h' r u=>q h' r fun b o a d=>u b o ((oth b<|iU t4 t5 a d).trans a) d
 .obtain⟨T,n,p,t1,t2,t3,t4,t5,t6⟩:=ht;refine A0<|D3 g h t1 ?_;rw[A7 (show(Value.ref T != Value.none)=true from by simp)];refine A0<|D3 t4 t5 t6 ?_;rw[A7 (show(rawInt L==rawInt L)=true from by simp)];exact A4<|q _ F (.refl _)
def wH{j:Tx}{fo:Th}(F:Fly B l e c dx (Z j) s.heap)
 (q:∀h',Fly B l e c dx (Z (fo.elim .none fun f=>rawInt f)) h'->s.heap.UpToSlots h'->Q () { s with heap:=h' }):wpAny M A (setFlight (.ref e) fo) Q E s:=by
 obtain⟨k,vs,g,m,h,n,T,r,p,t1,t2,t3,t4,t5,t6⟩:=id F.tr;have i:3<p.size:=(Array.getElem?_eq_some_iff.mp t6).1;unfold setFlight;refine A0<|D3 g h t1 ?_;rw[A7 (show(Value.ref T != Value.none)=true from by simp)];have oth:∀b,b≠T->(s.heap.update T<|Obj.mapFields (·.setIfInBounds 3 (fo.elim .none fun f=>rawInt f))).get? b=s.heap.get? b:=fun b a=>F9 _ _<|F5 a
 refine S4 t4 t5 i (q _ ⟨fun b o a=>(oth b fun z=>by rw[z,t2]at a;cases a).trans (F.stays b o a),F.new,F.frames.of_keeps fun b o a d=>⟨o,(oth b<|iU t4 t5 a d).trans a,rfl⟩,
  k,vs,(oth e (F5 t3)).trans g,m,h,n,T,_,_,t1,t2,t3,J1 _ t4 (Y6 (J9 t5 _)),J9 t5 _,by simp[i]⟩
  fun b o a d=>⟨o.slots,(oth b (iU t4 t5 a d)).trans a⟩)
def WB(f:A.frames=Z (env::outer))(h:env.frame=Z L)(F:Fly B (env::outer) e c dx st s.heap)(g:st=Y\/st=Z .none\/st=Z (rawInt L))
 (q:∀h',Fly B outer e c dx (Z .none) h'->s.heap.UpToSlots h'->Q () { s with heap:=h' }):wpAny M A (leaving env (.ref e)) Q E s:=by
 unfold leaving;refine A0 (CP f h F g fun k F1 u1=>wH (fo:=Y) F1 fun i F2 j=>?_);obtain⟨a,b,⟨_,_,c'⟩,d⟩:=F2;exact q i ⟨a,b,c',d⟩<|u1.trans j
def YA{X:T0}(a:A.frames=Z (env::outer))(d:env.frame=Z L)(F:Fly B (env::outer) e c dx st s.heap)(b:st=Y\/st=Z .none\/st=Z (rawInt L))
 (q:∀h',Fly B (env::outer) e c dx (Z<|rawInt L) h'->s.heap.UpToSlots h'->X (.ref e) { s with heap:=h' }):notedBy M A env (cameBackBy M A env X) (.ref e) s:=by
 unfold notedBy;refine CP a d F b fun f F1 u1=>?_;unfold cameBackBy;obtain⟨k,vs,g,m,h,n,T,o,p,t1,t2,t3,t4,t5,t6⟩:=id F1.tr;refine A0<|D3 g h t1 ?_;rw[B0 (show ¬((Value.ref T==Value.none)=true)from by simp),d];exact wH (s:={ s with heap:=f }) (fo:=Z L) F1 fun i F2 j=>q i F2<|u1.trans j
end
structure Body(X:Cx):Prop where
 stk:X.stack=X.env::X.outer
 fr:X.env.frame=Z X.env.locals
 ex:X.ex=[]
structure Kp(X:Cx)(H:Hp)(B h:Heap):Prop where
 trk:∀b u o,H b=Z u->h.get? b=Z o->B.get? b=Z o
 ent:∀b o,X.s₀.heap.get? b=Z o->b∉X.fs->(∃o',B.get? b=Z o')/\(X.H₀ b=Y->B.get? b=Z o)
 pin:∀p∈X.pn,B.get? p.1=Z p.2
section
variable{X:Cx}{pins:T1}{σ:St}{H:Hp}{s:Ua}{B h':Heap}
def Inv.up(I:Inv X [] σ H s)(b:Body X)(k:Kp X H B s.heap)(stays:B.StaysIn h')(u:s.heap.UpToSlots h'):Inv X [] σ H { s with heap:=h' }/\Kp X H B h':=by
 have tr:∀a v o,H a=Z v->s.heap.get? a=Z o->h'.get? a=Z o:=fun a v o e q=>stays a o<|k.trk a v o e q
 have cell:∀c v,s.heap.IsCell c v->h'.IsCell c v:=fun c v ⟨o,E,hd⟩=>by
  obtain⟨sl,q⟩:=u c o E fun vs z=>by rw[hd]at z;cases z
  exact⟨_,q,hd⟩
 have f:∀a∈X.fs,∀o,s.heap.get? a=Z o->∃sl,h'.get? a=Z { o with slots:=sl }:=fun a ha o e=>by
  obtain⟨_,j,C,hn⟩:=I.funs.mem ha;rw[e]at C;cases C;exact u a o e hn
 refine⟨⟨I.ok,I.os,I.bare,⟨fun a o e n ha t=>?_,fun a o e n ha t=>?_,I.base.free,fun a o e t=>?_,I.base.tups,I.base.frzs,I.base.tbls⟩,?_,fun x c e=>?_,I.free,I.freeC,fun p y=>?_,fun a v e=>?_,I.len⟩,⟨fun a v o e q=>?_,k.ent,k.pin⟩⟩
 .exact stays a o<|(k.ent a o e ha).2 n
 .obtain⟨sl,g⟩:=I.base.slot a o e n ha t;obtain⟨A,h⟩:=f a ha _ g;exact⟨A,h⟩
 .by_cases ha:a∈X.fs
  .obtain⟨j,g⟩:=I.base.there a o e t;obtain⟨sl,h⟩:=f a ha j g;exact⟨_,h⟩
  .obtain⟨⟨o',q⟩,_⟩:=k.ent a o e ha;exact⟨o',stays a o' q⟩
 .obtain⟨m,hn,F⟩:=I.loc;refine⟨m,u.ns hn,fun i x v g h G=>?_⟩;obtain⟨J,r,l⟩:=F i x v g h G;refine⟨J,r,?_⟩;rcases l with l|⟨K,c,e,z⟩
  .exact .inl l
  .exact .inr ⟨K,c,e,cell c _ z⟩
 .obtain⟨v,z⟩:=I.cell x c e;exact⟨v,cell c v z⟩
 .rw[D7]at y;obtain⟨_,n,ne,L,d⟩:=I.pin p<|J2 _ y;exact⟨stays _ _<|k.pin p y,n,ne,L,d⟩
 .exact(I.hok a v e).stay (fun c w hc q=>by
   rcases hc with rfl|hc
   .exact tr c v w e q
   .exact tr c _ w hc q) (fun _ q=>q) fun _ _ q=>q
 .obtain⟨j,D⟩:=(I.hok a v e).there;have:=tr a v j e D;rw[q]at this;cases this;exact k.trk a v o e D
def XS(X:Cx)(EE:St->XK)(ev:Tx)(s:Ua):Prop:=
 ∃e c dx st σ H B,ev=.ref e/\Inv X [] σ H s/\Kp X H B s.heap/\Fly B X.stack e c dx st s.heap/\(st=Y\/st=Z .none\/st=Z (rawInt X.env.locals))/\EE σ c dx H
def XS.unwish{EE:St->XK}{E:T0}{ev:Tx}(h:XS (X.wish E) EE ev s):XS X EE ev s:=by
 obtain⟨e,c,dx,st,σ,H,B,b,I,k,F,a,q⟩:=h;exact⟨e,c,dx,st,σ,H,B,b,I.unwish,⟨k.trk,k.ent,k.pin⟩,F,a,q⟩
def CX1(P:Ud)(w:World):CXT:=fun outer H s E ev a=>∃e c dx H' B,ev=.ref e/\a.os=s.os/\AllBare a.gens/\Un (frs outer) [] H H' s.heap a.heap/\HOk P w H' a.heap/\Fly B outer e c dx (Z .none) a.heap /\
 (∀b u o,H' b=Z u->a.heap.get? b=Z o->B.get? b=Z o)/\(∀b o,s.heap.get? b=Z o->b∉frs outer->(∃o',B.get? b=Z o')/\(H b=Y->B.get? b=Z o))/\E c dx H'
def Inv.entry(I:Inv X pins σ H s)(bd:Body X){b:Ub}{o:Obj}(e:X.s₀.heap.get? b=Z o)(a:b∉X.fs):b∉frs X.stack/\(∃c,s.heap.get? b=Z c)/\(X.H₀ b=Y->s.heap.get? b=Z o/\H b=Y):=by
 have nx:b∉X.ex:=by rw[bd.ex];simp
 refine⟨fun z=>?_,I.base.there b o e nx,fun n=>⟨I.base.keep b o e n a nx,I.base.free b o e n nx⟩⟩;rcases List.mem_cons.mp (I.stkSub b z)with q|q
 .exact absurd (q▸B6 (A8 e) I.ok.above)<|I0 _
 .exact a q
def aBZ{EE:St->XK}{ev:Tx}{d:Ua}(bd:Body X)(I:Inv X pins σ H s)(h:CX1 X.prog X.w X.stack H s (EE σ) ev d):XS X EE ev d:=by
 obtain⟨e,c,dx,H',B,rfl,os,bare,un,hok,F,trk,ent,q⟩:=h;have i:Inv X pins σ H' d:=I.call' os un hok bare fun b z=>absurd z (by simp);refine⟨e,c,dx,Z .none,σ,H',B,rfl,i.pins_of fun p f=>absurd f (by simp),⟨trk,fun b o e j=>?_,fun p f=>?_⟩,F,.inr (.inl rfl),q⟩
 .obtain⟨a,⟨k,l⟩,g⟩:=I.entry bd e j;exact⟨(ent b k l a).1,fun n=>(ent b o (g n).1 a).2 (g n).2⟩
 .obtain⟨a,n,ne,m,_⟩:=I.pin p<|J2 _ f;exact(ent p.1 p.2 a fun z=>(List.mem_cons.mp<|I.stkSub p.1 z).elim ne m).2 n
def aCt{EE:St->XK}{e:Ub}{d:Obj}{vs:Ti}(bd:Body X)(I:Inv X pins σ H s)(i:s.heap.get? e=Z d)(hn:H e=Y)(r:X.s₀.heap.get? e=Y)(g:∀p∈X.pn,p.1≠e)(j:d.data=.fields vs)(hz:1<vs.size)(c:vs[1]?=Z .none)
 (q:EE σ d.cls d.dict H):XS X EE (.ref e) s:=by
 have k:e∉frs X.stack:=fun hm=>by
  obtain⟨_,o,t,h⟩:=I.stack.mem hm;exact iU i j t h rfl
 have get:∀b o,b≠e->b∉frs X.stack->s.heap.get? b=Z o->(PySem.W.hideAll s.heap (e::frs X.stack)).get? b=Z o:=fun b o c f v=>PySem.W.hideAll_get _ v fun hm=>(List.mem_cons.mp hm).elim c f;refine⟨e,d.cls,d.dict,Y,σ,H,PySem.W.hideAll s.heap (e::frs X.stack),rfl,I.pins_of fun p g=>absurd g (by simp),⟨fun b u o c f=>?_,fun b o c f=>?_,fun p c=>?_⟩,⟨fun b o c=>PySem.W.of_hideAll _ c,PySem.W.hideAll_none _ B7,?_,d,vs,i,⟨rfl,rfl⟩,j,hz,c⟩,.inl rfl,q⟩
 .exact get b o (aT c hn) (fun z=>by rw[I.stkFree b z]at c;cases c) f
 .obtain⟨l,⟨m,w⟩,x⟩:=I.entry bd c f;have ne:b≠e:=fun z=>by rw[z,r]at c;cases c
  exact⟨⟨m,get b m ne l w⟩,fun n=>get b o ne l (x n).1⟩
 .obtain⟨y,n,ne,k,_⟩:=I.pin p<|J2 _ c;exact get p.1 p.2 (g p c) (fun z=>(List.mem_cons.mp<|I.stkSub p.1 z).elim ne k) y
 .exact PySem.W.funFrames_hide I.stack fun env hm a ha=>B4 _<|List.mem_filterMap.mpr ⟨env,hm,ha⟩
def UF{EE:St->XK}(bd:Body X):PassesOwn (model X.prog X.w) X.A X.env (XS X EE):=by
 rintro ev s ⟨e,c,dx,st,σ,H,B,rfl,I,k,F,a,q⟩;have b:=I.ok.frames;rw[bd.stk]at b F;refine YA b bd.fr F a fun h' d u=>?_;obtain⟨f,g⟩:=I.up bd k d.stays u;exact⟨e,c,dx,_,σ,H,B,rfl,f,g,by rw[bd.stk];exact d,.inr (.inr rfl),q⟩
end
section
variable{P:Ud}{w:World}{K:Fg}{mg:Str->Tf}{base:Heap}{N:Tc}{qual:Str}{scope:Scope}{f:Ub}{cd:Tx}{A:Ue}{outer:Tv Env}{s:Ua}{H:Hp}{E:XK}{CX:CXT}
def JB:Body (lB CX P w K mg base N qual scope f cd A outer s H E):=⟨rfl,rfl,rfl⟩
def Body.wish{X:Cx}(b:Body X)(E:T0):Body (X.wish E):=⟨b.stk,b.fr,b.ex⟩
def VX{ev:Tx}{d:Ua}(h:XS (lB (CX1 P w) P w K mg base N qual scope f cd A outer s H E) (fun _=>E) ev d):(lB (CX1 P w) P w K mg base N qual scope f cd A outer s H E).xe ev d:=by
 obtain⟨e,c,dx,st,σ,H',B,rfl,I,k,F,b,q⟩:=h;refine WB (c:=c) (dx:=dx) (st:=st) (B:=B) (outer:=outer) (L:=s.heap.objs.size) I.ok.frames rfl F b fun h' g u=>?_;obtain⟨a,i⟩:=I.up JB k g.stays u;exact⟨e,c,dx,H',B,rfl,a.os,a.bare,a.base,a.hok,g,i.trk,i.ent,q⟩
def aEf{k:Nat}{name:Str}{a:Arguments}{b:T8}{e kV doc pm cdv ct oc:Tx}{an od:Th}
 {osl:Array (Tf)} {ps:Tc} {sp:Sp} (g:K.lookup f=Z ⟨oc,od,.func (PySem.W.fnOf name qual a b scope e kV doc pm an cdv ct),osl⟩) (d:PySem.W.codeIn K cdv qual=true) (S:aX N ps scope)
 (len:∀vs H Q E,sp vs H Q E->vs.length=ps.length)
 (c:∀(A:Ue)(outer:Tv Env)(s:Ua)(H:Hp)(vs:Td)(Q:VK)(E:XK),cL k (A.deeper<|envOfC qual scope s.heap.objs.size f cdv)->sp vs H Q E->
  ∃t,PSs ((lB (CX1 P w) P w K mg base N qual scope f cdv A outer s H E).wish (XS (lB (CX1 P w) P w K mg base N qual scope f cdv A outer s H E) fun _=>E)) b t/\t { nx:=fun _ H'=>Q .non H',rt:=Q } (start N vs) H):
 kX P w K mg base (CX1 P w) (k+1) f (PySem.W.fnOf name qual a b scope e kV doc pm an cdv ct) ps sp:=
 aAV g d S len fun A outer s H vs Q E i h=>by
  obtain⟨t,ht,j⟩:=c A outer s H vs Q E i h;exact⟨t,fun pins l σ H' D I m=>D5 (ht pins l σ H' D (I.wish _) m) (fun _ _ q=>q.unwish) fun _ _ z=>VX z,j⟩
end
structure UY(K:Fg)(C:Ub):Prop where
 ga:PySem.W.findIn K (.ref C) "__getattribute__"=Z (Z (.builtin "BaseException.__getattribute__"))
 gh:PySem.W.findIn K (.ref C) "__getattr__"=Z Y
 be:PySem.W.subIn K (.ref C) (.type "BaseException")=Z true
 cl:(PySem.W.clsIn K C).isSome=true
section
variable{prog:Ud}{w:World}{A:Ue}{E:T0}{s:Ua}{K:Fg}{x C:Ub}{ox:Obj}{od:Tw Obj}{name:Str}
def CW{tk:Tok}{Q:T0}(X:K.In s.heap)(I:PySem.W.InstAt s.heap x ox C od)(c:UY K C)
 (h:wpAny (model prog w) A.in1 (Builtin.«object.__getattribute__» ⟨[.ref x,.str name tk],[]⟩)
  (fun i j=>match i with|.done (.ret v)=>Q v j|.done _=>False|.again c'=>c'.quiet=true/\codeAny (model prog w) A c' (fun r j=>match r with|.ok (.ret v)=>Q v j|.ok _=>False|.error e=>E e j) j) E s):
 wpAny (model prog w) A (call (.builtin "BaseException.__getattribute__") [.ref x,.str name tk]) Q E s:=by
 have k:=F.entry_bexc_ga;generalize Builtin.«object.__getattribute__»=b at k h;refine wpAny_call<|codeAny_call_builtin F.excAttr_ValueError.ga.plain k ?_;have l:builtinKind "BaseException.__getattribute__"=Z .slot:=by decide +kernel
 have a:splitId "BaseException.__getattribute__"=Z ("BaseException","__getattribute__"):=by decide +kernel
 have ha:=F.args_bexc_ga (.ref x) (.str name tk);have L0:=I.type (M:=model prog w);have m:=PySem.W.looks_subIn (M:=model prog w) X c.be;obtain⟨n,g,d,t,os⟩:=s;simp only[checkBuiltinCall,l,a];refine A0 ?_;unfold isInstance;refine A0<|L0.at<|m.at ?_
 repeat (first|assumption|wp_step)
 refine D5 h (fun i j z=>?_) fun _ _ z=>z;rcases i with(_|_|_|_)|c'
 .exact z
 .exact z
 .exact z
 .exact z
 .exact⟨z.1,Y3 z.2 fun r j q=>by cases r with
   |error e=>exact q
   |ok f=>cases f<;>exact q⟩
def LI{tk:Tok}{fill ex:Bool}{Q:T0}(X:K.In s.heap)(I:PySem.W.InstAt s.heap x ox C od)(c:UY K C)
 (h:wpAny (model prog w) A.in1 (Builtin.«object.__getattribute__» ⟨[.ref x,.str name tk],[]⟩)
  (fun b a=>match b with|.done (.ret v)=>wpAny (model prog w) A (handedOut v) Q E a|.done _=>False|.again c'=>c'.quiet=true/\codeAny (model prog w) A c' (fun r a=>match r with|.ok (.ret v)=>wpAny (model prog w) A (handedOut v) Q E a|_=>False) a) (fun _ _=>False) s):
 wpAny (model prog w) A (getAttrBy (.ref x) (.str name tk) fill ex) Q E s:=by
 have L0:=I.type (M:=model prog w);have i:=PySem.W.looks_findIn (M:=model prog w) X c.ga;have L2:=PySem.W.looks_findIn (M:=model prog w) X c.gh;unfold getAttrBy;refine J4<|A0<|L0.here<|A0<|i.here ?_;have d:(Value.builtin "BaseException.__getattribute__"==Value.builtin "object.__getattribute__")=false:=by decide +kernel
 have g:(onTheHeap (Value.ref C)&&Value.builtin "BaseException.__getattribute__"==Value.builtin "object.__getattribute__")=false:=by rw[d];rfl
 dsimp only;rw[g,B0 A6];unfold getAttrByItsOwn hookBefore;rw[A7 (show onTheHeap (Value.ref C)=true from rfl)];refine A0<|L2.here<|A0<|Z2<|J4 ?_;unfold callGetattribute;rw[B0 (show ¬((ex&&onTheHeap (Value.builtin "BaseException.__getattribute__"))=true)from by cases ex<;>exact A6)];unfold boundAndCalled;rw[F.excAttr_ValueError.ga.bind (.ref x)];refine A0<|A4 ?_;refine D5 (CW (tk:=tk) (name:=name) (E:=fun _ _=>False) (Q:=fun v a=>wpAny (model prog w) A (handedOut v) Q E a) X I c ?_) (fun v a z=>z) fun _ _ z=>z.elim;refine D5 h (fun b a z=>?_) fun _ _ z=>z;rcases b with(_|_|_|_)|c'
 .exact z
 .exact z
 .exact z
 .exact z
 .exact⟨z.1,Y3 z.2 fun r a q=>by cases r with
   |error e=>exact q
   |ok f=>cases f<;>exact q⟩
def NZ{Q:Tf->Ua->Prop}(X:K.In s.heap)(I:PySem.W.InstAt s.heap x ox C od)(c:UY K C)(ha:PySem.W.findIn K (.ref C) "__class__"=Z (Z (.builtin "object.__class__")))
 (hn:PySem.W.specialIn K (.builtin "object.__class__") "__get__"=Z (Z (.builtin "getset_descriptor.__get__"))) (htk:PySem.W.takesIn K (.builtin "object.__class__")=Z true) (hm:PySem.W.mroIn K C (.type "object")=Z true)
 (h:Q (Z (.ref C)) { s with toks:=s.toks+1 }):wpAny (model prog w) A (getAttr? (.ref x) "__class__") Q E s:=by
 have a:PySem.W.findObj K C od "__class__"=Z (.bind (.builtin "getset_descriptor.__get__") (.builtin "object.__class__")):=by
  obtain⟨f,b⟩:=Option.isSome_iff_exists.mp c.cl;unfold PySem.W.findObj;rw[b,A2,ha,A2];simp[hn,htk]
 unfold getAttr? getAttrBy?;refine A0<|wpAny_mkText<|A0<|Z2<|LI (s:={ s with toks:=s.toks+1 }) X I c ?_;obtain⟨i,g,d,t,os⟩:=s;have L0:=I.type (M:=model prog w);have e:=PySem.W.looks_find (M:=model prog w) X I a;refine A0<|A4<|A0<|A4<|A0<|L0.at<|A0<|e.at ?_;show wpAny _ _ (Builtin.ObjectAttr.bindTo (.builtin "getset_descriptor.__get__") (.builtin "object.__class__") (.ref x) (.ref C)) _ _ _;unfold Builtin.ObjectAttr.bindTo;refine A0<|J4<|wpAny_call<|PySem.W.class_get (ox:=ox) (od:=od) X I hm ?_;refine A4 ?_;show wpAny _ _ (handedOut (.ref C)) _ _ _;exact A4<|A4 h
def RD(c:UY K C)(ha:PySem.W.findIn K (.ref C) "__class__"=Z (Z (.builtin "object.__class__")))
 (hn:PySem.W.specialIn K (.builtin "object.__class__") "__get__"=Z (Z (.builtin "getset_descriptor.__get__"))) (htk:PySem.W.takesIn K (.builtin "object.__class__")=Z true) (hm:PySem.W.mroIn K C (.type "object")=Z true):
 PySem.W.KitX K (.ref x) (.ref C) (fun h=>∃ox od,PySem.W.InstAt h x ox C od) where
 ty:=fun _ _ _ ⟨_,_,I⟩=>I.type
 it:=fun _ _ X _=>by
  have hc:=c.cl;unfold PySem.W.clsIn at hc;split at hc
  .rename_i c' d' cd' sl' ho;intro A' Q' E' s' k q;unfold isType loadHead;exact A0<|wpAny_loadPart (k _ _<|X _ _ ho)<|A4 q
  .cases hc
 ne:=fun h tp dd its n sl X htp=>by
  have hc:=c.cl;refine Bool.eq_false_iff.mpr fun q=>?_;have e:C=tp:=Value.ref.inj<|beq_iff_eq.mp q;subst e;unfold PySem.W.clsIn at hc;split at hc
  .rename_i c' d' cd' sl' ho;have z:=(X _ _ ho).symm.trans htp;cases z
  .cases hc
 ca:=fun X ⟨_,_,I⟩ k=>NZ X I c ha hn htk hm k
end
section
variable{X:Cx}{pins:T1}{σ:St}{H:Hp}{s:Ua}
noncomputable def QV(sp:Sp)(EE:St->XK)(t:TA):TE:=fun σ H Q=>t σ H fun vs a=>sp vs a Q<|EE σ
structure kF(P:Ud)(w:World)(K:Fg)(mg:Str->Tf)(base:Heap)(k:Nat)(x:Str)(ps:Tc)(sp:Sp):Prop where
 ex:∃f fd,kX P w K mg base (CX1 P w) k f fd ps sp/\mg x=Z (.ref f)/\PySem.W.keepIn K (.ref f)=true/\Binds K fd ps []
structure XOk(X:Cx)(EE:St->XK):Prop where
 bd:Body X
 pass:∀ev s,XS X EE ev s->X.xe ev s
 own:PassesOwn (model X.prog X.w) X.A X.env X.xe
def XOk.of{X:Cx}(bd:Body X)(EE:St->XK):XOk (X.wish<|XS X EE) EE:=⟨bd.wish _,fun _ _ h=>h.unwish,UF bd⟩
def aAN{EE:St->XK}{k:Nat}{f:Ub}{fd:FuncData}{ps:Tc}{sp:Sp}{Q:VK}{us:T4}{vs:Td}(ok:XOk X EE)(F:kX X.prog X.w X.K X.mg X.base (CX1 X.prog X.w) k f fd ps sp)(c:cL k X.A)(d:Binds X.K fd ps [])
 (I:Inv X pins σ H s) (r:bB vs us) (h:sp vs H Q (EE σ)):wpAny (model X.prog X.w) X.A (call (.ref f) us) (EP X pins σ Q) X.xe s:=by
 have g:us.length=ps.length:=by rw[<- r.length];exact F.len _ _ _ _ h
 have b:=d s us I.kIn (by rw[D7];exact g);rw[D7]at b;refine wpAny_call (Y3 (F.run X.A X.stack s H ⟨us,[]⟩ us vs Q (EE σ) c I.env0 b r h) fun r j a=>?_);cases r with
 |error e=>exact ok.pass _ _<|aBZ ok.bd I a
 |ok i=>
  cases i with
  |ret u=>exact I.after a
  |next=>exact False.elim a
  |brk=>exact False.elim a
  |cont=>exact False.elim a
def XB{EE:St->XK}{k:Nat}{x:Str}{ps:Tc}{sp:Sp}{p pos:Pos}{e:Uc}{es:T7}{t:TA}(ok:XOk X EE)(C:kF X.prog X.w X.K X.mg X.base k x ps sp)(g:cL k X.A)(ha:PA X (e::es) t)(i:Gl X x)
 (a:(x==("__debug__":Str))=false) (j:starEach (e::es) X.env=(false,eval e X.env)::starEach es X.env) (c:(backTo pos<|starEach es X.env).any (·.1)=false):
 PE X (.Call (.Name x p) (e::es) [] pos) (QV sp EE t):=by
 intro pins s σ H Q I h;obtain⟨f,fd,F,m,kp,b⟩:=C.ex;refine J8<|nE I i m ?_ a;exact PySem.W.callWith_K (h₀:=X.base) I.ok.mod.kin kp (thn (ha pos pins s σ H _ I h) fun us s1 ⟨vs,l,d,r,q⟩=>⟨d.kIn,aAN ok F g b d r q⟩) j c
noncomputable abbrev bmV:T4:=[.type "ValueError",.type "Exception",.type "BaseException",.type "object"]
def YU{K:Fg}{h:Heap}{C:Ub}{a:T4}{b:String}(X:K.In h)(q:PySem.W.excIn K C a b=true):
 ∃bm N nm c bs hd sn sub ab col dd k0 k1 k2 k3 k5 mN,h.get? C=Z (excClassObj nm c C N bs bm hd sn sub ab col dd k0 k1 k2 k3 k5 b)/\h.Ns N mN/\mN "__init__"=Y/\OwnTail h a bm:=by
 unfold PySem.W.excIn at q;split at q
 case h_2=>cases q
 case h_1 dd e sl f=>
  split at q
  case h_2=>cases q
  case h_1 r bm k0 k1 k2 k3 n k5 hm hs=>
   simp only[Bool.and_eq_true,beq_iff_eq,Bool.not_eq_true']at q;obtain⟨⟨⟨⟨⟨g,i⟩,j⟩,k⟩,d⟩,m⟩:=q;subst g i;cases e with
   |mk nm bs o ns c hd sn sub ab col p=>
    cases hm;cases j
    have es:sl=#[k0,k1,k2,k3,Z (.builtin n),k5]:=by
     cases sl with
     |mk l=>exact U5 Array.mk hs
    cases es;exact⟨bm,ns,nm,c,bs,hd,sn,sub,ab,col,dd,k0,k1,k2,k3,k5,_,X _ _ f,.of_isNs (PySem.W.isNs_of_in X d),PySem.W.nsMap_none_of_in X d m,PySem.W.tail_of_in X k⟩
def CQ(EE:St->XK)(C:Ub):TS:=fun _ σ H=>EE σ (.ref C) Y H
def MP{EE:St->XK}{C:Ub}{x:Str}{f cpos pos:Pos}(ok:XOk X EE)(g:X.calm=true)(hm:X.mg x=Z (.ref C))(q:PySem.W.excIn X.K C bmV "ValueError.__new__"=true)(i:Gl X x)
 (a:(x==("__debug__":Str))=false):PS X (.Raise (Z (.Call (.Name x f) [] [] cpos)) Y pos) (CQ EE C):=by
 intro pins s σ H D I h;obtain⟨bm,N,nm,j,bs,hd,sn,sub,ab,col,dd,k0,k1,k2,k3,k5,mN,k,l,m,b⟩:=YU I.kIn q
 refine wpAny_Raise_call_subT (C:=C) (nm:=nm) (q:=j) (N:=N) (bs:=bs) (bm:=bm) (hdct:=hd) (sn:=sn) (sub:=sub) (ab:=ab) (col:=col) (dd:=dd) (k0:=k0) (k1:=k1) (k2:=k2) (k3:=k3) (k5:=k5) (mN:=mN)
  F.excBase_ValueError (b.hasType F.excBase_ValueError.hasBase) (I.ok.hd g) rfl m (nE I i hm ⟨rfl,evalArgs_empty ⟨rfl,L8 _,k,l,b,fun h' e mk=>ok.pass _ _ ?_⟩⟩ a)
 obtain⟨t,n,_,_⟩:=mk.there;have r:Inv X pins σ H { s with heap:=h' }:=I.kept mk.keeps
 have hn:H e=Y:=by
  cases z:H e with
  |none=>rfl
  |some u=>
   obtain⟨o,c⟩:=(I.hok e u z).there;rw[mk.new]at c;cases c
 refine aCt ok.bd r n hn ?_ (fun p v z=>?_) rfl (show 1<6 by decide) rfl h
 .cases z:X.s₀.heap.get? e with
  |none=>rfl
  |some o=>
   obtain⟨w,d⟩:=I.base.there e o z (by rw[ok.bd.ex];simp);rw[mk.new]at d;cases d
 .have:=(I.pin p<|J2 _ v).1;rw[z,mk.new]at this;cases this
end
def hCx(X:Cx)(e:Ub):Cx:={ X with A:=X.A.mark<|Z (.ref e),calm:=false,xe:=fun _ _=>False }
noncomputable def vO(X:Cx)(pins:T1):Cx:={ X with pn:=X.pn++pins }
section
variable{X:Cx}{pins:T1}{σ:St}{H:Hp}{s:Ua}
def Inv.toH(I:Inv X pins σ H s)(e:Ub):Inv (hCx X e) pins σ H s:=
 ⟨⟨I.ok.mod,I.ok.kind,I.ok.glob,I.ok.blt,I.ok.above,I.ok.inj,I.ok.has,I.ok.cab,fun z=>(by cases z),I.ok.frames,I.ok.stk,I.ok.exf,I.ok.bs,I.ok.bsz,I.ok.noex,I.ok.exfs,I.ok.funs,I.ok.frf⟩,I.os,I.bare,I.base,I.loc,I.cell,I.free,I.freeC,I.pin,I.hok,I.len⟩
def Inv.ofH{e:Ub}(I:Inv (hCx X e) pins σ H s)(ok:X.Ok):Inv X pins σ H s:=⟨ok,I.os,I.bare,I.base,I.loc,I.cell,I.free,I.freeC,I.pin,I.hok,I.len⟩
def Inv.toP(I:Inv X pins σ H s):Inv (vO X pins) [] σ H s:=
 ⟨⟨I.ok.mod,I.ok.kind,I.ok.glob,I.ok.blt,I.ok.above,I.ok.inj,I.ok.has,I.ok.cab,I.ok.hd,I.ok.frames,I.ok.stk,I.ok.exf,I.ok.bs,I.ok.bsz,I.ok.noex,I.ok.exfs,I.ok.funs,I.ok.frf⟩,I.os,I.bare,I.base,I.loc,I.cell,I.free,I.freeC,fun p a=>I.pin p (by rw[D7]at a;exact a),I.hok,I.len⟩
def Inv.ofP(I:Inv (vO X pins) [] σ H s)(ok:X.Ok):Inv X pins σ H s:=⟨ok,I.os,I.bare,I.base,I.loc,I.cell,I.free,I.freeC,fun p a=>I.pin p (by rw[D7];exact a),I.hok,I.len⟩
def Inv.track{e:Ub}{a:Obj}{vs:Ti}(I:Inv X pins σ H s)(d:s.heap.get? e=Z a)(f:a.data=.fields vs)(hn:H e=Y)(l:X.s₀.heap.get? e=Y)(r:∀p∈X.pn++pins,p.1≠e):
 Inv X pins σ (upd H e (.ext (DV e a.cls a.dict false))) s:=by
 have ne:∀b u,H b=Z u->b≠e:=fun b u z=>aT z hn;refine⟨I.ok,I.os,I.bare,⟨I.base.keep,I.base.slot,fun b o q n t=>?_,I.base.there,fun b xs q=>?_,fun b o u q=>?_,fun b ps q=>?_⟩,I.loc,I.cell,?_,fun x c q=>?_,fun p h=>?_,fun b u q=>?_,I.len⟩
 .rw[aN (fun z=>by rw[z,l]at q;cases q)];exact I.base.free b o q n t
 .have:=I.base.tups b xs q;rw[aN (ne _ _ this)];exact this
 .have:=I.base.frzs b o u q;rw[aN (ne _ _ this)];exact this
 .obtain⟨more,this⟩:=I.base.tbls b ps q;exact⟨more,by rw[aN (ne _ _ this)];exact this⟩
 .obtain⟨m,⟨o,es,ep,g,hd,_⟩,_⟩:=I.loc;rw[aN (iU d f g fun i z=>by rw[hd]at z;cases z)];exact I.free
 .obtain⟨v,o,g,hd⟩:=I.cell x c q;rw[aN (iU d f g fun i z=>by rw[hd]at z;cases z)];exact I.freeC x c q
 .obtain⟨w,y,A⟩:=I.pin p h;exact⟨w,by rw[aN (r p h)];exact y,A⟩
 .by_cases j:b=e
  .subst j;rw[aS]at q;cases q;exact⟨⟨a,vs,d,rfl,rfl,f,fun z=>by cases z⟩,⟨a,d⟩,fun D E ⟨o,i,B,C⟩ k=>⟨o,i,k o B,C⟩⟩
  .rw[aN j]at q;exact(I.hok b u q).stay (fun _ _ _ z=>z) (fun c z=>by rw[aN (ne _ _ z)];exact z) fun c xs z=>by rw[aN (ne _ _ z)];exact z
def pU{M:Model}{A:Ue}{E:T0}{i:Nat}{x:Str}{pos:Pos}{Q:Unit->Ua->Prop}(I:Inv X pins σ H s)(G:X.N.Nodup)(hi:X.N[i]?=Z x)(J:X.env.scope.names.lookup x=Z .local)
 (h:∀C,Inv X pins (σ.set i Y) H C->Q () C):wpAny M A (do bindName X.env x .none;unbindBehindTheSuite X.env x pos) Q E s:=by
 obtain⟨m,hn,K⟩:=id I.loc;have g:(X.env.scope.kind==.class || (X.env.scope.kind==.module&&X.env.locals != X.env.globals))=false:=by rw[I.ok.kind];rfl
 have l:i<σ.length:=by rw[I.len];exact(List.getElem?_eq_some_iff.mp hi).1
 obtain⟨V,_,_,L,_⟩:=id hn;refine wpAny_nameGoes_keeps J hn g fun h' v w hs=>h _ ?_;have a:∀b o,X.s₀.heap.get? b=Z o->b≠X.env.locals:=fun b o q=>B5<|B6 (A8 q) I.ok.above;refine⟨I.ok,I.os,I.bare,⟨fun b o q n B r=>(hs.2 b<|a b o q).trans (I.base.keep b o q n B r),fun b o q n B r=>?_,I.base.free,fun b o q r=>?_,I.base.tups,I.base.frzs,I.base.tbls⟩,⟨_,w,fun j y O f t P=>?_⟩,fun y c q=>?_,I.free,I.freeC,fun p R=>?_,fun b u q=>?_,by simpa using I.len⟩
 .obtain⟨sl,f⟩:=I.base.slot b o q n B r;exact⟨sl,(hs.2 b<|a b o q).trans f⟩
 .obtain⟨o',f⟩:=I.base.there b o q r;exact⟨o',(hs.2 b<|a b o q).trans f⟩
 .have D:j≠i:=fun z=>by
   subst z;rw[E8 l]at t;cases t
  rw[C6 (F5 D)]at t;obtain⟨S,T,z⟩:=K j y O f t P;refine⟨S,T,?_⟩;rcases z with⟨k,e⟩|⟨k,c,e,z⟩
  .have:y≠x:=fun e=>D<|wU G f (e▸hi);exact .inl ⟨k,by simp[this,e]⟩
  .exact .inr ⟨k,c,e,z.sameBut hs<|I.cne y c e⟩
 .obtain⟨F,z⟩:=I.cell y c q;exact⟨F,z.sameBut hs<|I.cne y c q⟩
 .obtain⟨e,n,ne,U,d⟩:=I.pin p R;exact⟨(hs.2 p.1 ne).trans e,n,ne,U,d⟩
 .refine(I.hok b u q).stay (fun c F hc z=>(hs.2 c ?_).trans z) (fun _ z=>z) fun _ _ z=>z;rintro rfl;rcases hc with rfl|hc
  .rw[I.free]at q;cases q
  .rw[I.free]at hc;cases hc
structure HR where
 c:Tx
 n:Tg
 t:TS
def unbN:Tg->St->St
 |none,σ=>σ
 |some i,σ=>σ.set i Y
def setN:Tg->St->V->St
 |none,σ,_=>σ
 |some i,σ,v=>σ.set i<|Z v
def VE(D:Ends)(n:Tg):Ends:={ nx:=fun σ H=>D.nx (unbN n σ) H,rt:=D.rt,bk:=fun σ H=>D.bk (unbN n σ) H,ct:=fun σ H=>D.ct (unbN n σ) H }
def tHs(K:Fg)(D:Ends):Tv HR->St->XK
 |[],_,_,_,_=>False
 |h::r,σ,c,dx,H=>∃b,PySem.W.exmOne K c h.c=Z b/\(if b=true then ∀e,H e=Y->h.t (VE D h.n) (setN h.n σ (.ref e)) (upd H e (.ext (DV e c dx false)))else tHs K D r σ c dx H)
def TH(X:Cx)(hs:Tv ExceptHandler)(rs:Tv HR):Prop:=∀(pins:T1)(D:Ends)(e:Ub)(c:Tx)(dx:Th)(σ:St)(H:Hp)(s:Ua)(B:Heap)(E:T0),X.Ok->Inv (vO X pins) [] σ H s->Kp (vO X pins) H B s.heap->
 Fly B X.stack e c dx (Z .none) s.heap->tHs X.K D rs σ c dx H->wpAny (model X.prog X.w) X.A (handleBy (.ref e) X.env hs) (SP X pins D) E s
def aCV:TH X [] []:=fun _ _ _ _ _ _ _ _ _ _ _ _ _ _ h=>h.elim
def OK(X:Cx)(x:Str)(c:Tx):Prop:=X.mg x=Z c\/(X.mg x=Y/\bootBuiltins x=Z c/\x≠"__name__")
def aCE{x:Str}{c:Tx}{pos:Pos}{E:T0}{Q:T0}(n:OK X x c)(I:Inv X pins σ H s)(a:Gl X x)(hd:(x==("__debug__":Str))=false)(h:Q c s):
 wpAny (model X.prog X.w) X.A (eval (.Name x pos) X.env) Q E s:=by
 rcases n with m|⟨m,b,z⟩
 .exact nE I a m h hd
 .exact jL I a m b h z hd
def Fly.fresh{B h:Heap}{e:Ub}{c:Tx}{dx st:_}(bd:Body X)(I:Inv X pins σ H s)(k:Kp X H B s.heap)(F:Fly B X.stack e c dx st s.heap):H e=Y/\X.s₀.heap.get? e=Y/\∀p∈X.pn,p.1≠e:=by
 obtain⟨d,vs,a,_,_,f⟩:=F.obj;refine⟨?_,?_,fun p g z=>?_⟩
 .cases z:H e with
  |none=>rfl
  |some u=>
   have:=k.trk e u d z a;rw[F.new]at this;cases this
 .cases z:X.s₀.heap.get? e with
  |none=>rfl
  |some o=>
   by_cases b:e∈X.fs
   .obtain⟨_,j,i,hn⟩:=I.funs.mem b;exact absurd rfl<|iU a f i hn
   .obtain⟨⟨o',q⟩,_⟩:=k.ent e o z b;rw[F.new]at q;cases q
 .have:=k.pin p g;rw[z,F.new]at this;cases this
def aFE(X:Cx):Tw Str->Tg->Prop
 |none,none=>True
 |some n,some i=>X.N.Nodup/\X.N[i]?=Z n/\X.env.scope.names.lookup n=Z .local
 |_,_=>False
def WJ{x:Str}{np pos:Pos}{nm:Tw Str}{l:Stmt}{g:T8}{hs:Tv ExceptHandler}{h:HR}{rs:Tv HR}(bd:Body X)(hc:OK X x h.c)(hg:Gl X x)(hd:(x==("__debug__":Str))=false)
 (hn:aFE X nm h.n)
 (hS:∀e,PSs (hCx X e) (l::g) h.t) (hR:TH X hs rs):TH X (.ExceptHandler (Z (.Name x np)) nm (l::g) pos::hs) (h::rs):=by
 intro pins D e c dx σ H s B E ok I k F y;obtain⟨b,hb,y⟩:=y;have L:Body (vO X pins):=⟨bd.stk,bd.fr,bd.ex⟩;obtain⟨oe,vs,he,M,_,hv⟩:=F.obj;have LT:PySem.W.Looks (model X.prog X.w) s.heap (typeOf (.ref e)) c:=M▸(PySem.W.Looks.ld he).andThen .now;have IH:=(I.ofP ok).toH e;have hA:(hCx X e).A=X.A.mark (Z (.ref e)):=rfl;refine wpAny_handleBy_cons (codeAny_handlers_test<|aCE (X:=hCx X e) hc IH hg hd ?_) (by intro z;cases z);refine(PySem.W.exm_one IH.kIn LT hb).here ?_;cases b with
 |false=>exact hR pins D e c dx σ H s B E ok I k F y
 |true=>
  rw[A7 rfl]at y;have U:Fly B (vO X pins).stack e c dx (Z .none) s.heap:=F
  have go:∀(P:Ua->Prop),(∀G,Inv X pins σ (upd H e (.ext (DV e c dx false))) G->P G)->wpAny (model X.prog X.w) (X.A.mark<|Z (.ref e)) (setFlight (.ref e) Y) (fun _ s1=>P s1) (notedBy (model X.prog X.w) (X.A.mark<|Z (.ref e)) X.env fun x G=>cameBackBy (model X.prog X.w) X.A X.env E x G) s:=fun P hP=>by
   refine wH (fo:=Y) U fun V F1 u1=>hP _ ?_;obtain⟨o,k1⟩:=I.up L k F1.stays u1;obtain⟨n1,n2,n3⟩:=Fly.fresh (s:={ s with heap:=V }) (h:=V) L o k1 F1;obtain⟨a0,a1,N,O,Q,R⟩:=F1.obj;have J:=Inv.track o N R n1 n2 fun p hp=>n3 p (by rw[D7]at hp;exact hp);rw[O,Q]at J;exact J.ofP ok
  have S:H e=Y:=(Fly.fresh (h:=s.heap) L I k U).1;have K:=y e S;cases nm with
  |none=>
   cases j:h.n with
   |some i=>rw[j]at hn;exact False.elim hn
   |none=>
    rw[j]at K;refine codeAny_handlers_suite (go _ fun s1 o=>?_);refine D5 (hS e pins s1 σ _ (VE D Y) (o.toH e) K) (fun f s2 z=>?_) fun _ _ z=>z.elim;cases f with
    |next=>obtain⟨a,H',d,q⟩:=z;exact⟨a,H',d.ofH ok,q⟩
    |brk=>obtain⟨a,H',d,q⟩:=z;exact⟨a,H',d.ofH ok,q⟩
    |cont=>obtain⟨a,H',d,q⟩:=z;exact⟨a,H',d.ofH ok,q⟩
    |ret u=>obtain⟨v,a,H',d,r,q⟩:=z;exact⟨v,a,H',d.ofH ok,r,q⟩
  |some n=>
   cases j:h.n with
   |none=>rw[j]at hn;exact False.elim hn
   |some i=>
    rw[j]at hn K;obtain⟨nd,hi,lo⟩:=hn;refine codeAny_handlers_suite_as (go _ fun s1 o=>?_);refine iB (X:=X) o nd hi (.inl lo) (v:=.ref e) rfl (fun s2 J=>?_) (.inr lo);refine D5 (hS e pins s2 _ _ (VE D<|Z i) (J.toH e) K) (fun f s3 z=>?_) fun _ _ z=>z.elim;show wpAny _ _ _ (fun _ C=>SP X pins D f C) E s3;cases f with
    |next=>obtain⟨a,H',d,q⟩:=z;exact pU (d.ofH ok) nd hi lo fun T m=>⟨_,H',m,q⟩
    |brk=>obtain⟨a,H',d,q⟩:=z;exact pU (d.ofH ok) nd hi lo fun T m=>⟨_,H',m,q⟩
    |cont=>obtain⟨a,H',d,q⟩:=z;exact pU (d.ofH ok) nd hi lo fun T m=>⟨_,H',m,q⟩
    |ret u=>obtain⟨v,a,H',d,r,q⟩:=z;exact pU (d.ofH ok) nd hi lo fun T m=>⟨v,_,H',m,r,q⟩
def aCp(K:Fg)(tb:(St->XK)->TS)(rs:Tv HR):TS:=fun D σ H=>tb (tHs K D rs) D σ H
def aDB{b:T8}{h₀:ExceptHandler}{hs:Tv ExceptHandler}{pos:Pos}{tb:(St->XK)->TS}{rs:Tv HR}(bd:Body X)
 (n:∀pins EE,PSs ((vO X pins).wish (XS (vO X pins) EE)) b<|tb EE) (o:TH X (h₀::hs) rs):PS X (.Try b (h₀::hs) [] [] pos) (aCp X.K tb rs):=by
 intro pins s σ H D I h;have i:Body (vO X pins):=⟨bd.stk,bd.fr,bd.ex⟩;refine wpAny_Try_except (D5 (n pins (tHs X.K D rs) [] s σ H D (I.toP.wish _) h) (fun f s1 z=>?_) fun ev s1 z=>?_)
 .cases f with
  |next=>obtain⟨a,H',d,q⟩:=z;exact Z6 ⟨a,H',d.unwish.ofP I.ok,q⟩
  |brk=>obtain⟨a,H',d,q⟩:=z;exact⟨a,H',d.unwish.ofP I.ok,q⟩
  |cont=>obtain⟨a,H',d,q⟩:=z;exact⟨a,H',d.unwish.ofP I.ok,q⟩
  |ret u=>obtain⟨v,a,H',d,r,q⟩:=z;exact⟨v,a,H',d.unwish.ofP I.ok,r,q⟩
 .obtain⟨e,c,dx,st,j,p,B,rfl,l,t,F1,k,q⟩:=z;have m:=l.ok.frames;have g:=F1;rw[i.stk]at g m;refine CP m i.fr g k fun w F2 x=>wH (s:={ s1 with heap:=w }) (fo:=Y) F2 fun G F3 y=>?_;obtain⟨A,C⟩:=l.up i t F2.stays x;obtain⟨E,F⟩:=A.up i C F3.stays y;exact o pins D e c dx j p _ B _ I.ok E F (by rw[bd.stk];exact F3) q
end
structure Exc where
 nm:Str
 fs:Tu
inductive Rs where
 |v (x:CD)|x (e:Exc)
inductive aGq where
 |o (o:Out)|xc (γ:Ga) (e:Exc)
abbrev EX:=Ga->Sto->Option (Rs×Sto)
abbrev AX:=Ga->Sto->Option ((List CD ⊕ Exc)×Sto)
abbrev SFX:=Ga->Sto->Tw (aGq×Sto)
abbrev FX:=T5->Sto->Tw (Rs×Sto)
section
variable(K:Fg)
def ExR(W:Wd)(ex:Exc)(c:Tx)(dx:Th):Prop:=c=.ref (bH K ex.nm)/\DE K W dx ex.fs
def aBG(E:XK)(Q:VK)(W:Wd)(H:Hp):Rs->Prop
 |.v x=>∀v,cR K W x v->Q v H
 |.x ex=>∀c dx,ExR K W ex c dx->E c dx H
def SEX(EE:St->XK)(t:TE)(f:EX):Prop:=∀a M r M',f a M=Z (r,M')->∀(W:Wd)(H:Hp)(σ:St)(Q:VK),Good K W M H->cM K W a σ->(∀W' H',W.Ext W'->Good K W' M' H'->aBG K (EE σ) Q W' H' r)->t σ H Q
def aFL(E:XK)(Q:Td->Hp->Prop)(W:Wd)(H:Hp):T5 ⊕ Exc->Prop
 |.inl xs=>∀vs,bY K W xs vs->Q vs H
 |.inr ex=>∀c dx,ExR K W ex c dx->E c dx H
def SAX(EE:St->XK)(t:TA)(f:AX):Prop:=∀a M r M',f a M=Z (r,M')->∀(W:Wd)(H:Hp)(σ:St)(Q:Td->Hp->Prop),Good K W M H->cM K W a σ->(∀W' H',W.Ext W'->Good K W' M' H'->aFL K (EE σ) Q W' H' r)->t σ H Q
def aDq(EE:St->XK)(D:Ends)(W:Wd)(H:Hp):aGq->Prop
 |.o o=>UW K D W H o
 |.xc a ex=>∀σ c dx,cM K W a σ->ExR K W ex c dx->EE σ c dx H
def SSX(EE:St->XK)(t:TS)(f:SFX):Prop:=∀a M o M',f a M=Z (o,M')->∀(W:Wd)(H:Hp)(σ:St)(D:Ends),Good K W M H->cM K W a σ->(∀W' H',W.Ext W'->Good K W' M' H'->aDq K EE D W' H' o)->t D σ H
def spX(f:FX):Sp:=fun vs H Q E=>∃xs M W r M',Good K W M H/\bY K W xs vs/\f xs M=Z (r,M')/\∀W' H',W.Ext W'->Good K W' M' H'->aBG K E Q W' H' r
end
def liE(f:EF):EX:=fun a M=>(f a M).bind fun r=>Z (.v r.1,r.2)
def liA(f:AF):AX:=fun a M=>(f a M).bind fun r=>Z (.inl r.1,r.2)
def liS(f:SF):SFX:=fun a M=>(f a M).bind fun r=>Z (.o r.1,r.2)
def xCons(f:EX)(g:AX):AX:=fun a M=>(f a M).bind fun r=>match r.1 with
 |.x e=>Z (.inr e,r.2)
 |.v x=>(g a r.2).bind fun q=>match q.1 with
  |.inr e=>Z (.inr e,q.2)
  |.inl xs=>Z (.inl (x::xs),q.2)
def aGz(f:EX)(k:CD->Sto->Tw (Rs×Sto)):EX:=fun a M=>(f a M).bind fun r=>match r.1 with
 |.x e=>Z (.x e,r.2)
 |.v x=>k x r.2
def aBB(f:AX)(k:T5->Sto->Tw (Rs×Sto)):EX:=fun a M=>(f a M).bind fun r=>match r.1 with
 |.inr e=>Z (.x e,r.2)
 |.inl xs=>k xs r.2
def vG(h:FX)(f:AX):EX:=aBB f h
def zX(f g:SFX):SFX:=fun b M=>(f b M).bind fun r=>match r.1 with
 |.o (.nx a)=>g a r.2
 |o=>Z (o,r.2)
def aFK(f:EX):SFX:=fun a M=>(f a M).bind fun r=>match r.1 with
 |.x e=>Z (.xc a e,r.2)
 |.v x=>Z (.o (.rt x),r.2)
def pH(f:EX):SFX:=fun a M=>(f a M).bind fun r=>match r.1 with
 |.x e=>Z (.xc a e,r.2)
 |.v _=>Z (.o (.nx a),r.2)
def aGy(f:EX)(g:GF):SFX:=fun a M=>(f a M).bind fun r=>match r.1 with
 |.x e=>Z (.xc a e,r.2)
 |.v x=>(g x a r.2).bind fun q=>Z (.o (.nx q.1),q.2)
noncomputable def MQ(c:TF)(f g:SFX):SFX:=fun a M=>(c a M).bind fun r=>if r.1=true then f a r.2 else g a r.2
def tJ(nm:Str):SFX:=fun a M=>Z (.xc a ⟨nm,[]⟩,M)
def fnX(ps N:Nat)(b:SFX):FX:=fun xs M=>if xs.length=ps then(b (xs.map Z++List.replicate (N-xs.length) Y) M).bind fun r=>match r.1 with
 |.o (.rt x)=>Z (.v x,r.2)
 |.o (.nx _)=>Z (.v (.d .none),r.2)
 |.xc _ e=>Z (.x e,r.2)
 |_=>Y else Y
def TN:Tg->Ga->Ga
 |none,a=>a
 |some i,a=>a.set i Y
def setG:Tg->Ga->CD->Ga
 |none,a,_=>a
 |some i,a,x=>a.set i<|Z x
def aEM(n:Tg):Out->Out
 |.nx a=>.nx (TN n a)
 |.bk a=>.bk (TN n a)
 |.ct a=>.ct (TN n a)
 |.rt x=>.rt x
structure HMi where
 tab:Tv (Str×Bool)
 n:Tg
 f:SF
def IQ:Tv HMi->Ga->Exc->Sto->Tw (Out×Sto)
 |[],_,_,_=>Y
 |h::r,a,ex,M=>match h.tab.lookup ex.nm with
  |some true=>(h.f (setG h.n a (.c M.length)) (M++[.exc false ex.nm ex.fs])).bind fun q=>Z (aEM h.n q.1,q.2)
  |some false=>IQ r a ex M
  |none=>Y
def MM(b:SFX)(hs:Tv HMi):SF:=fun c M=>(b c M).bind fun r=>match r.1 with
 |.o o=>Z (o,r.2)
 |.xc a ex=>IQ hs a ex r.2
section
variable{K:Fg}{EE:St->XK}{ta tb:TE}{tA:TA}{t u:TS}{f g:EX}{fa:AX}{p q:SFX}{tt:TT}{ft:TF}{tg:TG}{hg:GF}
def aFa{f:AF}(a:SA K tA f):SAX K EE tA (liA f):=by
 intro i M r M' h W H σ Q G R k;obtain⟨⟨x,M1⟩,b,h⟩:=aI h;cases h;exact a _ _ _ _ b W H σ Q G R fun v W' H' e c d=>k W' H' e c v d
def aCM{f:SF}(a:SS K t f):SSX K EE t (liS f):=by
 intro d M r M' h W H σ D G R k;obtain⟨⟨x,M1⟩,b,h⟩:=aI h;cases h;exact a _ _ _ _ b W H σ D G R fun W' H' e c=>k W' H' e c
def RW{h:FX}(a:SAX K EE tA fa):SEX K EE (QV (spX K h) EE tA) (vG h fa):=by
 intro s M r M' b W H σ Q G R k;obtain⟨⟨x,M1⟩,j,b⟩:=aI b;refine a _ _ _ _ j W H σ _ G R fun c l d i=>?_;cases x with
 |inr e=>cases b;exact k c l d i
 |inl xs=>exact fun vs rs=>⟨xs,M1,c,r,M',i,rs,b,fun m n o G2=>k m n (d.trans o) G2⟩
def aAK(a:SSX K EE t p)(b:SSX K EE u q):SSX K EE (aCz t u) (zX p q):=by
 intro y M o M' c W H σ D G R k;obtain⟨⟨x,M1⟩,n,c⟩:=aI c;refine a _ _ _ _ n W H σ _ G R fun h i j l=>?_;cases x with
 |xc d e=>cases c;exact k h i j l
 |o x=>
  cases x with
  |nx d=>exact fun m r=>b _ _ _ _ c h i m D l r fun s v w G2=>k s v (j.trans w) G2
  |bk d=>cases c;exact k h i j l
  |ct d=>cases c;exact k h i j l
  |rt x=>cases c;exact k h i j l
def OW(a:SEX K EE ta f):SSX K EE (TB ta) (pH f):=by
 intro m M o M' b W H σ D G R k;obtain⟨⟨x,M1⟩,l,b⟩:=aI b;refine a _ _ _ _ l W H σ _ G R fun h i d j=>?_;cases x with
 |x e=>cases b;exact fun c dx z=>k h i d j σ c dx (R.up d) z
 |v x=>cases b;exact fun v n=>k h i d j σ<|R.up d
def aDE(c:STt K tt ft)(a:SSX K EE t p)(b:SSX K EE u q):SSX K EE (aEL tt t u) (MQ ft p q):=by
 intro s M o M' d W H σ D G R k;obtain⟨⟨x,M1⟩,r,d⟩:=aI d;refine c _ _ _ _ r W H σ _ G R fun l m e n=>?_;cases x with
 |true=>rw[A7 rfl];rw[A7 rfl]at d;exact a _ _ _ _ d l m σ D n (R.up e) fun h i j G2=>k h i (e.trans j) G2
 |false=>rw[B0 A6];rw[B0 A6]at d;exact b _ _ _ _ d l m σ D n (R.up e) fun h i j G2=>k h i (e.trans j) G2
def OG{nm:Str}:SSX K EE (CQ EE<|bH K nm) (tJ nm):=by
 intro b M o M' a W H σ D G R k;cases a;exact k W H (.refl _) G σ _ Y R ⟨rfl,rfl⟩
def cM.setN{γ:Ga}{n:Tg}{x:CD}{v:V}(R:cM K W γ σ)(r:cR K W x v):cM K W (setG n γ x) (setN n σ v):=by
 cases n with
 |none=>exact R
 |some i=>exact Paired.set (x:=Z x) (y:=Z v) r i R
def cM.unbN{γ:Ga}{n:Tg}(R:cM K W γ σ):cM K W (TN n γ) (unbN n σ):=by
 cases n with
 |none=>exact R
 |some i=>exact Paired.set (x:=Y) (y:=Y) True.intro i R
inductive HsM(K:Fg):Tv HR->Tv HMi->Prop
 |nil:HsM K [] []
 |cons {h:HR} {m:HMi} {hs:Tv HR} {ms:Tv HMi} (hn:h.n=m.n) (ht:∀nm b,m.tab.lookup nm=Z b->PySem.W.exmOne K (.ref (bH K nm)) h.c=Z b) (hS:SS K h.t m.f) (r:HsM K hs ms):HsM K (h::hs) (m::ms)
def PZ{D:Ends}{W:Wd}{M M':Sto}{H:Hp}{γ:Ga}{σ:St}{ex:Exc}{c:Tx}{dx:Th}{o:Out}(G:Good K W M H)(R:cM K W γ σ)(E:ExR K W ex c dx):
 ∀{hs:Tv HR}{ms:Tv HMi},HsM K hs ms->IQ ms γ ex M=Z (o,M')->(∀W' H',W.Ext W'->Good K W' M' H'->UW K D W' H' o)->tHs K D hs σ c dx H
 |_,_,.nil=>fun h _=>by cases h
 |_,_,@HsM.cons _ h m hs ms hn ht hS r=>fun d k=>by
  obtain⟨rfl,v⟩:=E;unfold IQ at d;cases e:m.tab.lookup ex.nm with
  |none=>rw[e]at d;cases d
  |some b=>
   rw[e]at d;refine⟨b,ht _ _ e,?_⟩;cases b with
   |false=>rw[B0 A6];exact PZ G R ⟨rfl,v⟩ r d k
   |true=>
    rw[A7 rfl];intro a ha;obtain⟨⟨w,M1⟩,z,d⟩:=aI (show(m.f _ _).bind _=_ from d);have s:Z (aEM m.n w,M1)=Z (o,M'):=d;cases s;have A:Good K (W.more a) (M++[.exc false ex.nm ex.fs]) (upd H a (.ext (DV a (.ref (bH K ex.nm)) dx false))):=G.new ha ⟨dx,rfl,v⟩;have y:=W.ext_more a;have B:cR K (W.more a) (.c M.length) (.ref a):=⟨by show M.length<W.n+1;rw[G.n];exact J3 _,by show _=V.ref (if M.length=W.n then a else _);rw[A7 G.n.symm]⟩;rw[hn];refine hS _ _ _ _ z (W.more a) _ _ _ A ((R.up y).setN B) fun C F I G2=>?_;have l:=k C F (y.trans I) G2;cases w with
    |nx i=>exact fun j R2=>l _ R2.unbN
    |bk i=>exact fun j R2=>l _ R2.unbN
    |ct i=>exact fun j R2=>l _ R2.unbN
    |rt x=>exact l
def aEY{tb:(St->XK)->TS}{rs:Tv HR}{ms:Tv HMi}(b:∀EE,SSX K EE (tb EE) p)(h:HsM K rs ms):SS K (aCp K tb rs) (MM p ms):=by
 intro y M o M' a W H σ D G R k;obtain⟨⟨x,M1⟩,i,a⟩:=aI a;refine b _ _ _ _ _ i W H σ D G R fun j l d e=>?_;cases x with
 |o x=>cases a;exact k j l d e
 |xc m ex=>exact fun n c dx r E=>PZ e r E h a fun s v w G2=>k s v (d.trans w) G2
end
section
variable{ι:Type}
structure MX(K:Fg)(X:ι->Cx)(EE:ι->St->XK)(e:Uc)(f:EX):Prop where
 ex:∃t:ι->TE,(∀i,PE (X i) e<|t i)/\∀i,SEX K (EE i) (t i) f
structure MAX(K:Fg)(X:ι->Cx)(EE:ι->St->XK)(es:T7)(f:AX):Prop where
 ex:∃t:ι->TA,(∀i,PA (X i) es<|t i)/\∀i,SAX K (EE i) (t i) f
 st:FC es
structure MSX(K:Fg)(X:ι->Cx)(EE:ι->St->XK)(st:Stmt)(f:SFX):Prop where
 ex:∃t:ι->TS,(∀i,PS (X i) st<|t i)/\∀i,SSX K (EE i) (t i) f
structure MLX(K:Fg)(X:ι->Cx)(EE:ι->St->XK)(st:T8)(f:SFX):Prop where
 ex:∃t:ι->TS,(∀i,PSs (X i) st<|t i)/\∀i,SSX K (EE i) (t i) f
variable{K:Fg}{X:ι->Cx}{EE:ι->St->XK}{e a b c tg iter:Uc}{es:T7}{f g:EX}{fa:AX}{p q:SFX}{ft:TF}{gf:GF}{st:Stmt}{sts sts':T8}{pos:Pos}
def yP{f:AF}(x:MA K X es f):MAX K X EE es (liA f):=by
 obtain⟨t,d,h⟩:=x.ex;exact⟨⟨fun _=>t,d,fun _=>aFa h⟩,x.st⟩
def BF{f:SF}(x:ML K X sts f):MLX K X EE sts (liS f):=by
 obtain⟨t,d,h⟩:=x.ex;exact⟨fun _=>t,d,fun _=>aCM h⟩
def rX{k:Nat}{x:Str}{ps:Tc}{F:FX}{p:Pos}(ok:∀i,XOk (X i)<|EE i)(C:∀i,kF (X i).prog (X i).w (X i).K (X i).mg (X i).base k x ps (spX K F))(d:∀i,cL k (X i).A)(y:MAX K X EE (e::es) fa)(h:∀i,Gl (X i) x:=by intro _;rfl)(hd:(x==("__debug__":Str))=false:=by decide):
 MX K X EE (.Call (.Name x p) (e::es) [] pos) (vG F fa):=by
 obtain⟨u,j,l⟩:=y.ex;exact⟨_,fun i=>XB (ok i) (C i) (d i) (j i) (h i) hd (y.st.1 _)<|y.st.2.plain _ _,fun i=>RW<|l i⟩
def jZ(x:MSX K X EE st p):MLX K X EE [st] p:=by
 obtain⟨t,d,h⟩:=x.ex;exact⟨t,fun i=>JI<|d i,h⟩
def yE(x:MSX K X EE st p)(y:MLX K X EE sts q):MLX K X EE (st::sts) (zX p q):=by
 obtain⟨t,d,h⟩:=x.ex;obtain⟨u,j,k⟩:=y.ex;exact⟨_,fun i=>DH (d i)<|j i,fun i=>aAK (h i)<|k i⟩
def nX(x:MX K X EE e f)(hs:∀i,swapsWith e Y pos.line (X i).env=pure false:=by intro _;rfl):MSX K X EE (.Expr e pos) (pH f):=by
 obtain⟨t,d,h⟩:=x.ex;exact⟨_,fun i=>KG (d i)<|hs i,fun i=>OW<|h i⟩
def IB(x:MT K X c ft)(y:MLX K X EE sts p)(z:MLX K X EE sts' q):MSX K X EE (.If c sts sts' pos) (MQ ft p q):=by
 obtain⟨t,d,h⟩:=x.ex;obtain⟨u,j,k⟩:=y.ex;obtain⟨v,l,m⟩:=z.ex;exact⟨_,fun i=>aBI (d i) (j i)<|l i,fun i=>aDE h (k i)<|m i⟩
def qR{x:Str}{d cpos:Pos}(ok:∀i,XOk (X i)<|EE i)(h:∀i,(X i).K=K)(j:∀i,(X i).calm=true)(hm:∀i,(X i).mg x=Z (.ref (bH K x)))(q:PySem.W.excIn K (bH K x) bmV "ValueError.__new__"=true)(k:∀i,Gl (X i) x:=by intro _;rfl)(hd:(x==("__debug__":Str))=false:=by decide):
 MSX K X EE (.Raise (Z (.Call (.Name x d) [] [] cpos)) Y pos) (tJ x):=
 ⟨fun i=>CQ (EE i)<|bH K x,fun i=>MP (ok i) (j i) (hm i) (by rw[h i];exact q) (k i) hd,fun _=>OG⟩
def aGf(X:ι->Cx):ι×T1×(St->XK)->Cx:=fun j=>(vO (X j.1) j.2.1).wish (XS (vO (X j.1) j.2.1) j.2.2)
noncomputable def aGL:ι×T1×(St->XK)->St->XK:=fun j=>j.2.2
def aHb(X:ι->Cx):ι×Ub->Cx:=fun j=>hCx (X j.1) j.2
def aGN(bd:∀i,Body<|X i)(j:ι×T1×(St->XK)):XOk (aGf X j) (aGL (ι:=ι) j):=
 XOk.of (X:=vO (X j.1) j.2.1) ⟨(bd j.1).stk,(bd j.1).fr,(bd j.1).ex⟩ _
structure MH(K:Fg)(X:ι->Cx)(hs:Tv ExceptHandler)(ms:Tv HMi):Prop where
 ex:∃rs,(∀i,TH (X i) hs rs)/\HsM K rs ms
def aDa:MH K X [] []:=⟨[],fun _=>aCV,.nil⟩
def XN{x:Str}{l m:Pos}{nm:Tw Str}{j:Stmt}{d:T8}{hs:Tv ExceptHandler}{ms:Tv HMi}{tab:Tv (Str×Bool)}{n:Tg}{f:SF}(k:Tx)(bd:∀i,Body<|X i)(o:∀i,OK (X i) x k)
 (hn:∀i,aFE (X i) nm n)
 (ht:∀p∈tab,PySem.W.exmOne K (.ref (bH K p.1)) k=Z p.2) (hS:ML K (aHb X) (j::d) f) (r:MH K X hs ms) (s:∀i,Gl (X i) x:=by intro _;rfl) (hd:(x==("__debug__":Str))=false:=by decide):
 MH K X (.ExceptHandler (Z (.Name x l)) nm (j::d) m::hs) (⟨tab,n,f⟩::ms):=by
 obtain⟨t,u,v⟩:=hS.ex;obtain⟨rs,w,y⟩:=r.ex;refine⟨⟨k,n,t⟩::rs,fun i=>WJ (h:=⟨k,n,t⟩) (bd i) (o i) (s i) hd (hn i) (fun e=>u (i,e))<|w i,.cons rfl (fun nm b z=>?_) v y⟩;exact ht (nm,b)<|E2 z
def aEg{h₀:ExceptHandler}{hs:Tv ExceptHandler}{ms:Tv HMi}(bd:∀i,Body<|X i)(d:∀i,(X i).K=K)(x:MLX K (aGf X) (aGL (ι:=ι)) sts p)(h:MH K X (h₀::hs) ms):MS K X (.Try sts (h₀::hs) [] [] pos) (MM p ms):=by
 obtain⟨rs,j,l⟩:=h.ex;obtain⟨t,m,n⟩:=x.ex;refine⟨aCp K (fun EE D σ H=>∀i pins,t (i,pins,EE) D σ H) rs,fun i=>?_,aEY (fun EE=>?_) l⟩
 .have:=aDB (X:=X i) (tb:=fun EE D σ H=>∀i pins,t (i,pins,EE) D σ H) (pos:=pos) (bd i) (fun pins EE ps s σ H D I h=>m (i,pins,EE) ps s σ H D I<|h i pins)<|j i;rw[d i]at this;exact this
 .exact fun r M o M' u W H σ D G R k i pins=>n (i,pins,EE) r M o M' u W H σ D G R k
section
variable{P:Ud}{w:World}{K:Fg}{mg:Str->Tf}{base:Heap}
abbrev aET(P:Ud)(w:World)(K:Fg)(mg:Str->Tf)(base:Heap)(N:Tc)(x:Str)(st:Stmt)(f:Ub)(cdv:Tx)(A:Ue)(outer:Tv Env)(s:Ua)(H:Hp)(E:XK):Unit->Cx:=fun _=>
 (lB (CX1 P w) P w K mg base N x (aJ st) f cdv A outer s H E).wish (XS (lB (CX1 P w) P w K mg base N x (aJ st) f cdv A outer s H E) fun _=>E)
def xI{N:Tc}{x:Str}{st:Stmt}{f:Ub}{cdv:Tx}{A:Ue}{outer:Tv Env}{s:Ua}{E:XK}(i:Unit):XOk (aET P w K mg base N x st f cdv A outer s H E i) ((fun _ _=>E:Unit->St->XK) i):=XOk.of JB _
def Fun.okXF{x qual:Str}{st:Stmt}{N ps:Tc}{k:Nat}{b:SFX}{f:Ub}{fd:FuncData}(Fu:Fun K x qual st f fd)(S:aX N ps (aJ st))
 (i:∀(f:Ub)(cdv:Tx)(A:Ue)(outer:Tv Env)(s:Ua)(H:Hp)(E:XK),cL k (A.deeper<|envOfC qual (aJ st) s.heap.objs.size f cdv)->
  MLX K (aET P w K mg base N qual st f cdv A outer s H E) (fun _ _=>E) (bU st) b):kX P w K mg base (CX1 P w) (k+1) f fd ps (spX K (fnX ps.length N.length b)):=by
 obtain⟨oc,od,kV,doc,pm,an,cdv,ct,osl,rfl,F,l⟩:=Fu.ex
 have len:∀vs H Q E,spX K (fnX ps.length N.length b) vs H Q E->vs.length=ps.length:=fun vs H Q E h=>by
  obtain⟨xs,M,W,y,M',G,R,d,_⟩:=h;by_cases j:xs.length=ps.length
  .rw[<- Paired.len R];exact j
  .unfold fnX at d;rw[B0 j]at d;cases d
 refine aEf F l S len fun A outer s H vs Q E I h=>?_;obtain⟨t,J,L⟩:=(i f cdv A outer s H E I).ex;refine⟨t (),J (),?_⟩;obtain⟨xs,M,W,r,M',G,R,d,m⟩:=h
 have j:xs.length=ps.length:=by
  by_cases j:xs.length=ps.length
  .exact j
  .unfold fnX at d;rw[B0 j]at d;cases d
 unfold fnX at d;rw[A7 j]at d;obtain⟨⟨o,M1⟩,O,d⟩:=aI d
 have T:cM K W (xs.map Z++List.replicate (N.length-xs.length) Y) (start N vs):=by
  unfold start;rw[<- Paired.len R];exact Paired.app (bY.some R)<|pN _
 refine L () _ _ _ _ O W H _ _ G T fun n u B C=>?_;cases o with
 |xc D e=>cases d;exact fun σ c dx _ z=>m n u B C c dx z
 |o o=>
  cases o with
  |rt x=>cases d;exact fun v r=>m n u B C v r
  |nx D=>cases d;exact fun σ r=>m n u B C .non rfl
  |bk D=>cases d
  |ct D=>cases d
def Def.okX{x:Str}{st:Stmt}{N ps:Tc}{k:Nat}{b:SFX}(D:Def K mg x st)(S:aX N ps (aJ st))
 (h:∀(kV doc pm:Tx)(an:Th)(cdv ct:Tx)(us:T4),us.length=ps.length->bindArgs (PySem.W.fnOf x x (eG st) (bU st) (aJ st) .none kV doc pm an cdv ct) ⟨us,[]⟩=pure (ps.zip us))
 (d:∀(f:Ub)(cdv:Tx)(A:Ue)(outer:Tv Env)(s:Ua)(H:Hp)(E:XK),cL k (A.deeper<|envOfC x (aJ st) s.heap.objs.size f cdv)->
  MLX K (aET P w K mg base N x st f cdv A outer s H E) (fun _ _=>E) (bU st) b):kF P w K mg base (k+1) x ps (spX K (fnX ps.length N.length b)):=by
 obtain⟨f,fd,Fu,m⟩:=D.ex;exact⟨f,fd,Fu.okXF S d,m,Fu.kp,Fu.binds h⟩
end
end
structure XC(K:Fg)(C:Ub):Prop where
 c:UY K C
 ha:PySem.W.findIn K (.ref C) "__class__"=Z (Z (.builtin "object.__class__"))
 hn:PySem.W.specialIn K (.builtin "object.__class__") "__get__"=Z (Z (.builtin "getset_descriptor.__get__"))
 htk:PySem.W.takesIn K (.builtin "object.__class__")=Z true
 hm:PySem.W.mroIn K C (.type "object")=Z true
def aCd(H:Hp):Th->Prop
 |none=>True
 |some d=>∃us,H d=Z (.xd us)
inductive ClV:V->Tx->Prop
 |own (C:Ub):ClV (.ref C) (.ref C)
 |ty (T:String):ClV (.ty T) (.type T)
def ClV.is{v:V}{c u:Tx}(h:ClV v c)(r:RelV v u):u=c:=by cases h<;>exact r
def OT(K:Fg):Td->Hp->VK->Prop:=fun xs H Q=>∃v d c b,xs=[v,d]/\ClV d c/\Q (.bl b) H /\
 ((v=.non/\PySem.W.kitOne K (.type "NoneType") c=Z b)\/∃a C dx fr,v=.ref a/\H a=Z (.ext (DV a (.ref C) dx fr))/\aCd H dx/\XC K C/\PySem.W.kitOne K (.ref C) c=Z b)
section
variable{X:Cx}{K:Fg}
def PH{pins:T1}{s:Ua}{a C:Ub}{dx:Th}{fr:Bool}(I:Inv X pins σ H s)(h:H a=Z (.ext (DV a (.ref C) dx fr)))(d:aCd H dx):∃ox od,PySem.W.InstAt s.heap a ox C od/\ox.dict=dx:=by
 obtain⟨⟨o,vs,c,e,b,g,_⟩,_⟩:=I.hok a _ h
 have f:PySem.W.notCls o=true:=by
  obtain⟨_,_,dt,_⟩:=o;cases g;rfl
 cases dx with
 |none=>exact⟨o,Y,⟨c,e,f,by rw[b];exact True.intro⟩,b⟩
 |some i=>
  obtain⟨us,hd⟩:=d;obtain⟨od,q⟩:=(I.hok i _ hd).there;exact⟨o,Z od,⟨c,e,f,by rw[b];exact q⟩,b⟩
def LN:eP X (.builtin "isinstance") (OT X.K):=by
 intro pins s σ H vs us Q I r h;obtain⟨v,l,c,b,rfl,j,q,h⟩:=h;obtain⟨u,m,rfl,i,f⟩:=vals2 r;cases j.is f;rcases h with⟨rfl,e⟩|⟨a,C,dx,fr,rfl,ha,d,xc,e⟩
 .cases (show u=Value.none from i);exact PySem.W.kia_one PySem.W.kitx_none I.kIn True.intro e (fun z=>nomatch z) fun g=>⟨.bl _,H,I.tok g,rfl,q⟩
 .cases (show u=Value.ref a from i);obtain⟨k,od,J,_⟩:=PH I ha d;exact PySem.W.kia_one (RD xc.c xc.ha xc.hn xc.htk xc.hm) I.kIn ⟨k,od,J⟩ e (fun z=>nomatch z) fun g=>⟨.bl _,H,I.tok g,rfl,q⟩
def aFH(h:X.K=K):eP X (.builtin "isinstance") (OT K):=by subst h;exact LN
def yS(tab:Tv (Str×Bool))(nn:Tw Bool)(f:EF):EF:=fun a M=>(f a M).bind fun r=>match r.1 with
 |.c i=>(match r.2[i]? with
  |some (.exc _ nm _)=>(tab.lookup nm).bind fun b=>Z (.d (.bool b),r.2)
  |_=>Y)
 |.d .none=>nn.bind fun b=>Z (.d (.bool b),r.2)
 |_=>Y
def DE.ok{dx:Th}{fs:Tu}(r:DE K W dx fs)(s:gO W.F H):aCd H dx:=by
 cases dx with
 |none=>exact True.intro
 |some d=>obtain⟨_,us,h,_⟩:=r;exact⟨us,s _ _ h⟩
def Good.excAt{M:Sto}{i:Nat}{fr:Bool}{nm:Str}{fs:Tu}(G:Good K W M H)(h:M[i]?=Z (.exc fr nm fs)):∃dx,H (W.α i)=Z (.ext (DV (W.α i) (.ref (bH K nm)) dx fr))/\DE K W dx fs:=by
 obtain⟨_,o,b,a⟩:=G.cs i _ h (by intro z;cases z);cases o with
 |ext c=>
  obtain⟨dx,rfl,r⟩:=a;exact⟨dx,b,r⟩
 |_=>exact False.elim a
def YN{tab:Tv (Str×Bool)}{nn:Tw Bool}{n:TE}{f:EF}{j:V}{c:Tx}(o:ClV j c)(ht:∀p∈tab,XC K (bH K p.1)/\PySem.W.kitOne K (.ref (bH K p.1)) c=Z p.2)(hn:∀b,nn=Z b->PySem.W.kitOne K (.type "NoneType") c=Z b)
 (a:SE K n f):SE K (tCB (OT K)<|qG n<|qG (tC j) ER) (yS tab nn f):=by
 intro D M x M' h W H σ Q G R k;obtain⟨⟨y,M1⟩,w,h⟩:=aI h;refine a _ _ _ _ w W H σ _ G R fun v q r s l u=>?_;cases y with
 |t _=>cases h
 |f _=>cases h
 |g _=>cases h
 |c i=>
  dsimp only at h;cases e:M1[i]? with
  |none=>rw[e]at h;cases h
  |some cl=>
   rw[e]at h;cases cl with
   |exc fr nm fs=>
    obtain⟨b,m,h⟩:=aI (show(tab.lookup nm).bind _=_ from h);cases h;obtain⟨z,A⟩:=ht (nm,b)<|E2 m;obtain⟨dx,B,C⟩:=l.excAt e;exact⟨v,j,c,b,rfl,o,k _ q r s l rfl,.inr ⟨_,_,dx,fr,u.2,B,C.ok l.fh,z,A⟩⟩
   |_=>cases h
 |d y=>
  cases y with
  |none=>
   obtain⟨b,m,h⟩:=aI (show nn.bind _=_ from h);cases h;exact⟨v,j,c,b,rfl,o,k _ q r s l rfl,.inl ⟨u,hn b m⟩⟩
  |_=>cases h
end
section
variable{ι:Type}{K:Fg}{X:ι->Cx}{a:Uc}{f:EF}{pos:Pos}
def HI{y:Str}{C:Ub}(hm:∀i,(X i).mg y=Z (.ref C))(b:∀i,Gl (X i) y:=by intro _;rfl)(hd:(y==("__debug__":Str))=false:=by decide):∀i c,PE (X i) (.Name y c) (tC (.ref C)):=fun i _=>KI (b i) (hm i) rfl hd
def aGP{y:Str}{T:String}(hm:∀i,(X i).mg y=Y)(b:bootBuiltins y=Z (.type T))(c:∀i,Gl (X i) y:=by intro _;rfl)(hn:y≠"__name__":=by decide)(hd:(y==("__debug__":Str))=false:=by decide):∀i d,PE (X i) (.Name y d) (tC (.ty T)):=fun i _=>vZ (v:=.ty T) (c i) (hm i) b rfl hn hd
def wI{y:Str}{p d:Pos}{tab:Tv (Str×Bool)}{nn:Tw Bool}{e:V}{c:Tx}(g:∀i,(X i).K=K)(h:ClV e c)(j:∀i d,PE (X i) (.Name y d)<|tC e)(ht:∀p∈tab,XC K (bH K p.1)/\PySem.W.kitOne K (.ref (bH K p.1)) c=Z p.2)(hn:∀b,nn=Z b->PySem.W.kitOne K (.type "NoneType") c=Z b)
 (x:ME K X a f) (hs:UL a [.Name y d]) (hm:∀i,(X i).mg "isinstance"=Y) (k:∀i,Gl (X i) "isinstance":=by intro _;rfl):ME K X (.Call (.Name "isinstance" p) [a,.Name y d] [] pos) (yS tab nn f):=by
 obtain⟨t,l,m⟩:=x.ex;exact⟨_,fun i=>tF (aFH<|g i) (k i) (hm i) boot_isinstance (iO (l i) (iO (j i _) xS cZ)<|hs _) (by decide) (by decide) (hs _)<|mO cZ tS,YN h ht hn m⟩
end
def aDD(h:FX)(f:AF):EF:=fun a M=>(f a M).bind fun r=>(h r.1 r.2).bind fun q=>match q.1 with
 |.v x=>Z (x,q.2)
 |.x _=>Y
def vL:bootBuiltins "ValueError"=Z (.type "ValueError"):=by decide +kernel
section
variable{K:Fg}{cv:Tx}{a:Str}{b:Bool}{l:Tv (Str×Bool)}
def RF:∀p∈([]:Tv (Str×Bool)),PySem.W.exmOne K (.ref (bH K p.1)) cv=Z p.2:=fun _ h=>absurd h (by simp)
def tU(h:PySem.W.exmOne K (.ref (bH K a)) cv=Z b)(r:∀p∈l,PySem.W.exmOne K (.ref (bH K p.1)) cv=Z p.2):∀p∈(a,b)::l,PySem.W.exmOne K (.ref (bH K p.1)) cv=Z p.2:=fun p c=>by
 rcases List.mem_cons.mp c with rfl|z
 .exact h
 .exact r p z
def wD{b:Bool}(h:PySem.W.kitOne K (.type "NoneType") cv=Z b):∀c,Z b=Z c->PySem.W.kitOne K (.type "NoneType") cv=Z c:=fun c e=>by cases e;exact h
def sS{nm:Str}{C:Ub}(h:PySem.W.nsIn K mainGlobals nm=Z (Z (.ref C))):bH K nm=C:=by unfold bH;rw[h]
end
open PySem PySem.Spec PyProof.Rows PySem.Builtin PySem.Builtin.ObjectAttr
end L2
namespace L2
variable{W:Wd}{M:Sto}{H:Hp}
open PySem PySem.Spec PyProof.Rows
section
variable{P:Ud}{w:World}{K:Fg}{mg:Str->Tf}{base:Heap}
def aAy{nm m qual:Str}{st:Stmt}{C f:Ub}{oc:Tx}{od an:Th}{osl:Array (Tf)}{kV doc pm cdv ct:Tx}(a:bH K nm=C)(b:PySem.W.findIn K (.ref C) m=Z (Z (.ref f)))
 (l:K.lookup f=Z ⟨oc,od,.func (PySem.W.fnOf m qual (eG st) (bU st) (aJ st) .none kV doc pm an cdv ct),osl⟩) (c:PySem.W.codeIn K cdv qual=true) (k:PySem.W.keepIn K (.ref f)=true) (fn:PySem.W.isFn K (.ref f)=true):aAh K nm m qual st:=
 ⟨f,_,UM l c k,by rw[a];exact b,fn⟩
end
section
variable{K:Fg}
def yB:F2:=fun x y M=>(tD M x).bind fun xs=>(tD M y).bind fun a=>if xs.length+a.length<=sizeLine then Z (.c M.length,M++[.lst (xs++a)])else Y
def aAC:P2 K (FT K) yB:=by
 intro x y M z M' h W H v u Q G e f k;obtain⟨xs,g,h⟩:=aI h;obtain⟨b,i,h⟩:=aI h;by_cases a:xs.length+b.length<=sizeLine
 .rw[A7 a]at h;cases h;obtain⟨p,vs,rfl,j,d⟩:=lU G g e;obtain⟨q,us,rfl,m,hs⟩:=lU G i f;refine⟨p,q,vs,us,rfl,rfl,j,m,by rw[<- Paired.len d,<- Paired.len hs];exact a,fun l a=>?_⟩;exact k _ (W.more l) _ (W.ext_more l) (G.new a (c:=.lst (xs++b)) (o:=.lst (vs++us))<|Paired.app d hs) G.newV
 .rw[B0 a]at h;cases h
noncomputable def aEx(ds:T3)(n:Nat):T3:=(List.replicate n ds).flatten
def QA(K:Fg):R2:=fun x y H Q=>∃(l:Ub)(vs:Td)(i:Int),x=.ref l/\y=.int i/\H l=Z (.lst vs)/\0<=i/\i<2 ^ 62/\vs.length*i.toNat<=sizeLine/\∀p,H p=Y->Q (.ref p) (upd H p (.lst (List.replicate i.toNat vs).flatten))
def AE{b:Type}:∀(l:Tv (Tv b))(a:Tv b),(l.map List.toArray).foldl (fun x1 c=>x1++c) a.toArray=(a++l.flatten).toArray
 |[]=>fun a=>by simp
 |x::l=>fun a=>by
  rw[C7,List.foldl_cons];have:a.toArray++x.toArray=(a++x).toArray:=by simp
  rw[this,AE l (a++x),L9,L3]
def ED{vs:Td}{us:T4}(r:bB vs us):∀n:Nat,bB (List.replicate n vs).flatten (List.replicate n us).flatten
 |0=>.nil
 |n+1=>by rw[O6,O6,L9,L9];exact r.append<|ED r n
def aAG{X:Cx}:OpR X (binaryOp .Mult) (QA X.K):=by
 intro pins s P H x y u v Q I A B h;obtain⟨l,vs,i,rfl,rfl,C,R,i1,D,q⟩:=h;cases (show u=Value.ref l from A);obtain⟨t,rfl⟩:=(show ∃t,v=Value.int i t from B);obtain⟨g,a,n,j,E⟩:=(show cO X.prog X.w H s.heap l (.lst vs)from I.hok l _ C);obtain⟨m,F⟩:=I.fr;have N:News X.base X.env.locals s.heap (mW X.base s.heap X.env.locals):=FK
 have d:a.toArray.size*i.toNat<=2 ^ 24:=by
  rw[B9,<- j.length];have:sizeLine=2 ^ 24:=by rw[E6]
  omega
 refine PyProof.Rows.mul_list F N E (by omega) (by omega) d fun h' p N'=>?_
 have kp:∀b o,b≠X.env.locals->s.heap.get? b=Z o->h'.get? b=Z o:=fun b o G e=>by
  cases z:X.base.get? b with
  |some v=>
   have:=I.bk b v z;rw[e]at this;cases this;exact p.keep b _ z
  |none=>exact(N' (b,o)<|B4 _<|nV G z e).1
 have c:s.heap.get? s.heap.objs.size=Y:=Z3<|A9 _;refine⟨.ref s.heap.objs.size,upd H s.heap.objs.size (.lst (List.replicate i.toNat vs).flatten),?_,rfl,q _<|I.hok.fresh<|A9 _⟩;refine I.laidL kp (fun S f=>?_) c ⟨?_,(List.replicate i.toNat a).flatten,0,ED j _,?_⟩
 .rw[<- JR F.ns f];exact p.ns
 .rw[len_rep,Nat.mul_comm];exact D
 .have J:=(N' _ B7).1;rw[J]
  have e:List.foldl (fun L O=>L++O) #[] (List.replicate (if a.toArray.isEmpty=true then 0 else i.toNat) a.toArray)=((List.replicate i.toNat a).flatten).toArray:=by
   by_cases r:a=[]
   .subst r
    have:(List.replicate i.toNat ([]:T4)).flatten=[]:=by
     generalize i.toNat=k
     induction k with
     |zero=>rfl
     |succ k ih=>rw[O6,L9,ih];rfl
    rw[this];rfl
   .have:a.toArray.isEmpty=false:=by cases a with|nil=>exact absurd rfl r|cons _ _=>rfl
    rw[this,B0 A6];have:=AE (List.replicate i.toNat a) [];rw[List.map_replicate]at this;simpa using this
  rw[e]
def mulL:F2:=fun x y M=>match x,y with
 |.c j,.d (.int i)=>match M[j]? with
  |some (.lst xs)=>(jR xs).bind fun a=>if 0<=i/\i<2 ^ 62/\a.length*i.toNat<=sizeLine then Z (.d (.list (aEx a i.toNat)),M)else Y
  |_=>Y
 |_,_=>Y
end
section
variable{K:Fg}
def xG{H:Hp}{as:T3}{vs:Td}(h:aK K H as vs):∀n:Nat,aK K H (aEx as n) (List.replicate n vs).flatten
 |0=>by rfl
 |n+1=>by
  unfold aEx;rw[O6,O6,L9,L9];exact aK.app h<|xG h n
def YT:P2 K (QA K) mulL:=by
 intro x y M z M' h W H v u Q G e f k;unfold mulL at h;split at h
 .rename_i j i;split at h
  .rename_i xs g;obtain⟨m,b,h⟩:=aI h;by_cases a:0<=i/\i<2 ^ 62/\m.length*i.toNat<=sizeLine
   .rw[A7 a]at h;cases h;obtain⟨n,i1,p⟩:=a;obtain⟨us,q,c⟩:=G.lstAt g;have el:=xZ b;refine⟨_,us,i,e.2,f,q,n,i1,by rw[<- Paired.len c,<- el];exact p,fun l r=>?_⟩;obtain⟨d,G2⟩:=G.lay (o:=.lst (List.replicate i.toNat us).flatten) r;exact k _ _ _ d G2 ⟨l,_,rfl,SqL.of aS,aK.same d.ff _ _<|xG (dR b c) _⟩
   .rw[B0 a]at h;cases h
  .cases h
 .cases h
def SM:F2:=BW iW mulL
def aER{ι:Type}{X:ι->Cx}(a:∀i,(X i).K=K):Q2 K X (binaryOp .Mult) SM:=⟨_,fun i=>op_mulA.or (show OpR (X i) (binaryOp .Mult) (QA K)by have:=aAG (X:=X i);rw[a i]at this;exact this),P2.or RI YT⟩
def sG(K:Fg)(c:Tx)(tab:Tv (Str×Bool)):Bool:=tab.all fun p=>match PySem.W.kitOne K (.ref (bH K p.1)) c with
 |some b=>b==p.2
 |none=>false
def wC{c:Tx}{tab:Tv (Str×Bool)}{ns:Tc}(d:∀nm∈ns,XC K<|bH K nm)(h:sG K c tab=true)(e:tab.map Prod.fst=ns):∀p∈tab,XC K (bH K p.1)/\PySem.W.kitOne K (.ref (bH K p.1)) c=Z p.2:=by
 intro p a;refine⟨d _ (by rw[<- e];exact Y7 a),?_⟩;have:=List.all_eq_true.mp h p a;split at this
 .rename_i b f;rw[f,eq_of_beq this]
 .cases this
def XW:∀nm∈([]:Tc),XC K (bH K nm):=fun _ h=>absurd h (by simp)
def wQ{a:Str}{l:Tc}(x:XC K (bH K a))(r:∀nm∈l,XC K<|bH K nm):∀nm∈a::l,XC K (bH K nm):=fun p b=>by
 rcases List.mem_cons.mp b with rfl|z
 .exact x
 .exact r p z
end
abbrev KY:=Key ⊕ Tv Key
abbrev KF:=Ga->Sto->Tw (KY×Sto)
def LQ(W:Wd):KY->V->Prop
 |.inl k,v=>v=kV k
 |.inr ks,v=>∃b,v=.ref b/\W.F b=Z (.tup (ks.map kV))
def LQ.up{W':Wd}{k:KY}{v:V}(h:LQ W k v)(e:W.Ext W'):LQ W' k v:=by
 cases k with
 |inl k=>exact h
 |inr ks=>obtain⟨b,a,c⟩:=h;exact⟨b,a,e.ff _ _ c⟩
section
variable{K:Fg}
def SK(K:Fg)(t:TE)(f:KF):Prop:=∀a M k M',f a M=Z (k,M')->∀(W:Wd)(H:Hp)(b:St)(Q:VK),Good K W M H->cM K W a b->(∀v W' H',W.Ext W'->Good K W' M' H'->LQ W' k v->Q v H')->t b H Q
def keysOf:T5->Tw (Tv Key)
 |[]=>Z []
 |x::xs=>(keyOf x).bind fun k=>(keysOf xs).bind fun ks=>Z (k::ks)
def qZ(fa:AF):KF:=fun a M=>(fa a M).bind fun r=>(keysOf r.1).bind fun ks=>if ks.length<=sizeLine then Z (.inr ks,r.2)else Y
variable{t td ty tx tv:TE}{tA:TA}{f fo fx fv:EF}{fk:KF}{fa:AF}
def yJ{W:Wd}:∀{xs:T5}{ks:Tv Key}{vs:Td},keysOf xs=Z ks->bY K W xs vs->vs=ks.map kV
 |[],ks,vs=>fun h r=>by cases h;cases r;rfl
 |x::xs,ks,vs=>fun h r=>by
  obtain⟨k,a,h⟩:=aI h;obtain⟨b,c,h⟩:=aI h;cases h;cases r with
  |cons d e=>rw[NQ a d,yJ c e];rfl
def aCP(b:SA K tA fa):SK K (SR tA) (qZ fa):=by
 intro r M k M' a W H e Q G R c;obtain⟨⟨s,M1⟩,g,a⟩:=aI a;obtain⟨ks,h,a⟩:=aI a;by_cases d:ks.length<=sizeLine
 .rw[A7 d]at a;cases a;refine b _ _ _ _ g W H e _ G R fun vs i u j l m=>?_;have ev:=yJ h m;refine⟨by rw[ev,A3];exact d,fun p n=>?_⟩;obtain⟨q,G2⟩:=l.lay (o:=.tup vs) n;exact c _ _ _ (j.trans q) G2 ⟨p,rfl,by show upd i.F p (.tup vs) p=_;rw[aS,ev]⟩
 .rw[B0 d]at a;cases a
section
variable{κ:Type}[DecidableEq κ]
noncomputable def lkC(kvs:Tv (κ×CD))(k:κ):Te:=(kvs.find? fun a=>decide (a.1=k)).map (·.2)
noncomputable def putD(kvs:Tv (κ×CD))(k:κ)(v:CD):Tv (κ×CD):=
 if (kvs.any fun a=>decide (a.1=k))=true then kvs.map (fun a=>if a.1=k then(a.1,v)else a)else kvs++[(k,v)]
abbrev PKV(K:Fg)(W:Wd)(kvs:Tv (κ×CD))(us:Tv (κ×V)):Prop:=Paired (fun p q=>p.1=q.1/\cR K W p.2 q.2) kvs us
def CO{W:Wd}{k:κ}:∀{kvs:Tv (κ×CD)}{us:Tv (κ×V)},PKV K W kvs us->EV K W (lkC kvs k) (iP us k)
 |_,_,.nil=>True.intro
 |_,_,.cons (a:=p) (b:=q) (l₁:=ps) (l₂:=qs) r1 r2=>by
  by_cases h:p.1=k
  .have h':q.1=k:=r1.1▸h;rw[show lkC (p::ps) k=Z p.2 by simp[lkC,List.find?_cons,h],show iP (q::qs) k=Z q.2 by simp[iP,List.find?_cons,h']];exact r1.2
  .have h':¬q.1=k:=r1.1▸h;rw[show lkC (p::ps) k=lkC ps k by simp[lkC,List.find?_cons,h],show iP (q::qs) k=iP qs k by simp[iP,List.find?_cons,h']];exact CO r2
def FR{W:Wd}{k:κ}:∀{kvs:Tv (κ×CD)}{us:Tv (κ×V)},PKV K W kvs us->(kvs.any fun a=>decide (a.1=k))=us.any fun a=>decide (a.1=k)
 |_,_,.nil=>rfl
 |_,_,.cons b c=>by rw[U6,U6,FR c,b.1]
def FL{W:Wd}{k:κ}{x:CD}{v:V}(e:cR K W x v):∀{kvs:Tv (κ×CD)}{us:Tv (κ×V)},PKV K W kvs us->PKV K W (kvs.map fun c=>if c.1=k then(c.1,x)else c) (us.map fun c=>if c.1=k then(c.1,v)else c)
 |_,_,.nil=>.nil
 |_,_,.cons (a:=p) (b:=q) d r2=>by
  rw[C7,C7];refine .cons ?_ (FL e r2);by_cases h:p.1=k
  .rw[A7 h,A7 (d.1▸h)];exact⟨d.1,e⟩
  .rw[B0 h,B0 (d.1▸h)];exact d
def AK{k:κ}{x:CD}{v:V}{kvs:Tv (κ×CD)}{us:Tv (κ×V)}(r:PKV K W kvs us)(a:cR K W x v):PKV K W (putD kvs k x) (putK us k v):=by
 unfold putD putK;rw[FR r];split
 .exact FL a r
 .exact Paired.app r (.cons ⟨rfl,a⟩ .nil)
end
noncomputable def lkP(kvs:Tv (Tv Key×Tz))(k:Tv Key):Tw Tz:=(kvs.find? fun a=>decide (a.1=k)).map (·.2)
def EB{W:Wd}{k:Tv Key}:∀{kvs:Tv (Tv Key×Tz)}{us:Tv (Tv Key×V)},Paired (fun p q=>p.1=q.1/\Rep K W.F p.2 q.2) kvs us->EV K W ((lkP kvs k).map .d) (iP us k)
 |_,_,.nil=>True.intro
 |_,_,.cons (a:=p) (b:=q) (l₁:=ps) (l₂:=qs) r1 r2=>by
  by_cases h:p.1=k
  .have h':q.1=k:=r1.1▸h;rw[show lkP (p::ps) k=Z p.2 by simp[lkP,List.find?_cons,h],show iP (q::qs) k=Z q.2 by simp[iP,List.find?_cons,h']];exact r1.2
  .have h':¬q.1=k:=r1.1▸h;rw[show lkP (p::ps) k=lkP ps k by simp[lkP,List.find?_cons,h],show iP (q::qs) k=iP qs k by simp[iP,List.find?_cons,h']];exact EB r2
def atD(M:Sto):CD->KY->Tw (Te)
 |.c i,.inl k=>match M[i]? with
  |some (.dk kvs)=>Z<|lkC kvs k
  |_=>Y
 |.c i,.inr ks=>match M[i]? with
  |some (.dt kvs)=>Z<|lkC kvs ks
  |_=>Y
 |.f kvs,.inr ks=>Z<|(lkP kvs ks).map .d
 |_,_=>Y
def yY(M:Sto):CD->KY->CD->Tw Sto
 |.c i,.inl k,x=>match M[i]? with
  |some (.dk kvs)=>if kvs.length<sizeLine then Z (M.set i (.dk (putD kvs k x)))else Y
  |_=>Y
 |.c i,.inr ks,x=>match M[i]? with
  |some (.dt kvs)=>if kvs.length<sizeLine then Z (M.set i (.dt (putD kvs ks x)))else Y
  |_=>Y
 |_,_,_=>Y
def Good.dkAt{i:Nat}{kvs:Tv (Key×CD)}(G:Good K W M H)(h:M[i]?=Z (.dk kvs)):∃us,H (W.α i)=Z (.dK us)/\PKV K W kvs us:=by
 obtain⟨_,o,b,a⟩:=G.cs i _ h (by intro z;cases z);cases o<;>first|exact⟨_,b,a⟩|exact False.elim a
def Good.dtAt{i:Nat}{kvs:Tv (Tv Key×CD)}(G:Good K W M H)(h:M[i]?=Z (.dt kvs)):∃us,H (W.α i)=Z (.dT us)/\PKV K W kvs us:=by
 obtain⟨_,o,b,a⟩:=G.cs i _ h (by intro z;cases z);cases o<;>first|exact⟨_,b,a⟩|exact False.elim a
def JJ{x:CD}{k:KY}{r:Te}{v y:V}(G:Good K W M H)(h:atD M x k=Z r)(e:cR K W x v)(g:LQ W k y):∃a o,v=.ref a/\vK H a y o/\EV K W r o:=by
 unfold atD at h;split at h
 .rename_i i m;split at h
  .rename_i kvs j;cases h;obtain⟨us,c,d⟩:=G.dkAt j;refine⟨_,_,e.2,?_,CO d⟩;rw[show y=kV m from g];exact vK.k c
  .cases h
 .rename_i i ks;split at h
  .rename_i kvs j;cases h;obtain⟨us,c,d⟩:=G.dtAt j;obtain⟨b,rfl,l⟩:=g;exact⟨_,_,e.2,vK.t c<|G.fh _ _ l,CO d⟩
  .cases h
 .rename_i kvs ks;cases h;obtain⟨a,o,us,rfl,c,d⟩:=e;obtain⟨b,rfl,l⟩:=g;exact⟨_,_,rfl,.inr ⟨us,ks,b,.inr ⟨o,G.fh _ _ c⟩,rfl,G.fh _ _ l,rfl⟩,EB d⟩
 .cases h
def GK{M':Sto}{x z:CD}{k:KY}{v y u:V}(G:Good K W M H)(h:yY M x k z=Z M')(j:cR K W x v)(l:LQ W k y)(m:cR K W z u):∃a H',v=.ref a/\yZ H a y u H'/\Good K W M' H':=by
 unfold yY at h;split at h
 .rename_i o i n;split at h
  .rename_i kvs d;by_cases c:kvs.length<sizeLine
   .rw[A7 c]at h;cases h;obtain⟨us,g,e⟩:=G.dkAt d;refine⟨_,_,j.2,?_,G.set d (by intro q;cases q) (o':=.dK (putK us n u))<|AK e m⟩;rw[show y=kV n from l];exact yZ.k g (by rw[<- Paired.len e];exact c)
   .rw[B0 c]at h;cases h
  .cases h
 .rename_i o i ks;split at h
  .rename_i kvs d;by_cases c:kvs.length<sizeLine
   .rw[A7 c]at h;cases h;obtain⟨us,g,e⟩:=G.dtAt d;obtain⟨b,rfl,p⟩:=l;exact⟨_,_,j.2,yZ.t g (G.fh _ _ p) (by rw[<- Paired.len e];exact c),G.set d (by intro q;cases q) (o':=.dT (putK us ks u))<|AK e m⟩
   .rw[B0 c]at h;cases h
  .cases h
 .cases h
def tW:EF:=fun _ M=>Z (.c M.length,M++[.dt []])
def JC(fo:EF)(fk:KF):EF:=fun a M=>(fo a M).bind fun o=>(fk a o.2).bind fun k=>(atD k.2 o.1 k.1).bind fun r=>r.bind fun x=>Z (x,k.2)
def YI(neg:Bool)(fk:KF)(fo:EF):EF:=fun a M=>(fk a M).bind fun k=>(fo a k.2).bind fun o=>(atD o.2 o.1 k.1).bind fun r=>Z (.d (.bool (if neg then !r.isSome else r.isSome)),o.2)
def rO(fo:EF)(fk:KF)(fv:EF):SF:=fun a M=>(fv a M).bind fun v=>(fo a v.2).bind fun o=>(fk a o.2).bind fun k=>(yY k.2 o.1 k.1 v.1).bind fun M'=>Z (.nx a,M')
def SZ:SE K RU tW:=by
 intro d M x M' a W H e Q G R k;cases a;exact fun p b=>k _ (W.more p) _ (W.ext_more p) (G.new b (c:=.dt []) (o:=.dT []) .nil) G.newV
def WT(a:SE K td fo)(b:SK K ty fk):SE K (aBg td ty) (JC fo fk):=by
 intro F M x M' c W H d Q G R k;obtain⟨⟨o,M1⟩,j,c⟩:=aI c;obtain⟨⟨I,M2⟩,l,c⟩:=aI c;obtain⟨r,m,c⟩:=aI c;obtain⟨z,n,c⟩:=aI c;cases c;subst n;refine a _ _ _ _ j W H d _ G R fun v q s e w A=>b _ _ _ _ l q s d _ w (R.up e) fun y B C h G2 D=>?_;obtain⟨p,E,ev,g,i⟩:=JJ G2 m (A.up h) D;cases E with
 |none=>exact False.elim i
 |some u=>exact⟨p,u,ev,g,k u B C (e.trans h) G2 i⟩
def NW{r:Te}{o:Tw V}(h:EV K W r o):o.isSome=r.isSome:=by
 cases r<;>cases o<;>first|rfl|exact False.elim h
def aCj(b:SK K ty fk)(a:SE K td fo):SE K (aGI ty td) (YI false fk fo):=by
 intro C M x M' c W H d Q G R k;obtain⟨⟨D,M1⟩,i,c⟩:=aI c;obtain⟨⟨o,M2⟩,j,c⟩:=aI c;obtain⟨r,l,c⟩:=aI c;cases c;refine b _ _ _ _ i W H d _ G R fun y m n e q s=>a _ _ _ _ j m n d _ q (R.up e) fun v u w h G2 z=>?_;obtain⟨p,A,ev,g,B⟩:=JJ G2 l z<|s.up h;refine⟨p,A,ev,g,k _ u w (e.trans h) G2 ?_⟩;show _=V.bl r.isSome;rw[NW B]
def WV(a:SE K td fo)(b:SK K ty fk)(c:SE K tv fv):SS K (aBf td ty tv) (rO fo fk fv):=by
 intro O M o M' d W H e D G R k;obtain⟨⟨z,M1⟩,m,d⟩:=aI d;obtain⟨⟨x,M2⟩,n,d⟩:=aI d;obtain⟨⟨P,Q⟩,q,d⟩:=aI d;obtain⟨S,r,d⟩:=aI d;cases d;refine c _ _ _ _ m W H e _ G R fun u s w h A B=>a _ _ _ _ n s w e _ A (R.up h) fun v C E i G2 F=>b _ _ _ _ q C E e _ G2 (R.up<|h.trans i) fun y I T j J L=>?_;obtain⟨p,l,ev,g,N⟩:=GK J r (F.up j) L<|(B.up i).up j;exact⟨p,l,ev,g,k I l ((h.trans i).trans j) N e<|R.up<|(h.trans i).trans j⟩
end
section
variable{ι:Type}
structure MK(K:Fg)(X:ι->Cx)(e:Uc)(f:KF):Prop where
 ex:∃t,(∀i,PE (X i) e t)/\SK K t f
variable{K:Fg}{X:ι->Cx}{e o i a b:Uc}{es:T7}{f g fx:EF}{fk:KF}{fa:AF}{pos:Pos}
def xC{k:Nat}(x:MA K X es fa):MK K X (.Tuple es k pos) (qZ fa):=by
 obtain⟨t,c,d⟩:=x.ex;exact⟨_,fun i=>BP<|c i,aCP d⟩
def FH:ME K X (.Dict [] [] pos) tW:=⟨_,fun _=>VH,SZ⟩
def XH(c:∀j,(X j).A.units+1<cLine)(x:ME K X o f)(y:MK K X i fk)(hs:aDC i:=by intro _ _;rfl):ME K X (.Subscript o i pos) (JC f fk):=by
 obtain⟨t,d,h⟩:=x.ex;obtain⟨u,k,l⟩:=y.ex;exact⟨_,fun j=>WL (c j) (d j) (k j) hs,WT h l⟩
def aEG(c:∀j,(X j).A.units+1<cLine)(y:MK K X i fk)(x:ME K X o f)(hm:behindInMarks .In o=false:=by rfl):MT K X (.Compare i [.In] [o] pos) (gB<|YI false fk f):=by
 obtain⟨t,d,h⟩:=x.ex;obtain⟨u,k,l⟩:=y.ex;exact⟨_,fun j=>aEp (aDx (c j) (k j)<|d j) hm,aBX<|aCj l h⟩
def JM{c:Pos}(d:∀j,(X j).A.units+1<cLine)(x:ME K X o f)(y:MK K X i fk)(z:ME K X e g)(hs:∀j,swapsWith e (Z (.Subscript o i c)) pos.line (X j).env=pure false:=by intro _;rfl):MS K X (.Assign [.Subscript o i c] e pos) (rO f fk g):=by
 obtain⟨t,h,k⟩:=x.ex;obtain⟨u,l,m⟩:=y.ex;obtain⟨v,n,p⟩:=z.ex;exact⟨_,fun j=>XO (d j) (h j) (l j) (n j)<|hs j,WV k m p⟩
end
end L2
namespace PySem
open Sem (wp)
open AutoSeq1 (wpAny_loadPart')
section
variable{prog:Ud}{w:World}{A:Ue}{E:T0}{s:Ua}
def zG{it l:Ub}{i:Nat}{items}{x:Tx}{Q:T0}(a:s.heap.IsTupleIter it l i)(e:s.heap.IsTuple l items)(f:items[i]?=Z x)
 (g:∀h',h'.IsTupleIter it l (i+1)->Heap.SameBut it s.heap h'->Q x { s with heap:=h' }):wpAny (model prog w) A (Builtin.SmallTypes.nextOf (.ref it)) Q E s:=by
 obtain⟨o,b,h,hd⟩:=id a;obtain⟨j,c,_,k,d⟩:=e;unfold Builtin.SmallTypes.nextOf;refine A0<|F7 (name:=Str.ofString "__next__") a.typeIs U7<|F4 U7 a.typeIs F.entry_tuple_iterator_next ?_<|F.args_tuple_iterator_next_1 _;show wpAny _ _ (field (.ref it) 0 >>= _) _ _ s;refine A0<|D3 b hd (x:=.ref l) rfl ?_;show wpAny _ _ (if (Value.ref l==Value.none)=true then _ else _) _ _ s;rw[B0 (show ¬((Value.ref l==Value.none)=true)from A6)];show wpAny _ _ (field (.ref it) 1 >>= _) _ _ s;refine A0<|D3 b hd (x:=.int i 0) rfl ?_;show wpAny _ _ (seqItems? (.ref l) >>= _) _ _ s;refine A0<|S5 c d ?_;simp only[Int.toNat_natCast,f];refine A0<|S4 b hd (by simp)<|A4 ⟨x,rfl,A4<|g _ ?_<|Y0 ..⟩;exact⟨_,J1 _ b<|Y6<|J9 hd _,(Obj.cls_mapFields ..).trans h,by rw[J9 hd];simp[rawInt]⟩
def tQ{it l:Ub}{i:Nat}{items}{Q:T0}(g:A.handled=Y)(b:s.heap.IsTupleIter it l i)(h:s.heap.IsTuple l items)(j:items[i]?=Y)
 (k:∀h' e,Heap.ExtBut it s.heap h'->(∃o,h'.get? e=Z o/\o.cls=.type "StopIteration")->E (.ref e) { s with heap:=h' }):wpAny (model prog w) A (Builtin.SmallTypes.nextOf (.ref it)) Q E s:=by
 obtain⟨o,c,n,hd⟩:=id b;obtain⟨p,d,_,q,f⟩:=h;unfold Builtin.SmallTypes.nextOf;refine A0<|F7 (name:=Str.ofString "__next__") b.typeIs U7<|F4 U7 b.typeIs F.entry_tuple_iterator_next ?_<|F.args_tuple_iterator_next_1 _;show wpAny _ _ (field (.ref it) 0 >>= _) _ _ s;refine A0<|D3 c hd (x:=.ref l) rfl ?_;show wpAny _ _ (if (Value.ref l==Value.none)=true then _ else _) _ _ s;rw[B0 (show ¬((Value.ref l==Value.none)=true)from A6)];show wpAny _ _ (field (.ref it) 1 >>= _) _ _ s;refine A0<|D3 c hd (x:=.int i 0) rfl ?_;show wpAny _ _ (seqItems? (.ref l) >>= _) _ _ s;refine A0<|S5 d f ?_;simp only[Int.toNat_natCast,j];refine A0<|Z7<|A0<|S4 c hd (by simp) ?_;show wpAny _ _ (newExc (.type "StopIteration") [] >>= _) _ _ _;refine A0 ?_;simp only[newExc,newTuple];refine A0<|C4 ?_ (by size_fits);refine A0 (m:=firstArgMember _ _)<|wpAny_of_eq (a:=Value.none) (by first|rfl|(simp only[firstArgMember];rfl)) ?_;refine C4 ?_ (by size_fits);simp only[raiseNew];refine A0<|wpAny_handled ?_
 first|rw[show A.in1.handled=Y from g]|rw[g]
 refine A0<|A4<|wpAny_throw ?_;exact k _ _ (((Y0 ..).extBut.push _).push _) ⟨_,B3 _ rfl,rfl⟩
end
def mD{prog:Ud}{w:World}{A:Ue}(hh:A.handled=Y)(it l:Ub)(hne:l≠it)(items:Ti):
 Draws prog w A it [it,l] items.size (fun i v=>items[i]?=Z v) (fun i h=>h.IsTupleIter it l i/\h.IsTuple l items) where
 live:=fun _ _ st=>let⟨o,ho,_⟩:=st.1;⟨o,ho⟩
 frame:=fun _ _ _ st hk=>⟨st.1.at fun o e=>hk it (by simp) o e,let⟨o,ho,r⟩:=st.2;⟨o,hk l (by simp) o ho,r⟩⟩
 item:=fun i s Q E hi st hQ=>by
  refine zG st.1 st.2 (x:=items[i]) (by simp[hi]) fun h' hit' hs'=>?_;exact hQ _ h' s.toks (by simp[hi]) ⟨hit',let⟨o,ho,r⟩:=st.2;⟨o,(hs'.2 l hne).trans ho,r⟩⟩ hs'
 done:=fun s Q E st hE=>tQ hh st.1 st.2 (by simp) hE
def xK(l:Ub)(items:Ti)(n:Nat)(b:Th)(sl:Array (Tf)):
 Meets (Builtin.«enumerate.__new__» ⟨[.type "enumerate",.ref l],[]⟩) (fun _ R s=>s.heap.get? l=Z { cls:=.type "tuple",dict:=b,data:=.seq items n,slots:=sl } /\
  R (.ok (.ret (.ref (s.heap.push { cls:=.type "tuple_iterator",data:=.fields #[.ref l,.int 0 0] }).objs.size)))
   { s with heap:=(s.heap.push { cls:=.type "tuple_iterator",data:=.fields #[.ref l,.int 0 0] }).push { cls:=.type "enumerate",data:=.fields #[.none,.bool false,.ref s.heap.objs.size,rawInt 0,.none,.none] } }):=
 .of_wp fun prog w A R s h=>by
  obtain⟨i,g,d,j,os⟩:=s;obtain⟨a,h⟩:=h;have f:=sub_enumerate;have e:Heap.IsTuple (Shared.heap ⟨i,g,d,j,os⟩) l items:=⟨_,a,rfl,n,rfl⟩
  wp_walk using F8 a
  refine wpAny_stack_any fun st=>A4 ?_;split
  .rename_i c _ _ _ _ _;cases (c==Value.type "enumerate")
   .wp_walk using F8 a,S7 e
    exact⟨_,rfl,h⟩
   .wp_walk using F8 a,S7 e
    exact⟨_,rfl,h⟩
  .wp_walk using F8 a,S7 e
   exact⟨_,rfl,h⟩
section
variable{prog:Ud}{w:World}{A:Ue}{E:T0}{s:Ua}
def zC{l:Ub}{items:Ti}{Q:T0}(g:s.heap.IsTuple l items)
 (h:∀h',IsEnum h' (s.heap.objs.size+1) s.heap.objs.size 0 .none->h'.IsTupleIter s.heap.objs.size l 0->h'.objs.size=s.heap.objs.size+2->
  (∀b o,s.heap.get? b=Z o->h'.get? b=Z o)->Q (.ref (s.heap.objs.size+1)) { s with heap:=h' }):
 wpAny (model prog w) A (call (.type "enumerate") [.ref l]) Q E s:=by
 obtain⟨⟨c,a,dt,sl⟩,i,d,n,hd⟩:=g
 replace d:c=.type "tuple":=d
 replace hd:dt=.seq items n:=hd
 subst d hd
 refine callType_new F.called_enumerate (by decide) (F.typeCall_enumerate_1 _) (F.newCall_enumerate_1 _) (fun obj=>F.args_object_init_2 obj _) F.entry_enumerate_new
  (xK l items n a sl) ⟨i,?_⟩
 have e:(s.heap.push { cls:=.type "tuple_iterator",data:=.fields #[.ref l,.int 0 0] }).objs.size=s.heap.objs.size+1:=S0 ..;show _/\_;rw[e]
 have f:IsEnum ((s.heap.push { cls:=.type "tuple_iterator",data:=.fields #[.ref l,.int 0 0] }).push
  { cls:=.type "enumerate",data:=.fields #[.none,.bool false,.ref s.heap.objs.size,rawInt 0,.none,.none] }) (s.heap.objs.size+1) s.heap.objs.size 0 .none:=by
  have:=B3 (s.heap.push { cls:=.type "tuple_iterator",data:=.fields #[.ref l,.int 0 0] })
   (o:={ cls:=.type "enumerate",data:=.fields #[.none,.bool false,.ref s.heap.objs.size,rawInt 0,.none,.none] }) rfl
  rw[e]at this;exact this
 refine⟨⟨_,f,rfl⟩,h _ f ⟨_,A1 _<|B3 _ rfl,rfl,rfl⟩ (by rw[S0,e]) fun b o x=>A1 _<|A1 _ x⟩
end
end PySem
namespace L2
open PySem PySem.Spec PyProof.Rows
section
variable{X:Cx}{pins:T1}{σ:St}{H:Hp}{s:Ua}{h':Heap}
def Inv.turnLay{fp:T9}{a:Ub}{o:HO}{t':Nat}(I:Inv X pins σ H s)(g:∀b∈fp,nQ X pins H b)(k:∀b u,b∉fp->s.heap.get? b=Z u->h'.get? b=Z u)(h:s.heap.objs.size<=a)(new:cO X.prog X.w (upd H a o) h' a o):
 Inv X pins σ (upd H a o) { s with heap:=h',toks:=t' }:=by
 have hn:H a=Y:=I.hok.fresh h;have i:∀b u,H b=Z u->b∉fp:=fun b u e z=>by rw[(g b z).1]at e;cases e
 refine I.step (g':=s.gens) (d':=s.drawn) (ch:=fp) (fun b f=>?_) (fun b o _ _ d e _=>k b o d e) (fun b o _ _ d e _=>⟨o.slots,k b o d e⟩) (fun b o _ e n=>?_) (fun b o d e=>⟨o,k b o d e⟩)
  (fun b xs e=>?_) (fun b o u e=>?_) (fun b ps e=>⟨#[],?_⟩) (fun m hm=>?_) ?_ I.bare
 .obtain⟨_,f1,_,j,l,p⟩:=g b f;exact⟨j,f1,l,p⟩
 .rw[aN (fun z=>by subst z;exact absurd (A8 e)<|Nat.not_lt.mpr h)];exact n
 .rw[aN (aT e hn)];exact e
 .rw[aN (aT e hn)];exact e
 .rw[aN (aT e hn)];simpa using e
 .obtain⟨o,es,ep,t,r⟩:=hm;exact⟨o,es,ep,k _ o (fun z=>(g _ z).2.1 rfl) t,r⟩
 .intro b u e;by_cases f:b=a
  .subst f;rw[aS]at e;cases e;exact new
  .rw[aN f]at e;refine(I.hok b u e).stay (fun c v d q=>k c v ?_ q) (fun c q=>by rw[aN (aT q hn)];exact q) fun c xs q=>by rw[aN (aT q hn)];exact q
   rcases d with z|z
   .rw[z];exact i b _ e
   .exact i c _ z
def Inv.turnF{fp:T9}{t':Nat}(I:Inv X pins σ H s)(d:∀b∈fp,nQ X pins H b)(k:∀b u,b∉fp->s.heap.get? b=Z u->h'.get? b=Z u):Inv X pins σ H { s with heap:=h',toks:=t' }:=by
 have f:∀b u,H b=Z u->b∉fp:=fun b u e z=>by rw[(d b z).1]at e;cases e
 refine I.step (g':=s.gens) (d':=s.drawn) (ch:=fp) (fun b g=>?_) (fun b o _ _ a e _=>k b o a e) (fun b o _ _ a e _=>⟨o.slots,k b o a e⟩) (fun _ _ _ _ n=>n) (fun b o a e=>⟨o,k b o a e⟩)
  (fun _ _ e=>e) (fun _ _ _ e=>e) (fun b ps e=>⟨#[],by simpa using e⟩) (fun m hm=>?_) (fun b u e=>?_) I.bare
 .obtain⟨_,f1,_,h,i,j⟩:=d b g;exact⟨h,f1,i,j⟩
 .obtain⟨o,es,ep,l,r⟩:=hm;exact⟨o,es,ep,k _ o (fun z=>(d _ z).2.1 rfl) l,r⟩
 .refine(I.hok b u e).stay (fun c v a q=>k c v ?_ q) (fun _ q=>q) fun _ _ q=>q;rcases a with z|z
  .rw[z];exact f b _ e
  .exact f c _ z
end
def Ite(Sq:Hp->Td->Prop):It:=
 ⟨fun i H=>∃xs x,Sq H xs/\xs[i]?=Z x,fun i H v H'=>∃p x,H p=Y/\v=.ref p/\H'=upd H p (.tup [.int i,x])/\∀xs,Sq H xs->xs[i]?=Z x,fun i H=>∃xs,Sq H xs/\xs.length=i⟩
def tnE(e it:Ub)(It:Heap->Nat->Prop)(i:Nat)(h:Heap):Prop:=(∃a,IsEnum h e it i a)/\It h i
section
variable{P:Ud}{w:World}{K:Fg}{elts:T7}{x1:Nat}{tpos:Pos}
def AM{e it a:Ub}{Sq:Hp->Td->Prop}{It:Heap->Nat->Prop}(hei:e≠it)
 (hobj:∀h i,It h i->∃o vs,h.get? it=Z o/\o.data=.fields vs) (hkeep:∀h h' i,It h i->(∀o,h.get? it=Z o->h'.get? it=Z o)->It h' i)
 (hinj:∀(X:Cx),X.K=K->∀pins σ H s,Inv X pins σ H s->∀xs ys,Sq H xs->Sq H ys->xs=ys)
 (draw:∀(X:Cx),X.prog=P->X.w=w->X.K=K->X.calm=true->∀pins σ H s,Inv X pins σ H s->∀xs,Sq H xs->(∃o vs,s.heap.get? it=Z o/\o.data=.fields vs)->(∃o vs,s.heap.get? e=Z o/\o.data=.fields vs)->∃(its:T4)(fp:T9)(S:Nat->Heap->Prop),bB xs its/\e∉fp /\
  Draws P w X.A.in1 it fp its.length (fun i v=>its[i]?=Z v) S/\(∀i,It s.heap i->S i s.heap)/\∀i h,S i h->It h i):
 Turn P w K (.Tuple elts x1 tpos) (Ite Sq) [e,it] e (tnE e it It) where
 mem:=by simp
 obj:=fun i h st b hb=>by
  obtain⟨⟨old,h1⟩,h2⟩:=st;rcases List.mem_cons.mp hb with rfl|hb
  .exact⟨_,h1,fun v z=>by cases z⟩
  .obtain⟨o,vs,q1,q2⟩:=hobj _ _ h2;rw[List.mem_singleton.mp hb];exact⟨o,q1,fun v z=>by rw[q2]at z;cases z⟩
 keep:=fun i h h' st k=>by
  obtain⟨⟨old,h1⟩,h2⟩:=st;exact⟨⟨old,k e (by simp) _ h1⟩,hkeep _ _ _ h2 fun o q=>k it (by simp) o q⟩
 item:=by
  intro X hP hw hK hc i pins s σ H E I hf st hg;obtain⟨xs,x,hq,hx⟩:=hg;obtain⟨⟨old,he⟩,hit⟩:=st;obtain⟨its,fp,S,rv,hef,D,s1,s2⟩:=draw X hP hw hK hc pins σ H s I xs hq (hobj _ _ hit) ⟨_,_,he,rfl⟩;subst hP hw hK;obtain⟨u,hu,ru⟩:=rv.get hx;have hlt:i<its.length:=(List.getElem?_eq_some_iff.mp hu).1;refine wpAny_pyNext_enum_itemD D he (s1 _ hit) hlt hei hef fun v h1 tk hv ho st1 ht hsz hk=>⟨_,rfl,?_⟩;rw[hu]at hv;cases hv;refine wpAny_letOwnedTupleGo_enum ho fun h2 he2 sb=>?_;have ne:s.heap.objs.size≠e:=E1<|A8 he;have ht2:h2.get? s.heap.objs.size=Z { cls:=.type "tuple",data:=.seq #[.int i tk,u] }:=(sb.2 _ ne).trans ht
  have I2:Inv X pins σ (upd H s.heap.objs.size (.tup [.int i,x])) { s with heap:=h2,toks:=tk+1 }:=by
   refine I.turnLay hf (fun b o hb q=>(sb.2 b fun z=>hb (by simp[z])).trans (hk b o (fun z=>hb (by simp[z])) (fun z=>hb (by simp[z])) q)) (A9 _) ⟨by show 2<=sizeLine;rw[E6];decide,[.int i tk,u],.cons ⟨tk,rfl⟩ (.cons ru .nil),⟨_,ht2,rfl,_,rfl⟩⟩
  refine⟨.ref s.heap.objs.size,_,I2,rfl,⟨_,x,I.hok.fresh<|A9 _,rfl,rfl,fun ys hy=>by rw[hinj X rfl _ _ _ _ I ys xs hy hq];exact hx⟩,⟨⟨_,by have:=he2;push_cast;exact this⟩,?_⟩,fun b hb=>?_⟩
  .exact hkeep _ _ _ (s2 _ _ st1) fun o q=>(sb.2 it<|F5 hei).trans q
  .have hb0:=(hf b hb).1;rw[aN fun z=>?_]
   .exact hb0
   .subst z;rcases List.mem_cons.mp hb with q|q
    .exact ne q
    .obtain⟨o,vs,q1,_⟩:=hobj _ _ hit;rw[<- List.mem_singleton.mp q]at q1;exact absurd (A8 q1)<|I0 _
 done:=by
  intro X hP hw hK hc i pins s σ H E I hf st hg;obtain⟨xs,hq,hx⟩:=hg;obtain⟨⟨old,he⟩,hit⟩:=st;obtain⟨its,fp,S,rv,hef,D,s1,s2⟩:=draw X hP hw hK hc pins σ H s I xs hq (hobj _ _ hit) ⟨_,_,he,rfl⟩;subst hP hw hK;have hl:=rv.length;rw[hl]at hx;subst hx;exact wpAny_pyNext_enum_endD D he (s1 _ hit) fun h1 hx=>⟨rfl,I.turnF (t':=s.toks) hf fun b o hb q=>hx b o (fun z=>hb (by simp[z])) q⟩
 self:=fun A i s Q E st h=>by
  obtain⟨⟨old,he⟩,_⟩:=st;exact wpAny_pyIter_enum he h
def HH{e it a:Ub}(f:e≠it):Turn P w K (.Tuple elts x1 tpos) (Ite fun H xs=>SqL K H a xs) [e,it] e (tnE e it fun h i=>h.IsListIter it a i):=by
 refine AM (a:=a) f (fun h i st=>?_) (fun h h' i st k=>st.at k) (fun X g pins m H s I xs D r t=>?_) fun X u v g x pins m H s I xs y hi B=>?_
 .obtain⟨o,q,_,d⟩:=st;exact⟨o,_,q,d⟩
 .subst g;exact I.list_inj r t
 .subst u v g;obtain⟨c,C,p,E⟩:=I.list y
  have ne:∀b,(∃o vs,s.heap.get? b=Z o/\o.data=.fields vs)->a≠b:=fun b ⟨o,vs,q,d⟩ z=>by
   subst z;obtain⟨o',j,_,n,l⟩:=p.isList;rw[q]at j;cases j;rw[d]at l;cases l
  refine⟨c,[it,a],fun i h=>h.IsListIter it a i/\h.IsList a c.toArray,C,?_,?_,fun i st=>⟨st,p.isList⟩,fun i h st=>st.1⟩
  .intro z;rcases List.mem_cons.mp z with z|z
   .exact f z
   .exact ne e B (List.mem_singleton.mp z).symm
  .have:=Draws.list (prog:=X.prog) (w:=X.w) (A:=X.A.in1) (I.ok.hd x) it a (ne it hi) c.toArray;simpa using this
def HJ{e it a:Ub}(f:e≠it):Turn P w K (.Tuple elts x1 tpos) (Ite fun H xs=>SqT K H a xs) [e,it] e (tnE e it fun h i=>h.IsTupleIter it a i):=by
 refine AM (a:=a) f (fun h i st=>?_) (fun h h' i st k=>st.at k) (fun X g pins m H s I xs D r t=>?_) fun X u v g x pins m H s I xs y hi B=>?_
 .obtain⟨o,q,_,d⟩:=st;exact⟨o,_,q,d⟩
 .subst g;exact I.tuple_inj r t
 .subst u v g;obtain⟨c,C,p,E⟩:=I.tuple y;have pt:s.heap.IsTuple a c.toArray:=p
  have ne:∀b,(∃o vs,s.heap.get? b=Z o/\o.data=.fields vs)->a≠b:=fun b ⟨o,vs,q,d⟩ z=>by
   subst z;obtain⟨o',j,_,n,l⟩:=pt;rw[q]at j;cases j;rw[d]at l;cases l
  refine⟨c,[it,a],fun i h=>h.IsTupleIter it a i/\h.IsTuple a c.toArray,C,?_,?_,fun i st=>⟨st,pt⟩,fun i h st=>st.1⟩
  .intro z;rcases List.mem_cons.mp z with z|z
   .exact f z
   .exact ne e B (List.mem_singleton.mp z).symm
  .have:=mD (prog:=X.prog) (w:=X.w) (A:=X.A.in1) (I.ok.hd x) it a (ne it hi) c.toArray;simpa using this
end
section
variable{X:Cx}{elts:T7}{x1:Nat}{tpos:Pos}
def aBl(K:Fg)(c:TA):TI:=fun d H R=>c d H fun vs b=>∃a,vs=[.ref a]/\((∃xs,SqL K b a xs/\R (Ite fun H xs=>SqL K H a xs) b)\/(∃xs,SqT K b a xs/\R (Ite fun H xs=>SqT K H a xs) b))
def YM{a:Uc}{n:TA}{p pos:Pos}(o:Gl X "enumerate")(hm:X.mg "enumerate"=Y)(ha:PA X [a] n)(hs:starEach [a] X.env=[(false,eval a X.env)]:=by rfl):PI X (.Tuple elts x1 tpos) (.Call (.Name "enumerate" p) [a] [] pos) (aBl X.K n):=by
 intro pins s t H R I h;refine Call_<|jL I o hm boot_enumerate<|E9 (thn (ha pos pins s t H _ I h) fun us s1 ⟨vs,i,c,u,v⟩=>?_) hs rfl;obtain⟨l,e,q⟩:=v;subst e;cases u with
 |cons r w=>
  cases w;cases (show _=Value.ref l from r)
  have fp:∀b∈[s1.heap.objs.size+1,s1.heap.objs.size],nQ X pins i b:=fun b hb=>by
   rcases List.mem_cons.mp hb with rfl|hb
   .exact c.fpOk (Nat.le_succ _)<|c.hok.fresh<|Nat.le_succ _
   .rw[List.mem_singleton.mp hb];exact c.fpOk (A9 _)<|c.hok.fresh<|A9 _
  rcases q with⟨xs,j,q⟩|⟨xs,j,q⟩
  .obtain⟨f,x,p,y⟩:=c.list j;refine call_enumerate_list p.isList fun h' g d k m=>?_;refine wpAny_pyIter_enum g ?_;exact⟨_,_,_,_,i,rfl,c.kept (t':=s1.toks) m,HH (a:=l)<|Nat.succ_ne_self _,⟨⟨_,g⟩,d⟩,fp,q⟩
  .obtain⟨f,x,p,y⟩:=c.tuple j;refine zC (show s1.heap.IsTuple l f.toArray from p) fun h' g d k m=>?_;refine wpAny_pyIter_enum g ?_;exact⟨_,_,_,_,i,rfl,c.kept (t':=s1.toks) m,HJ (a:=l)<|Nat.succ_ne_self _,⟨⟨_,g⟩,d⟩,fp,q⟩
end
noncomputable def zO(ds:T3):T5:=ds.zipIdx.map fun p=>.d (.tuple [.int (p.2:Nat),p.1])
def DK(f:AF):AF:=fun a M=>(f a M).bind fun r=>match r.1 with
 |[.d x]=>(bI x).bind fun b=>Z (zO b,r.2)
 |_=>Y
def OE{ds:T3}{i:Nat}{x:CD}(h:(zO ds)[i]?=Z x):∃d,ds[i]?=Z d/\x=.d (.tuple [.int (i:Nat),d]):=by
 unfold zO at h;rw[C0,List.getElem?_zipIdx]at h;cases e:ds[i]? with
 |none=>rw[e]at h;cases h
 |some d=>
  rw[e]at h;exact⟨d,rfl,by simpa using h.symm⟩
def aAc{K:Fg}{n:TA}{fa:AF}(b:SA K n fa):SI K (aBl K n) (DK fa):=by
 intro Q M xs M' a W H B R G Rs k;obtain⟨⟨S,M1⟩,C,a⟩:=aI a;refine b _ _ _ _ C W H B _ G Rs fun vs g q s h D=>?_;revert a;dsimp only;split
 .rename_i y;intro a;obtain⟨j,E,a⟩:=aI a;cases a;cases D with
  |cons r I=>
   cases I;obtain⟨p,us,rfl,hs,t⟩:=pW (show Rep K g.F y _ from r) E
   have w:∀Sq:Hp->Td->Prop,(∀c M2 e,g.Ext c->Good K c M2 e->Sq e us)->GU K (Ite Sq) (zO j) g:=fun Sq hS c M2 e f G2=>by
    have l:=hS c M2 e f G2;refine⟨fun i x J=>?_,us,l,by rw[show(zO j).length=j.length by simp[zO],t.length]⟩;obtain⟨d,hd,rfl⟩:=OE J;obtain⟨u,z,L⟩:=Paired.get (gF t) (show(j.map CD.d)[i]?=Z (.d d)by rw[C0,hd];rfl);refine⟨⟨us,u,l,z⟩,fun v T N=>?_⟩;obtain⟨O,U,hn,rfl,rfl,m⟩:=N;have:=m us l;rw[z]at this;cases this;obtain⟨A,P⟩:=G2.lay (o:=.tup [.int i,u]) hn;refine⟨_,A,P,⟨O,_,rfl,SqT.of aS,?_⟩⟩;exact⟨_,_,rfl,rfl,_,_,rfl,Rep.same A.ff _ _ (show Rep K c.F d u from(L.up f)),rfl⟩
   refine⟨p,rfl,?_⟩;rcases hs with hs|hs
   .exact .inl ⟨us,h.fh.seq hs,k _ g q s h (w _ fun c M2 e f G2=>G2.fh.seq<|f.ff.seq hs)⟩
   .exact .inr ⟨us,h.fh.seqT hs,k _ g q s h (w _ fun c M2 e f G2=>G2.fh.seqT<|f.ff.seqT hs)⟩
 .intro a;cases a
def XE{ι:Type}{K:Fg}{X:ι->Cx}{a:Uc}{fa:AF}{pos:Pos}{elts:T7}{x1:Nat}{tpos p:Pos}(c:∀i,(X i).K=K)(hm:∀i,(X i).mg "enumerate"=Y)(x:MA K X [a] fa)(d:∀i,Gl (X i) "enumerate":=by intro _;rfl):MI K X (.Tuple elts x1 tpos) (.Call (.Name "enumerate" p) [a] [] pos) (DK fa):=by
 obtain⟨t,b,e⟩:=x.ex;exact⟨_,fun i=>by have:=YM (elts:=elts) (x1:=x1) (tpos:=tpos) (p:=p) (pos:=pos) (d i) (hm i) (b i)<|x.st.1 _;rw[c i]at this;exact this,aAc e⟩
end L2
namespace PySem
open PySem.Calls PyProof.Rows
abbrev rC(x:Tx)(f:Bool)(d:Ub)(i n ep:Nat)(p q:Tx):Obj:=
 { cls:=.type "dict_itemiterator",dict:=Y,data:=.fields #[x,.bool f,.ref d,.int i 0,.int n 0,.int ep 0,p,q],slots:=#[] }
noncomputable abbrev duo(e:DictEntry):Obj:={ cls:=.type "tuple",data:=.seq #[e.key,e.val] }
def AS(h:Heap)(it d:Ub)(i n ep:Nat):Prop:=
 ∃x f p q,h.get? it=Z (rC x f d i n ep p q)/\(x=.none\/∃a o,x=rawInt (a:Nat)/\h.get? a=Z o)
def Raw(h:Heap)(d:Ub)(es:Array DictEntry)(ep:Nat):Prop:=∃o,h.get? d=Z o/\o.data=.dict es ep
def Raw.to{h h':Heap}{d:Ub}{es:Array DictEntry}{ep:Nat}(r:Raw h d es ep)(k:∀o,h.get? d=Z o->h'.get? d=Z o):Raw h' d es ep:=let⟨o,e,x⟩:=r;⟨o,k o e,x⟩
section
variable{prog:Ud}{w:World}{A:Ue}{E:T0}{s:Ua}{it d v:Ub}{es:Array DictEntry}{i n ep:Nat}
def HB(d:Ub)(hd:(d==sysModules)=false):MeetsIn prog w (Builtin.«dict.items» ⟨[.ref d],[]⟩) fun _ R s=>s.TypeIs (.ref d) "dict" /\
 R (.ok (.ret (.ref s.heap.objs.size))) { s with heap:=s.heap.push { cls:=.type "dict_items",data:=.fields #[.ref d] } }:=
 .of_wp fun A R s ⟨ty,h⟩=>by
  have q:Builtin.Dict.showsAll d=pure ():=by unfold Builtin.Dict.showsAll;rw[hd];rfl
  show wpAny _ _ (Builtin.Dict.noArgs _ _ >>= fun _=>_) _ _ s;unfold Builtin.Dict.noArgs;refine A0<|A0<|wpAny_notOrdered_dict ty<|A4 (?_:wpAny _ _ (Builtin.Dict.showsAll d >>= _) _ _ s);rw[q];exact A0<|A4<|A0<|C4<|A4 ⟨_,rfl,h⟩
def IE{Q:T0}(a:s.heap.IsItemsView v d)(r:Raw s.heap d es ep)
 (h:Q (.ref s.heap.objs.size) { s with heap:=s.heap.push (rC .none false d 0 es.size ep .none .none) }):wpAny (model prog w) A (pyIter (.ref v)) Q E s:=by
 obtain⟨g,e,j,f⟩:=id a;obtain⟨o,b,c⟩:=r;refine wpAny_pyIter_slot a.typeIs F.slot_dict_items_iter<|F4 F.slot_dict_items_iter a.typeIs F.entry_dict_items_iter (A0<|A4<|A0 (?_:wpAny _ _ (field (.ref v) 0 >>= _) _ _ s))<|F.args_dict_items_iter_1 _;refine A0<|D3 e f (x:=.ref d) rfl<|A4<|A0 (?_:wpAny _ _ (Builtin.Dict_items.newIterator _ d) _ _ s);refine A0<|wpAny_dictEntries b c<|A0<|wpAny_dictEpoch b c ?_;rw[show Builtin.Dict_items.ownsTuple "dict_itemiterator"=true from by decide];refine C4 (A4 ⟨_,rfl,_,_,⟨_,B3 _ rfl,rfl⟩,F.slot_dict_itemiterator_next.lookup,?_⟩) (by simp[sizeOk,Builtin.Dict_items.ownedTupleFields,sizeLine_eq]);exact h
def RQ{e:DictEntry}{Q:T0}(st:AS s.heap it d i n ep)
 (h:∀h',AS h' it d i n ep->h'.get? s.heap.objs.size=Z (duo e)->(∀b o,b≠it->s.heap.get? b=Z o->h'.get? b=Z o)->Q (.ref s.heap.objs.size) { s with heap:=h' }):
 wpAny (model prog w) A (Builtin.Dict_items.pairFromOwner (.ref it) 6 e.key e.val) Q E s:=by
 obtain⟨H,g,dr,D,os⟩:=s;obtain⟨x,f,p,q,F,K⟩:=st;have lt:it<H.objs.size:=A8 F;have new:(H.push<|duo e).get? H.objs.size=Z (duo e):=B3 _ rfl;have j:∀b o,H.get? b=Z o->(H.push<|duo e).get? b=Z o:=fun b o=>A1 _;refine A0<|wpAny_newTuple ?_;show wpAny _ _ (Builtin.Dict_items.ownedTupleIsFree (.ref it) >>= _) _ _ ⟨H.push<|duo e,g,dr,D,os⟩;generalize H.push (duo e)=G at new j ⊢;have k:=j it _ F
 have l:∀h' r y z B,h'.get? it=Z (rC r y d i n ep z B)->(r=.none\/∃a o,r=rawInt (a:Nat)/\G.get? a=Z o)->Heap.SameBut it G h'->Q (.ref H.objs.size) ⟨h',g,dr,D,os⟩:=by
  intro h' r y z B I t u;refine h h' ⟨r,y,z,B,I,t.imp id ?_⟩ (u.extBut _ _ (E1 lt) new) fun b o L e=>u.extBut b o L<|j b o e;rintro⟨a,o,m,M⟩;by_cases c:a=it
  .exact⟨a,_,m,c▸I⟩
  .exact⟨a,o,m,u.extBut a o c M⟩
 unfold Builtin.Dict_items.ownedTupleIsFree;refine A0<|A0<|D3 k rfl (x:=x) rfl ?_;rcases K with rfl|⟨a,o,rfl,m⟩
 .refine A4<|A0<|D3 k rfl (x:=p) rfl<|A0<|D3 k rfl (x:=q) rfl<|A0 (E3 k (by simp) fun J C t=>?_);refine A0 (E3 C (by simp) fun U N u=>A0 (E3 N (by simp) fun V O P=>A0 (E3 O (by simp) fun R S T=>?_)));exact A0<|wpAny_letGo<|A4<|l R _ _ _ _ S (.inr ⟨_,_,rfl,new⟩)<|((t.trans u).trans P).trans T
 .have al:(loadIfAlive ((a:Int).toNat):Sem (Tw Obj))=loadIfAlive a:=by rw[F0]
  show wpAny _ _ (loadIfAlive ((a:Int).toNat) >>= _) _ _ _;rw[al];refine A0<|W.kdx_alive (j a o m) ?_;show wpAny _ _ (field (.ref it) 1 >>= _) _ _ _;refine A0<|D3 k rfl (x:=.bool f) rfl ?_;cases f
  .exact A0 (E3 k (by simp) fun J C t=>A4<|A4<|l J _ _ _ _ C (.inr ⟨a,o,rfl,j a o m⟩) t)
  .exact A4<|A4<|l G _ _ _ _ k (.inr ⟨a,o,rfl,j a o m⟩)<|Heap.SameBut.refl _ _
def HD{Q:Tf->Ua->Prop}(J:A.handled=Y)(st:AS s.heap it d i es.size ep)(r:Raw s.heap d es ep)(ne:d≠it)
 (K:∀e,es[i]?=Z e->∀h',AS h' it d (i+1) es.size ep->h'.get? s.heap.objs.size=Z (duo e)->(∀b o,b≠it->s.heap.get? b=Z o->h'.get? b=Z o)->Q (Z (.ref s.heap.objs.size)) { s with heap:=h' })
 (L:es[i]?=Y->∀h',Heap.ExtBut it s.heap h'->Q Y { s with heap:=h' }):wpAny (model prog w) A (pyNext (.ref it)) Q E s:=by
 obtain⟨H,g,dr,B,os⟩:=s;obtain⟨x,f,p,q,j,M⟩:=st;obtain⟨od,C,D⟩:=r;have ty:Shared.TypeIs ⟨H,g,dr,B,os⟩ (.ref it) "dict_itemiterator":=⟨_,j,rfl⟩;have own:Builtin.Dict_items.ownsTuple "dict_itemiterator"=true:=by decide
 unfold pyNext;refine A0<|Z2<|F7 ty F.slot_dict_itemiterator_next<|F4 F.slot_dict_itemiterator_next ty F.entry_dict_itemiterator_next (A0<|A4<|A0<|A0 ?_)<|F.args_dict_itemiterator_next_1 _;refine A0<|Y9 ty<|A4<|A0<|wpAny_fieldsOf j rfl ?_;rw[own];refine A0<|A4<|A0<|wpAny_dictEntries C D ?_;rw[B0 (by simp)];refine A0<|A4<|A0<|wpAny_dictEpoch C D ?_;rw[B0 (by simp)];refine A4 ?_;have N:(if (i:Int)<0 then Y else es[(i:Int).toNat]?)=es[i]?:=by rw[B0 (by omega),F0]
 simp only[N];cases c:es[i]? with
 |some e=>
  refine A0<|A0<|Y9 ty<|A4<|A0<|wpAny_isOneOf_itemiter ty ?_;refine A0 (E3 j (k:=3) (x:=rawInt ((i:Int)+1)) (by simp) fun h' l t=>A0<|J4 ?_)
  have u:AS h' it d (i+1) es.size ep:=by
   refine⟨x,f,p,q,l,M.imp id fun⟨a,o,G,O⟩=>?_⟩;by_cases c:a=it
   .exact⟨a,_,G,c▸l⟩
   .exact⟨a,o,G,t.extBut a o c O⟩
  have h:Shared.TypeIs ⟨h',g,dr,B,os⟩ (.ref it) "dict_itemiterator":=⟨_,l,rfl⟩;refine A0<|wpAny_isOneOf_itemiter h<|A0<|wpAny_isOneOf_itemiter h (RQ (e:=e) u fun y z t2 P=>?_);have sz:h'.objs.size=H.objs.size:=t.1;refine A4 ⟨_,rfl,A4 ?_⟩;rw[sz]at t2 ⊢;exact K e c y z t2 fun b o I R=>P b o I<|t.extBut b o I R
 |none=>
  refine A0<|A0<|Y9 ty<|A4<|A0<|S4 j (i:=2) (x:=.none) rfl (by simp)<|A0 ?_;simp only[newExc,newTuple];refine A0<|C4 (A0 (m:=firstArgMember _ _)<|wpAny_of_eq (a:=Value.none) (by simp only[firstArgMember];rfl)<|C4 ?_ (by size_fits)) (by size_fits);simp only[raiseNew];refine A0<|wpAny_handled ?_;rw[show A.in1.handled=Y from J];refine A0<|A4<|wpAny_throw ?_;refine A0<|wpAny_isInstance (b:=true) (T:="StopIteration") ⟨_,B3 _ rfl,rfl⟩ isSubtype_stop ?_;exact A4<|L c _<|((Y0 ..).extBut.push _).push _
end
structure Handed(es:Array DictEntry)(lo:Ub)(h:Heap)(as:T9):Prop where
 rise:as.Pairwise (·<·)
 above:∀a∈as,lo<a
 duos:∀(j:Nat)(a:Ub),as[j]?=Z a->∃e,es[j]?=Z e/\h.get? a=Z (duo e)
def Handed.to{es:Array DictEntry}{lo b:Ub}{h h':Heap}{as:T9}(g:Handed es lo h as)(l:b<=lo)(k:∀a o,lo<a->h.get? a=Z o->h'.get? a=Z o):Handed es b h' as:=
 ⟨g.rise,fun a ha=>Nat.lt_of_le_of_lt l<|g.above a ha,fun j a ha=>let⟨e,x,y⟩:=g.duos j a ha;⟨e,x,k a _ (g.above a<|List.mem_of_getElem? ha) y⟩⟩
def Handed.more{es:Array DictEntry}{lo a:Ub}{h:Heap}{as:T9}{e:DictEntry}(g:Handed es lo h as)(up:∀b∈as,b<a)(i:lo<a)(k:es[as.length]?=Z e)(ha:h.get? a=Z (duo e)):Handed es lo h (as++[a]):=by
 refine⟨List.pairwise_append.mpr ⟨g.rise,List.pairwise_singleton _ _,fun b f c l=>by rw[List.mem_singleton.mp l];exact up b f⟩,fun b f=>?_,fun j b d=>?_⟩
 .exact(List.mem_append.mp f).elim (g.above b) fun q=>List.mem_singleton.mp q▸i
 .rw[List.getElem?_append]at d;split at d
  .exact g.duos j b d
  .have z:j-as.length=0:=by
    have:=(List.getElem?_eq_some_iff.mp d).1;simp at this;omega
   rw[z]at d;cases d;exact⟨e,by rw[show j=as.length by omega];exact k,ha⟩
abbrev rowOf(acc:Ti)(c:Nat):Obj:={ cls:=.type "list",dict:=Y,data:=.seq acc c,slots:=#[] }
section
variable{prog:Ud}{w:World}{A:Ue}{E:T0}{s:Ua}{S I d v:Ub}{es:Array DictEntry}{ep:Nat}{R:Result->Ua->Prop}{res:Tx}
def HV(hh:A.handled=Y)(P:S<I)(dS:d≠S)(Q:d≠I)(hn:es.size<=sizeLine):
 ∀(m i:Nat)(h:Heap)(tk c:Nat)(g:Ti)(as:T9),i+m=es.size->AS h I d i es.size ep->Raw h d es ep->h.get? S=Z (rowOf g c)->g.toList=as.map Value.ref->as.length=i->Handed es I h as->I<h.objs.size->
  (∀h' tk g c as,(∀b o,b≠S->b≠I->h.get? b=Z o->h'.get? b=Z o)->h'.get? S=Z (rowOf g c)->as.length=es.size->Handed es I h' as->g.toList=as.map Value.ref->R (.ok (.ret res)) { s with heap:=h',toks:=tk })->
  codeAny (model prog w) A (.builtin "list.extend.loop" ⟨[.ref S,.ref I,res],[]⟩) R { s with heap:=h,toks:=tk }:=by
 intro m
 induction m using Nat.strongRecOn with
 |_ m ih=>
  intro i h tk c g as em st r hS J el K T t;have L:S≠I:=B5 P;refine codeAny_builtin F.entry_extend_loop ?_;rw[Around.under_plainId U1 _];refine A0 (HD (A:=A.in1) (s:={ s with heap:=h,toks:=tk }) hh st r Q (fun e C D M t1 l=>?_) fun C D l=>?_)
  .have mi:i<es.size:=(Array.getElem?_eq_some_iff.mp C).1;have U:g.size=i:=by rw[<- U2,J,A3,el]
   have lS:S<h.objs.size:=A8 hS;have u:=l S _ L hS;have n:∀b o,b≠S->D.get? b=Z o->(D.update S<|Obj.mapSeq (·.push (Value.ref h.objs.size))).get? b=Z o:=fun b o nb e=>(F9 _ _<|F5 nb).trans e;have z:=J1 (Obj.mapSeq (·.push (Value.ref h.objs.size))) u rfl;have V:=n _ _ (E1 lS) t1;refine A0<|wpAny_updateSeq (f:=(·.push (Value.ref h.objs.size))) u rfl (A4 ⟨plainId_quiet U1 _,?_⟩) (by rw[U];omega) (by show(g.push _).size<=_;rw[Array.size_push,U];omega)
   refine ih (m-1) (by omega) (i+1) _ tk _ (g.push<|Value.ref h.objs.size) (as++[h.objs.size]) (by omega) ?_ (r.to fun o e=>n d o dS<|l d o Q e) z (by rw[Array.toList_push,J,J0];rfl) (by rw[B1,el];rfl)
    ((K.to (A9 _) fun a o G e=>n a o (E1<|U0 P G)<|l a o (E1 G) e).more (fun b hb=>?_) T (by rw[el];exact C) V) (U0 T<|A8 V)
    fun h' N B c' O k=>t h' N B c' O fun b o W H e=>k b o W H<|n b o W<|l b o H e
   .obtain⟨x,f,p,q,w1,hx⟩:=M;refine⟨x,f,p,q,n _ _ (F5 L) w1,hx.imp id fun⟨a,o,X,e2⟩=>?_⟩;by_cases q:a=S
    .subst q;exact⟨a,_,X,z⟩
    .exact⟨a,o,X,n a o q e2⟩
   .obtain⟨j,hj⟩:=List.mem_iff_getElem?.mp hb;obtain⟨_,_,y⟩:=K.duos j b hj;exact A8 y
  .have mi:es.size<=i:=Array.getElem?_eq_none_iff.mp C;exact A4<|t D tk g c as (fun b o _ H e=>l b o H e) (l S _ L hS) (by omega) (K.to (A9 _) fun a o G e=>l a o (E1 G) e) J
def LV{Q:T4->Ua->Prop}(M:A.handled=Y)(B:s.heap.IsItemsView v d)(r:Raw s.heap d es ep)(hn:es.size<=sizeLine)
 (N:∀(h':Heap)(tk:Nat)(as:T9),(∀b o,s.heap.get? b=Z o->h'.get? b=Z o)->as.length=es.size->Handed es s.heap.objs.size h' as->Q (as.map Value.ref) { s with heap:=h',toks:=tk }):
 wpAny (model prog w) A (collect (.ref v)) Q E s:=by
 obtain⟨H,g,dr,tk,os⟩:=s;have O:v<H.objs.size:=let⟨_,t,_⟩:=B;A8 t;have ld:d<H.objs.size:=let⟨_,t,_⟩:=r;A8 t;refine A0<|wpAny_runValue<|codeAny_builtin entry_proto_collect' ?_;rw[Around.under_plainId PySem.F.plain_proto_collect _];refine A0 (m:=newList [])<|C4<|A4 ⟨plainId_quiet PySem.F.plain_list_iadd _,codeAny_builtin entry_list_iadd' ?_⟩;rw[Around.under_plainId PySem.F.plain_list_iadd _];have n:∀b o,H.get? b=Z o->(H.push<|rowOf #[] 0).get? b=Z o:=fun b o e=>A1 _ e;have C:=(B3 H (o:=rowOf #[] 0) rfl);have D:(H.push<|rowOf #[] 0).objs.size=H.objs.size+1:=S0 ..;show wpAny _ A.in1 (Builtin.List.listExtendWith (.ref H.objs.size) (.ref v) (.ref H.objs.size)) _ _ ⟨H.push<|rowOf #[] 0,g,dr,tk,os⟩;generalize H.push (rowOf #[] 0)=G at n C D ⊢;have l:H.objs.size<G.objs.size:=by rw[D];exact J3 _
 have i:G.IsItemsView v d:=let⟨o,a,b⟩:=B;⟨o,n _ _ a,b⟩;refine A0<|wpAny_typeOf (T:="dict_items") (i.typeIs (s:=⟨G,g,dr,tk,os⟩)) ?_;rw[show Builtin.List.listSameRef (.ref H.objs.size) (.ref v)=false from by simp[Builtin.List.listSameRef,Nat.ne_of_gt O]];refine A0<|IE (s:=⟨G,g,dr,tk,os⟩) i (r.to fun o e=>n d o e)<|A0<|J4<|W.kdx_hint (r:=v) (let⟨o,a,b,_⟩:=i;⟨o,A1 _ a,b⟩) ?_;have p:∀b o,G.get? b=Z o->(G.push<|rC .none false d 0 es.size ep .none .none).get? b=Z o:=fun b o e=>A1 _ e;have u:=B3 G (o:=rC .none false d 0 es.size ep .none .none) rfl;show wpAny _ _ _ _ _ ⟨G.push<|rC .none false d 0 es.size ep .none .none,g,dr,tk,os⟩;generalize G.push (rC .none false d 0 es.size ep .none .none)=F at p u ⊢
 have go:∀h c,(∀b o,b≠H.objs.size->F.get? b=Z o->h.get? b=Z o)->h.get? H.objs.size=Z (rowOf #[] c)->
  codeAny (model prog w) A (.builtin "list.extend.loop" ⟨[.ref H.objs.size,.ref G.objs.size,.ref H.objs.size],[]⟩) (fun r J=>match r with|.ok (.ret v)=>wpAny (model prog w) A (match v with|.ref a=>load a >>= fun o=>(match o.data with|.seq xs _=>pure xs.toList|_=>unsupported "internal:collect")|_=>unsupported "internal:collect") Q E J|.ok _=>False|.error e=>E e J) ⟨h,g,dr,tk,os⟩:=fun h c k hS=>
  HV (s:=⟨H,g,dr,tk,os⟩) (S:=H.objs.size) (I:=G.objs.size) M l (B5 ld) (B5<|U0 ld l) hn es.size 0 h tk c #[] [] (Nat.zero_add _) ⟨_,_,_,_,k _ _ (E1 l) u,.inl rfl⟩ (r.to fun o e=>k _ _ (B5 ld)<|p _ _<|n _ _ e) hS rfl rfl
   ⟨.nil,(fun _ q=>nomatch q),fun j a q=>by simp at q⟩ (A8<|k _ _ (E1 l) u) fun h' x P c as U y el V X=>A0 (wpAny_load y (A4 (by
    rw[X];exact N h' x as (fun b o e=>U b o (B5 (A8 e)) (B5 (U0 (A8 e) l)) (k b o (B5 (A8 e)) (p b o (n b o e)))) el (V.to (S9 l) fun _ _ _ e=>e))))
 have z:=p _ _ C;have K:=J1 (Obj.mapSeq (·.push Value.none)) z rfl;refine wpAny_ite_split (fun _=>A0<|Z7<|A0<|A0<|wpAny_updateSeq (f:=(·.push Value.none)) z rfl<|wpAny_updateSeq (hz:=by seq_fits) K rfl<|A4 ⟨plainId_quiet U1 _,go _ _ (fun b o L e=>?_)<|J1 (Obj.mapSeq (·.pop)) K rfl⟩) fun _=>A4 ⟨plainId_quiet U1 _,go _ _ (fun _ _ _ e=>e) z⟩;rw[F9 _ _ (F5 L),F9 _ _<|F5 L];exact e
end
end PySem
namespace PySem
open PySem.Calls PyProof.Rows
section
variable{prog:Ud}{w:World}{A:Ue}{E:T0}{s:Ua}{it d:Ub}{es:Array DictEntry}{i ep:Nat}
def MZ{Q:T0}(hd:(d==sysModules)=false)(ty:s.TypeIs (.ref d) "dict")(r:Raw s.heap d es ep)
 (h:Q (.ref s.heap.objs.size) { s with heap:=s.heap.push { cls:=.type "dict_keyiterator",data:=.fields #[.ref d,.int 0 0,.int es.size 0,.int ep 0] } }):wpAny (model prog w) A (pyIter (.ref d)) Q E s:=by
 obtain⟨o,a,b⟩:=r;have q:Builtin.Dict.showsAll d=pure ():=by unfold Builtin.Dict.showsAll;rw[hd];rfl
 refine wpAny_pyIter_slot ty F.slot_dict_iter<|F4 F.slot_dict_iter ty F.entry_dict_iter (A0<|A0<|wpAny_notOrdered_dict ty<|A4 (?_:wpAny _ _ (Builtin.Dict.showsAll d >>= _) _ _ s))<|F.args_dict_iter_1 _;rw[q];refine A0<|A4<|A0<|wpAny_dictEntries a b<|A0<|wpAny_dictEpoch a b<|A0<|C4<|A4 ⟨_,rfl,_,_,⟨_,B3 _ rfl,rfl⟩,F.slot_dict_keyiterator_next.lookup,?_⟩;exact h
def AU{Q:Tf->Ua->Prop}(l:A.handled=Y)(st:s.heap.IsKeyIter it d i es.size ep)(r:Raw s.heap d es ep)
 (n:∀e,es[i]?=Z e->∀h',h'.IsKeyIter it d (i+1) es.size ep->Heap.SameBut it s.heap h'->Q (Z e.key) { s with heap:=h' })
 (p:es[i]?=Y->∀h',Heap.ExtBut it s.heap h'->Q Y { s with heap:=h' }):wpAny (model prog w) A (pyNext (.ref it)) Q E s:=by
 obtain⟨o,h,q,f⟩:=id st;obtain⟨od,j,k⟩:=r;have ty:=st.typeIs;have own:Builtin.Dict_items.ownsTuple "dict_keyiterator"=false:=by decide
 unfold pyNext;refine A0<|Z2<|F7 ty F.slot_dict_keyiterator_next<|F4 F.slot_dict_keyiterator_next ty F.entry_dict_keyiterator_next (A0<|A4<|A0<|A0 ?_)<|F.args_dict_keyiterator_next_1 _;refine A0<|Z5 ty<|A4<|A0<|wpAny_fieldsOf h f ?_;rw[own];refine A0<|A4<|A0<|wpAny_dictEntries j k ?_;rw[B0 (by simp)];refine A0<|A4<|A0<|wpAny_dictEpoch j k ?_;rw[B0 (by simp)];refine A4 ?_;have t:(if (i:Int)<0 then Y else es[(i:Int).toNat]?)=es[i]?:=by rw[B0 (by omega),F0]
 simp only[t];cases c:es[i]? with
 |some e=>
  refine A0<|A0<|Z5 ty<|A4<|A0<|wpAny_isOneOf_keyiter ty ?_;refine A0<|S4 h (i:=1) (x:=rawInt ((i:Int)+1)) f (by simp) ?_
  have g:(s.heap.update it<|Obj.mapFields (·.setIfInBounds 1 (rawInt ((i:Int)+1)))).IsKeyIter it d (i+1) es.size ep:=
   ⟨_,J1 _ h<|Y6<|J9 f _,(Obj.cls_mapFields ..).trans q,by rw[J9 f];simp[rawInt]⟩
  refine A0<|J4<|A0<|wpAny_isOneOf_keyiter (s:={ s with heap:=s.heap.update it (Obj.mapFields (·.setIfInBounds 1 (rawInt ((i:Int)+1)))) }) g.typeIs ?_;exact A4<|A4 ⟨_,rfl,A4<|n e c _ g<|Y0 ..⟩
 |none=>
  refine A0<|A0<|Z5 ty<|A4<|A0<|S4 h (i:=0) (x:=.none) f (by simp)<|A0 ?_;simp only[newExc,newTuple];refine A0<|C4 (A0 (m:=firstArgMember _ _)<|wpAny_of_eq (a:=Value.none) (by simp only[firstArgMember];rfl)<|C4 ?_ (by size_fits)) (by size_fits);simp only[raiseNew];refine A0<|wpAny_handled ?_;rw[show A.in1.handled=Y from l];refine A0<|A4<|wpAny_throw ?_;refine A0<|wpAny_isInstance (b:=true) (T:="StopIteration") ⟨_,B3 _ rfl,rfl⟩ isSubtype_stop ?_;exact A4<|p c _<|((Y0 ..).extBut.push _).push _
end
end PySem
namespace PySem.W
open PySem PySem.Calls PyProof.Rows PyProof.V PySem.Spec
section
variable{prog:Ud}{w:World}{A:Ue}{E:T0}{s:Ua}{h₀:Heap}{L:Ub}{m:Str->Tf}{news:T1}{vs:T4}
def l2_tail{Q:T0}(F:Fr h₀ L s.heap m)(N:News h₀ L s.heap news)(y:2<=vs.length)(f:vs.length<64)
 (h:∀D d h',Fr h₀ L h' m->News h₀ L h' ((D,seqObj "list" #[] d)::news)->(∀q∈news,q.1<D)->
  wpAny (model prog w) A.in1 (keyKind' vs.toArray) (fun n e=>(kas_sort vs.length).kasWp (kas_ask prog w A.in1 n vs) (fun p a=>KasFin h₀ L m D d (p.toList.map fun i=>vs.getD i Value.none) (fun r=>Q (.ref D) r) a) e) (fun _ _=>False) { s with heap:=h' }):
 wpAny (model prog w) A (do let l <- newList vs;let _ <- holding [l] (call (.builtin "list.sort") [l]);ret l) (fun g e=>∃v,g=.done (.ret v)/\Q v e) E s:=by
 refine A0<|wpAny_newList ?_ (by rw[E6];omega);have c:(s.heap.push<|seqObj "list" vs.toArray 0).get? s.heap.objs.size=Z (seqObj "list" vs.toArray 0):=B3 _ rfl;have keep:∀b o,s.heap.get? b=Z o->(s.heap.push<|seqObj "list" vs.toArray 0).get? b=Z o:=fun b o q=>A1 _ q;have t:L<s.heap.objs.size:=F.ns.lt;show wpAny _ _ _ _ _ { s with heap:=s.heap.push (seqObj "list" vs.toArray 0) };refine A0<|J4<|F4 slot_list_sort ⟨_,c,rfl⟩ entry_list_sort ?body<|args_list_sort _
 case body=>
  refine kat_list_sort (s:={ s with heap:=s.heap.push (seqObj "list" vs.toArray 0) }) (F.kept keep) (N.grown keep) c (E1 t) (Z3<|D9 F.above<|S9 t)
   (fun p z=>B5<|A8 (N p z).1) y f fun d h' B N'=>?_
  refine D5 (h _ d h' B N' fun q j=>A8 (N q j).1) (fun n e u=>?_) fun _ _ x=>x;rw[kat_ask_eq rfl]at u ⊢;exact kas_wp_mono u fun p a k=>k.mono fun r j=>⟨_,rfl,A4 ⟨_,rfl,j⟩⟩
end
end PySem.W
namespace L2
variable{A:Ue}{H:Hp}{W:Wd}
open PySem PySem.Spec PyProof.Rows
section
variable{X:Cx}{pins:T1}{σ:St}{H:Hp}{s:Ua}{E:T0}
noncomputable def nY(its:T4):Sem PySem.Fin:=do let l <- newList its;let _ <- holding [l] (call (.builtin "list.sort") [l]);ret l
def QD(K:Fg)(vs:Td)(H:Hp)(Q:VK):Prop:=
 (∃a:Tv (T3),aK K H (a.map .tuple) vs/\2<=a.length/\a.length<64/\(∀r∈a,r.all SeqAt.shaped=true/\jJ r=true)/\(nH a=true\/nW a=true)/\(∀i j,i<a.length->j<a.length->(gI (a.getD i [])<|a.getD j []).isSome=true) /\
  ∀l,H l=Y->Q (.ref l) (upd H l (.lst ((jE (tG a) a.length).map fun i=>vs.getD i .non))))\/(vs.length<2/\∀l,H l=Y->Q (.ref l) (upd H l (.lst vs)))
def aCo{a:Tv (T3)}{vs:Td}{its:T4}{Q:VK}(hu:A.in1.units+64<cLine)(I:Inv X pins σ H s)(rv:bB vs its)(g:aK X.K H (a.map .tuple) vs)(h2:2<=a.length)(T:a.length<64)
 (f:∀r∈a,r.all SeqAt.shaped=true/\jJ r=true) (h:nH a=true\/nW a=true) (t:∀i j,i<a.length->j<a.length->(gI (a.getD i [])<|a.getD j []).isSome=true)
 (q:∀l,H l=Y->Q (.ref l) (upd H l (.lst ((jE (tG a) a.length).map fun i=>vs.getD i .non)))):
 wpAny (model X.prog X.w) A (nY its) (fun U s'=>∃v,U=.done (.ret v)/\∃x H',Inv X pins σ H' s'/\RelV x v/\Q x H') E s:=by
 obtain⟨as,u⟩:=aK.reads I _ vs its g rv;have k:its.length=a.length:=by rw[ReadsAll.len u,A3]
 obtain⟨m,F⟩:=I.fr;have N:News X.base X.env.locals s.heap (mW X.base s.heap X.env.locals):=FK;unfold nY;refine PySem.W.l2_tail (Q:=fun v s'=>∃x H',Inv X pins σ H' s'/\RelV x v/\Q x H') F N (by omega) (by omega) fun D e1 h' F' N' hD=>?_
 have kp:∀(R:Heap),Fr X.base X.env.locals R m->(∀q∈mW X.base s.heap X.env.locals,R.get? q.1=Z q.2)->∀b o,b≠X.env.locals->s.heap.get? b=Z o->R.get? b=Z o:=fun R G1 M1 b o hb e=>by
  cases z:X.base.get? b with
  |some v=>
   have:=I.bk b v z;rw[e]at this;cases this;exact G1.keep b _ z
  |none=>exact M1 (b,o)<|nV hb z e
 have k':=kp h' F' fun q B=>(N' q<|B4 _ B).1
 have G:s.heap.get? D=Y:=by
  have hN:=N' _ B7;cases e:s.heap.get? D with
  |none=>rfl
  |some o=>exact absurd (hD (D,o)<|nV hN.2.1 hN.2.2 e)<|I0 _
 have J:∀b o vs n,s.heap.get? b=Z o->o.data=.seq vs n->b≠X.env.locals:=fun b o vs n e d z=>by
  obtain⟨o',es,ep,x1,x2,_⟩:=F.ns;subst z;rw[e]at x1;cases x1;rw[d]at x2;cases x2
 have a0:jJ (a.map .tuple)=true:=by
  clear g u k q h t h2 T
  induction a with
  |nil=>rfl
  |cons x r ih=>
   show(jJ x&&jJ (r.map .tuple))=true;rw[(f x B7).2,ih fun y hy=>f y<|B4 _ hy];rfl
 have L:ReadsAll h' its (a.map .tuple) as:=TX (fun b o vs n e d=>k' b o (J b o vs n e d) e) _ _ _ a0 u;refine MJ (s:={ s with heap:=h' }) L (by omega) h ?_;rw[k];refine KS.wp (lt:=tG a) (n:=a.length) (fun i j C hi S c=>?_) (fun p a1=>?_)<|(LB (by omega)).ks (lt:=tG a)
 .have at_:∀i,i<a.length->∃bs,Reads h' (its.getD i .none) (.tuple (a.getD i [])) bs:=fun i hi=>by
   obtain⟨bs,x⟩:=ReadsAll.at i L (by simpa using hi)
   have:(a.map PyData.tuple).getD i .none=.tuple (a.getD i []):=by
    rw[C8,C0,C8,B2 hi];rfl
   rw[this]at x;exact⟨bs,x⟩
  obtain⟨b1,r1⟩:=at_ i hi;obtain⟨b2,r2⟩:=at_ j S
  have mem:∀i,i<a.length->a.getD i []∈a:=fun i hi=>by
   rw[C8,B2 hi];exact List.getElem_mem hi
  have hd:nH a=true->∀r∈a,r.head?.all isI=true:=fun z r u=>by
   unfold nH at z;have:=List.all_eq_true.mp z r u;cases r with
   |nil=>rfl
   |cons d ds=>cases d<;>first|rfl|exact absurd this (by intro z;cases z)
  obtain⟨c0,M⟩:=Option.isSome_iff_exists.mp<|t i j hi S;have hc:tG a i j=c0:=by unfold tG;rw[M];rfl
  rw[hc]at c;exact aEd (s:={ s with heap:=h' }) hu r1 r2 (f _<|mem i hi).1 (f _<|mem j S).1 M (fun z=>⟨hd z _<|mem i hi,hd z _<|mem j S⟩) c
 .obtain⟨e,_⟩:=a1;subst e;refine PySem.W.KasFin.intro F' N' (.head fun q B=>B5<|hD q B) fun a6 c O P=>?_;have a7:=kp a6 O (fun q B=>(P q<|B4 _ B).1);refine⟨.ref D,upd H D (.lst ((jE (tG a) a.length).map fun i=>vs.getD i .non)),?_,rfl,q D<|I.hok.none G⟩;refine I.laidL a7 (fun m' a8=>?_) G ⟨?_,_,c,AY rv _,(P _ B7).1⟩
  .rw[<- JR F.ns a8];exact O.ns
  .rw[A3,(pA (tG a) (by omega)).length_eq,C1];have:64<=sizeLine:=by decide
   omega
def aBW{A:Ue}{vs:Td}{its:T4}{Q:VK}(I:Inv X pins σ H s)(f:bB vs its)(p:vs.length<2)(q:∀l,H l=Y->Q (.ref l) (upd H l (.lst vs))):
 wpAny (model X.prog X.w) A (nY its) (fun a h=>∃v,a=.done (.ret v)/\∃x H',Inv X pins σ H' h/\RelV x v/\Q x H') E s:=by
 have r:=f.length;have i:its.length<=sizeLine:=by rw[E6];omega
 unfold nY;refine A0<|wpAny_newList ?_ i;refine A0<|J4 ?_;have d:(s.heap.push { cls:=.type "list",data:=.seq its.toArray }).get? s.heap.objs.size=Z (seqObj "list" its.toArray 0):=B3 _ rfl;refine F4 slot_list_sort ⟨_,d,rfl⟩ entry_list_sort (vJ d (by omega) ⟨_,rfl,?_⟩)<|args_list_sort _
 obtain⟨c,j⟩:∃c,(sortedHeap (s.heap.push { cls:=.type "list",data:=.seq its.toArray }) s.heap.objs.size its its.toArray).get? s.heap.objs.size=Z (seqObj "list" its.toArray c):=by
  unfold sortedHeap;have k:=get?_update_seq d (fun _=>#[]);have m:=A1 (seqObj "tuple" its.toArray 0) k;have n:=A1 (seqObj "list" #[] 0) m;exact⟨_,get?_update_seq n fun _=>its.toArray⟩
 refine A4 ⟨_,rfl,.ref s.heap.objs.size,upd H s.heap.objs.size (.lst vs),I.laid (t':=s.toks) (fun b o e=>?_) (A9 _) ⟨by omega,its,c,f,j⟩,rfl,q _<|I.hok.fresh<|A9 _⟩
 .have g:b≠s.heap.objs.size:=B5<|A8 e;unfold sortedHeap;rw[Heap.get?_update_ne _ _ _ _ g];refine A1 _<|A1 _ ?_;rw[Heap.get?_update_ne _ _ _ _ g];exact A1 _ e
def aEt{vs:Td}{its:T4}{Q:VK}(l:A.in1.units+64<cLine)(I:Inv X pins σ H s)(j:bB vs its)(h:QD X.K vs H Q):
 wpAny (model X.prog X.w) A (nY its) (fun i m=>∃v,i=.done (.ret v)/\∃x H',Inv X pins σ H' m/\RelV x v/\Q x H') E s:=by
 rcases h with⟨k,a,b,c,d,e,f,g⟩|⟨a,b⟩
 .exact aCo l I j a b c d e f g
 .exact aBW I j a b
def sT:Tv (V×V)->Hp->(Td->Hp->Prop)->Prop
 |[],H,k=>k [] H
 |(x,y)::r,H,k=>∀p,H p=Y->sT r (upd H p (.tup [x,y])) fun vs a=>k (.ref p::vs) a
def Inv.trackT{e:Ub}{vs:Td}{its:T4}{n:Nat}(I:Inv X pins σ H s)(d:s.heap.get? e=Z { cls:=.type "tuple",data:=.seq its.toArray n })(g:bB vs its)(hz:vs.length<=sizeLine)(hn:H e=Y)(i:X.s₀.heap.get? e=Y)(j:∀p∈X.pn++pins,p.1≠e):
 Inv X pins σ (upd H e (.tup vs)) s:=by
 have ne:∀b u,H b=Z u->b≠e:=fun b u z=>aT z hn
 have nd:∀b (o:Obj),s.heap.get? b=Z o->(∀vs n,o.data≠.seq vs n)->b≠e:=fun b o q z w=>by
  subst w;rw[d]at q;cases q;exact z _ _ rfl
 refine⟨I.ok,I.os,I.bare,⟨I.base.keep,I.base.slot,fun b o q n k=>?_,I.base.there,fun b xs q=>?_,fun b o u q=>?_,fun b ps q=>?_⟩,I.loc,I.cell,?_,fun x c q=>?_,fun p h=>?_,fun b u q=>?_,I.len⟩
 .rw[aN (fun z=>by rw[z,i]at q;cases q)];exact I.base.free b o q n k
 .have:=I.base.tups b xs q;rw[aN (ne _ _ this)];exact this
 .have:=I.base.frzs b o u q;rw[aN (ne _ _ this)];exact this
 .obtain⟨more,this⟩:=I.base.tbls b ps q;exact⟨more,by rw[aN (ne _ _ this)];exact this⟩
 .obtain⟨m,⟨o,es,ep,a,hd,_⟩,_⟩:=I.loc;rw[aN (nd _ o a fun vs n z=>by rw[hd]at z;cases z)];exact I.free
 .obtain⟨v,o,a,hd⟩:=I.cell x c q;rw[aN (nd _ o a fun vs n z=>by rw[hd]at z;cases z)];exact I.freeC x c q
 .obtain⟨l,r,t⟩:=I.pin p h;exact⟨l,by rw[aN (j p h)];exact r,t⟩
 .by_cases f:b=e
  .subst f;rw[aS]at q;cases q;exact⟨hz,its,g,⟨_,d,rfl,n,rfl⟩⟩
  .rw[aN f]at q;exact(I.hok b u q).stay (fun _ _ _ z=>z) (fun c z=>by rw[aN (ne _ _ z)];exact z) fun c xs z=>by rw[aN (ne _ _ z)];exact z
def JQ:∀{ps:Tv (V×V)}{us:Tv (Tx×Tx)}{as:T9}{H:Hp}{k:Td->Hp->Prop},Inv X pins σ H s->Paired (fun p q=>RelV p.1 q.1/\RelV p.2 q.2) ps us->as.length=us.length->as.Pairwise (·<·)->(∀a∈as,H a=Y)->
 (∀(j:Nat)(a:Ub),as[j]?=Z a->∃p,us[j]?=Z p/\s.heap.get? a=Z { cls:=.type "tuple",data:=.seq #[p.1,p.2] })->(∀a∈as,X.s₀.heap.get? a=Y/\∀p∈X.pn++pins,p.1≠a)->sT ps H k->∃c,Inv X pins σ c s/\k (as.map .ref) c
 |[],us,as,H,k=>fun I r f _ _ _ _ h=>by
  cases r;have:as=[]:=Y4 f;subst this;exact⟨H,I,h⟩
 |(x,y)::ps,us,as,H,k=>fun I r f m hn l g h=>by
  cases r with
  |@cons _ q _ n u v=>
   match as,f,m,hn,l,g with
   |a::i,f,m,hn,l,g=>
    obtain⟨p,o,w⟩:=l 0 a rfl;have o:Z q=Z p:=o;cases o;obtain⟨z,B⟩:=List.pairwise_cons.mp m;have C:=I.trackT (e:=a) (vs:=[x,y]) (its:=[q.1,q.2]) w (.cons u.1 (.cons u.2 .nil)) (by show 2<=sizeLine;rw[E6];decide) (hn a B7) (g a B7).1 (g a B7).2;have t:i.length=n.length:=Nat.succ.inj f;obtain⟨c,D,F⟩:=JQ (as:=i) (k:=fun vs c=>k (.ref a::vs) c) C v t B (fun b d=>by rw[aN (E1<|z b d)];exact hn b<|B4 _ d) (fun j b d=>l (j+1) b d) (fun b d=>g b<|B4 _ d)<|h a<|hn a B7;exact⟨c,D,F⟩
def RN(K:Fg)(d:TE):TE:=fun σ H Q=>d σ H fun x c=>∃a kvs,x=.ref a/\c a=Z (.dT kvs) /\
 ∀bs:T9,Paired (fun(b:Ub)(e:Tv Key×V)=>c b=Z (.tup (e.1.map kV))) bs kvs->sT ((bs.zip kvs).map fun p=>(.ref p.1,p.2.2)) c fun vs f=>QD K vs f Q
end
section
variable{X:Cx}{o:Uc}{td:TE}{pos apos cpos p:Pos}
def KT.addrs{H:Hp}:∀{kvs:Tv (Tv Key×V)}{xs:Tv (Tv Key×Ub×Tx)},KT H kvs xs->Paired (fun(b:Ub)(d:Tv Key×V)=>H b=Z (.tup (d.1.map kV))) (xs.map fun x=>x.2.1) kvs /\
 Paired (fun(p:V×V)(q:Tx×Tx)=>RelV p.1 q.1/\RelV p.2 q.2) (((xs.map fun x=>x.2.1).zip kvs).map fun p=>(V.ref p.1,p.2.2)) (xs.map fun x=>(Value.ref x.2.1,x.2.2))
 |_,_,.nil=>⟨.nil,.nil⟩
 |_,_,.cons a c=>⟨.cons a.2.1 (KT.addrs c).1,.cons ⟨rfl,a.2.2⟩ (KT.addrs c).2⟩
def WE(N:X.A.in1.in1.units+64<cLine)(O:X.calm=true)(P:Gl X "sorted")(hm:X.mg "sorted"=Y)(R:PE X o td)(f:attributeBase o "items" X.env (eval o X.env)=eval o X.env)(g:(apos.endLine==cpos.line)=true):
 PE X (.Call (.Name "sorted" p) [.Call (.Attribute o "items" apos) [] [] cpos] [] pos) (RN X.K td):=by
 intro pins s v H Q I h;refine J8<|jL I P hm boot_sorted ?_ (by decide) (by decide);refine PyProof.Rows.callWith_builtin1 ?_ rfl rfl;show wpAny _ _ (spliced ((false,eval (.Call (.Attribute o "items" apos) [] [] cpos) X.env)::[])) _ _ s;refine Calls.spliced_cons ?_;refine wpAny_Call_method (T:="dict") (id:="dict.items") f rfl g F.plainAttrs_dict F.slot_dict_items F.type_dict_items (thn (R pins s v H _ I h) fun u s1 ⟨x,y,i,S,a,kvs,ex,U,q⟩=>?_);subst ex;obtain rfl:u=Value.ref a:=S;obtain⟨z,hs,xs,r,od,es,ep,B,J,V,L,h5⟩:=(show cO X.prog X.w y s1.heap a (.dT kvs)from i.hok a _ U);have hT:s1.TypeIs (.ref a) "dict":=⟨od,B,J.1⟩;refine⟨hT,fun b e=>by cases e;exact⟨od,B,J.2.1⟩,?_⟩;show wpAny _ _ (callWith cpos (.builtin "dict.items") [.ref a] [] []) _ _ s1;refine method_meetsIn F.slot_dict_items F.entry_dict_items rfl<|PySem.evalArgs_none ⟨rfl,hT,F.args_dict_items_1 _,_,HB a hs,hT,?_⟩;refine Calls.spliced_nil ?_;have I2:Inv X pins v y { s1 with heap:=s1.heap.push { cls:=.type "dict_items",data:=.fields #[.ref a] } }:=i.kept (t':=s1.toks) fun b o e=>A1 _ e;have hv:(s1.heap.push { cls:=.type "dict_items",data:=.fields #[.ref a] }).IsItemsView s1.heap.objs.size a:=⟨_,B3 _ rfl,rfl,rfl⟩;have C:Raw (s1.heap.push { cls:=.type "dict_items",data:=.fields #[.ref a] }) a es ep:=⟨od,A1 _ B,V⟩;have k:es.size=xs.length:=by rw[<- U2,L,A3]
 have hl:kvs.length=xs.length:=Paired.len r;refine Calls.call_function_entry kind_sorted plain_sorted entry_sorted (args_sorted1 _) ?_;unfold Builtin.«sorted»;refine A0 (m:=checkCount "sorted" 1 1 _)<|A4 ?_;refine A0 (LV (A:=X.A.in1) (I.ok.hd O) hv C (by rw[k,<- hl];exact z) fun h' M as hk l t=>?_);have I3:Inv X pins v y { s1 with heap:=h',toks:=M }:=I2.kept hk;obtain⟨D,E⟩:=KT.addrs r;have d:∀b∈as,s1.heap.objs.size<b:=fun b f=>U0 (show s1.heap.objs.size<(s1.heap.push { cls:=.type "dict_items",data:=.fields #[.ref a] }).objs.size by rw[S0];exact J3 _)<|t.above b f
 obtain⟨H2,I4,n⟩:=JQ (as:=as) (s:={ s1 with heap:=h',toks:=M }) I3 E (by rw[l,k,A3]) t.rise (fun b f=>i.hok.fresh<|S9<|d b f) (fun j b hj=>by
  obtain⟨e,G,e2⟩:=t.duos j b hj;refine⟨(e.key,e.val),?_,e2⟩;rw[<- J6,L,C0]at G;rw[C0];cases c:xs[j]?<;>rw[c]at G<;>cases G;rfl) (fun b f=>⟨Z3 (D9 i.sz (S9 (d b f))),fun p hp=>B5 (U0 (A8 (i.pin p hp).1) (d b f))⟩) (q _ D)
 exact aEt (A:=X.A.in1) N I4 (its:=as.map Value.ref) (by
  clear n t l d
  induction as with
  |nil=>exact .nil
  |cons b as ih=>exact .cons rfl ih) n
end
section
variable{K:Fg}{td:TE}{fo:EF}
def Good.adopt{M:Sto}{b:Ub}{us:Td}(G:Good K W M H)(d:H b=Z (.tup us)):W.Ext { W with F:=upd W.F b (.tup us) }/\Good K { W with F:=upd W.F b (.tup us) } M H:=by
 have ff:gO W.F (upd W.F b (.tup us)):=fun c o a=>by
  by_cases q:c=b
  .subst q;have:=G.fh _ _ a;rw[d]at this;cases this;exact aS
  .rw[aN q];exact a
 have e:W.Ext { W with F:=upd W.F b (.tup us) }:=⟨ff,A9 _,fun _ _=>rfl⟩;refine⟨e,fun c o a=>?_,G.n,fun i c hi a=>?_,G.inj,G.tb.updF fun ps e=>by rw[d]at e;cases e⟩
 .have a:upd W.F b (.tup us) c=Z o:=a;by_cases q:c=b
  .subst q;rw[aS]at a;cases a;exact d
  .rw[aN q]at a;exact G.fh c o a
 .obtain⟨h,o,f,g⟩:=G.cs i c hi a
  have ne:W.α i≠b:=fun q=>by
   rw[q,d]at f;cases f;cases c<;>exact False.elim g
  exact⟨by show upd W.F b (.tup us) (W.α i)=Y;rw[aN ne];exact h,o,f,g.up e⟩
def DW(a:Tv Key×Tz):T3:=[.tuple (a.1.map UU),a.2]
def sQ:Tv (Tv Key×CD)->Tw (Tv (Tv Key×Tz))
 |[]=>Z []
 |(k,.d x)::r=>(sQ r).bind fun q=>Z ((k,x)::q)
 |_=>Y
def pG(a:Tv (T3)):Tw (T3):=if sortable a=true then Z (WA a)else if a.length<2 then Z (a.map .tuple)else Y
def tY(fo:EF):EF:=fun a M=>(fo a M).bind fun o=>match o.1 with
 |.c i=>match o.2[i]? with
  |some (.dt kvs)=>(sQ kvs).bind fun b=>(pG<|b.map DW).bind fun r=>Z (.d (.list r),o.2)
  |_=>Y
 |_=>Y
def JV{H:Hp}:∀ks:Tv Key,aK K H (ks.map UU) (ks.map kV)
 |[]=>rfl
 |k::ks=>⟨_,_,rfl,by cases k<;>rfl,JV ks⟩
def zM{M:Sto}{H:Hp}:∀{bs:T9}{kvs:Tv (Tv Key×V)}{W:Wd},Good K W M H->Paired (fun(b:Ub)(a:Tv Key×V)=>H b=Z (.tup (a.1.map kV))) bs kvs->∃W',W.Ext W'/\Good K W' M H/\Paired (fun(b:Ub)(a:Tv Key×V)=>W'.F b=Z (.tup (a.1.map kV))) bs kvs
 |_,_,W,G,.nil=>⟨W,.refl _,G,.nil⟩
 |_,_,W,G,.cons d e=>by
  obtain⟨f,g⟩:=G.adopt d;obtain⟨h,c,G2,i⟩:=zM g e;exact⟨h,f.trans c,G2,.cons (c.ff _ _ aS) i⟩
def FF{M:Sto}:∀{bs:T9}{ds:Tv (Tv Key×Tz)}{kvs:Tv (Tv Key×V)}{W:Wd}{H:Hp}{k:Td->Hp->Prop},Good K W M H->Paired (fun(b:Ub)(g:Tv Key×V)=>W.F b=Z (.tup (g.1.map kV))) bs kvs->Paired (fun(p:Tv Key×Tz)(q:Tv Key×V)=>p.1=q.1/\Rep K W.F p.2 q.2) ds kvs->
 (∀vs W' H',W.Ext W'->Good K W' M H'->aK K W'.F ((ds.map DW).map .tuple) vs->k vs H')->sT ((bs.zip kvs).map fun p=>(.ref p.1,p.2.2)) H k
 |_,_,_,W,H,k,G,.nil,.nil=>fun c=>c [] W H (.refl _) G rfl
 |b::bs,(ks,d)::ds,(f,v)::kvs,W,H,k,G,.cons h i,.cons j q2=>fun c=>by
  obtain⟨rfl,l⟩:=(show ks=f/\Rep K W.F d v from j);intro p m;obtain⟨a,n⟩:=G.lay (o:=.tup [.ref b,v]) m;refine FF n (Paired.mapP i fun _ _ r=>a.ff _ _ r) (Paired.mapP q2 fun _ _ r=>⟨r.1,Rep.same a.ff _ _ r.2⟩) fun vs s t e G2 u=>?_;refine c _ s t (a.trans e) G2 ⟨_,_,rfl,⟨p,_,rfl,SqT.of<|e.ff _ _ aS,?_⟩,u⟩;exact⟨_,_,rfl,⟨b,_,rfl,SqT.of<|(a.trans e).ff _ _ h,JV ks⟩,_,_,rfl,Rep.same (a.trans e).ff _ _ l,rfl⟩
def uA{W:Wd}:∀{kvs:Tv (Tv Key×CD)}{ds:Tv (Tv Key×Tz)}{us:Tv (Tv Key×V)},sQ kvs=Z ds->PKV K W kvs us->Paired (fun(p:Tv Key×Tz)(q:Tv Key×V)=>p.1=q.1/\Rep K W.F p.2 q.2) ds us
 |[],_,_,h,.nil=>by cases h;exact .nil
 |(k,.d x)::r,_,_,h,.cons a b=>by
  obtain⟨q,e,h⟩:=aI (show(sQ r).bind _=_ from h);cases h;exact .cons a (uA e b)
 |(k,.c _)::r,_,_,h,_=>by cases h
def UJ(a:SE K td fo):SE K (RN K td) (tY fo):=by
 intro N M x M' b W H s Q G R k;obtain⟨⟨o,M1⟩,t,b⟩:=aI b;revert b;dsimp only;split
 .rename_i i;split
  .rename_i kvs u;intro b;obtain⟨e,w,b⟩:=aI b;obtain⟨r,c,b⟩:=aI b;cases b;refine a _ _ _ _ t W H s _ G R fun v O P y p z=>?_;obtain⟨us,B,C⟩:=p.dtAt u;refine⟨_,us,z.2,B,fun bs D=>?_⟩;obtain⟨S,q,G2,E⟩:=zM p D;refine FF G2 E (Paired.mapP (uA w C) fun _ _ r=>⟨r.1,Rep.same q.ff _ _ r.2⟩) fun vs T U F j h=>?_;have f:=(y.trans q).trans F;unfold pG at c;by_cases hs:sortable (e.map DW)=true
   .rw[A7 hs]at c;cases c;obtain⟨s1,s2,I,J,L⟩:=DR hs;refine .inl ⟨e.map DW,aK.same j.fh _ _ h,s1,s2,I,J,L,fun l m=>?_⟩;obtain⟨g,n⟩:=j.lay (o:=.lst ((jE (tG<|e.map DW) (e.map DW).length).map fun i=>vs.getD i .non)) m;exact k _ _ _ (f.trans g) n ⟨l,_,rfl,SqL.of aS,aK.same g.ff _ _<|GB h _<|aGC (by omega)⟩
   .rw[B0 hs]at c;by_cases d:(e.map DW).length<2
    .rw[A7 d]at c;cases c;refine .inr ⟨by rw[<- h.length,A3];exact d,fun l m=>?_⟩;obtain⟨g,n⟩:=j.lay (o:=.lst vs) m;exact k _ _ _ (f.trans g) n ⟨l,_,rfl,SqL.of aS,aK.same g.ff _ _ h⟩
    .rw[B0 d]at c;cases c
  .intro b;cases b
 .intro b;cases b
def PR{ι:Type}{X:ι->Cx}{o:Uc}{f:EF}{pos apos cpos p:Pos}(b:∀i,(X i).K=K)(c:∀i,(X i).A.in1.in1.units+64<cLine)(d:∀i,(X i).calm=true)(hm:∀i,(X i).mg "sorted"=Y)(x:ME K X o f)(e:∀i,Gl (X i) "sorted":=by intro _;rfl)
 (g:∀env:Env,attributeBase o "items" env (eval o env)=eval o env:=by intro _;rfl) (a:(apos.endLine==cpos.line)=true:=by rfl):ME K X (.Call (.Name "sorted" p) [.Call (.Attribute o "items" apos) [] [] cpos] [] pos) (tY f):=by
 obtain⟨t,h,j⟩:=x.ex;exact⟨_,fun i=>by have:=WE (p:=p) (pos:=pos) (apos:=apos) (cpos:=cpos) (c i) (d i) (e i) (hm i) (h i) (g _) a;rw[b i]at this;exact this,UJ j⟩
end
section
variable{K:Fg}
def Good.freezeL{M:Sto}{i:Nat}{xs:T5}{ds:T3}(G:Good K W M H)(hi:M[i]?=Z (.lst xs))(hd:jR xs=Z ds):
 ∃W',W.Ext W'/\Good K W' (M.set i .dead) H/\W'.α i=W.α i/\cR K W' (.d (.list ds)) (.ref (W.α i)):=by
 obtain⟨vs,f,r⟩:=G.lstAt hi;obtain⟨hn,_⟩:=G.cs i _ hi (by intro q;cases q);have lt:i<M.length:=(List.getElem?_eq_some_iff.mp hi).1;have e:W.Ext { W with F:=upd W.F (W.α i) (.lst vs) }:=⟨gO.upd hn,A9 _,fun _ _=>rfl⟩
 have at_:∀j d,(M.set i .dead)[j]?=Z d->d≠.dead->j≠i/\M[j]?=Z d:=fun j d h hd=>by
  by_cases q:i=j
  .subst q;rw[E8 lt]at h;exact absurd (C5 h).symm hd
  .rw[C6 q]at h;exact⟨fun z=>q z.symm,h⟩
 refine⟨_,e,⟨fun c o a=>?_,by show W.n=_;rw[G.n,S3],fun j d b hd=>?_,fun j k g l b s m p t=>?_,G.tb.updF fun ps z=>by rw[f]at z;cases z⟩,rfl,⟨_,vs,rfl,SqL.of aS,aK.same e.ff _ _<|dR hd r⟩⟩
 .have a:upd W.F (W.α i) (.lst vs) c=Z o:=a;by_cases q:c=W.α i
  .subst q;rw[aS]at a;cases a;exact f
  .rw[aN q]at a;exact G.fh c o a
 .obtain⟨q,h⟩:=at_ j d b hd;obtain⟨v,u,w,x⟩:=G.cs j d h hd;have ne:W.α j≠W.α i:=fun z=>q<|G.inj j i d _ h hi hd (by intro z;cases z) z;exact⟨by show upd W.F (W.α i) (.lst vs) (W.α j)=Y;rw[aN ne];exact v,u,w,x.up e⟩
 .exact G.inj j k g l (at_ j g b m).2 (at_ k l s p).2 m p t
def mS(f:EF):EF:=fun a M=>(f a M).bind fun r=>match r.1 with
 |.c i=>match r.2[i]? with
  |some (.lst xs)=>(jR xs).bind fun b=>Z (.d (.list b),r.2.set i .dead)
  |_=>Y
 |.d x=>Z (.d x,r.2)
 |_=>Y
def NR{t:TE}{f:EF}(a:SE K t f):SE K t (mS f):=by
 intro r M x M' b W H c Q G R k;obtain⟨⟨o,M1⟩,d,b⟩:=aI b;revert b;dsimp only;split
 .rename_i i;split
  .rename_i xs e;intro b;obtain⟨s,g,b⟩:=aI b;cases b;refine a _ _ _ _ d W H c _ G R fun v u h j l m=>?_;obtain⟨n,p,G2,_,q⟩:=l.freezeL e g;rw[m.2];exact k _ n h (j.trans p) G2 q
  .intro b;cases b
 .intro b;cases b;exact a _ _ _ _ d W H c _ G R k
 .intro b;cases b
def MC{ι:Type}{X:ι->Cx}{e:Uc}{f:EF}(x:ME K X e f):ME K X e (mS f):=by
 obtain⟨t,a,b⟩:=x.ex;exact⟨t,a,NR b⟩
end
section
variable{X:Cx}{pins:T1}{σ:St}{H:Hp}{s:Ua}{a:Ub}{y v:V}{u r:Tx}{A:Ue}{E:T0}
def OB{H':Hp}{Q:Unit->Ua->Prop}(F:A.units<cLine)(I:Inv X pins σ H s)(g:yZ H a y v H')(t:RelV y u)(x:RelV v r)(h:∀B,Inv X pins σ H' B->Q () B):
 wpAny (model X.prog X.w) A (dictSet a u r) Q E s:=by
 rcases g with⟨kvs,k,e,j,l,m⟩|⟨kvs,k,b,e,j,C,l,m⟩
 .subst j m;obtain⟨z,hd,vs,d,n⟩:=aBz I.hok e;have o:vs.length<=sizeLine:=by rw[<- d.length];exact z
  have p:(putK kvs k v).length<=sizeLine:=by have:=kN kvs k v;omega
  refine wpAny_dictSet_pairs (hsz:=o) (GH t) n fun h' f hs=>h _ ?_;have G:∃q,h'.get? a=Z q:=let⟨q,_,_,i,_⟩:=f;⟨q,i⟩;exact rZ I (by rw[e];exact True.intro) hs G<|PK p hd (d.put k x) f
 .subst j m;cases (show u=Value.ref b from t);obtain⟨z,hd,xs,d,n⟩:=aBb I.hok e;have o:xs.length<=sizeLine:=by rw[<- Z0 d];exact z
  have p:(putK kvs k v).length<=sizeLine:=by have:=kN kvs k v;omega
  refine wpAny_dictSet_heap (hsz:=o) F (yF I.hok C) n fun h' f hs=>h _ ?_;obtain⟨q,es,ep,i,J,K,L,_,M⟩:=f;refine rZ I (by rw[e];exact True.intro) hs ⟨q,i⟩ ⟨p,hd,_,(d.put k C x).keeps fun c N D=>?_,q,es,ep,i,J,K,L,M⟩;rw[aN (aAY D e fun z=>nomatch z)];exact D
end
section
variable{prog:Ud}{w:World}{A:Ue}{R:Result->Ua->Prop}{s:Ua}
def WN{j k a b:Uc}{d:T7}{scope:Scope}{pos:Pos}{it:Tx}{D:Ub}{env:Env}(I:Nat->Ua->Prop)
 (e:∀n s,I n s->wpAny (model prog w) A (pyNext it) (fun r s1=>(r=Y/\R (.ok .next) s1)\/∃v,r=Z v /\
  wpAny (model prog w) A (letOwnedTupleGo a it v) (fun _ s2=>wpAny (model prog w) A (assign a env v) (fun _ o=>
   wpAny (model prog w) A (forIn d true fun c r=>if r=true then(do
    let ok <- isTrue c env (eval c env)
    pure (ForInStep.yield ok))else pure (ForInStep.yield r)) (fun ok l=>
     (ok=true/\wpAny (model prog w) A (eval j env) (fun p q=>wpAny (model prog w) A (eval k env) (fun t u=>wpAny (model prog w) A (dictSet D p t) (fun _ y=>∃m,m<n/\I m y) (fun _ _=>False) u) (fun _ _=>False) q) (fun _ _=>False) l) \/
     (ok=false/\∃m,m<n/\I m l)) (fun _ _=>False) o) (fun _ _=>False) s2) (fun _ _=>False) s1) (fun _ _=>False) s)
 (n:Nat) (h:I n s):codeAny (model prog w) A (.compLoop (.DictComp j k [⟨a,b,d,0⟩] scope pos) 0 it (.ref D) env) R s:=by
 refine codeAny_loop rfl I (fun n s z=>?_) n h
 show wpAny _ A ((compTurn (.DictComp j k [⟨a,b,d,0⟩] scope pos) 0 it (.ref D) env).onRaise fun x=>do
  noteFrame x env
  theTreesLotGoes x) _ _ s
 refine wpAny_noted ?_;rw[compTurn_dict];refine A0<|Z1<|A0 (D5 (e n s z) (fun r s1 g=>?_) fun _ _ f=>f.elim);rcases g with⟨rfl,g⟩|⟨v,rfl,g⟩
 .exact A4 g
 .refine A0 (D5 g (fun _ s2 B=>?_) fun _ _ f=>f.elim);refine A0 (D5 B (fun _ o C=>?_) fun _ _ f=>f.elim);refine A0 (D5 C (fun ok l i=>?_) fun _ _ f=>f.elim);rcases i with⟨rfl,i⟩|⟨rfl,i⟩
  .refine A0<|A0 (D5 i (fun p q E=>?_) fun _ _ f=>f.elim);refine A0<|J4 (D5 E (fun t u F=>?_) fun _ _ f=>f.elim);refine A0<|Z1<|J4 (D5 F (fun _ y G=>A4 ⟨rfl,G⟩) fun _ _ f=>f.elim)
  .exact A4 ⟨rfl,i⟩
end
def tDc(l:HO)(cap:T2)(n:TI)(g:TG)(o:TT)(tk p:TE):TE:=fun e H Q=>n e H fun J f=>∀D,f D=Y->∃W:Nat->Nat->St->Hp->Prop,(∃m,W 0 m (vP cap e)<|upd f D l)/\∀i m c H',W i m c H'->
 (J.stop i H'/\Q (.ref D) H') \/
 (J.go i H'/\∃N:St->Hp->Prop,(∀a d,N a d->∃h,h<m/\W (i+1) h a d)/\∀x d,J.yld i H' x d->g x c d fun a q=>o a q fun b j=>(b=true/\tk a j fun y r=>p a r fun v s=>∃k,yZ s D y v k/\N a k)\/(b=false/\N a j))
section
variable{X:Cx}{N':Tc}{cap:T2}{scope:Scope}
def aCZ{j:HO}(ho:j=.dT []\/j=.dK []){kx vx tg f:Uc}{k:T7}{pos:Pos}{wi:TI}{g:TG}{tc:TT}{tk tv:TE}(hu:X.A.units<cLine)(hc:X.calm=true)(S:oZ X N' cap scope)(hi:PI X tg f wi)
 (hg:∀C s H fp pn,PG (eO X N' scope C s H fp pn) tg g) (ac:∀C s H fp pn,DP (eO X N' scope C s H fp pn) k tc) (hk:∀C s H fp pn,PE (eO X N' scope C s H fp pn) kx tk) (hv:∀C s H fp pn,PE (eO X N' scope C s H fp pn) vx tv)
 (hs:∀x,foldedSetIterable f X.env x=pure x) {pins:T1} {s:Ua} {O:St} {H:Hp} {Q:VK} (I:Inv X pins O H s) (h:tDc j cap wi g tc tk tv O H Q) {use:Tw (Tx->Sem Unit)} {QQ:T0}
 (a6:∀(D C:Ub)(H':Hp)(P:Ua),(∃m,P.heap.Ns C m)->(∀h',Heap.SameBut C P.heap h'->Inv X pins O H' { P with heap:=h' })->nQ X pins H' C->Q (.ref D) H'->compPost (model X.prog X.w) X.A X.xe use QQ (.ref D) C (.ok .next) P):
 wpAny (model X.prog X.w) X.A (comprehension (.DictComp kx vx [⟨tg,f,k,0⟩] scope pos) scope X.env (firstIterPos [⟨tg,f,k,0⟩] pos) newDict false (firstIter [⟨tg,f,k,0⟩] X.env) use) QQ X.xe s:=by
 refine wpAny_comprehension_free (e:=.DictComp kx vx [⟨tg,f,k,0⟩] scope pos) (g:=⟨tg,f,k,0⟩) (gs:=[]) rfl hs (yL<|S.cells I.ok) S.kind S.names ?_;refine thn (hi pins s O H _ I h) fun v s1 h1=>thn h1 fun b3 s2 h2=>?_;obtain⟨it,fp,tn,J,t,e,I2,T,a7,f2,hD⟩:=h2;subst e
 have R:∀b∈fp,b<s2.heap.objs.size:=fun b a=>by
  obtain⟨o,e,_⟩:=T.obj _ _ a7 b a;exact A8 e
 refine C4 ?_;obtain⟨W,⟨m0,w0⟩,a8⟩:=hD s2.heap.objs.size<|I2.hok.fresh<|A9 _;generalize U:s2.heap.objs.size=D at *
 have I3:Inv X pins O (upd t D j) { s2 with heap:=s2.heap.push { cls:=.type "dict",data:=.dict #[] } }:=by
  refine I2.laid (t':=s2.toks) (fun _ _ q=>A1 _ q) (Y8 U) ?_;rcases ho with rfl|rfl
  .rw[<- U];exact FB _ I2.big
  .rw[<- U];exact EO _ I2.big
 have B:tn 0 (s2.heap.push { cls:=.type "dict",data:=.dict #[] }):=T.keep _ _ _ a7 fun b _ o e=>A1 _ e
 have G:∀b∈fp,nQ X pins (upd t D j) b:=fun b a=>by
  obtain⟨q0,q1⟩:=f2 b a;exact⟨by rw[aN (B5<|R b a)];exact q0,q1⟩
 generalize ae:({ s2 with heap:=s2.heap.push { cls:=.type "dict",data:=.dict #[] } }:Ua)=d at I3 ⊢;have B:tn 0 d.heap:=by rw[<- ae];exact B
 have K:∀b∈fp,b<d.heap.objs.size:=fun b a=>by
  obtain⟨o,e,_⟩:=T.obj _ _ B b a;exact A8 e
 refine wpAny_newFunctionEnv S.nocell (fun y hy=>by simp at hy) (fun V af ag=>?_) S.kind;have a0:∀b o,d.heap.get? b=Z o->V.get? b=Z o:=fun b o e=>ag.extBut b o (B5<|A8 e)<|A1 _ e
 have I4:Inv (eO X N' scope d.heap.objs.size d (upd t D j) fp pins) [] (vP cap O) (upd t D j) { d with heap:=V,toks:=d.toks+([]:Tt).length }:=
  FE S I3 G K (A9 _) (by simpa using af) a0
 have L:∀s4:Ua,s4={ d with heap:=V,toks:=d.toks+([]:Tt).length }->
  codeAny (model X.prog X.w) X.A (.compLoop (.DictComp kx vx [⟨tg,f,k,0⟩] scope pos) 0 (.ref it) (.ref D) (compEnvC scope (eL X.env scope.names []) d.heap.objs.size X.env)) (compPost (model X.prog X.w) X.A X.xe use QQ (.ref D) d.heap.objs.size) s4:=by
  rintro s4 rfl
  have E:∀{Hx:Hp},(∀b∈fp,Hx b=Y)->∀b∈fp,nQ (eO X N' scope d.heap.objs.size d (upd t D j) fp pins) [] Hx b:=fun{Hx} hn b a=>by
   refine⟨hn b a,B5<|K b a,I3.stkAll (G b a).2.1 (G b a).2.2.1,.inl a,fun x c e=>(G b a).2.2.2.2.1 x c (S.sub I3.ok x c e),fun p hp=>?_⟩;rcases List.mem_append.mp hp with z|z
   .exact(G b a).2.2.2.2.2 p z
   .exact absurd z (by simp)
  refine WN (fun n P=>∃(i:Nat)(l:St)(H':Hp),Inv (eO X N' scope d.heap.objs.size d (upd t D j) fp pins) [] l H' P/\tn i P.heap/\(∀b∈fp,H' b=Y)/\W i n l H') ?_ m0
   ⟨0,vP cap O,_,I4,T.keep _ _ _ B fun b _ o e=>a0 b o e,fun b a=>(G b a).1,w0⟩
  rintro n s5 ⟨i,l,H',I5,t5,a9,w5⟩;rcases a8 i n l H' w5 with⟨stop,q⟩|⟨go,N,hN,step⟩
  .refine thn (T.done (eO X N' scope d.heap.objs.size d (upd t D j) fp pins) rfl rfl rfl hc i _ s5 l H' _ I5 (E a9) t5 stop) fun r s6 ⟨hr,I6⟩=>.inl ⟨hr,?_⟩;have nC:H' d.heap.objs.size=Y:=I6.free;refine a6 D _ H' s6 (let⟨m,hn,_⟩:=I6.loc;⟨m,hn⟩) (fun h' ah=>?_) (I3.fpOk (A9 _) nC) q;have up:∀b o,b≠d.heap.objs.size->s6.heap.get? b=Z o->h'.get? b=Z o:=fun b o a e=>ah.extBut b o a e;have a1:∀b o,d.heap.get? b=Z o->b≠d.heap.objs.size:=fun b o e=>B5<|A8 e;have u6:Un (frs X.stack) fp (upd t D j) H' d.heap s6.heap:=I6.base
   have u7:Un (frs X.stack) fp (upd t D j) H' d.heap h':=by
    refine⟨fun b o e n a hx=>up b o (a1 b o e)<|u6.keep b o e n a hx,fun b o e n a hx=>?_,u6.free,fun b o e hx=>?_,u6.tups,u6.frzs,u6.tbls⟩
    .obtain⟨sl,q⟩:=u6.slot b o e n a hx;exact⟨sl,up b _ (a1 b o e) q⟩
    .obtain⟨o',q⟩:=u6.there b o e hx;exact⟨o',up b o' (a1 b o e) q⟩
   have ai:HOk X.prog X.w H' h':=fun b u e=>by
    refine(I6.hok b u e).stay (fun c v aj z=>up c v ?_ z) (fun c z=>z) fun c xs z=>z;rcases aj with rfl|z
    .exact aT e nC
    .exact aT z nC
   have ak:s6.os=d.os:=I6.os;have am:=I6.bare;obtain⟨hh,gg,dd,tt,oo⟩:=s6;subst ak;have z7:=I3.call (s:=d) (h':=h') (g':=gg) (d':=dd) (t':=tt) (ch:=fp) u7 ai am fun b a=>⟨(G b a).2.2.2.1,(G b a).2.1,(G b a).2.2.2.2.1,(G b a).2.2.2.2.2⟩;exact z7
  .refine thn (T.item (eO X N' scope d.heap.objs.size d (upd t D j) fp pins) rfl rfl rfl hc i _ s5 l H' _ I5 (E a9) t5 go) fun r s6 ⟨u,hr,h6⟩=>.inr ⟨u,hr,?_⟩;refine thn h6 fun _ s7 ⟨x,H7,I7,r7,y7,t7,ao⟩=>?_;have ap:=I7.pinned (E ao) (T.obj _ _ t7)
   have M:∀{aa:St}{Hx:Hp}{sx:Ua},Inv (eO X N' scope d.heap.objs.size d (upd t D j) fp pins) ([]++uD fp s7.heap) aa Hx sx->(∀b∈fp,∀o,s7.heap.get? b=Z o->sx.heap.get? b=Z o)/\(∀b∈fp,Hx b=Y):=fun{aa Hx sx} Ix=>by
    refine⟨fun b a o e=>(Ix.pin (b,o)<|C3 _<|C3 _<|gP a e).1,fun b a=>?_⟩;obtain⟨o,e,_⟩:=T.obj _ _ t7 b a;exact(Ix.pin (b,o)<|C3 _<|C3 _<|gP a e).2.1
   refine thn (hg _ _ _ _ _ _ s7 l H7 x u _ ap r7<|step x H7 y7) fun _ s8 ⟨F,H8,I8,q8⟩=>?_;refine thn (ac _ _ _ _ _ _ s8 F H8 _ I8 q8) fun b s9 ⟨H9,I9,q9⟩=>?_;rcases q9 with⟨rfl,q9⟩|⟨rfl,n9⟩
   .refine .inl ⟨rfl,thn (hk _ _ _ _ _ _ s9 F H9 _ I9 q9) fun uk aq ⟨y,ar,au,ry,av⟩=>thn (hv _ _ _ _ _ _ aq F ar _ au av) fun uv b5 ⟨v,b6,aw,rv,ax,ay,az⟩=>?_⟩;obtain⟨m',hm,b0⟩:=hN _ _ az;refine OB (X:=eO X N' scope d.heap.objs.size d (upd t D j) fp pins) hu aw ay ry rv fun b7 ab=>?_;obtain⟨b1,b2⟩:=M ab;exact⟨m',hm,i+1,F,ax,ab.pins_of fun p hp=>absurd hp (by simp),T.keep _ _ _ t7 b1,b2,b0⟩
   .obtain⟨m',hm,w9⟩:=hN _ _ n9;obtain⟨b1,b2⟩:=M I9;exact .inr ⟨rfl,m',hm,i+1,F,H9,I9.pins_of fun p hp=>absurd hp (by simp),T.keep _ _ _ t7 b1,b2,w9⟩
 exact codeAny_compStart_dict (L _ rfl)<|T.self _ 0 _ _ _ (T.keep _ _ _ B fun b _ o e=>a0 b o e)<|L _ rfl
def aFf{c:HO}(n:c=.dT []\/c=.dK []){f i tg a:Uc}{b:T7}{pos:Pos}{j:TI}{g:TG}{k:TT}{tk l:TE}(o:X.A.units<cLine)(p:X.calm=true)(S:oZ X N' cap scope)(hi:PI X tg a j)
 (r:∀C s H fp pn,PG (eO X N' scope C s H fp pn) tg g) (d:∀C s H fp pn,DP (eO X N' scope C s H fp pn) b k) (t:∀C s H fp pn,PE (eO X N' scope C s H fp pn) f tk) (u:∀C s H fp pn,PE (eO X N' scope C s H fp pn) i l)
 (hs:∀x,foldedSetIterable a X.env x=pure x:=by intro _;rfl):PE X (.DictComp f i [⟨tg,a,b,0⟩] scope pos) (tDc c cap j g k tk l):=fun pins s w H Q I h=>
 aCZ (use:=Y) n o p S hi r d t u hs I h fun D _ H' _ ⟨m,hn⟩ v _ q=>⟨m,hn,fun h' e=>⟨.ref D,H',v h' e,rfl,q⟩⟩
end
def dcF(d:Nat)(g:GF)(c:TF)(f:KF)(e:EF):T5->Ga->Sto->Tw Sto
 |[],_,M=>Z M
 |x::xs,h,M=>(g x h M).bind fun a=>(c a.1 a.2).bind fun b=>if b.1=true then(f a.1 b.2).bind fun k=>(e a.1 k.2).bind fun v=>(yY v.2 (.c d) k.1 v.1).bind fun M'=>dcF d g c f e xs a.1 M' else dcF d g c f e xs a.1 b.2
def fDc(b:Cell)(cap:T2)(f:AF)(g:GF)(c:TF)(d:KF)(e:EF):EF:=fun a M=>(f a M).bind fun r=>(dcF r.2.length g c d e r.1 (sP cap a) (r.2++[b])).bind fun M'=>Z (.c r.2.length,M')
section
variable{K:Fg}{tg:TG}{tt:TT}{hg:GF}{ft:TF}{fa:AF}
def aFh{N:HO}{O:Cell}(h0:(N=.dT []/\O=.dt [])\/(N=.dK []/\O=.dk [])){wi:TI}{cap:T2}{tk tv:TE}{P:KF}{S:EF}(i:SI K wi fa)(a:SG K tg hg)(c:STt K tt ft)(b:SK K tk P)(e:SE K tv S):
 SE K (tDc N cap wi tg tt tk tv) (fDc O cap fa hg ft P S):=by
 intro γ M x M' t W H σ Q G R k;obtain⟨⟨h,M1⟩,h1,t⟩:=aI t;obtain⟨M9,h9,t⟩:=aI t;cases t;refine i _ _ _ _ h1 W H σ _ G R fun J T H1 e1 G1 gv=>fun D hD=>?_;have G2:Good K (T.more D) (M1++[O]) (upd H1 D N):=G1.new hD (by rcases h0 with⟨rfl,rfl⟩|⟨rfl,rfl⟩<;>exact .nil);have X:=T.ext_more D;have rD:cR K (T.more D) (.c M1.length) (.ref D):=G1.newV;refine⟨fun j m n H'=>∃f u o,j<=h.length/\m=h.length-j/\(T.more D).Ext o/\Good K o u H'/\cM K o f n/\dcF M1.length hg ft P S (h.drop j) f u=Z M',⟨_,sP cap γ,_,_,L8 _,rfl,.refl _,G2,CL ((R.up e1).up X) cap,h9⟩,?_⟩;rintro j m n H' ⟨f,u,o,hj,rfl,w,G3,R3,d⟩;obtain⟨a0,a1⟩:=gv o u H' (X.trans w) G3;by_cases q:j<h.length
 .obtain⟨go,yl⟩:=a0 j h[j]<|B2 q;rw[List.drop_eq_getElem_cons q]at d;refine .inr ⟨go,fun B U=>∃g V C,o.Ext C/\Good K C V U/\cM K C g B/\dcF M1.length hg ft P S (h.drop (j+1)) g V=Z M',?_,fun y U hy=>?_⟩
  .rintro B U ⟨g,V,C,e4,G4,R4,h4⟩;exact⟨_,by omega,g,V,C,q,rfl,w.trans e4,G4,R4,h4⟩
  .obtain⟨W8,e8,G8,ry⟩:=yl y U hy;obtain⟨⟨E,M5⟩,h5,d⟩:=aI (show(hg h[j] f u).bind _=_ from d);obtain⟨⟨b6,M6⟩,h6,d⟩:=aI d;refine a _ _ _ _ _ h5 W8 _ n y _ G8 (R3.up e8) ry fun r W5 H5 e5 G5 F=>?_;refine c _ _ _ _ h6 W5 H5 r _ G5 F fun W6 H6 I G6=>?_;have L:=(e8.trans e5).trans I;cases b6 with
   |true=>
    rw[A7 rfl]at d;obtain⟨⟨ky,M7⟩,h7,d⟩:=aI d;obtain⟨⟨z,ag⟩,a6,d⟩:=aI d;obtain⟨a7,a8,d⟩:=aI d;refine .inl ⟨rfl,b _ _ _ _ h7 W6 H6 r _ G6 (F.up I) fun yv W7 H7 e7 G7 r7=>e _ _ _ _ a6 W7 H7 r _ G7 (F.up<|I.trans e7) fun v a9 ah s aa ab=>?_⟩;have l:=(L.trans e7).trans s;obtain⟨p,ac,ep,ae,af⟩:=GK aa a8 (rD.up<|w.trans l) (r7.up s) ab;cases ep;exact⟨ac,ae,E,a7,a9,l,af,F.up<|(I.trans e7).trans s,d⟩
   |false=>
    rw[B0 A6]at d;exact .inr ⟨rfl,E,M6,W6,L,G6,F.up I,d⟩
 .have ej:j=h.length:=by omega
  subst ej;rw[List.drop_length]at d;cases d;exact .inl ⟨a1,k _ o H' ((e1.trans X).trans w) G3<|rD.up w⟩
variable{ι:Type}{X:ι->Cx}{N':Tc}{cap:T2}{scope:Scope}{tg' iter kx vx:Uc}{ifs:T7}{gf:GF}{fk:KF}{f:EF}{pos:Pos}
def aEu(a:∀i,(X i).A.units<cLine)(b:∀i,(X i).calm=true)(S:∀i,oZ (X i) N' cap scope)(x:MI K X tg' iter fa)(y:MG K (kP X N' scope) tg' gf)(z:MF K (kP X N' scope) ifs ft)(w:MK K (kP X N' scope) kx fk)(q:ME K (kP X N' scope) vx f)(hs:∀(env:Env)(x:Tx),foldedSetIterable iter env x=pure x:=by intro _ _;rfl):
 ME K X (.DictComp kx vx [⟨tg',iter,ifs,0⟩] scope pos) (fDc (.dt []) cap fa gf ft fk f):=by
 obtain⟨t,c,d⟩:=x.ex;obtain⟨u,e,g⟩:=y.ex;obtain⟨v,h,j⟩:=z.ex;obtain⟨o,k,l⟩:=w.ex;obtain⟨p,m,n⟩:=q.ex;exact⟨_,fun i=>aFf (.inl rfl) (a i) (b i) (S i) (c i) (fun C s H fp pn=>e (i,C,s,H,fp,pn)) (fun C s H fp pn=>h (i,C,s,H,fp,pn)) (fun C s H fp pn=>k (i,C,s,H,fp,pn)) (fun C s H fp pn=>m (i,C,s,H,fp,pn))<|hs _,aFh (.inl ⟨rfl,rfl⟩) d g j l n⟩
end
def cL.u1{k:Nat}(r:cL k A):A.units+1<cLine:=by have:=r.un;omega
def cL.u0{k:Nat}(r:cL k A):A.units<cLine:=by have:=r.un;omega
abbrev IPF:=Ga->Sto->Tw ((T5×(Sto->Prop))×Sto)
section
variable{X:Cx}{a b:Uc}{ta:TA}{p p' pos pos':Pos}
noncomputable def vM(lo:Int)(n:Nat):Td:=(List.range n).map fun(i:Nat)=>V.int (lo+(i:Nat))
def NX{lo:Int}{n:Nat}{c:Ti}(h:ItemsOf (fun i v=>∃t,v=.int (lo+i*1) t) c n):bB (vM lo n) c.toList:=by
 have key:∀(k:Nat)(l:T4)(m:Nat),l.length=k->(∀j v,l[j]?=Z v->∃t,v=Value.int (lo+((m+j:Nat):Int)*1) t)->bB ((List.range' m k).map fun(i:Nat)=>V.int (lo+(i:Nat))) l:=by
  intro k
  induction k with
  |zero=>intro l m d _;rw[Y4 d];exact .nil
  |succ k ih=>
   intro l m d f
   match l,d,f with
   |v::l,d,f=>
    obtain⟨t,rfl⟩:=f 0 v rfl;rw[List.range'_succ,C7];refine .cons ⟨t,by simp⟩ (ih l (m+1) (Nat.succ.inj d) fun j v e=>?_);obtain⟨o,g⟩:=f (j+1) v e;exact⟨o,by rw[g];congr 2;omega⟩
 have:=key n c.toList 0 (by rw[U2];exact h.1) fun j v e=>by
  obtain⟨t,g⟩:=h.2 j v (by rw[<- J6];exact e);exact⟨t,by rw[g,Nat.zero_add]⟩
 unfold vM;rw[List.range_eq_range'];exact this
def OV{pins:T1}{f:St}{s:Ua}{Q:VK}{lo hi:Int}{t u v:Tok}{tk:Nat}(k:X.calm=true)(I:Inv X pins f H s)(m:-(2 ^ 62)<=lo)(r:lo<2 ^ 62)(y:-(2 ^ 62)<=hi)(z:hi<2 ^ 62)(hz:(hi-lo).toNat<=sizeLine)
 (q:∀l,H l=Y->Q (.ref l) (upd H l (.lst (vM lo (hi-lo).toNat)))):
 wpAny (model X.prog X.w) X.A (call (.type "list") [.ref s.heap.objs.size]) (fun v B=>∃x H',Inv X pins f H' B/\RelV x v/\Q x H') X.xe { s with heap:=s.heap.push { cls:=.type "range",data:=.fields #[.int lo t,.int hi u,.int 1 v] },toks:=tk }:=by
 have g:(hi-lo).toNat<=2 ^ 24:=by rw[E6]at hz;exact hz
 refine call_list_range (n:=(hi-lo).toNat) (I.ok.hd k) (IsRange.new ..) (small_one m r y z) (by rw[rangeSize_one];split<;>omega) g fun h' h i c C hS d=>?_;have j:Inv X pins f H { s with heap:=s.heap.push { cls:=.type "range",data:=.fields #[.int lo t,.int hi u,.int 1 v] },toks:=tk }:=I.kept fun b o e=>A1 _ e;refine⟨.ref _,upd H _ (.lst (vM lo (hi-lo).toNat)),j.laid (t':=h) C (A9 _) ⟨by rw[vM,A3,C1];exact hz,i.toList,c,NX d,by simpa using hS⟩,rfl,q _<|j.hok.fresh<|A9 _⟩
def QK(ta:TA):TE:=fun d H Q=>ta d H fun vs c=>∃j:Int,vs=[.int j]/\-(2 ^ 62)<=j/\j<2 ^ 62/\j.toNat<=sizeLine/\∀l,c l=Y->Q (.ref l) (upd c l (.lst (vM 0 j.toNat)))
def VT(g:X.calm=true)(i:Gl X "range")(hm:X.mg "range"=Y)(c:Gl X "list")(d:X.mg "list"=Y)(ha:PA X [a] ta)(hs:starEach [a] X.env=[(false,eval a X.env)]):
 PE X (.Call (.Name "list" p) [.Call (.Name "range" p') [a] [] pos'] [] pos) (QK ta):=by
 intro pins s k H Q I h;refine J8<|jL I c d boot_list ?_ (by decide) (by decide);refine E9 ?_ AZ rfl;rw[AZ];show wpAny _ _ (spliced ((false,eval (.Call (.Name "range" p') [a] [] pos') X.env)::[])) _ _ s;refine Calls.spliced_cons ?_;refine Call_<|jL I i hm boot_range<|E9 (thn (ha pos' pins s k H _ I h) fun us s1 ⟨vs,v,l,m,f⟩=>?_) hs rfl;obtain⟨j,e,f,n,o,q⟩:=f;subst e;cases m with
 |cons r u=>
  cases u;obtain⟨t,rfl⟩:=r;refine call_range_1<|Calls.spliced_nil ?_;exact OV g l (by omega) (by omega) f n (by simpa using o) (by simpa using q)
end
section
variable{K:Fg}{tA:TA}{fa:AF}
noncomputable def aBP(lo:Int)(n:Nat):T3:=(List.range n).map fun(i:Nat)=>.int (lo+(i:Nat))
def rV(cell:Bool)(f:AF):EF:=fun a M=>(f a M).bind fun r=>match r.1 with
 |[.d (.int j)]=>if dG j=true/\j.toNat<=sizeLine then(if cell=true then Z (.c r.2.length,r.2++[.lst (fG 0 j.toNat)])else Z (.d (.list (aBP 0 j.toNat)),r.2))else Y
 |_=>Y
def ZD{lo:Int}{n:Nat}:aK K H (aBP lo n) (vM lo n):=by
 unfold aBP vM;generalize List.range n=l
 induction l with
 |nil=>rfl
 |cons i l ih=>exact⟨_,_,rfl,rfl,ih⟩
def MN{lo:Int}{n:Nat}:bY K W (fG lo n) (vM lo n):=by
 unfold fG vM;generalize List.range n=l
 induction l with
 |nil=>exact .nil
 |cons i l ih=>exact .cons rfl ih
def UQ{cell:Bool}(b:SA K tA fa):SE K (QK tA) (rV cell fa):=by
 intro q M x M' a W H h Q G R k;obtain⟨⟨s,M1⟩,i,a⟩:=aI a;refine b _ _ _ _ i W H h _ G R fun vs e t f d m=>?_;revert a;dsimp only;split
 .rename_i j;intro a;by_cases hs:dG j=true/\j.toNat<=sizeLine
  .rw[A7 hs]at a;cases m with
   |cons r n=>
    cases n;refine⟨j,by rw[show _=V.int j from r],(eR hs.1).1,(eR hs.1).2,hs.2,fun l g=>?_⟩;cases cell with
    |true=>
     rw[A7 rfl]at a;cases a;exact k _ (e.more l) _ (f.trans<|e.ext_more l) (d.new g (c:=.lst (fG 0 j.toNat)) (o:=.lst (vM 0 j.toNat)) MN) d.newV
    |false=>
     rw[B0 A6]at a;cases a;obtain⟨p,G2⟩:=d.lay (o:=.lst (vM 0 j.toNat)) g;exact k _ _ _ (f.trans p) G2 ⟨l,_,rfl,SqL.of aS,ZD⟩
  .rw[B0 hs]at a;cases a
 .intro a;cases a
def QX(cell:Bool){ι:Type}{X:ι->Cx}{a:Uc}{p e pos b:Pos}(f:∀i,(X i).calm=true)(hm:∀i,(X i).mg "range"=Y)(c:∀i,(X i).mg "list"=Y)(x:MA K X [a] fa)(g:∀i,Gl (X i) "range":=by intro _;rfl)(d:∀i,Gl (X i) "list":=by intro _;rfl):
 ME K X (.Call (.Name "list" p) [.Call (.Name "range" e) [a] [] b] [] pos) (rV cell fa):=by
 obtain⟨t,h,j⟩:=x.ex;exact⟨_,fun i=>VT (f i) (g i) (hm i) (d i) (c i) (h i)<|x.st.1 _,UQ j⟩
end
def Itz(K:Fg)(l1 l2:Ub):It:=
 ⟨fun i H=>∃xs a x y,SqL K H l1 xs/\SqL K H l2 a/\xs[i]?=Z x/\a[i]?=Z y,
  fun i H v H'=>∃p x y,H p=Y/\v=.ref p/\H'=upd H p (.tup [x,y])/\(∀xs,SqL K H l1 xs->xs[i]?=Z x)/\∀a,SqL K H l2 a->a[i]?=Z y,
  fun i H=>∃xs a,SqL K H l1 xs/\SqL K H l2 a/\(xs[i]?=Y\/a[i]?=Y)⟩
def tnZ(z TI TO i1 i2 l1 l2:Ub)(i:Nat)(h:Heap):Prop:=IsZip h z TI TO .none/\IsPair h TI (.ref i1) (.ref i2)/\(∃a b,IsPair h TO a b)/\h.IsListIter i1 l1 i/\h.IsListIter i2 l2 i
structure Apart5(z TI TO i1 i2:Ub):Prop where
 TIz:TI≠z
 TOz:TO≠z
 i1z:i1≠z
 i2z:i2≠z
 TITO:TI≠TO
 TIi1:TI≠i1
 TIi2:TI≠i2
 TOi1:TO≠i1
 TOi2:TO≠i2
 i12:i1≠i2
def zY(n:Nat):Apart5 (n+4) (n+2) (n+3) n (n+1):=by
 have key:∀a b:Nat,¬a=b->(a:Ub)≠b:=fun _ _ h=>h;exact⟨key _ _ (by omega),key _ _ (by omega),key _ _ (by omega),key _ _ (by omega),key _ _ (by omega),key _ _ (by omega),key _ _ (by omega),key _ _ (by omega),key _ _ (by omega),key _ _ (by omega)⟩
section
variable{P:Ud}{w:World}{K:Fg}{elts:T7}{x1:Nat}{tpos:Pos}{z TI TO i1 i2 l1 l2:Ub}
def AW{h:Heap}{i:Nat}{xs ys:Ti}(c:Apart5 z TI TO i1 i2)(st:tnZ z TI TO i1 i2 l1 l2 i h)(g:h.IsList l1 xs)(j:h.IsList l2 ys):ZipApart z TI TO i1 i2 l1 l2:=by
 obtain⟨m,y,⟨a,b,f⟩,⟨C,p,r,D⟩,⟨E,s,t,F⟩⟩:=st
 have d:∀(l:Ub)(u:Ti),h.IsList l u->∀(b:Ub)(o:Obj),h.get? b=Z o->o.cls≠.type "list"->l≠b:=fun l u B b o e n q=>by
  subst q;obtain⟨o',v,c',_⟩:=B;rw[e]at v;cases v;exact n c'
 have x:(Value.type "zip")≠.type "list":=by intro q;injection q with q;exact absurd q (by decide)
 have nt:(Value.type "tuple")≠.type "list":=by intro q;injection q with q;exact absurd q (by decide)
 have k:(Value.type "list_iterator")≠.type "list":=by intro q;injection q with q;exact absurd q (by decide)
 exact⟨c.TIz,c.TOz,c.i1z,c.i2z,c.TITO,c.TIi1,c.TIi2,c.TOi1,c.TOi2,c.i12,
  d l1 xs g z _ m x,d l1 xs g TO _ f nt,d l1 xs g i1 _ p (by rw[r];exact k),d l1 xs g i2 _ s (by rw[t];exact k),
  d l2 ys j z _ m x,d l2 ys j TO _ f nt,d l2 ys j i1 _ p (by rw[r];exact k),d l2 ys j i2 _ s (by rw[t];exact k)⟩
def UG(A5:Apart5 z TI TO i1 i2):Turn P w K (.Tuple elts x1 tpos) (Itz K l1 l2) [z,TI,TO,i1,i2] z (tnZ z TI TO i1 i2 l1 l2) where
 mem:=by simp
 obj:=fun i h st b hb=>by
  obtain⟨hz,hTI,⟨a,c,hTO⟩,⟨o1,e1,_,d1⟩,⟨o2,e2,_,d2⟩⟩:=st;simp only[List.mem_cons,List.not_mem_nil,or_false]at hb;rcases hb with rfl|rfl|rfl|rfl|rfl
  .exact⟨_,hz,fun v q=>by cases q⟩
  .exact⟨_,hTI,fun v q=>by cases q⟩
  .exact⟨_,hTO,fun v q=>by cases q⟩
  .exact⟨_,e1,fun v q=>by rw[d1]at q;cases q⟩
  .exact⟨_,e2,fun v q=>by rw[d2]at q;cases q⟩
 keep:=fun i h h' st k=>by
  obtain⟨hz,hTI,⟨a,c,hTO⟩,h1,h2⟩:=st;exact⟨k z (by simp) _ hz,k TI (by simp) _ hTI,⟨a,c,k TO (by simp) _ hTO⟩,h1.at fun o e=>k i1 (by simp) o e,h2.at fun o e=>k i2 (by simp) o e⟩
 item:=by
  intro X hP hw hK hc i pins s σ H E I hf st hg;subst hP hw hK;obtain⟨xs,ys,x,y,hq1,hq2,hx,hy⟩:=hg;obtain⟨its,rv,p,_⟩:=I.list hq1;obtain⟨jts,rw',p',_⟩:=I.list hq2;obtain⟨u,hu,ru⟩:=rv.get hx;obtain⟨v,hv,rv'⟩:=rw'.get hy;have D:=AW A5 st p.isList p'.isList;obtain⟨hz,hTI,⟨a,c,hTO⟩,h1,h2⟩:=id st;refine wpAny_pyNext_zip_item D hz hTI hTO h1 h2 p.isList p'.isList (x:=u) (y:=v) (by simpa using hu) (by simpa using hv) fun h' a1 a2 a3 a4 a5 a6 hk=>⟨_,rfl,?_⟩;refine wpAny_letOwnedTupleGo_zip a1 fun h2' hz2 sb=>?_
  have lt:∀b∈[z,TI,TO,i1,i2],s.heap.objs.size≠b:=fun b hb q=>by
   obtain⟨o1,e1,_⟩:=id h1;obtain⟨o2,e2,_⟩:=id h2;simp only[List.mem_cons,List.not_mem_nil,or_false]at hb
   have:∃o,s.heap.get? b=Z o:=by
    rcases hb with rfl|rfl|rfl|rfl|rfl
    .exact⟨_,hz⟩
    .exact⟨_,hTI⟩
    .exact⟨_,hTO⟩
    .exact⟨_,e1⟩
    .exact⟨_,e2⟩
   obtain⟨o,e⟩:=this;rw[<- q]at e;exact absurd (A8 e)<|I0 _
  have kk:∀b o,b∉[z,TI,TO,i1,i2]->s.heap.get? b=Z o->h2'.get? b=Z o:=fun b o hb q=>by
   simp only[List.mem_cons,List.not_mem_nil,or_false,not_or]at hb;exact(sb.2 b hb.1).trans (hk b o hb.1 hb.2.2.1 hb.2.2.2.1 hb.2.2.2.2 q)
  have ht2:h2'.get? s.heap.objs.size=Z { cls:=.type "tuple",data:=.seq #[u,v] }:=(sb.2 _<|lt z (by simp)).trans a5
  have I2:Inv X pins σ (upd H s.heap.objs.size (.tup [x,y])) { s with heap:=h2',toks:=s.toks }:=
   I.turnLay hf kk (A9 _) ⟨by show 2<=sizeLine;rw[E6];decide,[u,v],.cons ru (.cons rv' .nil),⟨_,ht2,rfl,_,rfl⟩⟩
  refine⟨.ref s.heap.objs.size,_,I2,rfl,⟨_,x,y,I.hok.fresh<|A9 _,rfl,rfl,fun ws hw=>by rw[I.list_inj hw hq1];exact hx,fun ws hw=>by rw[I.list_inj hw hq2];exact hy⟩,⟨hz2,?_,⟨_,_,(sb.2 TO A5.TOz).trans a2⟩,a3.at fun o e=>(sb.2 i1 A5.i1z).trans e,a4.at fun o e=>(sb.2 i2 A5.i2z).trans e⟩,fun b hb=>?_⟩
  .exact(sb.2 TI A5.TIz).trans (hk TI _ A5.TIz A5.TITO A5.TIi1 A5.TIi2 hTI)
  .rw[aN fun q=>lt b hb q.symm];exact(hf b hb).1
 done:=by
  intro X hP hw hK hc i pins s σ H E I hf st hg;subst hP hw hK;obtain⟨xs,ys,hq1,hq2,hend⟩:=hg;obtain⟨its,rv,p,_⟩:=I.list hq1;obtain⟨jts,rw',p',_⟩:=I.list hq2;have D:=AW A5 st p.isList p'.isList;obtain⟨hz,hTI,⟨a,c,hTO⟩,h1,h2⟩:=id st;have l1':=rv.length;have l2':=rw'.length;refine wpAny_pyNext_zip_end (I.ok.hd hc) D hz hTI hTO h1 h2 p.isList p'.isList ?_ fun h' hk=>⟨rfl,I.turnF (t':=s.toks) hf fun b o hb q=>?_⟩
  .rcases hend with e|e
   .refine .inl ?_;have:=List.getElem?_eq_none_iff.mp e;exact Array.getElem?_eq_none (by rw[B9];omega)
   .refine .inr ?_;have:=List.getElem?_eq_none_iff.mp e;exact Array.getElem?_eq_none (by rw[B9];omega)
  .simp only[List.mem_cons,List.not_mem_nil,or_false,not_or]at hb;exact hk b o hb.1 hb.2.2.1 hb.2.2.2.1 hb.2.2.2.2 q
 self:=fun A i s Q E st h=>wpAny_pyIter_zip st.1 h
end
section
variable{X:Cx}{elts:T7}{x1:Nat}{tpos:Pos}
def boot_zip:bootBuiltins "zip"=Z (.type "zip"):=by decide +kernel
end
noncomputable def pZ:T3->T3->T5
 |x::xs,y::a=>.d (.tuple [x,y])::pZ xs a
 |_,_=>[]
def xA:∀{xs ys:T3}{i:Nat}{x:CD},(pZ xs ys)[i]?=Z x->∃a b,xs[i]?=Z a/\ys[i]?=Z b/\x=.d (.tuple [a,b])
 |[],_,i,x=>fun h=>by unfold pZ at h;cases i<;>cases h
 |_::_,[],i,x=>fun h=>by unfold pZ at h;cases i<;>cases h
 |a::xs,b::ys,0,x=>fun h=>⟨a,b,rfl,rfl,by unfold pZ at h;exact(C5 h).symm⟩
 |a::xs,b::ys,i+1,x=>fun h=>by
  obtain⟨c,d,e,f,g⟩:=xA (xs:=xs) (ys:=ys) (i:=i) (by unfold pZ at h;exact h);exact⟨c,d,e,f,g⟩
def FS:∀{xs ys:T3},xs[(pZ xs ys).length]?=Y\/ys[(pZ xs ys).length]?=Y
 |[],_=>.inl rfl
 |_::_,[]=>.inr rfl
 |a::xs,b::ys=>by
  show(a::xs)[(pZ xs ys).length+1]?=Y\/(b::ys)[(pZ xs ys).length+1]?=Y;exact FS (xs:=xs) (ys:=ys)
end L2
namespace PySem
open Sem (wp)
namespace F
end F
end PySem
namespace L2
open PySem PySem.Spec PyProof.Rows
def cL.le{ι:Type}{j k:Nat}{A:Ue}{q:Bool}(r:cL k A q)(h:j<=k:=by decide):ι->cL j A q:=fun _=>r.mono h
section
variable{X:Cx}
def TU(K:Fg):V->Td->Hp->VK->Prop:=fun x vs H Q=>∃(l:Ub)(ns:T6)(i:Int)(j:Nat),x=.ref l/\vs=[.int i]/\SqL K H l (ns.map .int)/\ns.findIdx? (fun m=>m==i)=Z j/\Q (.int j) H
def TZ:MtM X "list.index" (TU X.K):=by
 intro pins s N H x vs v us Q I B C h;obtain⟨l,ns,i,j,rfl,rfl,D,E,q⟩:=h;cases B;obtain⟨u,rfl,G⟩:=C.one;obtain⟨t,rfl⟩:=(show ∃t,u=Value.int i t from G);obtain⟨b,c,⟨⟨oc,od,O,osl⟩,n,e,p,r,w⟩,J⟩:=I.list D;dsimp only at p r w;subst p r w;obtain⟨d,g,k⟩:=List.findIdx?_eq_some_iff_getElem.mp E;have f:b.length=ns.length:=by rw[<- c.length,A3]
 have at_:∀m (hm:m<b.toArray.size),∃t,b.toArray[m]=Value.int (ns[m]'(by rw[<- f];simpa using hm)) t:=fun m hm=>by
  have o:m<ns.length:=by rw[<- f];simpa using hm
  obtain⟨u,L,t,ht⟩:=c.get (i:=m) (x:=.int ns[m]) (by rw[C0,B2 o];rfl);have:b[m]?=Z u:=L;rw[B2 (by simpa using hm)]at this;cases this;exact⟨t,by simpa using ht⟩
 have z:sizeLine=16777216:=E6;rw[A3]at J;refine Z9 F.slot_list_index ⟨_,e,rfl⟩ F.entry_list_index (F.args_list_index_2 _ _) (SeqAt.list_indexAt l b.toArray n Y osl (.int i t) (fun y=>match y with|.int a _=>a==i|_=>false) j (by simpa[f]using d) (by omega) ?_ fun m hm lt=>?_) ⟨e,fun y M=>?_,?_⟩
 .obtain⟨A,ht⟩:=at_ j (by simpa[f]using d);rw[ht];exact g
 .obtain⟨A,ht⟩:=at_ m hm;rw[ht];simpa using k m lt
 .obtain⟨m,hm,rfl⟩:=Array.mem_iff_getElem.mp M;obtain⟨A,ht⟩:=at_ m hm;rw[ht];exact SeqAt.EqAt.int_int _ _ _ _
 .exact⟨.int j,H,I.tok _,⟨_,rfl⟩,q⟩
end
noncomputable def aGb(ns:T6):T6:=ns.mergeSort fun a b=>decide (a<=b)
def aBc:Tv Key->Tw (T6)
 |[]=>Z []
 |.inl i::r=>(aBc r).map (i::·)
 |.inr _::_=>Y
section
variable{K:Fg}
def sortDKF:FN:=fun xs M=>match xs with
 |[.c i]=>match M[i]? with
  |some (.dk kvs)=>(aBc<|kvs.map (·.1)).bind fun ns=>if ns.length<64 then Z (.d (.list ((aGb ns).map .int)),M)else Y
  |_=>Y
 |_=>Y
def intsOf:T5->Tw (T6)
 |[]=>Z []
 |.d (.int i)::r=>(intsOf r).map (i::·)
 |_::_=>Y
def AC{W:Wd}:∀{xs:T5}{ns:T6}{vs:Td},intsOf xs=Z ns->bY K W xs vs->vs=ns.map .int
 |[],ns,vs,h,r=>by cases h;cases r;rfl
 |.d (.int i)::xs,ns,vs,h,r=>by
  obtain⟨m,a,b⟩:=Option.map_eq_some_iff.mp (show(intsOf xs).map (i::·)=Z ns from h);subst b;cases r with
  |cons c e=>rw[AC a e,show _=V.int i from c];rfl
def tR:FM:=fun x a M=>match a with
 |[.d (.int i)]=>(tD M x).bind fun xs=>(intsOf xs).bind fun ns=>(ns.findIdx? fun m=>m==i).bind fun j=>Z (.d (.int (j:Nat)),M)
 |_=>Y
def QC:PM K (TU K) tR:=by
 intro x m M z M' h W H v vs Q G a rs k;unfold tR at h;split at h
 .rename_i i;obtain⟨xs,b,h⟩:=aI h;obtain⟨ns,c,h⟩:=aI h;obtain⟨j,d,h⟩:=aI h;cases h;rcases rs with _|⟨f,_|_⟩;obtain⟨p,us,rfl,g,l⟩:=lU G b a;have e:=AC c l;subst e;exact⟨p,ns,i,j,rfl,by rw[show _=V.int i from f],g,d,k _ W H (.refl _) G rfl⟩
 .cases h
end
section
variable{ι:Type}{K:Fg}{X:ι->Cx}{e o:Uc}{f:EF}{fa:AF}{apos cpos:Pos}
def QJ(a:∀i,(X i).K=K)(x:ME K X o f)(y:MA K X [e] fa)(b:∀env:Env,attributeBase o "index" env (eval o env)=eval o env:=by intro _;rfl)(c:(apos.endLine==cpos.line)=true:=by rfl):
 ME K X (.Call (.Attribute o "index" apos) [e] [] cpos) (fJ "list" tR f fa):=by
 obtain⟨t,d,g⟩:=x.ex;obtain⟨u,h,j⟩:=y.ex;refine⟨_,fun i=>?_,CN QC g j⟩;have:=UV O8 F.slot_list_index F.type_list_index TZ (d i) (h i) (apos:=apos) (cpos:=cpos) (b _) (by rw[y.st.1];rfl) c (y.st.1 _)<|y.st.2.plain _ _;rw[a i]at this;exact this
end
section
variable{K:Fg}
def toA:CD->Tw (Tz ⊕ Nat)
 |.d x=>Z (.inl x)
 |.c i=>Z (.inr i)
 |.t _=>Y
 |.f _=>Y
 |.g _=>Y
def aEy:T5->Tw (Tv<|Tz ⊕ Nat)
 |[]=>Z []
 |x::r=>(toA x).bind fun a=>(aEy r).bind fun q=>Z (a::q)
def GC{W:Wd}:∀{xs:T5}{as:Tv (Tz ⊕ Nat)}{vs:Td},aEy xs=Z as->bY K W xs vs->Paired (BL K W) as vs
 |[],_,_=>fun h r=>by cases h;cases r;exact .nil
 |x::xs,as,vs=>fun h r=>by
  obtain⟨a,b,h⟩:=aI h;obtain⟨q,c,h⟩:=aI h;cases h;cases r with
  |cons d e=>
   refine .cons ?_ (GC c e);cases x<;>cases b<;>exact d
def KZ(xs:T5):Te:=match jR xs with
 |some a=>Z (.d (.tuple a))
 |none=>(aEy xs).bind fun as=>Z (.t as)
def FI(f:AF):EF:=fun a M=>(f a M).bind fun r=>if r.1.length<=sizeLine then(KZ r.1).bind fun x=>Z (x,r.2)else Y
def ZQ{h:TA}{fa:AF}(b:SA K h fa):SE K (SR h) (FI fa):=by
 intro s M x M' a W H i Q G R k;obtain⟨⟨d,M1⟩,j,a⟩:=aI a;have a:(if d.length<=sizeLine then(KZ d).bind fun x=>Z (x,M1)else Y)=Z (x,M'):=a;by_cases e:d.length<=sizeLine
 .rw[A7 e]at a;obtain⟨z,c,a⟩:=aI a;cases a;refine b _ _ _ _ j W H i _ G R fun vs t u l m f=>⟨by rw[<- Paired.len f];exact e,fun p n=>?_⟩;obtain⟨g,G2⟩:=m.lay (o:=.tup vs) n;refine k _ _ _ (l.trans g) G2 ?_;unfold KZ at c;split at c
  .rename_i v hd;cases c;exact⟨p,vs,rfl,SqT.of aS,aK.same g.ff _ _<|dR hd f⟩
  .obtain⟨as,q,c⟩:=aI c;cases c;exact⟨p,vs,rfl,aS,Paired.mapP (GC q f) fun _ _ r=>BL.up r g⟩
 .rw[B0 e]at a;cases a
def aGY(k:Nat)(γ:Ga)(M:Sto):Tw (Ga×Sto):=match γ[k]? with
 |some (some (.c i))=>match M[i]? with
  |some (.lst xs)=>(jR xs).bind fun a=>Z (γ.set k<|Z (.d (.list a)),M.set i .dead)
  |_=>Y
 |_=>Y
def sFrz(k:Nat)(f:SF):SF:=fun b M=>(f b M).bind fun r=>match r.1 with
 |.nx a=>(aGY k a r.2).bind fun q=>Z (.nx q.1,q.2)
 |o=>Z (o,r.2)
def yG{a b:Type}{R:a->b->Prop}:∀{xs:Tv a}{ys:Tv b}{k:Nat}{x:a}{y:b},Paired R xs ys->ys[k]?=Z y->R x y->Paired R (xs.set k x) ys
 |_,_,0,x,y,.cons r t=>fun e h=>by cases e;exact .cons h t
 |_,_,k+1,x,y,.cons r t=>fun e h=>.cons r (yG t (by simpa using e) h)
 |_,_,0,x,y,.nil=>fun e h=>by cases e
 |_,_,k+1,x,y,.nil=>fun e h=>by cases e
def Itk(a:Ub)(o:Obj)(kvs:Tv (Tv Key×V)):It:=
 ⟨fun i H=>H a=Z (.frz o (.dT kvs))/\i<kvs.length,fun i H x H'=>H'=H/\∃c b,kvs[i]?=Z c/\x=.ref b/\H b=Z (.tup (c.1.map kV)),fun i H=>H a=Z (.frz o (.dT kvs))/\kvs.length<=i⟩
def aBA(c:TE):TI:=fun d H R=>c d H fun x b=>∃a o kvs,x=.ref a/\b a=Z (.frz o (.dT kvs))/\R (Itk a o kvs) b
def KH{X:Cx}{pins:T1}{m:St}{H:Hp}{s:Ua}{a:Ub}{o:Obj}{kvs:Tv (Tv Key×V)}{es:Array DictEntry}{ep:Nat}(I:Inv X pins m H s)(e:H a=Z (.frz o (.dT kvs)))(hd:o.data=.dict es ep):
 Raw s.heap a es ep/\es.size=kvs.length/\∀(i:Nat) en,es[i]?=Z en->∃f b,kvs[i]?=Z f/\en.key=.ref b/\H b=Z (.tup (f.1.map kV)):=by
 obtain⟨g,z,hs,xs,r,od,n,p,h,u,j,k,v⟩:=(show cO X.prog X.w H s.heap a (.frz o (.dT kvs))from I.hok a _ e);rw[g]at h;cases h;rw[hd]at j;cases j;have q:es.toList.length=kvs.length:=by rw[k,A3];exact(Paired.len r).symm
 refine⟨⟨o,g,hd⟩,by rw[<- U2];exact q,fun i en d=>?_⟩;rw[<- J6,k,C0]at d;cases c:xs[i]? with
 |none=>rw[c]at d;cases d
 |some x=>
  rw[c]at d;cases d;have hi:i<kvs.length:=by rw[Paired.len r];exact(List.getElem?_eq_some_iff.mp c).1
  obtain⟨y,l,A,t,B⟩:=Paired.get r<|B2 hi;rw[c]at l;cases l;exact⟨_,_,B2 hi,rfl,t⟩
def LK{P:Ud}{w:World}{tg:Uc}(a it:Ub)(o:Obj)(kvs:Tv (Tv Key×V))(es:Array DictEntry)(ep:Nat)(hd:o.data=.dict es ep):Turn P w K tg (Itk a o kvs) [it] it (fun i h=>h.IsKeyIter it a i es.size ep) where
 mem:=by simp
 obj:=fun i h st b hb=>by
  have e:b=it:=by simpa using hb
  subst e;obtain⟨o,e,c,d⟩:=st;exact⟨o,e,fun v z=>by rw[d]at z;cases z⟩
 keep:=fun i h h' st k=>st.at fun o e=>k it (by simp) o e
 item:=by
  intro X hP hw hK hc i pins s σ H E I hf st hg;subst hP hw hK;obtain⟨f0,f1,f2,f3,f4,f5⟩:=hf it (by simp);obtain⟨raw,hl,hk⟩:=KH I hg.1 hd;refine AU (I.ok.hd hc) st raw (fun en he h' st' sb=>?_) fun he=>?_
  .have I1:Inv X pins σ H { s with heap:=h' }:=I.turned (t':=s.toks) (fun b o hb e=>(sb.2 b hb).trans e) f0 f1 f3 f4 f5;obtain⟨kv,b,q1,q2,q3⟩:=hk i en he;obtain⟨o,e,c,d⟩:=id st';rw[q2];exact⟨_,rfl,JA (s:={ s with heap:=h' }) e c d (by decide) ⟨.ref b,H,I1,rfl,⟨rfl,kv,b,q1,rfl,q3⟩,st',fun b hb=>(hf b hb).1⟩⟩
  .have:=Array.getElem?_eq_none_iff.mp he;have:=hg.2;omega
 done:=by
  intro X hP hw hK hc i pins s σ H E I hf st hg;subst hP hw hK;obtain⟨f0,f1,f2,f3,f4,f5⟩:=hf it (by simp);obtain⟨raw,hl,hk⟩:=KH I hg.1 hd;refine AU (I.ok.hd hc) st raw (fun en he=>?_) fun he h' eb=>⟨rfl,I.turned (t':=s.toks) (fun b o hb e=>eb b o hb e) f0 f1 f3 f4 f5⟩;have:=(Array.getElem?_eq_some_iff.mp he).1;have:=hg.2;omega
 self:=fun _ _ _ _ _ st h=>wpAny_pyIter_keyiter st h
def XM{X:Cx}{tg l:Uc}{f:TE}(k:PE X l f):PI X tg l (aBA f):=by
 intro pins s m H R I h;refine thn (k pins s m H _ I h) fun v s1 n=>?_;obtain⟨x,g,c,p,a,o,kvs,e,ha,q⟩:=n;subst e;cases p;obtain⟨d,z,hs,xs,r,od,es,ep,i,t,j,y,A⟩:=(show cO X.prog X.w g s1.heap a (.frz o (.dT kvs))from c.hok a _ ha);rw[d]at i;cases i;refine MZ hs ⟨o,d,t.1⟩ ⟨o,d,j⟩ ?_
 have fp:∀b∈[s1.heap.objs.size],nQ X pins g b:=fun b u=>by
  have e:b=s1.heap.objs.size:=List.mem_singleton.mp u;subst e;exact c.fpOk (A9 _)<|c.hok.fresh<|A9 _
 exact⟨s1.heap.objs.size,[s1.heap.objs.size],_,_,_,rfl,c.kept (t':=s1.toks) fun b o e=>A1 _ e,LK a _ o kvs es ep j,⟨_,B3 _ rfl,rfl,rfl⟩,fp,q⟩
def ZK(ks:Tv Key):CD:=.t (ks.map fun k=>.inl (UU k))
def JH(f:EF):AF:=fun a M=>(f a M).bind fun r=>match r.1 with
 |.f kvs=>Z (kvs.map fun b=>ZK b.1,r.2)
 |_=>Y
def EZ{W:Wd}:∀ks:Tv Key,Paired (BL K W) (ks.map fun k=>.inl (UU k)) (ks.map kV)
 |[]=>.nil
 |k::ks=>.cons (by cases k<;>rfl) (EZ ks)
def aAv{j:TE}{f:EF}(a:SE K j f):SI K (aBA j) (JH f):=by
 intro J M xs M' d W H s R G Rs k;obtain⟨⟨y,M1⟩,t,d⟩:=aI d;revert d;dsimp only;split
 .rename_i kvs;intro d;cases d;refine a _ _ _ _ t W H s _ G Rs fun v u w z l A=>?_;obtain⟨p,o,us,rfl,m,h⟩:=A;refine⟨p,o,us,rfl,l.fh _ _ m,k _ u w z l fun L M2 N B G2=>?_⟩;have n:=G2.fh _ _<|B.ff _ _ m;refine⟨fun i x g=>⟨⟨n,?_⟩,fun y O C=>?_⟩,n,by rw[A3,Paired.len h];exact A9 _⟩
  .have:=(List.getElem?_eq_some_iff.mp g).1;rw[A3,Paired.len h]at this;exact this
  .obtain⟨rfl,P,b,D,rfl,E⟩:=C;obtain⟨F,I⟩:=G2.adopt E;refine⟨_,F,I,?_⟩;rw[C0]at g;cases c:kvs[i]? with
   |none=>rw[c]at g;cases g
   |some Q=>
    rw[c]at g;cases g;obtain⟨q,r,e,_⟩:=Paired.get h c;rw[D]at r;cases r;exact⟨b,_,rfl,aS,e▸EZ _⟩
 .intro d;cases d
def aBw(t:TS):TS:=fun D d H=>t { D with nx:=fun b c=>∃a kvs,c a=Z (.dT kvs)/\∀o,D.nx b (upd c a (.frz o (.dT kvs))) } d H
def ZX{X:Cx}{st:Stmt}{t:TS}(h:PS X st t):PS X st (aBw t):=by
 intro pins s j H D I q;refine thn (h pins s j H _ I q) fun f s1 z=>?_;cases f with
 |next=>
  obtain⟨c,d,i,a,kvs,ha,q⟩:=z;obtain⟨z,hs,xs,r,od,es,ep,g,k,l,m,n⟩:=(show cO X.prog X.w d s1.heap a (.dT kvs)from i.hok a _ ha)
  have up:∀b xs,d b=Z (.tup xs)->upd d a (.frz od (.dT kvs)) b=Z (.tup xs):=fun b xs e=>by
   rw[aN (fun z=>by rw[z,ha]at e;cases e)];exact e
  exact⟨c,_,rZ (ob:=.frz od (.dT kvs)) (t':=s1.toks) i (by rw[ha];exact True.intro) (Heap.SameBut.refl _ _) ⟨od,g⟩ ⟨g,z,hs,xs,KT.keeps r up,od,es,ep,g,k,l,m,n⟩,q od⟩
 |brk=>exact z
 |cont=>exact z
 |ret v=>exact z
def JE(k:Nat)(γ:Ga)(M:Sto):Tw (Ga×Sto):=match γ[k]? with
 |some (some (.c i))=>match M[i]? with
  |some (.dt kvs)=>(sQ kvs).bind fun a=>Z (γ.set k<|Z (.f a),M.set i .dead)
  |_=>Y
 |_=>Y
def FU(k:Nat)(f:SF):SF:=fun b M=>(f b M).bind fun r=>match r.1 with
 |.nx a=>(JE k a r.2).bind fun q=>Z (.nx q.1,q.2)
 |o=>Z (o,r.2)
def XY{t:TS}{f:SF}{k:Nat}(a:SS K t f):SS K (aBw t) (FU k f):=by
 intro J M o M' b W H u D G R c;obtain⟨⟨w,M1⟩,A,b⟩:=aI b;refine a _ _ _ _ A W H u _ G R fun h l j g=>?_;cases w with
 |nx e=>
  obtain⟨⟨B,M2⟩,d,b⟩:=aI (show(JE k e M1).bind _=_ from b);cases b;unfold JE at d;split at d
  .rename_i i hi;split at d
   .rename_i kvs p;obtain⟨L,C,d⟩:=aI d;cases d;intro m q;obtain⟨us,E,F⟩:=g.dtAt p;refine⟨_,us,E,fun o=>?_⟩;obtain⟨n,G2⟩:=g.freeze p (by intro z;cases z) (o':=.frz o (.dT us));obtain⟨y,I,s⟩:=Paired.get q hi;refine c _ _ (j.trans n) G2 m ?_;cases y with
    |none=>exact False.elim s
    |some v=>
     refine yG (q.up n) I ?_;exact⟨h.α i,o,us,s.2,aS,Paired.mapP (uA C F) fun _ _ r=>⟨r.1,Rep.same n.ff _ _ r.2⟩⟩
   .cases d
  .cases d
 |bk e=>cases b;exact c h l j g
 |ct e=>cases b;exact c h l j g
 |rt x=>cases b;exact c h l j g
end
section
variable{ι:Type}{K:Fg}{X:ι->Cx}{e a:Uc}{es:T7}{f:EF}{fa:AF}{sf:SF}{st:Stmt}{pos:Pos}
def YG{k:Nat}(x:MA K X es fa):ME K X (.Tuple es k pos) (FI fa):=by
 obtain⟨t,b,c⟩:=x.ex;exact⟨_,fun i=>BP<|b i,ZQ c⟩
def ZO(k:Nat)(x:MS K X st sf):MS K X st (FU k sf):=by
 obtain⟨t,b,c⟩:=x.ex;exact⟨_,fun i=>ZX<|b i,XY c⟩
def ZP{tg:Uc}(x:ME K X a f):MI K X tg a (JH f):=by
 obtain⟨t,b,c⟩:=x.ex;exact⟨_,fun i=>XM<|b i,aAv c⟩
end
section
variable{ι:Type}{K:Fg}{X:ι->Cx}{N':Tc}{cap:T2}{scope:Scope}{tg iter elt:Uc}{ifs:T7}{f fi:EF}{gf:GF}{ft:TF}{pos:Pos}
def HU(a:∀i,(X i).K=K):Q2 K X (binaryOp .Add) yB:=⟨_,fun i=>(show OpR (X i) (binaryOp .Add) (FT K)by have:=op_catS (X:=X i);rw[a i]at this;exact this),aAC⟩
end
end L2
namespace HT
open PySem  PySem.Spec PyProof.Rows
end HT
namespace L2
variable{K:Fg}
open PySem PySem.Spec PyProof.Rows
section
open PySem.SeqAt
open PySem.AutoSeq1 (wpAny_loadPart')
open PySem.MeetsSeq PySem.MeetsSeq2 PySem.MeetsSeq3
def YW{prog:Ud}{w:World}{A:Ue}{E:T0}{s:Ua}{p q:Tx}{x y:Tz}{as bs:T9}{c:Bool}(f:A.units<cLine)(d:Reads s.heap p x as)(e:Reads s.heap q y bs)(h:qY x y=Z c):
 ∀Q:T0,Q (.bool c) s->wpAny (model prog w) A (richCompare .Lt p q) Q E s:=by
 intro Q k;unfold qY at h;split at h
 .rename_i a b;cases d;cases e;cases h;exact HT.rcLt_int _ _ _ _ _ _ _ _ _ _ k
 .rename_i xs v;obtain⟨ns,g,h⟩:=Option.bind_eq_some_iff.mp h;obtain⟨ms,i,h⟩:=Option.bind_eq_some_iff.mp h;cases h;cases d with
  |tuple j l m n=>
   cases e with
   |tuple o r t u=>exact HT.lt_tupInts ⟨_,j,l,_,m⟩ ⟨_,o,r,_,t⟩ (lY n g) (lY u i) f k
 .cases h
def zL(l b:Ub)(us i:Ti)(n n2:Nat)(dd v:Th)(sl z:Array (Tf))(xs ys:T3)(c:Bool):
 Meets (Builtin.«tuple.__lt__» ⟨[.ref l,.ref b],[]⟩)
  (fun A R s=>(A.in1.units+64<cLine/\(∃as,ReadsAll s.heap us.toList xs as)/\(∃bs,ReadsAll s.heap i.toList ys bs)/\xs.all SeqAt.shaped=true/\ys.all SeqAt.shaped=true/\gI xs ys=Z c) /\
   s.heap.get? l=Z { cls:=.type "tuple",dict:=dd,data:=.seq us n,slots:=sl }/\s.heap.get? b=Z { cls:=.type "tuple",dict:=v,data:=.seq i n2,slots:=z } /\
   R (.ok (.ret (.bool c))) s):=
 .of_wp fun prog w A R s h=>by
  obtain⟨r,g,d,B,os⟩:=s;obtain⟨⟨L,⟨as,hi⟩,⟨bs,M⟩,s1,s2,N⟩,O,P,h⟩:=h;have f2:=AutoSeq1.sub_tuple_tuple;have W:us.size=xs.length:=by rw[<- ReadsAll.len hi];simp
  have X:i.size=ys.length:=by rw[<- ReadsAll.len M];simp
  wp_walk using F8 O,F8 P,wpAny_forIn_list _ (fun rest b C=>b.1=Y/\C=⟨r,g,d,B,os⟩/\∃(vs t:T4)(j a:T3),rest=vs.zip t /\
   (∃as,ReadsAll r vs j as)/\(∃bs,ReadsAll r t a bs)/\j.all SeqAt.shaped=true/\a.all SeqAt.shaped=true/\j.length+i.size=a.length+us.size/\gI j a=Z c) _
  case turn=>
   rintro⟨y,x⟩ rest b C ⟨o,rfl,vs,t,j,a,m,⟨D,ha⟩,⟨F,p⟩,t1,t2,f,k⟩;cases ha with
   |nil=>rw[List.zip_nil_left]at m;cases m
   |cons G a2=>
    cases p with
    |nil=>rw[List.zip_nil_right]at m;cases m
    |cons u H=>
     rename_i dx Q _ dy S _;rw[U9]at m;injection m with I q
     injection I with T U
     subst T U;rw[List.all_cons,B8]at t1 t2;simp only[List.length_cons]at f;refine A0<|SeqAt.eqAt_reads _ _ A.in1 ⟨r,g,d,B,os⟩ _ _ _ _ G u (Y5 t1.1) (Y5 t2.1) (SeqAt.room_of_shaped t1.1 L) prog w _ _ ?_;have k:(if PyData.eqv _ _=true then gI _ _ else qY _ _)=Z c:=k;revert k;split
     .rename_i e;intro k;rw[e]
      wp_walk
      exact⟨rfl,rfl,_,_,_,_,q,⟨_,a2⟩,⟨_,H⟩,t1.2,t2.2,by omega,k⟩
     .rename_i e;intro k;rw[Bool.eq_false_iff.mpr e];have J:=fun E=>YW (prog:=prog) (w:=w) (A:=A.in1) (E:=E) (s:=⟨r,g,d,B,os⟩) (Nat.lt_of_le_of_lt (Nat.le_add_right _ 64) L) G u k
      wp_walk using J
      exact⟨_,rfl,by simpa using h⟩
  case fin=>
   rintro⟨u,H⟩ C ⟨o,rfl,vs,t,j,a,m,⟨D,ha⟩,⟨F,p⟩,t1,t2,f,k⟩;simp only at o;subst o
   have V:c=decide (us.size<i.size):=by
    cases ha with
    |nil=>
     have k:Z (decide (0<a.length))=Z c:=k;cases k;simp only[List.length_nil]at f;exact decide_eq_decide.mpr (by omega)
    |cons G a2=>
     cases p with
     |nil=>
      cases k;simp only[List.length_nil,List.length_cons]at f;exact(C2 (by omega)).symm
     |cons u H=>
      rw[U9]at m;cases m
   rw[V]at h
   wp_walk
   exact⟨_,rfl,by simpa[Builtin.Tuple.tupleCompareSizes]using h⟩
  case h=>
   exact⟨rfl,rfl,us.toList,i.toList,xs,ys,rfl,⟨_,hi⟩,⟨_,M⟩,s1,s2,by omega,N⟩
end
section
variable{prog:Ud}{w:World}{A:Ue}{E:T0}{s:Ua}
def ZE{p q:Tx}{xs ys:T3}{as bs:T9}{c:Bool}{Q:T0}(k:Reads s.heap p (.tuple xs) as)(l:Reads s.heap q (.tuple ys) bs)(s1:xs.all SeqAt.shaped=true)(s2:ys.all SeqAt.shaped=true)(m:gI xs ys=Z c)
 (d:A.in1.units+64<cLine) (h:Q (.bool c) s):wpAny (model prog w) A (compareOp .Lt p q) Q E s:=by
 cases k with
 |tuple e a2 a3 a4=>
  cases l with
  |tuple f g i b4=>
   rename_i n _ _ _ o _ _;obtain⟨cls,r,data,sl⟩:=n;obtain⟨j,a,data2,b⟩:=o;simp only at a2 a3 g i;subst a2 a3 g i
   exact richCompare_meets_room (op:=.Lt) ⟨_,e,rfl⟩ ⟨_,f,rfl⟩ F.slot_tuple_lt F.entry_tuple_lt (F.args_tuple_lt_2 _ _) (zL _ _ _ _ _ _ r a sl b xs ys c)
    ⟨⟨d,⟨_,a4⟩,⟨_,b4⟩,s1,s2,m⟩,e,f,show Value.bool c≠Value.notImplemented/\Q (.bool c) s from⟨(fun x=>nomatch x),h⟩⟩ (Nat.lt_of_le_of_lt (S9<|B6 (J3 _)<|Nat.le_add_right _ 64) d)
end
section
variable{X:Cx}
def aDH(K:Fg):R2:=fun x y H Q=>∃xs a c,Rep K H (.tuple xs) x/\Rep K H (.tuple a) y/\xs.all SeqAt.shaped=true/\a.all SeqAt.shaped=true/\gI xs a=Z c/\Q (.bl c) H
def aDA(a:X.A.in1.units+64<cLine):OpR X (compareOp .Lt) (aDH X.K):=by
 intro pins s j H x y v u Q I b d h;obtain⟨xs,k,c,e,f,s1,s2,g,q⟩:=h;obtain⟨as,ha⟩:=Rep.reads I _ x v e b;obtain⟨bs,i⟩:=Rep.reads I _ y u f d;exact ZE ha i s1 s2 g a ⟨.bl _,H,I,rfl,q⟩
end
def ltD:F2:=fun x y M=>match x,y with
 |.d (.tuple xs),.d (.tuple a)=>if (xs.all SeqAt.shaped&&a.all SeqAt.shaped)=true then(gI xs a).bind fun c=>Z (.d (.bool c),M)else Y
 |_,_=>Y
def ltX:F2:=BW ltI ltD
section
variable{K:Fg}
def aCw:P2 K (aDH K) ltD:=by
 intro x y M z M' h W H v u Q G b d k;unfold ltD at h;split at h
 .rename_i xs a;by_cases hs:(xs.all SeqAt.shaped&&a.all SeqAt.shaped)=true
  .rw[A7 hs]at h;obtain⟨c,e,h⟩:=aI h;cases h;rw[B8]at hs;exact⟨xs,a,c,Rep.same G.fh _ _ b,Rep.same G.fh _ _ d,hs.1,hs.2,e,k _ W H (.refl _) G rfl⟩
  .rw[B0 hs]at h;cases h
 .cases h
end
section
variable{ι:Type}{K:Fg}{X:ι->Cx}
def ZF{X:Cx}(e:X.K=K)(a:X.A.in1.units+64<cLine):OpR X (compareOp .Lt) (aDH K):=by subst e;exact aDA a
def aFB(a:∀i,(X i).K=K)(b:∀i,(X i).A.in1.units+64<cLine):Q2 K X (compareOp .Lt) ltX:=⟨_,fun i=>op_lt.or<|ZF (a i)<|b i,P2.or aBv aCw⟩
end
def FV:∀{ds:T3}{ns:T6},oQ ds=Z ns->ds=ns.map .int
 |[],_=>fun h=>by cases h;rfl
 |d::ds,ns=>fun h=>by
  cases d with
  |int n=>
   obtain⟨ms,a,b⟩:=Option.bind_eq_some_iff.mp (show(oQ ds).bind (fun ns=>Z (n::ns))=Z ns from h);cases b;rw[FV a];rfl
  |_=>cases h
def uS{K:Fg}{H:Hp}:∀{ns:T6}{us:Td},aK K H (ns.map .int) us->us=ns.map .int
 |[],_=>fun h=>h
 |n::ns,_=>fun h=>by
  obtain⟨v,r,rfl,a,b⟩:=(show ∃v r,_=v::r/\Rep K H (.int n) v/\aK K H (ns.map .int) r from h);rw[uS b,show v=V.int n from a];rfl
def VQ(K:Fg):Td->Hp->VK->Prop:=fun xs H Q=>∃(p:Ub)(ns:T6),xs=[.ref p]/\SqL K H p (ns.map .int)/\Q (.int ns.sum) H
def LZ{X:Cx}(d:X.calm=true):eP X (.builtin "sum") (VQ X.K):=by
 intro pins s m H xs us Q I r h;obtain⟨p,ns,rfl,f,q⟩:=h;obtain⟨u,rfl,g⟩:=vals1 r;cases g;obtain⟨a,i,j,n⟩:=I.list f;have hi:=intsAre_of i;obtain⟨o,e⟩:=hi.allInts.items;have b:=j.isList;have c:=hi.numsOf;rw[show a=a.toArray.toList from rfl,e,nums_intItems]at c;rw[e]at b;refine sum_intListG (I.ok.hd d) b fun h' k t' l=>?_;refine⟨.int _,H,I.kept (h':=h') (t':=k) l,⟨t',rfl⟩,?_⟩;rw[preSum_eq,List.take_of_length_le (by simp),c];exact q
def aGU{X:Cx}(h:X.K=K)(a:X.calm=true):eP X (.builtin "sum") (VQ K):=by subst h;exact LZ a
def sumF:FN:=fun xs M=>match xs with
 |[.d (.list a)]=>(oQ a).bind fun ns=>Z (.d (.int ns.sum),M)
 |_=>Y
def ZC:PN K (VQ K) sumF:=by
 intro xs M z M' h W H vs Q G r k;unfold sumF at h;split at h
 .rename_i c;obtain⟨ns,d,h⟩:=aI h;cases h;rcases r with _|⟨f,_|_⟩;obtain⟨p,us,rfl,g,b⟩:=(show ∃a us,_=V.ref a/\SqL K W.F a us/\aK K W.F c us from f);rw[FV d]at b;have e:=uS b;subst e;exact⟨p,ns,rfl,G.fh.seq g,k _ W H (.refl _) G rfl⟩
 .cases h
def aDZ{ι:Type}{X:ι->Cx}(a:∀i,(X i).K=K)(b:∀i,(X i).calm=true):QN K X (.builtin "sum") sumF:=⟨_,fun i=>aGU (a i)<|b i,ZC⟩
def Rsg(xs:Tj):Prop:=∀i k:Nat,i<k->k<xs.size->xs.getD i 0<xs.getD k 0
structure Tb(b:Bool)(t:SetTable):Prop where
 led:t.led=b
 ris:t.plain=true->Rsg t.place
noncomputable abbrev t7(b:Bool)(p:Tj):SetTable:=⟨7,p,#[],0,b,0,true⟩
noncomputable abbrev t31(b:Bool)(p:Tj):SetTable:=⟨31,p,#[],0,b,1,true⟩
noncomputable def vI:Tx->Int
 |.int i _=>i
 |_=>0
structure Tp(b:Bool)(t:SetTable)(es:Array (Int×Tx)):Prop where
 bd:∀e∈es.toList,0<=e.1/\e.1<9
 vl:∀e∈es.toList,vI e.2=e.1
 nd:(es.toList.map (·.1)).Nodup
 fm:∃p,Rsg p/\((t=t7 b p/\(∀i,i<p.size->p.getD i 0<=7)/\p.size<=4/\p.size=es.size)\/(t=t31 b p/\p.toList=es.toList.map fun e=>e.1.toNat))
structure aHa(prog:Ud)(w:World)(b:Bool)(h:Heap)(a:Ub)(es:Array (Int×Tx))(σ:T6):Prop where
 ob:∃o ep t,h.get? a=Z o/\o.ExactSet/\o.data=.set es ep t/\t.fits es.size=true/\Tp b t es
 el:ElemsOf (intKind prog w) es.toList
 sm:es.size<scanBound
 pm:(es.toList.map fun e=>vI e.2).Perm σ
section
variable{prog:Ud}{w:World}{A:Ue}{E:T0}{s:Ua}
def aDO{h:Heap}{a:Ub}{o:Obj}{es es':Array (Int×Tx)}{ep:Nat}{t t':SetTable}(b:h.get? a=Z o)(hd:o.data=.set es ep t):(h.update a<|Obj.putSet es' t').get? a=Z { o with data:=.set es' (ep+1) t' }:=by
 have:=J1 (Obj.putSet es' t') b (by rw[putSet_of es' t' hd];rfl);rw[putSet_of es' t' hd]at this;exact this
def stored{b:Bool}{h:Heap}{a:Ub}{o:Obj}{es es':Array (Int×Tx)}{ep:Nat}{t t':SetTable}{d:T6}(g:h.get? a=Z o)(c:o.ExactSet)(hd:o.data=.set es ep t)(el:ElemsOf (intKind prog w) es'.toList)(sm:es'.size<scanBound)(i:t'.fits es'.size=true)(T:Tp b t' es')(pm:(es'.toList.map fun e=>vI e.2).Perm d):
 (h.update a<|Obj.putSet es' t').get? a=Z { o with data:=.set es' (ep+1) t' }/\aHa prog w b (h.update a<|Obj.putSet es' t') a es' d:=by
 have f:=aDO (es':=es') (t':=t') g hd;exact⟨f,⟨_,_,_,f,c,rfl,i,T⟩,el,sm,pm⟩
end
section
variable{prog:Ud}{w:World}{A:Ue}{E:T0}{s:Ua}
end
end L2
namespace PySem
section
variable{prog:Ud}{w:World}{A:Ue}{E:T0}{s:Ua}
structure CH(z TO i1 i2 l:Ub):Prop where
 z:l≠z
 o:l≠TO
 a:l≠i1
 b:l≠i2
section
variable{z TI TO i1 i2 l1 l2:Ub}{k n1 n2:Nat}{P1 P2:Nat->Tx->Prop}{S1 S2:Nat->Heap->Prop}{a b:Tx}
def aAR{Q:T0}(D:L2.Apart5 z TI TO i1 i2)(f1:CH z TO i1 i2 l1)(f2:CH z TO i1 i2 l2)(C:Draws prog w A i1 [i1,l1] n1 P1 S1)(F:Draws prog w A i2 [i2,l2] n2 P2 S2)
 (hz:IsZip s.heap z TI TO .none) (X:IsPair s.heap TI (.ref i1) (.ref i2)) (hO:IsPair s.heap TO a b) (t1:S1 k s.heap) (t2:S2 k s.heap) (k1:k<n1) (k2:k<n2)
 (hQ:∀h' tk x y,P1 k x->P2 k y->IsZip h' z TI TO (rawInt s.heap.objs.size)->IsPair h' TO x y->S1 (k+1) h'->S2 (k+1) h'->IsPair h' s.heap.objs.size x y->
  (∀c o,c≠z->c≠TO->c≠i1->c≠i2->s.heap.get? c=Z o->h'.get? c=Z o)->Q (.ref s.heap.objs.size) { s with heap:=h',toks:=tk }):
 wpAny (model prog w) A (Builtin.«zip.__next__» ⟨[.ref z],[]⟩) (fun r s'=>∃v,r=.done (.ret v)/\Q v s') E s:=by
 have n:∀{h h':Heap}{c:Ub}{j:Nat},Heap.SameBut c h h'->i1≠c->l1≠c->S1 j h->S1 j h':=fun G q r st=>C.frame _ _ _ st fun b hb o e=>G.extBut b o (by
  rcases List.mem_cons.mp hb with rfl|hb
  .exact q
  .rw[List.mem_singleton.mp hb];exact r) e
 have p:∀{h h':Heap}{c:Ub}{j:Nat},Heap.SameBut c h h'->i2≠c->l2≠c->S2 j h->S2 j h':=fun G q r st=>F.frame _ _ _ st fun b hb o e=>G.extBut b o (by
  rcases List.mem_cons.mp hb with rfl|hb
  .exact q
  .rw[List.mem_singleton.mp hb];exact r) e
 refine(?_:wpAny _ _ (field (.ref z) 2 >>= fun v=>_) _ _ _);refine A0<|D3 hz rfl (x:=Value.bool false) rfl (?_:wpAny _ _ (field (.ref z) 3 >>= fun v=>_) _ _ _);refine A0<|D3 hz rfl (x:=Value.ref TI) rfl<|A0<|S5 X rfl (?_:wpAny _ _ (Builtin.SmallTypes.ownedTupleIsFree (.ref z) >>= fun v=>_) _ _ _);refine A0<|A0 (m:=field (.ref z) 0)<|D3 hz rfl (x:=Value.none) rfl<|A4 ?_;rw[A7 rfl];refine A0<|Z7<|A0<|D3 hz rfl (x:=Value.ref TO) rfl<|A0 (E3 hz (by simp) fun L H f=>A0 ?_);have H:IsZip L z TI TO .ellipsis:=H;simp only[List.zipIdx_cons,List.zipIdx_nil,List.forIn_cons,List.forIn_nil];refine A0<|A0<|wpAny_onRaise (?_:wpAny _ _ (Builtin.SmallTypes.nextOf (.ref i1) >>= fun v=>_) _ _ _);refine A0 (C.item k { s with heap:=L } _ _ k1 (n f D.i1z f1.z t1) fun x g2 I p1 u1 g=>A4 ?_);have M:IsPair g2 TO a b:=g.extBut _ _ D.TOi1<|f.extBut _ _ D.TOz hO;refine A0<|S5 M rfl<|A0 (wpAny_updateSeq_pair M fun N J i=>A0<|wpAny_letGo<|A4 ?_);have J:IsPair N TO x b:=J;refine A0<|A0<|wpAny_onRaise (?_:wpAny _ _ (Builtin.SmallTypes.nextOf (.ref i2) >>= fun v=>_) _ _ _);refine A0 (F.item k { s with heap:=N,toks:=I } _ _ k2 (p i D.TOi2.symm f2.o<|p g D.i12.symm f2.a<|p f D.i2z f2.z t2) fun y g4 K p2 u2 b4=>A4 ?_);have O:IsPair g4 TO x b:=b4.extBut _ _ D.TOi2 J;refine A0<|S5 O rfl<|A0 (wpAny_updateSeq_pair O fun d t l=>A0<|wpAny_letGo<|A4<|A4 ?_);have t:IsPair d TO x y:=t;have sz:d.objs.size=s.heap.objs.size:=by rw[l.1,b4.1,i.1,g.1,f.1]
 have P:IsZip d z TI TO .ellipsis:=l.extBut _ _ D.TOz.symm<|b4.extBut _ _ D.i2z.symm<|i.extBut _ _ D.TOz.symm<|g.extBut _ _ D.i1z.symm H;have s1:S1 (k+1) d:=n l D.TOi1.symm f1.o<|n b4 D.i12 f1.b<|n i D.TOi1.symm f1.o u1;have s2:S2 (k+1) d:=p l D.TOi2.symm f2.o u2;have R:z<d.objs.size:=A8 P;refine A0<|S5 t rfl<|A0<|wpAny_newTuple (?_:wpAny _ _ (Builtin.SmallTypes.ownedTupleHandOut (.ref z) (.ref d.objs.size) >>= fun v=>_) _ _ _);have z6:IsZip (d.push { cls:=.type "tuple",data:=.seq #[x,y] }) z TI TO .ellipsis:=A1 _ P;refine A0<|A0 (m:=setField (.ref z) 0 _) (E3 z6 (by simp) fun g7 z7 S=>E3 z7 (by simp) fun u B T=>A4 ⟨_,rfl,?_⟩);have up:∀c o,c≠z->d.get? c=Z o->u.get? c=Z o:=fun c o q e=>T.extBut _ _ q<|S.extBut _ _ q<|A1 _ e;have U:IsPair u d.objs.size x y:=T.extBut _ _ (E1 R)<|S.extBut _ _ (E1 R)<|B3 _ rfl;have B:IsZip u z TI TO (rawInt d.objs.size):=B;rw[sz]at U B;show Q (.ref d.objs.size) _;rw[sz];refine hQ u K x y p1 p2 B (up _ _ D.TOz t) (C.frame _ _ _ s1 fun c hc o e=>up c o ?_ e) (F.frame _ _ _ s2 fun c hc o e=>up c o ?_ e) U fun c o V W c3 c4 e=>up c o V<|l.extBut _ _ W<|b4.extBut _ _ c4<|i.extBut _ _ W<|g.extBut _ _ c3<|f.extBut _ _ V e
 .rcases List.mem_cons.mp hc with rfl|hc
  .exact D.i1z
  .rw[List.mem_singleton.mp hc];exact f1.z
 .rcases List.mem_cons.mp hc with rfl|hc
  .exact D.i2z
  .rw[List.mem_singleton.mp hc];exact f2.z
def aCU{Q:Fin->Ua->Prop}(D:L2.Apart5 z TI TO i1 i2)(f1:CH z TO i1 i2 l1)(f2:CH z TO i1 i2 l2)(B:Draws prog w A i1 [i1,l1] n1 P1 S1)(L:Draws prog w A i2 [i2,l2] n2 P2 S2)
 (hz:IsZip s.heap z TI TO .none) (T:IsPair s.heap TI (.ref i1) (.ref i2)) (U:IsPair s.heap TO a b) (t1:S1 k s.heap) (t2:S2 k s.heap) (V:k=n1\/(k<n1/\k=n2))
 (M:∀h' tk e,(∀c o,c≠z->c≠TO->c≠i1->c≠i2->s.heap.get? c=Z o->h'.get? c=Z o)->(∃o,h'.get? e=Z o/\o.cls=.type "StopIteration")->E (.ref e) { s with heap:=h',toks:=tk }):
 wpAny (model prog w) A (Builtin.«zip.__next__» ⟨[.ref z],[]⟩) Q E s:=by
 have N:∀{h h':Heap}{c:Ub}{j:Nat},Heap.SameBut c h h'->i1≠c->l1≠c->S1 j h->S1 j h':=fun C q r st=>B.frame _ _ _ st fun b hb o e=>C.extBut b o (by
  rcases List.mem_cons.mp hb with rfl|hb
  .exact q
  .rw[List.mem_singleton.mp hb];exact r) e
 have F:∀{h h':Heap}{c:Ub}{j:Nat},Heap.SameBut c h h'->i2≠c->l2≠c->S2 j h->S2 j h':=fun C q r st=>L.frame _ _ _ st fun b hb o e=>C.extBut b o (by
  rcases List.mem_cons.mp hb with rfl|hb
  .exact q
  .rw[List.mem_singleton.mp hb];exact r) e
 have p:∀{g:Heap}{v:Tx}{e:Ub}{o:Obj},IsZip g z TI TO v->g.get? e=Z o->o.cls=.type "StopIteration"->e≠z:=fun hz d f q=>by
  subst q;rw[hz]at d;cases d;simp at f
 refine(?_:wpAny _ _ (field (.ref z) 2 >>= fun v=>_) _ _ _);refine A0<|D3 hz rfl (x:=Value.bool false) rfl (?_:wpAny _ _ (field (.ref z) 3 >>= fun v=>_) _ _ _);refine A0<|D3 hz rfl (x:=Value.ref TI) rfl<|A0<|S5 T rfl (?_:wpAny _ _ (Builtin.SmallTypes.ownedTupleIsFree (.ref z) >>= fun v=>_) _ _ _);refine A0<|A0 (m:=field (.ref z) 0)<|D3 hz rfl (x:=Value.none) rfl<|A4 ?_;rw[A7 rfl];refine A0<|Z7<|A0<|D3 hz rfl (x:=Value.ref TO) rfl<|A0 (E3 hz (by simp) fun G y l=>A0 ?_);have y:IsZip G z TI TO .ellipsis:=y;simp only[List.zipIdx_cons,List.zipIdx_nil,List.forIn_cons,List.forIn_nil];refine A0<|A0<|wpAny_onRaise (?_:wpAny _ _ (Builtin.SmallTypes.nextOf (.ref i1) >>= fun v=>_) _ _ _);rcases V with rfl|⟨W,rfl⟩
 .refine A0 (B.done { s with heap:=G } _ _ (N l D.i1z f1.z t1) fun H e i ⟨I,d,f⟩=>?_);have O:IsZip H z TI TO .ellipsis:=i _ _ D.i1z.symm y;exact E3 O (by simp) fun J _ n=>M J s.toks e (fun c o t _ K _ q=>n.extBut _ _ t<|i _ _ K<|l.extBut _ _ t q) ⟨I,n.extBut _ _ (p O d f) d,f⟩
 .refine A0 (B.item k { s with heap:=G } _ _ W (N l D.i1z f1.z t1) fun x H u p1 u1 i=>A4 ?_);have P:IsPair H TO a b:=i.extBut _ _ D.TOi1<|l.extBut _ _ D.TOz U;refine A0<|S5 P rfl<|A0 (wpAny_updateSeq_pair P fun J O3 n=>A0<|wpAny_letGo<|A4 ?_);refine A0<|A0<|wpAny_onRaise (?_:wpAny _ _ (Builtin.SmallTypes.nextOf (.ref i2) >>= fun v=>_) _ _ _);refine A0 (L.done { s with heap:=J,toks:=u } _ _ (F n D.TOi2.symm f2.o<|F i D.i12.symm f2.a<|F l D.i2z f2.z t2) fun X e b4 ⟨I,d,f⟩=>?_);have R:IsZip X z TI TO .ellipsis:=b4 _ _ D.i2z.symm<|n.extBut _ _ D.TOz.symm<|i.extBut _ _ D.i1z.symm y;exact E3 R (by simp) fun g5 _ S=>M g5 u e (fun c o t c2 K c4 q=>S.extBut _ _ t<|b4 _ _ c4<|n.extBut _ _ c2<|i.extBut _ _ K<|l.extBut _ _ t q) ⟨I,S.extBut _ _ (p R d f) d,f⟩
end
def wB{h:Heap}{o:Obj}{n:Nat}(e:h.objs.size=n)(f:o.isFreed=false:=by rfl):(h.push o).get? n=Z o:=by subst e;exact B3 _ f
def aCI{l1 l2:Ub}{xs ys:Ti}:Meets (Builtin.«zip.__new__» ⟨[.type "zip",.ref l1,.ref l2],[]⟩) (fun _ R s=>s.heap.IsTuple l1 xs/\s.heap.IsTuple l2 ys /\
 ∀h',(∀c o,s.heap.get? c=Z o->h'.get? c=Z o)->h'.get? s.heap.objs.size=Z { cls:=.type "tuple_iterator",data:=.fields #[.ref l1,.int 0 0] }->h'.get? (s.heap.objs.size+1)=Z { cls:=.type "tuple_iterator",data:=.fields #[.ref l2,.int 0 0] }->
  IsPair h' (s.heap.objs.size+2) (.ref s.heap.objs.size) (.ref (s.heap.objs.size+1))->IsPair h' (s.heap.objs.size+3) .none .none->IsZip h' (s.heap.objs.size+4) (s.heap.objs.size+2) (s.heap.objs.size+3) .none->R (.ok (.ret (.ref (s.heap.objs.size+4)))) { s with heap:=h' }):=
 .of_wp fun prog w A R s h=>by
  obtain⟨a,g,d,b,os⟩:=s;obtain⟨f,i,h⟩:=h;have sub:=sub_zip;have j:Heap.IsTuple (Shared.heap ⟨a,g,d,b,os⟩) l1 xs:=f;have L2:Heap.IsTuple (Shared.heap ⟨a.push { cls:=.type "tuple_iterator",data:=.fields #[.ref l1,.int 0 0] },g,d,b,os⟩) l2 ys:=Heap.IsTuple.at i fun o e=>A1 _ e
  wp_walk using S7 j,S7 L2
  refine⟨_,rfl,?_⟩;simp only[Heap.size_push]at h ⊢;refine h _ (fun c o e=>?_) ?_ ?_ ?_ ?_ ?_
  .exact A1 _<|A1 _<|A1 _<|A1 _<|A1 _ e
  .exact A1 _<|A1 _<|A1 _<|A1 _<|B3 _ rfl
  .exact A1 _<|A1 _<|A1 _<|wB<|S0 ..
  .exact A1 _<|A1 _<|wB (by simp only[Heap.size_push])
  .exact A1 _<|wB (by simp only[Heap.size_push])
  .exact wB (by simp only[Heap.size_push])
end
end PySem
namespace L2
variable{K:Fg}
open PySem PySem.Spec PyProof.Rows
def aGd(K:Fg)(l1 l2:Ub):It:=
 ⟨fun i H=>∃xs a x y,SqT K H l1 xs/\SqT K H l2 a/\xs[i]?=Z x/\a[i]?=Z y,
  fun i H v H'=>∃p x y,H p=Y/\v=.ref p/\H'=upd H p (.tup [x,y])/\(∀xs,SqT K H l1 xs->xs[i]?=Z x)/\∀a,SqT K H l2 a->a[i]?=Z y,
  fun i H=>∃xs a,SqT K H l1 xs/\SqT K H l2 a/\((i=xs.length)\/(i<xs.length/\i=a.length))⟩
def aHk(z TI TO i1 i2 l1 l2:Ub)(i:Nat)(h:Heap):Prop:=IsZip h z TI TO .none/\IsPair h TI (.ref i1) (.ref i2)/\(∃a b,IsPair h TO a b)/\h.IsTupleIter i1 l1 i/\h.IsTupleIter i2 l2 i
section
variable{prog:Ud}{w:World}{A:Ue}{E:T0}{s:Ua}
variable{z TI TO i1 i2 l1 l2:Ub}{k n1 n2:Nat}{P1 P2:Nat->Tx->Prop}{S1 S2:Nat->Heap->Prop}{a b:Tx}
def XU{Q:Tf->Ua->Prop}(D:Apart5 z TI TO i1 i2)(f1:CH z TO i1 i2 l1)(f2:CH z TO i1 i2 l2)(d:Draws prog w A.in1 i1 [i1,l1] n1 P1 S1)(e:Draws prog w A.in1 i2 [i2,l2] n2 P2 S2)
 (hz:IsZip s.heap z TI TO .none) (f:IsPair s.heap TI (.ref i1) (.ref i2)) (g:IsPair s.heap TO a b) (t1:S1 k s.heap) (t2:S2 k s.heap) (k1:k<n1) (k2:k<n2)
 (h:∀h' tk x y,P1 k x->P2 k y->IsZip h' z TI TO (rawInt s.heap.objs.size)->IsPair h' TO x y->S1 (k+1) h'->S2 (k+1) h'->IsPair h' s.heap.objs.size x y->
  (∀c o,c≠z->c≠TO->c≠i1->c≠i2->s.heap.get? c=Z o->h'.get? c=Z o)->Q (Z (.ref s.heap.objs.size)) { s with heap:=h',toks:=tk }):
 wpAny (model prog w) A (pyNext (.ref z)) Q E s:=by
 have ty:s.TypeIs (.ref z) "zip":=⟨_,hz,rfl⟩;unfold pyNext;exact A0<|Z2<|F7 ty Y2<|F4 Y2 ty F.entry_zip_next (aAR D f1 f2 d e hz f g t1 t2 k1 k2 fun h' tk x y i j l m n p q r=>A4<|h h' tk x y i j l m n p q r)<|F.args_zip_next_1 _
def WW{Q:Tf->Ua->Prop}(D:Apart5 z TI TO i1 i2)(f1:CH z TO i1 i2 l1)(f2:CH z TO i1 i2 l2)(d:Draws prog w A.in1 i1 [i1,l1] n1 P1 S1)(f:Draws prog w A.in1 i2 [i2,l2] n2 P2 S2)
 (hz:IsZip s.heap z TI TO .none) (g:IsPair s.heap TI (.ref i1) (.ref i2)) (h:IsPair s.heap TO a b) (t1:S1 k s.heap) (t2:S2 k s.heap) (i:k=n1\/(k<n1/\k=n2))
 (j:∀h' tk,(∀c o,c≠z->c≠TO->c≠i1->c≠i2->s.heap.get? c=Z o->h'.get? c=Z o)->Q Y { s with heap:=h',toks:=tk }):wpAny (model prog w) A (pyNext (.ref z)) Q E s:=by
 have ty:s.TypeIs (.ref z) "zip":=⟨_,hz,rfl⟩;unfold pyNext;exact A0<|Z2<|F7 ty Y2<|F4 Y2 ty F.entry_zip_next (aCU D f1 f2 d f hz g h t1 t2 i fun h' tk e l m=>A0 (let⟨o,n,p⟩:=m;wpAny_isInstance (T:="StopIteration") (b:=true) ⟨o,n,p⟩ isSubtype_stop<|A4<|j h' tk l))<|F.args_zip_next_1 _
end
section
variable{P:Ud}{w:World}{K:Fg}{elts:T7}{x1:Nat}{tpos:Pos}{z TI TO i1 i2 l1 l2:Ub}
def DB{h:Heap}{l:Ub}{xs:Ti}{i j:Nat}(T:h.IsTuple l xs)(hz:IsZip h z TI TO .none)(f:h.IsTupleIter i1 l1 i)(a2:h.IsTupleIter i2 l2 j)(g:l≠TO):CH z TO i1 i2 l:=by
 obtain⟨o,e,c,_⟩:=T;obtain⟨t,k,m,_⟩:=f;obtain⟨v,p,s,_⟩:=a2
 have a:∀(b:Ub)(u:Obj),h.get? b=Z u->u.cls≠.type "tuple"->l≠b:=fun b u q n r=>by
  subst r;rw[e]at q;cases q;exact n c
 have d:(Value.type "tuple_iterator")≠.type "tuple":=by intro q;injection q with q;exact absurd q (by decide)
 exact⟨a z _ hz (by intro q;injection q with q;exact absurd q (by decide)),g,a i1 _ k (by rw[m];exact d),a i2 _ p (by rw[s];exact d)⟩
def LO(A5:Apart5 z TI TO i1 i2)(n1:l1≠TO)(n2:l2≠TO):Turn P w K (.Tuple elts x1 tpos) (aGd K l1 l2) [z,TI,TO,i1,i2] z (aHk z TI TO i1 i2 l1 l2) where
 mem:=by simp
 obj:=fun i h st b hb=>by
  obtain⟨hz,hTI,⟨a,c,hTO⟩,⟨o1,e1,_,d1⟩,⟨o2,e2,_,d2⟩⟩:=st;simp only[List.mem_cons,List.not_mem_nil,or_false]at hb;rcases hb with rfl|rfl|rfl|rfl|rfl
  .exact⟨_,hz,fun v q=>by cases q⟩
  .exact⟨_,hTI,fun v q=>by cases q⟩
  .exact⟨_,hTO,fun v q=>by cases q⟩
  .exact⟨_,e1,fun v q=>by rw[d1]at q;cases q⟩
  .exact⟨_,e2,fun v q=>by rw[d2]at q;cases q⟩
 keep:=fun i h h' st k=>by
  obtain⟨hz,hTI,⟨a,c,hTO⟩,h1,h2⟩:=st;exact⟨k z (by simp) _ hz,k TI (by simp) _ hTI,⟨a,c,k TO (by simp) _ hTO⟩,h1.at fun o e=>k i1 (by simp) o e,h2.at fun o e=>k i2 (by simp) o e⟩
 item:=by
  intro X hP hw hK hc i pins s σ H E I hf st hg;subst hP hw hK;obtain⟨xs,ys,x,y,hq1,hq2,hx,hy⟩:=hg;obtain⟨its,rv,p,_⟩:=I.tuple hq1;obtain⟨jts,rw',p',_⟩:=I.tuple hq2;obtain⟨u,hu,ru⟩:=rv.get hx;obtain⟨v,hv,rv'⟩:=rw'.get hy;obtain⟨hz,hTI,⟨a,c,hTO⟩,h1,h2⟩:=id st;have F1:=DB p hz h1 h2 n1;have F2:=DB p' hz h1 h2 n2;have hh:X.A.in1.handled=Y:=I.ok.hd hc;have li:=(List.getElem?_eq_some_iff.mp hu).1;have lj:=(List.getElem?_eq_some_iff.mp hv).1;refine XU (k:=i) A5 F1 F2 (mD hh i1 l1 F1.a its.toArray) (mD hh i2 l2 F2.b jts.toArray) hz hTI hTO ⟨h1,p⟩ ⟨h2,p'⟩ (by simpa using li) (by simpa using lj) fun h' tk u' v' e1 e2 a1 a2 a3 a4 a5 hk=>⟨_,rfl,?_⟩
  have e1:u=u':=by
   have:its.toArray[i]?=Z u:=by rw[List.getElem?_toArray];exact hu
   rw[this]at e1;cases e1;rfl
  have e2:v=v':=by
   have:jts.toArray[i]?=Z v:=by rw[List.getElem?_toArray];exact hv
   rw[this]at e2;cases e2;rfl
  subst e1 e2;refine wpAny_letOwnedTupleGo_zip a1 fun h2' hz2 sb=>?_
  have lt:∀b∈[z,TI,TO,i1,i2],s.heap.objs.size≠b:=fun b hb q=>by
   obtain⟨o1,e1,_⟩:=id h1;obtain⟨o2,e2,_⟩:=id h2;simp only[List.mem_cons,List.not_mem_nil,or_false]at hb
   have:∃o,s.heap.get? b=Z o:=by
    rcases hb with rfl|rfl|rfl|rfl|rfl
    .exact⟨_,hz⟩
    .exact⟨_,hTI⟩
    .exact⟨_,hTO⟩
    .exact⟨_,e1⟩
    .exact⟨_,e2⟩
   obtain⟨o,e⟩:=this;rw[<- q]at e;exact absurd (A8 e)<|I0 _
  have kk:∀b o,b∉[z,TI,TO,i1,i2]->s.heap.get? b=Z o->h2'.get? b=Z o:=fun b o hb q=>by
   simp only[List.mem_cons,List.not_mem_nil,or_false,not_or]at hb;exact(sb.2 b hb.1).trans (hk b o hb.1 hb.2.2.1 hb.2.2.2.1 hb.2.2.2.2 q)
  have ht2:h2'.get? s.heap.objs.size=Z { cls:=.type "tuple",data:=.seq #[u,v] }:=(sb.2 _<|lt z (by simp)).trans a5
  have I2:Inv X pins σ (upd H s.heap.objs.size (.tup [x,y])) { s with heap:=h2',toks:=tk }:=
   I.turnLay hf kk (A9 _) ⟨by show 2<=sizeLine;rw[E6];decide,[u,v],.cons ru (.cons rv' .nil),⟨_,ht2,rfl,_,rfl⟩⟩
  refine⟨.ref s.heap.objs.size,_,I2,rfl,⟨_,x,y,I.hok.fresh<|A9 _,rfl,rfl,fun ws hw=>by rw[I.tuple_inj hw hq1];exact hx,fun ws hw=>by rw[I.tuple_inj hw hq2];exact hy⟩,⟨hz2,?_,⟨_,_,(sb.2 TO A5.TOz).trans a2⟩,a3.1.at fun o e=>(sb.2 i1 A5.i1z).trans e,a4.1.at fun o e=>(sb.2 i2 A5.i2z).trans e⟩,fun b hb=>?_⟩
  .exact(sb.2 TI A5.TIz).trans (hk TI _ A5.TIz A5.TITO A5.TIi1 A5.TIi2 hTI)
  .rw[aN fun q=>lt b hb q.symm];exact(hf b hb).1
 done:=by
  intro X hP hw hK hc i pins s σ H E I hf st hg;subst hP hw hK;obtain⟨xs,ys,hq1,hq2,hend⟩:=hg;obtain⟨its,rv,p,_⟩:=I.tuple hq1;obtain⟨jts,rw',p',_⟩:=I.tuple hq2;obtain⟨hz,hTI,⟨a,c,hTO⟩,h1,h2⟩:=id st;have l1':=rv.length;have l2':=rw'.length;have F1:=DB p hz h1 h2 n1;have F2:=DB p' hz h1 h2 n2;have hh:X.A.in1.handled=Y:=I.ok.hd hc;refine WW (k:=i) A5 F1 F2 (mD hh i1 l1 F1.a its.toArray) (mD hh i2 l2 F2.b jts.toArray) hz hTI hTO ⟨h1,p⟩ ⟨h2,p'⟩ (by simpa[<- l1',<- l2']using hend) fun h' tk hk=>⟨rfl,I.turnF (t':=tk) hf fun b o hb q=>?_⟩;simp only[List.mem_cons,List.not_mem_nil,or_false,not_or]at hb;exact hk b o hb.1 hb.2.2.1 hb.2.2.2.1 hb.2.2.2.2 q
 self:=fun A i s Q E st h=>wpAny_pyIter_zip st.1 h
end
section
variable{X:Cx}{elts:T7}{x1:Nat}{tpos:Pos}
def aBC(K:Fg)(e:TA):TI:=fun f H R=>e f H fun vs c=>∃a b xs d,vs=[.ref a,.ref b]/\((SqL K c a xs/\SqL K c b d/\R (Itz K a b) c)\/(SqT K c a xs/\SqT K c b d/\R (aGd K a b) c))
def YB{a b:Uc}{G:TA}{p pos:Pos}(J:Gl X "zip")(hm:X.mg "zip"=Y)(ha:PA X [a,b] G)(hs:starEach [a,b] X.env=[(false,eval a X.env),(false,eval b X.env)])(k:starEach [b] X.env=[(false,eval b X.env)]):PI X (.Tuple elts x1 tpos) (.Call (.Name "zip" p) [a,b] [] pos) (aBC X.K G):=by
 intro pins s L H R I h;refine Call_<|jL I J hm boot_zip<|E9 (thn (ha pos pins s L H _ I h) fun us s1 ⟨vs,v,c,M,w⟩=>?_) (by rw[hs,k]) (by rw[k];rfl);obtain⟨l,n,xs,U,e,w⟩:=w;subst e;cases M with
 |cons r x=>
  cases x with
  |cons N x=>
   cases x;cases (show _=Value.ref l from r);cases (show _=Value.ref n from N)
   have fp:∀b∈[s1.heap.objs.size+4,s1.heap.objs.size+2,s1.heap.objs.size+3,s1.heap.objs.size,s1.heap.objs.size+1],nQ X pins v b:=fun b O=>by
    have m:s1.heap.objs.size<=b:=by
     simp only[List.mem_cons,List.not_mem_nil,or_false]at O;omega
    exact c.fpOk m<|c.hok.fresh m
   rcases w with⟨d,f,q⟩|⟨d,f,q⟩
   .obtain⟨y,P,t,_⟩:=c.list d;obtain⟨A,B,u,_⟩:=c.list f;refine call_zip_2 t.isList u.isList fun h' j g i C D Q E=>?_;refine wpAny_pyIter_zip j ?_;exact⟨_,_,_,_,v,rfl,c.kept (t':=s1.toks) E,UG (z:=s1.heap.objs.size+4) (TI:=s1.heap.objs.size+2) (TO:=s1.heap.objs.size+3) (i1:=s1.heap.objs.size) (i2:=s1.heap.objs.size+1) (l1:=l) (l2:=n)<|zY _,⟨j,g,⟨_,_,i⟩,C,D⟩,fp,q⟩
   .obtain⟨y,P,t,_⟩:=c.tuple d;obtain⟨A,B,u,_⟩:=c.tuple f;have S:l<s1.heap.objs.size:=by obtain⟨o,e,_⟩:=t;exact A8 e
    have T:n<s1.heap.objs.size:=by obtain⟨o,e,_⟩:=u;exact A8 e
    refine callType_new F.called_zip (by decide) (F.typeCall_zip_2 _ _) (F.newCall_zip_2 _ _) (fun obj=>F.args_object_init_3 obj _ _) F.entry_zip_new aCI ⟨t,u,fun h' E C D g i j=>⟨⟨_,j,rfl⟩,wpAny_pyIter_zip j ?_⟩⟩;exact⟨_,_,_,_,v,rfl,c.kept (t':=s1.toks) E,LO (z:=s1.heap.objs.size+4) (TI:=s1.heap.objs.size+2) (TO:=s1.heap.objs.size+3) (i1:=s1.heap.objs.size) (i2:=s1.heap.objs.size+1) (l1:=l) (l2:=n) (zY _) (B5<|Nat.lt_add_right 3 S)<|B5<|Nat.lt_add_right 3 T,⟨j,g,⟨_,_,i⟩,⟨_,C,rfl,rfl⟩,⟨_,D,rfl,rfl⟩⟩,fp,q⟩
end
def UK(f:AF):AF:=fun b M=>(f b M).bind fun r=>match r.1 with
 |[.d (.list xs),.d (.list a)]=>Z (pZ xs a,r.2)
 |[.d (.tuple xs),.d (.tuple a)]=>Z (pZ xs a,r.2)
 |_=>Y
def IW:∀(xs ys:T3),(pZ xs ys).length=xs.length\/((pZ xs ys).length<xs.length/\(pZ xs ys).length=ys.length)
 |[],_=>.inl rfl
 |_::_,[]=>.inr ⟨Nat.succ_pos _,rfl⟩
 |x::xs,y::ys=>by
  have:=IW xs ys;simp only[pZ,List.length_cons];omega
def WR{tA:TA}{fa:AF}(b:SA K tA fa):SI K (aBC K tA) (UK fa):=by
 intro γ M xs M' l W H σ R G Rs k;obtain⟨⟨ys,M1⟩,h1,l⟩:=aI l;refine b _ _ _ _ h1 W H σ _ G Rs fun vs j H1 e1 A r1=>?_;revert l;dsimp only;split
 .rename_i as bs;intro l;cases l;cases r1 with
  |cons r L=>
   cases L with
   |cons N n=>
    cases n;obtain⟨p,us,rfl,hs,B⟩:=(show ∃a us,_=V.ref a/\SqL K j.F a us/\aK K j.F as us from r);obtain⟨C,f,rfl,g,h⟩:=(show ∃a us,_=V.ref a/\SqL K j.F a us/\aK K j.F bs us from N);refine⟨p,C,us,f,rfl,.inl ⟨A.fh.seq hs,A.fh.seq g,k _ j H1 e1 A fun D M2 E m G2=>?_⟩⟩;have q:SqL K E p us:=G2.fh.seq<|m.ff.seq hs;have s:SqL K E C f:=G2.fh.seq<|m.ff.seq g;refine⟨fun i x O=>?_,us,f,q,s,?_⟩
    .obtain⟨c,d,P,hd,rfl⟩:=xA O;obtain⟨u,I,Q⟩:=Paired.get (gF B) (show(as.map CD.d)[i]?=Z (.d c)by rw[C0,P];rfl);obtain⟨v,J,S⟩:=Paired.get (gF h) (show(bs.map CD.d)[i]?=Z (.d d)by rw[C0,hd];rfl);refine⟨⟨us,f,u,v,q,s,I,J⟩,fun y H3 T=>?_⟩;obtain⟨U,x',y',hn,rfl,rfl,t,w⟩:=T;have:=t us q;rw[I]at this;cases this;have:=w f s;rw[J]at this;cases this;obtain⟨z,X⟩:=G2.lay (o:=.tup [u,v]) hn;refine⟨_,z,X,⟨U,_,rfl,SqT.of aS,?_⟩⟩;exact⟨_,_,rfl,Rep.same z.ff _ _ (show Rep K D.F c u from Q.up m),_,_,rfl,Rep.same z.ff _ _ (show Rep K D.F d v from S.up m),rfl⟩
    .rcases FS (xs:=as) (ys:=bs)with e|e
     .exact .inl (by have:=List.getElem?_eq_none_iff.mp e;rw[B.length]at this;exact List.getElem?_eq_none_iff.mpr this)
     .exact .inr (by have:=List.getElem?_eq_none_iff.mp e;rw[h.length]at this;exact List.getElem?_eq_none_iff.mpr this)
 .rename_i as bs;intro l;cases l;cases r1 with
  |cons r L=>
   cases L with
   |cons N n=>
    cases n;obtain⟨p,us,rfl,hs,B⟩:=(show ∃a us,_=V.ref a/\SqT K j.F a us/\aK K j.F as us from r);obtain⟨C,f,rfl,g,h⟩:=(show ∃a us,_=V.ref a/\SqT K j.F a us/\aK K j.F bs us from N);refine⟨p,C,us,f,rfl,.inr ⟨A.fh.seqT hs,A.fh.seqT g,k _ j H1 e1 A fun D M2 E m G2=>?_⟩⟩;have q:SqT K E p us:=G2.fh.seqT<|m.ff.seqT hs;have s:SqT K E C f:=G2.fh.seqT<|m.ff.seqT g;refine⟨fun i x O=>?_,us,f,q,s,?_⟩
    .obtain⟨c,d,P,hd,rfl⟩:=xA O;obtain⟨u,I,Q⟩:=Paired.get (gF B) (show(as.map CD.d)[i]?=Z (.d c)by rw[C0,P];rfl);obtain⟨v,J,S⟩:=Paired.get (gF h) (show(bs.map CD.d)[i]?=Z (.d d)by rw[C0,hd];rfl);refine⟨⟨us,f,u,v,q,s,I,J⟩,fun y H3 T=>?_⟩;obtain⟨U,x',y',hn,rfl,rfl,t,w⟩:=T;have:=t us q;rw[I]at this;cases this;have:=w f s;rw[J]at this;cases this;obtain⟨z,X⟩:=G2.lay (o:=.tup [u,v]) hn;refine⟨_,z,X,⟨U,_,rfl,SqT.of aS,?_⟩⟩;exact⟨_,_,rfl,Rep.same z.ff _ _ (show Rep K D.F c u from Q.up m),_,_,rfl,Rep.same z.ff _ _ (show Rep K D.F d v from S.up m),rfl⟩
    .have:=IW as bs;rw[<- B.length,<- h.length];exact this
 .intro l;cases l
def aAt{ι:Type}{X:ι->Cx}{a b:Uc}{fa:AF}{pos:Pos}{elts:T7}{x1:Nat}{tpos p:Pos}(d:∀i,(X i).K=K)(hm:∀i,(X i).mg "zip"=Y)(x:MA K X [a,b] fa)(e:∀i,Gl (X i) "zip":=by intro _;rfl):MI K X (.Tuple elts x1 tpos) (.Call (.Name "zip" p) [a,b] [] pos) (UK fa):=by
 obtain⟨t,c,f⟩:=x.ex;exact⟨_,fun i=>by have:=YB (elts:=elts) (x1:=x1) (tpos:=tpos) (p:=p) (pos:=pos) (e i) (hm i) (c i) (by rw[x.st.1,x.st.2.1];rfl) (by rw[x.st.2.1];rfl);rw[d i]at this;exact this,WR f⟩
section
variable{K:Fg}
end
section
variable{K:Fg}
end
section
variable{K:Fg}
end
section
variable{K:Fg}
end
section
variable{K:Fg}
end
section
variable{prog:Ud}{w:World}{A:Ue}{E:T0}{s:Ua}
abbrev TK(prog:Ud)(w:World):HeapKind prog w (Tv Key):=tupleKind<|dM prog w
end
section
variable{prog:Ud}{w:World}{A:Ue}{E:T0}{s:Ua}
abbrev hT(prog:Ud)(w:World)(k:Tv Key):Int:=(TK prog w).hash k
end
section
variable{X:Cx}{N':Tc}{cap:T2}{scope:Scope}
end
section
variable{P:Ud}{w:World}{K:Fg}{mg:Str->Tf}
end
def rJ:FM:=fun x a M=>match x,a with
 |.c i,[.d (.int j)]=>match M[i]? with
  |some (.lst xs)=>if 0<=j/\j<xs.length/\xs.length<=sizeLine then(xs[j.toNat]?).bind fun y=>Z (y,M.set i (.lst (xs.eraseIdx j.toNat)))else Y
  |_=>Y
 |_,_=>Y
def uX{a b:Type}{R:a->b->Prop}:∀{xs:Tv a}{ys:Tv b}(k:Nat),Paired R xs ys->Paired R (xs.eraseIdx k) (ys.eraseIdx k)
 |_,_,_,.nil=>.nil
 |_,_,0,.cons _ t=>t
 |_,_,k+1,.cons r t=>.cons r (uX k t)
def aFn{j:Int}{n:Nat}(a:0<=j)(b:j<n):seqIndex? j n=Z j.toNat:=by
 unfold seqIndex?;simp[a,b];omega
def SJ:PM K TM rJ:=by
 intro x m M z M' h W H v vs Q G c rs k;unfold rJ at h;split at h
 .rename_i i j;split at h
  .rename_i xs b;by_cases ok:0<=j/\j<xs.length/\xs.length<=sizeLine
   .rw[A7 ok]at h;obtain⟨y,d,h⟩:=aI h;cases h;obtain⟨us,e,a⟩:=G.lstAt b;obtain⟨u,f,g⟩:=Paired.get a d;have ln:=Paired.len a;rcases rs with _|⟨l,_|_⟩;have sl:=ok.2.2;rw[E6]at sl;refine⟨W.α i,us,j,j.toNat,u,c.2,by rw[show _=V.int j from l],e,by omega,by omega,aFn ok.1 (by rw[<- ln];exact ok.2.1),f,?_⟩;exact k _ W _ (.refl _) (G.set b (by intro q;cases q) (c':=.lst (xs.eraseIdx j.toNat)) (show bY K W _ _ from uX _ a)) g
   .rw[B0 ok]at h;cases h
  .cases h
 .cases h
def SU{ι:Type}{X:ι->Cx}{o e:Uc}{f:EF}{fa:AF}{apos cpos:Pos}(a:∀i,(X i).K=K)(x:ME K X o f)(y:MA K X [e] fa)(b:∀env:Env,attributeBase o "pop" env (eval o env)=eval o env:=by intro _;rfl)(c:(apos.endLine==cpos.line)=true:=by rfl):
 ME K X (.Call (.Attribute o "pop" apos) [e] [] cpos) (fJ "list" rJ f fa):=by
 obtain⟨t,d,g⟩:=x.ex;obtain⟨u,h,j⟩:=y.ex;refine⟨_,fun i=>?_,CN SJ g j⟩;have:=UV O8 F.slot_list_pop F.type_list_pop RC (d i) (h i) (apos:=apos) (cpos:=cpos) (b _) (by rw[y.st.1];rfl) c (y.st.1 _)<|y.st.2.plain _ _;rw[a i]at this;exact this
def GI:FN:=fun xs M=>match xs with
 |[.d (.int i)]=>Z (.d (.int (if i<0 then -i else i)),M)
 |_=>Y
def MD{X:Cx}:eP X (.builtin "abs") (fun xs H Q=>∃i,xs=[.int i]/\Q (.int (if i<0 then -i else i)) H):=by
 intro pins s c H xs vs Q I a h;obtain⟨i,rfl,q⟩:=h;obtain⟨u,rfl,b⟩:=a.one;obtain⟨t,rfl⟩:=b;exact call_abs_int fun u d=>⟨.int _,H,I.kept fun _ _ e=>e,⟨u,rfl⟩,q⟩
def aCS:PN K (fun xs H Q=>∃i,xs=[.int i]/\Q (.int (if i<0 then -i else i)) H) GI:=by
 intro xs M z M' h W H vs Q G r k;unfold GI at h;split at h
 .rename_i i;cases h;rcases r with _|⟨a,_|_⟩;exact⟨i,by rw[show _=V.int i from a],k _ W H (.refl _) G rfl⟩
 .cases h
def aBx{ι:Type}{X:ι->Cx}:QN K X (.builtin "abs") GI:=⟨_,fun _=>MD,aCS⟩
def aAX(i j k:Nat)(b:TA):TS:=fun D a H=>b a H fun vs c=>∃v w u,vs=[v,w,u]/\D.nx (((a.set i<|Z v).set j (Z w)).set k (Z u)) c
def aAL{X:Cx}{pos:Pos}{i j k:Nat}{x y z:Str}{a b c:Uc}{L:TA}{g l m pt:Pos}{kt k2 pt2}(S:X.calm=true)(n:X.N.Nodup)(hi:X.N[i]?=Z x)(T:X.N[j]?=Z y)(U:X.N[k]?=Z z)(r:i≠j)(t:i≠k)(B:j≠k)
 (M:X.env.scope.names.lookup x=Z .local) (O:X.env.scope.names.lookup y=Z .local) (hz:X.env.scope.names.lookup z=Z .local) (ha:PA X [a,b,c] L)
 (V:swappedStores [.Tuple [.Name x g,.Name y l,.Name z m] kt pt] (.Tuple [a,b,c] k2 pt2) X.env=pure (Z [x,y,z]))
 (hs:swapsWithSole [.Tuple [.Name x g,.Name y l,.Name z m] kt pt] (.Tuple [a,b,c] k2 pt2) pos.line X.env=pure false:=by rfl):
 PS X (.Assign [.Tuple [.Name x g,.Name y l,.Name z m] kt pt] (.Tuple [a,b,c] k2 pt2) pos) (aAX i j k L):=by
 intro pins s P H D I h;rw[exec_Assign_arm];refine A0<|Z1 ?_;rw[hs];refine A0<|A4 ?_;rw[B0 (by decide)];refine A0<|Tuple_ (thn (ha _ pins s P H _ I h) fun us s1 ⟨vs,Q,W,r1,C⟩=>?_);obtain⟨v,w,u,e1,C⟩:=C;subst e1
 obtain⟨u1,d,f,rfl,rv,E,ru⟩:∃u1 d f,us=[u1,d,f]/\RelV v u1/\RelV w d/\RelV u f:=by
  cases r1 with
  |cons p q=>
   cases q with
   |cons p' q'=>
    cases q' with
    |cons F G=>
     cases G;exact⟨_,_,_,rfl,p,p',F⟩
 refine C4 ?_ (by show 3<=sizeLine;decide);have I2:Inv X pins P Q { s1 with heap:=s1.heap.push { cls:=.type "tuple",data:=.seq [u1,d,f].toArray } }:=W.kept (t':=s1.toks) fun b o e=>A1 _ e;rw[V];refine A0<|A4 ?_;show wpAny (model X.prog X.w) X.A (do rule "assign.swapped-stores";let items <- unpackItems (.ref s1.heap.objs.size) 3 Y;assignInOrder [fun v=>bindName X.env z v,fun v=>bindName X.env y v,fun v=>bindName X.env x v] items.reverse;pure Flow.next) _ _ _;refine A0<|Z7<|A0 (unpackItems_tuple (items:=#[u1,d,f]) (I.ok.hd S) (IsTup.new s1.heap _) fun h' J=>?_);have I3:=I2.kept (h':=h') (t':=s1.toks) fun b o e=>J b o (B5<|A8 e) e;show wpAny _ _ (assignInOrder [fun v=>bindName X.env z v,fun v=>bindName X.env y v,fun v=>bindName X.env x v] [f,d,u1] >>= fun _=>pure Flow.next) _ _ _;refine A0<|U4<|Z8<|iB I3 n U (.inl hz) ru (fun s2 I4=>?_) (.inr hz);refine U4<|Z8<|iB I4 n T (.inl O) E (fun s3 I5=>?_) (.inr O);refine U4<|Z8<|iB I5 n hi (.inl M) rv (fun s4 R=>assignInOrder_nil<|A4 ?_) (.inr M);rw[List.set_comm _ _ (F5 r),List.set_comm _ _<|F5 t,List.set_comm _ _<|F5 B]at R;exact⟨_,Q,R,C⟩
def DJ(i j k:Nat)(f:AF):SF:=fun a M=>(f a M).bind fun r=>match r.1 with
 |[x,y,z]=>Z (.nx (((a.set i<|Z x).set j (Z y)).set k (Z z)),r.2)
 |_=>Y
def aAg{i j k:Nat}{c:TA}{fa:AF}(b:SA K c fa):SS K (aAX i j k c) (DJ i j k fa):=by
 intro q M o M' a W H e D G R f;obtain⟨⟨r,M1⟩,g,a⟩:=aI a;refine b _ _ _ _ g W H e _ G R fun vs h l d m n=>?_;rcases n with _|⟨p,_|⟨a2,_|⟨a3,_|_⟩⟩⟩
 .cases a
 .cases a
 .cases a
 .cases a;exact⟨_,_,_,rfl,f h l d m _<|cM.set (cM.set (cM.set (R.up d) i p) j a2) k a3⟩
 .cases a
def XD{ι:Type}{X:ι->Cx}{a b c:Uc}{fa:AF}{pos:Pos}(i j k:Nat){e f g:Str}{h l m pt d:Pos}{n k2:Nat}(s:∀j,(X j).calm=true)(u:∀j,(X j).N.Nodup)(x:MA K X [a,b,c] fa)(o:i≠j:=by decide)(p:i≠k:=by decide)(r:j≠k:=by decide)(hi:∀q,(X q).N[i]?=Z e:=by intro _;rfl)(v:∀q,(X q).N[j]?=Z f:=by intro _;rfl)(w:∀q,(X q).N[k]?=Z g:=by intro _;rfl)
 (y:∀k,(X k).env.scope.names.lookup e=Z .local:=by intro _;rfl) (z:∀k,(X k).env.scope.names.lookup f=Z .local:=by intro _;rfl) (hz:∀k,(X k).env.scope.names.lookup g=Z .local:=by intro _;rfl)
 (A:∀k,swappedStores [.Tuple [.Name e h,.Name f l,.Name g m] n pt] (.Tuple [a,b,c] k2 d) (X k).env=pure (Z [e,f,g]):=by intro _;rfl) (B:∀k,swapsWithSole [.Tuple [.Name e h,.Name f l,.Name g m] n pt] (.Tuple [a,b,c] k2 d) pos.line (X k).env=pure false:=by intro _;rfl):
 MS K X (.Assign [.Tuple [.Name e h,.Name f l,.Name g m] n pt] (.Tuple [a,b,c] k2 d) pos) (DJ i j k fa):=by
 obtain⟨t,C,D⟩:=x.ex;exact⟨_,fun q=>aAL (s q) (u q) (hi q) (v q) (w q) o p r (y q) (z q) (hz q) (C q) (A q)<|B q,aAg D⟩
def US{ι:Type}{X:ι->Cx}{pos:Pos}{k:Nat}{x:Str}{ps:Tc}{F:FN}{p:Pos}(C:∀i,Callee (X i).prog (X i).w (X i).K (X i).mg (X i).base k x ps (spM K F))(a:∀i,cL k (X i).A)(b:∀i,Gl (X i) x:=by intro _;rfl)(hd:(x==("__debug__":Str))=false:=by decide):
 ME K X (.Call (.Name x p) [] [] pos) (aL F aG):=
 ⟨_,fun i=>YJ (C i) (a i) (b i) hd,KL OX⟩
abbrev aBo(l b:Ub)(es:Array DictEntry)(ep:Nat)(its:Ti)(n:Nat)(dd dd2:Th)(sl sl2:Array (Tf)):PySem.Spec:=fun _ R s=>
 s.heap.get? l=Z { cls:=.type "dict",dict:=dd,data:=.dict es ep,slots:=sl }/\s.heap.get? b=Z { cls:=.type "list",dict:=dd2,data:=.seq its n,slots:=sl2 }/\R (.ok (.ret .notImplemented)) s
def CG(l b:Ub)(es:Array DictEntry)(ep:Nat)(its:Ti)(n:Nat)(dd a:Th)(sl c:Array (Tf)):Meets (Builtin.«dict.__ne__» ⟨[.ref l,.ref b],[]⟩) (aBo l b es ep its n dd a sl c):=by
 intro prog w A R s h;obtain⟨k,g,d,m,os⟩:=s;obtain⟨e,i,j⟩:=h;dsimp only at e i j;have f:isSubtype (.type "list") (.type "dict")=pure false:=by rfl
 delta Builtin.«dict.__ne__»
 wp_walk using F8 e,F8 i
 all_goals exact j
def BQ(l b:Ub)(es:Array DictEntry)(ep:Nat)(its:Ti)(n:Nat)(dd a:Th)(sl c:Array (Tf)):Meets (Builtin.«list.__ne__» ⟨[.ref b,.ref l],[]⟩) (aBo l b es ep its n dd a sl c):=by
 intro prog w A R s h;obtain⟨k,g,d,m,os⟩:=s;obtain⟨e,i,j⟩:=h;dsimp only at e i j;have f:isSubtype (.type "dict") (.type "list")=pure false:=by rfl
 delta Builtin.«list.__ne__»
 wp_walk using F8 e,F8 i
 all_goals exact j
def aGm{prog:Ud}{w:World}{A:Ue}{E:T0}{s:Ua}{l b:Ub}{o f:Obj}{es:Array DictEntry}{ep n:Nat}{its:Ti}{Q:T0}(c:s.heap.get? l=Z o)(g:o.cls=.type "dict")(h:o.data=.dict es ep)(a:s.heap.get? b=Z f)(i:f.cls=.type "list")(j:f.data=.seq its n)(p:A.units+64<cLine)(q:Q (.bool true) s):
 wpAny (model prog w) A (compareOp .NotEq (.ref l) (.ref b)) Q E s:=by
 obtain⟨r,t,u,v⟩:=o;obtain⟨x,y,B,C⟩:=f;dsimp only at g h i j;subst g h i j;have ne:l≠b:=fun e=>by subst e;rw[c]at a;have:=U5 Obj.data<|C5 a;cases this
 show wpAny (model prog w) A (richCompare .NotEq (.ref l) (.ref b)) Q E s;refine SeqAt.rc_ne_decline_or (k:=false) (Ta:="dict") (Tb:="list") ⟨_,c,rfl⟩ ⟨_,a,rfl⟩ (by decide) (by rfl) F.slot_dict_ne F.slot_list_ne (fun m d=>?_) (fun m d=>?_) (fun m d=>SeqAt.wpAny_isSame_ref_other' ne c a (by intro z;exact absurd (Value.type.inj z) (by decide)) d) (.inr (by omega)) q
 .exact Z9 F.slot_dict_ne ⟨_,c,rfl⟩ F.entry_dict_ne (F.args_dict_ne_2 _ _) (CG l b _ _ _ _ _ _ _ _) ⟨c,a,d⟩
 .exact Z9 F.slot_list_ne ⟨_,a,rfl⟩ F.entry_list_ne (F.args_list_ne_2 _ _) (BQ l b _ _ _ _ _ _ _ _) ⟨c,a,d⟩
def TL(K:Fg):R2:=fun x y H Q=>∃kvs a,Rep K H (.dict kvs) x/\Rep K H (.list a) y/\Q (.bl true) H
def WY{X:Cx}(a:X.A.units+64<cLine):OpR X (compareOp .NotEq) (TL X.K):=by
 intro pins s n H x y v u Q I b c h;obtain⟨kvs,o,d,e,q⟩:=h;obtain⟨as,ha⟩:=Rep.reads I _ x v d b;obtain⟨bs,f⟩:=Rep.reads I _ y u e c;cases ha with
 |dict g i j _ _=>
  cases f with
  |list k l m _=>exact aGm g i j k l m a ⟨.bl _,H,I,rfl,q⟩
def aDF:F2:=fun x y M=>match x,y with
 |.d (.dict _),.d (.list _)=>Z (.d (.bool true),M)
 |_,_=>Y
def aAa:P2 K (TL K) aDF:=by
 intro x y M z M' h W H v u Q G a b k;unfold aDF at h;split at h
 .rename_i kvs c;cases h;exact⟨kvs,c,Rep.same G.fh _ _ a,Rep.same G.fh _ _ b,k _ W H (.refl _) G rfl⟩
 .cases h
def neZ:F2:=BW (eqX true) aDF
def aBh{ι:Type}{X:ι->Cx}(a:∀i,(X i).K=K)(b:∀i,(X i).A.units+64<cLine):Q2 K X (compareOp .NotEq) neZ:=⟨_,fun i=>(kNe (a i)<|b i).or (show OpR (X i) (compareOp .NotEq) (TL K)by have:=WY (X:=X i)<|b i;rw[a i]at this;exact this),P2.or PB aAa⟩
def RR:EF:=fun _ _=>Y
def RM{ι:Type}{X:ι->Cx}{e:Uc}:ME K X e RR:=⟨fun _ _ _=>False,fun _ _ _ _ _ _ _ h=>h.elim,fun _ _ _ _ h=>by cases h⟩
end L2
section
noncomputable section
namespace Q49
open PySem PySem.Spec PyProof.Rows L2
noncomputable def top(i:Nat):Stmt:=PySem.Challenge.pw_cutstree_k49_behind_refused.main.body.getD i (.Pass ⟨0,0,0,0⟩)
noncomputable def fF:Tv (Str×Bool):=[("NoPlace",true),("NoTree",true),("NoWeight",true)]
noncomputable def mB:Tv (Str×Bool):=[("NoPlace",false),("NoTree",true),("NoWeight",false)]
noncomputable def hW:Tv (Str×Bool):=[("NoPlace",false),("NoTree",false),("NoWeight",true)]
noncomputable def jD:Tv (Str×Bool):=[("NoPlace",true),("NoTree",false),("NoWeight",false)]
def ar0{a:Type}{P:Tv a->Prop}{us:Tv a}(b:us.length=0)(h:P []):P us:=by
 rcases us with _|⟨c,r⟩<;>first|exact h|cases b
def ar1{a:Type}{P:Tv a->Prop}{us:Tv a}(d:us.length=1)(h:∀b,P [b]):P us:=by
 rcases us with _|⟨b,_|⟨c,r⟩⟩<;>first|exact h _|cases d
def ar2{a:Type}{P:Tv a->Prop}{us:Tv a}(e:us.length=2)(h:∀b d,P [b,d]):P us:=by
 rcases us with _|⟨b,_|⟨d,_|⟨c,r⟩⟩⟩<;>first|exact h _ _|cases e
def ar3{a:Type}{P:Tv a->Prop}{us:Tv a}(e:us.length=3)(h:∀b d a2,P [b,d,a2]):P us:=by
 rcases us with _|⟨b,_|⟨d,_|⟨a2,_|⟨c,r⟩⟩⟩⟩<;>first|exact h _ _ _|cases e
def ar4{a:Type}{P:Tv a->Prop}{us:Tv a}(e:us.length=4)(h:∀b d a2 a3,P [b,d,a2,a3]):P us:=by
 rcases us with _|⟨b,_|⟨d,_|⟨a2,_|⟨a3,_|⟨c,r⟩⟩⟩⟩⟩<;>first|exact h _ _ _ _|cases e
def ar5{a:Type}{P:Tv a->Prop}{us:Tv a}(e:us.length=5)(h:∀b d a2 a3 a4,P [b,d,a2,a3,a4]):P us:=by
 rcases us with _|⟨b,_|⟨d,_|⟨a2,_|⟨a3,_|⟨a4,_|⟨c,r⟩⟩⟩⟩⟩⟩<;>first|exact h _ _ _ _ _|cases e
set_option hygiene false
local macro_rules | `(tactic| sleep 990) => `(tactic| exact ⟨rfl, rfl, rfl, by decide +kernel, rfl, by decide +kernel, by decide +kernel⟩)
local macro_rules | `(tactic| sleep 988) => `(tactic| (intro _; exact T.hB.of _))
local macro_rules | `(tactic| sleep 989) => `(tactic| (intro _; dsimp only [kP, eO]; decide +kernel))
local macro_rules | `(tactic| sleep 987) => `(tactic| (intro _; exact XG rfl rfl (by kernel_rfl)))
local macro_rules | `(tactic| sleep 990) => `(tactic| (intro _ _ _ _ _ _ _ hl; apply ar0 hl; intros; rfl))
local macro_rules | `(tactic| sleep 991) => `(tactic| (intro _ _ _ _ _ _ _ hl; apply ar1 hl; intros; rfl))
local macro_rules | `(tactic| sleep 992) => `(tactic| (intro _ _ _ _ _ _ _ hl; apply ar2 hl; intros; rfl))
local macro_rules | `(tactic| sleep 993) => `(tactic| (intro _ _ _ _ _ _ _ hl; apply ar3 hl; intros; rfl))
local macro_rules | `(tactic| sleep 994) => `(tactic| (intro _ _ _ _ _ _ _ hl; apply ar4 hl; intros; rfl))
local macro_rules | `(tactic| sleep 995) => `(tactic| (intro _ _ _ _ _ _ _ hl; apply ar5 hl; intros; rfl))
set_option hygiene true
abbrev nA:Stmt:=top 54
noncomputable abbrev uO:Tc:=["_law_script","_law_k","_law_spare"]
noncomputable abbrev oY:Tc:=["_law_script","_law_k"]
def sc__law_cell:aX uO oY (aJ nA):=by sleep 990
def hJ:SF:=(bA (sIf (gB<|fOp ltI (aE 1)<|aL jS<|aB (aE 0) aG)
 (cV<|fOp ixF (aE 0)<|aE 1)
 cH)
 (bA (bG (fOp bP (fC (.int 80021))<|fOp iW (fOp iW (fC (.int 941))<|aE 1)<|aE 1)<|hName 2)
 (bA (sIf (gB<|fOp gtI (aL jS<|aB (aE 0) aG)<|fC (.int 0))
  (bG (fOp bP (aE 2)<|fOp iW (fOp bV (fOp ixF (aE 0)<|fC (.int 0))<|fC (.int 99991))<|fOp bP (fOp iW (fC (.int 2))<|aE 1)<|fC (.int 5))<|hName 2)
  cH)
 (cV (aE 2)))))
def dD:FN:=fnF 2 3 hJ
abbrev lF:Stmt:=top 55
noncomputable abbrev sL:Tc:=["_law_script","_law_at","_law_many","_law_found","_law_left","_law_k","_law_draw"]
noncomputable abbrev mG:Tc:=["_law_script","_law_at","_law_many"]
def sc__law_draws:aX sL mG (aJ lF):=by sleep 990
def iT:SF:=(bA (oR<|fJ "list" fV (aE 3)<|aB (fOp bV (aE 4)<|fC (.int 10000)) aG)
 (bG (fOp cP (aE 4) (fC (.int 10000))) (hName 4)))
def iZ:SF:=(bA (bG (fOp bV (fOp bP (fOp bP (fOp bP (fOp iW (aE 6)<|fC (.int 48271))<|aL dD<|aB (aE 0)<|aB (fOp bP (fOp bP (aE 1)<|fC (.int 1))<|fOp bV (aE 5)<|fC (.int 30)) aG)<|fOp iW (aE 5)<|aE 5)<|fC (.int 7))<|fC (.int 2147483629))<|hName 6)
 (oR (fJ "list" fV (aE 3) (aB (fOp cP (fOp bV (fOp bP (fOp iW (aE 6) (fC (.int 39373))) (fOp iW (fC (.int 11)) (aE 5))) (fC (.int 2147483647))) (fC (.int 16))) aG))))
def iK:SF:=(bA (bG (rB aG)<|hName 3)
 (bA (bG (aL sI<|aB (fC (.int 0))<|aB (aL dD<|aB (aE 0)<|aB (aE 1) aG) aG)<|hName 4)
 (bA (sIf (gB<|fOp geI (aE 4)<|fOp BO (fC (.int 10))<|fC (.int 18))
  (bA (vQ (jP<|aB (aE 2) aG) (hName 5) iT)
 (bA (sIf (gB<|fOp (eqX false) (aL sumF<|aB (fSl (aE 3) (cF<|fOp cP (aE 2)<|fC (.int 2)) bL) aG)<|fC (.int 0))
  (oR<|fJ "list" iV (aE 3) aG)
  cH)
 (cV (aE 3))))
  cH)
 (bA (bG (fOp bV (fOp iW (fOp bV (aE 4)<|fC (.int 2147483647))<|fC (.int 48271))<|fC (.int 2147483647))<|hName 6)
 (bA (vQ (jP<|aB (aE 2) aG) (hName 5) iZ)
 (cV (aE 3)))))))
def iN:FN:=fnF 3 7 iK
abbrev mZ:Stmt:=top 56
noncomputable abbrev uR:Tc:=["_law_draws_here"]
noncomputable abbrev oB:Tc:=["_law_draws_here"]
def BG:aX uR oB (aJ mZ):=by sleep 990
def kD:SF:=(bA (sIf (gB<|fOp gtI (aL jS<|aB (aE 0) aG)<|fC (.int 0))
 (cV<|fJ "list" MV (aE 0) aG)
 cH)
 (cV (fC (.int 0))))
def bK:FN:=fnF 1 1 kD
abbrev kU:Stmt:=top 59
noncomputable abbrev sN:Tc:=["_law_draws_here","_law_many","_law_left"]
noncomputable abbrev mH:Tc:=["_law_draws_here","_law_many"]
def sc__law_order:aX sN mH (aJ kU):=by sleep 990
def wR:EF:=(fLc [Z 2,Z 0,Y] (jP<|aB (aE 1) aG) (hName 2) fW<|fJ "list" rJ (aE 0)<|aB (fOp bV (aL bK<|aB (aE 1) aG)<|aL jS<|aB (aE 0) aG) aG)
def mV:SF:=(bA (bG (rV true<|aB (aE 1) aG)<|hName 2)
 (cV wR))
def iM:FN:=fnF 2 3 mV
abbrev iY:Stmt:=top 58
noncomputable abbrev qI:Tc:=["_law_draws_here","_law_draw"]
noncomputable abbrev lA:Tc:=["_law_draws_here"]
def sc__law_weight:aX qI lA (aJ iY):=by sleep 990
def nK:EF:=(cA<|aB (aY<|aB (fC (.int 1000000000000))<|aB (fC (.int 1)) aG)<|aB (aY<|aB (fC (.int 1))<|aB (fC (.int 55440)) aG)<|aB (aY<|aB (fC (.int 999999999989))<|aB (fC (.int 55440)) aG)<|aB (aY<|aB (fC (.int 5))<|aB (fC (.int 7)) aG) aG)
def tZ(γ:Ga)(M:Sto):nK γ M=Z (.d (.list [(.tuple [(.int 1000000000000),(.int 1)]),(.tuple [(.int 1),(.int 55440)]),(.tuple [(.int 999999999989),(.int 55440)]),(.tuple [(.int 5),(.int 7)])]),M):=rfl
def nL:EF:=(cA<|aB (aY<|aB (fC (.int 1))<|aB (fC (.int 1)) aG)<|aB (aY<|aB (fC (.int 1))<|aB (fC (.int 1)) aG)<|aB (aY<|aB (fC (.int 2))<|aB (fC (.int 1)) aG)<|aB (aY<|aB (fC (.int 1))<|aB (fC (.int 2)) aG)<|aB (aY<|aB (fC (.int 3))<|aB (fC (.int 4)) aG)<|aB (aY<|aB (fC (.int 0))<|aB (fC (.int 1)) aG)<|aB (aY<|aB (fC (.int 1))<|aB (fC (.int 1)) aG)<|aB (aY<|aB (fC (.int 3))<|aB (fC (.int 1)) aG) aG)
def tX(γ:Ga)(M:Sto):nL γ M=Z (.d (.list [(.tuple [(.int 1),(.int 1)]),(.tuple [(.int 1),(.int 1)]),(.tuple [(.int 2),(.int 1)]),(.tuple [(.int 1),(.int 2)]),(.tuple [(.int 3),(.int 4)]),(.tuple [(.int 0),(.int 1)]),(.tuple [(.int 1),(.int 1)]),(.tuple [(.int 3),(.int 1)])]),M):=rfl
def gU:SF:=(bA (bG (aL bK<|aB (aE 0) aG)<|hName 1)
 (bA (sIf (gB<|fOp (eqX false) (fOp bV (aE 1)<|fC (.int 30))<|fC (.int 0))
  (cV<|fOp ixF nK<|fOp bV (fOp cP (aE 1)<|fC (.int 30))<|fC (.int 4))
  cH)
 (cV (fOp ixF nL (fOp bV (fOp cP (aE 1) (fC (.int 30))) (fC (.int 8)))))))
def eD:FN:=fnF 1 2 gU
abbrev lD:Stmt:=top 60
noncomputable abbrev tE:Tc:=["_law_draws_here","_law_many","_law_kind","_law_middle","_law_found","_law_i","_law_j","_law_draw"]
noncomputable abbrev nG:Tc:=["_law_draws_here","_law_many"]
def sc__law_pairs:aX tE nG (aJ lD):=by sleep 990
def oI:EF:=(MB [Z 1,Y] (jP<|aB (aE 1) aG) (hName 1) fW<|aY<|aB (aE 1)<|aB (fOp bV (fOp bP (aE 1)<|fC (.int 1))<|aE 0) aG)
def oU:EF:=(fLc [Z 3,Z 1,Y] (jP<|aB (aE 1) aG) (hName 2) fW<|aY<|aB (aE 2)<|aB (fOp ixF (cA<|aB (fOp bP (aE 2)<|fC (.int 1))<|aB (fC (.int 0)) aG)<|aL LM<|aB (fOr (fOp (eqX false) (aE 2)<|fOp fH (aE 0)<|fC (.int 1))<|fOp (eqX false) (aE 2)<|fOp fH (aE 1)<|fC (.int 1)) aG) aG)
def oP:EF:=(MB [Y] (oF<|aB (fC (.int 1))<|aB (aE 1) aG) (hName 0) fW<|aY<|aB (fC (.int 0))<|aB (aE 0) aG)
def pM:EF:=(fLc [Y] (oF<|aB (fC (.int 1))<|aB (aE 1) aG) (hName 0) fW<|aY<|aB (fOp cP (aE 0)<|fC (.int 2))<|aB (aE 0) aG)
def oE:EF:=(fLc [Y] (jP<|aB (fOp fH (aE 1)<|fC (.int 2)) aG) (hName 0) fW<|aY<|aB (aE 0)<|aB (fOp bP (aE 0)<|fC (.int 2)) aG)
def oX:EF:=(fLc [Y] (jP<|aB (fOp cP (aE 1)<|fC (.int 2)) aG) (hName 0) fW<|aY<|aB (fOp iW (fC (.int 2))<|aE 0)<|aB (fOp bP (fOp iW (fC (.int 2))<|aE 0)<|fC (.int 1)) aG)
def gG:SF:=(bA (bG (aL bK<|aB (aE 0) aG)<|hName 7)
 (sIf (gOr (wZ (gB<|fOp (eqX false) (aE 2)<|fC (.int 5))<|gB<|fOp (eqX false) (fOp ltI (aE 5)<|aE 3)<|fOp ltI (aE 6)<|aE 3)<|gOr (wZ (gB<|fOp (eqX false) (aE 2)<|fC (.int 6))<|gB<|fOp (eqX false) (fOp bV (fOp bP (aE 5)<|aE 6)<|fC (.int 2))<|fC (.int 0))<|gB<|fOp (eqX false) (fOp bV (aE 7)<|fC (.int 3))<|fC (.int 0))
  (oR<|fJ "list" fV (aE 4)<|aB (aY<|aB (aE 5)<|aB (aE 6) aG) aG)
  cH))
def jQ:SF:=(vQ (oF<|aB (fOp bP (aE 5)<|fC (.int 1))<|aB (aE 1) aG) (hName 6) gG)
def sE:SF:=(bA (bG (fOp bV (aL bK<|aB (aE 0) aG)<|fC (.int 8))<|hName 2)
 (bA (bG (fOp bP (fC (.int 1))<|fOp cP (aE 1)<|fC (.int 2))<|hName 3)
 (bA (sIf (gB<|fOp (eqX false) (aE 2)<|fC (.int 0))
  (cV oI)
  cH)
 (bA (sIf (gB<|fOp (eqX false) (aE 2)<|fC (.int 1))
  (cV<|fOp yB oU<|cA<|aB (aY<|aB (fC (.int 0))<|aB (fOp bV (aE 3)<|aE 1) aG) aG)
  cH)
 (bA (sIf (gB<|fOp (eqX false) (aE 2)<|fC (.int 2))
  (cV oP)
  cH)
 (bA (sIf (gB<|fOp (eqX false) (aE 2)<|fC (.int 3))
  (cV<|fOp yB pM<|cA<|aB (aY<|aB (fC (.int 0))<|aB (fOp fH (aE 1)<|fC (.int 1)) aG) aG)
  cH)
 (bA (sIf (gB<|fOp (eqX false) (aE 2)<|fC (.int 4))
  (cV<|fOp yB oE oX)
  cH)
 (bA (bG (rB aG)<|hName 4)
 (bA (vQ (jP<|aB (aE 1) aG) (hName 5) jQ)
 (cV (aE 4)))))))))))
def eX:FN:=fnF 2 8 sE
abbrev nR:Stmt:=top 61
noncomputable abbrev xN:Tc:=["_law_draws_here","_law_least","_law_most","_law_many","_law_order_here","_law_alike","_law_one","_law_ties","_law_i","_law_j","_law_weight_here"]
noncomputable abbrev rN:Tc:=["_law_draws_here","_law_least","_law_most"]
def sc__law_web:aX xN rN (aJ nR):=by sleep 990
def iR:SF:=(bA (bG (aE 6)<|hName 10)
 (bA (sIf (gB<|fOp gtI (aE 5)<|fC (.int 0))
  (bG (aL eD<|aB (aE 0) aG)<|hName 10)
  cH)
 (sIf (gB<|fOp (eqX true) (aE 8)<|aE 9)
  (rO (aE 7) (qZ<|aB (aL yU<|aB (fOp ixF (aE 4)<|aE 8)<|aB (fOp ixF (aE 4)<|aE 9) aG)<|aB (aL sI<|aB (fOp ixF (aE 4)<|aE 8)<|aB (fOp ixF (aE 4)<|aE 9) aG) aG)<|aE 10)
  cH)))
def qO:SF:=(bA (bG (fOp bP (aE 1)<|fOp bV (aL bK<|aB (aE 0) aG)<|fOp bP (fOp fH (aE 2)<|aE 1)<|fC (.int 1))<|hName 3)
 (bA (bG (aL iM<|aB (aE 0)<|aB (aE 3) aG)<|hName 4)
 (bA (bG (fOp bV (aL bK<|aB (aE 0) aG)<|fC (.int 3))<|hName 5)
 (bA (bG (aL eD<|aB (aE 0) aG)<|hName 6)
 (bA (bG tW<|hName 7)
 (bA (vQ (dP<|mS<|aL eX<|aB (aE 0)<|aB (aE 3) aG) (lE 2<|bT (hName 8)<|bT (hName 9) lJ) iR)
 (cV (FI (aB (aE 3) (aB (aE 7) aG))))))))))
def jB:FN:=fnF 3 11 qO
abbrev pE:Stmt:=top 7
noncomputable abbrev wK:Tc:=["thing"]
noncomputable abbrev qW:Tc:=["thing"]
def FO:aX wK qW (aJ pE):=by sleep 990
def yK:SF:=(cV<|mM (VD "int"<|aE 0)<|aAb<|VD "bool"<|aE 0)
def fO:FN:=fnF 1 1 yK
abbrev uC:Stmt:=top 8
noncomputable abbrev DS:Tc:=["thing"]
noncomputable abbrev wM:Tc:=["thing"]
def NY:aX DS wM (aJ uC):=by sleep 990
def EN:SF:=(cV<|IX "list" "tuple"<|aE 0)
def sW:FN:=fnF 1 1 EN
abbrev tL:Stmt:=top 22
noncomputable abbrev FZ:Tc:=["one","other"]
noncomputable abbrev wV:Tc:=["one","other"]
def sc_common:aX FZ wV (aJ tL):=by sleep 990
def qU:SF:=(uF (GR<|aE 1)<|VO 0 1<|aB (aE 1)<|aB (fOp bV (aE 0)<|aE 1) aG)
def FG:SF:=(bA qU
 (cV (aE 0)))
def sR:FN:=fnF 2 2 FG
abbrev mY:Stmt:=top 9
noncomputable abbrev vC:Tc:=["thing","length"]
noncomputable abbrev pC:Tc:=["thing","length"]
def BH:aX vC pC (aJ mY):=by sleep 990
def uZ:SF:=(cV<|mM (aL sW<|aB (aE 0) aG)<|fOp (eqX false) (aL jS<|aB (aE 0) aG)<|aE 1)
def gX:FN:=fnF 2 2 uZ
abbrev eE:Stmt:=top 21
noncomputable abbrev gW:Tc:=["thing"]
noncomputable abbrev eS:Tc:=["thing"]
def nN:aX gW eS (aJ eE):=by sleep 990
def cN:SF:=(bA (sIf (gOr (nP<|gB<|aL gX<|aB (aE 0)<|aB (fC (.int 2)) aG)<|gOr (nP<|gB<|aL fO<|aB (fOp ixF (aE 0)<|fC (.int 0)) aG)<|nP<|gB<|aL fO<|aB (fOp ixF (aE 0)<|fC (.int 1)) aG)
 (cV<|fC (.bool false))
 cH)
 (cV (mM (fOp geI (fOp ixF (aE 0) (fC (.int 0))) (fC (.int 0))) (fOp geI (fOp ixF (aE 0) (fC (.int 1))) (fC (.int 1))))))
def bN:FN:=fnF 1 1 cN
abbrev jO:Stmt:=top 20
noncomputable abbrev qM:Tc:=["thing"]
noncomputable abbrev kT:Tc:=["thing"]
def xD:aX qM kT (aJ jO):=by sleep 990
def eC:SF:=(cV<|mM (aL bN<|aB (aE 0) aG)<|mM (fOp (eqX false) (fOp bV (fC (.int 55440))<|fOp ixF (aE 0)<|fC (.int 1))<|fC (.int 0))<|fOp (eqX false) (aL sR<|aB (fOp ixF (aE 0)<|fC (.int 0))<|aB (fOp ixF (aE 0)<|fC (.int 1)) aG)<|fC (.int 1))
def cW:FN:=fnF 1 1 eC
abbrev nF:Stmt:=top 19
noncomputable abbrev uQ:Tc:=["thing"]
noncomputable abbrev oO:Tc:=["thing"]
def BS:aX uQ oO (aJ nF):=by sleep 990
def hX:SF:=(cV<|mM (aL cW<|aB (aE 0) aG)<|fOp leI (fOp ixF (aE 0)<|fC (.int 0))<|fC (.int 1000000000000))
def dU:FN:=fnF 1 1 hX
abbrev oV:Stmt:=top 10
noncomputable abbrev xU:Tc:=["many","thing"]
noncomputable abbrev rT:Tc:=["many","thing"]
def DX:aX xU rT (aJ oV):=by sleep 990
def mJ:SF:=(cV<|mM (aL fO<|aB (aE 1) aG)<|CT leI ltI (fC (.int 0)) (aE 1)<|aE 0)
def gQ:FN:=fnF 2 2 mJ
abbrev eU:Stmt:=top 11
noncomputable abbrev iI:Tc:=["many","i","j"]
noncomputable abbrev fB:Tc:=["many","i","j"]
def pB:aX iI fB (aJ eU):=by sleep 990
def cT:SF:=(cV<|mM (aL gQ<|aB (aE 0)<|aB (aE 1) aG)<|mM (aL gQ<|aB (aE 0)<|aB (aE 2) aG)<|fOp (eqX true) (aE 1)<|aE 2)
def bS:FN:=fnF 3 3 cT
abbrev eV:Stmt:=top 13
noncomputable abbrev iJ:Tc:=["many","thing"]
noncomputable abbrev fA:Tc:=["many","thing"]
def oA:aX iJ fA (aJ eV):=by sleep 990
def bM:SF:=(cV<|mM (aL gX<|aB (aE 1)<|aB (fC (.int 3)) aG)<|mM (aL bS<|aB (aE 0)<|aB (fOp ixF (aE 1)<|fC (.int 0))<|aB (fOp ixF (aE 1)<|fC (.int 1)) aG)<|fOp ltI (fOp ixF (aE 1)<|fC (.int 0))<|fOp ixF (aE 1)<|fC (.int 1))
def aR:FN:=fnF 2 2 bM
abbrev tO:Stmt:=top 31
noncomputable abbrev DM:Tc:=["many","thing"]
noncomputable abbrev yN:Tc:=["many","thing"]
def LS:aX DM yN (aJ tO):=by sleep 990
def lR:SF:=(cV<|mM (aL aR<|aB (aE 0)<|aB (aE 1) aG)<|aL dU<|aB (fOp ixF (aE 1)<|fC (.int 2)) aG)
def jF:FN:=fnF 2 2 lR
abbrev nD:Stmt:=top 30
noncomputable abbrev vA:Tc:=["many","ties","weights","at","row"]
noncomputable abbrev pS:Tc:=["many","ties"]
def sc_kept_ties:aX vA pS (aJ nD):=by sleep 990
def fK:SF:=(bA (sIf (gOr (nP<|gB<|aL jF<|aB (aE 0)<|aB (aE 4) aG)<|gB<|YI false (qZ<|aB (fOp ixF (aE 4)<|fC (.int 0))<|aB (fOp ixF (aE 4)<|fC (.int 1)) aG)<|aE 2)
 mU
 cH)
 (rO (aE 2) (qZ (aB (fOp ixF (aE 4) (fC (.int 0))) (aB (fOp ixF (aE 4) (fC (.int 1))) aG))) (aL jK (aB (fOp ixF (aE 4) (fC (.int 2))) aG))))
def kZ:EF:=(fLc [Y,Y,Y] (dP<|tY<|aE 2) (lE 2<|bT (lE 2<|bT (hName 0)<|bT (hName 1) lJ)<|bT (hName 2) lJ) (gB<|fOp gtI (fOp ixF (aE 2)<|fC (.int 0))<|fC (.int 0))<|aY<|aB (aE 0)<|aB (aE 1)<|aB (aE 2) aG)
def nU:SF:=(bA (sIf (nP<|gB<|aL sW<|aB (aE 1) aG)
 mU
 cH)
 (bA (bG tW<|hName 2)
 (bA (vQ (DK<|aB (aE 1) aG) (lE 2<|bT (hName 3)<|bT (hName 4) lJ) fK)
 (cV (aL jK (aB kZ aG))))))
def hV:FN:=fnF 2 5 nU
abbrev fZ:Stmt:=inClass (top 29) 0
noncomputable abbrev vF:Tc:=["self","many","ties"]
noncomputable abbrev oH:Tc:=["self","many","ties"]
def BY:aX vF oH (aJ fZ):=by sleep 990
def lK:EF:=(fDc (.dt []) [Y,Y,Y] (dP<|vN "Web" "ties"<|aE 0) (lE 3<|bT (hName 0)<|bT (hName 1)<|bT (hName 2) lJ) fW (qZ<|aB (aE 0)<|aB (aE 1) aG)<|aE 2)
def pQ:SF:=(bA (sIf (gOr (nP<|gB<|aL fO<|aB (aE 1) aG)<|gOr (gB<|fOp ltI (aE 1)<|fC (.int 1))<|gB<|fOp gtI (aE 1)<|fC (.int 40))
 mU
 cH)
 (bA (zS "Web" "many" (aE 0)<|aE 1)
 (bA (zS "Web" "ties" (aE 0)<|aL hV<|aB (aE 1)<|aB (aE 2) aG)
 (zS "Web" "weights" (aE 0) lK))))
def fU:FN:=fnF 3 3 pQ
abbrev mX:Stmt:=top 62
noncomputable abbrev uJ:Tc:=["_law_draws_here","_law_ties","_law_rows_here"]
noncomputable abbrev oM:Tc:=["_law_draws_here","_law_ties"]
def sc__law_rows:aX uJ oM (aJ mX):=by sleep 990
def kR:EF:=(fLc [Z 1,Y,Y] (JH<|aE 1) (lE 2<|bT (hName 1)<|bT (hName 2) lJ) fW<|aY<|aB (aE 1)<|aB (aE 2)<|aB (JC (aE 0)<|qZ<|aB (aE 1)<|aB (aE 2) aG) aG)
def qF:EF:=(fLc [Y,Y,Y] (dP<|aE 2) (lE 3<|bT (hName 0)<|bT (hName 1)<|bT (hName 2) lJ) fW<|cA<|aB (aE 0)<|aB (aE 1)<|aB (aL GN<|aB (aE 2) aG) aG)
def uK:SF:=(bA (bG kR<|hName 2)
 (bA (sIf (gB<|fOp (eqX false) (fOp bV (aL bK<|aB (aE 0) aG)<|fC (.int 2))<|fC (.int 0))
  (cV qF)
  cH)
 (cV (aL jK (aB (aE 2) aG)))))
def kI:FN:=fnF 2 3 uK
abbrev gA:Stmt:=top 66
noncomputable abbrev lW:Tc:=["_law_many","_law_some"]
noncomputable abbrev gS:Tc:=["_law_many"]
def sc__law_no_places:aX lW gS (aJ gA):=by sleep 990
def rM:EF:=(aY<|aB (fC (.int 0))<|aB (cA aG) aG)
def rK:EF:=(aY<|aB (aY<|aB (fC (.int 0)) aG)<|aB (fC (.int 1)) aG)
def qT:EF:=(aY<|aB (fC (.int 1))<|aB (fC (.str "0")) aG)
def rE:EF:=(aY<|aB (fC .none)<|aB (fC (.int 1)) aG)
def rS:EF:=(aY<|aB (fC (.int 0))<|aB (fC (.bool true)) aG)
def rR:EF:=(aY<|aB (fC (.bool true))<|aB (fC (.int 0)) aG)
def rQ:EF:=(aY<|aB (fUn jM<|fC (.int 1))<|aB (fC (.int 0)) aG)
def rH:EF:=(aY<|aB (fC (.int 1))<|aB (fC (.int 1)) aG)
def rG:EF:=(aY<|aB (fC (.int 0))<|aB (fC (.int 0)) aG)
def rL:EF:=(aY<|aB (fC (.str "a"))<|aB (fC (.str "b")) aG)
def qD:EF:=(aY<|aB (fC (.bool false))<|aB (fC (.int 1)) aG)
def pY:EF:=(aY<|aB (fOp BO (fC (.int 10))<|fC (.int 30))<|aB (fC (.int 0)) aG)
def qE:EF:=(aY<|aB qV<|aB (fC (.int 1)) aG)
def lQ:SF:=(bA (bG (cA<|aB rG<|aB rH<|aB rQ<|aB (aY<|aB (fC (.int 0))<|aB (aE 0) aG)<|aB rR<|aB rS<|aB rE<|aB qT<|aB rK<|aB rM aG)<|hName 1)
 (cV (fOp bP (aE 1) (cA (aB qE (aB pY (aB (aY (aB (fC (.int 0)) (aB (fUn jM (fOp BO (fC (.int 10)) (fC (.int 30)))) aG))) (aB qD (aB rL aG)))))))))
def eW:FN:=fnF 1 2 lQ
abbrev fM:Stmt:=top 67
noncomputable abbrev kQ:Tc:=["_law_some"]
noncomputable abbrev fX:Tc:=[]
def sc__law_no_weights:aX kQ fX (aJ fM):=by sleep 990
def qA:EF:=(cA<|aB (aY<|aB (fC (.int 2))<|aB (fC (.int 2)) aG)<|aB (aY<|aB (fC (.int 0))<|aB (fC (.int 2)) aG)<|aB (aY<|aB (fC (.int 1))<|aB (fC (.int 13)) aG)<|aB (aY<|aB (fC (.int 1000000000001))<|aB (fC (.int 1)) aG)<|aB (aY<|aB (fUn jM<|fC (.int 1))<|aB (fC (.int 1)) aG)<|aB (aY<|aB (fC (.int 1))<|aB (fC (.int 0)) aG)<|aB (aY<|aB (fC (.int 1))<|aB (fUn jM<|fC (.int 1)) aG)<|aB (aY<|aB (fC (.bool true))<|aB (fC (.int 1)) aG)<|aB (aY<|aB (fC (.int 1))<|aB (fC (.bool true)) aG)<|aB (fC (.int 1))<|aB (fC .none)<|aB (fC (.str "1/2")) aG)
def pX:EF:=(cA<|aB (aY<|aB (fC (.int 1)) aG)<|aB (aY<|aB (fC (.int 1))<|aB (fC (.int 1))<|aB (fC (.int 1)) aG)<|aB (aY<|aB (aY<|aB (fC (.int 1))<|aB (fC (.int 1)) aG) aG)<|aB qV<|aB (aY<|aB (fC (.int 1))<|aB (fC (.int 110880)) aG)<|aB (aY<|aB (fOp BO (fC (.int 10))<|fC (.int 30))<|aB (fC (.int 1)) aG)<|aB (cA<|aB (fC (.int 1))<|aB (fC .none) aG)<|aB (fC (.bool false)) aG)
def jV:SF:=(bA (bG qA<|hName 0)
 (cV (fOp bP (aE 0) pX)))
def eI:FN:=fnF 0 1 jV
abbrev gN:Stmt:=top 68
noncomputable abbrev nM:Tc:=["_law_many","_law_star","_law_some"]
noncomputable abbrev iF:Tc:=["_law_many"]
def sc__law_no_trees:aX nM iF (aJ gN):=by sleep 990
def sY:EF:=(aY<|aB (fC (.int 1))<|aB (fC (.int 1)) aG)
def kO:EF:=(fLc [Y] (oF<|aB (fC (.int 1))<|aB (aE 0) aG) (hName 0) fW<|aY<|aB (fC (.int 0))<|aB (aE 0)<|aB sY aG)
def jW:EF:=(aY<|aB (fC (.int 1))<|aB (fC (.int 1)) aG)
def jU:EF:=(aY<|aB (fC (.int 1))<|aB (fC (.int 1)) aG)
def kA:EF:=(cA<|aB (fC (.str "tree")) aG)
def eK:EF:=(aY<|aB (fC (.int 2))<|aB (fC (.int 2)) aG)
def eN:EF:=(aY<|aB (fC (.int 1))<|aB (fC (.int 1)) aG)
def kB:EF:=(cA<|aB (aY<|aB (fC (.int 0))<|aB (fC (.bool true))<|aB (aY<|aB (fC (.int 1))<|aB (fC (.int 1)) aG) aG) aG)
def sZ:EF:=(cA<|aB (aY<|aB (fC (.int 0))<|aB (fC (.bool true))<|aB (aY<|aB (fC (.int 1))<|aB (fC (.int 1)) aG) aG) aG)
def kK:EF:=(fLc [Z 1,Z 0,Y] (dP<|aE 2) (hName 2) (wZ (gB<|fOp neZ (aE 2)<|aE 0)<|gOr (gB<|fOp gtI (aE 1)<|fC (.int 2))<|gB<|fOp neZ (aE 2) sZ)<|aE 2)
def iE:SF:=(bA (bG kO<|hName 1)
 (bA (bG (cA<|aB (fSl (aE 1) (cF<|fC (.int 1)) bL)<|aB (fOp bP (aE 1)<|cA<|aB (aY<|aB (fC (.int 0))<|aB (aE 0)<|aB jU aG) aG)<|aB (fOp bP (fSl (aE 1) (cF<|fC (.int 1)) bL)<|fSl (aE 1) bL<|cF<|fC (.int 1))<|aB (fOp bP (fSl (aE 1) bL<|cF<|fUn jM<|fC (.int 1))<|cA<|aB (aY<|aB (fOp fH (aE 0)<|fC (.int 1))<|aB (fC (.int 0))<|aB jW aG) aG)<|aB (fC .none)<|aB (fC (.int 5)) aG)<|hName 2)
 (bA (bG (fOp bP (aE 2) kA)<|hName 2)
 (bA (bG (fOp bP (aE 2)<|cA<|aB qV<|aB (fOp bP (fSl (aE 1) bL<|cF<|fUn jM<|fC (.int 1))<|cA<|aB (aY<|aB (fC (.int 0))<|aB (aE 0)<|aB eN aG) aG)<|aB (fOp bP (fSl (aE 1) bL<|cF<|fUn jM<|fC (.int 1))<|cA<|aB (aY<|aB (fC (.int 0))<|aB (fOp fH (aE 0)<|fC (.int 1))<|aB eK aG) aG)<|aB (fC (.bool true))<|aB (fOp SM (rB<|aB (fC .none) aG)<|fOp fH (aE 0)<|fC (.int 1)) aG)<|hName 2)
 (bA (bG (fOp bP (aE 2)<|cA<|aB (fOp bP (fSl (aE 1) bL<|cF<|fUn jM<|fC (.int 1))<|cA<|aB (aY<|aB (fC (.int 0))<|aB (fOp fH (aE 0)<|fC (.int 1)) aG) aG)<|aB (fOp bP (fSl (aE 1) bL<|cF<|fUn jM<|fC (.int 1))<|fSl kB bL<|cF<|fC (.int 1))<|aB (fOp bP (fSl (aE 1) bL<|cF<|fUn jM<|fC (.int 1))<|cA<|aB (aY<|aB (fC (.int 0))<|aB (fOp fH (aE 0)<|fC (.int 1))<|aB (fC (.int 1)) aG) aG) aG)<|hName 2)
 (cV kK))))))
def dB:FN:=fnF 1 3 iE
abbrev dQ:Stmt:=top 12
noncomputable abbrev fY:Tc:=["many","i","j"]
noncomputable abbrev dY:Tc:=["many","i","j"]
def mC:aX fY dY (aJ dQ):=by sleep 990
def cU:SFX:=(MQ (nP<|gB<|aL bS<|aB (aE 0)<|aB (aE 1)<|aB (aE 2) aG)
 (tJ "NoPlace")
 (liS cH))
def bQ:FX:=fnX 3 3 cU
abbrev eZ:Stmt:=top 44
noncomputable abbrev jH:Tc:=["web","i","j","weight"]
noncomputable abbrev fR:Tc:=["web","i","j","weight"]
def qB:aX jH fR (aJ eZ):=by sleep 990
def dA:SFX:=(zX (pH<|vG bQ<|liA<|aB (vN "Web" "many"<|aE 0)<|aB (aE 1)<|aB (aE 2) aG)
 (MQ (nP<|gB<|aL dU<|aB (aE 3) aG)
  (tJ "NoWeight")
  (liS cH)))
def bO:FX:=fnX 4 4 dA
abbrev nB:Stmt:=top 18
noncomputable abbrev vD:Tc:=["thing"]
noncomputable abbrev nT:Tc:=["thing"]
def CB:aX vD nT (aJ nB):=by sleep 990
def jT:SF:=(cV<|mM (aL bN<|aB (aE 0) aG)<|fOp (eqX false) (aL sR<|aB (fOp ixF (aE 0)<|fC (.int 0))<|aB (fOp ixF (aE 0)<|fC (.int 1)) aG)<|fC (.int 1))
def fT:FN:=fnF 1 1 jT
abbrev mR:Stmt:=top 14
noncomputable abbrev uV:Tc:=["row"]
noncomputable abbrev nZ:Tc:=["row"]
def DA:aX uV nZ (aJ mR):=by sleep 990
def zI:EF:=(fLc [Y,Y] (UK<|aB (aE 0)<|aB (fSl (aE 0) (cF<|fC (.int 1)) bL) aG) (lE 2<|bT (hName 0)<|bT (hName 1) lJ) fW<|fOp ltX (aE 0)<|aE 1)
def uP:SF:=(cV<|aL BU<|aB zI aG)
def jY:FN:=fnF 1 1 uP
abbrev qX:Stmt:=top 33
noncomputable abbrev AH:Tc:=["many","tree"]
noncomputable abbrev uB:Tc:=["many","tree"]
def GS:aX AH uB (aJ qX):=by sleep 990
def iC:EF:=(fLc [Z 0,Y] (dP<|aE 1) (hName 1) fW<|mM (aL aR<|aB (aE 0)<|aB (aE 1) aG)<|aL fT<|aB (fOp ixF (aE 1)<|fC (.int 2)) aG)
def uW:EF:=(fLc [Y] (dP<|aE 1) (hName 0) fW<|aY<|aB (fOp ixF (aE 0)<|fC (.int 0))<|aB (fOp ixF (aE 0)<|fC (.int 1)) aG)
def lL:SF:=(bA (sIf (gOr (gB<|fOp gtI (aE 0)<|fC (.int 40))<|nP<|gB<|aL gX<|aB (aE 1)<|aB (fOp fH (aE 0)<|fC (.int 1)) aG)
 (cV<|fC (.bool false))
 cH)
 (bA (sIf (nP<|gB<|aL BU<|aB iC aG)
  (cV<|fC (.bool false))
  cH)
 (cV (mM (aL jY (aB uW aG)) RR))))
def cK:FN:=fnF 2 2 lL
abbrev eQ:Stmt:=top 36
noncomputable abbrev iG:Tc:=["web","tree"]
noncomputable abbrev eY:Tc:=["web","tree"]
def oG:aX iG eY (aJ eQ):=by sleep 990
def fE:SFX:=(MQ (nP<|gB<|aL cK<|aB (vN "Web" "many"<|aE 0)<|aB (aE 1) aG)
 (tJ "NoTree")
 (liS cH))
def dJ:FX:=fnX 2 2 fE
abbrev gH:Stmt:=top 47
noncomputable abbrev lP:Tc:=["web","tree","i","j","weight"]
noncomputable abbrev gM:Tc:=["web","tree","i","j","weight"]
def tH:aX lP gM (aJ gH):=by sleep 990
def dN:SFX:=(zX (pH<|vG bO<|liA<|aB (aE 0)<|aB (aE 2)<|aB (aE 3)<|aB (aE 4) aG)
 (pH (vG dJ (liA (aB (aE 0) (aB (aE 1) aG))))))
def cY:FX:=fnX 5 5 dN
abbrev jG:Stmt:=top 46
noncomputable abbrev qK:Tc:=["web","tree","i","j","weight","before","between"]
noncomputable abbrev lC:Tc:=["web","tree","i","j","weight"]
def wO:aX qK lC (aJ jG):=by sleep 990
def lH:SFX:=(zX (pH<|vG cY<|liA<|aB (aE 0)<|aB (aE 1)<|aB (aE 2)<|aB (aE 3)<|aB (aE 4) aG)
 (liS (bA mU (bA mU (bA mU (bA mU mU))))))
def gV:FX:=fnX 5 7 lH
abbrev mI:Stmt:=top 69
noncomputable abbrev vB:Tc:=["_law_web_here","_law_tree","_law_ends_here","_law_weight_here","e"]
noncomputable abbrev oW:Tc:=["_law_web_here","_law_tree","_law_ends_here","_law_weight_here"]
def sc__law_told:aX vB oW (aJ mI):=by sleep 990
def kY:SF:=(cV<|cA<|aB (yS jD (Z false)<|aE 4)<|aB (yS hW (Z false)<|aE 4)<|aB (yS mB (Z false)<|aE 4)<|aB (yS fF (Z false)<|aE 4) aG)
def kW:SFX:=(pH<|vG gV<|liA<|aB (aE 0)<|aB (aE 1)<|aB (fOp ixF (aE 2)<|fC (.int 0))<|aB (fOp ixF (aE 2)<|fC (.int 1))<|aB (aE 3) aG)
def uL:SF:=(bA (MM kW [⟨[("NoPlace",true),("NoTree",true),("NoWeight",true)],(Z 4),kY⟩])
 (cV (cA aG)))
def dC:FN:=fnF 4 5 uL
abbrev GO:Stmt:=top 70
noncomputable abbrev aBN:Tc:=["_law_script","_law_draws_here","_law_many","_law_ties","_law_web_here","_law_star","_law_cell_here","_law_way","_law_rest","_law_ends_here","_law_weight_here","_law_tree","_law_trees","_law_first","_law_due","_law_alone"]
noncomputable abbrev aAW:Tc:=["_law_script"]
def sc_law:aX aBN aAW (aJ GO):=by sleep 990
def IV:EF:=(aY<|aB (fC (.int 1))<|aB (fC (.int 1)) aG)
def CV:EF:=(fLc [Y] (oF<|aB (fC (.int 1))<|aB (aE 2) aG) (hName 0) fW<|aY<|aB (fC (.int 0))<|aB (aE 0)<|aB IV aG)
def BE:EF:=(fLc [Z 0,Y] (oF<|aB (fC (.int 33))<|aB (fC (.int 36)) aG) (hName 1) fW<|aL dD<|aB (aE 0)<|aB (aE 1) aG)
def BM:EF:=(aY<|aB (fC (.int 3))<|aB (fC (.int 4)) aG)
def QB(γ:Ga)(M:Sto):BM γ M=Z (.d (.tuple [(.int 3),(.int 4)]),M):=rfl
def wG:SF:=(bA (bG (fOp bP (fC (.int 1))<|fOp bV (aL GI<|aB (aE 6) aG)<|fC (.int 7))<|hName 7)
 (bA (bG (fOp cP (aL GI<|aB (aE 6) aG)<|fC (.int 7))<|hName 8)
 (bA (DJ 9 10 11<|aB (aY<|aB (fC (.int 0))<|aB (fOp fH (aE 2)<|fC (.int 1)) aG)<|aB BM<|aB (aE 5) aG)
 (bA (sIf (gB<|fOp (eqX false) (fOp bV (aE 7)<|fC (.int 2))<|fC (.int 1))
  (bG (fOp ixF (aL eW<|aB (aE 2) aG)<|fOp bV (aE 8)<|fC (.int 15))<|hName 9)
  cH)
 (bA (sIf (gB<|fOp (eqX false) (fOp bV (fOp cP (aE 7)<|fC (.int 2))<|fC (.int 2))<|fC (.int 1))
  (bG (fOp ixF (aL eI aG)<|fOp bV (fOp cP (aE 8)<|fC (.int 15))<|fC (.int 20))<|hName 10)
  cH)
 (bA (sIf (gB<|fOp (eqX false) (fOp cP (aE 7)<|fC (.int 4))<|fC (.int 1))
  (bA (bG (aL dB<|aB (aE 2) aG)<|hName 12)
 (bG (fOp ixF (aE 12) (fOp bV (fOp cP (aE 8) (fC (.int 300))) (aL jS (aB (aE 12) aG)))) (hName 11)))
  cH)
 (bA (bG (fJ "list" tR (cA<|aB (fOp bV (aE 7)<|fC (.int 2))<|aB (fOp bV (fOp cP (aE 7)<|fC (.int 2))<|fC (.int 2))<|aB (fOp cP (aE 7)<|fC (.int 4)) aG)<|aB (fC (.int 1)) aG)<|hName 13)
 (bA (bG (cA<|aB (fOp (eqX false) (aE 13)<|fC (.int 0))<|aB (fOp (eqX false) (aE 13)<|fC (.int 1))<|aB (fOp (eqX false) (aE 13)<|fC (.int 2))<|aB (fC (.bool true)) aG)<|hName 14)
 (sIf (gB<|fOp (eqX true) (aL dC<|aB (aE 4)<|aB (aE 11)<|aB (aE 9)<|aB (aE 10) aG)<|aE 14)
  (cV<|fC (.bool false))
  cH)))))))))
def KB:EF:=(aY<|aB (fC (.int 1))<|aB (fC (.int 1)) aG)
def OO(γ:Ga)(M:Sto):KB γ M=Z (.d (.tuple [(.int 1),(.int 1)]),M):=rfl
def JS:EF:=(aY<|aB (fC (.int 0))<|aB (fC (.int 0)) aG)
def OJ(γ:Ga)(M:Sto):JS γ M=Z (.d (.tuple [(.int 0),(.int 0)]),M):=rfl
def LA:EF:=(cA<|aB (fC (.bool true))<|aB (fC (.bool false))<|aB (fC (.bool false))<|aB (fC (.bool true)) aG)
def UD(γ:Ga)(M:Sto):LA γ M=Z (.d (.list [(.bool true),(.bool false),(.bool false),(.bool true)]),M):=rfl
def VC:SF:=(bA (bG (aL iN<|aB (aE 0)<|aB (fC (.int 0))<|aB (fC (.int 120)) aG)<|hName 1)
 (bA (FU 3<|bG (aL jB<|aB (aE 1)<|aB (fC (.int 2))<|aB (fC (.int 8)) aG)<|lE 2<|bT (hName 2)<|bT (hName 3) lJ)
 (bA (bG (yX "Web" fU<|aB (aE 2)<|aB (aL kI<|aB (aE 1)<|aB (aE 3) aG) aG)<|hName 4)
 (bA (bG (aL jK<|aB CV aG)<|hName 5)
 (bA (vQ (dP<|fOp bP BE<|fSl (aE 0) (cF<|fC (.int 36))<|cF<|fC (.int 41)) (hName 6) wG)
 (bA (bG (yX "Web" fU<|aB (fC (.int 1))<|aB (aY aG) aG)<|hName 15)
 (cV (fOp (eqX false) (aL dC (aB (aE 15) (aB (aY aG) (aB JS (aB KB aG))))) LA))))))))
def F_law:FN:=fnF 1 16 VC
structure Txt(K:Fg)(mg:Str->Tf):Prop where
 hB:LW mg ["ValueError","abs","all","bool","enumerate","int","isinstance","len","list","max","min","range","sorted","sum","tuple","zip"]
 v119:∃t:Tok,mg "MOST_ABOVE"=Z (.int 1000000000000 t)
 v120:∃t:Tok,mg "BELOW"=Z (.int 55440 t)
 v121:∃t:Tok,mg "MOST_PLACES"=Z (.int 40 t)
 v109:mg "NoPlace"=Z (.ref (bH K "NoPlace"))
 v20:W.excIn K (bH K "NoPlace") bmV "ValueError.__new__"=true
 v110:mg "Web"=Z (.ref (bH K "Web"))
 v111:Cls K (bH K "Web")
 v26:gT K (bH K "Web") "many"
 v112:mg "NoTree"=Z (.ref (bH K "NoTree"))
 v28:W.excIn K (bH K "NoTree") bmV "ValueError.__new__"=true
 v113:mg "NoWeight"=Z (.ref (bH K "NoWeight"))
 v30:W.excIn K (bH K "NoWeight") bmV "ValueError.__new__"=true
 v114:mg "CutError"=Z (.ref (bH K "CutError"))
 v32:W.exmOne K (.ref (bH K "NoWeight")) (.ref (bH K "CutError"))=Z true
 v33:W.exmOne K (.ref (bH K "NoTree")) (.ref (bH K "CutError"))=Z true
 v34:W.exmOne K (.ref (bH K "NoPlace")) (.ref (bH K "CutError"))=Z true
 v115:XC K (bH K "NoPlace")
 v116:XC K (bH K "NoTree")
 v117:XC K (bH K "NoWeight")
 v59:sG K (.type "ValueError") fF=true
 v60:W.kitOne K (.type "NoneType") (.type "ValueError")=Z false
 v61:sG K (.ref (bH K "NoTree")) mB=true
 v62:W.kitOne K (.type "NoneType") (.ref (bH K "NoTree"))=Z false
 v63:sG K (.ref (bH K "NoWeight")) hW=true
 v64:W.kitOne K (.type "NoneType") (.ref (bH K "NoWeight"))=Z false
 v65:sG K (.ref (bH K "NoPlace")) jD=true
 v66:W.kitOne K (.type "NoneType") (.ref (bH K "NoPlace"))=Z false
 v67:gT K (bH K "Web") "ties"
 v68:gT K (bH K "Web") "weights"
 v118:aAh K "Web" "__init__" "Web.__init__" fZ
 v74:W.makesIn K (bH K "Web")=true
 v75:W.keepIn K (.ref (bH K "Web"))=true
 v76:Def K mg "_law_cell" nA
 v77:Def K mg "_law_draws" lF
 v78:Def K mg "_law_next" mZ
 v79:Def K mg "_law_order" kU
 v80:Def K mg "_law_weight" iY
 v81:Def K mg "_law_pairs" lD
 v82:Def K mg "_law_web" nR
 v83:Def K mg "is_whole" pE
 v84:Def K mg "is_row" uC
 v85:Def K mg "common" tL
 v86:Def K mg "is_row_of" mY
 v87:Def K mg "has_amount_numbers" eE
 v88:Def K mg "is_in_parts" jO
 v89:Def K mg "is_weight" nF
 v90:Def K mg "is_place" oV
 v91:Def K mg "are_unlike_places" eU
 v92:Def K mg "is_between_places" eV
 v93:Def K mg "is_tie" tO
 v94:Def K mg "kept_ties" nD
 v95:Def K mg "_law_rows" mX
 v96:Def K mg "_law_no_places" gA
 v97:Def K mg "_law_no_weights" fM
 v98:Def K mg "_law_no_trees" gN
 v99:Def K mg "refuse_no_two_places" dQ
 v100:Def K mg "refuse_no_change" eZ
 v101:Def K mg "is_amount" nB
 v102:Def K mg "is_rising" mR
 v103:Def K mg "is_tree" qX
 v104:Def K mg "refuse_no_tree_of" eQ
 v105:Def K mg "refuse_no_lead" gH
 v106:Def K mg "told_behind" jG
 v107:Def K mg "_law_told" mI
 v108:Def K mg "law" GO
section
variable{P:Ud}{w:World}{K:Fg}{mg:Str->Tf}{base:Heap}
def vV(T:Txt K mg):∀nm∈(["NoPlace","NoTree","NoWeight"]:Tc),XC K (bH K nm):=(wQ T.v115<|wQ T.v116<|wQ T.v117 XW)
def mQ(T:Txt K mg):Callee P w K mg base 1 "_law_cell" oY (spM K dD):=
 T.v76.okG (N:=uO) (ps:=oY) (k:=0) (b:=hJ) sc__law_cell (by sleep 992) fun f cdv A outer s H E a=>
  (aM (eB (cB NL (aC 1)<|dF zT (by sleep 988) boot_len<|aA (aC 0) aF)
   (aU<|bF<|cG dZ (aC 0)<|aC 1)
   cJ)
   (aM (bJ 2 (fun _=>sc__law_cell.nd)<|aO cS aD<|aO pJ (aO pJ aD<|aC 1)<|aC 1)
   (aM (eB (cB HZ (dF zT (by sleep 988) boot_len<|aA (aC 0) aF) aD)
    (aU<|bJ 2 (fun _=>sc__law_cell.nd)<|aO cS (aC 2)<|aO pJ (aO dE (cG dZ (aC 0) aD) aD)<|aO cS (aO pJ aD<|aC 1) aD)
    cJ)
   (aU (bF (aC 2))))))
def zH(T:Txt K mg):Callee P w K mg base 2 "_law_draws" mG (spM K iN):=
 T.v77.okG (N:=sL) (ps:=mG) (k:=1) (b:=iK) sc__law_draws (by sleep 993) fun f cdv A outer s H E a=>
  (aM (bJ 3 (fun _=>sc__law_draws.nd)<|ID aF)
   (aM (bJ 4 (fun _=>sc__law_draws.nd)<|dF (PU fun _=>rfl) (by sleep 988) boot_max<|aA aD<|aA (aW (fun _=>mQ T) a.le<|aA (aC 0)<|aA (aC 1) aF) aF)
   (aM (eB (cB aEs (aC 4)<|aO IY aD aD)
    (aM (rW (fun _=>O7) (fun _=>rfl) (kJ (by sleep 988)<|aA (aC 2) aF) (bE 5 fun _=>sc__law_draws.nd)
    (aM (vS<|tI (fun _=>rfl) (aC 3)<|aA (aO dE (aC 4) aD) aF)
   (aU (bJ 4 (fun _=>sc__law_draws.nd) (aO fP (aC 4) aD)))))
   (aM (eB (cB (iD (fun _=>rfl) fun _=>a.units) (dF (aDZ (fun _=>rfl) fun _=>rfl) (by sleep 988) boot_sum<|aA (lM (fun _=>rfl) (aC 3) (eM<|aO fP (aC 2) aD) fL) aF) aD)
    (aU<|vS<|GT (fun _=>rfl)<|aC 3)
    cJ)
   (aU (bF (aC 3)))))
    cJ)
   (aM (bJ 6 (fun _=>sc__law_draws.nd)<|aO dE (aO pJ (aO dE (aC 4) aD) aD) aD)
   (aM (rW (fun _=>O7) (fun _=>rfl) (kJ (by sleep 988)<|aA (aC 2) aF) (bE 5 fun _=>sc__law_draws.nd)
    (aM (bJ 6 (fun _=>sc__law_draws.nd)<|aO dE (aO cS (aO cS (aO cS (aO pJ (aC 6) aD)<|aW (fun _=>mQ T) a.le<|aA (aC 0)<|aA (aO cS (aO cS (aC 1) aD)<|aO dE (aC 5) aD) aF)<|aO pJ (aC 5)<|aC 5) aD) aD)
   (aU (vS (tI (fun _=>rfl) (aC 3) (aA (aO fP (aO dE (aO cS (aO pJ (aC 6) aD) (aO pJ aD (aC 5))) aD) aD) aF))))))
   (aU (bF (aC 3))))))))
def dX(T:Txt K mg):Callee P w K mg base 1 "_law_next" oB (spM K bK):=
 T.v78.okG (N:=uR) (ps:=oB) (k:=0) (b:=kD) BG (by sleep 991) fun f cdv A outer s H E a=>
  (aM (eB (cB HZ (dF zT (by sleep 988) boot_len<|aA (aC 0) aF) aD)
   (aU<|bF<|aCy (fun _=>rfl)<|aC 0)
   cJ)
   (aU (bF aD)))
def zE(T:Txt K mg):Callee P w K mg base 2 "_law_order" mH (spM K iM):=
 T.v79.okG (N:=sN) (ps:=mH) (k:=1) (b:=mV) sc__law_order (by sleep 992) fun f cdv A outer s H E a=>
  (aM (bJ 2 (fun _=>sc__law_order.nd)<|QX true (fun _=>rfl) (by sleep 988) (by sleep 988)<|aA (aC 1) aF)
   (aU (bF (jX (N':=(["_law_left","_law_draws_here","_law_turn"]:Tc)) (cap:=[Z 2,Z 0,Y]) (fun _=>rfl) (by sleep 987) (kJ (by sleep 988) (aA (aC 1) aF)) (bE 2 (by sleep 989)) fD (SU (fun _=>rfl) (aC 0) (aA (aO dE (aW (fun _=>dX T) a.le (aA (aC 1) aF)) (dF zT (by sleep 988) boot_len (aA (aC 0) aF))) aF))))))
def oJ(T:Txt K mg):Callee P w K mg base 2 "_law_weight" lA (spM K eD):=
 T.v80.okG (N:=qI) (ps:=lA) (k:=1) (b:=gU) sc__law_weight (by sleep 991) fun f cdv A outer s H E a=>
  (aM (bJ 1 (fun _=>sc__law_weight.nd)<|aW (fun _=>dX T) a.le<|aA (aC 0) aF)
   (aM (eB (cB (iD (fun _=>rfl) fun _=>a.units) (aO dE (aC 1) aD) aD)
    (aU<|bF<|cG dZ (cC<|aA (aP<|aA aD<|aA aD aF)<|aA (aP<|aA aD<|aA aD aF)<|aA (aP<|aA aD<|aA aD aF)<|aA (aP<|aA aD<|aA aD aF) aF)<|aO dE (aO fP (aC 1) aD) aD)
    cJ)
   (aU (bF (cG dZ (cC (aA (aP (aA aD (aA aD aF))) (aA (aP (aA aD (aA aD aF))) (aA (aP (aA aD (aA aD aF))) (aA (aP (aA aD (aA aD aF))) (aA (aP (aA aD (aA aD aF))) (aA (aP (aA aD (aA aD aF))) (aA (aP (aA aD (aA aD aF))) (aA (aP (aA aD (aA aD aF))) aF))))))))) (aO dE (aO fP (aC 1) aD) aD))))))
def zD(T:Txt K mg):Callee P w K mg base 2 "_law_pairs" nG (spM K eX):=
 T.v81.okG (N:=tE) (ps:=nG) (k:=1) (b:=sE) sc__law_pairs (by sleep 992) fun f cdv A outer s H E a=>
  (aM (bJ 2 (fun _=>sc__law_pairs.nd)<|aO dE (aW (fun _=>dX T) a.le<|aA (aC 0) aF) aD)
   (aM (bJ 3 (fun _=>sc__law_pairs.nd)<|aO cS aD<|aO fP (aC 1) aD)
   (aM (eB (cB (iD (fun _=>rfl) fun _=>a.units) (aC 2) aD)
    (aU<|bF<|UP (N':=(["_law_many","_law_k"]:Tc)) (cap:=[Z 1,Y]) (fun _=>rfl) (by sleep 987) (kJ (by sleep 988)<|aA (aC 1) aF) (bE 1 (by sleep 989)) fD<|aP<|aA (aC 1)<|aA (aO dE (aO cS (aC 1) aD)<|aC 0) aF)
    cJ)
   (aM (eB (cB (iD (fun _=>rfl) fun _=>a.units) (aC 2) aD)
    (aU<|bF<|aO (HU fun _=>rfl) (jX (N':=(["_law_middle","_law_many","_law_k"]:Tc)) (cap:=[Z 3,Z 1,Y]) (fun _=>rfl) (by sleep 987) (kJ (by sleep 988)<|aA (aC 1) aF) (bE 2 (by sleep 989)) fD<|aP<|aA (aC 2)<|aA (cG dZ (cC<|aA (aO cS (aC 2) aD)<|aA aD aF)<|lO aFc (by sleep 988) boot_int<|aA (aGT (eF (iD (fun _=>rfl) fun _=>a.units) (aC 2)<|aO nJ (aC 0) aD)<|gR<|eF (iD (fun _=>rfl) fun _=>a.units) (aC 2)<|aO nJ (aC 1) aD) aF) aF)<|cC<|aA (aP<|aA aD<|aA (aO dE (aC 3)<|aC 1) aF) aF)
    cJ)
   (aM (eB (cB (iD (fun _=>rfl) fun _=>a.units) (aC 2) aD)
    (aU<|bF<|UP (N':=(["_law_k"]:Tc)) (cap:=[Y]) (fun _=>rfl) (by sleep 987) (pV (by sleep 988)<|aA aD<|aA (aC 1) aF) (bE 0 (by sleep 989)) fD<|aP<|aA aD<|aA (aC 0) aF)
    cJ)
   (aM (eB (cB (iD (fun _=>rfl) fun _=>a.units) (aC 2) aD)
    (aU<|bF<|aO (HU fun _=>rfl) (jX (N':=(["_law_k"]:Tc)) (cap:=[Y]) (fun _=>rfl) (by sleep 987) (pV (by sleep 988)<|aA aD<|aA (aC 1) aF) (bE 0 (by sleep 989)) fD<|aP<|aA (aO fP (aC 0) aD)<|aA (aC 0) aF)<|cC<|aA (aP<|aA aD<|aA (aO nJ (aC 1) aD) aF) aF)
    cJ)
   (aM (eB (cB (iD (fun _=>rfl) fun _=>a.units) (aC 2) aD)
    (aU<|bF<|aO (HU fun _=>rfl) (jX (N':=(["_law_k"]:Tc)) (cap:=[Y]) (fun _=>rfl) (by sleep 987) (kJ (by sleep 988)<|aA (aO nJ (aC 1) aD) aF) (bE 0 (by sleep 989)) fD<|aP<|aA (aC 0)<|aA (aO cS (aC 0) aD) aF)<|jX (N':=(["_law_k"]:Tc)) (cap:=[Y]) (fun _=>rfl) (by sleep 987) (kJ (by sleep 988)<|aA (aO fP (aC 1) aD) aF) (bE 0 (by sleep 989)) fD<|aP<|aA (aO pJ aD<|aC 0)<|aA (aO cS (aO pJ aD<|aC 0) aD) aF)
    cJ)
   (aM (bJ 4 (fun _=>sc__law_pairs.nd)<|ID aF)
   (aM (rW (fun _=>O7) (fun _=>rfl) (kJ (by sleep 988)<|aA (aC 1) aF) (bE 5 fun _=>sc__law_pairs.nd)
    (aU (rW (fun _=>O7) (fun _=>rfl) (pV (by sleep 988)<|aA (aO cS (aC 5) aD)<|aA (aC 1) aF) (bE 6 fun _=>sc__law_pairs.nd)
    (aM (bJ 7 (fun _=>sc__law_pairs.nd)<|aW (fun _=>dX T) a.le<|aA (aC 0) aF)
   (aU (eB (CK<|sV (CK<|GQ (cB (iD (fun _=>rfl) fun _=>a.units) (aC 2) aD)<|DC<|cB (iD (fun _=>rfl) fun _=>a.units) (eF NL (aC 5)<|aC 3)<|eF NL (aC 6)<|aC 3)<|sV (CK<|GQ (cB (iD (fun _=>rfl) fun _=>a.units) (aC 2) aD)<|DC<|cB (iD (fun _=>rfl) fun _=>a.units) (aO dE (aO cS (aC 5)<|aC 6) aD) aD)<|tV<|cB (iD (fun _=>rfl) fun _=>a.units) (aO dE (aC 7) aD) aD)
    (aU<|vS<|tI (fun _=>rfl) (aC 4)<|aA (aP<|aA (aC 5)<|aA (aC 6) aF) aF)
    cJ))))))
   (aU (bF (aC 4))))))))))))
def FA(T:Txt K mg):Callee P w K mg base 3 "_law_web" rN (spM K jB):=
 T.v82.okG (N:=xN) (ps:=rN) (k:=2) (b:=qO) sc__law_web (by sleep 993) fun f cdv A outer s H E a=>
  (aM (bJ 3 (fun _=>sc__law_web.nd)<|aO cS (aC 1)<|aO dE (aW (fun _=>dX T) a.le<|aA (aC 0) aF)<|aO cS (aO nJ (aC 2)<|aC 1) aD)
   (aM (bJ 4 (fun _=>sc__law_web.nd)<|aW (fun _=>zE T) a.le<|aA (aC 0)<|aA (aC 3) aF)
   (aM (bJ 5 (fun _=>sc__law_web.nd)<|aO dE (aW (fun _=>dX T) a.le<|aA (aC 0) aF) aD)
   (aM (bJ 6 (fun _=>sc__law_web.nd)<|aW (fun _=>oJ T) a.le<|aA (aC 0) aF)
   (aM (bJ 7 (fun _=>sc__law_web.nd) FH)
   (aM (rW (fun _=>O7) (fun _=>rfl) (pK (fun _=>rfl)<|MC<|aW (fun _=>zD T) a.le<|aA (aC 0)<|aA (aC 3) aF) (mL (fun _=>rfl) (fun _=>rfl)<|bW (bE 8 fun _=>sc__law_web.nd)<|bW (bE 9 fun _=>sc__law_web.nd) iL)
    (aM (bJ 10 (fun _=>sc__law_web.nd)<|aC 6)
   (aM (eB (cB HZ (aC 5) aD)
    (aU<|bJ 10 (fun _=>sc__law_web.nd)<|aW (fun _=>oJ T) a.le<|aA (aC 0) aF)
    cJ)
   (aU (eB (cB (aCu (fun _=>rfl) fun _=>a.units) (aC 8)<|aC 9)
    (aU<|JM (fun _=>a.u1) (aC 7) (xC<|aA (dF (aDj fun _=>rfl) (by sleep 988) boot_min<|aA (cG dZ (aC 4)<|aC 8)<|aA (cG dZ (aC 4)<|aC 9) aF)<|aA (dF (PU fun _=>rfl) (by sleep 988) boot_max<|aA (cG dZ (aC 4)<|aC 8)<|aA (cG dZ (aC 4)<|aC 9) aF) aF)<|aC 10)
    cJ)))))
   (aU (bF (YG (aA (aC 3) (aA (aC 7) aF)))))))))))
def kM(T:Txt K mg):Callee P w K mg base 1 "is_whole" qW (spM K fO):=
 T.v83.okG (N:=wK) (ps:=qW) (k:=0) (b:=yK) FO (by sleep 991) fun f cdv A outer s H E a=>
  (aU<|bF<|fN (QU (T:="int") (fun _=>rfl) (by decide) (aC 0) (fun _=>cZ) (by sleep 988) (by sleep 988) boot_int)<|gR<|aDK<|QU (T:="bool") (fun _=>rfl) (by decide) (aC 0) (fun _=>cZ) (by sleep 988) (by sleep 988) boot_bool)
def AO(T:Txt K mg):Callee P w K mg base 1 "is_row" wM (spM K sW):=
 T.v84.okG (N:=DS) (ps:=wM) (k:=0) (b:=EN) NY (by sleep 991) fun f cdv A outer s H E a=>
  (aU<|bF<|aAm (T:="list") (U:="tuple") (fun _=>rfl) (by decide) (by decide) (aC 0) (fun _=>cZ) (by sleep 988) (by sleep 988) (by sleep 988) boot_list boot_tuple)
def zN(T:Txt K mg):Callee P w K mg base 1 "common" wV (spM K sR):=
 T.v85.okG (N:=FZ) (ps:=wV) (k:=0) (b:=FG) sc_common (by sleep 992) fun f cdv A outer s H E a=>
  (aM (RE (fun _=>O7) (aCJ (fun _=>rfl)<|aC 1)<|aU<|aDW 0 1 (fun _=>rfl) (fun _=>sc_common.nd)<|aA (aC 1)<|aA (aO dE (aC 0)<|aC 1) aF)
   (aU (bF (aC 0))))
def mK(T:Txt K mg):Callee P w K mg base 2 "is_row_of" pC (spM K gX):=
 T.v86.okG (N:=vC) (ps:=pC) (k:=1) (b:=uZ) BH (by sleep 992) fun f cdv A outer s H E a=>
  (aU<|bF<|fN (aW (fun _=>AO T) a.le<|aA (aC 0) aF)<|gR<|eF (iD (fun _=>rfl) fun _=>a.units) (dF zT (by sleep 988) boot_len<|aA (aC 0) aF)<|aC 1)
def gL(T:Txt K mg):Callee P w K mg base 3 "has_amount_numbers" eS (spM K bN):=
 T.v87.okG (N:=gW) (ps:=eS) (k:=2) (b:=cN) nN (by sleep 991) fun f cdv A outer s H E a=>
  (aM (eB (CK<|sV (jA<|jC<|aW (fun _=>mK T) a.le<|aA (aC 0)<|aA aD aF)<|sV (jA<|jC<|aW (fun _=>kM T) a.le<|aA (cG dZ (aC 0) aD) aF)<|tV<|jA<|jC<|aW (fun _=>kM T) a.le<|aA (cG dZ (aC 0) aD) aF)
   (aU<|bF gJ)
   cJ)
   (aU (bF (fN (eF aEs (cG dZ (aC 0) aD) aD) (gR (eF aEs (cG dZ (aC 0) aD) aD))))))
def xO(T:Txt K mg):Callee P w K mg base 4 "is_in_parts" kT (spM K cW):=
 T.v88.okG (N:=qM) (ps:=kT) (k:=3) (b:=eC) xD (by sleep 991) fun f cdv A outer s H E a=>
  (aU<|bF<|fN (aW (fun _=>gL T) a.le<|aA (aC 0) aF)<|fN (eF (iD (fun _=>rfl) fun _=>a.units) (aO dE (sU fun _=>T.v120)<|cG dZ (aC 0) aD) aD)<|gR<|eF (iD (fun _=>rfl) fun _=>a.units) (aW (fun _=>zN T) a.le<|aA (cG dZ (aC 0) aD)<|aA (cG dZ (aC 0) aD) aF) aD)
def sJ(T:Txt K mg):Callee P w K mg base 5 "is_weight" oO (spM K dU):=
 T.v89.okG (N:=uQ) (ps:=oO) (k:=4) (b:=hX) BS (by sleep 991) fun f cdv A outer s H E a=>
  (aU<|bF<|fN (aW (fun _=>xO T) a.le<|aA (aC 0) aF)<|gR<|eF aGR (cG dZ (aC 0) aD)<|sU fun _=>T.v119)
def vE(T:Txt K mg):Callee P w K mg base 2 "is_place" rT (spM K gQ):=
 T.v90.okG (N:=xU) (ps:=rT) (k:=1) (b:=mJ) DX (by sleep 992) fun f cdv A outer s H E a=>
  (aU<|bF<|fN (aW (fun _=>kM T) a.le<|aA (aC 1) aF)<|gR<|VA aGR NL aD (aC 1)<|aC 0)
def gY(T:Txt K mg):Callee P w K mg base 3 "are_unlike_places" fB (spM K bS):=
 T.v91.okG (N:=iI) (ps:=fB) (k:=2) (b:=cT) pB (by sleep 993) fun f cdv A outer s H E a=>
  (aU<|bF<|fN (aW (fun _=>vE T) a.le<|aA (aC 0)<|aA (aC 1) aF)<|fN (aW (fun _=>vE T) a.le<|aA (aC 0)<|aA (aC 2) aF)<|gR<|eF (aCu (fun _=>rfl) fun _=>a.units) (aC 1)<|aC 2)
def gZ(T:Txt K mg):Callee P w K mg base 4 "is_between_places" fA (spM K aR):=
 T.v92.okG (N:=iJ) (ps:=fA) (k:=3) (b:=bM) oA (by sleep 992) fun f cdv A outer s H E a=>
  (aU<|bF<|fN (aW (fun _=>mK T) a.le<|aA (aC 1)<|aA aD aF)<|fN (aW (fun _=>gY T) a.le<|aA (aC 0)<|aA (cG dZ (aC 1) aD)<|aA (cG dZ (aC 1) aD) aF)<|gR<|eF NL (cG dZ (aC 1) aD)<|cG dZ (aC 1) aD)
def MU(T:Txt K mg):Callee P w K mg base 6 "is_tie" yN (spM K jF):=
 T.v93.okG (N:=DM) (ps:=yN) (k:=5) (b:=lR) LS (by sleep 992) fun f cdv A outer s H E a=>
  (aU<|bF<|fN (aW (fun _=>gZ T) a.le<|aA (aC 0)<|aA (aC 1) aF)<|gR<|aW (fun _=>sJ T) a.le<|aA (cG dZ (aC 1) aD) aF)
def BV(T:Txt K mg):Callee P w K mg base 7 "kept_ties" pS (spM K hV):=
 T.v94.okG (N:=vA) (ps:=pS) (k:=6) (b:=nU) sc_kept_ties (by sleep 992) fun f cdv A outer s H E a=>
  (aM (eB (jA<|jC<|aW (fun _=>AO T) a.le<|aA (aC 1) aF)
   (aU iA)
   cJ)
   (aM (bJ 2 (fun _=>sc_kept_ties.nd) FH)
   (aM (rW (fun _=>O7) (fun _=>rfl) (XE (fun _=>rfl) (by sleep 988)<|aA (aC 1) aF) (mL (fun _=>rfl) (fun _=>rfl)<|bW (bE 3 fun _=>sc_kept_ties.nd)<|bW (bE 4 fun _=>sc_kept_ties.nd) iL)
    (aM (eB (CK<|sV (jA<|jC<|aW (fun _=>MU T) a.le<|aA (aC 0)<|aA (aC 4) aF)<|tV<|aEG (fun _=>a.u1) (xC<|aA (cG dZ (aC 4) aD)<|aA (cG dZ (aC 4) aD) aF)<|aC 2)
    (aU iA)
    cJ)
   (aU (JM (fun _=>a.u1) (aC 2) (xC (aA (cG dZ (aC 4) aD) (aA (cG dZ (aC 4) aD) aF))) (lO (vT (fun _=>rfl)) (by sleep 988) boot_tuple (aA (cG dZ (aC 4) aD) aF))))))
   (aU (bF (lO (vT (fun _=>rfl)) (by sleep 988) boot_tuple (aA (jX (N':=(["i","j","weight"]:Tc)) (cap:=[Y,Y,Y]) (fun _=>rfl) (by sleep 987) (pK (fun _=>rfl) (PR (fun _=>rfl) (fun _=>a.units2) (fun _=>rfl) (by sleep 988) (aC 2))) (mL (fun _=>rfl) (fun _=>rfl) (bW (mL (fun _=>rfl) (fun _=>rfl) (bW (bE 0 (by sleep 989)) (bW (bE 1 (by sleep 989)) iL))) (bW (bE 2 (by sleep 989)) iL))) (VB (cB HZ (cG dZ (aC 2) aD) aD)) (aP (aA (aC 0) (aA (aC 1) (aA (aC 2) aF))))) aF)))))))
def rY(T:Txt K mg):BI P w K mg base 8 "Web" oH (spM K fU):=
 T.v118.okI (N:=vF) (ps:=oH) (k:=7) (b:=pQ) T.v74 T.v75 T.v110 BY (by sleep 993) fun f cdv A outer s H E a=>
  (aM (eB (CK<|sV (jA<|jC<|aW (fun _=>kM T) a.le<|aA (aC 1) aF)<|sV (cB NL (aC 1) aD)<|tV<|cB HZ (aC 1)<|sU fun _=>T.v121)
   (aU iA)
   cJ)
   (aM (IC (nm:="Web") (fun _=>rfl) T.v111 T.v26 (aC 0)<|aC 1)
   (aM (IC (nm:="Web") (fun _=>rfl) T.v111 T.v67 (aC 0)<|aW (fun _=>BV T) a.le<|aA (aC 1)<|aA (aC 2) aF)
   (aU (IC (nm:="Web") (fun _=>rfl) T.v111 T.v68 (aC 0) (aEu (N':=(["i","j","weight"]:Tc)) (cap:=[Y,Y,Y]) (fun _=>a.u0) (fun _=>rfl) (by sleep 987) (pK (fun _=>rfl) (HA (nm:="Web") (fun _=>rfl) T.v111 T.v67 (aC 0))) (mL (fun _=>rfl) (fun _=>rfl) (bW (bE 0 (by sleep 989)) (bW (bE 1 (by sleep 989)) (bW (bE 2 (by sleep 989)) iL)))) fD (xC (aA (aC 0) (aA (aC 1) aF))) (aC 2)))))))
def BJ(T:Txt K mg):Callee P w K mg base 2 "_law_rows" oM (spM K kI):=
 T.v95.okG (N:=uJ) (ps:=oM) (k:=1) (b:=uK) sc__law_rows (by sleep 992) fun f cdv A outer s H E a=>
  (aM (UH 2 (fun _=>sc__law_rows.nd) (N':=(["_law_ties","_law_i","_law_j"]:Tc)) (cap:=[Z 1,Y,Y]) (fun _=>rfl) (by sleep 987) (ZP<|aC 1) (mL (fun _=>rfl) (fun _=>rfl)<|bW (bE 1 (by sleep 989))<|bW (bE 2 (by sleep 989)) iL) fD<|aP<|aA (aC 1)<|aA (aC 2)<|aA (XH (fun _=>a.u1) (aC 0)<|xC<|aA (aC 1)<|aA (aC 2) aF) aF)
   (aM (eB (cB (iD (fun _=>rfl) fun _=>a.units) (aO dE (aW (fun _=>dX T) a.le<|aA (aC 0) aF) aD) aD)
    (aU<|bF<|jX (N':=(["_law_i","_law_j","_law_weight_here"]:Tc)) (cap:=[Y,Y,Y]) (fun _=>rfl) (by sleep 987) (pK (fun _=>rfl)<|aC 2) (mL (fun _=>rfl) (fun _=>rfl)<|bW (bE 0 (by sleep 989))<|bW (bE 1 (by sleep 989))<|bW (bE 2 (by sleep 989)) iL) fD<|cC<|aA (aC 0)<|aA (aC 1)<|aA (lO (aDL fun _=>rfl) (by sleep 988) boot_list<|aA (aC 2) aF) aF)
    cJ)
   (aU (bF (lO (vT (fun _=>rfl)) (by sleep 988) boot_tuple (aA (aC 2) aF))))))
def sF(T:Txt K mg):Callee P w K mg base 1 "_law_no_places" gS (spM K eW):=
 T.v96.okG (N:=lW) (ps:=gS) (k:=0) (b:=lQ) sc__law_no_places (by sleep 991) fun f cdv A outer s H E a=>
  (aM (bJ 1 (fun _=>sc__law_no_places.nd)<|cC<|aA (aP<|aA aD<|aA aD aF)<|aA (aP<|aA aD<|aA aD aF)<|aA (aP<|aA (qL qH aD)<|aA aD aF)<|aA (aP<|aA aD<|aA (aC 0) aF)<|aA (aP<|aA gJ<|aA aD aF)<|aA (aP<|aA aD<|aA gJ aF)<|aA (aP<|aA xH<|aA aD aF)<|aA (aP<|aA aD<|aA xX aF)<|aA (aP<|aA (aP<|aA aD aF)<|aA aD aF)<|aA (aP<|aA aD<|aA (cC aF) aF) aF)
   (aU (bF (aO cS (aC 1) (cC (aA (aP (aA yR (aA aD aF))) (aA (aP (aA (aO IY aD aD) (aA aD aF))) (aA (aP (aA aD (aA (qL qH (aO IY aD aD)) aF))) (aA (aP (aA gJ (aA aD aF))) (aA (aP (aA xX (aA xX aF))) aF))))))))))
def rF(T:Txt K mg):Callee P w K mg base 1 "_law_no_weights" fX (spM K eI):=
 T.v97.okG (N:=kQ) (ps:=fX) (k:=0) (b:=jV) sc__law_no_weights (by sleep 990) fun f cdv A outer s H E a=>
  (aM (bJ 0 (fun _=>sc__law_no_weights.nd)<|cC<|aA (aP<|aA aD<|aA aD aF)<|aA (aP<|aA aD<|aA aD aF)<|aA (aP<|aA aD<|aA aD aF)<|aA (aP<|aA aD<|aA aD aF)<|aA (aP<|aA (qL qH aD)<|aA aD aF)<|aA (aP<|aA aD<|aA aD aF)<|aA (aP<|aA aD<|aA (qL qH aD) aF)<|aA (aP<|aA gJ<|aA aD aF)<|aA (aP<|aA aD<|aA gJ aF)<|aA aD<|aA xH<|aA xX aF)
   (aU (bF (aO cS (aC 0) (cC (aA (aP (aA aD aF)) (aA (aP (aA aD (aA aD (aA aD aF)))) (aA (aP (aA (aP (aA aD (aA aD aF))) aF)) (aA yR (aA (aP (aA aD (aA aD aF))) (aA (aP (aA (aO IY aD aD) (aA aD aF))) (aA (cC (aA aD (aA xH aF))) (aA gJ aF)))))))))))))
def tT(T:Txt K mg):Callee P w K mg base 1 "_law_no_trees" iF (spM K dB):=
 T.v98.okG (N:=nM) (ps:=iF) (k:=0) (b:=iE) sc__law_no_trees (by sleep 991) fun f cdv A outer s H E a=>
  (aM (bJ 1 (fun _=>sc__law_no_trees.nd)<|jX (N':=(["_law_k"]:Tc)) (cap:=[Y]) (fun _=>rfl) (by sleep 987) (pV (by sleep 988)<|aA aD<|aA (aC 0) aF) (bE 0 (by sleep 989)) fD<|aP<|aA aD<|aA (aC 0)<|aA (aP<|aA aD<|aA aD aF) aF)
   (aM (bJ 2 (fun _=>sc__law_no_trees.nd)<|cC<|aA (lM (fun _=>rfl) (aC 1) (eM aD) fL)<|aA (aO cS (aC 1)<|cC<|aA (aP<|aA aD<|aA (aC 0)<|aA (aP<|aA aD<|aA aD aF) aF) aF)<|aA (aO cS (lM (fun _=>rfl) (aC 1) (eM aD) fL)<|lM (fun _=>rfl) (aC 1) fL<|eM aD)<|aA (aO cS (lM (fun _=>rfl) (aC 1) fL<|eM<|qL qH aD)<|cC<|aA (aP<|aA (aO nJ (aC 0) aD)<|aA aD<|aA (aP<|aA aD<|aA aD aF) aF) aF)<|aA xH<|aA aD aF)
   (aM (bJ 2 (fun _=>sc__law_no_trees.nd)<|aO cS (aC 2)<|cC<|aA xX aF)
   (aM (bJ 2 (fun _=>sc__law_no_trees.nd)<|aO cS (aC 2)<|cC<|aA yR<|aA (aO cS (lM (fun _=>rfl) (aC 1) fL<|eM<|qL qH aD)<|cC<|aA (aP<|aA aD<|aA (aC 0)<|aA (aP<|aA aD<|aA aD aF) aF) aF)<|aA (aO cS (lM (fun _=>rfl) (aC 1) fL<|eM<|qL qH aD)<|cC<|aA (aP<|aA aD<|aA (aO nJ (aC 0) aD)<|aA (aP<|aA aD<|aA aD aF) aF) aF)<|aA gJ<|aA (aO (aER fun _=>rfl) (ID<|aA xH aF)<|aO nJ (aC 0) aD) aF)
   (aM (bJ 2 (fun _=>sc__law_no_trees.nd)<|aO cS (aC 2)<|cC<|aA (aO cS (lM (fun _=>rfl) (aC 1) fL<|eM<|qL qH aD)<|cC<|aA (aP<|aA aD<|aA (aO nJ (aC 0) aD) aF) aF)<|aA (aO cS (lM (fun _=>rfl) (aC 1) fL<|eM<|qL qH aD)<|lM (fun _=>rfl) (cC<|aA (aP<|aA aD<|aA gJ<|aA (aP<|aA aD<|aA aD aF) aF) aF) fL<|eM aD)<|aA (aO cS (lM (fun _=>rfl) (aC 1) fL<|eM<|qL qH aD)<|cC<|aA (aP<|aA aD<|aA (aO nJ (aC 0) aD)<|aA aD aF) aF) aF)
   (aU (bF (jX (N':=(["_law_star","_law_many","_law_one"]:Tc)) (cap:=[Z 1,Z 0,Y]) (fun _=>rfl) (by sleep 987) (pK (fun _=>rfl) (aC 2)) (bE 2 (by sleep 989)) (VB (CK (GQ (cB (aBh (fun _=>rfl) (fun _=>a.units)) (aC 2) (aC 0)) (DC (CK (sV (cB HZ (aC 1) aD) (tV (cB (aBh (fun _=>rfl) (fun _=>a.units)) (aC 2) (cC (aA (aP (aA aD (aA gJ (aA (aP (aA aD (aA aD aF))) aF)))) aF)))))))))) (aC 2)))))))))
def lT(T:Txt K mg):kF P w K mg base 4 "refuse_no_two_places" dY (spX K bQ):=
 T.v99.okX (N:=fY) (ps:=dY) (k:=3) (b:=cU) mC (by sleep 993) fun f cdv A outer s H E a=>
  (jZ (IB (jA<|jC<|aW (fun _=>gY T) a.le<|aA (aC 0)<|aA (aC 1)<|aA (aC 2) aF)
   (jZ<|qR (fun i=>xI i) (fun _=>rfl) (fun _=>rfl) (fun _=>T.v109) T.v20)
   (BF cJ)))
def qC(T:Txt K mg):kF P w K mg base 6 "refuse_no_change" fR (spX K bO):=
 T.v100.okX (N:=jH) (ps:=fR) (k:=5) (b:=dA) qB (by sleep 994) fun f cdv A outer s H E a=>
  (yE (nX<|rX (fun i=>xI i) (fun _=>lT T) a.le<|yP<|aA (HA (nm:="Web") (fun _=>rfl) T.v111 T.v26<|aC 0)<|aA (aC 1)<|aA (aC 2) aF)
   (jZ (IB (jA<|jC<|aW (fun _=>sJ T) a.le<|aA (aC 3) aF)
    (jZ<|qR (fun i=>xI i) (fun _=>rfl) (fun _=>rfl) (fun _=>T.v113) T.v30)
    (BF cJ))))
def CC(T:Txt K mg):Callee P w K mg base 4 "is_amount" nT (spM K fT):=
 T.v101.okG (N:=vD) (ps:=nT) (k:=3) (b:=jT) CB (by sleep 991) fun f cdv A outer s H E a=>
  (aU<|bF<|fN (aW (fun _=>gL T) a.le<|aA (aC 0) aF)<|gR<|eF (iD (fun _=>rfl) fun _=>a.units) (aW (fun _=>zN T) a.le<|aA (cG dZ (aC 0) aD)<|aA (cG dZ (aC 0) aD) aF) aD)
def CZ(T:Txt K mg):Callee P w K mg base 1 "is_rising" nZ (spM K jY):=
 T.v102.okG (N:=uV) (ps:=nZ) (k:=0) (b:=uP) DA (by sleep 991) fun f cdv A outer s H E a=>
  (aU<|bF<|dF (aBL (fun _=>rfl) fun _=>rfl) (by sleep 988) boot_all<|aA (jX (N':=(["one","other"]:Tc)) (cap:=[Y,Y]) (fun _=>rfl) (by sleep 987) (aAt (fun _=>rfl) (by sleep 988)<|aA (aC 0)<|aA (lM (fun _=>rfl) (aC 0) (eM aD) fL) aF) (mL (fun _=>rfl) (fun _=>rfl)<|bW (bE 0 (by sleep 989))<|bW (bE 1 (by sleep 989)) iL) fD<|eF (aFB (fun _=>rfl) fun _=>a.units1) (aC 0)<|aC 1) aF)
def HS(T:Txt K mg):Callee P w K mg base 5 "is_tree" uB (spM K cK):=
 T.v103.okG (N:=AH) (ps:=uB) (k:=4) (b:=lL) GS (by sleep 992) fun f cdv A outer s H E a=>
  (aM (eB (CK<|sV (cB HZ (aC 0)<|sU fun _=>T.v121)<|tV<|jA<|jC<|aW (fun _=>mK T) a.le<|aA (aC 1)<|aA (aO nJ (aC 0) aD) aF)
   (aU<|bF gJ)
   cJ)
   (aM (eB (jA<|jC<|dF (aBL (fun _=>rfl) fun _=>rfl) (by sleep 988) boot_all<|aA (jX (N':=(["many","row"]:Tc)) (cap:=[Z 0,Y]) (fun _=>rfl) (by sleep 987) (pK (fun _=>rfl)<|aC 1) (bE 1 (by sleep 989)) fD<|fN (aW (fun _=>gZ T) a.le<|aA (aC 0)<|aA (aC 1) aF)<|gR<|aW (fun _=>CC T) a.le<|aA (cG dZ (aC 1) aD) aF) aF)
    (aU<|bF gJ)
    cJ)
   (aU (bF (fN (aW (fun _=>CZ T) a.le (aA (jX (N':=(["row"]:Tc)) (cap:=[Y]) (fun _=>rfl) (by sleep 987) (pK (fun _=>rfl) (aC 1)) (bE 0 (by sleep 989)) fD (aP (aA (cG dZ (aC 0) aD) (aA (cG dZ (aC 0) aD) aF)))) aF)) (gR RM))))))
def pP(T:Txt K mg):kF P w K mg base 6 "refuse_no_tree_of" eY (spX K dJ):=
 T.v104.okX (N:=iG) (ps:=eY) (k:=5) (b:=fE) oG (by sleep 992) fun f cdv A outer s H E a=>
  (jZ (IB (jA<|jC<|aW (fun _=>HS T) a.le<|aA (HA (nm:="Web") (fun _=>rfl) T.v111 T.v26<|aC 0)<|aA (aC 1) aF)
   (jZ<|qR (fun i=>xI i) (fun _=>rfl) (fun _=>rfl) (fun _=>T.v112) T.v28)
   (BF cJ)))
def sA(T:Txt K mg):kF P w K mg base 7 "refuse_no_lead" gM (spX K cY):=
 T.v105.okX (N:=lP) (ps:=gM) (k:=6) (b:=dN) tH (by sleep 995) fun f cdv A outer s H E a=>
  (yE (nX<|rX (fun i=>xI i) (fun _=>qC T) a.le<|yP<|aA (aC 0)<|aA (aC 2)<|aA (aC 3)<|aA (aC 4) aF)
   (jZ (nX (rX (fun i=>xI i) (fun _=>pP T) a.le (yP (aA (aC 0) (aA (aC 1) aF)))))))
def yO(T:Txt K mg):kF P w K mg base 8 "told_behind" lC (spX K gV):=
 T.v106.okX (N:=qK) (ps:=lC) (k:=7) (b:=lH) wO (by sleep 995) fun f cdv A outer s H E a=>
  (yE (nX<|rX (fun i=>xI i) (fun _=>sA T) a.le<|yP<|aA (aC 0)<|aA (aC 1)<|aA (aC 2)<|aA (aC 3)<|aA (aC 4) aF)
   (BF (aM iA (aM iA (aM iA (aM iA (aU iA)))))))
def sC(T:Txt K mg):Callee P w K mg base 9 "_law_told" oW (spM K dC):=
 T.v107.okG (N:=vB) (ps:=oW) (k:=8) (b:=uL) sc__law_told (by sleep 994) fun f cdv A outer s H E a=>
  (aM (aEg (fun _=>⟨rfl,rfl,rfl⟩) (fun _=>rfl) (jZ<|nX<|rX (fun i=>aGN (fun _=>⟨rfl,rfl,rfl⟩) i) (fun _=>yO T) a.le<|yP<|aA (aC 0)<|aA (aC 1)<|aA (cG dZ (aC 2) aD)<|aA (cG dZ (aC 2) aD)<|aA (aC 3) aF) (XN (tab:=[("NoPlace",true),("NoTree",true),("NoWeight",true)]) (n:=(Z 4)) (.ref (bH K "CutError")) (fun _=>⟨rfl,rfl,rfl⟩) (fun _=>.inl T.v114) (fun _=>⟨sc__law_told.nd,rfl,rfl⟩) (tU T.v34<|tU T.v33<|tU T.v32 RF) (aU<|bF<|cC<|aA (wI (tab:=jD) (nn:=Z false) (c:=(.ref (bH K "NoPlace"))) (fun _=>rfl) (.own _) (HI fun _=>T.v109) (wC (vV T) T.v65 rfl) (wD T.v66) (aC 4) (fun _=>cZ) (by sleep 988))<|aA (wI (tab:=hW) (nn:=Z false) (c:=(.ref (bH K "NoWeight"))) (fun _=>rfl) (.own _) (HI fun _=>T.v113) (wC (vV T) T.v63 rfl) (wD T.v64) (aC 4) (fun _=>cZ) (by sleep 988))<|aA (wI (tab:=mB) (nn:=Z false) (c:=(.ref (bH K "NoTree"))) (fun _=>rfl) (.own _) (HI fun _=>T.v112) (wC (vV T) T.v61 rfl) (wD T.v62) (aC 4) (fun _=>cZ) (by sleep 988))<|aA (wI (tab:=fF) (nn:=Z false) (c:=(.type "ValueError")) (fun _=>rfl) (.ty _) (aGP (by sleep 988) vL) (wC (vV T) T.v59 rfl) (wD T.v60) (aC 4) (fun _=>cZ) (by sleep 988)) aF)
   aDa))
   (aU (bF (cC aF))))
def fn_law(T:Txt K mg):∃f fd,mg "law"=Z (.ref f)/\(∀(s:Ua)(u:Tx),BindsTo s fd ⟨[u],[]⟩ [("_law_script",u)])/\∀base,kX P w K mg base CX0 10 f fd aAW (spM K F_law):=
 T.v108.okLG (N:=aBN) (k:=9) (b:=VC) sc_law rfl (by sleep 991) fun base f cdv A outer s H E a=>
  (aM (bJ 1 (fun _=>sc_law.nd)<|aW (fun _=>zH T) a.le<|aA (aC 0)<|aA aD<|aA aD aF)
   (aM (ZO 3<|aCm (aW (fun _=>FA T) a.le<|aA (aC 1)<|aA aD<|aA aD aF)<|mL (fun _=>rfl) (fun _=>rfl)<|bW (bE 2 fun _=>sc_law.nd)<|bW (bE 3 fun _=>sc_law.nd) iL)
   (aM (bJ 4 (fun _=>sc_law.nd)<|LF (fun _=>rY T) (fun _=>rfl) a.le<|aA (aC 2)<|aA (aW (fun _=>BJ T) a.le<|aA (aC 1)<|aA (aC 3) aF) aF)
   (aM (bJ 5 (fun _=>sc_law.nd)<|lO (vT fun _=>rfl) (by sleep 988) boot_tuple<|aA (jX (N':=(["_law_k"]:Tc)) (cap:=[Y]) (fun _=>rfl) (by sleep 987) (pV (by sleep 988)<|aA aD<|aA (aC 2) aF) (bE 0 (by sleep 989)) fD<|aP<|aA aD<|aA (aC 0)<|aA (aP<|aA aD<|aA aD aF) aF) aF)
   (aM (rW (fun _=>O7) (fun _=>rfl) (pK (fun _=>rfl)<|aO cS (jX (N':=(["_law_script","_law_k"]:Tc)) (cap:=[Z 0,Y]) (fun _=>rfl) (by sleep 987) (pV (by sleep 988)<|aA aD<|aA aD aF) (bE 1 (by sleep 989)) fD<|aW (fun _=>mQ T) a.le<|aA (aC 0)<|aA (aC 1) aF)<|lM (fun _=>rfl) (aC 0) (eM aD)<|eM aD) (bE 6 fun _=>sc_law.nd)
    (aM (bJ 7 (fun _=>sc_law.nd)<|aO cS aD<|aO dE (dF aBx (by sleep 988) boot_abs<|aA (aC 6) aF) aD)
   (aM (bJ 8 (fun _=>sc_law.nd)<|aO fP (dF aBx (by sleep 988) boot_abs<|aA (aC 6) aF) aD)
   (aM (XD 9 10 11 (fun _=>rfl) (fun _=>sc_law.nd)<|aA (aP<|aA aD<|aA (aO nJ (aC 2) aD) aF)<|aA (aP<|aA aD<|aA aD aF)<|aA (aC 5) aF)
   (aM (eB (cB (iD (fun _=>rfl) fun _=>a.units) (aO dE (aC 7) aD) aD)
    (aU<|bJ 9 (fun _=>sc_law.nd)<|cG dZ (aW (fun _=>sF T) a.le<|aA (aC 2) aF)<|aO dE (aC 8) aD)
    cJ)
   (aM (eB (cB (iD (fun _=>rfl) fun _=>a.units) (aO dE (aO fP (aC 7) aD) aD) aD)
    (aU<|bJ 10 (fun _=>sc_law.nd)<|cG dZ (US (fun _=>rF T) a.le)<|aO dE (aO fP (aC 8) aD) aD)
    cJ)
   (aM (eB (cB (iD (fun _=>rfl) fun _=>a.units) (aO fP (aC 7) aD) aD)
    (aM (bJ 12 (fun _=>sc_law.nd)<|aW (fun _=>tT T) a.le<|aA (aC 2) aF)
   (aU (bJ 11 (fun _=>sc_law.nd) (cG dZ (aC 12) (aO dE (aO fP (aC 8) aD) (dF zT (by sleep 988) boot_len (aA (aC 12) aF)))))))
    cJ)
   (aM (bJ 13 (fun _=>sc_law.nd)<|QJ (fun _=>rfl) (cC<|aA (aO dE (aC 7) aD)<|aA (aO dE (aO fP (aC 7) aD) aD)<|aA (aO fP (aC 7) aD) aF)<|aA aD aF)
   (aM (bJ 14 (fun _=>sc_law.nd)<|cC<|aA (eF (iD (fun _=>rfl) fun _=>a.units) (aC 13) aD)<|aA (eF (iD (fun _=>rfl) fun _=>a.units) (aC 13) aD)<|aA (eF (iD (fun _=>rfl) fun _=>a.units) (aC 13) aD)<|aA gJ aF)
   (aU (eB (cB (aCu (fun _=>rfl) fun _=>a.units) (aW (fun _=>sC T) a.le<|aA (aC 4)<|aA (aC 11)<|aA (aC 9)<|aA (aC 10) aF)<|aC 14)
    (aU<|bF gJ)
    cJ)))))))))))
   (aM (bJ 15 (fun _=>sc_law.nd)<|LF (fun _=>rY T) (fun _=>rfl) a.le<|aA aD<|aA (aP aF) aF)
   (aU (bF (eF (iD (fun _=>rfl) (fun _=>a.units)) (aW (fun _=>sC T) a.le (aA (aC 15) (aA (aP aF) (aA (aP (aA aD (aA aD aF))) (aA (aP (aA aD (aA aD aF))) aF))))) (cC (aA gJ (aA gJ (aA gJ (aA gJ aF))))))))))))))
def txt_mk{h:Heap}{q:Tok}{r:Tok}{s:Tok}{a:Ub}{b:Ub}{c:Ub}{d:Ub}{o:Ub}{p:Ub}{f g:Th}{i:Array (Tf)}{j k l m e n:Tx}(X:K.In h)(G:h.Ns mainGlobals mg)(v0:W.nsIn K mainGlobals "ValueError"=Z Y)(v1:W.nsIn K mainGlobals "abs"=Z Y)(v2:W.nsIn K mainGlobals "all"=Z Y)(v3:W.nsIn K mainGlobals "bool"=Z Y)(v4:W.nsIn K mainGlobals "enumerate"=Z Y)(v5:W.nsIn K mainGlobals "int"=Z Y)(v6:W.nsIn K mainGlobals "isinstance"=Z Y)(v7:W.nsIn K mainGlobals "len"=Z Y)(v8:W.nsIn K mainGlobals "list"=Z Y)(v9:W.nsIn K mainGlobals "max"=Z Y)(z:W.nsIn K mainGlobals "min"=Z Y)(A:W.nsIn K mainGlobals "range"=Z Y)(B:W.nsIn K mainGlobals "sorted"=Z Y)(C:W.nsIn K mainGlobals "sum"=Z Y)(D:W.nsIn K mainGlobals "tuple"=Z Y)(E:W.nsIn K mainGlobals "zip"=Z Y)(F:W.nsIn K mainGlobals "MOST_ABOVE"=Z (Z (.int 1000000000000 q)))(H:W.nsIn K mainGlobals "BELOW"=Z (Z (.int 55440 r)))(I:W.nsIn K mainGlobals "MOST_PLACES"=Z (Z (.int 40 s)))(t:W.nsIn K mainGlobals "NoPlace"=Z (Z (.ref a)))(v20:W.excIn K a bmV "ValueError.__new__"=true)(u:W.nsIn K mainGlobals "Web"=Z (Z (.ref b)))(J:W.plainGet K b Str.empty=true)(L:W.hasDictIn K b=true)(M:W.plainOver K b=true)(N:W.findIn K (.ref b) "__setattr__"=Z (Z (.builtin "object.__setattr__")))(v26:W.findIn K (.ref b) "many"=Z Y)(v:W.nsIn K mainGlobals "NoTree"=Z (Z (.ref c)))(v28:W.excIn K c bmV "ValueError.__new__"=true)(x:W.nsIn K mainGlobals "NoWeight"=Z (Z (.ref d)))(v30:W.excIn K d bmV "ValueError.__new__"=true)(y:W.nsIn K mainGlobals "CutError"=Z (Z (.ref o)))(v32:W.exmOne K (.ref d) (.ref o)=Z true)(v33:W.exmOne K (.ref c) (.ref o)=Z true)(v34:W.exmOne K (.ref a) (.ref o)=Z true)(O:W.findIn K (.ref a) "__getattribute__"=Z (Z (.builtin "BaseException.__getattribute__")))(Q:W.findIn K (.ref a) "__getattr__"=Z Y)(R:W.subIn K (.ref a) (.type "BaseException")=Z true)(S:(W.clsIn K a).isSome=true)(T:W.findIn K (.ref a) "__class__"=Z (Z (.builtin "object.__class__")))(U:W.specialIn K (.builtin "object.__class__") "__get__"=Z (Z (.builtin "getset_descriptor.__get__")))(V:W.takesIn K (.builtin "object.__class__")=Z true)(a0:W.mroIn K a (.type "object")=Z true)(a1:W.findIn K (.ref c) "__getattribute__"=Z (Z (.builtin "BaseException.__getattribute__")))(a6:W.findIn K (.ref c) "__getattr__"=Z Y)(a7:W.subIn K (.ref c) (.type "BaseException")=Z true)(a8:(W.clsIn K c).isSome=true)(a9:W.findIn K (.ref c) "__class__"=Z (Z (.builtin "object.__class__")))(aa:W.specialIn K (.builtin "object.__class__") "__get__"=Z (Z (.builtin "getset_descriptor.__get__")))(ab:W.takesIn K (.builtin "object.__class__")=Z true)(ac:W.mroIn K c (.type "object")=Z true)(ae:W.findIn K (.ref d) "__getattribute__"=Z (Z (.builtin "BaseException.__getattribute__")))(af:W.findIn K (.ref d) "__getattr__"=Z Y)(ag:W.subIn K (.ref d) (.type "BaseException")=Z true)(ah:(W.clsIn K d).isSome=true)(ai:W.findIn K (.ref d) "__class__"=Z (Z (.builtin "object.__class__")))(aj:W.specialIn K (.builtin "object.__class__") "__get__"=Z (Z (.builtin "getset_descriptor.__get__")))(ak:W.takesIn K (.builtin "object.__class__")=Z true)(am:W.mroIn K d (.type "object")=Z true)(v59:sG K (.type "ValueError") fF=true)(v60:W.kitOne K (.type "NoneType") (.type "ValueError")=Z false)(v61:sG K (.ref c) mB=true)(v62:W.kitOne K (.type "NoneType") (.ref c)=Z false)(v63:sG K (.ref d) hW=true)(v64:W.kitOne K (.type "NoneType") (.ref d)=Z false)(v65:sG K (.ref a) jD=true)(v66:W.kitOne K (.type "NoneType") (.ref a)=Z false)(v67:W.findIn K (.ref b) "ties"=Z Y)(v68:W.findIn K (.ref b) "weights"=Z Y)(ao:W.findIn K (.ref b) "__init__"=Z (Z (.ref p)))(ap:K.lookup p=Z ⟨j,f,.func (W.fnOf "__init__" "Web.__init__" (eG fZ) (bU fZ) (aJ fZ) .none k l m g e n),i⟩)(aq:W.codeIn K e "Web.__init__"=true)(ar:W.keepIn K (.ref p)=true)(au:W.isFn K (.ref p)=true)(v74:W.makesIn K b=true)(v75:W.keepIn K (.ref b)=true)(v76:Def K mg "_law_cell" nA)(v77:Def K mg "_law_draws" lF)(v78:Def K mg "_law_next" mZ)(v79:Def K mg "_law_order" kU)(v80:Def K mg "_law_weight" iY)(v81:Def K mg "_law_pairs" lD)(v82:Def K mg "_law_web" nR)(v83:Def K mg "is_whole" pE)(v84:Def K mg "is_row" uC)(v85:Def K mg "common" tL)(v86:Def K mg "is_row_of" mY)(v87:Def K mg "has_amount_numbers" eE)(v88:Def K mg "is_in_parts" jO)(v89:Def K mg "is_weight" nF)(v90:Def K mg "is_place" oV)(v91:Def K mg "are_unlike_places" eU)(v92:Def K mg "is_between_places" eV)(v93:Def K mg "is_tie" tO)(v94:Def K mg "kept_ties" nD)(v95:Def K mg "_law_rows" mX)(v96:Def K mg "_law_no_places" gA)(v97:Def K mg "_law_no_weights" fM)(v98:Def K mg "_law_no_trees" gN)(v99:Def K mg "refuse_no_two_places" dQ)(v100:Def K mg "refuse_no_change" eZ)(v101:Def K mg "is_amount" nB)(v102:Def K mg "is_rising" mR)(v103:Def K mg "is_tree" qX)(v104:Def K mg "refuse_no_tree_of" eQ)(v105:Def K mg "refuse_no_lead" gH)(v106:Def K mg "told_behind" jG)(v107:Def K mg "_law_told" mI)(v108:Def K mg "law" GO):Txt K mg:=by
 cases sS t;cases sS u;cases sS v;cases sS x;cases sS y;exact⟨(cD (D0 X G v0)<|cD (D0 X G v1)<|cD (D0 X G v2)<|cD (D0 X G v3)<|cD (D0 X G v4)<|cD (D0 X G v5)<|cD (D0 X G v6)<|cD (D0 X G v7)<|cD (D0 X G v8)<|cD (D0 X G v9)<|cD (D0 X G z)<|cD (D0 X G A)<|cD (D0 X G B)<|cD (D0 X G C)<|cD (D0 X G D)<|cD (D0 X G E) VL),⟨_,O0 X G F⟩,⟨_,O0 X G H⟩,⟨_,O0 X G I⟩,O0 X G t,v20,O0 X G u,⟨J,L,M,N⟩,v26,O0 X G v,v28,O0 X G x,v30,O0 X G y,v32,v33,v34,⟨⟨O,Q,R,S⟩,T,U,V,a0⟩,⟨⟨a1,a6,a7,a8⟩,a9,aa,ab,ac⟩,⟨⟨ae,af,ag,ah⟩,ai,aj,ak,am⟩,v59,v60,v61,v62,v63,v64,v65,v66,v67,v68,aAy rfl ao ap aq ar au,v74,v75,v76,v77,v78,v79,v80,v81,v82,v83,v84,v85,v86,v87,v88,v89,v90,v91,v92,v93,v94,v95,v96,v97,v98,v99,v100,v101,v102,v103,v104,v105,v106,v107,v108⟩
end
end Q49
end
end
section
namespace Q49
variable{L M M' M3:Sto}{γ γ0:Ga}{c n w:Nat}{e f g h:EF}{J a b i j m y z:Int}{us:Tv Tie}{d en r tr tree wt x:Tz}{xs:T5}{ds ys:T3}{fa:AF}{ns os:T6}{g12 g13 g14 g4 g5 g6 g7:Te}{l:Bool}{F:FN}
open PySem PySem.Spec PyProof.Rows L2
local macro_rules | `(tactic| simp! [$a,*]) => `(tactic| simp only [fnF, fnX, zX, MQ, aFK, pH, aGy, vG, aBB, aGz, liA, liE, liS, tJ, MM, IQ, aEM, TN, setG, yS, aDD, bA, sIf, cV, aGn, cH, bG, oR, hName, lE, bT, lJ, hSub, gOr, wZ, nP, gB, GR, WU, aL, aB, aG, aE, fC, fOp, fUn, mM, fOr, aAb, fIf, CT, asB, aY, cA, rB, jR, VD, IX, pI, ifS, aGF, fH, iW, cP, bV, BO, ltI, leI, gtI, geI, Option.bind_some, Option.bind_none, Option.map_some, List.getElem?_cons_zero, List.getElem?_cons_succ, List.length_cons, List.length_nil, List.set_cons_zero, List.set_cons_succ, List.map_cons, List.map_nil, List.replicate_zero, List.replicate_succ, List.cons_append, List.nil_append, List.append_nil, if_true, ite_true, ite_false, Nat.reduceAdd, Nat.reduceSub, reduceIte, Bool.not_true, Bool.not_false, Bool.false_eq_true, $a,*])
noncomputable def sH:Tz->Bool
 |.int _=>true
 |_=>false
noncomputable def SD:Tz->Bool
 |.list _=>true
 |.tuple _=>true
 |_=>false
def jN(x:Tz)(M:Sto):fO [.d x] M=Z (.d (.bool (sH x)),M):=by cases x<;>rfl
def TV(x:Tz)(M:Sto):sW [.d x] M=Z (.d (.bool (SD x)),M):=by cases x<;>rfl
def dO(d:Tz)(n:Int):Bool:=match bI d with
 |some ds=>((ds.length:Int)==n)
 |none=>false
def cE(x:Tz)(n:Int)(M:Sto):gX [.d x,.d (.int n)] M=Z (.d (.bool (dO x n)),M):=by cases x<;>rfl
def RT(x y:Int):Int.gcd y (x % y)=Int.gcd x y:=by
 rw[Int.gcd_comm x y];have:x % y=x-y*(x / y):=by have:=Int.emod_add_mul_ediv x y;omega
 rw[this];simp
noncomputable abbrev I(n:Int):CD:=.d (.int n)
def vY{x:Int}(h:0<y):BB x y=true:=by simp[BB,h]
def uU(M:Sto):∀(n:Nat)(x y:Int),0<=x->0<=y->y.toNat<n->
 gE (GR<|aE 1) (VO 0 1<|aB (aE 1)<|aB (fOp bV (aE 0)<|aE 1) aG) n [Z (I x),Z<|I y] M=Z (.nx [Z (I<|Int.gcd x y),Z<|I 0],M)
 |0=>fun _ _ _ _ h=>by omega
 |n+1=>fun x y q o h=>by
  by_cases e:y=0
  .subst e;have:(Int.gcd x 0:Int)=x:=by rw[Int.gcd_zero_right];omega
   rw[this];rfl
  .have k:0<y:=by omega
   have ih:=uU M n y (x % y) o (L7 _ e) (by have:=J7 x k;omega);rw[RT]at ih;rw[<- ih];have p:(y != 0)=true:=by simp[e]
   simp only[gE,GR,aE,WU,VO,aB,fOp,aG,bV,pI,ifS,vY k,p,Option.bind,List.getElem?_cons_succ,List.getElem?_cons_zero,if_true,List.set]
def DZ(M:Sto)(ha:0<=a)(k:0<=b):sR [I a,I b] M=Z (I<|Int.gcd a b,M):=by
 have h:qU [Z (I a),Z<|I b] M=_:=QF<|uU M (b.toNat+1) a b ha k<|J3 _;show((bA qU _ [Z (I a),Z<|I b] M).bind _)=_;unfold bA;rw[h];rfl
noncomputable abbrev B(b:Bool):CD:=.d (.bool b)
def nI(d:Tz):Bool:=match bI d with
 |some [.int a,.int b]=>decide (0<=a)&&decide (1<=b)
 |_=>false
def VM(h:dO x 2=true):∃a b,x=.list [a,b]\/x=.tuple [a,b]:=by
 unfold dO at h;cases x with
 |list ds=>
  have h:((ds.length:Int)==2)=true:=h;rcases ds with _|⟨a,_|⟨b,_|⟨c,r⟩⟩⟩
  .simp at h
  .simp at h
  .exact⟨a,b,.inl rfl⟩
  .simp at h;omega
 |tuple ds=>
  have h:((ds.length:Int)==2)=true:=h;rcases ds with _|⟨a,_|⟨b,_|⟨c,r⟩⟩⟩
  .simp at h
  .simp at h
  .exact⟨a,b,.inr rfl⟩
  .simp at h;omega
 |_=>simp[bI]at h
def GE(h:dO x 2=false):nI x=false:=by
 unfold nI;unfold dO at h;cases q:bI x with
 |none=>rfl
 |some ds=>
  rw[q]at h;rcases ds with _|⟨a,_|⟨b,_|⟨c,r⟩⟩⟩
  .rfl
  .cases a<;>rfl
  .simp at h
  .cases a<;>cases b<;>rfl
def aHj{a b:Tz}:ixF (.d (.list [a,b])) (I 0) M=Z (.d a,M):=rfl
def aHd{a b:Tz}:ixF (.d (.list [a,b])) (I 1) M=Z (.d b,M):=rfl
def aGJ{a b:Tz}:ixF (.d (.tuple [a,b])) (I 0) M=Z (.d a,M):=rfl
def aGS{a b:Tz}:ixF (.d (.tuple [a,b])) (I 1) M=Z (.d b,M):=rfl
def aGp{p q:Bool}:(if p=true then Z (B q,M)else Z (B false,M))=Z (B (p&&q),M):=by cases p<;>rfl
def bX(x:Tz)(M:Sto):bN [.d x] M=Z (B<|nI x,M):=by
 cases h:dO x 2 with
 |false=>
  rw[GE h];simp![bN,cN,cE,h]
 |true=>
  obtain⟨a,b,rfl|rfl⟩:=VM h
  .cases a<;>cases b<;>first|rfl|(rename_i a b;simp![bN,cN,cE,h,jN,aHj,aHd,sH,aGp];rfl)
  .cases a<;>cases b<;>first|rfl|(rename_i a b;simp![bN,cN,cE,h,jN,aGJ,aGS,sH,aGp];rfl)
noncomputable def P(k:Bool)(a b:Int):Tz:=if k then .list [.int a,.int b]else .tuple [.int a,.int b]
def aAD{k:Bool}:ixF (.d (P k a b)) (I 0) M=Z (I a,M):=by cases k<;>rfl
def aEb{k:Bool}:ixF (.d (P k a b)) (I 1) M=Z (I b,M):=by cases k<;>rfl
def mE:eqX false (I i) (I j) M=Z (B (i==j),M):=rfl
def aGv:eqX true (I i) (I j) M=Z (B (!(i==j)),M):=rfl
def gK:bP (I i) (I j) M=Z (I (i+j),M):=rfl
def EL{k:Bool}:nI (P k a b)=(decide (0<=a)&&decide (1<=b)):=by cases k<;>rfl
noncomputable def aAw(a b:Int):Bool:=decide (0<=a)&&decide (1<=b)&&(Int.gcd a b==1)
def aFJ(n m:Nat):((n:Int)==(m:Int))=(n==m):=by
 rw[U8];simp;omega
noncomputable def iQ(a b:Int):Bool:=decide (0<=a)&&decide (1<=b)&&(55440 % b==0)&&(Int.gcd a b==1)&&decide (a<=1000000000000)
def qJ(k:Bool)(a b:Int)(M:Sto):cW [.d (P k a b)] M=Z (B (decide (0<=a)&&decide (1<=b)&&(55440 % b==0)&&(Int.gcd a b==1)),M):=by
 cases h:(decide (0<=a)&&decide (1<=b))with
 |false=>
  simp![cW,eC,bX,EL,h,Bool.false_and]
 |true=>
  have o:=h;rw[B8]at h;have q:=C9 h.1;have s:=C9 h.2;have hm:BB 55440 b=true:=vY (by omega);cases p:(55440 % b==0)with
  |false=>simp![cW,eC,bX,EL,o,aAD,aEb,hm,mE,p,Bool.true_and,Bool.false_and]
  |true=>
   simp![cW,eC,bX,EL,o,aAD,aEb,hm,mE,p,Bool.true_and,DZ M q<|Int.le_trans (by decide) s];rw[show(1:Int)=((1:Nat):Int)from rfl,aFJ]
def DT(k:Bool)(a b:Int)(M:Sto):dU [.d (P k a b)] M=Z (B<|iQ a b,M):=by
 cases h:(decide (0<=a)&&decide (1<=b)&&(55440 % b==0)&&(Int.gcd a b==1))with
 |false=>
  have e:iQ a b=false:=by unfold iQ;rw[h];rfl
  rw[e];simp![dU,hX,qJ,h]
 |true=>
  have e:iQ a b=decide (a<=1000000000000):=by unfold iQ;rw[h];rfl
  rw[e];simp![dU,hX,qJ,h,aAD]
def wsm(h:0<=y)(o:y<2 ^ 200):y.natAbs<xV:=by
 have k:y.natAbs<2 ^ 200:=by omega
 exact B6 k<|Nat.pow_le_pow_right (by decide) (by decide)
def WS{x:Int}(h:0<y)(k:y.natAbs<xV):EG x y=true:=by simp[EG,h,k]
def dW(x:Tz):Bool:=match bI x with
 |some [.int a,.int b]=>iQ a b
 |_=>false
noncomputable def R2'(k:Bool)(p q:Tz):Tz:=if k then .list [p,q]else .tuple [p,q]
def OP(k:Bool)(p q:Tz):bI (R2' k p q)=Z [p,q]:=by cases k<;>rfl
def XI(h:dO x 2=true):∃k p q,x=R2' k p q:=by
 obtain⟨a,b,rfl|rfl⟩:=VM h
 .exact⟨true,a,b,rfl⟩
 .exact⟨false,a,b,rfl⟩
def KN(h:nI x=true):∃k a b,x=P k a b:=by
 have o:dO x 2=true:=by
  cases e:dO x 2 with
  |true=>rfl
  |false=>rw[GE e]at h;cases h
 obtain⟨k,p,q,rfl⟩:=XI o;unfold nI at h;rw[OP]at h;cases p<;>cases q<;>first|exact⟨k,_,_,rfl⟩|simp at h
def ZJ(k:Bool)(a b:Int):dW (P k a b)=iQ a b:=by cases k<;>rfl
def EA(h:nI x=false):dW x=false:=by
 unfold nI at h;unfold dW;split
 .rename_i a b e;rw[e]at h;dsimp only at h;unfold iQ;rw[h];rfl
 .rfl
def oK(x:Tz)(M:Sto):dU [.d x] M=Z (B<|dW x,M):=by
 cases h:nI x with
 |false=>
  rw[EA h];have e:cW [.d x] M=Z (B false,M):=by simp![cW,eC,bX,h]
  simp![dU,hX,e]
 |true=>
  obtain⟨k,a,b,rfl⟩:=KN h;rw[ZJ];exact DT k a b M
def lN:∀ds:T3,jR (ds.map .d)=Z ds
 |[]=>rfl
 |d::ds=>by
  show(jR<|ds.map .d).map (d::·)=_;rw[lN ds];rfl
structure Tie where
 i:Int
 j:Int
 a:Int
 b:Int
deriving DecidableEq
noncomputable def Tie.key(t:Tie):Tv Key:=[.inl t.i,.inl t.j]
noncomputable def Tie.val(t:Tie):CD:=.d (.tuple [.int t.a,.int t.b])
def bC(ts:Tv Tie):Tv (Tv Key×CD):=ts.map fun t=>(t.key,t.val)
def aAo{ts:Tv Tie}{t:Tie}(h:∀s∈ts,s.key≠t.key):lkC (bC ts) t.key=Y:=by
 unfold lkC bC;rw[List.find?_map];have:List.find? ((fun k=>decide (k.1=t.key)) ∘ fun s:Tie=>(s.key,s.val)) ts=Y:=List.find?_eq_none.mpr fun s hs=>by simpa using h s hs
 rw[this];rfl
def JY{ts:Tv Tie}{t:Tie}(h:∀s∈ts,s.key≠t.key):putD (bC ts) t.key t.val=bC (ts++[t]):=by
 unfold putD
 have:((bC ts).any fun k=>decide (k.1=t.key))=false:=by
  rw[bC,List.any_map];exact List.any_eq_false.mpr fun s hs=>by simpa using h s hs
 rw[this,B0 A6];unfold bC;rw[J0];rfl
def sz(hn:n<=1000):n<=sizeLine:=by rw[E6];exact D9 hn (by decide)
noncomputable def f1(t:Tie):T3:=[.tuple [.int t.i,.int t.j],.tuple [.int t.a,.int t.b]]
noncomputable def f2(t:Tie):T3:=[.int t.i,.int t.j,.tuple [.int t.a,.int t.b]]
def PV{c d:Int}:PyData.eqv (.tuple [.int a,.int b]) (.tuple [.int c,.int d])=(a==c&&(b==d&&true)):=rfl
def GV{f:Tie->T3}{i:Nat}(h:i<us.length):(us.map f).getD i []=f us[i]:=by
 rw[C8,C0,B2 h];rfl
noncomputable def t0:Tie:=⟨0,0,0,0⟩
def NS(us:Tv Tie):(List.range us.length).map (fun i=>us.getD i t0)=us:=by
 refine List.ext_getElem? fun i=>?_;rw[C0];by_cases h:i<us.length
 .rw[List.getElem?_range h,B2 h];show Z (us.getD i t0)=_;rw[C8,B2 h];rfl
 .rw[List.getElem?_eq_none (by rw[C1];omega),List.getElem?_eq_none (by omega)];rfl
def aCi{i:Nat}(h:i<us.length):us.getD i t0=us[i]:=by
 rw[C8,B2 h];rfl
def aFW(s t:Tie):(gI (f1 s)<|f1 t).isSome=true:=by
 unfold f1 gI;rw[PV];split
 .unfold gI;rw[PV];split
  .rfl
  .rfl
 .rfl
def ZN(k:us.length<64):∃vs:Tv Tie,vs.Perm us/\pG (us.map f1)=Z (vs.map fun t=>.tuple (f1 t)):=by
 by_cases o:2<=us.length
 .have p:sortable (us.map f1)=true:=by
   have hd:nW (us.map f1)=true:=by unfold nW;rw[List.all_map];exact List.all_eq_true.mpr fun t _=>rfl
   unfold sortable;rw[A3,D8 o,D8 k,hd,Bool.or_true,Bool.true_and,Bool.true_and,Bool.and_true,B8];refine⟨List.all_eq_true.mpr fun r q=>?_,List.all_eq_true.mpr fun i hi=>List.all_eq_true.mpr fun j s=>?_⟩
   .obtain⟨t,_,rfl⟩:=List.mem_map.mp q;rfl
   .rw[GV (List.mem_range.mp hi),GV<|List.mem_range.mp s];exact aFW _ _
  have pm:=pA (n:=(us.map f1).length) (tG<|us.map f1) (by rw[A3];omega);rw[A3]at pm;have mem:∀i∈jE (tG<|us.map f1) us.length,i<us.length:=fun i hi=>List.mem_range.mp<|pm.mem_iff.mp hi
  have u:WA (us.map f1)=((jE (tG<|us.map f1) us.length).map fun i=>us.getD i t0).map fun t=>.tuple (f1 t):=by
   unfold WA;rw[A3,E4];refine U3 fun i hi=>?_;show PyData.tuple ((us.map f1).getD i [])=.tuple (f1<|us.getD i t0);rw[GV (mem i hi),aCi<|mem i hi]
  refine⟨(jE (tG<|us.map f1) us.length).map fun i=>us.getD i t0,?_,?_⟩
  .have:=pm.map fun i=>us.getD i t0
   rwa [NS]at this
  .unfold pG;rw[p,A7 rfl,u]
 .have v:us.length<2:=by omega
  refine⟨us,.refl _,?_⟩;unfold pG
  have:sortable (us.map f1)=false:=by
   unfold sortable;rw[A3,C2 o];rfl
  rw[this,B0 A6,A3,A7 v,E4];rfl
noncomputable def big(t:Tie):Bool:=decide (t.a > 0)
def eT(vs:Tv Tie):T3:=(vs.filter big).map fun t=>.tuple (f2 t)
def OQ{cap:T2}{f:AF}{g:GF}{c:TF}{k:EF}{M1 M2:Sto}(it:f γ M=Z (xs,M1))(o:xs.length<=sizeLine)(e:lcF g c k xs (sP cap γ) M1=Z (ds.map .d,M2))(hd:ds.length<=sizeLine):fLc cap f g c k γ M=Z (.d (.list ds),M2):=by
 have p:uN cap f g c k γ M=Z (ds.map .d,M2):=by
  unfold uN;rw[it,A2,A7 o];exact e
 show(uN cap f g c k γ M).bind _=_;rw[p,A2,lN,A2,A7 hd]
abbrev kG:GF:=lE 2<|bT (lE 2<|bT (hName 0)<|bT (hName 1) lJ)<|bT (hName 2) lJ
abbrev kC:TF:=gB<|fOp gtI (fOp ixF (aE 2)<|fC (.int 0))<|fC (.int 0)
abbrev kE:EF:=aY<|aB (aE 0)<|aB (aE 1)<|aB (aE 2) aG
def zZ{M:Sto}:∀(vs:Tv Tie)(s1 s2 o:Te),lcF kG kC kE (vs.map fun t=>.d (.tuple (f1 t))) [s1,s2,o] M=Z ((eT vs).map .d,M)
 |[]=>fun _ _ _=>rfl
 |t::vs=>fun s1 s2 o=>by
  have ih:=zZ (M:=M) vs (Z<|I t.i) (Z<|I t.j)<|Z (.d (.tuple [.int t.a,.int t.b]));have p:kG (.d (.tuple (f1 t))) [s1,s2,o] M=Z ([Z (I t.i),Z<|I t.j,Z (.d (.tuple [.int t.a,.int t.b]))],M):=rfl;have q:kC [Z (I t.i),Z<|I t.j,Z (.d (.tuple [.int t.a,.int t.b]))] M=Z (big t,M):=rfl
  have s:kE [Z (I t.i),Z<|I t.j,Z (.d (.tuple [.int t.a,.int t.b]))] M=Z (.d (.tuple (f2 t)),M):=by
   have u:3<=sizeLine:=sz (by decide);simp![kE,f2,if_pos u,Nat.zero_add]
  rw[C7];unfold lcF;rw[p,A2];dsimp only;rw[q,A2];dsimp only;by_cases k:big t=true
  .rw[A7 k,s,A2];dsimp only;rw[ih,A2];unfold eT;rw[List.filter_cons_of_pos k];rfl
  .rw[B0 k,ih];unfold eT;rw[List.filter_cons_of_neg k]
def yV:∀us:Tv Tie,sQ (bC us)=Z (us.map fun t=>(t.key,.tuple [.int t.a,.int t.b]))
 |[]=>rfl
 |t::us=>by
  show(sQ<|bC us).bind _=_;rw[yV us];rfl
def XR(us:Tv Tie):(us.map fun t=>(t.key,PyData.tuple [.int t.a,.int t.b])).map DW=us.map f1:=by
 rw[E4];rfl
def QS{vs:Tv Tie}(h:vs.length<=1000):(eT vs).length<=sizeLine:=by
 unfold eT;rw[A3];exact sz<|D9 (List.length_filter_le ..) h
def RX(us:Tv Tie):T3:=us.map fun t=>.tuple (f2 t)
def Ok(n:Int)(us:Tv Tie):Prop:=(∀t∈us,iQ t.a t.b=true/\0<=t.i/\t.i<t.j/\t.j<n)/\(us.map Tie.key).Nodup/\us.length<64
def II(nd:(us.map Tie.key).Nodup):((us.filter big).map Tie.key).Nodup:=(List.filter_sublist.map Tie.key).nodup nd
def DO{N:Sto}:∀(k ts:Tv Tie)(s1 s2 o:Te),((ts++k).map Tie.key).Nodup->ts.length+k.length<1000->
 dcF N.length (lE 3<|bT (hName 0)<|bT (hName 1)<|bT (hName 2) lJ) fW (qZ<|aB (aE 0)<|aB (aE 1) aG) (aE 2) ((RX k).map .d) [s1,s2,o] (N++[.dt (bC ts)])=Z (N++[.dt (bC (ts++k))])
 |[]=>fun ts _ _ _ _ _=>by rw[D7];rfl
 |t::k=>fun ts s1 s2 o nd p=>by
  have u:∀s∈ts,s.key≠t.key:=fun s hs q=>by
   rw[J0,List.nodup_append]at nd;exact nd.2.2 _ (Y7 hs) _ (by rw[C7];exact B7) q
  have ih:=DO (N:=N) k (ts++[t]) (Z<|I t.i) (Z<|I t.j) (Z t.val) (by rw[L3];exact nd) (by rw[B1];simp only[List.length_cons,List.length_nil]at p ⊢;omega);have v:(N++[.dt (bC ts)])[N.length]?=Z (.dt (bC ts)):=by rw[F6 (A9 _),Y1];rfl
  have len:(bC ts).length<sizeLine:=by unfold bC;rw[A3,E6];omega
  have st:yY (N++[.dt (bC ts)]) (.c N.length) (.inr t.key) t.val=Z (N++[.dt (bC (ts++[t]))]):=by
   simp only[yY,v,if_pos len,JY u];rw[List.set_append_right _ _ (A9 _),Y1];rfl
  have A:(Tie.key t).length<=sizeLine:=sz (show 2<=1000 by decide)
  have B:qZ (aB (aE 0)<|aB (aE 1) aG) [Z (I t.i),Z<|I t.j,Z t.val] (N++[.dt (bC ts)])=Z (.inr t.key,N++[.dt (bC ts)]):=by
   have C:keysOf [I t.i,I t.j]=Z t.key:=rfl;simp![qZ,C,if_pos A]
  show dcF _ _ _ _ _ (.d (.tuple (f2 t))::(RX k).map .d) [s1,s2,o] _=_;unfold dcF;rw[show lE 3 (bT (hName 0)<|bT (hName 1)<|bT (hName 2) lJ) (.d (.tuple (f2 t))) [s1,s2,o] (N++[.dt (bC ts)])=Z ([Z (I t.i),Z<|I t.j,Z t.val],N++[.dt (bC ts)])from rfl,A2];dsimp only;rw[show fW [Z (I t.i),Z<|I t.j,Z t.val] (N++[.dt (bC ts)])=Z (true,N++[.dt (bC ts)])from rfl,A2];dsimp only;rw[A7 rfl,B,A2];dsimp only;rw[show aE 2 [Z (I t.i),Z<|I t.j,Z t.val] (N++[.dt (bC ts)])=Z (t.val,N++[.dt (bC ts)])from rfl,A2];dsimp only;rw[st,A2,ih,L3];rfl
def aGX(w:Nat)(n:Int)(vs:Tv Tie):Cell:=.obj "Web" [("many",I n),("ties",.d (.tuple (eT vs))),("weights",.c (w+2))]
def aGk(w:Nat)(n:Int)(us vs:Tv Tie):Tv Cell:=[aGX w n vs,.dt (bC us),.dt (bC<|vs.filter big)]
def GY{fs:Tu}:objOf "Web" (M++(.obj "Web" fs::L)) (.c M.length)=Z (M.length,fs):=by
 have:(M++(Cell.obj "Web" fs::L))[M.length]?=Z (.obj "Web" fs):=by rw[F6 (A9 _),Y1];rfl
 simp only[objOf,this,if_true]
def CU{c c':Cell}:(M++(c::L)).set M.length c'=M++(c'::L):=by
 rw[List.set_append_right _ _ (A9 _),Y1];rfl
noncomputable def R3(k:Bool)(p q w:Tz):Tz:=if k then .list [p,q,w]else .tuple [p,q,w]
def lX(k:Bool)(p q w:Tz):bI (R3 k p q w)=Z [p,q,w]:=by cases k<;>rfl
def IZ(h:dO x 3=true):∃k p q w,x=R3 k p q w:=by
 have o:∀ds:T3,((ds.length:Int)==3)=true->∃p q w,ds=[p,q,w]:=fun ds h=>by
  match ds,h with
  |[p,q,w],_=>exact⟨p,q,w,rfl⟩
  |[],h=>exact absurd h (by decide)
  |[_],h=>exact absurd h (by simp)
  |[_,_],h=>exact absurd h (by simp)
  |_::_::_::_::r,h=>
   have:((r.length+1+1+1+1:Nat):Int)=3:=by simpa using h
   omega
 cases x with
 |list ds=>obtain⟨p,q,w,rfl⟩:=o ds h;exact⟨true,p,q,w,rfl⟩
 |tuple ds=>obtain⟨p,q,w,rfl⟩:=o ds h;exact⟨false,p,q,w,rfl⟩
 |_=>cases h
noncomputable def plc(n:Int):Tz->Bool
 |.int i=>decide (0<=i)&&decide (i<n)
 |_=>false
def rP(n:Int)(p:Tz)(M:Sto):gQ [I n,.d p] M=Z (B<|plc n p,M):=by
 cases k:sH p with
 |false=>
  have e:plc n p=false:=by cases p<;>first|rfl|cases k
  rw[e];simp![gQ,mJ,jN,k]
 |true=>
  obtain⟨i,rfl⟩:∃i,p=.int i:=by cases p<;>first|exact⟨_,rfl⟩|cases k
  have o:plc n (.int i)=(decide (0<=i)&&decide (i<n)):=rfl;rw[o];cases q:decide (0<=i)<;>simp![gQ,mJ,jN,k,q,Bool.true_and,Bool.false_and]
def ulk(n:Int)(p q:Tz):Bool:=match p,q with
 |.int i,.int j=>plc n p&&(plc n q&&!(i==j))
 |_,_=>false
def vU{n:Int}{p:Tz}(h:plc n p=true):∃i,p=.int i/\0<=i/\i<n:=by
 cases p with
 |int i=>simp only[plc,Bool.and_eq_true,decide_eq_true_eq]at h;exact⟨i,rfl,h.1,h.2⟩
 |_=>cases h
def AI(n:Int)(p q:Tz)(M:Sto):bS [I n,.d p,.d q] M=Z (B<|ulk n p q,M):=by
 cases k:plc n p with
 |false=>
  have e:ulk n p q=false:=by
   unfold ulk;split
   .rw[k];rfl
   .rfl
  rw[e];simp![bS,cT,rP,k]
 |true=>
  obtain⟨i,rfl,_⟩:=vU k;cases o:plc n q with
  |false=>
   have e:ulk n (.int i) q=false:=by
    unfold ulk;split
    .rw[o,Z4,O9]
    .rfl
   rw[e];simp![bS,cT,rP,k,o]
  |true=>
   obtain⟨j,rfl,_⟩:=vU o;have e:ulk n (.int i) (.int j)=!(i==j):=by show(plc n (.int i)&&(plc n (.int j)&&!(i==j)))=_;rw[k,o];rfl
   rw[e];simp![bS,cT,rP,k,o,aGv]
def iH(n:Int)(r:Tz):Tw Tie:=match bI r with
 |some [.int i,.int j,w]=>match bI w with
  |some [.int a,.int b]=>if 0<=i/\i<j/\j<n/\iQ a b=true then Z ⟨i,j,a,b⟩else Y
  |_=>Y
 |_=>Y
def NM{w:Tz}(h:dW w=true):∃a b,bI w=Z [.int a,.int b]/\iQ a b=true:=by
 unfold dW at h;split at h
 .rename_i a b e;exact⟨a,b,e,h⟩
 .cases h
def JG{n:Int}{w:Tz}(k:bI r=Z [.int i,.int j,w])(o:bI w=Z [.int a,.int b])(h:0<=i/\i<j/\j<n/\iQ a b=true):iH n r=Z ⟨i,j,a,b⟩:=by
 unfold iH;rw[k];dsimp only;rw[o];dsimp only;rw[A7 h]
def sX{n:Int}{t:Tie}(h:iH n r=Z t):∃w,bI r=Z [.int t.i,.int t.j,w]/\bI w=Z [.int t.a,.int t.b]/\0<=t.i/\t.i<t.j/\t.j<n/\iQ t.a t.b=true:=by
 unfold iH at h;split at h
 .rename_i i j w k;split at h
  .rename_i a b o;split at h
   .rename_i c;cases h;exact⟨w,k,o,c⟩
   .cases h
  .cases h
 .cases h
def ix3(k:Bool)(p q w:Tz)(M:Sto):ixF (.d (R3 k p q w)) (I 0) M=Z (.d p,M)/\ixF (.d (R3 k p q w)) (I 1) M=Z (.d q,M)/\ixF (.d (R3 k p q w)) (I 2) M=Z (.d w,M):=by cases k<;>exact⟨rfl,rfl,rfl⟩
def UX(n:Int)(r:Tz)(M:Sto):jF [I n,.d r] M=Z (B (iH n r).isSome,M):=by
 cases v:dO r 3 with
 |false=>
  have e:iH n r=Y:=by
   cases h:iH n r with
   |none=>rfl
   |some t=>
    obtain⟨w,o,_⟩:=sX h;unfold dO at v;rw[o]at v;cases v
  have u:aR [I n,.d r] M=Z (B false,M):=by
   simp![aR,bM,cE,v]
  rw[e];simp![jF,lR,u,Option.isSome_none]
 |true=>
  obtain⟨k,p,q,w,rfl⟩:=IZ v;obtain⟨H,K,O⟩:=ix3 k p q w M;cases s:ulk n p q with
  |false=>
   have e:iH n (R3 k p q w)=Y:=by
    cases h:iH n (R3 k p q w)with
    |none=>rfl
    |some t=>
     obtain⟨N,o,_,D,C,E,_⟩:=sX h;rw[lX]at o;cases o
     have:ulk n (.int t.i) (.int t.j)=true:=by
      have ne:(!(t.i==t.j))=true:=by simp;omega
      show(plc n (.int t.i)&&(plc n (.int t.j)&&!(t.i==t.j)))=true;rw[ne];simp only[plc,decide_eq_true D,decide_eq_true E,decide_eq_true (show t.i<n by omega),decide_eq_true (show(0:Int)<=t.j by omega),Bool.and_true,Bool.true_and]
     rw[this]at s;cases s
   have u:aR [I n,.d (R3 k p q w)] M=Z (B false,M):=by
    simp![aR,bM,cE,v,H,K,AI,s]
   rw[e];simp![jF,lR,u,Option.isSome_none]
  |true=>
   obtain⟨i,j,rfl,rfl,D,E⟩:∃i j,p=.int i/\q=.int j/\0<=i/\j<n:=by
    unfold ulk at s;split at s
    .rename_i i j;rw[B8,B8]at s;obtain⟨W,P,Q,_⟩:=vU s.1;obtain⟨X,R,_,S⟩:=vU s.2.1;cases P;cases R;exact⟨i,j,rfl,rfl,Q,S⟩
    .cases s
   have u:aR [I n,.d (R3 k (.int i) (.int j) w)] M=Z (B<|decide (i<j),M):=by
    simp![aR,bM,cE,v,H,K,AI,s]
   cases C:decide (i<j)with
   |false=>
    have e:iH n (R3 k (.int i) (.int j) w)=Y:=by
     cases h:iH n (R3 k (.int i) (.int j) w)with
     |none=>rfl
     |some t=>
      obtain⟨N,o,_,_,z,_⟩:=sX h;rw[lX]at o;cases o;exact absurd z<|of_decide_eq_false C
    rw[C]at u;rw[e];simp![jF,lR,u,Option.isSome_none]
   |true=>
    rw[C]at u
    have e:(iH n<|R3 k (.int i) (.int j) w).isSome=dW w:=by
     cases A:dW w with
     |true=>
      obtain⟨a,b,T,U⟩:=NM A;rw[JG (lX ..) T ⟨D,C9 C,E,U⟩];rfl
     |false=>
      cases h:iH n (R3 k (.int i) (.int j) w)with
      |none=>rfl
      |some t=>
       obtain⟨N,o,V,_,_,_,G⟩:=sX h;rw[lX]at o;cases o;unfold dW at A;rw[V]at A;dsimp only at A;rw[G]at A;cases A
    rw[e];simp![jF,lR,u,O,oK]
abbrev LG(n:Int)(x:CD)(c k:Nat)(r:Tz):Ga:=[Z (I n),Z x,Z (.c c),Z<|I (k:Nat),Z (.d r)]
noncomputable def wN(k:Nat)(l:T3):T5:=(l.zipIdx k).map fun p=>.d (.tuple [.int (p.2:Nat),p.1])
abbrev G2:GF:=lE 2<|bT (hName 3)<|bT (hName 4) lJ
def aFx{n:Int}{x:CD}{k:Nat}{o:Te}:G2 (.d (.tuple [.int (k:Nat),r])) [Z (I n),Z x,Z (.c c),o,g4] M=Z (LG n x c k r,M):=rfl
def pO{c:Cell}:(M++[c])[M.length]?=Z c:=by rw[F6 (A9 _),Y1];rfl
def aHh{w:Tz}(h:bI w=Z [.int a,.int b])(M:Sto):jK [.d w] M=Z (.d (.tuple [.int a,.int b]),M):=by
 cases w<;>first|(cases h;rfl)|cases h
def rwT(l:Bool)(t:Tie):Tz:=match l with
 |true=>.list [.int t.i,.int t.j,.list [.int t.a,.int t.b]]
 |false=>.tuple (f2 t)
noncomputable def wtT(l:Bool)(t:Tie):Tz:=match l with
 |true=>.list [.int t.a,.int t.b]
 |false=>.tuple [.int t.a,.int t.b]
def rA(l:Bool)(us:Tv Tie):Tz:=match l with
 |true=>.list (us.map<|rwT true)
 |false=>.tuple (us.map<|rwT false)
def NP(l:Bool)(us:Tv Tie):bI (rA l us)=Z (us.map<|rwT l):=by cases l<;>rfl
def RO(l:Bool)(t:Tie):bI (rwT l t)=Z [.int t.i,.int t.j,wtT l t]:=by cases l<;>rfl
def GA(l:Bool)(t:Tie):bI (wtT l t)=Z [.int t.a,.int t.b]:=by cases l<;>rfl
def aDP{n:Int}{t:Tie}(h:iQ t.a t.b=true/\0<=t.i/\t.i<t.j/\t.j<n):iH n (rwT l t)=Z t:=
 JG (w:=wtT l t) (RO l t) (GA l t) ⟨h.2.1,h.2.2.1,h.2.2.2,h.1⟩
def LX{n:Int}{x:CD}{M:Sto}{k:Nat}{ts:Tv Tie}{t:Tie}(E:ts.length<1000)(ht:iH n (rwT l t)=Z t)(p:∀s∈ts,s.key≠t.key):
 fK (LG n x M.length k<|rwT l t) (M++[.dt (bC ts)])=Z (.nx (LG n x M.length k<|rwT l t),M++[.dt (bC (ts++[t]))]):=by
 have q:=UX n (rwT l t) (M++[.dt (bC ts)]);rw[ht,Option.isSome_some]at q;have v:ixF (.d (rwT l t)) (I 0) (M++[.dt (bC ts)])=Z (I t.i,M++[.dt (bC ts)]):=by cases l<;>rfl
 have A:ixF (.d (rwT l t)) (I 1) (M++[.dt (bC ts)])=Z (I t.j,M++[.dt (bC ts)]):=by cases l<;>rfl
 have B:ixF (.d (rwT l t)) (I 2) (M++[.dt (bC ts)])=Z (.d (wtT l t),M++[.dt (bC ts)]):=by cases l<;>rfl
 have C:=aHh (GA l t) (M++[.dt (bC ts)]);have u:(M++[Cell.dt (bC ts)])[M.length]?=Z (.dt (bC ts)):=pO;have o:keysOf [I t.i,I t.j]=Z t.key:=rfl;have D:(Tie.key t).length<=sizeLine:=sz (show 2<=1000 by decide);have at_:atD (M++[.dt (bC ts)]) (.c M.length) (.inr t.key)=Z Y:=by simp only[atD,u,aAo p]
 have len:(bC ts).length<sizeLine:=by unfold bC;rw[A3,E6];omega
 have st:yY (M++[.dt (bC ts)]) (.c M.length) (.inr t.key) (.d (.tuple [.int t.a,.int t.b]))=Z (M++[.dt (bC (ts++[t]))]):=by
  have pn:putD (bC ts) t.key (.d (.tuple [.int t.a,.int t.b]))=bC (ts++[t]):=JY p;simp only[yY,u,if_pos len,pn];rw[CU]
 simp![fK,q,YI,qZ,v,A,B,o,if_pos D,at_,rO,C,st,Option.isSome_none]
def AN{n:Int}{l:Bool}{x:CD}{M:Sto}:∀(o ts:Tv Tie)(k:Nat)(p g4:Te),((ts++o).map Tie.key).Nodup->(∀t∈o,iH n (rwT l t)=Z t)->ts.length+o.length<1000->
 ∃q u,nO G2 fK (wN k<|o.map<|rwT l) [Z (I n),Z x,Z (.c M.length),p,g4] (M++[.dt (bC ts)])=Z (.nx [Z (I n),Z x,Z (.c M.length),q,u],M++[.dt (bC (ts++o))])
 |[]=>fun ts k p g4 _ _ _=>⟨p,g4,by rw[D7];rfl⟩
 |t::o=>fun ts k p g4 nd ok v=>by
  have A:∀s∈ts,s.key≠t.key:=fun s hs e=>by
   rw[J0,List.nodup_append]at nd;exact nd.2.2 _ (Y7 hs) _ (Y7<|B7 ..) e
  rw[E5]at v;have tn:=LX (n:=n) (x:=x) (M:=M) (k:=k) (ts:=ts) (t:=t) (l:=l) (by omega) (ok t<|B7 ..) A;have e:ts++t::o=ts++[t]++o:=by simp
  rw[e]at nd ⊢;obtain⟨a,b,h⟩:=AN (n:=n) (l:=l) (x:=x) (M:=M) o (ts++[t]) (k+1) (Z<|I (k:Nat)) (Z (.d (rwT l t))) nd (fun s hs=>ok s<|B4 _ hs) (by rw[B1,D6];omega);refine⟨a,b,?_⟩;rw[<- h];show nO G2 fK (.d (.tuple [.int (k:Nat),rwT l t])::wN (k+1) (o.map<|rwT l)) _ _=_
  conv=>lhs;unfold nO
  rw[aFx,A2];dsimp only;rw[tn,A2]
def aAn{n:Int}{l:T3}{c:CD}(hd:bI d=Z l):DK (aB (aE 1) aG) [Z (I n),Z (.d d),Z c,Y,Y] M=Z (wN 0 l,M):=by
 simp![DK,hd];rfl
def ZH{n:Int}{l:Bool}{M:Sto}(ok:Ok n us):
 ∃vs:Tv Tie,vs.Perm us/\hV [I n,.d (rA l us)] M=Z (.d (.tuple (eT vs)),M++[.dt (bC us)]):=by
 obtain⟨s,nd,k⟩:=ok;obtain⟨o,g4,q⟩:=AN (n:=n) (l:=l) (x:=.d (rA l us)) (M:=M) us [] 0 Y Y (by rw[List.nil_append];exact nd) (fun t ht=>aDP<|s t ht) (by rw[List.length_nil];omega);rw[List.nil_append]at q;obtain⟨vs,pm,u⟩:=ZN k;refine⟨vs,pm,?_⟩;have p:SD (rA l us)=true:=by cases l<;>rfl
 have v:(M++[Cell.dt []])=M++[.dt (bC [])]:=rfl;have A:(M++[Cell.dt (bC us)])[M.length]?=Z (.dt (bC us)):=pO;have D:vs.length<64:=by rw[pm.length_eq];exact k
 have it:dP (tY<|aE 2) [Z (I n),Z (.d (rA l us)),Z (.c M.length),o,g4] (M++[.dt (bC us)])=Z (vs.map fun t=>.d (.tuple (f1 t)),M++[.dt (bC us)]):=by
  have s1:tY (aE 2) [Z (I n),Z (.d (rA l us)),Z (.c M.length),o,g4] (M++[.dt (bC us)])=Z (.d (.list (vs.map fun t=>.tuple (f1 t))),M++[.dt (bC us)]):=by
   simp![tY,A,yV,XR,u]
  unfold dP;rw[s1,A2];show(Z (vs.map fun t=>PyData.tuple<|f1 t)).bind _=_;rw[A2,E4];rfl
 have B:kZ [Z (I n),Z (.d (rA l us)),Z (.c M.length),o,g4] (M++[.dt (bC us)])=Z (.d (.list (eT vs)),M++[.dt (bC us)]):=by
  unfold kZ;exact OQ it (sz (by rw[A3];omega)) (zZ vs Y Y Y)<|QS (by omega)
 have C:jK [.d (.list (eT vs))] (M++[.dt (bC us)])=Z (.d (.tuple (eT vs)),M++[.dt (bC us)]):=rfl;have hi:=NP l us;simp![hV,nU,TV,p,tW,v,vQ,aAn hi,q,B,C]
def aAI{n:Int}{l:Bool}{M:Sto}(ok:Ok n us)(S:1<=n)(t:n<=40):
 ∃vs:Tv Tie,vs.Perm us/\fU [.c M.length,I n,.d (rA l us)] (M++[.obj "Web" []])=Z (.d .none,M++aGk M.length n us vs):=by
 obtain⟨vs,pm,k⟩:=ZH (l:=l) (M:=M++[.obj "Web" [("many",I n)]]) ok;obtain⟨p,nd,o⟩:=ok;refine⟨vs,pm,?_⟩;have u:fO [I n] (M++[.obj "Web" []])=Z (B true,M++[.obj "Web" []]):=jN _ _;have v:decide (n<1)=false:=C2 (by omega);have A:decide (n > 40)=false:=C2 (by omega);have p:objOf "Web" (M++[.obj "Web" []]) (.c M.length)=Z (M.length,[]):=GY;have s1:(M++[Cell.obj "Web" []]).set M.length (.obj "Web" (zF "many" (I n) []))=M++[.obj "Web" [("many",I n)]]:=CU
 have k:hV [I n,.d (rA l us)] (M++[.obj "Web" [("many",I n)]])=Z (.d (.tuple (eT vs)),M++[.obj "Web" [("many",I n)],.dt (bC us)]):=by
  rw[k,L3];rfl
 have C:objOf "Web" (M++[.obj "Web" [("many",I n)],.dt (bC us)]) (.c M.length)=Z (M.length,([("many",I n)]:Tu)):=GY;have D:zF "ties" (.d (.tuple (eT vs))) ([("many",I n)]:Tu)=([("many",I n),("ties",.d (.tuple (eT vs)))]:Tu):=rfl;have s2:(M++[Cell.obj "Web" [("many",I n)],.dt (bC us)]).set M.length (.obj "Web" [("many",I n),("ties",.d (.tuple (eT vs)))])=M++[.obj "Web" [("many",I n),("ties",.d (.tuple (eT vs)))],.dt (bC us)]:=CU;have q:∀L,objOf "Web" (M++(.obj "Web" [("many",I n),("ties",.d (.tuple (eT vs)))]::L)) (.c M.length)=Z (M.length,([("many",I n),("ties",.d (.tuple (eT vs)))]:Tu)):=fun L=>GY;have E:List.lookup ("ties":Str) [("many",I n),("ties",.d (.tuple (eT vs)))]=Z (.d (.tuple (eT vs))):=rfl
 have it:dP (vN "Web" "ties"<|aE 0) [Z (.c M.length),Z<|I n,Z (.d (rA l us))] (M++[.obj "Web" [("many",I n),("ties",.d (.tuple (eT vs)))],.dt (bC us)])=Z ((RX<|vs.filter big).map .d,M++[.obj "Web" [("many",I n),("ties",.d (.tuple (eT vs)))],.dt (bC us)]):=by
  have:vN "Web" "ties" (aE 0) [Z (.c M.length),Z<|I n,Z (.d (rA l us))] (M++[.obj "Web" [("many",I n),("ties",.d (.tuple (eT vs)))],.dt (bC us)])=Z (.d (.tuple (eT vs)),M++[.obj "Web" [("many",I n),("ties",.d (.tuple (eT vs)))],.dt (bC us)]):=by
   simp![vN,q,E]
  unfold dP;rw[this];rfl
 have T:(vs.filter big).length<=vs.length:=List.length_filter_le ..;have U:vs.length<64:=by rw[pm.length_eq];exact o
 have G:(vs.map Tie.key).Nodup:=(pm.map Tie.key).nodup_iff.mpr nd;have ln:(M++[Cell.obj "Web" [("many",I n),("ties",.d (.tuple (eT vs)))],.dt (bC us)]).length=M.length+2:=by rw[B1];rfl
 have s:=DO (N:=M++[.obj "Web" [("many",I n),("ties",.d (.tuple (eT vs)))],.dt (bC us)]) (vs.filter big) [] Y Y Y (by rw[List.nil_append];exact II G) (by simp only[List.length_nil];omega);rw[List.nil_append]at s
 have H:lK [Z (.c M.length),Z<|I n,Z (.d (rA l us))] (M++[.obj "Web" [("many",I n),("ties",.d (.tuple (eT vs)))],.dt (bC us)])=Z (.c (M.length+2),M++[.obj "Web" [("many",I n),("ties",.d (.tuple (eT vs)))],.dt (bC us),.dt (bC<|vs.filter big)]):=by
  unfold lK fDc;rw[it,A2];dsimp only;rw[show sP [Y,Y,Y] [Z (CD.c M.length),Z<|I n,Z (.d (rA l us))]=[Y,Y,Y]from rfl,show(M++[Cell.obj "Web" [("many",I n),("ties",CD.d (.tuple (eT vs)))],.dt (bC us)]++[Cell.dt []])=M++[Cell.obj "Web" [("many",I n),("ties",CD.d (.tuple (eT vs)))],.dt (bC us)]++[Cell.dt (bC [])]from rfl,s,A2,ln,L3];rfl
 have K:zF "weights" (.c (M.length+2)) ([("many",I n),("ties",.d (.tuple (eT vs)))]:Tu)=([("many",I n),("ties",.d (.tuple (eT vs))),("weights",.c (M.length+2))]:Tu):=rfl;have O:(M++[Cell.obj "Web" [("many",I n),("ties",.d (.tuple (eT vs)))],.dt (bC us),.dt (bC<|vs.filter big)]).set M.length (.obj "Web" [("many",I n),("ties",.d (.tuple (eT vs))),("weights",.c (M.length+2))])=M++aGk M.length n us vs:=CU;have P:([]:Tu).length<1000:=by decide
 have Q:([("many",I n)]:Tu).length<1000:=by show 1<1000;decide
 have R:([("many",I n),("ties",.d (.tuple (eT vs)))]:Tu).length<1000:=by show 2<1000;decide
 simp![fU,pQ,u,v,A,zS,p,s1,k,C,D,s2,H,q,K,O,if_true,if_pos P,if_pos Q,if_pos R,show(0:Nat)<1000 from by decide,show(0+1:Nat)<1000 from by decide,show(1:Nat)<1000 from by decide,show(2:Nat)<1000 from by decide,show(0+1+1:Nat)<1000 from by decide]
def aQ{f g:SF}{k:Ga}(h:f γ M=Z (.nx k,M')):bA f g γ M=g k M':=by simp only[bA,h,Option.bind_some]
def pF{f g:SF}{x:CD}(h:f γ M=Z (.rt x,M')):bA f g γ M=Z (.rt x,M'):=by simp only[bA,h,Option.bind_some]
def bR{i:Nat}{x:CD}(h:f γ M=Z (x,M')):bG f (hName i) γ M=Z (.nx (γ.set i<|Z x),M'):=by simp only[bG,hName,h,Option.bind_some]
def eJ{ps N:Nat}{b:SF}{x:CD}(h:xs.length=ps)(k:b (xs.map Z++List.replicate (N-xs.length) Y) M=Z (.rt x,M')):fnF ps N b xs M=Z (x,M'):=by simp only[fnF,if_pos h,k,Option.bind_some]
def uE{f:AF}{g:GF}{b:SF}{M1:Sto}{r:Tw (Out×Sto)}(h:f γ M=Z (xs,M1))(k:nO g b xs γ M1=r):vQ f g b γ M=r:=by simp only[vQ,h,Option.bind_some,k]
def oS{g:GF}{b:SF}{x:CD}{k o:Ga}{M1 M2:Sto}(h:g x γ M=Z (k,M1))(p:b k M1=Z (.nx o,M2)):nO g b (x::xs) γ M=nO g b xs o M2:=by
 conv=>lhs;unfold nO
 rw[h,A2];dsimp only;rw[p];rfl
def aH{g:AF}{M1 M2:Sto}{x:CD}(k:f γ M=Z (x,M1))(o:g γ M1=Z (xs,M2)):aB f g γ M=Z (x::xs,M2):=by simp only[aB,k,o,Option.bind_some]
def aV:aG γ M=Z ([],M):=rfl
def bD{M1 M2:Sto}{y:CD}(ha:fa γ M=Z (xs,M1))(h:F xs M1=Z (y,M2)):aL F fa γ M=Z (y,M2):=by simp only[aL,ha,Option.bind_some,h]
def aZ{k:F2}{M1 M2:Sto}{a b c:CD}(o:f γ M=Z (a,M1))(p:g γ M1=Z (b,M2))(h:k a b M2=Z (c,M3)):fOp k f g γ M=Z (c,M3):=by simp only[fOp,o,p,Option.bind_some,h]
def eA{M1:Sto}{b:Bool}(h:f γ M=Z (B b,M1)):gB f γ M=Z (b,M1):=by
 unfold gB;rw[h];rfl
def jI{c:TF}{a b:SF}(h:c γ M=Z (true,M')):sIf c a b γ M=a γ M':=by simp only[sIf,h,Option.bind_some,if_true]
def hZ{c:TF}{a b:SF}(h:c γ M=Z (false,M')):sIf c a b γ M=b γ M':=by simp only[sIf,h,Option.bind_some,Bool.false_eq_true,if_false]
def KM(h:bI r=Z ds)(M:Sto):jS [.d r] M=Z (I ds.length,M):=by
 cases r<;>first|(cases h;rfl)|cases h
def wF{o:Type}{xs:Tv o}{k:Nat}{x:o}(h:xs[k]?=Z x):atI xs (k:Int)=Z x:=by
 have p:k<xs.length:=(List.getElem?_eq_some_iff.mp h).1;unfold atI ixN;rw[A7 (Int.natCast_nonneg k),A7 (by omega),A2,F0,h]
def vX{p:Type}{ds:Tv p}{k:Int}(hm:0<m)(t:(ds.length:Int)=m):∃d,atI ds (k % m)=Z d/\d∈ds:=by
 have u:=L7 k (show m≠0 by omega);have v:=J7 k hm;have o:(k % m).toNat<ds.length:=by omega
 obtain⟨q,s⟩:∃q:Nat,k % m=(q:Nat):=⟨(k % m).toNat,by omega⟩;rw[s]at o ⊢;rw[F0]at o;exact⟨ds[q],wF<|B2 o,List.getElem_mem o⟩
abbrev cI(xs:T6):Cell:=.lst (xs.map fun i=>I i)
def Li(M:Sto)(c:Nat)(xs:T6):Prop:=M[c]?=Z (cI xs)
structure Oth(c:Nat)(M M':Sto):Prop where
 len:M'.length=M.length
 at_:∀i,i≠c->M'[i]?=M[i]?
def Li.lt{xs:T6}(h:Li M c xs):c<M.length:=(List.getElem?_eq_some_iff.mp h).1
def Li.set{xs ys:T6}(h:Li M c xs):Li (M.set c<|cI ys) c ys/\Oth c M (M.set c<|cI ys):=
 ⟨by unfold Li;rw[E8 h.lt],by rw[S3],fun i hi=>by rw[C6 (F5 hi)]⟩
def Li.oth{d:Nat}{xs:T6}(h:Li M c xs)(o:Oth d M M')(ne:c≠d):Li M' c xs:=by unfold Li;rw[o.at_ c ne];exact h
def Li.app{xs:T6}(h:Li M c xs):Li (M++L) c xs:=by unfold Li;rw[E7 h.lt];exact h
def Li.ty{xs:T6}(h:Li M c xs):tyB "list" M (.c c)=true:=by
 unfold Li at h;simp only[tyB,h];decide
def Li.ln{xs:T6}(h:Li M c xs):jS [.c c] M=Z (I xs.length,M):=by
 unfold Li at h;simp only[jS,h,List.length_map]
def Li.push{xs:T6}(h:Li M c xs)(k:xs.length<1000):fV (.c c) [I z] M=Z (.d .none,M.set c<|cI (xs++[z])):=by
 have l:(xs.map fun i=>I i).length<sizeLine:=by rw[A3,E6];omega
 unfold Li at h;simp only[fV,h,if_pos l,cI,List.map_append,List.map_singleton]
def Li.pop{xs:T6}(h:Li M c (xs++[z])):MV (.c c) [] M=Z (I z,M.set c<|cI xs):=by
 have k:((xs++[z]).map fun i=>I i)[((xs++[z]).map fun i=>I i).length-1]?=Z (I z):=by
  rw[A3,B1,D6,Nat.add_sub_cancel,C0,F6<|A9 _,Y1];rfl
 have o:((xs++[z]).map fun i=>I i).dropLast=xs.map fun i=>I i:=by
  rw[J0,List.map_singleton,List.dropLast_concat]
 unfold Li at h;simp only[MV,h,k,o,Option.bind_some]
def sO(lo:Int)(n:Nat):fG lo (n+1)=I lo::fG (lo+1) n:=by
 unfold fG;rw[List.range_succ_eq_map,C7,E4];refine congr (U5 List.cons ?_) (U3 fun k _=>?_)
 .show CD.d (.int (lo+((0:Nat):Int)))=I lo;rw[show lo+((0:Nat):Int)=lo by omega]
 .show CD.d (.int (lo+((k+1:Nat):Int)))=.d (.int (lo+1+(k:Nat)));rw[show lo+((k+1:Nat):Int)=lo+1+(k:Nat)by omega]
def GJ(h:i.natAbs<2 ^ 64):sM i j=true:=by unfold sM;rw[D8 h];rfl
def mul_r(h:j.natAbs<2 ^ 64):sM i j=true:=by unfold sM;rw[D8 h,Bool.or_true];rfl
structure Ex(c:Nat)(M M':Sto):Prop where
 len:M.length<=M'.length
 at_:∀i,i<M.length->i≠c->M'[i]?=M[i]?
def Ex.trans{M1 M2:Sto}(a:Ex c M M1)(b:Ex c M1 M2):Ex c M M2:=⟨D9 a.len b.len,fun i h n=>(b.at_ i (B6 h a.len) n).trans (a.at_ i h n)⟩
def Oth.ex(o:Oth c M M'):Ex c M M':=⟨Y8 o.len.symm,fun i _ n=>o.at_ i n⟩
def Ex.app(c:Nat)(M L:Sto):Ex c M (M++L):=⟨by rw[B1];omega,fun i h _=>E7 h⟩
def BZ{g:GF}{b:SF}{n:Nat}{Inv:Nat->Ga->Sto->Prop}(step:∀k,k<n->∀γ M,Inv k γ M->∃p o M',g (I (k:Nat)) γ M=Z (p,M)/\b p M=Z (.nx o,M')/\Inv (k+1) o M'):
 ∀(m k:Nat)(γ:Ga)(M:Sto),k+m=n->Inv k γ M->∃o M',nO g b (fG (k:Nat) m) γ M=Z (.nx o,M')/\Inv n o M'
 |0=>fun k γ M h i=>⟨γ,M,rfl,by rw[<- h];exact i⟩
 |m+1=>fun k γ M h i=>by
  obtain⟨p,q,M1,s,t,i1⟩:=step k (by omega) γ M i;obtain⟨o,M',u,i2⟩:=BZ step m (k+1) q M1 (by omega) i1;refine⟨o,M',?_,i2⟩;rw[sO,oS s t,show((k:Nat):Int)+1=((k+1:Nat):Int)by omega];exact u
def GX{g:GF}{c:TF}{e:EF}{X E:CD->Prop}{Inv:Nat->Ga->Sto->Prop}
 (step:∀m x γ M,X x->Inv (m+1) γ M->∃k,g x γ M=Z (k,M)/\∃b M2,c k M=Z (b,M2)/\(b=false->Inv m k M2)/\(b=true->∃y M3,e k M2=Z (y,M3)/\E y/\Inv m k M3)):
 ∀(xs:T5)(γ:Ga)(M:Sto),(∀x∈xs,X x)->Inv xs.length γ M->∃ys o M',lcF g c e xs γ M=Z (ys,M')/\(∀y∈ys,E y)/\ys.length<=xs.length/\Inv 0 o M'
 |[]=>fun γ M _ i=>⟨[],γ,M,rfl,fun y h=>by simp at h,A9 _,i⟩
 |x::xs=>fun γ M q i=>by
  obtain⟨k,A,b,M2,B,C,ht⟩:=step _ x γ M (q x B7) i;cases b with
  |false=>
   obtain⟨ys,o,M',s,t,u,v⟩:=GX step xs k M2 (fun y p=>q y<|B4 _ p)<|C rfl;refine⟨ys,o,M',?_,t,Nat.le_succ_of_le u,v⟩;simp only[lcF,A,Option.bind_some,B,Bool.false_eq_true,if_false,s]
  |true=>
   obtain⟨y,M3,D,p,G⟩:=ht rfl;obtain⟨ys,o,M',s,t,u,v⟩:=GX step xs k M3 (fun y p=>q y<|B4 _ p) G;refine⟨y::ys,o,M',?_,fun z hz=>?_,Nat.succ_le_succ u,v⟩
   .simp only[lcF,A,Option.bind_some,B,if_true,D,s]
   .rcases List.mem_cons.mp hz with rfl|hz
    .exact p
    .exact t z hz
def mF(lo:Int)(n:Nat):(fG lo n).length=n:=by unfold fG;rw[A3,C1]
def HP(h:fa γ M=Z ([I J],M))(sm:dG J=true):jP fa γ M=Z (fG 0 J.toNat,M):=by
 simp only[jP,h,Option.bind_some,sm,if_true]
def YZ(h:fa γ M=Z ([I i,I j],M))(s1:dG i=true)(s2:dG j=true):oF fa γ M=Z (fG i (j-i).toNat,M):=by
 simp only[oF,h,Option.bind_some];rw[A7 ⟨s1,s2⟩]
def AR(k:-1000<=i)(o:i<=1000):dG i=true:=by
 unfold dG;rw[B8];exact⟨D8 (by omega),D8 (by omega)⟩
def RP{cap:T2}{f:AF}{g:GF}{c:TF}{M1 M2:Sto}{ys:T5}(it:f γ M=Z (xs,M1))(k:xs.length<=1000)(l:lcF g c e xs (sP cap γ) M1=Z (ys,M2))(o:ys.length<=1000):MB cap f g c e γ M=Z (.c M2.length,M2++[.lst ys]):=by
 unfold MB rB uN;rw[it,A2,A7<|sz k,l,A2,A7<|sz o]
def kS{cap:T2}{f:AF}{g:GF}{c:TF}{M1 M2:Sto}(it:f γ M=Z (xs,M1))(k:xs.length<=1000)(l:lcF g c e xs (sP cap γ) M1=Z (ds.map .d,M2))(o:ds.length<=1000):fLc cap f g c e γ M=Z (.d (.list ds),M2):=OQ it (sz k) l<|sz o
def JT{E:Tz->Prop}:∀{ys:T5},(∀y∈ys,∃d,y=.d d/\E d)->∃ds:T3,ys=ds.map .d/\∀d∈ds,E d
 |[]=>fun _=>⟨[],rfl,fun d h=>by simp at h⟩
 |y::ys=>fun h=>by
  obtain⟨d,rfl,hd⟩:=h y B7;obtain⟨ds,rfl,hs⟩:=JT fun z hz=>h z<|B4 _ hz;refine⟨d::ds,rfl,fun z hz=>?_⟩;rcases List.mem_cons.mp hz with rfl|hz
  .exact hd
  .exact hs z hz
def fQ{x:CD}(h:f γ M=Z (x,M')):cV f γ M=Z (.rt x,M'):=by
 unfold cV;rw[h,A2]
def KO(h:f γ M=Z (.d d,M'))(e:bI d=Z ds):dP f γ M=Z (ds.map .d,M'):=by
 simp only[dP,h,Option.bind_some,e]
def PY{k:Type}{i:Nat}{c:TF}{e:EF}{γ0:Ga}{M:Sto}(f:k->CD)(p:k->Bool)(h:k->Tz):∀(xs:Tv k)(γ:Ga),(∀y,γ.set i y=γ0.set i y)->(∀x∈xs,c (γ0.set i<|Z<|f x) M=Z (p x,M)/\(p x=true->e (γ0.set i<|Z<|f x) M=Z (.d (h x),M)))->lcF (hName i) c e (xs.map f) γ M=Z (((xs.filter p).map h).map .d,M)
 |[]=>fun γ _ _=>rfl
 |x::xs=>fun γ o s=>by
  obtain⟨t,u⟩:=s x B7;have ih:=PY (c:=c) (e:=e) (M:=M) f p h xs (γ0.set i<|Z<|f x) (fun y=>List.set_set ..) (fun y v=>s y<|B4 _ v);rw[C7];unfold lcF;rw[show hName i (f x) γ M=Z (γ0.set i<|Z<|f x,M)by unfold hName;rw[o],A2];dsimp only;rw[t,A2];dsimp only;cases q:p x with
  |false=>rw[B0 (by decide),ih,List.filter_cons_of_neg (by rw[q];decide)]
  |true=>
   rw[A7 rfl,u q,A2];dsimp only;rw[ih,List.filter_cons_of_pos q];rfl
def IG{k:Type}{i:Nat}(f:k->CD)(h:k->Tz)(xs:Tv k)(o:∀x∈xs,e (γ0.set i<|Z<|f x) M=Z (.d (h x),M)):lcF (hName i) fW e (xs.map f) γ0 M=Z ((xs.map h).map .d,M):=by
 have:=PY (i:=i) (c:=fW) (e:=e) (γ0:=γ0) (M:=M) f (fun _=>true) h xs γ0 (fun _=>rfl) fun x p=>⟨rfl,fun _=>o x p⟩
 rwa [List.filter_eq_self.mpr fun _ _=>rfl]at this
def QH{i:Nat}{cap:T2}{ds:T3}{h:Tz->Tz}(k:f γ M=Z (.d d,M))(hd:bI d=Z ds)(p:ds.length<=900)(o:∀x∈ds,e ((sP cap γ).set i (Z (.d x))) M=Z (.d (h x),M)):
 fLc cap (dP f) (hName i) fW e γ M=Z (.d (.list (ds.map h)),M):=
 kS (cap:=cap) (KO k hd) (by rw[A3];omega) (IG (γ0:=sP cap γ) CD.d h ds o) (by rw[A3];omega)
def ET:gtI (I i) (I j) M=Z (B<|decide (j<i),M):=rfl
def uH{e:Tz}(hd:bI d=Z ds)(h:atI ds i=Z e):ixF (.d d) (I i) M=Z (.d e,M):=by
 show(bI d).bind _=_;rw[hd,A2,h];rfl
def mP{T:String}{h:FM}{M1 M2:Sto}{x y:CD}(k:f γ M=Z (x,M1))(ty:tyB T M1 x=true)(ha:fa γ M1=Z (xs,M2))(e:h x xs M2=Z (y,M3)):fJ T h f fa γ M=Z (y,M3):=by
 unfold fJ;rw[k,A2];dsimp only;rw[A7 ty,ha,A2];exact e
def wA{M1:Sto}{x:CD}(h:f γ M=Z (x,M1)):oR f γ M=Z (.nx γ,M1):=by
 unfold oR;rw[h,A2]
def dH{M1:Sto}(h:f γ M=Z (I z,M1))(k:0<b):fOp bV f (fC (.int b)) γ M=Z (I (z % b),M1):=by
 refine aZ h rfl ?_;show(ifS (BB z b) (.int (z % b))).bind _=_;rw[vY k];rfl
def aHg(h:M[c]?=Z (.lst xs)):tyB "list" M (.c c)=true:=by simp only[tyB,h];decide
def aEP{y:CD}(h:M[c]?=Z (.lst xs))(k:xs.length<900):fV (.c c) [y] M=Z (.d .none,M.set c (.lst (xs++[y]))):=by
 have l:xs.length<sizeLine:=by rw[E6];omega
 simp only[fV,h,if_pos l]
def HX{f:AF}{M1:Sto}(h:f γ M=Z (xs,M1))(k:xs.length<=900):rB f γ M=Z (.c M1.length,M1++[.lst xs]):=by
 unfold rB;rw[h,A2];exact A7<|sz (show xs.length<=1000 by omega)
def gC{M1:Sto}(h:f γ M=Z (I z,M1))(k:0<b)(o:b<2 ^ 200):fOp cP f (fC (.int b)) γ M=Z (I (z / b),M1):=by
 refine aZ h rfl ?_;show(ifS (EG z b) (.int (z / b))).bind _=_;rw[WS k (wsm (by omega) o)];rfl
def aBd{l u:OF}{x r:CD}{p q:Tk}(k:f γ M=Z (x,M))(o:l γ M=Z (p,M))(s:u γ M=Z (q,M))(h:slF x p q M=Z (r,M)):fSl f l u γ M=Z (r,M):=by
 unfold fSl;rw[k,A2];dsimp only;rw[o,A2];dsimp only;rw[s,A2];exact h
noncomputable abbrev sD(ns:T6):Tz:=.list (ns.map .int)
def JX:jS [.d (sD ns)] M=Z (I ns.length,M):=by
 have:=KM (r:=sD ns) (ds:=ns.map .int) rfl M
 rwa [A3]at this
def aFv{k:Nat}(h:k<ns.length):∃z,ixF (.d (sD ns)) (I k) M=Z (I z,M):=
 ⟨ns[k],uH (ds:=ns.map .int) rfl<|wF (by rw[C0,B2 h];rfl)⟩
def aAe:ltI (I i) (I j) M=Z (B<|decide (i<j),M):=rfl
def iX{M1 M2:Sto}{x:Int}(k:f γ M=Z (I x,M1))(o:g γ M1=Z (I y,M2))(ok:sM x y=true):fOp iW f g γ M=Z (I (x*y),M2):=aZ k o (by show pI (fun i j=>ifS (sM i j)<|PyData.int (i*j)) (I x) (I y) M2=_;simp only[pI,ifS,ok,if_true,Option.bind_some])
def IP(ns:T6)(k:Nat)(p:k<=200)(M:Sto):∃z,dD [.d (sD ns),I k] M=Z (I z,M):=by
 by_cases h:k<ns.length
 .obtain⟨z,e⟩:=aFv (M:=M) h;refine⟨z,eJ rfl ?_⟩;unfold hJ;refine pF<|(jI<|eA ?_).trans (fQ<|aZ rfl rfl e);rw[aZ (k:=ltI) rfl (bD (aH rfl aV) JX) aAe,D8 (show(k:Int)<(ns.length:Int)by omega)]
 .have t0:gB (fOp ltI (aE 1)<|aL jS<|aB (aE 0) aG) [Z (.d (sD ns)),Z<|I k,Y] M=Z (false,M):=by
   refine eA ?_;rw[aZ (k:=ltI) rfl (bD (aH rfl aV) JX) aAe,C2 (show ¬(k:Int)<(ns.length:Int)by omega)]
  have s1:bG (fOp bP (fC (.int 80021))<|fOp iW (fOp iW (fC (.int 941))<|aE 1)<|aE 1) (hName 2) [Z (.d (sD ns)),Z<|I k,Y] M=Z (.nx [Z (.d (sD ns)),Z<|I k,Z<|I (80021+941*k*k)],M):=bR (i:=2)<|aZ rfl (iX (iX rfl rfl<|GJ (by decide)) rfl<|mul_r (by omega)) gK;by_cases o:0<ns.length
  .obtain⟨z,e⟩:=aFv (M:=M) o
   have t1:gB (fOp gtI (aL jS<|aB (aE 0) aG)<|fC (.int 0)) [Z (.d (sD ns)),Z<|I k,Z<|I (80021+941*k*k)] M=Z (true,M):=by
    refine eA ?_;rw[aZ (k:=gtI) (bD (aH rfl aV) JX) rfl ET,D8 (show(0:Int)<(ns.length:Int)by omega)]
   refine⟨80021+941*k*k+z % 99991*(2*k+5),eJ rfl ?_⟩;unfold hJ;show bA _ _ [Z (.d (sD ns)),Z<|I k,Y] M=_;rw[aQ ((hZ t0).trans rfl),aQ s1,aQ<|(jI t1).trans (bR (i:=2)<|aZ rfl (iX (dH (aZ rfl rfl e) (by decide)) (aZ (iX rfl rfl<|GJ (by decide)) rfl gK)<|mul_r (by omega)) gK)];rfl
  .have t1:gB (fOp gtI (aL jS<|aB (aE 0) aG)<|fC (.int 0)) [Z (.d (sD ns)),Z<|I k,Z<|I (80021+941*k*k)] M=Z (false,M):=by
    refine eA ?_;rw[aZ (k:=gtI) (bD (aH rfl aV) JX) rfl ET,C2 (show ¬(0:Int)<(ns.length:Int)by omega)]
   refine⟨80021+941*k*k,eJ rfl ?_⟩;unfold hJ;show bA _ _ [Z (.d (sD ns)),Z<|I k,Y] M=_;rw[aQ ((hZ t0).trans rfl),aQ s1,aQ<|(hZ t1).trans rfl];rfl
def Dr(M:Sto)(c:Nat):Prop:=∃xs:T6,Li M c xs/\xs.length<=200
def Dr.app(h:Dr M c):Dr (M++L) c:=let⟨xs,a,b⟩:=h;⟨xs,a.app,b⟩
def Dr.oth{d:Nat}(h:Dr M c)(o:Oth d M M')(ne:c≠d):Dr M' c:=let⟨xs,a,b⟩:=h;⟨xs,a.oth o ne,b⟩
def Dr.lt(h:Dr M c):c<M.length:=let⟨_,a,_⟩:=h;a.lt
def qS(h:Dr M c):∃z M',bK [.c c] M=Z (I z,M')/\Dr M' c/\Oth c M M':=by
 obtain⟨xs,a,b⟩:=h;rcases List.eq_nil_or_concat xs with rfl|⟨ys,z,rfl⟩
 .refine⟨0,M,eJ rfl ?_,⟨[],a,b⟩,⟨rfl,fun _ _=>rfl⟩⟩;have t:gB (fOp gtI (aL jS<|aB (aE 0) aG)<|fC (.int 0)) [Z (.c c)] M=Z (false,M):=eA<|aZ (bD (aH rfl aV) a.ln) rfl ET;unfold kD;show bA _ _ [Z (.c c)] M=_;rw[aQ ((hZ t).trans rfl)];rfl
 .rw[List.concat_eq_append]at a b
  have t:gB (fOp gtI (aL jS<|aB (aE 0) aG)<|fC (.int 0)) [Z (.c c)] M=Z (true,M):=by
   refine eA ?_;rw[aZ (k:=gtI) (bD (aH rfl aV) a.ln) rfl ET,D8 (by rw[B1,D6];omega)]
  refine⟨z,_,eJ rfl ?_,⟨ys,(a.set).1,by rw[B1]at b;omega⟩,(a.set).2⟩;unfold kD;show bA _ _ [Z (.c c)] M=_;exact pF<|(jI t).trans (fQ<|mP (x:=.c c) rfl a.ty aV a.pop)
def ints_map:∀ns:T6,oQ (ns.map .int)=Z ns
 |[]=>rfl
 |n::ns=>by show(oQ<|ns.map .int).bind _=_;rw[ints_map ns];rfl
abbrev GD(ns:T6)(f:Nat)(l:Int)(g5 g6:Te):Ga:=[Z (.d (sD ns)),Z<|I 0,Z<|I 120,Z (.c f),Z<|I l,g5,g6]
def XZ{zs:T6}:∃s,sumF [.d (.list (zs.map .int))] M=Z (I s,M):=⟨zs.sum,by
 show(oQ (zs.map .int)).bind _=_;rw[ints_map];rfl⟩
def ZY{xs:T6}{lo hi:Tk}(h:Li M c xs):slF (.c c) lo hi M=Z (.d (.list ((lV xs lo hi).map .int)),M):=by
 have e:lV (xs.map fun i=>I i) lo hi=((lV xs lo hi).map PyData.int).map .d:=by
  unfold lV;rw[A3,<- List.map_drop,<- List.map_take,E4];rfl
 unfold Li at h;simp only[slF,h,e,lN,Option.bind_some]
def aDM{xs:T6}(h:Li M c xs):iV (.c c) [] M=Z (.d .none,M.set c<|cI xs.reverse):=by
 have:=h;unfold Li at this;simp only[iV,this];rw[cI,List.map_reverse]
def aAz(ns:T6):∃c M,iN [.d (sD ns),I 0,I 120] []=Z (.c c,M)/\Dr M c:=by
 obtain⟨z,H⟩:=IP ns 0 (by decide) [cI []]
 obtain⟨l,Q,s2⟩:∃l:Int,0<=l/\bG (aL sI<|aB (fC (.int 0))<|aB (aL dD<|aB (aE 0)<|aB (aE 1) aG) aG) (hName 4) [Z (.d (sD ns)),Z<|I 0,Z<|I 120,Z (.c 0),Y,Y,Y] [cI []]=Z (.nx (GD ns 0 l Y Y),[cI []]):=
  ⟨if z > 0 then z else 0,by split<;>omega,bR (i:=4)<|bD (aH rfl<|aH (bD (aH rfl<|aH rfl aV) H) aV) rfl⟩
 have s1:bG (rB aG) (hName 3) [Z (.d (sD ns)),Z<|I 0,Z<|I 120,Y,Y,Y,Y] []=Z (.nx [Z (.d (sD ns)),Z<|I 0,Z<|I 120,Z (.c 0),Y,Y,Y],[cI []]):=bR (i:=3)<|HX aV (by decide);have D:∀(l:Int)(g5 g6:Te)(M:Sto),jP (aB (aE 2) aG) (GD ns 0 l g5 g6) M=Z (fG 0 120,M):=fun l g5 g6 M=>HP (J:=120) rfl<|AR (by decide) (by decide);have t:gB (fOp geI (aE 4)<|fOp BO (fC (.int 10))<|fC (.int 18)) (GD ns 0 l Y Y) [cI []]=Z (decide ((10:Int) ^ 18<=l),[cI []]):=eA<|aZ rfl (show fOp BO (fC (.int 10)) (fC (.int 18)) (GD ns 0 l Y Y) [cI []]=Z (I (10 ^ 18),[cI []])from rfl) rfl;by_cases E:(10:Int) ^ 18<=l
 .rw[D8 E]at t
  obtain⟨u,M',v,⟨A,g5,p⟩,xs,o,s⟩:=BZ (g:=hName 5) (b:=iT) (n:=120) (Inv:=fun k γ M=>(∃l g5,γ=GD ns 0 l g5 Y)/\∃xs,Li M 0 xs/\xs.length=k) (by
   rintro k K γ M ⟨⟨l,g5,rfl⟩,xs,o,s⟩;refine⟨_,GD ns 0 (l / 10000) (Z (I (k:Nat))) Y,_,rfl,?_,⟨_,_,rfl⟩,xs++[l % 10000],(o.set).1,by rw[B1,s];rfl⟩;unfold iT;have a:oR (fJ "list" fV (aE 3) (aB (fOp bV (aE 4) (fC (.int 10000))) aG)) (GD ns 0 l (Z (I (k:Nat))) Y) M=Z (.nx (GD ns 0 l (Z (I (k:Nat))) Y),M.set 0 (cI (xs++[l % 10000]))):=wA (x:=.d .none) (mP (x:=.c 0) rfl o.ty (aH (dH rfl (by decide)) aV) (o.push (by omega)));exact(aQ a).trans (bR (i:=4) (gC rfl (by decide) (by decide)))) 120 0 (GD ns 0 l Y Y) [cI []] rfl ⟨⟨_,_,rfl⟩,[],rfl,rfl⟩
  subst p
  have N:cF (fOp cP (aE 2)<|fC (.int 2)) (GD ns 0 A g5 Y) M'=Z (Z 60,M'):=by
   unfold cF;rw[gC (z:=120) (b:=2) rfl (by decide) (by decide)];rfl
  obtain⟨sm,es⟩:=XZ (zs:=lV xs (Z 60) Y) (M:=M');have t2:gB (fOp (eqX false) (aL sumF<|aB (fSl (aE 3) (cF<|fOp cP (aE 2)<|fC (.int 2)) bL) aG)<|fC (.int 0)) (GD ns 0 A g5 Y) M'=Z (sm==0,M'):=eA<|aZ (bD (aH (aBd rfl N rfl<|ZY o) aV) es) rfl mE
  have B:∃M2,bA (sIf (gB<|fOp (eqX false) (aL sumF<|aB (fSl (aE 3) (cF<|fOp cP (aE 2)<|fC (.int 2)) bL) aG)<|fC (.int 0)) (oR<|fJ "list" iV (aE 3) aG) cH) (cV<|aE 3) (GD ns 0 A g5 Y) M'=Z (.rt (.c 0),M2)/\Dr M2 0:=by
   cases q:sm==0 with
   |true=>
    rw[q]at t2;refine⟨_,(aQ<|(jI t2).trans (wA (x:=.d .none)<|mP (x:=.c 0) rfl o.ty aV<|aDM o)).trans rfl,xs.reverse,(o.set).1,by rw[List.length_reverse];omega⟩
   |false=>
    rw[q]at t2;exact⟨M',(aQ<|(hZ t2).trans rfl).trans rfl,xs,o,by omega⟩
  obtain⟨M2,O,dr⟩:=B;refine⟨0,M2,eJ rfl ?_,dr⟩;unfold iK;show bA _ _ [Z (.d (sD ns)),Z<|I 0,Z<|I 120,Y,Y,Y,Y] []=_;rw[aQ s1,aQ s2];refine pF<|(jI t).trans ?_;rw[aQ (uE (D _ _ _ _) v)];exact O
 .rw[C2 E]at t;have P:bG (fOp bV (fOp iW (fOp bV (aE 4)<|fC (.int 2147483647))<|fC (.int 48271))<|fC (.int 2147483647)) (hName 6) (GD ns 0 l Y Y) [cI []]=Z (.nx (GD ns 0 l Y<|Z<|I (l % 2147483647*48271 % 2147483647)),[cI []]):=bR (i:=6) (dH (iX (dH rfl (by decide)) rfl<|mul_r (by decide)) (by decide))
  obtain⟨u,M',v,⟨g5,d,p⟩,xs,o,s⟩:=BZ (g:=hName 5) (b:=iZ) (n:=120) (Inv:=fun k γ M=>(∃g5 d,γ=GD ns 0 l g5 (Z<|I d))/\∃xs,Li M 0 xs/\xs.length=k) (by
   rintro k K γ M ⟨⟨g5,d,rfl⟩,xs,o,s⟩;obtain⟨z,C⟩:=IP ns (1+k % 30) (by omega) M;have C:dD [.d (sD ns),I ((0:Int)+1+(k:Int) % 30)] M=Z (I z,M):=by rw[show(0:Int)+1+(k:Int) % 30=((1+k % 30:Nat):Int)by omega];exact C
   have a:bG (fOp bV (fOp bP (fOp bP (fOp bP (fOp iW (aE 6)<|fC (.int 48271))<|aL dD<|aB (aE 0)<|aB (fOp bP (fOp bP (aE 1)<|fC (.int 1))<|fOp bV (aE 5)<|fC (.int 30)) aG)<|fOp iW (aE 5)<|aE 5)<|fC (.int 7))<|fC (.int 2147483629)) (hName 6) (GD ns 0 l (Z<|I (k:Nat))<|Z<|I d) M=Z (.nx (GD ns 0 l (Z<|I (k:Nat))<|Z<|I ((d*48271+z+(k:Int)*k+7) % 2147483629)),M):=
    bR (i:=6) (dH (aZ (aZ (aZ (iX rfl rfl<|mul_r (by decide)) (bD (aH rfl<|aH (aZ (aZ rfl rfl gK) (dH rfl (by decide)) gK) aV) C) gK) (iX rfl rfl<|mul_r (by omega)) gK) rfl gK) (by decide))
   generalize (d*48271+z+(k:Int)*k+7) % 2147483629=G at a;refine⟨_,GD ns 0 l (Z (I (k:Nat))) (Z (I G)),_,rfl,?_,⟨_,_,rfl⟩,xs++[(G*39373+11*k) % 2147483647 / 16],(o.set).1,by rw[B1,s];rfl⟩;unfold iZ;exact(aQ a).trans (wA (x:=.d .none) (mP (x:=.c 0) rfl o.ty (aH (gC (dH (aZ (iX rfl rfl (mul_r (by decide))) (iX rfl rfl (GJ (by decide))) gK) (by decide)) (by decide) (by decide)) aV) (o.push (by omega))))) 120 0 (GD ns 0 l Y (Z (I (l % 2147483647*48271 % 2147483647)))) [cI []] rfl ⟨⟨_,_,rfl⟩,[],rfl,rfl⟩
  subst p;refine⟨0,M',eJ rfl ?_,xs,o,by omega⟩;unfold iK;show bA _ _ [Z (.d (sD ns)),Z<|I 0,Z<|I 120,Y,Y,Y,Y] []=_;rw[aQ s1,aQ s2,aQ<|(hZ t).trans rfl,aQ P,aQ<|uE (D _ _ _ _) v];rfl
def xQ{M1 M2:Sto}(h:f γ M=Z (I z,M1))(k:g γ M1=Z (I b,M2))(o:0<b):fOp bV f g γ M=Z (I (z % b),M2):=by
 refine aZ h k ?_;have:=vY (x:=z) o;show pI (fun i j=>ifS (BB i j)<|PyData.int (i % j)) (I z) (I b) M2=_;simp only[pI,ifS,this,if_true,Option.bind_some]
def AQ{k o:Type}(f:k->o):∀(xs:Tv k)(j:Nat),(xs.map f).eraseIdx j=(xs.eraseIdx j).map f
 |[],_=>rfl
 |_::_,0=>rfl
 |x::xs,j+1=>by show f x::(xs.map f).eraseIdx j=f x::(xs.eraseIdx j).map f;rw[AQ f xs j]
def yM{k:Type}:∀(xs:Tv k)(j:Nat)(h:j<xs.length),(xs[j]::xs.eraseIdx j).Perm xs
 |x::xs,0,_=>.refl _
 |x::xs,j+1,h=>by
  have ih:=yM xs j<|Nat.lt_of_succ_lt_succ h;exact(List.Perm.swap x (xs[j]'(Nat.lt_of_succ_lt_succ h))<|xs.eraseIdx j).trans (ih.cons x)
def PX{xs:T6}{j:Nat}(h:Li M c xs)(k:j<xs.length)(o:xs.length<=900):rJ (.c c) [I j] M=Z (I xs[j],M.set c<|cI<|xs.eraseIdx j):=by
 unfold Li at h;have l:(xs.map fun i=>I i).length=xs.length:=A3 _;show(match M[c]? with|some (.lst xs)=>_|_=>Y)=_;rw[h];dsimp only[cI];rw[A7 ⟨Int.natCast_nonneg _,by rw[l];omega,by rw[l];exact sz (by omega)⟩,F0,C0,B2 k];simp only[Option.map_some,Option.bind_some];rw[AQ]
structure Two(c d:Nat)(M M':Sto):Prop where
 len:M'.length=M.length
 at_:∀i,i≠c->i≠d->M'[i]?=M[i]?
def yD{c d:Nat}(ne:d≠c):∀(m:Nat)(k:Int)(o:T6)(g:Te)(M:Sto),o.length=m->m<=8->Li M d o->Dr M c->
 ∃(ys:T6)(M':Sto),lcF (hName 2) fW (fJ "list" rJ (aE 0)<|aB (fOp bV (aL bK<|aB (aE 1) aG)<|aL jS<|aB (aE 0) aG) aG) (fG k m) [Z (.c d),Z (.c c),g] M=Z ((ys.map PyData.int).map .d,M')/\ys.Perm o/\Dr M' c/\Two c d M M'
 |0=>fun k o g M C _ _ dr=>⟨[],M,rfl,by rw[List.length_eq_zero_iff.mp C],dr,⟨rfl,fun _ _ _=>rfl⟩⟩
 |m+1=>fun k o g M C P D dr=>by
  obtain⟨z,M1,K,u,v⟩:=qS dr;have q:Li M1 d o:=D.oth v ne;have Q:=L7 z (show((o.length:Nat):Int)≠0 by omega);have R:=J7 z (show(0:Int)<((o.length:Nat):Int)by omega);obtain⟨j,N⟩:∃j:Nat,z % ((o.length:Nat):Int)=(j:Int):=⟨(z % ((o.length:Nat):Int)).toNat,by omega⟩;have A:j<o.length:=by omega
  have p:=PX q A (by omega)
  have el:fJ "list" rJ (aE 0) (aB (fOp bV (aL bK<|aB (aE 1) aG)<|aL jS<|aB (aE 0) aG) aG) [Z (.c d),Z (.c c),Z<|I k] M=Z (I o[j],M1.set d<|cI<|o.eraseIdx j):=by
   refine mP (x:=.c d) rfl D.ty (aH (xQ (bD (aH rfl aV) K) (bD (aH rfl aV) q.ln) (by omega)) aV) ?_;rw[N];exact p
  have t:=(q.set (ys:=o.eraseIdx j));have s:(o.eraseIdx j).length=m:=by rw[List.length_eraseIdx_of_lt A];omega
  obtain⟨ys,M',O,pm,B,E⟩:=yD ne m (k+1) (o.eraseIdx j) (Z<|I k) _ s (by omega) t.1<|u.oth t.2<|F5 ne;refine⟨o[j]::ys,M',?_,(pm.cons _).trans (yM o j A),B,⟨by rw[E.len,t.2.len,v.len],fun i G H=>by rw[E.at_ i G H,t.2.at_ i H,v.at_ i G]⟩⟩;rw[sO];unfold lcF;rw[show hName 2 (I k) [Z (.c d),Z (.c c),g] M=Z ([Z (.c d),Z (.c c),Z<|I k],M)from rfl,A2];dsimp only;rw[show fW [Z (.c d),Z (.c c),Z<|I k] M=Z (true,M)from rfl,A2];dsimp only;rw[A7 rfl,el,A2];dsimp only;rw[O];rfl
noncomputable def upTo(n:Nat):T6:=(List.range n).map fun i:Nat=>(i:Int)
def aDQ(h:fa γ M=Z ([I J],M))(sm:dG J=true)(k:J.toNat<=sizeLine):rV true fa γ M=Z (.c M.length,M++[.lst (fG 0 J.toNat)]):=by
 have o:dG J=true/\J.toNat<=sizeLine:=⟨sm,k⟩;unfold rV;rw[h,A2];dsimp only;rw[A7 o,A7 rfl]
def RY(n:Nat):fG 0 n=(upTo n).map fun i=>I i:=by
 unfold fG upTo;rw[E4];refine U3 fun i _=>?_;show CD.d (.int (0+(i:Int)))=I (i:Int);rw[Int.zero_add]
def ZL(hn:n<=8):rV true (aB (aE 1) aG) [Z (.c c),Z<|I n,Y] M=Z (.c M.length,M++[cI (upTo n)]):=by
 have:=aDQ (J:=(n:Int)) (fa:=aB (aE 1) aG) (γ:=[Z (.c c),Z<|I n,Y]) (M:=M) rfl (AR (by omega) (by omega))<|sz (by omega);rw[F0,RY]at this;exact this
def aAd(hn:n<=8)(dr:Dr M c):∃(os:T6)(M':Sto),iM [.c c,I n] M=Z (.d (.list (os.map .int)),M')/\os.Perm (upTo n)/\Dr M' c/\Ex c M M':=by
 have q:rV true (aB (aE 1) aG) [Z (.c c),Z<|I n,Y] M=Z (.c M.length,M++[cI (upTo n)]):=ZL hn;have s:Li (M++[cI (upTo n)]) M.length (upTo n):=pO;obtain⟨ys,M',e,pm,k,o⟩:=yD (c:=c) (d:=M.length) (E1 dr.lt) n 0 (upTo n) Y (M++[cI (upTo n)]) (by unfold upTo;rw[A3,C1]) hn s dr.app;have p:=pm.length_eq;unfold upTo at p;rw[A3,C1]at p
 have t:jP (aB (aE 1) aG) [Z (.c c),Z<|I n,Z (.c M.length)] (M++[cI (upTo n)])=Z (fG 0 n,M++[cI (upTo n)]):=by
  have:=HP (fa:=aB (aE 1) aG) (γ:=[Z (.c c),Z<|I n,Z (.c M.length)]) (M:=M++[cI (upTo n)]) (J:=(n:Int)) rfl<|AR (by omega) (by omega)
  rwa [F0]at this
 refine⟨ys,M',eJ rfl ?_,pm,k,⟨by rw[o.len,B1];omega,fun i u v=>by rw[o.at_ i v (by omega),E7 u]⟩⟩;unfold mV;show bA _ _ [Z (.c c),Z<|I n,Y] M=_;rw[aQ (bR (i:=2) q)];exact fQ<|kS t (by rw[mF];omega) e (by rw[A3];omega)
def DG(dr:Dr M c):∃a b M',eD [.c c] M=Z (.d (.tuple [.int a,.int b]),M')/\iQ a b=true/\Dr M' c/\Oth c M M':=by
 obtain⟨z,M1,v,p,u⟩:=qS dr;have s1:bG (aL bK<|aB (aE 0) aG) (hName 1) [Z (.c c),Y] M=Z (.nx [Z (.c c),Z<|I z],M1):=bR (i:=1)<|bD (aH rfl aV) v;have t:gB (fOp (eqX false) (fOp bV (aE 1)<|fC (.int 30))<|fC (.int 0)) [Z (.c c),Z<|I z] M1=Z (z % 30==0,M1):=eA<|aZ (dH rfl (by decide)) rfl mE
 have o:∀{K:EF}{ds:T3}{m:Int},(∀γ M,K γ M=Z (.d (.list ds),M))->0<m->(ds.length:Int)=m->(∀d∈ds,∃a b,d=.tuple [.int a,.int b]/\iQ a b=true)->∃a b,fOp ixF K (fOp bV (fOp cP (aE 1)<|fC (.int 30))<|fC (.int m)) [Z (.c c),Z<|I z] M1=Z (.d (.tuple [.int a,.int b]),M1)/\iQ a b=true:=fun{K ds m} A hm B hd=>by
  obtain⟨d,e,s⟩:=vX (ds:=ds) (k:=z / 30) (m:=m) hm B;obtain⟨a,b,rfl,w⟩:=hd d s;exact⟨a,b,aZ (A _ _) (dH (gC rfl (by decide) (by decide)) hm)<|uH rfl e,w⟩
 have C:∀d∈[PyData.tuple [.int 1000000000000,.int 1],.tuple [.int 1,.int 55440],.tuple [.int 999999999989,.int 55440],.tuple [.int 5,.int 7]],∃a b,d=.tuple [.int a,.int b]/\iQ a b=true:=fun d hd=>by
  simp only[List.mem_cons,List.not_mem_nil,or_false]at hd;rcases hd with rfl|rfl|rfl|rfl<;>exact⟨_,_,rfl,by decide +kernel⟩
 have D:∀d∈[PyData.tuple [.int 1,.int 1],.tuple [.int 1,.int 1],.tuple [.int 2,.int 1],.tuple [.int 1,.int 2],.tuple [.int 3,.int 4],.tuple [.int 0,.int 1],.tuple [.int 1,.int 1],.tuple [.int 3,.int 1]],∃a b,d=.tuple [.int a,.int b]/\iQ a b=true:=fun d hd=>by
  simp only[List.mem_cons,List.not_mem_nil,or_false]at hd;rcases hd with rfl|rfl|rfl|rfl|rfl|rfl|rfl|rfl<;>exact⟨_,_,rfl,by decide +kernel⟩
 cases q:z % 30==0 with
 |true=>
  rw[q]at t;obtain⟨a,b,e,w⟩:=o tZ (by decide) rfl C;refine⟨a,b,M1,eJ rfl ?_,w,p,u⟩;unfold gU;show bA _ _ [Z (.c c),Y] M=_;rw[aQ s1];exact pF<|(jI t).trans (fQ e)
 |false=>
  rw[q]at t;obtain⟨a,b,e,w⟩:=o tX (by decide) rfl D;refine⟨a,b,M1,eJ rfl ?_,w,p,u⟩;unfold gU;show bA _ _ [Z (.c c),Y] M=_;rw[aQ s1,aQ<|(hZ t).trans rfl];exact fQ e
noncomputable abbrev pD(p:Int×Int):Tz:=.tuple [.int p.1,.int p.2]
abbrev pT(p:Int×Int):CD:=.d (pD p)
def SC{M1 M2:Sto}{y:Tz}(h:f γ M=Z (.d x,M1))(k:g γ M1=Z (.d y,M2)):aY (aB f<|aB g aG) γ M=Z (.d (.tuple [x,y]),M2):=by
 unfold aY;rw[aH h (aH k aV),A2];show(if 2<=sizeLine then Z (CD.d (.tuple [x,y]),M2)else Y)=_;rw[A7 (sz (by decide))]
structure Prs(n:Nat)(c e:Nat)(M M':Sto)(ps:Tv (Int×Int)):Prop where
 at_:M'[e]?=Z (.lst (ps.map pT))
 new:M.length<=e
 dr:Dr M' c
 ex:Ex c M M'
 io:∀p∈ps,(0<=p.1/\p.1<n)/\(0<=p.2/\p.2<n)
 len:ps.length<=56
def tK{i:Nat}{lo:Int}{m:Nat}(h:Nat->Int×Int)(o:∀k,k<m->e (γ0.set i<|Z<|I (lo+(k:Nat))) M=Z (pT<|h k,M)):lcF (hName i) fW e (fG lo m) γ0 M=Z ((((List.range m).map h).map pD).map .d,M):=by
 have:=IG (i:=i) (e:=e) (γ0:=γ0) (M:=M) (fun k:Nat=>I (lo+(k:Nat))) (fun k=>pD<|h k) (List.range m) fun k p=>o k<|List.mem_range.mp p;rw[E4 (f:=h)];exact this
def YD{xs:T3}(k:xs.length+ys.length<=900):yB (.d (.list xs)) (.d (.list ys)) M=Z (.c M.length,M++[.lst ((xs++ys).map .d)]):=by
 unfold yB tD;dsimp only;rw[A2,A2,A7<|sz (by rw[A3,A3];omega),J0]
abbrev GP(c n:Nat)(k m:Int)(g4 g5 g6 g7:Te):Ga:=[Z (.c c),Z<|I n,Z<|I k,Z<|I m,g4,g5,g6,g7]
def yW{k:Int}{b r:SF}{x:CD}(h:k=j)(o:b (GP c n k m g4 g5 g6 g7) M=Z (.rt x,M')):bA (sIf (gB<|fOp (eqX false) (aE 2)<|fC (.int j)) b cH) r (GP c n k m g4 g5 g6 g7) M=Z (.rt x,M'):=by
 subst h;refine pF<|(jI<|eA ?_).trans o;rw[aZ (k:=eqX false) rfl rfl mE,beq_self_eq_true]
def fS{k:Int}{b r:SF}(h:k≠j):bA (sIf (gB<|fOp (eqX false) (aE 2)<|fC (.int j)) b cH) r (GP c n k m g4 g5 g6 g7) M=r (GP c n k m g4 g5 g6 g7) M:=by
 refine aQ<|(hZ<|eA ?_).trans rfl;rw[aZ (k:=eqX false) rfl rfl mE,beq_eq_false_iff_ne.mpr h]
def rn1(h:fa γ M=Z ([I J],M))(k:-1000<=J)(o:J<=1000):jP fa γ M=Z (fG 0 J.toNat,M):=HP h<|AR k o
def wY{M1:Sto}{ps:Tv (Int×Int)}(o:Oth c M M1)(dr:Dr M1 c)(io:∀p∈ps,(0<=p.1/\p.1<n)/\(0<=p.2/\p.2<n))(k:ps.length<=56):Prs n c M1.length M (M1++[.lst (ps.map pT)]) ps:=
 ⟨pO,Y8 o.len.symm,dr.app,o.ex.trans<|Ex.app _ _ _,io,k⟩
def aFr{a b:Bool}(h:f γ M=Z (B a,M))(k:g γ M=Z (B b,M)):fOr f g γ M=Z (B (a || b),M):=by
 unfold fOr;rw[h,A2];cases a with
 |true=>rfl
 |false=>exact k
def aBY{x:Int}{b:Bool}:ixF (.d (.list [.int x,.int 0])) (I (if b=true then 1 else 0)) M=Z (I (if b=true then 0 else x),M):=by cases b<;>rfl
def aGt{b:Bool}:LM [B b] M=Z (I (if b=true then 1 else 0),M):=by cases b<;>rfl
def iS{x:Int}(h:f γ M=Z (I x,M))(k:g γ M=Z (I y,M)):aY (aB f<|aB g aG) γ M=Z (pT (x,y),M):=SC h k
def BK:fH (I i) (I j) M=Z (I (i-j),M):=rfl
def WI{x:Int}(h:f γ M=Z (I x,M)):cA (aB f<|aB (fC (.int 0)) aG) γ M=Z (.d (.list [.int x,.int 0]),M):=by
 unfold cA;rw[aH h (aH (x:=I 0) rfl aV),A2];show(if 2<=sizeLine then Z (CD.d (.list [.int x,.int 0]),M)else Y)=_;rw[A7 (sz (by decide))]
def JP(h:f γ M=Z (.d x,M)):cA (aB f aG) γ M=Z (.d (.list [x]),M):=by
 unfold cA;rw[aH h aV,A2];show(if 1<=sizeLine then Z (CD.d (.list [x]),M)else Y)=_;rw[A7 (sz (by decide))]
def BR{M1:Sto}{ps qs:Tv (Int×Int)}(o:Oth c M M1)(dr:Dr M1 c)(k:f γ M1=Z (.d (.list (ps.map pD)),M1))(q:g γ M1=Z (.d (.list (qs.map pD)),M1))(io:∀p∈ps++qs,(0<=p.1/\p.1<n)/\(0<=p.2/\p.2<n))(s:(ps++qs).length<=56):
 ∃e M' rs,fOp yB f g γ M1=Z (.c e,M')/\Prs n c e M M' rs:=by
 have l:=B1 (as:=ps) (bs:=qs);refine⟨_,_,ps++qs,aZ k q<|YD (by rw[A3,A3];omega),?_⟩;rw[<- J0,E4];exact wY o dr io s
def aFU{k:Int}{M1:Sto}(n2:2<=n)(hn:n<=8)(o:Oth c M M1)(dr:Dr M1 c):∃e M' rs,oI (GP c n k m Y Y Y Y) M1=Z (.c e,M')/\Prs n c e M M' rs:=by
 have it:=rn1 (fa:=aB (aE 1) aG) (γ:=GP c n k m Y Y Y Y) (M:=M1) (J:=(n:Int)) rfl (by omega) (by omega);rw[F0]at it;have l:=tK (i:=1) (γ0:=[Z (I n),Y]) (M:=M1) (lo:=0) (m:=n) (fun k=>(0+(k:Int),(0+(k:Int)+1) % (n:Int))) (e:=aY<|aB (aE 1)<|aB (fOp bV (fOp bP (aE 1)<|fC (.int 1))<|aE 0) aG) fun k q=>iS rfl<|xQ (aZ rfl rfl gK) rfl (by omega);have:=RP (cap:=[Z 1,Y]) it (by rw[mF];omega) l (by rw[A3,A3,A3,C1];omega);refine⟨_,_,(List.range n).map fun k:Nat=>(0+(k:Int),(0+(k:Int)+1) % (n:Int)),this.trans (by rw[E4];rfl),wY o dr (fun p s=>?_) (by rw[A3,C1];omega)⟩;obtain⟨k,q,rfl⟩:=List.mem_map.mp s;have:=List.mem_range.mp q;have a:=L7 (0+(k:Int)+1) (show(n:Int)≠0 by omega);have b:=J7 (0+(k:Int)+1) (show(0:Int)<n by omega);exact⟨by dsimp only;omega,a,b⟩
def aFl{k:Int}{M1:Sto}(n2:2<=n)(hn:n<=8)(o:Oth c M M1)(dr:Dr M1 c):∃e M' rs,fOp yB oU (cA<|aB (aY<|aB (fC (.int 0))<|aB (fOp bV (aE 3)<|aE 1) aG) aG) (GP c n k m Y Y Y Y) M1=Z (.c e,M')/\Prs n c e M M' rs:=by
 have it:=rn1 (fa:=aB (aE 1) aG) (γ:=GP c n k m Y Y Y Y) (M:=M1) (J:=(n:Int)) rfl (by omega) (by omega);rw[F0]at it;have l:=tK (i:=2) (γ0:=[Z (I m),Z<|I n,Y]) (M:=M1) (lo:=0) (m:=n) (fun k=>(0+(k:Int),if ((0+(k:Int)==m-1) || (0+(k:Int)==(n:Int)-1))=true then 0 else 0+(k:Int)+1)) (e:=aY<|aB (aE 2)<|aB (fOp ixF (cA<|aB (fOp bP (aE 2)<|fC (.int 1))<|aB (fC (.int 0)) aG)<|aL LM<|aB (fOr (fOp (eqX false) (aE 2)<|fOp fH (aE 0)<|fC (.int 1))<|fOp (eqX false) (aE 2)<|fOp fH (aE 1)<|fC (.int 1)) aG) aG) fun k s=>iS rfl<|aZ (WI<|aZ rfl rfl gK) (bD (aH (aFr (aZ rfl (aZ rfl rfl BK) mE)<|aZ rfl (aZ rfl rfl BK) mE) aV) aGt) aBY;have t:=kS (cap:=[Z 3,Z 1,Y]) it (by rw[mF];omega) l (by rw[A3,A3,C1];omega);refine BR (qs:=[(0,m % (n:Int))]) o dr t (JP<|iS rfl<|xQ rfl rfl (by omega)) (fun p hp=>?_) (by rw[B1,A3,C1,D6];omega);rcases List.mem_append.mp hp with hp|hp
 .obtain⟨k,s,rfl⟩:=List.mem_map.mp hp;have:=List.mem_range.mp s;refine⟨by dsimp only;omega,?_⟩;dsimp only;split
  .omega
  .rename_i q;simp only[Bool.or_eq_true,beq_iff_eq,not_or]at q;omega
 .rw[List.mem_singleton.mp hp];have a:=L7 m (show(n:Int)≠0 by omega);have b:=J7 m (show(0:Int)<n by omega);exact⟨by dsimp only;omega,a,b⟩
def rn2(h:fa γ M=Z ([I i,I j],M))(k:-1000<=i/\i<=1000)(o:-1000<=j/\j<=1000):oF fa γ M=Z (fG i (j-i).toNat,M):=YZ h (AR k.1 k.2)<|AR o.1 o.2
def aFC{k:Int}{M1:Sto}(n2:2<=n)(hn:n<=8)(o:Oth c M M1)(dr:Dr M1 c):∃e M' rs,oP (GP c n k m Y Y Y Y) M1=Z (.c e,M')/\Prs n c e M M' rs:=by
 have it:=rn2 (fa:=aB (fC (.int 1))<|aB (aE 1) aG) (γ:=GP c n k m Y Y Y Y) (M:=M1) (i:=1) (j:=(n:Int)) rfl (by omega) (by omega);rw[show((n:Int)-1).toNat=n-1 by omega]at it;have l:=tK (i:=0) (γ0:=[Y]) (M:=M1) (lo:=1) (m:=n-1) (fun k=>(0,1+(k:Int))) (e:=aY<|aB (fC (.int 0))<|aB (aE 0) aG) fun k q=>iS rfl rfl;have:=RP (cap:=[Y]) it (by rw[mF];omega) l (by rw[A3,A3,A3,C1];omega);refine⟨_,_,(List.range (n-1)).map fun k:Nat=>(0,1+(k:Int)),this.trans (by rw[E4];rfl),wY o dr (fun p s=>?_) (by rw[A3,C1];omega)⟩;obtain⟨k,q,rfl⟩:=List.mem_map.mp s;have:=List.mem_range.mp q;exact⟨by dsimp only;omega,by dsimp only;omega⟩
def aFG{k:Int}{M1:Sto}(n2:2<=n)(hn:n<=8)(o:Oth c M M1)(dr:Dr M1 c):∃e M' rs,fOp yB pM (cA<|aB (aY<|aB (fC (.int 0))<|aB (fOp fH (aE 1)<|fC (.int 1)) aG) aG) (GP c n k m Y Y Y Y) M1=Z (.c e,M')/\Prs n c e M M' rs:=by
 have it:=rn2 (fa:=aB (fC (.int 1))<|aB (aE 1) aG) (γ:=GP c n k m Y Y Y Y) (M:=M1) (i:=1) (j:=(n:Int)) rfl (by omega) (by omega);rw[show((n:Int)-1).toNat=n-1 by omega]at it;have l:=tK (i:=0) (γ0:=[Y]) (M:=M1) (lo:=1) (m:=n-1) (fun k=>((1+(k:Int)) / 2,1+(k:Int))) (e:=aY<|aB (fOp cP (aE 0)<|fC (.int 2))<|aB (aE 0) aG) fun k q=>iS (gC rfl (by decide) (by decide)) rfl;have s:=kS (cap:=[Y]) it (by rw[mF];omega) l (by rw[A3,A3,C1];omega);refine BR (qs:=[(0,(n:Int)-1)]) o dr s (JP<|iS rfl<|aZ rfl rfl BK) (fun p hp=>?_) (by rw[B1,A3,C1,D6];omega);rcases List.mem_append.mp hp with hp|hp
 .obtain⟨k,q,rfl⟩:=List.mem_map.mp hp;have:=List.mem_range.mp q;exact⟨by dsimp only;omega,by dsimp only;omega⟩
 .rw[List.mem_singleton.mp hp];exact⟨by dsimp only;omega,by dsimp only;omega⟩
def aGV{k:Int}{M1:Sto}(n2:2<=n)(hn:n<=8)(o:Oth c M M1)(dr:Dr M1 c):∃e M' rs,fOp yB oE oX (GP c n k m Y Y Y Y) M1=Z (.c e,M')/\Prs n c e M M' rs:=by
 have it:=rn1 (fa:=aB (fOp fH (aE 1)<|fC (.int 2)) aG) (γ:=GP c n k m Y Y Y Y) (M:=M1) (J:=(n:Int)-2) (aH (aZ rfl rfl BK) aV) (by omega) (by omega);rw[show((n:Int)-2).toNat=n-2 by omega]at it;have l:=tK (i:=0) (γ0:=[Y]) (M:=M1) (lo:=0) (m:=n-2) (fun k=>(0+(k:Int),0+(k:Int)+2)) (e:=aY<|aB (aE 0)<|aB (fOp bP (aE 0)<|fC (.int 2)) aG) fun k q=>iS rfl<|aZ rfl rfl gK;have t:=kS (cap:=[Y]) it (by rw[mF];omega) l (by rw[A3,A3,C1];omega);have s:=rn1 (fa:=aB (fOp cP (aE 1)<|fC (.int 2)) aG) (γ:=GP c n k m Y Y Y Y) (M:=M1) (J:=(n:Int) / 2) (aH (gC rfl (by decide) (by decide)) aV) (by omega) (by omega);rw[show((n:Int) / 2).toNat=n / 2 by omega]at s;have u:=tK (i:=0) (γ0:=[Y]) (M:=M1) (lo:=0) (m:=n / 2) (fun k=>(2*(0+(k:Int)),2*(0+(k:Int))+1)) (e:=aY<|aB (fOp iW (fC (.int 2))<|aE 0)<|aB (fOp bP (fOp iW (fC (.int 2))<|aE 0)<|fC (.int 1)) aG) fun k q=>iS (iX rfl rfl<|GJ (by decide))<|aZ (iX rfl rfl<|GJ (by decide)) rfl gK;have v:=kS (cap:=[Y]) s (by rw[mF];omega) u (by rw[A3,A3,C1];omega);refine BR o dr t v (fun p hp=>?_) (by rw[B1,A3,A3,C1,C1];omega);rcases List.mem_append.mp hp with hp|hp
 .obtain⟨k,q,rfl⟩:=List.mem_map.mp hp;have:=List.mem_range.mp q;exact⟨by dsimp only;omega,by dsimp only;omega⟩
 .obtain⟨k,q,rfl⟩:=List.mem_map.mp hp;have:=List.mem_range.mp q;exact⟨by dsimp only;omega,by dsimp only;omega⟩
def Two.refl(c d:Nat)(M:Sto):Two c d M M:=⟨rfl,fun _ _ _=>rfl⟩
def Two.trans{d:Nat}{M1 M2:Sto}(a:Two c d M M1)(b:Two c d M1 M2):Two c d M M2:=⟨b.len.trans a.len,fun i k o=>(b.at_ i k o).trans (a.at_ i k o)⟩
def Oth.two{d:Nat}{M1:Sto}(o:Oth c M M1):Two c d M M1:=⟨o.len,fun i h _=>o.at_ i h⟩
def KW{c d:TF}{a:Bool}(h:c γ M=Z (a,M))(hd:∃b,d γ M=Z (b,M)):∃b,wZ c d γ M=Z (b,M):=by
 obtain⟨b,hd⟩:=hd;cases a with
 |true=>exact⟨b,by unfold wZ;rw[h];exact hd⟩
 |false=>exact⟨false,by unfold wZ;rw[h];rfl⟩
def VN{c d:TF}(h:∃a,c γ M=Z (a,M))(hd:∃b,d γ M=Z (b,M)):∃b,gOr c d γ M=Z (b,M):=by
 obtain⟨a,h⟩:=h;obtain⟨b,hd⟩:=hd;cases a with
 |true=>exact⟨true,by unfold gOr;rw[h];rfl⟩
 |false=>exact⟨b,by unfold gOr;rw[h];exact hd⟩
def aFs{a b:Bool}:eqX false (B a) (B b) M=Z (B (a==b),M):=by cases a<;>cases b<;>rfl
def Io(n:Nat)(ps:Tv (Int×Int)):Prop:=∀p∈ps,(0<=p.1/\p.1<n)/\(0<=p.2/\p.2<n)
structure PL(n c f:Nat)(M0 M:Sto)(ps:Tv (Int×Int))(q:Nat):Prop where
 at_:M[f]?=Z (.lst (ps.map pT))
 dr:Dr M c
 io:Io n ps
 len:ps.length<=q
 two:Two c f M0 M
def NB{f q:Nat}{k m:Int}{g7:Te}{M0:Sto}{ps:Tv (Int×Int)}(ne:f≠c)(hi:0<=i/\i<n)(E:0<=j/\j<n)(H:q<=500)(P:PL n c f M0 M ps q):
 ∃v M' A,gG (GP c n k m (Z (.c f)) (Z<|I i) (Z<|I j) g7) M=Z (.nx (GP c n k m (Z (.c f)) (Z<|I i) (Z<|I j) v),M')/\PL n c f M0 M' A (q+1):=by
 obtain⟨z,M1,G,o,D⟩:=qS P.dr;have s1:bG (aL bK<|aB (aE 0) aG) (hName 7) (GP c n k m (Z (.c f)) (Z<|I i) (Z<|I j) g7) M=Z (.nx (GP c n k m (Z (.c f)) (Z<|I i) (Z<|I j)<|Z<|I z),M1):=bR (i:=7)<|bD (aH rfl aV) G
 have t:∃b,gOr (wZ (gB<|fOp (eqX false) (aE 2)<|fC (.int 5))<|gB<|fOp (eqX false) (fOp ltI (aE 5)<|aE 3)<|fOp ltI (aE 6)<|aE 3) (gOr (wZ (gB<|fOp (eqX false) (aE 2)<|fC (.int 6))<|gB<|fOp (eqX false) (fOp bV (fOp bP (aE 5)<|aE 6)<|fC (.int 2))<|fC (.int 0))<|gB<|fOp (eqX false) (fOp bV (aE 7)<|fC (.int 3))<|fC (.int 0)) (GP c n k m (Z (.c f)) (Z<|I i) (Z<|I j)<|Z<|I z) M1=Z (b,M1):=
  VN (KW (eA<|aZ rfl rfl mE) ⟨_,eA<|aZ (aZ rfl rfl aAe) (aZ rfl rfl aAe) aFs⟩) (VN (KW (eA<|aZ rfl rfl mE) ⟨_,eA<|aZ (dH (aZ rfl rfl gK) (by decide)) rfl mE⟩) ⟨_,eA<|aZ (dH rfl (by decide)) rfl mE⟩)
 obtain⟨b,t⟩:=t;have s:M1[f]?=Z (.lst (ps.map pT)):=by rw[D.at_ f ne];exact P.at_
 have flt:=(List.getElem?_eq_some_iff.mp s).1;have B:Two c f M0 M1:=P.two.trans D.two;have ln:=P.len;unfold gG;cases b with
 |false=>exact⟨_,M1,ps,(aQ s1).trans ((hZ t).trans rfl),s,o,P.io,Nat.le_succ_of_le ln,B⟩
 |true=>
  refine⟨_,_,ps++[(i,j)],(aQ s1).trans ((jI t).trans (wA (x:=.d .none)<|mP (x:=.c f) rfl (aHg s) (aH (iS rfl rfl) aV)<|aEP s (by rw[A3];omega))),?_,?_,?_,?_,?_⟩
  .rw[E8 flt,J0];rfl
  .obtain⟨xs,C,u⟩:=o;exact⟨xs,by unfold Li;rw[C6 ne];exact C,u⟩
  .intro p hp;rcases List.mem_append.mp hp with hp|hp
   .exact P.io p hp
   .rw[List.mem_singleton.mp hp];exact⟨hi,E⟩
  .rw[B1,D6];omega
  .exact⟨by rw[S3,B.len],fun x C u=>by rw[C6 (F5 u)];exact B.at_ x C u⟩
def GL{n c f:Nat}{k m i:Int}{M0:Sto}(ne:f≠c)(hi:0<=i/\i<n):∀(s:Nat)(j:Int)(g6 g7:Te)(M:Sto)(ps:Tv (Int×Int))(q:Nat),0<=j->j+s<=n->q+s<=500->PL n c f M0 M ps q->
 ∃o p M' u,nO (hName 6) gG (fG j s) (GP c n k m (Z (.c f)) (Z<|I i) g6 g7) M=Z (.nx (GP c n k m (Z (.c f)) (Z<|I i) o p),M')/\PL n c f M0 M' u (q+s)
 |0=>fun j g6 g7 M ps q _ _ _ P=>⟨g6,g7,M,ps,rfl,P⟩
 |s+1=>fun j g6 g7 M ps q B E G P=>by
  obtain⟨p,M1,v,C,P1⟩:=NB (k:=k) (m:=m) (j:=j) (g7:=g7) ne hi ⟨B,by omega⟩ (by omega) P;obtain⟨o,t,M2,A,D,P2⟩:=GL (k:=k) (m:=m) ne hi s (j+1) (Z<|I j) p M1 v (q+1) (by omega) (by omega) (by omega) P1;refine⟨o,t,M2,A,?_,by rw[show q+(s+1)=q+1+s by omega];exact P2⟩;rw[sO,oS rfl C];exact D
def BD{n c f:Nat}{k m:Int}{M0:Sto}(hn:n<=8)(ne:f≠c):∀(s:Nat)(i:Int)(g5 g6 g7:Te)(M:Sto)(ps:Tv (Int×Int))(q:Nat),0<=i->i+s<=n->q+7*s<=400->PL n c f M0 M ps q->
 ∃t o p M' B,nO (hName 5) jQ (fG i s) (GP c n k m (Z (.c f)) g5 g6 g7) M=Z (.nx (GP c n k m (Z (.c f)) t o p),M')/\PL n c f M0 M' B (q+7*s)
 |0=>fun i g5 g6 g7 M ps q _ _ _ P=>⟨g5,g6,g7,M,ps,rfl,P⟩
 |s+1=>fun i g5 g6 g7 M ps q E K N P=>by
  have it:=rn2 (fa:=aB (fOp bP (aE 5)<|fC (.int 1))<|aB (aE 1) aG) (γ:=GP c n k m (Z (.c f)) (Z<|I i) g6 g7) (M:=M) (i:=i+1) (j:=(n:Int)) (aH (aZ rfl rfl gK)<|aH rfl aV) (by omega) (by omega);obtain⟨o,p,M1,u,G,P1⟩:=GL (k:=k) (m:=m) (i:=i) ne ⟨E,by omega⟩ ((n:Int)-(i+1)).toNat (i+1) g6 g7 M ps q (by omega) (by omega) (by omega) P;have C:PL n c f M0 M1 u (q+7):=⟨P1.at_,P1.dr,P1.io,by have:=P1.len;omega,P1.two⟩;obtain⟨t,v,A,M2,D,H,P2⟩:=BD (k:=k) (m:=m) hn ne s (i+1) (Z<|I i) o p M1 u (q+7) (by omega) (by omega) (by omega) C;refine⟨t,v,A,M2,D,?_,by rw[show q+7*(s+1)=q+7+7*s by omega];exact P2⟩;rw[sO,oS (show hName 5 (I i) (GP c n k m (Z (.c f)) g5 g6 g7) M=Z (GP c n k m (Z (.c f)) (Z<|I i) g6 g7,M)from rfl) (show jQ (GP c n k m (Z (.c f)) (Z<|I i) g6 g7) M=Z (.nx (GP c n k m (Z (.c f)) (Z<|I i) o p),M1)from uE it G)];exact H
def aAr(n2:2<=n)(hn:n<=8)(dr:Dr M c):∃e M' ps,eX [.c c,I n] M=Z (.c e,M')/\Prs n c e M M' ps:=by
 obtain⟨z,M1,C,o,q⟩:=qS dr;have D:=L7 z (show(8:Int)≠0 by decide);have E:=J7 z (show(0:Int)<8 by decide);have s1:bG (fOp bV (aL bK<|aB (aE 0) aG)<|fC (.int 8)) (hName 2) [Z (.c c),Z<|I n,Y,Y,Y,Y,Y,Y] M=Z (.nx [Z (.c c),Z<|I n,Z<|I (z % 8),Y,Y,Y,Y,Y],M1):=bR (i:=2)<|dH (bD (aH rfl aV) C) (by decide);have s2:bG (fOp bP (fC (.int 1))<|fOp cP (aE 1)<|fC (.int 2)) (hName 3) [Z (.c c),Z<|I n,Z<|I (z % 8),Y,Y,Y,Y,Y] M1=Z (.nx (GP c n (z % 8) (1+(n:Int) / 2) Y Y Y Y),M1):=bR (i:=3)<|aZ rfl (gC rfl (by decide) (by decide)) gK;generalize z % 8=k at s1 s2 D E;generalize 1+(n:Int) / 2=m at s2;by_cases s:k=0
 .obtain⟨e,M',rs,h,P⟩:=aFU (k:=k) (m:=m) n2 hn q o;exact⟨e,M',rs,eJ rfl<|((aQ s1).trans (aQ s2)).trans (yW s<|fQ h),P⟩
 by_cases t:k=1
 .obtain⟨e,M',rs,h,P⟩:=aFl (k:=k) (m:=m) n2 hn q o;exact⟨e,M',rs,eJ rfl<|((aQ s1).trans (aQ s2)).trans ((fS s).trans (yW t<|fQ h)),P⟩
 by_cases u:k=2
 .obtain⟨e,M',rs,h,P⟩:=aFC (k:=k) (m:=m) n2 hn q o;exact⟨e,M',rs,eJ rfl<|((aQ s1).trans (aQ s2)).trans (((fS s).trans (fS t)).trans (yW u<|fQ h)),P⟩
 by_cases v:k=3
 .obtain⟨e,M',rs,h,P⟩:=aFG (k:=k) (m:=m) n2 hn q o;exact⟨e,M',rs,eJ rfl<|((aQ s1).trans (aQ s2)).trans ((((fS s).trans (fS t)).trans (fS u)).trans (yW v<|fQ h)),P⟩
 by_cases A:k=4
 .obtain⟨e,M',rs,h,P⟩:=aGV (k:=k) (m:=m) n2 hn q o;exact⟨e,M',rs,eJ rfl<|((aQ s1).trans (aQ s2)).trans (((((fS s).trans (fS t)).trans (fS u)).trans (fS v)).trans (yW A<|fQ h)),P⟩
 have G:bG (rB aG) (hName 4) (GP c n k m Y Y Y Y) M1=Z (.nx (GP c n k m (Z (.c M1.length)) Y Y Y),M1++[.lst []]):=bR (i:=4)<|HX aV (by decide);have it:=rn1 (fa:=aB (aE 1) aG) (γ:=GP c n k m (Z (.c M1.length)) Y Y Y) (M:=M1++[.lst []]) (J:=(n:Int)) rfl (by omega) (by omega);rw[F0]at it;obtain⟨g5,g6,g7,M2,ps,H,P⟩:=BD (k:=k) (m:=m) (c:=c) (f:=M1.length) (M0:=M1++[.lst []]) hn (E1 o.lt) n 0 Y Y Y (M1++[.lst []]) [] 0 (by omega) (by omega) (by omega) ⟨pO,o.app,(fun p h=>absurd h (by simp)),A9 _,Two.refl _ _ _⟩;refine⟨M1.length,M2,ps,eJ rfl<|((aQ s1).trans (aQ s2)).trans ((((((fS s).trans (fS t)).trans (fS u)).trans (fS v)).trans (fS A)).trans ((aQ G).trans ((aQ<|uE it H).trans rfl))),P.at_,Y8 q.len.symm,P.dr,⟨by rw[P.two.len,B1,q.len];omega,fun i K B=>by rw[P.two.at_ i B (by rw[q.len];omega),E7 (by rw[q.len];exact K),q.at_ i B]⟩,P.io,by have:=P.len;omega⟩
def OkV(n:Int)(us:Tv Tie):Prop:=(∀t∈us,iQ t.a t.b=true/\0<=t.i/\t.i<t.j/\t.j<n)/\(us.map Tie.key).Nodup
def aCx{n:Int}(ok:OkV n us)(p:0<=i)(u:i<j)(v:j<n)(o:iQ a b=true):∃vs,putD (bC us) [.inl i,.inl j] (.d (.tuple [.int a,.int b]))=bC vs/\OkV n vs/\vs.length<=us.length+1:=by
 unfold putD;by_cases c:((bC us).any fun A=>decide (A.1=[.inl i,.inl j]))=true
 .rw[A7 c];refine⟨us.map fun t=>if t.key=[.inl i,.inl j]then⟨t.i,t.j,a,b⟩else t,?_,⟨fun t ht=>?_,?_⟩,by rw[A3];omega⟩
  .unfold bC;rw[E4,E4];refine U3 fun t _=>?_;show(if t.key=_ then(t.key,CD.d (.tuple [.int a,.int b]))else(t.key,t.val))=_;by_cases q:t.key=[.inl i,.inl j]
   .rw[A7 q];show(t.key,CD.d (.tuple [.int a,.int b]))=((if t.key=[.inl i,.inl j]then(⟨t.i,t.j,a,b⟩:Tie)else t).key,(if t.key=[.inl i,.inl j]then(⟨t.i,t.j,a,b⟩:Tie)else t).val);rw[A7 q];rfl
   .rw[B0 q];show(t.key,t.val)=((if t.key=[.inl i,.inl j]then(⟨t.i,t.j,a,b⟩:Tie)else t).key,(if t.key=[.inl i,.inl j]then(⟨t.i,t.j,a,b⟩:Tie)else t).val);rw[B0 q]
  .obtain⟨s,hs,rfl⟩:=List.mem_map.mp ht;obtain⟨B,a2,a3,a4⟩:=ok.1 s hs;split
   .exact⟨o,a2,a3,a4⟩
   .exact⟨B,a2,a3,a4⟩
  .rw[E4,show us.map (Tie.key ∘ fun t=>if t.key=[.inl i,.inl j]then(⟨t.i,t.j,a,b⟩:Tie)else t)=us.map Tie.key from U3 fun t _=>by
    show(if t.key=[.inl i,.inl j]then(⟨t.i,t.j,a,b⟩:Tie)else t).key=t.key;split<;>rfl]
   exact ok.2
 .rw[B0 c];refine⟨us++[⟨i,j,a,b⟩],by unfold bC;rw[J0];rfl,⟨fun t ht=>?_,?_⟩,by rw[B1,D6];omega⟩
  .rcases List.mem_append.mp ht with h|h
   .exact ok.1 t h
   .rw[List.mem_singleton.mp h];exact⟨o,p,u,v⟩
  .rw[J0,List.map_singleton];refine List.nodup_append.mpr ⟨ok.2,by simp,fun k C l D q=>?_⟩;rw[List.mem_singleton.mp D]at q;subst q;obtain⟨t,ht,e⟩:=List.mem_map.mp C;refine c<|List.any_eq_true.mpr ⟨(t.key,t.val),List.mem_map.mpr ⟨t,ht,rfl⟩,?_⟩;rw[e];exact D8 rfl
def aEH:yU [I i,I j] M=Z (I (if j<i then j else i),M):=rfl
def aDd:sI [I i,I j] M=Z (I (if j > i then j else i),M):=rfl
def ZM{fo p:EF}{q:KF}{M1 M2:Sto}{v o:CD}{k:KY}(s:p γ M=Z (v,M1))(t:fo γ M1=Z (o,M1))(u:q γ M1=Z (k,M1))(hs:yY M1 o k v=Z M2):rO fo q p γ M=Z (.nx γ,M2):=by
 simp only[rO,s,t,u,hs,Option.bind_some]
def aFp{t:Tie}(nd:(us.map Tie.key).Nodup)(ht:t∈us):lkC (bC us) t.key=Z t.val:=by
 unfold lkC bC;rw[List.find?_map]
 have:us.find? ((fun k:Tv Key×CD=>decide (k.1=t.key)) ∘ fun t=>(t.key,t.val))=Z t:=by
  induction us with
  |nil=>simp at ht
  |cons s us ih=>
   rw[C7,List.nodup_cons]at nd;by_cases e:s.key=t.key
   .rcases List.mem_cons.mp ht with rfl|h
    .rw[List.find?_cons_of_pos (by simp)]
    .exact absurd (List.mem_map.mpr ⟨t,h,e.symm⟩) nd.1
   .rw[List.find?_cons_of_neg (by simpa using e)];rcases List.mem_cons.mp ht with rfl|h
    .exact absurd rfl e
    .exact ih nd.2 h
 rw[this];rfl
abbrev GWb(c:Nat)(lo mo n:Int)(os:T6)(al a b:Int)(d:Nat)(gi gj gw:Te):Ga:=[Z (.c c),Z<|I lo,Z<|I mo,Z<|I n,Z (.d (.list (os.map .int))),Z<|I al,Z (.d (.tuple [.int a,.int b])),Z (.c d),gi,gj,gw]
def upTo_mem{x:Int}:x∈upTo n↔0<=x/\x<n:=by
 unfold upTo;constructor
 .intro h;obtain⟨i,hi,rfl⟩:=List.mem_map.mp h;have:=List.mem_range.mp hi;omega
 .intro h;exact List.mem_map.mpr ⟨x.toNat,List.mem_range.mpr (by omega),by omega⟩
def aAs(n:Nat):(upTo n).Nodup:=List.pairwise_map.mpr (List.nodup_range.imp fun{a b} h e=>h (by omega))
def VZ(pm:os.Perm (upTo n))(h:0<=i/\i<n):∃x,ixF (.d (.list (os.map .int))) (I i) M=Z (I x,M)/\(0<=x/\x<n)/\os[i.toNat]?=Z x:=by
 have l:=pm.length_eq;unfold upTo at l;rw[A3,C1]at l;have k:i.toNat<os.length:=by omega
 refine⟨os[i.toNat],?_,upTo_mem.mp<|pm.mem_iff.mp<|List.getElem_mem k,B2 k⟩;rw[show I i=I ((i.toNat:Nat):Int)by rw[Int.toNat_of_nonneg h.1]];exact uH rfl<|wF (by rw[C0,B2 k];rfl)
def SB{d:Nat}{lo mo al k p:Int}{gw:Te}(pm:os.Perm (upTo n))(hi:0<=i/\i<n)(G:0<=j/\j<n)(H:iQ k p=true)(dr:Dr M c)(hd:M[d]?=Z (.dt (bC us)))(ok:OkV n us)(hl:us.length<=500)(ne:d≠c):
 ∃v M' vs,iR (GWb c lo mo n os al k p d (Z<|I i) (Z<|I j) gw) M=Z (.nx (GWb c lo mo n os al k p d (Z<|I i) (Z<|I j) v),M')/\Dr M' c/\M'[d]?=Z (.dt (bC vs))/\OkV n vs/\vs.length<=us.length+1/\Two c d M M':=by
 have s1:bG (aE 6) (hName 10) (GWb c lo mo n os al k p d (Z<|I i) (Z<|I j) gw) M=Z (.nx (GWb c lo mo n os al k p d (Z<|I i) (Z<|I j)<|Z (.d (.tuple [.int k,.int p]))),M):=bR (i:=10) rfl
 obtain⟨a,b,M1,K,s,u,s2⟩:∃a b M1,iQ a b=true/\Dr M1 c/\Oth c M M1/\sIf (gB<|fOp gtI (aE 5)<|fC (.int 0)) (bG (aL eD<|aB (aE 0) aG)<|hName 10) cH (GWb c lo mo n os al k p d (Z<|I i) (Z<|I j)<|Z (.d (.tuple [.int k,.int p]))) M=Z (.nx (GWb c lo mo n os al k p d (Z<|I i) (Z<|I j)<|Z (.d (.tuple [.int a,.int b]))),M1):=by
  have t:gB (fOp gtI (aE 5)<|fC (.int 0)) (GWb c lo mo n os al k p d (Z<|I i) (Z<|I j)<|Z (.d (.tuple [.int k,.int p]))) M=Z (decide (0<al),M):=eA<|aZ rfl rfl ET;by_cases q:0<al
  .rw[D8 q]at t;obtain⟨a,b,M1,e,w,N,o⟩:=DG dr;exact⟨a,b,M1,w,N,o,(jI t).trans (bR (i:=10)<|bD (aH rfl aV) e)⟩
  .rw[C2 q]at t;exact⟨k,p,M,H,dr,⟨rfl,fun _ _=>rfl⟩,(hZ t).trans rfl⟩
 have u1:M1[d]?=Z (.dt (bC us)):=by rw[u.at_ d ne];exact hd
 have A:=(List.getElem?_eq_some_iff.mp u1).1;have t:gB (fOp (eqX true) (aE 8)<|aE 9) (GWb c lo mo n os al k p d (Z<|I i) (Z<|I j)<|Z (.d (.tuple [.int a,.int b]))) M1=Z (!(i==j),M1):=eA<|aZ rfl rfl aGv;unfold iR;rw[aQ s1,aQ s2];cases h:(!(i==j))with
 |false=>
  rw[h]at t;exact⟨_,M1,us,(hZ t).trans rfl,s,u1,ok,by omega,u.two⟩
 |true=>
  rw[h]at t;have O:i≠j:=by simpa using h
  obtain⟨x,ex,x0,D⟩:=VZ (M:=M1) pm hi;obtain⟨y,P,y0,Q⟩:=VZ (M:=M1) pm G
  have R:x≠y:=fun e=>by
   subst e;have nd:os.Nodup:=pm.nodup_iff.mpr<|aAs n;have:=(List.getElem?_inj (List.getElem?_eq_some_iff.mp D).1 nd).mp (D.trans Q.symm);omega
  obtain⟨vs,S,T,U⟩:=aCx (i:=if y<x then y else x) (j:=if y > x then y else x) ok (by split<;>omega) (by split<;>split<;>omega) (by split<;>omega) K;have V:(bC us).length<sizeLine:=by unfold bC;rw[A3,E6];omega
  have W:yY M1 (.c d) (.inr [.inl (if y<x then y else x),.inl (if y > x then y else x)]) (.d (.tuple [.int a,.int b]))=Z (M1.set d (.dt (bC vs))):=by
   simp only[yY,u1,if_pos V,S]
  have E:∀(F:FN)(z:Int),F [I x,I y] M1=Z (I z,M1)->aL F (aB (fOp ixF (aE 4)<|aE 8)<|aB (fOp ixF (aE 4)<|aE 9) aG) (GWb c lo mo n os al k p d (Z<|I i) (Z<|I j)<|Z (.d (.tuple [.int a,.int b]))) M1=Z (I z,M1):=fun F z X=>bD (aH (aZ rfl rfl ex)<|aH (aZ rfl rfl P) aV) X
  have ek:qZ (aB (aL yU<|aB (fOp ixF (aE 4)<|aE 8)<|aB (fOp ixF (aE 4)<|aE 9) aG)<|aB (aL sI<|aB (fOp ixF (aE 4)<|aE 8)<|aB (fOp ixF (aE 4)<|aE 9) aG) aG) (GWb c lo mo n os al k p d (Z<|I i) (Z<|I j)<|Z (.d (.tuple [.int a,.int b]))) M1=Z (.inr [.inl (if y<x then y else x),.inl (if y > x then y else x)],M1):=by
   unfold qZ;rw[aH (E yU _ aEH) (aH (E sI _ aDd) aV),A2];show(Z [Sum.inl (if y<x then y else x),Sum.inl (if y > x then y else x)]:Tw (Tv Key)).bind _=_;rw[A2];exact A7<|sz (show 2<=1000 by decide)
  refine⟨_,M1.set d (.dt (bC vs)),vs,(jI t).trans (ZM rfl rfl ek W),?_,E8 A,T,U,⟨by rw[S3,u.len],fun q B C=>by rw[C6 (F5 C)];exact u.at_ q B⟩⟩;obtain⟨xs,B,C⟩:=s;exact⟨xs,by unfold Li;rw[C6 ne];exact B,C⟩
def aEC{M1:Sto}(h:f γ M=Z (.c c,M1))(k:M1[c]?=Z (.lst (ds.map .d))):mS f γ M=Z (.d (.list ds),M1.set c .dead):=by
 unfold mS;rw[h,A2];dsimp only;rw[k];dsimp only;rw[lN,A2]
def DQ{c d n:Nat}{lo mo al t u:Int}{os:T6}{M0:Sto}(pm:os.Perm (upTo n))(S:iQ t u=true)(ne:d≠c):∀(ps:Tv (Int×Int))(v A gw:Te)(M:Sto)(us:Tv Tie),Io n ps->Dr M c->M[d]?=Z (.dt (bC us))->OkV n us->us.length+ps.length<=400->Two c d M0 M->
 ∃k o s M' vs,nO (lE 2<|bT (hName 8)<|bT (hName 9) lJ) iR (ps.map pT) (GWb c lo mo n os al t u d v A gw) M=Z (.nx (GWb c lo mo n os al t u d k o s),M')/\Dr M' c/\M'[d]?=Z (.dt (bC vs))/\OkV n vs/\vs.length<=us.length+ps.length/\Two c d M0 M'
 |[]=>fun v A gw M us _ dr hd ok _ B=>⟨v,A,gw,M,us,rfl,dr,hd,ok,A9 _,B⟩
 |p::ps=>fun v A gw M us io dr hd ok U B=>by
  rw[E5]at U;have T:=io p B7;obtain⟨C,M1,D,V,E,G,H,l1,K⟩:=SB (lo:=lo) (mo:=mo) (al:=al) (gw:=gw) pm T.1 T.2 S dr hd ok (by omega) ne;obtain⟨k,o,s,M2,N,W,O,P,Q,l2,R⟩:=DQ (lo:=lo) (mo:=mo) (al:=al) (M0:=M0) pm S ne ps (Z<|I p.1) (Z<|I p.2) C M1 D (fun q X=>io q<|B4 _ X) E G H (by omega)<|B.trans K;refine⟨k,o,s,M2,N,?_,O,P,Q,by rw[E5];omega,R⟩;rw[C7,oS (show lE 2 (bT (hName 8)<|bT (hName 9) lJ) (pT p) (GWb c lo mo n os al t u d v A gw) M=Z (GWb c lo mo n os al t u d (Z<|I p.1) (Z<|I p.2) gw,M)from rfl) V];exact W
def OL{d:Nat}(h:f γ M=Z (.d x,M))(k:g γ M=Z (.c d,M)):FI (aB f<|aB g aG) γ M=Z (.t [.inl x,.inr d],M):=by
 unfold FI;rw[aH h (aH k aV),A2];show(if 2<=sizeLine then(KZ [.d x,.c d]).bind fun x=>Z (x,M)else Y)=_;rw[A7 (sz (by decide))];rfl
structure aHl(c d n:Nat)(M M':Sto)(us:Tv Tie):Prop where
 n2:2<=n
 n8:n<=8
 dr:Dr M' c
 at_:M'[d]?=Z (.dt (bC us))
 new:M.length<=d
 ok:OkV n us
 len:us.length<=56
 ex:Ex c M M'
def aFI(dr:Dr M c):∃(n d:Nat)(M':Sto)(us:Tv Tie),jB [.c c,I 2,I 8] M=Z (.t [.inl (.int n),.inr d],M')/\aHl c d n M M' us:=by
 obtain⟨z,M1,R,u,H⟩:=qS dr;have z0:=L7 z (show(7:Int)≠0 by decide);have z1:=J7 z (show(0:Int)<7 by decide);obtain⟨n,hn,n2,n8⟩:∃n:Nat,(2:Int)+z % 7=n/\2<=n/\n<=8:=⟨(2+z % 7).toNat,by omega,by omega,by omega⟩
 have s1:bG (fOp bP (aE 1)<|fOp bV (aL bK<|aB (aE 0) aG)<|fOp bP (fOp fH (aE 2)<|aE 1)<|fC (.int 1)) (hName 3) [Z (.c c),Z<|I 2,Z<|I 8,Y,Y,Y,Y,Y,Y,Y,Y] M=Z (.nx [Z (.c c),Z<|I 2,Z<|I 8,Z<|I n,Y,Y,Y,Y,Y,Y,Y],M1):=by
  rw[<- hn];exact bR (i:=3)<|aZ rfl (xQ (bD (aH rfl aV) R) (show fOp bP (fOp fH (aE 2)<|aE 1) (fC (.int 1)) [Z (.c c),Z<|I 2,Z<|I 8,Y,Y,Y,Y,Y,Y,Y,Y] M1=Z (I 7,M1)from rfl) (by decide)) gK
 obtain⟨os,M2,S,pm,v,K⟩:=aAd (n:=n) n8 u;have s2:bG (aL iM<|aB (aE 0)<|aB (aE 3) aG) (hName 4) [Z (.c c),Z<|I 2,Z<|I 8,Z<|I n,Y,Y,Y,Y,Y,Y,Y] M1=Z (.nx [Z (.c c),Z<|I 2,Z<|I 8,Z<|I n,Z (.d (.list (os.map .int))),Y,Y,Y,Y,Y,Y],M2):=bR (i:=4)<|bD (aH rfl<|aH rfl aV) S;obtain⟨y,M3,T,A,N⟩:=qS v;have U:bG (fOp bV (aL bK<|aB (aE 0) aG)<|fC (.int 3)) (hName 5) [Z (.c c),Z<|I 2,Z<|I 8,Z<|I n,Z (.d (.list (os.map .int))),Y,Y,Y,Y,Y,Y] M2=Z (.nx [Z (.c c),Z<|I 2,Z<|I 8,Z<|I n,Z (.d (.list (os.map .int))),Z<|I (y % 3),Y,Y,Y,Y,Y],M3):=bR (i:=5)<|dH (bD (aH rfl aV) T) (by decide);obtain⟨a,b,k,V,W,q,O⟩:=DG A;have X:bG (aL eD<|aB (aE 0) aG) (hName 6) [Z (.c c),Z<|I 2,Z<|I 8,Z<|I n,Z (.d (.list (os.map .int))),Z<|I (y % 3),Y,Y,Y,Y,Y] M3=Z (.nx [Z (.c c),Z<|I 2,Z<|I 8,Z<|I n,Z (.d (.list (os.map .int))),Z<|I (y % 3),Z (.d (.tuple [.int a,.int b])),Y,Y,Y,Y],k):=bR (i:=6)<|bD (aH rfl aV) V;have s5:bG tW (hName 7) [Z (.c c),Z<|I 2,Z<|I 8,Z<|I n,Z (.d (.list (os.map .int))),Z<|I (y % 3),Z (.d (.tuple [.int a,.int b])),Y,Y,Y,Y] k=Z (.nx (GWb c 2 8 n os (y % 3) a b k.length Y Y Y),k++[.dt []]):=bR (i:=7) rfl;obtain⟨e,o,ps,e5,P⟩:=aAr (M:=k++[.dt []]) n2 n8 q.app;have P1:o[e]?=Z (.lst ((ps.map pD).map .d)):=by rw[P.at_,E4];rfl
 have ca:aL eX (aB (aE 0)<|aB (aE 3) aG) (GWb c 2 8 n os (y % 3) a b k.length Y Y Y) (k++[.dt []])=Z (.c e,o):=bD (xs:=[.c c,I n]) (aH rfl<|aH rfl aV) e5;have fz:mS (aL eX<|aB (aE 0)<|aB (aE 3) aG) (GWb c 2 8 n os (y % 3) a b k.length Y Y Y) (k++[.dt []])=Z (.d (.list (ps.map pD)),o.set e .dead):=aEC ca P1
 have it:dP (mS<|aL eX<|aB (aE 0)<|aB (aE 3) aG) (GWb c 2 8 n os (y % 3) a b k.length Y Y Y) (k++[.dt []])=Z (ps.map pT,o.set e .dead):=by
  rw[KO fz (ds:=ps.map pD) rfl,E4];rfl
 have l4:=q.lt;have ee:=P.new;rw[B1,D6]at ee;have B:k.length<(k++[Cell.dt []]).length:=by rw[B1,D6];omega
 have d5:(o.set e .dead)[k.length]?=Z (.dt (bC [])):=by
  rw[C6 (by omega),P.ex.at_ k.length B (by omega)];exact pO
 have C:Dr (o.set e .dead) c:=by
  obtain⟨xs,Q,p⟩:=P.dr;exact⟨xs,by unfold Li;rw[C6 (by omega)];exact Q,p⟩
 have pl:=P.len;obtain⟨gi,gj,gw,M6,us,lp,D,E,G,l6,s⟩:=DQ (lo:=2) (mo:=8) (al:=y % 3) (M0:=o.set e .dead) (d:=k.length) pm W (E1 l4) ps Y Y Y (o.set e .dead) [] P.io C d5 ⟨fun t h=>absurd h (by simp),.nil⟩ (by rw[List.length_nil];omega)<|Two.refl _ _ _;have a0:k.length=M3.length:=O.len;have a1:M3.length=M2.length:=N.len;have a6:=K.len;have a7:M1.length=M.length:=H.len;refine⟨n,k.length,M6,us,eJ rfl ?_,n2,n8,D,E,by omega,G,by rw[List.length_nil]at l6;omega,⟨?_,fun i Q p=>?_⟩⟩
 .unfold qO;show bA _ _ [Z (.c c),Z<|I 2,Z<|I 8,Y,Y,Y,Y,Y,Y,Y,Y] M=_;rw[aQ s1,aQ s2,aQ U,aQ X,aQ s5,aQ<|uE it lp];exact fQ<|OL rfl rfl
 .have:=P.ex.len;rw[B1]at this;rw[s.len,S3];omega
 .rw[s.at_ i p (by omega),C6 (by omega),P.ex.at_ i (by rw[B1];omega) p,E7 (by omega),O.at_ i p,N.at_ i p,K.at_ i (by omega) p,H.at_ i p]
def fzD(us:Tv Tie):CD:=.f (us.map fun t=>(t.key,.tuple [.int t.a,.int t.b]))
def aCN{t:Tie}(nd:(us.map Tie.key).Nodup)(ht:t∈us):lkP (us.map fun t=>(t.key,.tuple [.int t.a,.int t.b])) t.key=Z (.tuple [.int t.a,.int t.b]):=by
 have h:=aFp nd ht;unfold lkC bC at h;unfold lkP;rw[List.find?_map]at h ⊢;cases q:us.find? ((fun k:Tv Key×CD=>decide (k.1=t.key)) ∘ fun t=>(t.key,t.val))with
 |none=>rw[q]at h;cases h
 |some s=>
  rw[q]at h;have o:us.find? ((fun k:Tv Key×Tz=>decide (k.1=t.key)) ∘ fun t=>(t.key,.tuple [.int t.a,.int t.b]))=Z s:=q;rw[o];have e:s.val=t.val:=C5 h;show Z (PyData.tuple [.int s.a,.int s.b])=_;rw[show PyData.tuple [.int s.a,.int s.b]=.tuple [.int t.a,.int t.b]from CD.d.inj e]
def HC{o:Type}{g:GF}{e:EF}{M:Sto}{Inv:Ga->Prop}(f:o->CD)(h:o->Tz):∀(xs:Tv o),(∀x∈xs,∀γ,Inv γ->∃k,g (f x) γ M=Z (k,M)/\e k M=Z (.d (h x),M)/\Inv k)->∀γ,Inv γ->lcF g fW e (xs.map f) γ M=Z ((xs.map h).map .d,M)
 |[]=>fun _ _ _=>rfl
 |x::xs=>fun st γ i=>by
  obtain⟨k,p,q,s⟩:=st x B7 γ i;have ih:=HC f h xs (fun y t=>st y<|B4 _ t) k s;rw[C7];unfold lcF;rw[p,A2];dsimp only[fW];rw[A2,A7 rfl,q,A2];dsimp only;rw[ih];rfl
def aBM{y z:Tz}(k:f γ M=Z (.d x,M))(o:g γ M=Z (.d y,M))(p:h γ M=Z (.d z,M)):aY (aB f<|aB g<|aB h aG) γ M=Z (.d (.tuple [x,y,z]),M):=by
 unfold aY;rw[aH k (aH o<|aH p aV),A2];show(if 3<=sizeLine then Z (CD.d (.tuple [x,y,z]),M)else Y)=_;rw[A7 (sz (by decide))]
def aFS{y z:Tz}(k:f γ M=Z (.d x,M))(o:g γ M=Z (.d y,M))(p:h γ M=Z (.d z,M)):cA (aB f<|aB g<|aB h aG) γ M=Z (.d (.list [x,y,z]),M):=by
 unfold cA;rw[aH k (aH o<|aH p aV),A2];show(if 3<=sizeLine then Z (CD.d (.list [x,y,z]),M)else Y)=_;rw[A7 (sz (by decide))]
def aCT(nd:(us.map Tie.key).Nodup)(p:us.length<=56):kR [Z (.c c),Z<|fzD us,Y] M=Z (.d (.list (us.map<|rwT false)),M):=by
 have it:JH (aE 1) [Z (.c c),Z<|fzD us,Y] M=Z (us.map fun t=>ZK t.key,M):=by
  show Z ((us.map fun t=>(t.key,PyData.tuple [.int t.a,.int t.b])).map fun k=>ZK k.1,M)=_;rw[E4];rfl
 refine kS it (by rw[A3];omega) ?_ (by rw[A3];omega);refine HC (Inv:=fun γ=>∃s1 s2,γ=[Z (fzD us),s1,s2]) (fun t:Tie=>ZK t.key) (rwT false) us ?_ _ ⟨Y,Y,rfl⟩;rintro t ht γ ⟨s1,s2,rfl⟩;refine⟨[Z (fzD us),Z<|I t.i,Z<|I t.j],rfl,?_,_,_,rfl⟩;refine aBM rfl rfl ?_
 have o:qZ (aB (aE 1)<|aB (aE 2) aG) [Z (fzD us),Z<|I t.i,Z<|I t.j] M=Z (.inr t.key,M):=by
  unfold qZ;rw[aH (x:=I t.i) rfl (aH (x:=I t.j) rfl aV),A2];show(Z [Sum.inl t.i,Sum.inl t.j]:Tw (Tv Key)).bind _=_;rw[A2];exact A7<|sz (show 2<=1000 by decide)
 unfold JC;rw[show aE 0 [Z (fzD us),Z<|I t.i,Z<|I t.j] M=Z (fzD us,M)from rfl,A2];dsimp only;rw[o,A2];show(Z<|(lkP (us.map fun t=>(t.key,.tuple [.int t.a,.int t.b])) t.key).map CD.d).bind _=_;rw[aCN nd ht];rfl
def aCR(o:us.length<=56):qF [Z (.c c),Z<|fzD us,Z (.d (.list (us.map<|rwT false)))] M=Z (.d (.list (us.map<|rwT true)),M):=by
 have it:dP (aE 2) [Z (.c c),Z<|fzD us,Z (.d (.list (us.map<|rwT false)))] M=Z (us.map fun t=>.d (rwT false t),M):=by
  rw[KO (ds:=us.map<|rwT false) rfl rfl,E4];rfl
 refine kS it (by rw[A3];omega) ?_ (by rw[A3];omega);refine HC (Inv:=fun γ=>∃s1 s2 k,γ=[s1,s2,k]) (fun t:Tie=>.d (rwT false t)) (rwT true) us ?_ _ ⟨Y,Y,Y,rfl⟩;rintro t ht γ ⟨s1,s2,k,rfl⟩;refine⟨[Z (I t.i),Z<|I t.j,Z (.d (.tuple [.int t.a,.int t.b]))],rfl,?_,_,_,_,rfl⟩;exact aFS rfl rfl rfl
def aCk(dr:Dr M c)(nd:(us.map Tie.key).Nodup)(o:us.length<=56):∃l M',kI [.c c,fzD us] M=Z (.d (rA l us),M')/\Dr M' c/\Oth c M M':=by
 obtain⟨z,M1,q,k,p⟩:=qS dr;have s1:bG kR (hName 2) [Z (.c c),Z<|fzD us,Y] M=Z (.nx [Z (.c c),Z<|fzD us,Z (.d (.list (us.map<|rwT false)))],M):=bR (i:=2)<|aCT nd o;have t:gB (fOp (eqX false) (fOp bV (aL bK<|aB (aE 0) aG)<|fC (.int 2))<|fC (.int 0)) [Z (.c c),Z<|fzD us,Z (.d (.list (us.map<|rwT false)))] M=Z ((z % 2==0),M1):=eA<|aZ (dH (bD (aH rfl aV) q) (by decide)) rfl mE;cases h:(z % 2==0)with
 |true=>
  rw[h]at t;exact⟨true,M1,eJ rfl<|(aQ s1).trans (pF<|(jI t).trans (fQ<|aCR o)),k,p⟩
 |false=>
  rw[h]at t;exact⟨false,M1,eJ rfl<|(aQ s1).trans ((aQ<|(hZ t).trans rfl).trans rfl),k,p⟩
def Wb(M:Sto)(w:Nat)(n:Int):Prop:=∃fs:Tu,M[w]?=Z (.obj "Web" fs)/\List.lookup ("many":Str) fs=Z (I n)
def Wb.app{n:Int}(h:Wb M w n):Wb (M++L) w n:=let⟨fs,a,b⟩:=h;⟨fs,by rw[E7 (List.getElem?_eq_some_iff.mp a).1];exact a,b⟩
def YC{M1 M2:Sto}(h:fa γ M=Z (xs,M1))(hi:F (.c M1.length::xs) (M1++[.obj "Web" []])=Z (.d .none,M2)):yX "Web" F fa γ M=Z (.c M1.length,M2):=by
 unfold yX;rw[h,A2];dsimp only;rw[hi,A2];rfl
def aHf{c:Cell}:(M++(c::L))[M.length]?=Z c:=by rw[F6 (A9 _),Y1];rfl
def EY{M1:Sto}{n:Int}(h:fa γ M=Z ([I n,.d (rA l us)],M1))(ok:Ok n us)(o:1<=n)(k:n<=40):∃L,yX "Web" fU fa γ M=Z (.c M1.length,M1++L)/\Wb (M1++L) M1.length n:=by
 obtain⟨vs,_,e⟩:=aAI (l:=l) (M:=M1) ok o k;refine⟨_,YC h e,_,aHf,rfl⟩
def IT(x:Tz):Bool:=match bI x with
 |some [.int a,.int b]=>aAw a b
 |_=>false
def RH(h:nI x=false):IT x=false:=by
 unfold nI at h;unfold IT;split
 .rename_i a b e;rw[e]at h;dsimp only at h;unfold aAw;rw[h];rfl
 .rfl
def ES(x:Tz)(M:Sto):fT [.d x] M=Z (B<|IT x,M):=by
 cases h:nI x with
 |false=>
  rw[RH h];simp![fT,jT,bX,h]
 |true=>
  obtain⟨k,a,b,rfl⟩:=KN h
  have e:IT (P k a b)=(Int.gcd a b==1):=by
   rw[EL]at h;have:IT (P k a b)=aAw a b:=by cases k<;>rfl
   rw[this];unfold aAw;rw[h,Bool.true_and]
  rw[e];have o:=h;rw[EL,B8]at h;have p:=C9 h.1;have q:=C9 h.2;simp![fT,jT,bX,o,aAD,aEb,mE,DZ M p<|Int.le_trans (by decide) q];rw[show(1:Int)=((1:Nat):Int)from rfl,aFJ]
def okW(n:Int)(r:Tz):Bool:=match bI r with
 |some [.int i,.int j,w]=>ulk n (.int i) (.int j)&&decide (i<j)&&IT w
 |_=>false
def aGO(n:Int)(r:Tz)(M:Sto):mM (aL aR<|aB (aE 0)<|aB (aE 1) aG) (aL fT<|aB (fOp ixF (aE 1)<|fC (.int 2)) aG) [Z (I n),Z (.d r)] M=Z (B<|okW n r,M):=by
 cases s:dO r 3 with
 |false=>
  have e:okW n r=false:=by
   unfold okW;split
   .rename_i e;unfold dO at s;rw[e]at s;cases s
   .rfl
  have o:aR [I n,.d r] M=Z (B false,M):=by
   simp![aR,bM,cE,s]
  rw[e];simp![o]
 |true=>
  obtain⟨k,p,q,w,rfl⟩:=IZ s;obtain⟨u,v,C⟩:=ix3 k p q w M;cases t:ulk n p q with
  |false=>
   have e:okW n (R3 k p q w)=false:=by
    unfold okW;rw[lX];split
    .rename_i e;cases e;rw[t];rfl
    .rfl
   have o:aR [I n,.d (R3 k p q w)] M=Z (B false,M):=by
    simp![aR,bM,cE,s,u,v,AI,t]
   rw[e];simp![o]
  |true=>
   obtain⟨i,j,rfl,rfl⟩:∃i j,p=.int i/\q=.int j:=by
    unfold ulk at t;split at t
    .exact⟨_,_,rfl,rfl⟩
    .cases t
   have o:aR [I n,.d (R3 k (.int i) (.int j) w)] M=Z (B<|decide (i<j),M):=by
    simp![aR,bM,cE,s,u,v,AI,t]
   have e:okW n (R3 k (.int i) (.int j) w)=(decide (i<j)&&IT w):=by
    unfold okW;rw[lX];dsimp only;rw[t,Bool.true_and]
   rw[e];cases A:decide (i<j)with
   |false=>
    rw[A]at o;simp![o,Bool.false_and]
   |true=>
    rw[A]at o;simp![o,C,ES,Bool.true_and]
def zR{k:Type}{f:k->Bool}:∀ds:Tv k,boolsOf (ds.map fun d=>.bool (f d))=Z (ds.map f)
 |[]=>rfl
 |d::ds=>by
  show(boolsOf (ds.map fun d=>.bool (f d))).bind _=_;rw[zR ds];rfl
def UB{n:Int}(k:n<=40)(h:dO d (n-1)=false):cK [I n,.d d] M=Z (B false,M):=by
 have g:decide (n > 40)=false:=C2 (by omega);simp![cK,lL,g,cE,h]
def KJ{n:Int}(hd:bI d=Z ds)(k:ds.length<=900):aL BU (aB iC aG) [Z (I n),Z (.d d)] M=Z (B<|ds.all<|okW n,M):=by
 have o:iC [Z (I n),Z (.d d)] M=Z (.d (.list (ds.map fun r=>.bool (okW n r))),M):=QH (i:=1) rfl hd k fun x _=>aGO n x M;refine bD (aH o aV) ?_;show(boolsOf (ds.map fun r=>.bool (okW n r))).bind _=_;rw[zR,A2,List.all_map];rfl
def aDI{n:Int}(k:n<=40)(hd:bI d=Z ds)(p:ds.length<=900)(h:ds.all (okW n)=false):cK [I n,.d d] M=Z (B false,M):=by
 have g:decide (n > 40)=false:=C2 (by omega);cases o:dO d (n-1)with
 |false=>exact UB k o
 |true=>
  have a:=KJ (n:=n) (M:=M) hd p;rw[h]at a;have q:nP (gB<|aL BU<|aB iC aG) [Z (I n),Z (.d d)] M=Z (true,M):=by unfold nP;rw[eA a];rfl
  refine eJ rfl ?_;unfold lL;show bA _ _ [Z (I n),Z (.d d)] M=_;rw[aQ (show sIf _ _ _ [Z (I n),Z (.d d)] M=Z (.nx [Z (I n),Z (.d d)],M)by simp![g,cE,o])];exact pF<|(jI q).trans rfl
def hdW(r:Tz):Tz:=match bI r with
 |some (p::q::_)=>.tuple [p,q]
 |_=>.none
def aCl{n:Int}(s:n<=40)(t:dO d (n-1)=true)(hd:bI d=Z ds)(o:ds.length<=900)(h:ds.all (okW n)=true)(ris:jY [.d (.list (ds.map hdW))] M=Z (B false,M)):cK [I n,.d d] M=Z (B false,M):=by
 have g:decide (n > 40)=false:=C2 (by omega);have a:=KJ (n:=n) (M:=M) hd o;rw[h]at a;have u:nP (gB<|aL BU<|aB iC aG) [Z (I n),Z (.d d)] M=Z (false,M):=by unfold nP;rw[eA a];rfl
 have v:uW [Z (I n),Z (.d d)] M=Z (.d (.list (ds.map hdW)),M):=QH (i:=0) rfl hd o fun x A=>by
  have k:=List.all_eq_true.mp h x A
  have:∃p q w,bI x=Z [p,q,w]:=by
   unfold okW at k;split at k
   .exact⟨_,_,_,by assumption⟩
   .cases k
  obtain⟨p,q,w,hi⟩:=this;have e:hdW x=.tuple [p,q]:=by unfold hdW;rw[hi]
  rw[e];exact SC (aZ rfl rfl<|uH hi rfl)<|aZ rfl rfl<|uH hi rfl
 refine eJ rfl ?_;unfold lL;show bA _ _ [Z (I n),Z (.d d)] M=_;rw[aQ (show sIf _ _ _ [Z (I n),Z (.d d)] M=Z (.nx [Z (I n),Z (.d d)],M)by simp![g,cE,t]),aQ<|(hZ u).trans rfl];refine fQ ?_;simp![v,ris]
def ZA(n:Int)(d:Tz):Bool:=(!dO d (n-1)) || (match bI d with
 |some ds=>decide (ds.length<=900)&&!(ds.all<|okW n)
 |none=>false)
def OY{n:Int}(k:n<=40)(h:ZA n d=true)(M:Sto):cK [I n,.d d] M=Z (B false,M):=by
 unfold ZA at h;cases o:dO d (n-1)with
 |false=>exact UB k o
 |true=>
  rw[o]at h;cases hd:bI d with
  |none=>rw[hd]at h;cases h
  |some ds=>
   rw[hd]at h;have h:(decide (ds.length<=900)&&!(ds.all<|okW n))=true:=h;rw[B8,Bool.not_eq_true']at h;exact aDI k hd (C9 h.1) h.2
noncomputable def yH:Tz:=.tuple [.int 1,.int 1]
def cQ(n:Nat):T3:=(List.range (n-1)).map fun k=>.tuple [.int 0,.int ((k+1:Nat):Int),yH]
def noA(n:Nat)(st dl:T3):T3:=[.list (st.drop 1),.list (st++[.tuple [.int 0,.int n,yH]])]
def noB(n:Nat)(st dl:T3):T3:=[.list (dl++[.tuple [.int (n-1),.int 0,yH]]),.none,.int 5,.str "tree",.dict [],.list (dl++[.tuple [.int 0,.int n,yH]]),.list (dl++[.tuple [.int 0,.int (n-1),.tuple [.int 2,.int 2]]]),.bool true,.list (List.replicate (n-1) .none),.list (dl++[.tuple [.int 0,.int (n-1)]])]
noncomputable def noC(n:Nat)(st dl:T3):T3:=[.list (dl++[.tuple [.int 0,.int (n-1),.int 1]])]
def VP(n:Nat):Tz:=.list ((cQ n).drop 1++(cQ n).take 1)
def noT(n:Nat):T3:=noA n (cQ n) (cQ n).dropLast++(if n=2 then[]else[VP n])++noB n (cQ n) (cQ n).dropLast++(if n=2 then[]else[.list ((cQ n).dropLast++[.tuple [.int 0,.bool true,yH]])])++noC n (cQ n) (cQ n).dropLast
def aBt{n:Nat}(k:n<=40)(h:((noA n (cQ n) (cQ n).dropLast++noB n (cQ n) (cQ n).dropLast++noC n (cQ n) (cQ n).dropLast)++(if n=2 then[]else[PyData.list ((cQ n).dropLast++[.tuple [.int 0,.bool true,yH]])])).all (ZA n)=true)(o:n≠2->∀M,cK [I n,.d (VP n)] M=Z (B false,M)):∀d∈noT n,∀M,cK [I n,.d d] M=Z (B false,M):=by
 intro d hd M;have a:=List.all_eq_true.mp h d;rw[S6,S6,S6]at a;unfold noT at hd;rw[S6,S6,S6,S6]at hd;have b:∀{q},q->((q->ZA n d=true))->cK [I n,.d d] M=Z (B false,M):=fun{q} p f=>OY (by omega) (f p) M;rcases hd with(((h1|h1)|h1)|h1)|h1
 .exact b h1 fun z=>a (.inl (.inl (.inl z)))
 .by_cases e:n=2
  .rw[A7 e]at h1;cases h1
  .rw[B0 e]at h1;rw[List.mem_singleton.mp h1];exact o e M
 .exact b h1 fun z=>a (.inl (.inl (.inr z)))
 .exact b h1 fun z=>a (.inr z)
 .exact b h1 fun z=>a (.inl (.inr z))
def aDG(k:n<=40)(o:dO (VP n) ((n:Int)-1)=true)(p:decide (((cQ n).drop 1++(cQ n).take 1).length<=900)=true)(q:((cQ n).drop 1++(cQ n).take 1).all (okW n)=true)(s:∀M,jY [.d (.list (((cQ n).drop 1++(cQ n).take 1).map hdW))] M=Z (B false,M))(M:Sto):cK [I n,.d (VP n)] M=Z (B false,M):=aCl (by omega) o rfl (C9 p) q<|s M
abbrev dlD(n:Nat):T3:=(cQ n).dropLast
def a2(n:Nat):T3:=noA n (cQ n) (dlD n)++[VP n]++[.list (dlD n++[.tuple [.int (n-1),.int 0,yH]]),.none,.int 5]
def a3(n:Nat):T3:=a2 n++[.str "tree"]
def b4(n:Nat):T3:=[.dict [],.list (dlD n++[.tuple [.int 0,.int n,yH]]),.list (dlD n++[.tuple [.int 0,.int (n-1),.tuple [.int 2,.int 2]]]),.bool true,.list (List.replicate (n-1) .none)]
def a4(n:Nat):T3:=a3 n++b4 n
def a5(n:Nat):T3:=a4 n++[.list (dlD n++[.tuple [.int 0,.int (n-1)]]),.list (dlD n++[.tuple [.int 0,.bool true,yH]]),.list (dlD n++[.tuple [.int 0,.int (n-1),.int 1]])]
abbrev TG(n:Nat)(g:Te):Ga:=[Z (I n),Z (.d (.list (cQ n))),g]
noncomputable abbrev L0:Sto:=[.lst [.d .none]]
def ts1(n2:2<=n)(n8:n<=8)(M:Sto):bG kO (hName 1) [Z (I n),Y,Y] M=Z (.nx (TG n Y),M):=by
 obtain rfl|rfl|rfl|rfl|rfl|rfl|rfl:n=2\/n=3\/n=4\/n=5\/n=6\/n=7\/n=8:=by omega
 all_goals rfl
def ts2(n2:2<=n)(n8:n<=8)(M:Sto):bG (cA<|aB (fSl (aE 1) (cF<|fC (.int 1)) bL)<|aB (fOp bP (aE 1)<|cA<|aB (aY<|aB (fC (.int 0))<|aB (aE 0)<|aB jU aG) aG)<|aB (fOp bP (fSl (aE 1) (cF<|fC (.int 1)) bL)<|fSl (aE 1) bL<|cF<|fC (.int 1))<|aB (fOp bP (fSl (aE 1) bL<|cF<|fUn jM<|fC (.int 1))<|cA<|aB (aY<|aB (fOp fH (aE 0)<|fC (.int 1))<|aB (fC (.int 0))<|aB jW aG) aG)<|aB (fC .none)<|aB (fC (.int 5)) aG) (hName 2) (TG n Y) M=Z (.nx (TG n<|Z (.d (.list (a2 n)))),M):=by
 obtain rfl|rfl|rfl|rfl|rfl|rfl|rfl:n=2\/n=3\/n=4\/n=5\/n=6\/n=7\/n=8:=by omega
 all_goals rfl
def ts3(n2:2<=n)(n8:n<=8)(M:Sto):bG (fOp bP (aE 2) kA) (hName 2) (TG n<|Z (.d (.list (a2 n)))) M=Z (.nx (TG n<|Z (.d (.list (a3 n)))),M):=by
 obtain rfl|rfl|rfl|rfl|rfl|rfl|rfl:n=2\/n=3\/n=4\/n=5\/n=6\/n=7\/n=8:=by omega
 all_goals rfl
def ts5(n2:2<=n)(n8:n<=8)(M:Sto):bG (fOp bP (aE 2)<|cA<|aB (fOp bP (fSl (aE 1) bL<|cF<|fUn jM<|fC (.int 1))<|cA<|aB (aY<|aB (fC (.int 0))<|aB (fOp fH (aE 0)<|fC (.int 1)) aG) aG)<|aB (fOp bP (fSl (aE 1) bL<|cF<|fUn jM<|fC (.int 1))<|fSl kB bL<|cF<|fC (.int 1))<|aB (fOp bP (fSl (aE 1) bL<|cF<|fUn jM<|fC (.int 1))<|cA<|aB (aY<|aB (fC (.int 0))<|aB (fOp fH (aE 0)<|fC (.int 1))<|aB (fC (.int 1)) aG) aG) aG) (hName 2) (TG n<|Z (.d (.list (a4 n)))) M=Z (.nx (TG n<|Z (.d (.list (a5 n)))),M):=by
 obtain rfl|rfl|rfl|rfl|rfl|rfl|rfl:n=2\/n=3\/n=4\/n=5\/n=6\/n=7\/n=8:=by omega
 all_goals rfl
def ts6(n2:2<=n)(n8:n<=8)(M:Sto):kK (TG n<|Z (.d (.list (a5 n)))) M=Z (.d (.list (noT n)),M):=by
 obtain rfl|rfl|rfl|rfl|rfl|rfl|rfl:n=2\/n=3\/n=4\/n=5\/n=6\/n=7\/n=8:=by omega
 all_goals kernel_rfl
def aGD{g:Te}(n2:2<=n)(n8:n<=8)(M:Sto):fOp SM (rB<|aB (fC .none) aG) (fOp fH (aE 0)<|fC (.int 1)) (TG n g) M=Z (.d (.list (List.replicate (n-1) .none)),M++L0):=by
 refine aZ (HX (aH (x:=.d .none) rfl aV) (by decide)) (b:=I ((n:Int)-1)) rfl ?_;show(match (M++L0)[M.length]? with|some (.lst xs)=>(jR xs).bind _|_=>Y)=_;rw[pO];obtain rfl|rfl|rfl|rfl|rfl|rfl|rfl:n=2\/n=3\/n=4\/n=5\/n=6\/n=7\/n=8:=by omega
 all_goals rfl
def aAH(h:fa γ M=Z (ds.map .d,M'))(k:ds.length<=900):cA fa γ M=Z (.d (.list ds),M'):=by
 show(fa γ M).bind _=_;rw[h,A2,lN,A2,A7<|sz (by omega)]
def ts4(n2:2<=n)(n8:n<=8)(M:Sto):bG (fOp bP (aE 2)<|cA<|aB qV<|aB (fOp bP (fSl (aE 1) bL<|cF<|fUn jM<|fC (.int 1))<|cA<|aB (aY<|aB (fC (.int 0))<|aB (aE 0)<|aB eN aG) aG)<|aB (fOp bP (fSl (aE 1) bL<|cF<|fUn jM<|fC (.int 1))<|cA<|aB (aY<|aB (fC (.int 0))<|aB (fOp fH (aE 0)<|fC (.int 1))<|aB eK aG) aG)<|aB (fC (.bool true))<|aB (fOp SM (rB<|aB (fC .none) aG)<|fOp fH (aE 0)<|fC (.int 1)) aG) (hName 2) (TG n<|Z (.d (.list (a3 n)))) M=Z (.nx (TG n<|Z (.d (.list (a4 n)))),M++L0):=by
 have ha:fOp bP (fSl (aE 1) bL<|cF<|fUn jM<|fC (.int 1)) (cA<|aB (aY<|aB (fC (.int 0))<|aB (aE 0)<|aB eN aG) aG) (TG n<|Z (.d (.list (a3 n)))) M=Z (.d (.list (dlD n++[.tuple [.int 0,.int n,yH]])),M):=by
  obtain rfl|rfl|rfl|rfl|rfl|rfl|rfl:n=2\/n=3\/n=4\/n=5\/n=6\/n=7\/n=8:=by omega
  all_goals rfl
 have k:fOp bP (fSl (aE 1) bL<|cF<|fUn jM<|fC (.int 1)) (cA<|aB (aY<|aB (fC (.int 0))<|aB (fOp fH (aE 0)<|fC (.int 1))<|aB eK aG) aG) (TG n<|Z (.d (.list (a3 n)))) M=Z (.d (.list (dlD n++[.tuple [.int 0,.int (n-1),.tuple [.int 2,.int 2]]])),M):=by
  obtain rfl|rfl|rfl|rfl|rfl|rfl|rfl:n=2\/n=3\/n=4\/n=5\/n=6\/n=7\/n=8:=by omega
  all_goals rfl
 have l:cA (aB qV<|aB (fOp bP (fSl (aE 1) bL<|cF<|fUn jM<|fC (.int 1))<|cA<|aB (aY<|aB (fC (.int 0))<|aB (aE 0)<|aB eN aG) aG)<|aB (fOp bP (fSl (aE 1) bL<|cF<|fUn jM<|fC (.int 1))<|cA<|aB (aY<|aB (fC (.int 0))<|aB (fOp fH (aE 0)<|fC (.int 1))<|aB eK aG) aG)<|aB (fC (.bool true))<|aB (fOp SM (rB<|aB (fC .none) aG)<|fOp fH (aE 0)<|fC (.int 1)) aG) (TG n<|Z (.d (.list (a3 n)))) M=Z (.d (.list (b4 n)),M++L0):=by
  exact aAH (ds:=b4 n) (aH rfl<|aH ha<|aH k<|aH rfl<|aH (aGD n2 n8 M) aV) (show 5<=900 by decide)
 refine bR (i:=2)<|aZ (a:=.d (.list (a3 n))) rfl l ?_;obtain rfl|rfl|rfl|rfl|rfl|rfl|rfl:n=2\/n=3\/n=4\/n=5\/n=6\/n=7\/n=8:=by omega
 all_goals rfl
def UN(n2:2<=n)(n8:n<=8)(M:Sto):dB [I n] M=Z (.d (.list (noT n)),M++L0):=by
 refine eJ rfl ?_;unfold iE;show bA _ _ [Z (I n),Y,Y] M=_;rw[aQ (ts1 n2 n8 M),aQ<|ts2 n2 n8 M,aQ<|ts3 n2 n8 M,aQ<|ts4 n2 n8 M,aQ<|ts5 n2 n8 _];exact fQ<|ts6 n2 n8 _
def trees{n:Nat}(n2:2<=n)(n8:n<=8)(M:Sto):dB [I n] M=Z (.d (.list (noT n)),M++L0)/\0<(noT n).length/\∀d∈noT n,∀M,cK [I n,.d d] M=Z (B false,M):=by
 refine⟨UN n2 n8 M,?_⟩;obtain rfl|rfl|rfl|rfl|rfl|rfl|rfl:n=2\/n=3\/n=4\/n=5\/n=6\/n=7\/n=8:=by omega
 .exact⟨by decide +kernel,aBt (by decide) (by decide +kernel) fun h=>absurd rfl h⟩
 all_goals exact⟨by decide +kernel,aBt (by decide) (by decide +kernel) fun _=>aDG (by decide) (by decide +kernel) (by decide +kernel) (by decide +kernel) fun _=>rfl⟩
noncomputable abbrev xE(a b c:Bool):Tz:=.list [.bool a,.bool b,.bool c,.bool true]
def VF{n:Int}(k:Wb M w n):∃fs:Tu,objOf "Web" M (.c w)=Z (w,fs)/\List.lookup ("many":Str) fs=Z (I n):=by
 obtain⟨fs,o,p⟩:=k;exact⟨fs,by simp only[objOf,o,if_true],p⟩
def HL{i j:Tz}{nm:Str}(l1:List.lookup nm [(("NoPlace":Str),true),("NoTree",true),("NoWeight",true)]=Z true){a b c:Bool}(l2:jD.lookup nm=Z a)(k:hW.lookup nm=Z b)(o:mB.lookup nm=Z c)(p:fF.lookup nm=Z true)(h:cY [.c w,.d tree,.d i,.d j,.d wt] M=Z (.x ⟨nm,[]⟩,M)):dC [.c w,.d tree,.d (.tuple [i,j]),.d wt] M=Z (.d (xE a b c),M++[.exc false nm []]):=by
 have t:gV [.c w,.d tree,.d i,.d j,.d wt] M=Z (.x ⟨nm,[]⟩,M):=by
  simp![gV,lH,h]
 have q:kW [Z (.c w),Z (.d tree),Z (.d (.tuple [i,j])),Z (.d wt),Y] M=Z (.xc [Z (.c w),Z (.d tree),Z (.d (.tuple [i,j])),Z (.d wt),Y] ⟨nm,[]⟩,M):=by
  simp![kW,aGJ,aGS,t]
 have e:(M++[Cell.exc false nm []])[M.length]?=Z (.exc false nm []):=pO;have s:4<=sizeLine:=sz (by decide)
 have u:IQ [⟨[("NoPlace",true),("NoTree",true),("NoWeight",true)],(Z 4),kY⟩] [Z (.c w),Z (.d tree),Z (.d (.tuple [i,j])),Z (.d wt),Y] ⟨nm,[]⟩ M=Z (.rt (.d (xE a b c)),M++[.exc false nm []]):=by
  simp![IQ,l1,kY,e,l2,k,o,p,if_pos s]
 refine eJ rfl<|pF ?_;show MM _ _ [Z (.c w),Z (.d tree),Z (.d (.tuple [i,j])),Z (.d wt),Y] M=_;unfold MM;rw[q,A2];exact u
def aFO{n:Int}{i j:Tz}(h:ulk n i j=false):bQ [I n,.d i,.d j] M=Z (.x ⟨"NoPlace",[]⟩,M):=by
 simp![bQ,cU,AI,h]
def aBn{n:Int}{i j:Tz}(h:ulk n i j=true):bQ [I n,.d i,.d j] M=Z (.v (.d .none),M):=by
 simp![bQ,cU,AI,h]
def xM{n:Int}{i j:Tz}(k:Wb M w n)(h:ulk n i j=false):dC [.c w,.d tree,.d (.tuple [i,j]),.d wt] M=Z (.d (xE true false false),M++[.exc false "NoPlace" []]):=by
 obtain⟨fs,o,l⟩:=VF k;refine HL rfl rfl rfl rfl rfl ?_
 have c:bO [.c w,.d i,.d j,.d wt] M=Z (.x ⟨"NoPlace",[]⟩,M):=by
  simp![bO,dA,vN,o,l,aFO h]
 simp![cY,dN,c]
def GG{n:Int}{i j:Tz}(k:Wb M w n)(h:ulk n i j=true)(p:dW wt=false):dC [.c w,.d tree,.d (.tuple [i,j]),.d wt] M=Z (.d (xE false true false),M++[.exc false "NoWeight" []]):=by
 obtain⟨fs,o,l⟩:=VF k;refine HL rfl rfl rfl rfl rfl ?_
 have c:bO [.c w,.d i,.d j,.d wt] M=Z (.x ⟨"NoWeight",[]⟩,M):=by
  simp![bO,dA,vN,o,l,aBn h,oK,p]
 simp![cY,dN,c]
def LJ{n:Int}{i j:Tz}(k:Wb M w n)(h:ulk n i j=true)(p:dW wt=true)(ht:cK [I n,.d tree] M=Z (B false,M)):dC [.c w,.d tree,.d (.tuple [i,j]),.d wt] M=Z (.d (xE false false true),M++[.exc false "NoTree" []]):=by
 obtain⟨fs,o,l⟩:=VF k;refine HL rfl rfl rfl rfl rfl ?_
 have c:bO [.c w,.d i,.d j,.d wt] M=Z (.v (.d .none),M):=by
  simp![bO,dA,vN,o,l,aBn h,oK,p]
 have q:dJ [.c w,.d tree] M=Z (.x ⟨"NoTree",[]⟩,M):=by
  simp![dJ,fE,vN,o,l,ht]
 simp![cY,dN,c,q]
abbrev GZ(ns:T6)(c:Nat)(n:Nat)(us:Tv Tie)(w:Nat)(g6 g7 g8 g9 g10 g11 g12 g13 g14:Te):Ga:=[Z (.d (sD ns)),Z (.c c),Z<|I n,Z<|fzD us,Z (.c w),Z (.d (.tuple (cQ n))),g6,g7,g8,g9,g10,g11,g12,g13,g14,Y]
noncomputable def plD(n:Int):T3:=[.tuple [.int 0,.int 0],.tuple [.int 1,.int 1],.tuple [.int (-1),.int 0],.tuple [.int 0,.int n],.tuple [.bool true,.int 0],.tuple [.int 0,.bool true],.tuple [.none,.int 1],.tuple [.int 1,.str "0"],.tuple [.tuple [.int 0],.int 1],.tuple [.int 0,.list []],.tuple [.dict [],.int 1],.tuple [.int 1000000000000000000000000000000,.int 0],.tuple [.int 0,.int (-1000000000000000000000000000000)],.tuple [.bool false,.int 1],.tuple [.str "a",.str "b"]]
def QM(n:Int)(M:Sto):eW [I n] M=Z (.d (.list (plD n)),M):=rfl
def aBq{n:Int}(h:0<=i)(k:i<n):plc n (.int i)=true:=by
 show(decide (0<=i)&&decide (i<n))=true;rw[D8 h,D8 k];rfl
def aAZ{n:Int}(k:¬i<n):plc n (.int i)=false:=by
 show(decide (0<=i)&&decide (i<n))=false;rw[C2 k,O9]
def aFM{n:Nat}(n8:n<=8):∀d∈plD n,∃i j,d=.tuple [i,j]/\ulk n i j=false:=by
 have k:plc n (.int 1000000000000000000000000000000)=false:=aAZ (by omega);have o:plc n (.int n)=false:=aAZ (by omega);intro d hd;simp only[plD,List.mem_cons,List.not_mem_nil,or_false]at hd;rcases hd with rfl|rfl|rfl|rfl|rfl|rfl|rfl|rfl|rfl|rfl|rfl|rfl|rfl|rfl|rfl<;>refine⟨_,_,rfl,?_⟩
 .show(_&&(_&&false))=false;rw[O9,O9]
 .show(_&&(_&&false))=false;rw[O9,O9]
 .rfl
 .show(_&&(plc n (.int n)&&_))=false;rw[o,Z4,O9]
 all_goals first|rfl|skip
 .show(plc n (.int 1000000000000000000000000000000)&&_)=false;rw[k,Z4]
 .show(_&&(false&&_))=false;rw[Z4,O9]
noncomputable def nwD:T3:=[.tuple [.int 2,.int 2],.tuple [.int 0,.int 2],.tuple [.int 1,.int 13],.tuple [.int 1000000000001,.int 1],.tuple [.int (-1),.int 1],.tuple [.int 1,.int 0],.tuple [.int 1,.int (-1)],.tuple [.bool true,.int 1],.tuple [.int 1,.bool true],.int 1,.none,.str "1/2",.tuple [.int 1],.tuple [.int 1,.int 1,.int 1],.tuple [.tuple [.int 1,.int 1]],.dict [],.tuple [.int 1,.int 110880],.tuple [.int 1000000000000000000000000000000,.int 1],.list [.int 1,.none],.bool false]
def LY(M:Sto):eI [] M=Z (.d (.list nwD),M):=rfl
def aFV:∀d∈nwD,dW d=false:=by
 have:nwD.all (fun d=>!dW d)=true:=by decide +kernel
 intro d hd;have:=List.all_eq_true.mp this d hd
 rwa [Bool.not_eq_true']at this
def aEv{r:Int}(n2:2<=n)(n8:n<=8):∃i j,sIf (gB<|fOp (eqX false) (fOp bV (aE 7)<|fC (.int 2))<|fC (.int 1)) (bG (fOp ixF (aL eW<|aB (aE 2) aG)<|fOp bV (aE 8)<|fC (.int 15))<|hName 9) cH (GZ ns c n us w g6 (Z<|I y) (Z<|I r) (Z (.d (.tuple [.int 0,.int (n-1)]))) (Z (.d wt)) (Z (.d tr)) g12 g13 g14) M=Z (.nx (GZ ns c n us w g6 (Z<|I y) (Z<|I r) (Z (.d (.tuple [i,j]))) (Z (.d wt)) (Z (.d tr)) g12 g13 g14),M)/\ulk n i j=!(y % 2==1):=by
 have t:gB (fOp (eqX false) (fOp bV (aE 7)<|fC (.int 2))<|fC (.int 1)) (GZ ns c n us w g6 (Z<|I y) (Z<|I r) (Z (.d (.tuple [.int 0,.int (n-1)]))) (Z (.d wt)) (Z (.d tr)) g12 g13 g14) M=Z ((y % 2==1),M):=eA<|aZ (dH rfl (by decide)) rfl mE;cases h:(y % 2==1)with
 |false=>
  rw[h]at t;refine⟨_,_,(hZ t).trans rfl,?_⟩;have a:plc n (.int 0)=true:=aBq (by omega) (by omega);have b:plc n (.int (n-1))=true:=aBq (by omega) (by omega);show(plc n (.int 0)&&(plc n (.int (n-1))&&!((0:Int)==(n-1))))=true;have e:((0:Int)==(n-1))=false:=by simp;omega
  rw[a,b,e];rfl
 |true=>
  rw[h]at t;obtain⟨d,hd,hm⟩:=vX (ds:=plD n) (k:=r) (m:=15) (by decide) rfl;obtain⟨i,j,rfl,e⟩:=aFM n8 d hm;exact⟨i,j,(jI t).trans (bR (i:=9)<|aZ (bD (aH rfl aV)<|QM _ _) (dH rfl (by decide))<|uH rfl hd),e⟩
def PJ{r:Int}:∃wt,sIf (gB<|fOp (eqX false) (fOp bV (fOp cP (aE 7)<|fC (.int 2))<|fC (.int 2))<|fC (.int 1)) (bG (fOp ixF (aL eI aG)<|fOp bV (fOp cP (aE 8)<|fC (.int 15))<|fC (.int 20))<|hName 10) cH (GZ ns c n us w g6 (Z<|I y) (Z<|I r) (Z (.d en)) (Z (.d (.tuple [.int 3,.int 4]))) (Z (.d tr)) g12 g13 g14) M=Z (.nx (GZ ns c n us w g6 (Z<|I y) (Z<|I r) (Z (.d en)) (Z (.d wt)) (Z (.d tr)) g12 g13 g14),M)/\dW wt=!(y / 2 % 2==1):=by
 have t:gB (fOp (eqX false) (fOp bV (fOp cP (aE 7)<|fC (.int 2))<|fC (.int 2))<|fC (.int 1)) (GZ ns c n us w g6 (Z<|I y) (Z<|I r) (Z (.d en)) (Z (.d (.tuple [.int 3,.int 4]))) (Z (.d tr)) g12 g13 g14) M=Z ((y / 2 % 2==1),M):=eA<|aZ (dH (gC rfl (by decide) (by decide)) (by decide)) rfl mE;cases h:(y / 2 % 2==1)with
 |false=>
  rw[h]at t;exact⟨_,(hZ t).trans rfl,by decide +kernel⟩
 |true=>
  rw[h]at t;obtain⟨d,hd,hm⟩:=vX (ds:=nwD) (k:=r / 15) (m:=20) (by decide) rfl;exact⟨d,(jI t).trans (bR (i:=10)<|aZ (bD aV<|LY _) (dH (gC rfl (by decide) (by decide)) (by decide))<|uH rfl hd),aFV d hm⟩
def aEV{r:Int}{M:Sto}(n2:2<=n)(n8:n<=8):∃tr o L,sIf (gB<|fOp (eqX false) (fOp cP (aE 7)<|fC (.int 4))<|fC (.int 1)) (bA (bG (aL dB<|aB (aE 2) aG)<|hName 12)<|bG (fOp ixF (aE 12)<|fOp bV (fOp cP (aE 8)<|fC (.int 300))<|aL jS<|aB (aE 12) aG)<|hName 11) cH (GZ ns c n us w g6 (Z<|I y) (Z<|I r) (Z (.d en)) (Z (.d wt)) (Z (.d (.tuple (cQ n)))) g12 g13 g14) M=Z (.nx (GZ ns c n us w g6 (Z<|I y) (Z<|I r) (Z (.d en)) (Z (.d wt)) (Z (.d tr)) o g13 g14),M++L)/\((y / 4==1)=true->∀M,cK [I n,.d tr] M=Z (B false,M)):=by
 have t:gB (fOp (eqX false) (fOp cP (aE 7)<|fC (.int 4))<|fC (.int 1)) (GZ ns c n us w g6 (Z<|I y) (Z<|I r) (Z (.d en)) (Z (.d wt)) (Z (.d (.tuple (cQ n)))) g12 g13 g14) M=Z ((y / 4==1),M):=eA<|aZ (gC rfl (by decide) (by decide)) rfl mE;cases h:(y / 4==1)with
 |false=>
  rw[h]at t;exact⟨_,_,[],(hZ t).trans (by rw[D7];rfl),fun z=>nomatch z⟩
 |true=>
  rw[h]at t;obtain⟨e,q,p⟩:=trees n2 n8 M;have s1:bG (aL dB<|aB (aE 2) aG) (hName 12) (GZ ns c n us w g6 (Z<|I y) (Z<|I r) (Z (.d en)) (Z (.d wt)) (Z (.d (.tuple (cQ n)))) g12 g13 g14) M=Z (.nx (GZ ns c n us w g6 (Z<|I y) (Z<|I r) (Z (.d en)) (Z (.d wt)) (Z (.d (.tuple (cQ n)))) (Z (.d (.list (noT n)))) g13 g14),M++L0):=bR (i:=12)<|bD (aH rfl aV) e;obtain⟨d,hd,hm⟩:=vX (ds:=noT n) (k:=r / 300) (m:=(noT n).length) (by omega) rfl;exact⟨d,_,_,(jI t).trans ((aQ s1).trans (bR (i:=11)<|aZ rfl (xQ (gC rfl (by decide) (by decide)) (bD (aH rfl aV)<|KM rfl _) (by omega))<|uH rfl hd)),fun _=>p d hm⟩
noncomputable def fI(y:Int):Int:=if y % 2=1 then 0 else if y / 2 % 2=1 then 1 else 2
def aDl(k:1<=y)(o:y<=7)(M:Sto):tR (.d (.list [.int (y % 2),.int (y / 2 % 2),.int (y / 4)])) [I 1] M=Z (I<|fI y,M):=by
 obtain rfl|rfl|rfl|rfl|rfl|rfl|rfl:y=1\/y=2\/y=3\/y=4\/y=5\/y=6\/y=7:=by omega
 all_goals rfl
def aDh{i j:Tz}{M:Sto}(s:1<=y)(t:y<=7)(p:Wb M w n)(a:ulk n i j=!(y % 2==1))(b:dW wt=!(y / 2 % 2==1))(c:(y / 4==1)=true->∀M,cK [I n,.d tr] M=Z (B false,M)):∃L,dC [.c w,.d tr,.d (.tuple [i,j]),.d wt] M=Z (.d (xE (fI y==0) (fI y==1) (fI y==2)),M++L):=by
 unfold fI;by_cases k:y % 2=1
 .rw[A7 k];exact⟨_,xM p (by rw[a,k];rfl)⟩
 rw[B0 k];have q:ulk n i j=true:=by rw[a];simpa using k
 by_cases o:y / 2 % 2=1
 .rw[A7 o];exact⟨_,GG p q (by rw[b,o];rfl)⟩
 rw[B0 o];exact⟨_,LJ p q (by rw[b];simpa using o)<|c (by rw[show y / 4=1 by omega];rfl) M⟩
def aBQ(a b c:Bool)(M:Sto):eqX true (.d (xE a b c)) (.d (xE a b c)) M=Z (B false,M):=by cases a<;>cases b<;>cases c<;>rfl
def aHm{k:EF}{y z u:Tz}(o:f γ M=Z (.d x,M))(p:g γ M=Z (.d y,M))(q:h γ M=Z (.d z,M))(s:k γ M=Z (.d u,M)):cA (aB f<|aB g<|aB h<|aB k aG) γ M=Z (.d (.list [x,y,z,u]),M):=by
 unfold cA;rw[aH o (aH p<|aH q<|aH s aV),A2];show(if 4<=sizeLine then Z (CD.d (.list [x,y,z,u]),M)else Y)=_;rw[A7 (sz (by decide))]
def TC{g8 g9 g10 g11:Te}(n2:2<=n)(n8:n<=8)(E:Wb M w n):∃v A B p q k s u L,wG (GZ ns c n us w (Z<|I z) g7 g8 g9 g10 g11 g12 g13 g14) M=Z (.nx (GZ ns c n us w (Z<|I z) v A B p q k s u),M++L):=by
 obtain⟨a,ha⟩:∃a:Int,GI [I z] M=Z (I a,M):=⟨_,rfl⟩;have s1:bG (fOp bP (fC (.int 1))<|fOp bV (aL GI<|aB (aE 6) aG)<|fC (.int 7)) (hName 7) (GZ ns c n us w (Z<|I z) g7 g8 g9 g10 g11 g12 g13 g14) M=Z (.nx (GZ ns c n us w (Z<|I z) (Z<|I (1+a % 7)) g8 g9 g10 g11 g12 g13 g14),M):=bR (i:=7)<|aZ rfl (dH (bD (aH rfl aV) ha) (by decide)) gK;have G:=L7 a (show(7:Int)≠0 by decide);have H:=J7 a (show(0:Int)<7 by decide);generalize K:1+a % 7=y at s1;have C:1<=y:=by omega
 have D:y<=7:=by omega
 clear K G H;have s2:bG (fOp cP (aL GI<|aB (aE 6) aG)<|fC (.int 7)) (hName 8) (GZ ns c n us w (Z<|I z) (Z<|I y) g8 g9 g10 g11 g12 g13 g14) M=Z (.nx (GZ ns c n us w (Z<|I z) (Z<|I y) (Z<|I (a / 7)) g9 g10 g11 g12 g13 g14),M):=bR (i:=8)<|gC (bD (aH rfl aV) ha) (by decide) (by decide);generalize a / 7=r at s2
 have N:DJ 9 10 11 (aB (aY<|aB (fC (.int 0))<|aB (fOp fH (aE 2)<|fC (.int 1)) aG)<|aB BM<|aB (aE 5) aG) (GZ ns c n us w (Z<|I z) (Z<|I y) (Z<|I r) g9 g10 g11 g12 g13 g14) M=Z (.nx (GZ ns c n us w (Z<|I z) (Z<|I y) (Z<|I r) (Z (.d (.tuple [.int 0,.int (n-1)]))) (Z (.d (.tuple [.int 3,.int 4]))) (Z (.d (.tuple (cQ n)))) g12 g13 g14),M):=by
  unfold DJ;rw[aH (SC (x:=.int 0) (y:=.int (n-1)) rfl rfl) (aH (QB _ _)<|aH rfl aV),A2];rfl
 obtain⟨i,j,O,ha⟩:=aEv (ns:=ns) (c:=c) (w:=w) (us:=us) (g6:=Z<|I z) (g12:=g12) (g13:=g13) (g14:=g14) (y:=y) (r:=r) (wt:=.tuple [.int 3,.int 4]) (tr:=.tuple (cQ n)) (M:=M) n2 n8;obtain⟨wt,P,Q⟩:=PJ (ns:=ns) (c:=c) (n:=n) (w:=w) (us:=us) (g6:=Z<|I z) (g12:=g12) (g13:=g13) (g14:=g14) (y:=y) (r:=r) (en:=.tuple [i,j]) (tr:=.tuple (cQ n)) (M:=M);obtain⟨tr,k,o,R,S⟩:=aEV (ns:=ns) (c:=c) (w:=w) (us:=us) (g6:=Z<|I z) (g12:=g12) (g13:=g13) (g14:=g14) (y:=y) (r:=r) (en:=.tuple [i,j]) (wt:=wt) (M:=M) n2 n8
 have T:bG (fJ "list" tR (cA<|aB (fOp bV (aE 7)<|fC (.int 2))<|aB (fOp bV (fOp cP (aE 7)<|fC (.int 2))<|fC (.int 2))<|aB (fOp cP (aE 7)<|fC (.int 4)) aG)<|aB (fC (.int 1)) aG) (hName 13) (GZ ns c n us w (Z<|I z) (Z<|I y) (Z<|I r) (Z (.d (.tuple [i,j]))) (Z (.d wt)) (Z (.d tr)) k g13 g14) (M++o)=Z (.nx (GZ ns c n us w (Z<|I z) (Z<|I y) (Z<|I r) (Z (.d (.tuple [i,j]))) (Z (.d wt)) (Z (.d tr)) k (Z<|I<|fI y) g14),M++o):=
  bR (i:=13) (mP (aFS (dH rfl (by decide)) (dH (gC rfl (by decide) (by decide)) (by decide))<|gC rfl (by decide) (by decide)) rfl (aH rfl aV)<|aDl C D _)
 have U:bG (cA<|aB (fOp (eqX false) (aE 13)<|fC (.int 0))<|aB (fOp (eqX false) (aE 13)<|fC (.int 1))<|aB (fOp (eqX false) (aE 13)<|fC (.int 2))<|aB (fC (.bool true)) aG) (hName 14) (GZ ns c n us w (Z<|I z) (Z<|I y) (Z<|I r) (Z (.d (.tuple [i,j]))) (Z (.d wt)) (Z (.d tr)) k (Z<|I<|fI y) g14) (M++o)=Z (.nx (GZ ns c n us w (Z<|I z) (Z<|I y) (Z<|I r) (Z (.d (.tuple [i,j]))) (Z (.d wt)) (Z (.d tr)) k (Z<|I<|fI y)<|Z (.d (xE (fI y==0) (fI y==1) (fI y==2)))),M++o):=
  bR (i:=14) (aHm (aZ rfl rfl mE) (aZ rfl rfl mE) (aZ rfl rfl mE) rfl)
 obtain⟨L2,e⟩:=aDh (tr:=tr) (i:=i) (j:=j) (wt:=wt) C D (E.app (L:=o)) ha Q S;have t:gB (fOp (eqX true) (aL dC<|aB (aE 4)<|aB (aE 11)<|aB (aE 9)<|aB (aE 10) aG)<|aE 14) (GZ ns c n us w (Z<|I z) (Z<|I y) (Z<|I r) (Z (.d (.tuple [i,j]))) (Z (.d wt)) (Z (.d tr)) k (Z<|I<|fI y)<|Z (.d (xE (fI y==0) (fI y==1) (fI y==2)))) (M++o)=Z (false,M++o++L2):=eA<|aZ (bD (aH rfl<|aH rfl<|aH rfl<|aH rfl aV) e) rfl<|aBQ _ _ _ _;refine⟨Z<|I y,Z<|I r,Z (.d (.tuple [i,j])),Z (.d wt),Z (.d tr),k,Z<|I<|fI y,Z (.d (xE (fI y==0) (fI y==1) (fI y==2))),o++L2,?_⟩;unfold wG;rw[aQ s1,aQ s2,aQ N,aQ O,aQ P,aQ R,aQ T,aQ U,<- L3];exact(hZ t).trans rfl
def FJ{ns:T6}{c n w:Nat}{us:Tv Tie}(n2:2<=n)(n8:n<=8):∀(xs:T5)(g6 g7 g8 g9 g10 g11 g12 g13 g14:Te)(M:Sto),(∀x∈xs,∃z,x=I z)->Wb M w n->∃t u v A k o p q s L,nO (hName 6) wG xs (GZ ns c n us w g6 g7 g8 g9 g10 g11 g12 g13 g14) M=Z (.nx (GZ ns c n us w t u v A k o p q s),M++L)
 |[]=>fun g6 g7 g8 g9 g10 g11 g12 g13 g14 M _ _=>⟨g6,g7,g8,g9,g10,g11,g12,g13,g14,[],by rw[D7];rfl⟩
 |x::xs=>fun g6 g7 g8 g9 g10 g11 g12 g13 g14 M Q R=>by
  obtain⟨z,rfl⟩:=Q x B7;obtain⟨T,U,V,B,C,D,E,G,S,W⟩:=TC (ns:=ns) (c:=c) (us:=us) (z:=z) (g7:=g7) (g8:=g8) (g9:=g9) (g10:=g10) (g11:=g11) (g12:=g12) (g13:=g13) (g14:=g14) n2 n8 R;obtain⟨X,b7,b8,b9,H,K,N,O,P,L2,e2⟩:=FJ (ns:=ns) (c:=c) (us:=us) n2 n8 xs (Z<|I z) T U V B C D E G (M++S) (fun y hy=>Q y<|B4 _ hy) R.app;refine⟨X,b7,b8,b9,H,K,N,O,P,S++L2,?_⟩;rw[oS (show hName 6 (I z) (GZ ns c n us w g6 g7 g8 g9 g10 g11 g12 g13 g14) M=Z (GZ ns c n us w (Z<|I z) g7 g8 g9 g10 g11 g12 g13 g14,M)from rfl) W,<- L3];exact e2
def WK(n2:2<=n)(n8:n<=8)(h:aE 2 γ M=Z (I n,M)):CV γ M=Z (.d (.list (cQ n)),M):=by
 have it:=rn2 (fa:=aB (fC (.int 1))<|aB (aE 2) aG) (γ:=γ) (M:=M) (i:=1) (j:=(n:Int)) (aH rfl<|aH h aV) (by omega) (by omega);rw[show((n:Int)-1).toNat=n-1 by omega]at it
 have l:=IG (i:=0) (e:=aY<|aB (fC (.int 0))<|aB (aE 0)<|aB IV aG) (γ0:=[Y]) (M:=M) (fun k:Nat=>I (1+(k:Nat))) (fun k=>.tuple [.int 0,.int ((k+1:Nat):Int),yH]) (List.range (n-1)) fun k o=>by
  rw[show((k+1:Nat):Int)=1+(k:Nat)by omega];exact aBM rfl rfl rfl
 exact kS it (by unfold fG;rw[A3,C1];omega) l (by unfold cQ;rw[A3,C1];omega)
def OM(ns:T6)(lo hi:Tk):lV (ns.map PyData.int) lo hi=(lV ns lo hi).map .int:=by
 unfold lV;rw[A3,List.map_take,List.map_drop]
def YH{k:Type}(xs:Tv k)(lo hi:Tk):(lV xs lo hi).length<=xs.length:=by
 unfold lV;rw[List.length_take,List.length_drop];omega
def aEo{xs:T3}(k:xs.length+ys.length<=900):bP (.d (.list xs)) (.d (.list ys)) M=Z (.d (.list (xs++ys)),M):=by
 have:VY (.d (.list xs)) (.d (.list ys)) M=Z (.d (.list (xs++ys)),M):=by
  unfold VY tD;dsimp only;rw[A2,A2,<- J0,lN,A2,A7<|sz (by rw[B1];omega)]
 show(match VY (.d (.list xs)) (.d (.list ys)) M with|some r=>Z r|none=>_)=_;rw[this]
def RJ(D:ns.length<=63)(h:aE 0 γ M=Z (.d (sD ns),M))(t:sP [Z 0,Y] γ=[Z (.d (sD ns)),Y]):∃xs:T5,dP (fOp bP BE<|fSl (aE 0) (cF<|fC (.int 36))<|cF<|fC (.int 41)) γ M=Z (xs,M)/\∀x∈xs,∃z,x=I z:=by
 have it:=rn2 (fa:=aB (fC (.int 33))<|aB (fC (.int 36)) aG) (γ:=γ) (M:=M) (i:=33) (j:=36) rfl (by omega) (by omega)
 obtain⟨ys,u,M',l,v,q,⟨_,A⟩⟩:=GX (g:=hName 1) (c:=fW) (e:=aL dD<|aB (aE 0)<|aB (aE 1) aG) (X:=fun x=>∃k:Nat,k<=200/\x=I k) (E:=fun y=>∃d,y=.d d/\∃z,d=PyData.int z) (Inv:=fun _ γ M1=>(∃s,γ=[Z (.d (sD ns)),s])/\M1=M) (by
  rintro m x γ M1 ⟨k,p,rfl⟩ ⟨⟨s,rfl⟩,rfl⟩;obtain⟨z,e⟩:=IP ns k p M1;exact⟨_,rfl,true,M1,rfl,fun h=>(nomatch h),fun _=>⟨I z,M1,bD (aH rfl (aH rfl aV)) e,⟨_,rfl,z,rfl⟩,⟨_,rfl⟩,rfl⟩⟩) (fG 33 3) [Z (.d (sD ns)),Y] M (by
  intro x o;unfold fG at o;obtain⟨k,p,rfl⟩:=List.mem_map.mp o;have:=List.mem_range.mp p;exact⟨33+k,by omega,by rw[show(((33+k:Nat)):Int)=33+(k:Nat)by omega]⟩) ⟨⟨_,rfl⟩,rfl⟩
 subst A;obtain⟨ds,rfl,hd⟩:=JT v;have G:ds.length<=3:=by rw[A3]at q;exact q
 have B:BE γ M'=Z (.d (.list ds),M'):=kS it (by decide) (by rw[t];exact l) (by omega);have cl:=YH ns (Z 36)<|Z 41;have C:fSl (aE 0) (cF<|fC (.int 36)) (cF<|fC (.int 41)) γ M'=Z (.d (.list ((lV ns (Z 36)<|Z 41).map .int)),M'):=aBd h rfl rfl (by rw[<- OM];rfl);refine⟨_,KO (aZ B C<|aEo (by rw[A3];omega)) rfl,fun x o=>?_⟩;obtain⟨d,hm,rfl⟩:=List.mem_map.mp o;rcases List.mem_append.mp hm with hm|hm
 .obtain⟨z,rfl⟩:=hd d hm;exact⟨z,rfl⟩
 .obtain⟨z,_,rfl⟩:=List.mem_map.mp hm;exact⟨z,rfl⟩
def main(ns:T6)(B:ns.length<=63):∃M',F_law [.d (.list (ns.map .int))] []=Z (.d (.bool true),M'):=by
 obtain⟨c,M1,C,o⟩:=aAz ns;have s1:bG (aL iN<|aB (aE 0)<|aB (fC (.int 0))<|aB (fC (.int 120)) aG) (hName 1) [Z (.d (sD ns)),Y,Y,Y,Y,Y,Y,Y,Y,Y,Y,Y,Y,Y,Y,Y] []=Z (.nx [Z (.d (sD ns)),Z (.c c),Y,Y,Y,Y,Y,Y,Y,Y,Y,Y,Y,Y,Y,Y],M1):=bR (i:=1)<|bD (aH rfl<|aH rfl<|aH rfl aV) C;obtain⟨n,d,M2,us,D,W⟩:=aFI o;have n2:=W.n2;have n8:=W.n8;have ne:c≠d:=by have:=o.lt;have:=W.new;omega
 have a2:bG (aL jB<|aB (aE 1)<|aB (fC (.int 2))<|aB (fC (.int 8)) aG) (lE 2<|bT (hName 2)<|bT (hName 3) lJ) [Z (.d (sD ns)),Z (.c c),Y,Y,Y,Y,Y,Y,Y,Y,Y,Y,Y,Y,Y,Y] M1=Z (.nx [Z (.d (sD ns)),Z (.c c),Z<|I n,Z (.c d),Y,Y,Y,Y,Y,Y,Y,Y,Y,Y,Y,Y],M2):=by
  unfold bG;rw[bD (xs:=[.c c,I 2,I 8]) (aH rfl<|aH rfl<|aH rfl aV) D,A2];rfl
 have f2:JE 3 [Z (.d (sD ns)),Z (.c c),Z<|I n,Z (.c d),Y,Y,Y,Y,Y,Y,Y,Y,Y,Y,Y,Y] M2=Z ([Z (.d (sD ns)),Z (.c c),Z<|I n,Z<|fzD us,Y,Y,Y,Y,Y,Y,Y,Y,Y,Y,Y,Y],M2.set d .dead):=by
  show(match M2[d]? with|some (.dt kvs)=>(sQ kvs).bind _|_=>Y)=_;rw[W.at_];show(sQ<|bC us).bind _=_;rw[yV];rfl
 have s2:FU 3 (bG (aL jB<|aB (aE 1)<|aB (fC (.int 2))<|aB (fC (.int 8)) aG)<|lE 2<|bT (hName 2)<|bT (hName 3) lJ) [Z (.d (sD ns)),Z (.c c),Y,Y,Y,Y,Y,Y,Y,Y,Y,Y,Y,Y,Y,Y] M1=Z (.nx [Z (.d (sD ns)),Z (.c c),Z<|I n,Z<|fzD us,Y,Y,Y,Y,Y,Y,Y,Y,Y,Y,Y,Y],M2.set d .dead):=by
  unfold FU;rw[a2,A2];dsimp only;rw[f2,A2]
 have p:Dr (M2.set d .dead) c:=by
  obtain⟨xs,E,G⟩:=W.dr;exact⟨xs,by unfold Li;rw[C6 (F5 ne)];exact E,G⟩
 obtain⟨l,M3,H,K,o3⟩:=aCk p W.ok.2 W.len;obtain⟨k,N,q⟩:=EY (fa:=aB (aE 2)<|aB (aL kI<|aB (aE 1)<|aB (aE 3) aG) aG) (γ:=[Z (.d (sD ns)),Z (.c c),Z<|I n,Z<|fzD us,Y,Y,Y,Y,Y,Y,Y,Y,Y,Y,Y,Y]) (M:=M2.set d .dead) (n:=(n:Int)) (aH rfl<|aH (bD (aH rfl<|aH rfl aV) H) aV) ⟨W.ok.1,W.ok.2,by have:=W.len;omega⟩ (by omega) (by omega);have O:=bR (i:=4) N;have P:bG (aL jK<|aB CV aG) (hName 5) [Z (.d (sD ns)),Z (.c c),Z<|I n,Z<|fzD us,Z (.c M3.length),Y,Y,Y,Y,Y,Y,Y,Y,Y,Y,Y] (M3++k)=Z (.nx (GZ ns c n us M3.length Y Y Y Y Y Y Y Y Y),M3++k):=bR (i:=5)<|bD (aH (WK n2 n8 rfl) aV) rfl;obtain⟨xs,Q,R⟩:=RJ (γ:=GZ ns c n us M3.length Y Y Y Y Y Y Y Y Y) (M:=M3++k) B rfl rfl;obtain⟨g6,g7,S,T,s,u,g12,g13,g14,A,U⟩:=FJ (ns:=ns) (c:=c) (us:=us) n2 n8 xs Y Y Y Y Y Y Y Y Y (M3++k) R q;obtain⟨V,X,v⟩:=EY (fa:=aB (fC (.int 1))<|aB (aY aG) aG) (γ:=GZ ns c n us M3.length g6 g7 S T s u g12 g13 g14) (M:=M3++k++A) (n:=1) (l:=false) (us:=[]) rfl ⟨fun t h=>absurd h (by simp),.nil,by decide⟩ (by decide) (by decide);have s6:=bR (i:=15) X;have e7:=xM (tree:=.tuple []) (i:=.int 0) (j:=.int 0) (wt:=.tuple [.int 1,.int 1]) v (by decide);refine⟨M3++k++A++V++[.exc false "NoPlace" []],eJ rfl ?_⟩;unfold VC;show bA _ _ [Z (.d (sD ns)),Y,Y,Y,Y,Y,Y,Y,Y,Y,Y,Y,Y,Y,Y,Y] []=_;rw[aQ s1,aQ s2,aQ O];refine(aQ P).trans ?_;rw[aQ (uE Q U),aQ s6];refine fQ ?_;exact aZ (bD (aH rfl<|aH rfl<|aH (OJ _ _)<|aH (OO _ _) aV) e7) (UD _ _) rfl
end Q49
end
end
open PySem PySem.W PyProof.Rows
set_option maxRecDepth 100000 in
set_option maxHeartbeats 0 in
theorem PySem.Challenge.cw_cutstree_k49_behind_refused_holds : PySem.Challenge.rw_cutstree_k49_behind_refused.Holds := by
 refine Q49.k_top ?_
 k_fill
 refine L2.law_walk (l:=PySem.Challenge.rw_cutstree_k49_behind_refused) (F:=Q49.F_law) (k:=10) (p:="_law_script") (by decide +kernel) rfl rfl ⟨fun _=>rfl,by decide,by decide,rfl⟩ (fun w h a=>PySem.W.kIn_of a) ?T Q49.main (fun _=>by kernel_rfl)
 case T=>
  intro w mg h KX G;refine Q49.fn_law (K:=_) (mg:=mg) ?TT
  refine' Q49.txt_mk KX G ?v0 ?v1 ?v2 ?v3 ?v4 ?v5 ?v6 ?v7 ?v8 ?v9 ?v10 ?v11 ?v12 ?v13 ?v14 ?v15 ?v16 ?v17 ?v18 ?v19 ?v20 ?v21 ?v22 ?v23 ?v24 ?v25 ?v26 ?v27 ?v28 ?v29 ?v30 ?v31 ?v32 ?v33 ?v34 ?v35 ?v36 ?v37 ?v38 ?v39 ?v40 ?v41 ?v42 ?v43 ?v44 ?v45 ?v46 ?v47 ?v48 ?v49 ?v50 ?v51 ?v52 ?v53 ?v54 ?v55 ?v56 ?v57 ?v58 ?v59 ?v60 ?v61 ?v62 ?v63 ?v64 ?v65 ?v66 ?v67 ?v68 ?v69 ?v70 ?v71 ?v72 ?v73 ?v74 ?v75 ?v76 ?v77 ?v78 ?v79 ?v80 ?v81 ?v82 ?v83 ?v84 ?v85 ?v86 ?v87 ?v88 ?v89 ?v90 ?v91 ?v92 ?v93 ?v94 ?v95 ?v96 ?v97 ?v98 ?v99 ?v100 ?v101 ?v102 ?v103 ?v104 ?v105 ?v106 ?v107 ?v108
  (case v0|v1|v2|v3|v4|v5|v6|v7|v8|v9|v10|v11|v12|v13|v14|v15|v16|v17|v18|v19|v21|v25|v26|v27|v29|v31|v35|v36|v37|v39|v40|v41|v42|v43|v44|v45|v47|v48|v49|v50|v51|v52|v53|v55|v56|v57|v58|v67|v68|v69|v70|v71|v72|v75=>k_is)
  (case v20|v22|v23|v24|v28|v30|v32|v33|v34|v38|v46|v54|v59|v60|v61|v62|v63|v64|v65|v66|v73|v74=>kernel_rfl)
  (case v76|v77|v78|v79|v80|v81|v82|v83|v84|v85|v86|v87|v88|v89|v90|v91|v92|v93|v94|v95|v96|v97|v98|v99|v100|v101|v102|v103|v104|v105|v106|v107|v108=>exact L2.def_mk KX G (by k_is) (by k_is) (by k_is) (by k_is))