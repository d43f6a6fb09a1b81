import PyProof.Rows.All
import Open.Boot
import OpenK.KLine
import OpenK.KWalk
import OpenK.KMore
import OpenK.KOwn
import OpenK.KRaise
import KE.KSortTup
import PyProof.EqAt
import PyProof.EqKinds
import PyProof.TupleCall
import KE.KIsAll
import PyProof.ExcArgsOwn
import PyProof.NsDelKeeps
import KE.KTryMore
import PyProof.InstStoreFacts
import PyProof.ExcInit
import PyProof.ExcClass2
import PyProof.Rows.ListMul
import PyProof.Draws
import PyProof.EnumMake
import PyProof.Rows.EnumRows
import KE.KItemsList
import PyProof.DictCompW
import PyProof.ListRange
import PyProof.ZipIter
import PyProof.AttrMissHeap
import KE.KDictOf
import KE.KUnpack
import PyProof.SetKind
import PyProof.Rows.SetFrom
import KE.KIntText
import KE.KMinKey
import KE.KLam
import PySem.Challenge.RW_cutstree_k25_between
set_option Elab.async false
set_option compiler.extract_closed false
set_option bootstrap.genMatcherCode false
section
set_option maxRecDepth 100000
set_option maxHeartbeats 0
namespace Q25
open PySem PySem.W PyProof.Rows
noncomputable def qv:Program:={ PySem.Challenge.rw_cutstree_k25_between.prog with main:={ PySem.Challenge.rw_cutstree_k25_between.prog.main with body:=((((((PySem.Challenge.rw_cutstree_k25_between.prog.main.body.eraseIdx 31).eraseIdx 27).eraseIdx 19).eraseIdx 13).eraseIdx 4).eraseIdx 0) } }
noncomputable abbrev ran(w:World)(os:OsState):Option Shared:=topFrom treeTable PySem.Challenge.rw_cutstree_k25_between.prog w 6100 { heap:=boot_heap w.params,gens:=#[],drawn:=boot_drawn,toks:=boot_toks,os:=os }
noncomputable abbrev xt(s:Shared):Bool:=xlAt qv [] s&&recOk (RowW.records (OpenRow.toRowW PySem.Challenge.rw_cutstree_k25_between.row)) s
theorem two{c d:Type}{o:Option Shared}{f:Shared->c}{g:Shared->d}{a:c}{b:d}(e:o.map f=some a)(h:o.map g=some b):o.map (fun s=>(f s,g s))=some (a,b):=by
 cases o with
 |none=>cases e
 |some s=>cases e;cases h;rfl
theorem pk{o p γ q r s t u ι:Type}{a j:o}{b k:p}{c c':γ}{d d':q}{e l:r}{f m:s}{g g':t}{h h':u}{i n:ι}(k1:a=j)(k2:b=k)(k3:c=c')(v:(d,e)=(d',l))(k5:(f,g)=(m,g'))(w:(h,i)=(h',n)):(a,b,c,d,e,f,g,h,i)=(j,k,c',d',l,m,g',h',n):=by
 cases k1;cases k2;cases k3;cases v;cases k5;cases w;rfl
theorem t1(w:World)(os:OsState):(ran w os).map (fun s=>seen (List.map (fun x=>x.name) (recsOf qv)) (ownsOf qv) [] { heap:=s.heap,drawn:=s.drawn,toks:=s.toks,os:=s.os })=some (expectedOf qv):=by kernel_rfl
theorem t2(w:World)(os:OsState):(ran w os).map (fun s=>s.heap.bltView)=some bltViewBooted:=by kernel_rfl
theorem t3(w:World)(os:OsState):(ran w os).map (fun s=>s.heap.keysOk (looseW qv []) (List.map (fun x=>x.name) (recsOf qv)) (List.map (fun x=>x.fst) (litsOf qv)) (List.map (fun x=>x.name) (clssOf qv (looseW qv [])))&&s.heap.accountedOkI (importedModules PySem.Challenge.rw_cutstree_k25_between.prog.main.body)&&s.heap.isNs mainGlobals&&s.heap.isNs builtinsNs&&tablesOk qv s.heap&&xt s&&if true=true then s.gens.size==0 else !leftWithCleanup s.gens)=some true:=by kernel_rfl
theorem t4(w:World)(os:OsState):(ran w os).map (fun s=>(tabsOk qv s,pinSeenD qv (drecsOf qv) s))=some (true,pinGoodD (drecsOf qv)):=by kernel_rfl
theorem t5(w:World)(os:OsState):(ran w os).map (fun s=>(plainSeenE qv (looseW qv []) s,plainSeenD qv [] s))=some (plainGoodE qv (looseW qv []),plainGoodD qv []):=by kernel_rfl
theorem t6(w:World)(os:OsState):(ran w os).map (fun s=>(wideSeen qv s,clsSeenW qv [] s))=some (wideGood qv,clsGoodW qv []):=by kernel_rfl
theorem left_boot{l:Type}{Yf:Shared->l}{Ya:World->l}(m:opening PySem.Challenge.rw_cutstree_k25_between.prog=plainProg (PySem.Challenge.rw_cutstree_k25_between.prog).main.scope.names)(n:Nat.ble 600 6100=true)(o:∀s:Shared,fenceModules? PySem.Challenge.rw_cutstree_k25_between.prog s=some s)(h:∀(w:World)(os:OsState),(ran w os).map Yf=some (Ya w)):LeftO PySem.Challenge.rw_cutstree_k25_between.prog qv [] xt Yf Ya 6100 true:=by
 intro w;have b:=boot_open m n o w;unfold openEnds;cases e:fencedOpening treeTable PySem.Challenge.rw_cutstree_k25_between.prog w 6100 with
 |none=>rw[e]at b;cases b
 |some s=>
  rw[e]at b;obtain⟨q,r,t,p,a⟩:=s;simp only[Option.map_some,Option.some.injEq,Prod.mk.injEq]at b;obtain⟨rfl,rfl,rfl,rfl⟩:=b;have d:=t4 w a;have f:=t5 w a;have g:=t6 w a;show(ran w a).map _=_;have c:=t1 w a;have i:=t2 w a;have j:=t3 w a;have k:=h w a;revert c i j d f g k;cases ran w a with
  |none=>intro c;cases c
  |some s=>
   intro d f g c i j k;have c:=Option.some.inj c;have i:=Option.some.inj i;have j:=Option.some.inj j;have d:=Option.some.inj d;have f:=Option.some.inj f;have g:=Option.some.inj g;have k:=Option.some.inj k;refine congrArg some (Prod.ext ?_ k);exact pk c i j d f g
end Q25
open PySem PySem.W PyProof.Rows
local macro_rules | `(tactic| o_head $H) => `(tactic| (
 refine holds_open (r:=PySem.Challenge.rw_cutstree_k25_between.row) (q:=Q25.qv) (loose:=[]) (Xt:=Q25.xt) (XP:=XL Q25.qv []) (Yf:=Hook.obs $H) (Ya:=Hook.val $H) (YP:=Hook.says $H) (N:=6100) ?hl (Hook.of $H) (Hook.keeps $H) (fun s e=>xl_of s (Bool.and_eq_true_iff.mp e).1) XL.keeps (by rfl) (by rfl) (by rfl) (fun s e=>recFacts_of (Bool.and_eq_true_iff.mp e).2) (by rfl) (by first|assumption|decide +kernel) (by decide +kernel) ⟨rfl,rfl,rfl,rfl,rfl,by decide +kernel⟩ ?hw ?hc
 (case hl=>exact Q25.left_boot rfl rfl (fun _=>rfl) (fun w os=>by kernel_rfl))))
open_top Q25.k_top for PySem.Challenge.rw_cutstree_k25_between
end
section
set_option linter.all false
set_option maxRecDepth 100000
set_option maxHeartbeats 4000000
noncomputable abbrev Fg:=PySem.W.Frag
noncomputable section
abbrev T0:=PySem.Value->PySem.Shared->Prop
abbrev T2:=List (PySem.Addr×PySem.Obj)
abbrev T3:=List (Option Nat)
abbrev T4:=List PySem.PyData
abbrev T5:=List PySem.Value
abbrev T7:=List Int
abbrev T8:=List PySem.Expr
abbrev T9:=List PySem.Stmt
abbrev Ta:=List PySem.Addr
abbrev Tb:=List PySem.Str
abbrev Td:=List Nat
abbrev Tf:=Option PySem.Value
abbrev Tg:=Option Nat
abbrev Th:=Option PySem.Addr
abbrev Ti:=Array PySem.Value
abbrev Tj:=Array Nat
abbrev Tk:=Option Int
abbrev Tl:=PySem.Str×PySem.NameKind
abbrev Tn:=PySem.Value->PySem.Value->PySem.Sem PySem.Value
abbrev To:=Nat->Nat->Bool
abbrev Tq:=PySem.Str->Option PySem.NameKind
abbrev Tt:=List (PySem.Str×PySem.Value)
abbrev Tv:=List
abbrev Tw:=Option
abbrev Tx:=PySem.Value
abbrev Tz:=PySem.PyData
abbrev Ua:=PySem.Shared
abbrev Ub:=PySem.Addr
abbrev Uc:=PySem.Expr
abbrev Ud:=PySem.Program
abbrev Ue:=PySem.Around
noncomputable abbrev Z{α:Type _}(x:α):=some x
noncomputable abbrev Y{α:Type _}:=@none α
abbrev A0:=@PySem.wpAny_bind
abbrev A1:=@Option.bind_some
abbrev A2:=@PySem.Heap.get?_push_of_some
abbrev A3:=@List.length_map
abbrev A4:=@if_pos
abbrev A6:=@Nat.le_refl
abbrev A7:=@List.mem_append_right
abbrev A8:=@List.mem_cons_of_mem
abbrev A9:=@List.mem_cons_self
abbrev B0:=@if_neg
abbrev B1:=@List.length_append
abbrev B2:=@PySem.wpAny_pure
abbrev B3:=@PySem.Heap.lt_size
abbrev B4:=@List.getElem?_append_right
abbrev B5:=@Bool.false_ne_true
abbrev B6:=@Nat.lt_of_lt_of_le
abbrev B7:=@List.append_assoc
abbrev B8:=@Bool.and_eq_true
abbrev B9:=@decide_eq_true
abbrev C0:=@List.map_cons
abbrev C1:=@List.mem_append_left
abbrev C2:=@Nat.ne_of_lt
abbrev C3:=@List.getD_eq_getElem?_getD
abbrev C4:=@decide_eq_false
abbrev C5:=@List.getElem?_eq_getElem
abbrev C6:=@PySem.Heap.get?_push_size
abbrev C7:=@List.map_append
abbrev C8:=@List.append_nil
abbrev C9:=@List.length_cons
abbrev D0:=@List.getElem?_map
abbrev D3:=@Option.some.inj
abbrev D4:=@List.mem_singleton
abbrev D5:=@List.length_singleton
abbrev D6:=@List.size_toArray
abbrev D7:=@of_decide_eq_true
abbrev D8:=@Nat.sub_self
abbrev D9:=@List.lookup_cons
abbrev E1:=@PySem.wpAny_field
abbrev E2:=@PySem.wpAny_mono
abbrev E3:=@Nat.lt_irrefl
abbrev E4:=@List.set_append_right
abbrev E5:=@List.getElem?_append_left
abbrev E6:=@PySem.PassesOwn.never
abbrev E7:=@Nat.zero_le
abbrev E8:=@PySem.wpAny_holding
abbrev E9:=@PySem.sizeLine_eq
abbrev F0:=@List.map_singleton
abbrev F5:=@Nat.le_trans
abbrev F6:=@PySem.mem_of_lookup
abbrev F7:=@PySem.wpAny_callSpecial?_slot
abbrev F8:=@decide_eq_true_eq
abbrev F9:=@Array.getD_eq_getD_getElem?
abbrev I0:=@PySem.wpAny_newObj_type
abbrev J0:=@Nat.add_sub_cancel_left
abbrev J7:=@PySem.F.slot_tuple_iterator_next
abbrev J8:=@PySem.W.mg_none_of
abbrev J9:=@Nat.le_add_right
abbrev L5:=@congrArg
abbrev L8:=@List.mem_of_getElem?
abbrev L9:=@Bool.true_and
abbrev O0:=@Ne.symm
abbrev O1:=@List.getElem?_set_self
abbrev O6:=@Nat.lt_succ_self
abbrev O7:=@PySem.wpAny_call_entry
abbrev O8:=@PySem.Heap.get?_update_other
abbrev O9:=@of_decide_eq_false
abbrev S0:=@Int.emod_lt_of_pos
abbrev S3:=@PySem.Heap.get?_update_self
abbrev S4:=@List.getElem?_set_ne
abbrev S5:=@List.getElem?_of_mem
abbrev S6:=@List.nodup_iff_pairwise_ne
abbrev S7:=@PySem.SeqAt.canLay_of_shaped
abbrev S8:=@PySem.wpAny_loadPart'
abbrev S9:=@Bool.false_and
abbrev U0:=@PySem.Obj.data_mapFields
abbrev U1:=@Int.emod_nonneg
abbrev U2:=@PyProof.Rows.callWith_type1
abbrev U3:=@List.map_map
abbrev U4:=@PySem.wpAny_truthy_bool
abbrev U5:=@List.any_cons
abbrev U6:=@PyProof.Rows.boot_tuple
abbrev U7:=@List.getElem_map
abbrev U8:=@List.mapM_cons
abbrev U9:=@PySem.wpAny_standAt
abbrev Y0:=@List.length_nil
abbrev Y1:=@List.foldl_cons
abbrev Y2:=@List.nil_append
abbrev Y3:=@PySem.wpAny_seqItems
abbrev Y4:=@List.getElem?_take_of_lt
abbrev Y5:=@PyProof.Rows.slot_tuple_getitem
abbrev Y6:=@List.replicate_succ
abbrev Y7:=@List.length_take
abbrev Y8:=@Bool.eq_iff_iff
abbrev Y9:=@List.length_set
abbrev Z0:=@PySem.wpAny_setField
abbrev Z1:=@List.all_cons
abbrev Z2:=@List.getElem?_eq_none
abbrev Z3:=@List.reverse_cons
abbrev Z4:=@List.flatten_cons
abbrev Z5:=@List.nodup_append
abbrev Z6:=@Int.toNat_natCast
abbrev Z7:=@PySem.wpAny_Call_Name_kw
abbrev Z8:=@PySem.wpAny_pyIter_tuple
abbrev Z9:=@PySem.wpAny_setField_rec
abbrev A0a:=@PySem.wpAny_passesOwn
abbrev A0b:=@Bool.and_false
abbrev A0c:=@Nat.le_succ
abbrev A0d:=@PySem.F.args_tuple_iterator_next_1
abbrev A0e:=@List.getElem_inj
abbrev A0f:=@List.getElem_mem
abbrev A0g:=@List.drop_eq_getElem_cons
abbrev A0h:=@PySem.F.entry_tuple_iterator_next
abbrev A0i:=@beq_eq_false_iff_ne
abbrev A0j:=@beq_iff_eq
abbrev A0k:=@List.getElem?_replicate
abbrev A0l:=@PySem.F.plainAttrs_list
abbrev A0m:=@Sum.inl.inj
abbrev A0n:=@Nat.ne_of_gt
abbrev A0o:=@List.nodup_nil
abbrev A0p:=@PySem.boot_len
abbrev A0q:=@List.pairwise_map
abbrev A0r:=@PySem.wpAny_execs_nil
abbrev A0s:=@PySem.F.slot_zip_next
abbrev A0t:=@Bool.and_self
abbrev A0u:=@PySem.codeAny_mono
abbrev A0v:=@PySem.wpAny_pyIter_list
abbrev A0w:=@PySem.Obj.isFreed_of_fields
abbrev A0x:=@List.map_congr_left
abbrev A0y:=@Int.toNat_of_nonneg
abbrev A0z:=@Nat.le_of_lt
abbrev A1a:=@PySem.Paired.length
abbrev A1b:=@PySem.wpAny_attempt
abbrev A1c:=@PySem.PyData.eqvAll.eq_def
abbrev A1d:=@PySem.tupleKind_room_in1
abbrev A1e:=@PySem.slot_listiter_next
namespace L2
variable{H:Hp}{s:Ua}{σ:St}{K:Fg}{A:Ue}{pos:Pos}
open PySem PySem.Spec PyProof.Rows
noncomputable abbrev Key:=Sum Int Str
noncomputable def yW:Key->Tx->Bool
 |.inl k,v=>Value.isInt k v
 |.inr x,v=>Value.isStrOf x v
noncomputable def aMp(w:World):Key->Int
 |.inl k=>hashInt k
 |.inr x=>hashStr w x
def cT:∀{k:Key}{v:Tx},yW k v=true->(∃i t,k=Sum.inl i/\v=Value.int i t)\/(∃x t,k=Sum.inr x/\v=Value.str x t)
 |.inl i,v=>fun h=>by
  obtain⟨t,e⟩:=Value.isInt_shape h;exact .inl ⟨i,t,rfl,e⟩
 |.inr x,v=>fun h=>by
  obtain⟨t,e⟩:=Value.isStrOf_shape h;exact .inr ⟨x,t,rfl,e⟩
def VE(i:Int)(t:Tok):yW (.inl i) (.int i t)=true:=by simp[yW,Value.isInt]
def XD(x:Str)(t:Tok):yW (.inr x) (.str x t)=true:=by simp[yW,Value.isStrOf]
def aJo(a b:Int):decide ((Sum.inl a:Key)=Sum.inl b)=(a==b):=by grind
def aJv(a b:Str):decide ((Sum.inr a:Key)=Sum.inr b)=decide (a=b):=by grind
def aHo(a:Int)(b:Str):decide ((Sum.inl a:Key)=Sum.inr b)=false:=C4 fun q=>nomatch q
def aHv(a:Str)(b:Int):decide ((Sum.inr a:Key)=Sum.inl b)=false:=C4 fun q=>nomatch q
def dD(prog:Ud)(w:World):PySem.KeyKind prog w Key where
 is:=yW
 hash:=aMp w
 inj:=fun v a b ha hb=>by
  rcases cT ha with⟨i,t,rfl,rfl⟩|⟨x,t,rfl,rfl⟩
  .rcases cT hb with⟨j,u,rfl,e⟩|⟨y,u,rfl,e⟩
   .injection e with e1 _;rw[e1]
   .exact nomatch e
  .rcases cT hb with⟨j,u,rfl,e⟩|⟨y,u,rfl,e⟩
   .exact nomatch e
   .injection e with e1 _;rw[e1]
 byValue:=fun k v h=>by
  rcases cT h with⟨i,t,rfl,rfl⟩|⟨x,t,rfl,rfl⟩<;>rfl
 pyHash:=fun hv h=>by
  rcases cT hv with⟨i,t,rfl,rfl⟩|⟨x,t,rfl,rfl⟩
  .exact wpAny_pyHash_int h
  .exact wpAny_pyHash_str h
 eqBool:=fun hu hv h=>by
  rcases cT hu with⟨i,t,rfl,rfl⟩|⟨x,t,rfl,rfl⟩
  .rcases cT hv with⟨j,u,rfl,rfl⟩|⟨y,u,rfl,rfl⟩
   .rw[aJo]at h;exact wpAny_eqBool_int h
   .rw[aHo]at h;exact SeqAt.EqAt.int_str i t y u _ _ _ _ h
  .rcases cT hv with⟨j,u,rfl,rfl⟩|⟨y,u,rfl,rfl⟩
   .rw[aHv]at h;exact SeqAt.EqAt.str_int x t j u _ _ _ _ h
   .rw[aJv]at h;exact wpAny_eqBool_str h
 «strs»:=fun k x t v h=>by
  rcases cT h with⟨i,u,rfl,e⟩|⟨y,u,rfl,e⟩
  .exact nomatch e
  .injection e with e1 _
   subst e1;cases v<;>rfl
def NP(prog:Ud)(w:World)(k:Key)(v:Tx):(dD prog w).is k v=yW k v:=rfl
def JR(prog:Ud)(w:World)(i:Int)(t:Tok):(dD prog w).is (.inl i) (.int i t)=true:=VE i t
def LB(prog:Ud)(w:World)(x:Str)(t:Tok):(dD prog w).is (.inr x) (.str x t)=true:=XD x t
inductive V where
 |non|bl (b:Bool)|int (i:Int)|str (x:Str)|byt (b:Array UInt8)|flt (b:UInt64)|ref (a:Ub)|ty (n:String)
 deriving DecidableEq
abbrev Tc:=Tv V
def RelV:V->Tx->Prop
 |.non,u=>u=Value.none
 |.bl b,u=>u=Value.bool b
 |.int i,u=>∃t,u=Value.int i t
 |.str x,u=>∃t,u=Value.str x t
 |.byt b,u=>∃t,u=Value.bytes b t
 |.flt b,u=>∃t,u=Value.float b t
 |.ref a,u=>u=Value.ref a
 |.ty n,u=>u=Value.type n
abbrev bG:Tc->T5->Prop:=Paired RelV
def bG.length(r:bG xs us):xs.length=us.length:=A1a r
theorem bG.get:∀{xs:Tc}{us:T5}{i:Nat}{x:V},bG xs us->xs[i]?=Z x->∃u,us[i]?=Z u/\RelV x u
 |_,_,_,_,.nil=>fun e=>by simp at e
 |_,_,0,_,.cons r _=>fun e=>by simp at e;subst e;exact⟨_,rfl,r⟩
 |_,_,i+1,x,.cons _ t=>fun e=>by
  obtain⟨u,a,b⟩:=bG.get t (by simpa using e);exact⟨u,by simpa using a,b⟩
theorem bG.set(r:RelV x u):∀{xs:Tc}{us:T5}(i:Nat),bG xs us->bG (xs.set i x) (us.set i u)
 |_,_,_,.nil=>.nil
 |_,_,0,.cons _ t=>.cons r t
 |_,_,i+1,.cons q t=>.cons q (bG.set r i t)
theorem bG.append:∀{xs ys:Tc}{us ws:T5},bG xs us->bG ys ws->bG (xs++ys) (us++ws)
 |_,_,_,_,.nil=>fun s=>s
 |_,_,_,_,.cons r t=>fun s=>.cons r (bG.append t s)
theorem bG.take:∀{xs:Tc}{us:T5}(n:Nat),bG xs us->bG (xs.take n) (us.take n)
 |_,_,0,_=>.nil
 |_,_,_+1,.nil=>.nil
 |_,_,n+1,.cons r t=>.cons r (bG.take n t)
theorem bG.drop:∀{xs:Tc}{us:T5}(n:Nat),bG xs us->bG (xs.drop n) (us.drop n)
 |_,_,0,r=>r
 |_,_,_+1,.nil=>.nil
 |_,_,n+1,.cons _ t=>bG.drop n t
def EH:Tw V->Tf->Prop
 |some v,some u=>RelV v u
 |none,none=>True
 |_,_=>False
def KV{a:Type}:Tv (a×V)->Tv (a×Tx)->Prop:=Paired fun(p:a×V)(q:a×Tx)=>p.1=q.1/\RelV p.2 q.2
noncomputable def kV:Key->V
 |.inl i=>.int i
 |.inr x=>.str x
inductive HO where
 |lst (xs:Tc)
 |tup (xs:Tc)
 |dK (kvs:Tv (Key×V))|dT (kvs:Tv (Tv Key×V))
 |set (S:Int->Bool) (n:Nat)
 |ins (C dx:Ub) (fs:Tv (Str×V))
 |own (x:Ub)
 |xd (fs:Tv (Str×V))
 |met (f x:Ub)
 |rng (lo hi:Int)
 |frz (o:Obj) (u:HO)
 |tbl (ps:Ti)
 |ext (φ:Heap->Prop)
noncomputable abbrev Hp:=Ub->Tw HO
def upd(H:Hp)(a:Ub)(o:HO):Hp:=fun b=>if b=a then Z o else H b
def aW:upd H a o a=Z o:=by unfold upd;rw[A4 rfl]
def aN{a b:Ub}(h:b≠a):upd H a o b=H b:=by unfold upd;rw[B0 h]
def yJ{o u:HO}(h:H a=Z o)(h':H b=Z u)(d:o≠u):a≠b:=by grind
def aO{o:HO}(h:H a=Z o)(h':H b=Y):a≠b:=by
 intro e;subst e;rw[h]at h';cases h'
section
variable(P:Ud)(w:World)
def fM(H:Hp)(h:Heap)(a:Ub):HO->Prop
 |.lst xs=>xs.length<=sizeLine/\∃(its:T5)(n:Nat),bG xs its/\h.get? a=Z { cls:=.type "list",data:=.seq its.toArray n }
 |.tup xs=>xs.length<=sizeLine/\∃its:T5,bG xs its/\IsTup h a its.toArray
 |.dK kvs=>kvs.length<=sizeLine/\(a==sysModules)=false/\∃vs,KV kvs vs/\h.DictOf (dD P w) a vs
 |.dT kvs=>kvs.length<=sizeLine/\(a==sysModules)=false/\∃xs:Tv (Tv Key×Ub×Tx),
  Paired (fun(p:Tv Key×V)(q:Tv Key×Ub×Tx)=>p.1=q.1/\H q.2.1=Z (.tup (p.1.map kV))/\RelV p.2 q.2.2) kvs xs /\
  ∃o es ep,h.get? a=Z o/\o.ExactDict/\o.data=.dict es ep/\es.toList=xs.map (entryOfKey<|tupleKind<|dD P w)/\(xs.map (·.1)).Nodup
 |.set S n=>h.SetOf (intKind P w) a S n
 |.ins C dx fs=>H dx=Z (.own a)/\fs.length<=1000/\dx≠a/\h.get? a=Z (W.instObj C dx) /\
  ∃b,h.Ns1 dx b/\(∀f,EH (fs.lookup f)<|b f)/\PySem.Within b (fs.map (·.1))
 |.own _=>∃o,h.get? a=Z o
 |.xd fs=>∃b,h.Ns1 a b/\∀f,EH (fs.lookup f)<|b f
 |.rng lo hi=>∃t u v,h.get? a=Z { cls:=.type "range",data:=.fields #[.int lo t,.int hi u,.int 1 v] }
 |.frz o u=>h.get? a=Z o/\fM H h a u
 |.tbl ps=>h.get? a=Z { cls:=.none,data:=.fields ps }
 |.met f x=>h.get? a=Z (W.methodObj (.ref f) (.ref x))
 |.ext c=>c h/\(∃o,h.get? a=Z o)/\∀d e:Heap,c d->(∀o,d.get? a=Z o->e.get? a=Z o)->c e
def HOk(H:Hp)(h:Heap):Prop:=∀a o,H a=Z o->fM P w H h a o
end
section
variable{P:Ud}{w:World}{H H':Hp}{h h':Heap}{a:Ub}{o:HO}
def fM.lt(x:fM P w H h a o):a<h.objs.size:=by
 cases o with
 |lst xs=>obtain⟨_,_,_,_,e⟩:=x;exact B3 e
 |tup xs=>obtain⟨_,_,_,p⟩:=x;exact p.lt
 |dK kvs=>obtain⟨_,_,_,_,o,_,_,e,_⟩:=x;exact B3 e
 |dT kvs=>obtain⟨_,_,_,_,o,_,_,e,_⟩:=x;exact B3 e
 |set S n=>obtain⟨o,_,_,_,e,_⟩:=x;exact B3 e
 |ins C dx fs=>obtain⟨_,_,_,e,_⟩:=x;exact B3 e
 |own y=>obtain⟨_,e⟩:=x;exact B3 e
 |xd fs=>obtain⟨_,⟨_,_,_,e,_⟩,_⟩:=x;exact B3 e
 |rng lo hi=>obtain⟨_,_,_,e⟩:=x;exact B3 e
 |frz ob u=>obtain⟨e,_⟩:=x;exact B3 e
 |tbl ps=>exact B3 x
 |met f y=>exact B3 x
 |ext b=>obtain⟨_,⟨_,e⟩,_⟩:=x;exact B3 e
theorem Paired.mapP{c d:Type}{F G:c->d->Prop}:∀{l₁:Tv c}{l₂:Tv d},Paired F l₁ l₂->(∀a b,F a b->G a b)->Paired G l₁ l₂
 |_,_,.nil=>fun _=>.nil
 |_,_,.cons r t=>fun f=>.cons (f _ _ r) (Paired.mapP t f)
def fM.stay(x:fM P w H h a o)(k:∀b u,(b=a\/H b=Z (.own a))->h.get? b=Z u->h'.get? b=Z u)
 (i:∀b,H b=Z (.own a)->H' b=Z (.own a)) (ht:∀b xs,H b=Z (.tup xs)->H' b=Z (.tup xs)):fM P w H' h' a o:=by
 induction o with
 |lst xs=>obtain⟨z,its,n,r,e⟩:=x;exact⟨z,its,n,r,k _ _ (.inl rfl) e⟩
 |tup xs=>obtain⟨z,its,r,ob,e,c⟩:=x;exact⟨z,its,r,ob,k _ _ (.inl rfl) e,c⟩
 |dK kvs=>obtain⟨z,y,vs,r,ob,es,ep,e,c⟩:=x;exact⟨z,y,vs,r,ob,es,ep,k _ _ (.inl rfl) e,c⟩
 |dT kvs=>
  obtain⟨z,y,xs,r,ob,es,ep,e,c⟩:=x;exact⟨z,y,xs,Paired.mapP r fun p q z=>⟨z.1,ht _ _ z.2.1,z.2.2⟩,ob,es,ep,k _ _ (.inl rfl) e,c⟩
 |set S n=>obtain⟨ob,es,ep,t,e,c⟩:=x;exact⟨ob,es,ep,t,k _ _ (.inl rfl) e,c⟩
 |ins C dx fs=>
  obtain⟨d,z,j,e,g,⟨od,es,ep,l,c⟩,r⟩:=x;exact⟨i _ d,z,j,k _ _ (.inl rfl) e,g,⟨od,es,ep,k _ _ (.inr d) l,c⟩,r⟩
 |own y=>obtain⟨ob,e⟩:=x;exact⟨ob,k _ _ (.inl rfl) e⟩
 |xd fs=>obtain⟨g,⟨od,es,ep,e,c⟩,r⟩:=x;exact⟨g,⟨od,es,ep,k _ _ (.inl rfl) e,c⟩,r⟩
 |rng lo hi=>obtain⟨t,u,v,e⟩:=x;exact⟨t,u,v,k _ _ (.inl rfl) e⟩
 |frz ob u ih=>obtain⟨e,q⟩:=x;exact⟨k _ _ (.inl rfl) e,ih q⟩
 |tbl ps=>
  have e:=x;exact k a _ (.inl rfl) e
 |met f y=>
  have e:=x;exact k a _ (.inl rfl) e
 |ext m=>obtain⟨p,⟨o,e⟩,st⟩:=x;exact⟨st _ _ p fun o q=>k _ _ (.inl rfl) q,⟨o,k _ _ (.inl rfl) e⟩,st⟩
def HOk.lt(x:HOk P w H h)(e:H a=Z o):a<h.objs.size:=(x a o e).lt
def HOk.fresh(x:HOk P w H h)(e:h.objs.size<=a):H a=Y:=by
 cases q:H a with
 |none=>rfl
 |some u=>exact absurd (B6 (x.lt q) e)<|E3 _
def HOk.kept(x:HOk P w H h)(k:∀b u,h.get? b=Z u->h'.get? b=Z u):HOk P w H h':=fun a o e=>
 (x a o e).stay (fun b u _ q=>k b u q) (fun _ q=>q) fun _ _ q=>q
def HOk.laid(x:HOk P w H h)(k:∀b u,h.get? b=Z u->h'.get? b=Z u)(hp:h.objs.size<=a)(new:fM P w (upd H a o) h' a o):HOk P w (upd H a o) h':=fun b u e=>by
 have hn:=x.fresh hp;by_cases d:b=a
 .subst d;rw[aW]at e;cases e;exact new
 .rw[aN d]at e;exact(x b u e).stay (fun c v _ q=>k c v q) (fun c q=>by rw[aN (aO q hn)];exact q) fun c xs q=>by rw[aN (aO q hn)];exact q
end
def Rd(H:Hp)(a:Ub)(u:HO):Prop:=H a=Z u\/∃o,H a=Z (.frz o u)
def Rd.ok{P:Ud}(r:Rd H a u)(x:HOk P w H h):fM P w H h a u:=by
 rcases r with r|⟨o,r⟩
 .exact x a u r
 .obtain⟨_,q⟩:=x a _ r;exact q
def Mut:Tw HO->Prop
 |some (.lst _)=>True
 |some (.dK _)=>True
 |some (.dT _)=>True
 |some (.set _ _)=>True
 |some (.ins _ _ _)=>True
 |some (.ext _)=>True
 |_=>False
section
variable{P:Ud}{w:World}{H:Hp}{h h':Heap}{x e:Ub}{o':HO}
def HOk.write(ok:HOk P w H h)(g:Mut (H x))(l:e=x\/H e=Z (.own x))(k:∀b u,b≠e->h.get? b=Z u->h'.get? b=Z u)(j:∃u,h'.get? e=Z u)
 (new:fM P w (upd H x o') h' x o'):HOk P w (upd H x o') h':=fun b u q=>by
 have d:∀c y,H c=Z (.own y)->c≠x:=fun c y r z=>by subst z;rw[r]at g;exact g
 have f:∀c xs,H c=Z (.tup xs)->c≠x:=fun c xs r z=>by subst z;rw[r]at g;exact g
 by_cases i:b=x
 .subst i;rw[aW]at q;cases q;exact new
 .rw[aN i]at q;by_cases a:b=e
  .have m:H b=Z (.own x):=by
    rcases l with z|z
    .exact absurd (a.trans z) i
    .rw[a];exact z
   rw[q]at m;cases m;obtain⟨v,n⟩:=j;exact⟨v,by rw[a];exact n⟩
  .refine(ok b u q).stay (fun c v hc r=>k c v ?_ r) (fun c r=>by rw[aN (d c b r)];exact r) fun c xs r=>by rw[aN (f c xs r)];exact r
   rcases hc with rfl|hc
   .exact a
   .rintro rfl;rcases l with z|z
    .exact d c b hc z
    .rw[hc]at z;cases z;exact i rfl
end
structure Un(fs ex:Ta)(H H':Hp)(h h':Heap):Prop where
 keep:∀b o,h.get? b=Z o->H b=Y->b∉fs->b∉ex->h'.get? b=Z o
 slot:∀b o,h.get? b=Z o->H b=Y->b∈fs->b∉ex->∃sl,h'.get? b=Z { o with slots:=sl }
 free:∀b o,h.get? b=Z o->H b=Y->b∉ex->H' b=Y
 there:∀b o,h.get? b=Z o->b∉ex->∃o',h'.get? b=Z o'
 tups:∀b xs,H b=Z (.tup xs)->H' b=Z (.tup xs)
 frzs:∀b o u,H b=Z (.frz o u)->H' b=Z (.frz o u)
 tbls:∀b ps,H b=Z (.tbl ps)->∃more,H' b=Z (.tbl (ps++more))
section
variable{fs fs' ex ex':Ta}{H H1 H2:Hp}{h h1 h2 h':Heap}{a x e:Ub}{o:HO}
def Un.any(u:Un fs ex H H1 h h1){b:Ub}{ob:Obj}(q:h.get? b=Z ob)(n:H b=Y)(hx:b∉ex):∃sl,h1.get? b=Z { ob with slots:=sl }:=by
 by_cases c:b∈fs
 .exact u.slot b ob q n c hx
 .exact⟨ob.slots,u.keep b ob q n c hx⟩
def Un.kept(k:∀b u,h.get? b=Z u->h'.get? b=Z u):Un fs ex H H h h':=
 ⟨fun b ob q _ _ _=>k b ob q,fun b ob q _ _ _=>⟨ob.slots,k b ob q⟩,fun _ _ _ n _=>n,fun b ob q _=>⟨ob,k b ob q⟩,fun _ _ q=>q,fun _ _ _ q=>q,fun _ ps q=>⟨#[],by rw[q];simp⟩⟩
def Un.refl:Un fs ex H H h h:=Un.kept fun _ _ q=>q
def Un.laid(k:∀b u,h.get? b=Z u->h'.get? b=Z u)(hp:h.objs.size<=a)(hn:H a=Y):Un fs ex H (upd H a o) h h' where
 keep:=fun b u q _ _ _=>k b u q
 slot:=fun b u q _ _ _=>⟨u.slots,k b u q⟩
 free:=fun b u q n _=>by rw[aN (C2<|B6 (B3 q) hp)];exact n
 there:=fun b u q _=>⟨u,k b u q⟩
 tups:=fun b xs q=>by rw[aN (aO q hn)];exact q
 frzs:=fun b u xs q=>by rw[aN (aO q hn)];exact q
 tbls:=fun b ps q=>⟨#[],by rw[aN (aO q hn),q];simp⟩
def Un.write(d:Mut (H x))(i:e=x\/H e=Z (.own x))(k:∀b u,b≠e->h.get? b=Z u->h'.get? b=Z u)(f:∃u,h'.get? e=Z u):Un fs ex H (upd H x o) h h':=by
 have hx:∀b,H b=Y->b≠x:=fun b n z=>by subst z;rw[n]at d;exact d
 have g:∀b,H b=Y->b≠e:=fun b n z=>by
  subst z;rcases i with r|r
  .exact hx b n r
  .rw[n]at r;cases r
 have hm:∀b u,H b=Z u->¬Mut (Z u)->b≠x:=fun b u q nm z=>by subst z;rw[q]at d;exact nm d
 refine⟨fun b u q n _ _=>k b u (g b n) q,fun b u q n _ _=>⟨u.slots,k b u (g b n) q⟩,fun b u q n _=>by rw[aN (hx b n)];exact n,fun b u q _=>?_,
  fun b xs q=>by rw[aN (hm b _ q fun z=>z)];exact q,fun b u xs q=>by rw[aN (hm b _ q fun z=>z)];exact q,fun b ps q=>⟨#[],by rw[aN (hm b _ q fun z=>z),q];simp⟩⟩
 by_cases c:b=e
 .subst c;exact f
 .exact⟨u,k b u c q⟩
end
noncomputable def trk(h:Heap)(H:Hp):Ta:=(List.range h.objs.size).filter fun a=>(H a).isSome
def LQ(h:Heap)(H:Hp):Heap:=W.hideAll h<|trk h H
def UU(h:Heap)(H:Hp):(LQ h H).objs.size=h.objs.size:=W.hideAll_size _ _
def aAO{h:Heap}{b:Ub}{o:Obj}(e:h.get? b=Z o)(n:H b=Y):(LQ h H).get? b=Z o:=
 W.hideAll_get _ e fun hm=>by
  have q:=(List.mem_filter.mp hm).2;rw[n]at q;simp at q
def aFE{b:Ub}{o:Obj}(e:(LQ h H).get? b=Z o):h.get? b=Z o/\H b=Y:=by
 have a:=W.of_hideAll (trk h H) e;refine⟨a,?_⟩;cases q:H b with
 |none=>rfl
 |some x=>
  have hm:b∈trk h H:=List.mem_filter.mpr ⟨List.mem_range.mpr<|B3 a,by simp[q]⟩;have z:(LQ h H).get? b=Y:=W.hideAll_none (trk h H) hm;rw[z]at e;cases e
def nH(g h:Heap)(L:Ub):T2:=(List.range h.objs.size).filterMap fun a=>if a=L\/(g.get? a).isSome=true then Y else(h.get? a).map fun o=>(a,o)
def mX{g h:Heap}{L a:Ub}{o:Obj}(c:a≠L)(d:g.get? a=Y)(b:h.get? a=Z o):(a,o)∈nH g h L:=
 List.mem_filterMap.mpr ⟨a,List.mem_range.mpr<|B3 b,by simp[c,d,b]⟩
def AZ{p:Ub×Obj}(hp:p∈nH g h L):p.1≠L/\g.get? p.1=Y/\h.get? p.1=Z p.2:=by
 obtain⟨b,_,e⟩:=List.mem_filterMap.mp hp;split at e
 .cases e
 .rename_i hn;cases q:h.get? b with
  |none=>rw[q]at e;simp at e
  |some u=>
   rw[q]at e;simp only[Option.map_some,Option.some.injEq]at e;subst e;refine⟨fun z=>hn (.inl z),?_,q⟩;cases r:g.get? b with
   |none=>rfl
   |some v=>exact(hn (.inr (by simp[r]))).elim
def rest(g h:Heap)(L d:Ub):T2:=(nH g h L).filter fun p=>decide (p.1≠d)
def MJ:News g L h (nH g h L):=fun p d=>let⟨a,b,c⟩:=AZ d;⟨c,a,b⟩
structure Mod(K:Fg)(mg:Str->Tf)(base:Heap):Prop where
 kin:K.In base
 glob:base.Ns mainGlobals mg
 blt:∃mb,base.Ns builtinsNs mb/\∀x:Str,x≠"__name__"->mb x=bootBuiltins x
 nolimit:base.NoLimit
 sysm:∃o es ep,base.get? sysModules=Z o/\o.data=.dict es ep
 bmn:∃bm ob,mg "__builtins__"=Z (.ref bm)/\bm≠builtinsNs/\base.get? bm=Z ob/\ob.cls=.type "module"/\ob.dict=Z builtinsNs/\ob.data=.plain
structure Cx where
 prog:Ud
 w:World
 K:Fg
 mg:Str->Tf
 base:Heap
 A:Ue
 N:Tb
 s₀:Ua
 H₀:Hp
 env:Env
 outer:Tv Env
 stack:Tv Env
 ex:Ta
 fn:Str->Bool
 calm:Bool
 pn:T2
 xe:T0
noncomputable def frs(l:Tv Env):Ta:=l.filterMap (·.frame)
abbrev Cx.fs(X:Cx):List Addr:=frs X.outer
def Vis(sc:Scope)(x:Str):Prop:=sc.names.lookup x=Z .local\/sc.names.lookup x=Z .cell\/sc.names.lookup x=Z .free
def Loc(sc:Scope)(x:Str):Prop:=sc.names.lookup x=Z .local\/sc.names.lookup x=Z .cell
def Look(env:Env)(h:Heap)(m:Str->Tf)(x:Str)(u:Tx):Prop:=
 (env.kindOf x=Z .local/\m x=Z u)\/((env.kindOf x=Z .cell\/env.kindOf x=Z .free)/\∃c,env.cells.lookup x=Z c/\h.IsCell c (Z u))
structure Cx.Ok(X:Cx):Prop where
 mod:Mod X.K X.mg X.base
 kind:X.env.scope.kind=.function
 glob:X.env.globals=mainGlobals
 blt:X.env.builtins=builtinsNs
 above:X.s₀.heap.objs.size<=X.env.locals
 inj:∀x y c,X.env.cells.lookup x=Z c->X.env.cells.lookup y=Z c->x=y
 has:∀x,(X.env.kindOf x=Z .cell\/X.env.kindOf x=Z .free)->∃c,X.env.cells.lookup x=Z c
 cab:∀x c,X.fn x=true->X.env.cells.lookup x=Z c->X.s₀.heap.objs.size<=c
 hd:X.calm=true->X.A.handled=Y
 frames:X.A.frames=Z X.stack
 stk:X.stack=X.outer\/(X.stack=X.env::X.outer/\X.env.frame=Z X.env.locals)
 exf:∀b∈X.ex,b≠X.env.locals/\∀x c,X.env.cells.lookup x=Z c->c≠b
 bs:∀b o,X.base.get? b=Z o->X.s₀.heap.get? b=Z o/\X.H₀ b=Y
 bsz:X.base.objs.size<=X.s₀.heap.objs.size
 noex:∀b o,X.base.get? b=Z o->b∉X.ex
 exfs:∀b∈X.ex,b∉X.fs
 funs:X.s₀.heap.FunFrames X.base X.outer
 frf:∀b∈X.fs,X.H₀ b=Y
structure Inv(X:Cx)(pins:T2)(σ:Tv (Tw V))(H:Hp)(s:Ua):Prop where
 ok:X.Ok
 os:s.os=X.s₀.os
 bare:AllBare s.gens
 base:Un X.fs X.ex X.H₀ H X.s₀.heap s.heap
 loc:∃m,s.heap.Ns X.env.locals m/\∀(i:Nat)(x:Str)(v:V),X.N[i]?=Z x->σ[i]?=Z (Z v)->Vis X.env.scope x->∃u,RelV v u/\Look X.env s.heap m x u
 cell:∀x c,X.env.cells.lookup x=Z c->∃v,s.heap.IsCell c v
 free:H X.env.locals=Y
 freeC:∀x c,X.env.cells.lookup x=Z c->H c=Y
 pin:∀p∈X.pn++pins,s.heap.get? p.1=Z p.2/\H p.1=Y/\p.1≠X.env.locals/\p.1∉X.fs/\∀v,p.2.data≠.cell v
 hok:HOk X.prog X.w H s.heap
 len:σ.length=X.N.length
section
variable{X:Cx}{pins:T2}{σ:Tv (Tw V)}{H H':Hp}{s:Ua}{h':Heap}
def Cx.Ok.nofr(ok:X.Ok){b:Ub}{o:Obj}(e:X.base.get? b=Z o):b∉X.fs:=fun a=>by
 have:=(ok.funs.mem a).1;rw[e]at this;cases this
def Inv.bs(I:Inv X pins σ H s):∀b o,X.base.get? b=Z o->s.heap.get? b=Z o/\H b=Y:=fun b o e=>
 ⟨I.base.keep b o (I.ok.bs b o e).1 (I.ok.bs b o e).2 (I.ok.nofr e) (I.ok.noex b o e),I.base.free b o (I.ok.bs b o e).1 (I.ok.bs b o e).2 (I.ok.noex b o e)⟩
def Inv.bk(I:Inv X pins σ H s):∀b o,X.base.get? b=Z o->s.heap.get? b=Z o:=fun b o e=>(I.bs b o e).1
def Inv.mod(I:Inv X pins σ H s):Mod X.K X.mg X.base:=I.ok.mod
def Inv.kIn(I:Inv X pins σ H s):X.K.In s.heap:=I.ok.mod.kin.keeps I.bk
def Inv.fr(I:Inv X pins σ H s):∃m,Fr X.base X.env.locals s.heap m:=
 let⟨m,hn,_⟩:=I.loc
 ⟨m,hn,I.bk,F5 I.ok.bsz I.ok.above⟩
def Inv.lt(I:Inv X pins σ H s):X.env.locals<s.heap.objs.size:=let⟨_,hn,_⟩:=I.loc;hn.lt
def Inv.sz(I:Inv X pins σ H s):X.s₀.heap.objs.size<=s.heap.objs.size:=F5 I.ok.above<|A0z I.lt
def Inv.nofs(I:Inv X pins σ H s){a:Ub}(h:s.heap.objs.size<=a):a∉X.fs:=fun b=>by
 obtain⟨_,o,c,_⟩:=I.ok.funs.mem b;exact absurd (B6 (B3 c)<|F5 I.sz h)<|E3 _
def Inv.cne(I:Inv X pins σ H s):∀x c,X.env.cells.lookup x=Z c->c≠X.env.locals:=fun x c e z=>by
 obtain⟨v,o,d,hd⟩:=I.cell x c e;obtain⟨m,⟨o',es,ep,a,b,_⟩,_⟩:=I.loc;rw[z,a]at d;cases d;rw[b]at hd;cases hd
def Inv.funs(I:Inv X pins σ H s):s.heap.FunFrames X.base X.outer:=by
 have all:∀(l:Tv Env),(∀b∈frs l,b∈X.fs)->X.s₀.heap.FunFrames X.base l->s.heap.FunFrames X.base l:=by
  intro l
  induction l with
  |nil=>intro _ _;trivial
  |cons env r ih=>
   intro hs f;obtain⟨g,⟨L,o,a,hn,h,hd⟩,i⟩:=f;have c:=hs L (by unfold frs;rw[List.filterMap_cons,a];exact A9);obtain⟨sl,e⟩:=I.base.slot L o h (I.ok.frf L c) c fun z=>I.ok.exfs L z c;exact⟨g,⟨L,_,a,hn,e,hd⟩,ih (fun b d=>hs b (by unfold frs;rw[List.filterMap_cons,a];exact A8 _ d)) i⟩
 exact all X.outer (fun _ d=>d) I.ok.funs
def Inv.stack(I:Inv X pins σ H s):s.heap.FunFrames X.base X.stack:=by
 rcases I.ok.stk with e|⟨e,a⟩
 .rw[e];exact I.funs
 .rw[e];obtain⟨m,hn,_⟩:=I.loc;refine .cons (by rw[I.ok.kind];decide) a hn ?_ I.funs;exact Heap.get?_none_of_le<|F5 I.ok.bsz I.ok.above
def Inv.stkSub(I:Inv X pins σ H s):∀b∈frs X.stack,b∈X.env.locals::X.fs:=fun b a=>by
 rcases I.ok.stk with e|⟨e,c⟩
 .rw[e]at a;exact A8 _ a
 .rw[e]at a;unfold frs at a;rw[List.filterMap_cons,c]at a;exact a
def Inv.stkFree(I:Inv X pins σ H s):∀b∈frs X.stack,H b=Y:=fun b hb=>by
 rcases List.mem_cons.mp (I.stkSub b hb)with e|hb
 .rw[e];exact I.free
 .obtain⟨_,o,a,_⟩:=I.ok.funs.mem hb;exact I.base.free b o a (I.ok.frf b hb) fun z=>I.ok.exfs b z hb
def Inv.step{t':Nat}{d':Drawn}{ch:Ta}(I:Inv X pins σ H s)
 (a:∀b∈ch,(b∈X.ex\/X.s₀.heap.objs.size<=b)/\b≠X.env.locals/\(∀x c,X.env.cells.lookup x=Z c->c≠b)/\∀p∈X.pn++pins,p.1≠b)
 (keep:∀b o,b≠X.env.locals->b∉X.fs->b∉ch->s.heap.get? b=Z o->H b=Y->h'.get? b=Z o)
 (slot:∀b o,b≠X.env.locals->b∈X.fs->b∉ch->s.heap.get? b=Z o->H b=Y->∃sl,h'.get? b=Z { o with slots:=sl }) (free:∀b o,b∉ch->s.heap.get? b=Z o->H b=Y->H' b=Y)
 (there:∀b o,b∉ch->s.heap.get? b=Z o->∃o',h'.get? b=Z o')
 (tups:∀b xs,H b=Z (.tup xs)->H' b=Z (.tup xs)) (frzs:∀b o u,H b=Z (.frz o u)->H' b=Z (.frz o u)) (tbls:∀b ps,H b=Z (.tbl ps)->∃more,H' b=Z (.tbl (ps++more)))
 (L:∀m,s.heap.Ns X.env.locals m->h'.Ns X.env.locals m) (hok:HOk X.prog X.w H' h') (M:AllBare g'):
 Inv X pins σ H' { s with heap:=h',gens:=g',drawn:=d',toks:=t' }:=by
 have B:∀b o,X.s₀.heap.get? b=Z o->b≠X.env.locals:=fun b o e=>C2<|B6 (B3 e) I.ok.above
 have h:∀b o,X.s₀.heap.get? b=Z o->b∉X.ex->b∉ch:=fun b o e hx t=>by
  rcases (a b t).1 with z|z
  .exact hx z
  .exact absurd (B6 (B3 e) z)<|E3 _
 have f:∀x c,X.env.cells.lookup x=Z c->∀v,s.heap.IsCell c v->h'.IsCell c v:=fun x c e v ⟨o,y,hd⟩=>by
  have g:=fun z=>(a c z).2.2.1 x c e rfl;by_cases E:c∈X.fs
  .obtain⟨sl,q⟩:=slot c o (I.cne x c e) E g y<|I.freeC x c e;exact⟨_,q,hd⟩
  .exact⟨o,keep c o (I.cne x c e) E g y<|I.freeC x c e,hd⟩
 refine⟨I.ok,I.os,M,⟨fun b o e n t hx=>?_,fun b o e n t hx=>?_,fun b o e n hx=>?_,fun b o e hx=>?_,fun b xs e=>tups b xs<|I.base.tups b xs e,fun b o xs e=>frzs b o xs<|I.base.frzs b o xs e,fun b ps e=>?_⟩,?_,fun x c e=>?_,?_,fun x c e=>?_,fun p F=>?_,hok,I.len⟩
 .exact keep b o (B b o e) t (h b o e hx) (I.base.keep b o e n t hx)<|I.base.free b o e n hx
 .obtain⟨sl,j⟩:=I.base.slot b o e n t hx;obtain⟨D,C⟩:=slot b _ (B b o e) t (h b o e hx) j<|I.base.free b o e n hx;exact⟨D,C⟩
 .obtain⟨o',j⟩:=I.base.there b o e hx;exact free b o' (h b o e hx) j<|I.base.free b o e n hx
 .obtain⟨o',j⟩:=I.base.there b o e hx;exact there b o' (h b o e hx) j
 .obtain⟨N,j⟩:=I.base.tbls b ps e;obtain⟨O,C⟩:=tbls b _ j;exact⟨N++O,by rw[C,Array.append_assoc]⟩
 .obtain⟨m,hn,P⟩:=I.loc;refine⟨m,L m hn,fun i x v j C Q=>?_⟩;obtain⟨u,r,l⟩:=P i x v j C Q;refine⟨u,r,?_⟩;rcases l with l|⟨k,c,e,z⟩
  .exact .inl l
  .exact .inr ⟨k,c,e,f x c e _ z⟩
 .obtain⟨v,z⟩:=I.cell x c e;exact⟨v,f x c e v z⟩
 .obtain⟨m,⟨o,_,_,y,_⟩,_⟩:=I.loc;exact free _ o (fun z=>(a _ z).2.1 rfl) y I.free
 .obtain⟨v,o,y,hd⟩:=I.cell x c e;exact free c o (fun z=>(a c z).2.2.1 x c e rfl) y<|I.freeC x c e
 .obtain⟨e,n,G,J,d⟩:=I.pin p F;have g:=fun z=>(a p.1 z).2.2.2 p F rfl;exact⟨keep p.1 p.2 G J g e n,free p.1 p.2 g e n,G,J,d⟩
def Inv.un{t':Nat}(I:Inv X pins σ H s)(u:Un X.fs [] H H' s.heap h')(hok:HOk X.prog X.w H' h'):Inv X pins σ H' { s with heap:=h',toks:=t' }:=by
 obtain⟨m,⟨o,es,ep,g,r⟩,_⟩:=id I.loc;obtain⟨sl,h⟩:=u.any g I.free (by simp)
 exact I.step (ch:=[]) (fun _ z=>nomatch z) (fun b o _ c _ e n=>u.keep b o e n c (by simp)) (fun b o _ c _ e n=>u.slot b o e n c (by simp)) (fun b o _ e n=>u.free b o e n (by simp)) (fun b o _ e=>u.there b o e (by simp)) u.tups u.frzs u.tbls (fun j hm=>by
  obtain⟨o',d,f,a,i⟩:=hm;rw[g]at a;cases a;exact⟨_,d,f,h,i⟩) hok I.bare
def Inv.call{t':Nat}{d':Drawn}(I:Inv X pins σ H s)(u:Un (frs X.stack) ch H H' s.heap h')(hok:HOk X.prog X.w H' h')(k:AllBare g')
 (d:∀b∈ch,(b∈X.ex\/X.s₀.heap.objs.size<=b)/\b≠X.env.locals/\(∀x c,X.env.cells.lookup x=Z c->c≠b)/\∀p∈X.pn++pins,p.1≠b):
 Inv X pins σ H' { s with heap:=h',gens:=g',drawn:=d',toks:=t' }:=by
 obtain⟨m,⟨o,es,ep,j,r⟩,_⟩:=id I.loc;obtain⟨sl,g⟩:=u.any j I.free fun z=>(d _ z).2.1 rfl
 exact I.step d (fun b o g l a e n=>u.keep b o e n (fun z=>(List.mem_cons.mp<|I.stkSub b z).elim g l) a) (fun b o _ _ a e n=>u.any e n a) (fun b o a e n=>u.free b o e n a) (fun b o a e=>u.there b o e a) u.tups u.frzs u.tbls (fun t hm=>by
  obtain⟨o',h,i,f,q⟩:=hm;rw[j]at f;cases f;exact⟨_,h,i,g,q⟩) hok k
def Inv.turned{t':Nat}{it:Ub}(I:Inv X pins σ H s)(k:∀b o,b≠it->s.heap.get? b=Z o->h'.get? b=Z o)(hn:H it=Y)(f:it≠X.env.locals)
 (g:it∈X.ex\/X.s₀.heap.objs.size<=it) (h:∀x c,X.env.cells.lookup x=Z c->c≠it) (i:∀p∈X.pn++pins,p.1≠it):Inv X pins σ H { s with heap:=h',toks:=t' }:=by
 have d:∀b u,H b=Z u->b≠it:=fun b u e z=>by rw[z,hn]at e;cases e
 refine I.step (ch:=[it]) (fun b l=>?_) (fun b o _ _ a e _=>k b o (fun z=>a (by simp[z])) e) (fun b o _ _ a e _=>⟨o.slots,k b o (fun z=>a (by simp[z])) e⟩) (fun _ _ _ _ n=>n)
  (fun b o a e=>⟨o,k b o (fun z=>a (by simp[z])) e⟩) (fun _ _ e=>e) (fun _ _ _ e=>e) (fun b ps e=>⟨#[],by rw[e];simp⟩) (fun m hm=>?_) (fun b u e=>?_) I.bare
 .have e:b=it:=by grind
  subst e;exact⟨g,f,h,i⟩
 .obtain⟨o,es,ep,j,r⟩:=hm;exact⟨o,es,ep,k _ o (O0 f) j,r⟩
 .refine(I.hok b u e).stay (fun c v a q=>k c v ?_ q) (fun _ q=>q) fun _ _ q=>q;rcases a with z|z
  .rw[z];exact d b u e
  .exact d c _ z
def Inv.tok(I:Inv X pins σ H s)(t:Nat):Inv X pins σ H { s with toks:=t }:=I.un Un.refl I.hok
def Inv.kept{t':Nat}(I:Inv X pins σ H s)(k:∀b u,s.heap.get? b=Z u->h'.get? b=Z u):Inv X pins σ H { s with heap:=h',toks:=t' }:=I.un (Un.kept k)<|I.hok.kept k
def Inv.laid{a:Ub}{t':Nat}(I:Inv X pins σ H s)(k:∀b u,s.heap.get? b=Z u->h'.get? b=Z u)(hp:s.heap.objs.size<=a)(new:fM X.prog X.w (upd H a o) h' a o):
 Inv X pins σ (upd H a o) { s with heap:=h',toks:=t' }:=I.un (Un.laid k hp<|I.hok.fresh hp)<|I.hok.laid k hp new
def Inv.write{e:Ub}{t':Nat}(I:Inv X pins σ H s)(c:Mut (H x))(d:e=x\/H e=Z (.own x))(k:∀b u,b≠e->s.heap.get? b=Z u->h'.get? b=Z u)(a:∃u,h'.get? e=Z u)
 (new:fM X.prog X.w (upd H x o) h' x o):Inv X pins σ (upd H x o) { s with heap:=h',toks:=t' }:=I.un (Un.write c d k a)<|I.hok.write c d k a new
def Inv.pins_of{pins':T2}(I:Inv X pins σ H s)(h:∀p∈pins',s.heap.get? p.1=Z p.2/\H p.1=Y/\p.1≠X.env.locals/\p.1∉X.fs/\∀v,p.2.data≠.cell v):Inv X pins' σ H s:=
 ⟨I.ok,I.os,I.bare,I.base,I.loc,I.cell,I.free,I.freeC,fun p a=>(List.mem_append.mp a).elim (fun z=>I.pin p<|C1 _ z) (h p),I.hok,I.len⟩
def AU{N:Tb}(c:N.Nodup){i j:Nat}{x:Str}(a:N[i]?=Z x)(b:N[j]?=Z x):i=j:=by
 obtain⟨f,d⟩:=List.getElem?_eq_some_iff.mp a;obtain⟨g,e⟩:=List.getElem?_eq_some_iff.mp b;exact(A0e c).mp (d.trans e.symm)
def yC{A:Ue}{i:Nat}{x:Str}{Q:Unit->Ua->Prop}(I:Inv X pins σ H s)(hN:X.N.Nodup)(hi:X.N[i]?=Z x)(hx:Loc X.env.scope x)(r:RelV v u)
 (h:∀S,Inv X pins (σ.set i<|Z v) H S->(∃a,Heap.SameBut a s.heap S.heap/\(a=X.env.locals\/X.env.cells.lookup x=Z a))->Q () S) (hf:X.fn x=true\/X.env.scope.names.lookup x=Z .local:=by first|exact .inl rfl|exact .inr rfl|assumption):wpAny M A (storeName X.env x u) Q E s:=by
 obtain⟨m,hn,hl⟩:=id I.loc;have G:(X.env.scope.kind==.class || (X.env.scope.kind==.module&&X.env.locals != X.env.globals))=false:=by rw[I.ok.kind];rfl
 have B:i<σ.length:=by rw[I.len];exact(List.getElem?_eq_some_iff.mp hi).1
 have cne:=I.cne
 have f:∀{a:Ub}{h':Heap},(∃o,s.heap.get? a=Z o/\H a=Y)->Heap.SameBut a s.heap h'->HOk X.prog X.w H h':=fun{a h'} ha hs b ob e=>by
  obtain⟨_,_,l⟩:=ha;refine(I.hok b ob e).stay (fun c P hc q=>(hs.2 c ?_).trans q) (fun _ q=>q) fun _ _ q=>q;rintro rfl;rcases hc with rfl|hc
  .rw[l]at e;cases e
  .rw[l]at hc;cases hc
 rcases hx with hk|hk
 .refine wpAny_storeName_local hk hn (fun h' T hs=>?_) G;obtain⟨oL,_,_,U,_⟩:=id hn;refine h _ ⟨I.ok,I.os,I.bare,⟨fun b o e n C hx=>?_,fun b o e n C hx=>?_,I.base.free,fun b o e hx=>?_,I.base.tups,I.base.frzs,I.base.tbls⟩,⟨_,T,fun j y W g t e3=>?_⟩,fun y c e=>?_,I.free,I.freeC,fun p hp=>?_,f ⟨oL,U,I.free⟩ hs,by simpa using I.len⟩ ⟨_,hs,.inl rfl⟩
  .exact(hs.2 b<|C2<|B6 (B3 e) I.ok.above).trans (I.base.keep b o e n C hx)
  .obtain⟨sl,g⟩:=I.base.slot b o e n C hx;exact⟨sl,(hs.2 b<|C2<|B6 (B3 e) I.ok.above).trans g⟩
  .obtain⟨o',g⟩:=I.base.there b o e hx;exact⟨o',(hs.2 b<|C2<|B6 (B3 e) I.ok.above).trans g⟩
  .by_cases D:j=i
   .subst D;rw[hi]at g;cases g;rw[O1 B]at t;cases t;exact⟨u,r,.inl ⟨hk,by simp⟩⟩
   .rw[S4 (O0 D)]at t;obtain⟨u',r',q⟩:=hl j y W g t e3;refine⟨u',r',?_⟩;rcases q with⟨k,e⟩|⟨k,c,e,z⟩
    .refine .inl ⟨k,?_⟩;have:y≠x:=fun e=>D<|AU hN g (e▸hi);simp[this,e]
    .exact .inr ⟨k,c,e,z.sameBut hs<|cne y c e⟩
  .obtain⟨P,z⟩:=I.cell y c e;exact⟨P,z.sameBut hs<|cne y c e⟩
  .obtain⟨e,n,R,nf,d⟩:=I.pin p hp;exact⟨(hs.2 p.1 R).trans e,n,R,nf,d⟩
 .have F:X.fn x=true:=by
   rcases hf with z|z
   .exact z
   .rw[z]at hk;cases hk
  obtain⟨c,hc⟩:=I.ok.has x (.inl hk);obtain⟨P,z⟩:=I.cell x c hc;refine wpAny_storeName_cell I.ok.kind hk hc z (fun h' J hs=>?_);obtain⟨oc,L,a0⟩:=id z;refine h { s with heap:=h' } ⟨I.ok,I.os,I.bare,⟨fun b o e n C hx=>?_,fun b o e n C hx=>?_,I.base.free,fun b o e hx=>?_,I.base.tups,I.base.frzs,I.base.tbls⟩,⟨m,hn.sameBut hs<|O0<|cne x c hc,fun j y W g t e3=>?_⟩,fun y c' e=>?_,I.free,I.freeC,fun p hp=>?_,f ⟨oc,L,I.freeC x c hc⟩ hs,by simpa using I.len⟩ ⟨c,hs,.inr hc⟩
  .exact(hs.2 b<|C2<|B6 (B3 e)<|I.ok.cab x c F hc).trans (I.base.keep b o e n C hx)
  .obtain⟨sl,g⟩:=I.base.slot b o e n C hx;exact⟨sl,(hs.2 b<|C2<|B6 (B3 e)<|I.ok.cab x c F hc).trans g⟩
  .obtain⟨o',g⟩:=I.base.there b o e hx;exact⟨o',(hs.2 b<|C2<|B6 (B3 e)<|I.ok.cab x c F hc).trans g⟩
  .by_cases D:j=i
   .subst D;rw[hi]at g;cases g;rw[O1 B]at t;cases t;exact⟨u,r,.inr ⟨.inl hk,c,hc,J⟩⟩
   .rw[S4 (O0 D)]at t;obtain⟨u',r',q⟩:=hl j y W g t e3;refine⟨u',r',?_⟩;rcases q with q|⟨k,c',e,z'⟩
    .exact .inl q
    .refine .inr ⟨k,c',e,z'.sameBut hs ?_⟩;rintro rfl;exact D<|AU hN g (I.ok.inj _ _ _ e hc▸hi)
  .by_cases O:c'=c
   .subst O;exact⟨_,J⟩
   .obtain⟨w2,z2⟩:=I.cell y c' e;exact⟨w2,z2.sameBut hs O⟩
  .obtain⟨e,n,R,nf,d⟩:=I.pin p hp;refine⟨(hs.2 p.1 ?_).trans e,n,R,nf,d⟩;intro q;rw[q,L]at e;have q':=D3 e;exact d P (by grind)
def rX{A:Ue}{i:Nat}{x:Str}{Q:Unit->Ua->Prop}(I:Inv X pins σ H s)(b:X.N.Nodup)(hi:X.N[i]?=Z x)(hx:Loc X.env.scope x)(r:RelV v u)
 (h:∀a,Inv X pins (σ.set i<|Z v) H a->Q () a) (c:X.fn x=true\/X.env.scope.names.lookup x=Z .local:=by first|exact .inl rfl|exact .inr rfl|assumption):wpAny M A (storeName X.env x u) Q E s:=
 yC I b hi hx r (fun a d _=>h a d) c
def Inv.call'{a:Ua}(I:Inv X pins σ H s)(f:a.os=s.os)(u:Un (frs X.stack) ch H H' s.heap a.heap)(hok:HOk X.prog X.w H' a.heap)(g:AllBare a.gens)
 (d:∀b∈ch,(b∈X.ex\/X.s₀.heap.objs.size<=b)/\b≠X.env.locals/\(∀x c,X.env.cells.lookup x=Z c->c≠b)/\∀p∈X.pn++pins,p.1≠b):Inv X pins σ H' a:=by
 obtain⟨h',h,i,j,o'⟩:=a;have e:=f;subst e;exact I.call u hok g d
end
abbrev XK:=Tx->Th->Hp->Prop
noncomputable abbrev St:=Tv<|Tw V
abbrev VK:=V->Hp->Prop
abbrev TE:=St->Hp->VK->Prop
abbrev TT:=St->Hp->(Bool->Hp->Prop)->Prop
abbrev TA:=St->Hp->(Tc->Hp->Prop)->Prop
structure Ends where
 nx:St->Hp->Prop
 rt:VK
 bk:St->Hp->Prop:=fun _ _=>False
 ct:St->Hp->Prop:=fun _ _=>False
abbrev TS:=Ends->St->Hp->Prop
def EP(X:Cx)(pins:T2)(σ:St)(Q:VK)(u:Tx)(a:Ua):Prop:=∃v H',Inv X pins σ H' a/\RelV v u/\Q v H'
def TP(X:Cx)(pins:T2)(σ:St)(Q:Bool->Hp->Prop)(b:Bool)(a:Ua):Prop:=∃H',Inv X pins σ H' a/\Q b H'
def AP(X:Cx)(pins:T2)(σ:St)(Q:Tc->Hp->Prop)(us:T5)(a:Ua):Prop:=∃vs H',Inv X pins σ H' a/\bG vs us/\Q vs H'
def SP(X:Cx)(pins:T2)(D:Ends)(f:Flow)(b:Ua):Prop:=
 match f with
 |.next=>∃a H',Inv X pins a H' b/\D.nx a H'
 |.brk=>∃a H',Inv X pins a H' b/\D.bk a H'
 |.cont=>∃a H',Inv X pins a H' b/\D.ct a H'
 |.ret u=>∃v a H',Inv X pins a H' b/\RelV v u/\D.rt v H'
def PE(X:Cx)(e:Uc)(t:TE):Prop:=
 ∀(pins:T2)(s:Ua)(σ:St)(H:Hp)(Q:VK),Inv X pins σ H s->t σ H Q->wpAny (model X.prog X.w) X.A (eval e X.env) (EP X pins σ Q) X.xe s
def PT(X:Cx)(e:Uc)(t:TT):Prop:=
 ∀(pins:T2)(s:Ua)(σ:St)(H:Hp)(Q:Bool->Hp->Prop),Inv X pins σ H s->t σ H Q->wpAny (model X.prog X.w) X.A (isTrue e X.env<|eval e X.env) (TP X pins σ Q) X.xe s
def PW(X:Cx)(e:Uc)(t:TT):Prop:=
 ∀(a:Sem Tx)(pins:T2)(s:Ua)(σ:St)(H:Hp)(Q:Bool->Hp->Prop),Inv X pins σ H s->t σ H Q->wpAny (model X.prog X.w) X.A (isTrue e X.env a) (TP X pins σ Q) X.xe s
def PW.pt(h:PW X e t):PT X e t:=h _
def PA(X:Cx)(es:T8)(t:TA):Prop:=
 ∀(pos:Pos)(pins:T2)(s:Ua)(σ:St)(H:Hp)(Q:Tc->Hp->Prop),Inv X pins σ H s->t σ H Q->wpAny (model X.prog X.w) X.A (spliced<|backTo pos<|starEach es X.env) (AP X pins σ Q) X.xe s
def PS(X:Cx)(st:Stmt)(t:TS):Prop:=
 ∀(pins:T2)(s:Ua)(σ:St)(H:Hp)(D:Ends),Inv X pins σ H s->t D σ H->wpAny (model X.prog X.w) X.A (exec st X.env) (SP X pins D) X.xe s
def PSs(X:Cx)(st:T9)(t:TS):Prop:=
 ∀(pins:T2)(s:Ua)(σ:St)(H:Hp)(D:Ends),Inv X pins σ H s->t D σ H->wpAny (model X.prog X.w) X.A (execs st X.env) (SP X pins D) X.xe s
def thn{b:Type}{t:Sem b}{Q c:b->Ua->Prop}{M:Model}{E:T0}{s:Ua}(h:wpAny M A t Q E s)(d:∀a s,Q a s->c a s):wpAny M A t c E s:=E2 h d fun _ _ x=>x
section
variable{X:Cx}
def bin{a b:Uc}{i tb:TE}(ha:PE X a i)(k:PE X b tb){pins:T2}{R:V->V->Hp->Prop}(I:Inv X pins σ H s)(h:i σ H fun x g=>tb σ g fun y c=>R x y c)
 {j:Type} {Q:j->Ua->Prop} {f:Tx->Tx->Sem j}
 (l:∀v u s2 x y c,Inv X pins σ c s2->RelV x v->RelV y u->R x y c->wpAny (model X.prog X.w) X.A (f v u) Q X.xe s2):
 wpAny (model X.prog X.w) X.A (eval a X.env) (fun v d=>wpAny (model X.prog X.w) X.A (eval b X.env) (fun u e=>wpAny (model X.prog X.w) X.A (f v u) Q X.xe e) X.xe d) X.xe s:=by
 refine thn (ha pins s σ H _ I h) fun v s1 ⟨x,g,m,n,o⟩=>?_;refine thn (k pins s1 σ g _ m o) fun u s2 ⟨y,c,p,q,r⟩=>?_;exact l v u s2 x y c p n q r
def aLD(i:Nat):TE:=fun σ H Q=>∃v,σ[i]?=Z (Z v)/\Q v H
noncomputable def tC(v:V):TE:=fun _ H Q=>Q v H
def aHM{i:Nat}{x:Str}(g:X.N[i]?=Z x)(j:Vis X.env.scope x)(hd:(x==("__debug__":Str))=false:=by decide)(d:(x==("__classdict__":Str))=false:=by decide):PE X (.Name x pos) (aLD i):=by
 intro pins s σ H Q I h;obtain⟨v,e,h⟩:=h;obtain⟨m,hn,k⟩:=I.loc;obtain⟨u,r,l⟩:=k i x v g e j;have b:EP X pins σ Q u s:=⟨v,H,I,r,h⟩;rcases l with⟨hk,hm⟩|⟨hk,c,f,a⟩
 .exact wpAny_Name (wpAny_loadName_local I.ok.kind hk hn hm b) hd
 .rcases hk with hk|hk
  .exact wpAny_Name (wpAny_loadName_cell I.ok.kind hk f a b) hd
  .exact wpAny_Name (wpAny_loadName_free I.ok.kind hk f a b d) hd
def aJw{i j pos}:PE X (.Constant (.int i) j pos) (tC (.int i)):=fun _ _ _ H _ I h=>wpAny_Constant_int ⟨.int i,H,I.tok _,⟨_,rfl⟩,h⟩
def aLg{b j pos}:PE X (.Constant (.bool b) j pos) (tC (.bl b)):=fun _ _ _ H _ I h=>Constant_bool ⟨.bl b,H,I,rfl,h⟩
def aID{j pos}:PE X (.Constant .none j pos) (tC .non):=fun _ _ _ H _ I h=>Constant_none ⟨.non,H,I,rfl,h⟩
def aIe{x j pos}:PE X (.Constant (.str x) j pos) (tC (.str x)):=fun _ _ _ H _ I h=>Calls.Constant_str ⟨.str x,H,I.tok _,⟨_,rfl⟩,h⟩
def Gl(X:Cx)(x:Str):Prop:=X.env.kindOf x=Z .globalImplicit
def qF{u:Tx}{pos:Pos}{Q:T0}(I:Inv X pins σ H s)(a:Gl X x)(hm:X.mg x=Z u)(h:Q u s)
 (hd:(x==("__debug__":Str))=false:=by decide):wpAny (model X.prog X.w) X.A (eval (.Name x pos) X.env) Q E s:=
 Calls.Name_function_global I.ok.kind a (Calls.loadGlobal_global (by rw[I.ok.glob];exact I.mod.glob.keeps I.bk) hm h) hd
def sJ{u:Tx}{pos:Pos}{Q:T0}(I:Inv X pins σ H s)(a:Gl X x)(hm:X.mg x=Y)(b:bootBuiltins x=Z u)(h:Q u s)
 (hn:x≠"__name__":=by decide) (hd:(x==("__debug__":Str))=false:=by decide):wpAny (model X.prog X.w) X.A (eval (.Name x pos) X.env) Q E s:=by
 obtain⟨mb,c,d⟩:=I.mod.blt;exact Calls.Name_function_global I.ok.kind a (Calls.loadGlobal_builtin (by rw[I.ok.glob];exact I.mod.glob.keeps I.bk) hm (by rw[I.ok.blt];exact c.keeps I.bk) ((d x hn).trans b) h) hd
def TL{u:Tx}(a:Gl X x)(hm:X.mg x=Z u)(r:RelV v u)(hd:(x==("__debug__":Str))=false:=by decide):PE X (.Name x pos) (tC v):=
 fun _ _ _ H _ I h=>qF I a hm ⟨v,H,I,r,h⟩ hd
def HY{u:Tx}(a:Gl X x)(hm:X.mg x=Y)(b:bootBuiltins x=Z u)(r:RelV v u)(hn:x≠"__name__":=by decide)(hd:(x==("__debug__":Str))=false:=by decide):PE X (.Name x pos) (tC v):=
 fun _ _ _ H _ I h=>sJ I a hm b ⟨v,H,I,r,h⟩ hn hd
variable{a b:Uc}{ta tb:TE}{pos:Pos}
def PC(X:Cx)(op:CmpOp)(a b:Uc)(t:TE):Prop:=
 ∀(pins:T2)(s:Ua)(σ:St)(H:Hp)(Q:VK),Inv X pins σ H s->t σ H Q->
  wpAny (model X.prog X.w) X.A (eval a X.env) (fun v c=>wpAny (model X.prog X.w) X.A (eval b X.env) (fun u d=>wpAny (model X.prog X.w) X.A (compareOp op v u) (EP X pins σ Q) X.xe d) X.xe c) X.xe s
def aCC(b:Uc){op:CmpOp}(h:op≠.In)(e:op≠.NotIn):behindInMarks op b=false:=by
 have c:(op==CmpOp.In)=false:=by grind
 have d:(op==CmpOp.NotIn)=false:=by grind
 cases b<;>simp[behindInMarks,c,d]
noncomputable def tB(t:TE):TT:=fun σ H Q=>t σ H fun x d=>∃c,x=.bl c/\Q c d
def aCh{op:CmpOp}{t:TE}(h:PC X op a b t)(e:behindInMarks op b=false:=by first|exact aCC _ (by decide) (by decide)|rfl):PT X (.Compare a [op] [b] pos) (tB t):=by
 intro pins s σ H Q I f;refine wpAny_isTrue_Compare1 (thn (h pins s σ H _ I f) fun v s1 e=>thn e fun u s2 g=>thn g fun c s3 ⟨x,i,j,k,l⟩=>?_) e;obtain⟨d,rfl,q⟩:=l;cases k;exact U4 ⟨i,j,q⟩
def aIU{e:Uc}{t:TE}(h:PE X e t)(f:∀c,isTrue e X.env c=(do let v <- c;standAt e.pos;holding [v]<|truthy v):=by intro _;rfl):PT X e (tB t):=by
 intro pins s σ H Q I g;refine isTrue_plain (thn (h pins s σ H _ I g) fun v s1 ⟨x,i,j,k,l⟩=>?_)<|f _;obtain⟨d,rfl,q⟩:=l;cases k;exact U4 ⟨i,j,q⟩
variable{tA tB':TT}{rest:T8}
noncomputable def aJQ(t u:TT):TT:=fun σ H Q=>t σ H fun c d=>if c=true then u σ d Q else Q false d
noncomputable def tOr(t u:TT):TT:=fun σ H Q=>t σ H fun c d=>if c=true then Q true d else u σ d Q
noncomputable def aLF(t:TT):TT:=fun σ H Q=>t σ H fun c d=>Q (!c) d
def aEH(ha:PT X a tA):PW X (.BoolOp .And [a] pos) tA:=by
 intro d pins s σ H Q I h;refine isTrue_and (thn (ha pins s σ H Q I h) fun c s1 e=>?_);cases c with
 |true=>exact isTrue_and_nil e
 |false=>exact e
def aHW(ha:PT X a tA):PW X (.BoolOp .Or [a] pos) tA:=by
 intro d pins s σ H Q I h;refine isTrue_or (thn (ha pins s σ H Q I h) fun c s1 e=>?_);cases c with
 |false=>exact isTrue_or_nil e
 |true=>exact e
def aHT(ha:PT X a tA)(g:PW X (.BoolOp .And (b::rest) pos) tB'):PW X (.BoolOp .And (a::b::rest) pos) (aJQ tA tB'):=by
 intro i pins s σ H Q I h;refine isTrue_and (thn (ha pins s σ H _ I h) fun c s1 ⟨d,e,f⟩=>?_);cases c with
 |true=>exact g i pins s1 σ d Q e f
 |false=>exact⟨d,e,f⟩
def aLh(ha:PT X a tA)(g:PW X (.BoolOp .Or (b::rest) pos) tB'):PW X (.BoolOp .Or (a::b::rest) pos) (tOr tA tB'):=by
 intro i pins s σ H Q I h;refine isTrue_or (thn (ha pins s σ H _ I h) fun c s1 ⟨d,e,f⟩=>?_);cases c with
 |true=>exact⟨d,e,f⟩
 |false=>exact g i pins s1 σ d Q e f
def aHj(ha:PT X a tA):PT X (.UnaryOp .Not a pos) (aLF tA):=by
 intro pins s σ H Q I h;exact isTrue_not<|ha pins s σ H (fun c d=>Q (!c) d) I h
noncomputable def aFV(ta tb:TE):TE:=fun σ H Q=>ta σ H fun x d=>∃c,x=.bl c/\if c=true then tb σ d Q else Q (.bl false) d
noncomputable def aGm(ta:TE):TE:=fun σ H Q=>ta σ H fun x d=>∃c,x=.bl c/\Q (.bl (!c)) d
def aHC{op}(h:PE X a t):PE X (.BoolOp op [a] pos) t:=fun pins s σ H Q I c=>BoolOp_one<|h pins s σ H Q I c
def aGE(ha:PE X a ta)(g:PE X (.BoolOp .And (b::rest) pos) tb):PE X (.BoolOp .And (a::b::rest) pos) (aFV ta tb):=by
 intro pins s σ H Q I h;refine BoolOp_and (thn (ha pins s σ H _ I h) fun v s1 ⟨x,e,f,i,d⟩=>?_);obtain⟨c,rfl,d⟩:=d;cases i;refine U4 ?_;cases c with
 |true=>exact g pins s1 σ e Q f d
 |false=>exact⟨.bl false,e,f,rfl,d⟩
def aJe(ha:PE X a ta):PE X (.UnaryOp .Not a pos) (aGm ta):=by
 intro pins s σ H Q I h;refine UnaryOp_ (thn (ha pins s σ H _ I h) fun v s1 ⟨x,e,f,g,d⟩=>?_);obtain⟨c,rfl,d⟩:=d;cases g;exact not_of<|U4 ⟨.bl (!c),e,f,rfl,d⟩
noncomputable def tIf(t:TT)(ta tb:TE):TE:=fun σ H Q=>t σ H fun c d=>if c=true then ta σ d Q else tb σ d Q
def aAK(i:PT X c tA)(ha:PE X a ta)(j:PE X b tb):PE X (.IfExp c a b pos) (tIf tA ta tb):=by
 intro pins s σ H Q I h;refine wpAny_IfExp (thn (i pins s σ H _ I h) fun d s1 ⟨e,f,g⟩=>?_);cases d with
 |true=>exact ha pins s1 σ e Q f g
 |false=>exact j pins s1 σ e Q f g
end
def SqL(K:Fg)(H:Hp)(a:Ub)(xs:Tc):Prop:=
 Rd H a (.lst xs) \/
  ∃(o:Obj)(its:Ti)(n:Nat),K.lookup a=Z o/\o.cls=.type "list"/\o.dict=Y/\o.data=.seq its n/\its.size<=sizeLine/\bG xs its.toList
def SqT(K:Fg)(H:Hp)(a:Ub)(xs:Tc):Prop:=
 Rd H a (.tup xs) \/
  ∃(o:Obj)(its:Ti)(n:Nat),K.lookup a=Z o/\o.cls=.type "tuple"/\o.data=.seq its n/\its.size<=sizeLine/\bG xs its.toList
def aMr:Tx->Tw V
 |.none=>Z .non
 |.bool b=>Z (.bl b)
 |.int i _=>Z (.int i)
 |.str x _=>Z (.str x)
 |.bytes b _=>Z (.byt b)
 |.float b _=>Z (.flt b)
 |.ref a=>Z (.ref a)
 |.type n=>Z (.ty n)
 |_=>Y
def RelV.abs(r:RelV x u):aMr u=Z x:=by
 cases x with
 |non=>cases r;rfl
 |bl _=>cases r;rfl
 |int _=>obtain⟨t,rfl⟩:=r;rfl
 |str _=>obtain⟨t,rfl⟩:=r;rfl
 |byt _=>obtain⟨t,rfl⟩:=r;rfl
 |flt _=>obtain⟨t,rfl⟩:=r;rfl
 |ref _=>cases r;rfl
 |ty _=>cases r;rfl
def RelV.inj(r:RelV x u)(q:RelV y u):x=y:=D3<|r.abs.symm.trans q.abs
theorem bG.inj:∀{xs ys:Tc}{us:T5},bG xs us->bG ys us->xs=ys
 |_,_,_,.nil,.nil=>rfl
 |_,_,_,.cons r t,.cons a b=>by rw[r.inj a,bG.inj t b]
section
variable{X:Cx}{pins:T2}{σ:St}{H:Hp}{s:Ua}{a:Ub}{xs ys:Tc}
def SqL.of(h:H a=Z (.lst xs)):SqL K H a xs:=.inl (.inl h)
def SqT.of(h:H a=Z (.tup xs)):SqT K H a xs:=.inl (.inl h)
def Inv.list(I:Inv X pins σ H s)(h:SqL X.K H a xs):∃its:T5,bG xs its/\PlainL s.heap a its.toArray/\xs.length<=sizeLine:=by
 rcases h with h|⟨o,its,n,b,c,hd,hs,d,r⟩
 .obtain⟨z,its,n,r,e⟩:=h.ok I.hok;exact⟨its,r,⟨_,n,e,rfl,rfl,rfl⟩,z⟩
 .refine⟨its.toList,r,⟨o,n,I.kIn a o b,c,hd,by simpa using hs⟩,?_⟩;have e:=r.length;simp only[Array.length_toList]at e;omega
def Inv.tuple(I:Inv X pins σ H s)(h:SqT X.K H a xs):∃its:T5,bG xs its/\IsTup s.heap a its.toArray/\xs.length<=sizeLine:=by
 rcases h with h|⟨o,its,n,b,c,hs,d,r⟩
 .obtain⟨z,its,r,p⟩:=h.ok I.hok;exact⟨its,r,p,z⟩
 .refine⟨its.toList,r,⟨o,I.kIn a o b,c,n,by simpa using hs⟩,?_⟩;have e:=r.length;simp only[Array.length_toList]at e;omega
def Inv.list_inj(I:Inv X pins σ H s)(h:SqL X.K H a xs)(h':SqL X.K H a ys):xs=ys:=by
 obtain⟨its,r,⟨o,n,e,_,_,d⟩,_⟩:=I.list h;obtain⟨its',f,⟨o',g,b,_,_,c⟩,_⟩:=I.list h';rw[e]at b;cases b;rw[d]at c;injection c with i _
 have:its=its':=by grind
 subst this;exact r.inj f
def Inv.tuple_inj(I:Inv X pins σ H s)(h:SqT X.K H a xs)(h':SqT X.K H a ys):xs=ys:=by
 obtain⟨its,r,⟨o,e,_,n,d⟩,_⟩:=I.tuple h;obtain⟨its',f,⟨o',b,_,g,c⟩,_⟩:=I.tuple h';rw[e]at b;cases b;rw[d]at c;injection c with i _
 have:its=its':=by grind
 subst this;exact r.inj f
end
noncomputable abbrev Cx.wish(X:Cx)(E:T0):Cx:={ X with xe:=E }
abbrev Cx.nox(X:Cx):Cx:=X.wish fun _ _=>False
def Cx.Ok.wish{X:Cx}(ok:X.Ok)(E:T0):(X.wish E).Ok:=
 ⟨ok.mod,ok.kind,ok.glob,ok.blt,ok.above,ok.inj,ok.has,ok.cab,ok.hd,ok.frames,ok.stk,ok.exf,ok.bs,ok.bsz,ok.noex,ok.exfs,ok.funs,ok.frf⟩
def Cx.Ok.unwish{X:Cx}(ok:(X.wish E).Ok):X.Ok:=
 ⟨ok.mod,ok.kind,ok.glob,ok.blt,ok.above,ok.inj,ok.has,ok.cab,ok.hd,ok.frames,ok.stk,ok.exf,ok.bs,ok.bsz,ok.noex,ok.exfs,ok.funs,ok.frf⟩
section
variable{X:Cx}{pins:T2}{σ:St}{H:Hp}{s:Ua}{E:T0}
def Inv.wish(I:Inv X pins σ H s)(E:T0):Inv (X.wish E) pins σ H s:=⟨I.ok.wish E,I.os,I.bare,I.base,I.loc,I.cell,I.free,I.freeC,I.pin,I.hok,I.len⟩
def Inv.unwish(I:Inv (X.wish E) pins σ H s):Inv X pins σ H s:=⟨I.ok.unwish,I.os,I.bare,I.base,I.loc,I.cell,I.free,I.freeC,I.pin,I.hok,I.len⟩
def SP.unwish(h:SP (X.wish E) pins D f b):SP X pins D f b:=by
 cases f with
 |next=>obtain⟨a,H',I,q⟩:=h;exact⟨a,H',I.unwish,q⟩
 |brk=>obtain⟨a,H',I,q⟩:=h;exact⟨a,H',I.unwish,q⟩
 |cont=>obtain⟨a,H',I,q⟩:=h;exact⟨a,H',I.unwish,q⟩
 |ret u=>obtain⟨v,a,H',I,r,q⟩:=h;exact⟨v,a,H',I.unwish,r,q⟩
def PSs.nox{st:T9}(h:PSs X.nox st t):PSs X st t:=fun pins s σ H D I a=>
 E2 (h pins s σ H D (I.wish _) a) (fun _ _ q=>q.unwish) fun _ _ z=>False.elim z
end
section
variable{X:Cx}{st:Stmt}{rest:T9}{t u:TS}{e:Uc}{te:TE}{pos:Pos}
noncomputable def aGf:TS:=fun D σ H=>D.nx σ H
noncomputable def aHh(t u:TS):TS:=fun D σ H=>t { D with nx:=u D } σ H
def aDC:PSs X [] aGf:=fun _ _ σ H _ I h=>A0r ⟨σ,H,I,h⟩
def JS(b:PS X st t)(c:PSs X rest u):PSs X (st::rest) (aHh t u):=by
 intro pins s σ H D I h;refine wpAny_execs_cons (thn (b pins s σ H { D with nx:=u D } I h) fun f s1 q=>?_);cases f with
 |next=>
  obtain⟨a,H',d,q⟩:=q;exact c pins s1 a H' D d q
 |ret v=>exact q
 |brk=>exact q
 |cont=>exact q
def RC(a:PS X st t):PSs X [st] t:=by
 intro pins s σ H D I h;refine wpAny_execs_cons (thn (a pins s σ H D I h) fun f s1 q=>?_);cases f with
 |next=>exact A0r q
 |ret v=>exact q
 |brk=>exact q
 |cont=>exact q
def Inv.quiet(I:Inv X pins σ H s):interactive X.env=false:=by simp[interactive,I.ok.kind]
noncomputable def aBj(te:TE):TS:=fun D σ H=>te σ H fun _ a=>D.nx σ a
def TB(a:PE X e te)(hs:swapsWith e Y pos.line X.env=pure false:=by rfl):PS X (.Expr e pos) (aBj te):=by
 intro pins s σ H D I h;exact wpAny_Expr_any (thn (a pins s σ H _ I h) fun v s1 ⟨x,b,c,f,d⟩=>⟨σ,b,c,d⟩) I.quiet hs
noncomputable def aKS(te:TE):TS:=fun D σ H=>te σ H D.rt
def aHl(a:PE X e te):PS X (.Return (Z e) pos) (aKS te):=by
 intro pins s σ H D I h;exact wpAny_Return_some (thn (a pins s σ H _ I h) fun v s1 ⟨x,b,c,d,f⟩=>⟨x,σ,b,c,d,f⟩)
noncomputable def aJz(c:TT)(t u:TS):TS:=fun D σ H=>c σ H fun b a=>if b=true then t D σ a else u D σ a
def aGw{c:Uc}{a b:T9}{f:TT}(k:PT X c f)(ha:PSs X a t)(l:PSs X b u):PS X (.If c a b pos) (aJz f t u):=by
 intro pins s σ H D I h;refine wpAny_If (thn (k pins s σ H _ I h) fun d s1 ⟨g,i,j⟩=>?_);cases d with
 |true=>exact ha pins s1 σ g D i j
 |false=>exact l pins s1 σ g D i j
noncomputable def YX:TS:=fun _ _ _=>False
def YS:PS X st YX:=fun _ _ _ _ _ _ h=>h.elim
end
abbrev TG:=V->St->Hp->(St->Hp->Prop)->Prop
abbrev TGs:=Tc->St->Hp->(St->Hp->Prop)->Prop
def PG(X:Cx)(a:Uc)(t:TG):Prop:=
 ∀(pins:T2)(s:Ua)(σ:St)(H:Hp)(v:V)(u:Tx)(Q:St->Hp->Prop),Inv X pins σ H s->RelV v u->t v σ H Q->
  wpAny (model X.prog X.w) X.A (assign a X.env u) (fun _ c=>∃b H',Inv X pins b H' c/\Q b H') X.xe s
def PGs(X:Cx)(ts:T8)(t:TGs):Prop:=
 ∀(pins:T2)(s:Ua)(σ:St)(H:Hp)(vs:Tc)(us:T5)(Q:St->Hp->Prop),Inv X pins σ H s->bG vs us->t vs σ H Q->
  wpAny (model X.prog X.w) X.A (assignInOrder ((assignEach ts X.env).map (·.2)) us) (fun _ b=>∃a H',Inv X pins a H' b/\Q a H') X.xe s
abbrev aEQ:=V->V->V->Hp->(Hp->Prop)->Prop
def aIN(X:Cx)(t:aEQ):Prop:=
 ∀(pins:T2)(s:Ua)(σ:St)(H:Hp)(o i v:V)(a b u:Tx)(Q:Hp->Prop),Inv X pins σ H s->RelV o a->RelV i b->RelV v u->t o i v H Q->
  wpAny (model X.prog X.w) X.A (setItem a b u) (fun _ c=>∃H',Inv X pins σ H' c/\Q H') X.xe s
section
variable{X:Cx}{pos:Pos}
def AL(i:Nat):TG:=fun v σ H Q=>Q (σ.set i<|Z v) H
def aFD{i:Nat}{x:Str}(a:X.N.Nodup)(hi:X.N[i]?=Z x)(hx:Loc X.env.scope x)(b:X.fn x=true\/X.env.scope.names.lookup x=Z .local:=by first|exact .inl rfl|exact .inr rfl|assumption):PG X (.Name x pos) (AL i):=by
 intro pins s σ H v u Q I r h;exact wpAny_assign_Name<|rX I a hi hx r (fun d c=>⟨_,H,c,h⟩) b
noncomputable def aKw:TGs:=fun vs σ H Q=>vs=[]/\Q σ H
noncomputable def aGl(t:TG)(u:TGs):TGs:=fun vs σ H Q=>∃v r,vs=v::r/\t v σ H fun a H'=>u r a H' Q
def aET:PGs X [] aKw:=by
 intro pins s σ H vs us Q I r h;obtain⟨e,h⟩:=h;subst e;cases r;exact assignInOrder_nil ⟨σ,H,I,h⟩
def aCF{e:Uc}{es:T8}{t:TG}{u:TGs}(b:PG X e t)(c:PGs X es u)
 (hs:(assignEach (e::es) X.env).map (·.2)=assign e X.env::(assignEach es X.env).map (·.2):=by rfl):PGs X (e::es) (aGl t u):=by
 intro pins s σ H vs us Q I r h;obtain⟨v,k,d,h⟩:=h;subst d;cases r with
 |cons r f=>
  rw[hs];refine assignInOrder_cons (thn (b pins s σ H _ _ _ I r h) fun _ s1 ⟨a,g,i,j⟩=>?_);exact c pins s1 a g _ _ Q i f j
noncomputable def aEU(K:Fg)(n:Nat)(t:TGs):TG:=fun v σ H Q=>∃a xs,v=.ref a/\SqT K H a xs/\xs.length=n/\t xs σ H Q
def aIQ{n:Nat}(f:X.calm=true)(h:PGs X es t)
 (hn:(assignEach es X.env).length=n:=by rfl) (c:(assignEach es X.env).findIdx? (·.1)=Y:=by rfl):PG X (.Tuple es k pos) (aEU X.K n t):=by
 intro pins s σ H v u Q I r d;obtain⟨a,xs,g,i,j,d⟩:=d;subst g;cases r;obtain⟨its,l,ht,p⟩:=I.tuple i;refine assign_Tuple_tuple (I.ok.hd f) ht (by simp[hn,<- j,l.length]) c fun h' hx=>?_;have m:=I.kept (t':=s.toks) fun b o e=>hx b o (C2<|B3 e) e;exact h pins _ σ H xs _ Q m (by omega) d
noncomputable def aLB(to a:TE)(t:aEQ):TG:=fun v σ H Q=>to σ H fun o b=>a σ b fun i c=>t o i v c fun d=>Q σ d
def aGC{o i:Uc}{to c:TE}{t:aEQ}(d:PE X o to)(hi:PE X i c)(hs:aIN X t)
 (ha:∀v,assign (.Subscript o i pos) X.env v=(do
  let a <- holding [v] (eval o X.env);let b <- holding [v,a] (eval i X.env)
  standAt pos
  holding [v,a,b] (setItem a b v)
  release [v,a,b] []):=by intro _;rfl):PG X (.Subscript o i pos) (aLB to c t):=by
 intro pins s σ H v u Q I r h;refine A0<|E8 (thn (d pins s σ H _ I h) fun a s1 ⟨x,e,f,g,j⟩=>?_);refine A0<|E8 (thn (hi pins s1 σ e _ f j) fun b s2 ⟨y,k,l,m,n⟩=>?_);refine A0<|U9<|A0<|E8 (thn (hs pins s2 σ k x y v a b u _ l g m r n) fun _ s3 ⟨p,q,w⟩=>?_);exact wpAny_release ⟨σ,p,q,w⟩
noncomputable def VJ(a:TE)(g:TG):TS:=fun D σ H=>a σ H fun x b=>g x σ b D.nx
def aHU{tg e:Uc}{a:TE}{g:TG}(b:PE X e a)(c:PG X tg g)(hs:swapsWithSole [tg] e pos.line X.env=pure false:=by rfl)(d:swappedStores [tg] e X.env=pure Y:=by rfl)
 (f:(assignEach [tg] X.env).map (·.2)=[assign tg X.env]:=by rfl):PS X (.Assign [tg] e pos) (VJ a g):=by
 intro pins s σ H D I h;refine wpAny_Assign_stores (thn (b pins s σ H _ I h) fun v s1 ⟨x,i,j,k,l⟩=>?_) hs d;rw[f];exact thn (c pins s1 σ i x v _ j k l) fun _ s2 q=>q
def aCw{i:Nat}{x:Str}{e:Uc}{b:TE}{a:Pos}(c:X.N.Nodup)(hi:X.N[i]?=Z x)(hx:Loc X.env.scope x)(d:PE X e b)(hs:swapsWith e (Z (.Name x a)) pos.line X.env=pure false:=by rfl)(f:X.fn x=true\/X.env.scope.names.lookup x=Z .local:=by first|exact .inl rfl|exact .inr rfl|assumption):
 PS X (.Assign [.Name x a] e pos) (VJ b<|AL i):=by
 intro pins s σ H D I h;refine wpAny_Assign_Name (thn (d pins s σ H _ I h) fun v s1 ⟨y,g,j,k,l⟩=>?_) hs;exact rX j c hi hx k (fun s2 m=>⟨_,g,m,l⟩) f
def aKk(i j:Nat)(a:TA):TS:=fun D σ H=>a σ H fun vs b=>∃v w,vs=[v,w]/\D.nx ((σ.set i<|Z v).set j (Z w)) b
end
section
variable{X:Cx}{pos:Pos}
def aAb(c:TT)(tb:TS):TS:=fun D σ H=>∃W:Nat->St->Hp->Prop,(∃m,W m σ H)/\∀m σ H,W m σ H->
 c σ H fun b d=>if b=true then ∃N:St->Hp->Prop,(∀a H',N a H'->∃e,e<m/\W e a H')/\tb { D with nx:=N,ct:=N,bk:=D.nx } σ d else D.nx σ d
def aCn(hp:PassesOwn (model X.prog X.w) X.A X.env X.xe)(z:PT X c r)(B:PSs X e tb):PS X (.While c e [] pos) (aAb r tb):=by
 intro pins s σ H D I h;obtain⟨W,⟨C,E⟩,g⟩:=h;refine wpAny_While<|codeAny_whileLoop (fun n F=>∃i H',Inv X pins i H' F/\W n i H') ?_ C ⟨σ,H,I,E⟩;rintro n s1 ⟨d,t,G,J⟩;refine A0a hp (thn (z pins s1 d t _ G<|g n d t J) fun b s2 ⟨u,x,k⟩=>?_);cases b with
 |true=>
  obtain⟨N,y,k⟩:=k;refine A0a hp (thn (B pins s2 d u _ x k) fun f s3 l=>?_);cases f with
  |next=>
   obtain⟨a,j,m,o⟩:=l;obtain⟨p,hm,q⟩:=y a j o;exact⟨p,hm,a,j,m,q⟩
  |cont=>
   obtain⟨a,j,m,o⟩:=l;obtain⟨p,hm,q⟩:=y a j o;exact⟨p,hm,a,j,m,q⟩
  |brk=>exact l
  |ret v=>exact l
 |false=>
  exact A0r ⟨d,u,x,k⟩
end
structure It where
 go:Nat->Hp->Prop
 yld:Nat->Hp->V->Hp->Prop
 stop:Nat->Hp->Prop
def kO(X:Cx)(pins:T2)(H:Hp)(b:Ub):Prop:=
 H b=Y/\b≠X.env.locals/\b∉X.fs/\(b∈X.ex\/X.s₀.heap.objs.size<=b)/\(∀x c,X.env.cells.lookup x=Z c->c≠b)/\∀p∈X.pn++pins,p.1≠b
def Inv.fpOk{H':Hp}{b:Ub}(I:Inv X pins σ H s)(a:s.heap.objs.size<=b)(hn:H' b=Y):kO X pins H' b:=by
 refine⟨hn,A0n<|B6 I.lt a,I.nofs a,.inr (F5 I.sz a),fun x c e z=>?_,fun p d z=>?_⟩
 .obtain⟨v,q⟩:=I.cell x c e;exact absurd (B6 q.lt (by grind))<|E3 _
 .exact absurd (B6 (B3 (I.pin p d).1) (by grind))<|E3 _
def HdX(X:Cx):Prop:=X.A.handled=Y\/∃a o vs,X.A.handled=Z (.ref a)/\o.data=.fields vs/\vs[2]?=Z .none/\∀pins σ H s,Inv X pins σ H s->s.heap.get? a=Z o/\H a=Y/\a∉frs X.stack/\∀b,kO X pins H b->b≠a
def CwQ:Bool->Cx->Prop
 |true,X=>X.calm=true
 |false,X=>HdX X
structure Turn(P:Ud)(w:World)(K:Fg)(tg:Uc)(J:It)(fp:Ta)(it:Ub)(tn:Nat->Heap->Prop)(q:Bool:=true):Prop where
 mem:it∈fp
 obj:∀i h,tn i h->∀b∈fp,∃o,h.get? b=Z o/\∀v,o.data≠.cell v
 keep:∀i h h',tn i h->(∀b∈fp,∀o,h.get? b=Z o->h'.get? b=Z o)->tn i h'
 item:∀(X:Cx),X.prog=P->X.w=w->X.K=K->CwQ q X->∀(i:Nat)(pins:T2)(s:Ua)(σ:St)(H:Hp)(E:T0),Inv X pins σ H s->(∀b∈fp,kO X pins H b)->tn i s.heap->J.go i H->
  wpAny (model P w) X.A (pyNext (.ref it)) (fun r s1=>∃u,r=Z u /\
   wpAny (model P w) X.A (letOwnedTupleGo tg (.ref it) u) (fun _ s2=>∃x H',Inv X pins σ H' s2/\RelV x u/\J.yld i H x H'/\tn (i+1) s2.heap/\∀b∈fp,H' b=Y) E s1) E s
 done:∀(X:Cx),X.prog=P->X.w=w->X.K=K->CwQ q X->∀(i:Nat)(pins:T2)(s:Ua)(σ:St)(H:Hp)(E:T0),Inv X pins σ H s->(∀b∈fp,kO X pins H b)->tn i s.heap->J.stop i H->
  wpAny (model P w) X.A (pyNext (.ref it)) (fun r s1=>r=Y/\Inv X pins σ H s1) E s
 self:∀(A:Ue)(i:Nat)(s:Ua)(Q:T0)(E:T0),tn i s.heap->Q (.ref it) s->wpAny (model P w) A (pyIter (.ref it)) Q E s
abbrev TI:=St->Hp->(It->Hp->Prop)->Prop
def PIE(X:Cx)(pins:T2)(σ:St)(tg:Uc)(R:It->Hp->Prop)(q:Bool)(a:Tx)(s2:Ua):Prop:=
 ∃(it:Ub)(fp:Ta)(tn:Nat->Heap->Prop)(J:It)(H':Hp),a=.ref it/\Inv X pins σ H' s2/\Turn X.prog X.w X.K tg J fp it tn q/\tn 0 s2.heap/\(∀b∈fp,kO X pins H' b)/\R J H'
def PI(X:Cx)(tg iter:Uc)(a:TI)(q:Bool:=true):Prop:=
 ∀(pins:T2)(s:Ua)(σ:St)(H:Hp)(R:It->Hp->Prop),Inv X pins σ H s->a σ H R->
  wpAny (model X.prog X.w) X.A (eval iter X.env) (fun v s1=>wpAny (model X.prog X.w) X.A (pyIter v) (PIE X pins σ tg R q) X.xe s1) X.xe s
def KB{A:Ue}{it:Ub}{o:Obj}{Q:Unit->Ua->Prop}(b:s.heap.get? it=Z o)(c:o.cls=.type n)(hd:o.data=.fields vs)
 (hn:["enumerate","zip","dict_itemiterator","dict_reverseitemiterator","odict_iterator","itertools.zip_longest","itertools.pairwise"].contains n=false) (a:Q () s):wpAny M A (letOwnedTupleGo tg (.ref it) u) Q E s:=by
 cases tg<;>first
  |exact B2 a
  |(cases u<;>first
   |exact B2 a
   | (refine A0 (wpAny_load b ?_)
      rw[c,hd];show wpAny M A (if (["enumerate","zip","dict_itemiterator","dict_reverseitemiterator","odict_iterator","itertools.zip_longest","itertools.pairwise"].contains n&&vs[0]?==Z (rawInt _))=true then _ else _) Q E s;rw[B0 (by grind)];exact B2 a))
def Itl(K:Fg)(a:Ub):It:=
 ⟨fun i H=>∃xs x,SqL K H a xs/\xs[i]?=Z x,fun i H x H'=>H'=H/\∀xs,SqL K H a xs->xs[i]?=Z x,fun i H=>∃xs,SqL K H a xs/\xs.length<=i⟩
def Itt(K:Fg)(a:Ub):It:=
 ⟨fun i H=>∃xs x,SqT K H a xs/\xs[i]?=Z x,fun i H x H'=>H'=H/\∀xs,SqT K H a xs->xs[i]?=Z x,fun i H=>∃xs,SqT K H a xs/\xs.length<=i⟩
noncomputable def Itr(lo:Int)(n:Nat):It:=⟨fun i _=>i<n,fun i H x H'=>H'=H/\x=.int (lo+i),fun i _=>n<=i⟩
def xX{P:Ud}(a it:Ub):Turn P w K tg (Itl K a) [it] it (fun i h=>h.IsListIter it a i) where
 mem:=by simp
 obj:=fun i h st b hb=>by
  have e:b=it:=by grind
  subst e;obtain⟨o,e,c,d⟩:=st;exact⟨o,e,fun v z=>by rw[d]at z;cases z⟩
 keep:=fun i h h' st k=>st.at fun o e=>k it (by simp) o e
 item:=by
  intro X hP hw hK hc i pins s σ H E I hf st hg;subst hP hw hK;obtain⟨xs,x,hq,hx⟩:=hg;obtain⟨its,rv,p,hz⟩:=I.list hq;obtain⟨u,hu,ru⟩:=rv.get hx;obtain⟨f0,f1,f2,f3,f4,f5⟩:=hf it (by simp);refine wpAny_pyNext_list_item st p.isList (by simp;omega) fun h' st' sb=>?_;have I1:=I.turned (t':=s.toks) (fun b o hb e=>(sb.2 b hb).trans e) f0 f1 f3 f4 f5;obtain⟨o,e,c,d⟩:=id st';exact⟨u,rfl,KB e c d (by decide) ⟨x,H,I1,ru,⟨rfl,fun ys hy=>by rw[I.list_inj hy hq];exact hx⟩,st',fun b hb=>(hf b hb).1⟩⟩
 done:=by
  intro X hP hw hK hc i pins s σ H E I hf st hg;subst hP hw hK;obtain⟨xs,hq,hx⟩:=hg;obtain⟨its,rv,p,hz⟩:=I.list hq;obtain⟨f0,f1,f2,f3,f4,f5⟩:=hf it (by simp);have hl:=rv.length;exact wpAny_pyNext_list_end (I.ok.hd hc) st p.isList (by grind) fun h' eb=>⟨rfl,I.turned (fun b o hb e=>eb b o hb e) f0 f1 f3 f4 f5⟩
 self:=fun _ _ _ _ _ st h=>wpAny_pyIter_listiter st h
def vD{P:Ud}(a it:Ub):Turn P w K tg (Itt K a) [it] it (fun i h=>h.IsTupleIter it a i) where
 mem:=by simp
 obj:=fun i h st b hb=>by
  have e:b=it:=by grind
  subst e;obtain⟨o,e,c,d⟩:=st;exact⟨o,e,fun v z=>by rw[d]at z;cases z⟩
 keep:=fun i h h' st k=>st.at fun o e=>k it (by simp) o e
 item:=by
  intro X hP hw hK hc i pins s σ H E I hf st hg;subst hP hw hK;obtain⟨xs,x,hq,hx⟩:=hg;obtain⟨its,rv,p,hz⟩:=I.tuple hq;obtain⟨u,hu,ru⟩:=rv.get hx;obtain⟨f0,f1,f2,f3,f4,f5⟩:=hf it (by simp);refine wpAny_pyNext_tuple_item st p (by simp;omega) fun h' st' sb=>?_;have I1:=I.turned (t':=s.toks) (fun b o hb e=>(sb.2 b hb).trans e) f0 f1 f3 f4 f5;obtain⟨o,e,c,d⟩:=id st';exact⟨u,rfl,KB e c d (by decide) ⟨x,H,I1,ru,⟨rfl,fun ys hy=>by rw[I.tuple_inj hy hq];exact hx⟩,st',fun b hb=>(hf b hb).1⟩⟩
 done:=by
  intro X hP hw hK hc i pins s σ H E I hf st hg;subst hP hw hK;obtain⟨xs,hq,hx⟩:=hg;obtain⟨its,rv,p,hz⟩:=I.tuple hq;obtain⟨f0,f1,f2,f3,f4,f5⟩:=hf it (by simp);have hl:=rv.length;exact wpAny_pyNext_tuple_end (I.ok.hd hc) st p (by grind) fun h' eb=>⟨rfl,I.turned (fun b o hb e=>eb b o hb e) f0 f1 f3 f4 f5⟩
 self:=fun _ _ _ _ _ st h=>wpAny_pyIter_tupleiter st h
def ON{P:Ud}(it:Ub)(lo:Int)(n:Nat):Turn P w K tg (Itr lo n) [it] it (fun i h=>IsRangeIter h it (lo+(i:Nat)*1) ((n:Int)-(i:Nat)) 1) where
 mem:=by simp
 obj:=fun i h st b hb=>by
  have e:b=it:=by grind
  subst e
  exact⟨_,st,fun v z=>by
   have z':=z;cases z'⟩
 keep:=fun i h h' st k=>k it (by simp) _ st
 item:=by
  intro X hP hw hK hc i pins s σ H E I hf st hg;subst hP hw hK;obtain⟨f0,f1,f2,f3,f4,f5⟩:=hf it (by simp);have W:=Walks.range (prog:=X.prog) (w:=X.w) (I.ok.hd hc) it lo 1 n;refine W.item i s _ _ hg st fun v h' tk hv st' kk=>?_;obtain⟨t,rfl⟩:=hv;have I1:Inv X pins σ H { s with heap:=h',toks:=tk }:=I.turned (fun b o hb e=>kk b o (by grind) e) f0 f1 f3 f4 f5;refine⟨_,rfl,KB st' rfl rfl (by decide) ⟨.int (lo+i),H,I1,⟨t,?_⟩,⟨rfl,rfl⟩,st',fun b hb=>(hf b hb).1⟩⟩;rw[Int.mul_one]
 done:=by
  intro X hP hw hK hc i pins s σ H E I hf st hg;subst hP hw hK;obtain⟨f0,f1,f2,f3,f4,f5⟩:=hf it (by simp);exact wpAny_pyNext_range_end (I.ok.hd hc) st (by have:n<=i:=hg;omega) fun h' eb=>⟨rfl,I.turned (fun b o hb e=>eb b o hb e) f0 f1 f3 f4 f5⟩
 self:=fun _ _ _ _ _ st h=>wpAny_pyIter_rangeiter st h
section
variable{X:Cx}{tg:Uc}
def JT{R:It->Hp->Prop}{E:T0}{lo hi:Int}{t u v:Tok}{a:Nat}(I:Inv X pins σ H s)(d:-(2 ^ 62)<=lo)(f:lo<2 ^ 62)(g:-(2 ^ 62)<=hi)(h:hi<2 ^ 62)
 (q:R (Itr lo (hi-lo).toNat) H):wpAny (model X.prog X.w) X.A (pyIter (.ref s.heap.objs.size)) (PIE X pins σ tg R true) E { s with heap:=s.heap.push { cls:=.type "range",data:=.fields #[.int lo t,.int hi u,.int 1 v] },toks:=a }:=by
 refine wpAny_pyIter_range (IsRange.new ..) (small_one d f g h) ?_;have c:Inv X pins σ H { s with heap:=s.heap.push { cls:=.type "range",data:=.fields #[.int lo t,.int hi u,.int 1 v] },toks:=a }:=I.kept fun b o e=>A2 _ e
 refine⟨(s.heap.push { cls:=.type "range",data:=.fields #[.int lo t,.int hi u,.int 1 v] }).objs.size,[(s.heap.push { cls:=.type "range",data:=.fields #[.int lo t,.int hi u,.int 1 v] }).objs.size],_,_,H,rfl,
  c.kept (t':=a) fun b o e=>A2 _ e,ON _ lo (hi-lo).toNat,?_,fun b i=>?_,q⟩
 .have j:lo+((0:Nat):Int)*1=lo:=by simp
  have k:(((hi-lo).toNat:Nat):Int)-((0:Nat):Int)=Builtin.Range.rangeSize lo hi 1:=by rw[rangeSize_one];split<;>omega
  show IsRangeIter _ _ (lo+((0:Nat):Int)*1) ((((hi-lo).toNat:Nat):Int)-((0:Nat):Int)) 1;rw[j,k];exact C6 _ rfl
 .have e:b=(s.heap.push { cls:=.type "range",data:=.fields #[.int lo t,.int hi u,.int 1 v] }).objs.size:=by simpa using i
  subst e;exact c.fpOk (A6 _)<|c.hok.fresh<|A6 _
def aFQ(a:TA):TI:=fun σ H R=>a σ H fun vs b=>∃j:Int,vs=[.int j]/\-(2 ^ 62)<=j/\j<2 ^ 62/\R (Itr 0 j.toNat) b
def aGi(a:TA):TI:=fun σ H R=>a σ H fun vs b=>∃i j:Int,vs=[.int i,.int j]/\(-(2 ^ 62)<=i/\i<2 ^ 62/\-(2 ^ 62)<=j/\j<2 ^ 62)/\R (Itr i (j-i).toNat) b
def XX{a:Uc}{c:TA}{p:Pos}(d:Gl X "range")(hm:X.mg "range"=Y)(ha:PA X [a] c)(hs:starEach [a] X.env=[(false,eval a X.env)]:=by rfl):PI X tg (.Call (.Name "range" p) [a] [] pos) (aFQ c):=by
 intro pins s σ H R I h;refine Call_<|sJ I d hm boot_range<|U2 (thn (ha pos pins s σ H _ I h) fun us s1 ⟨vs,l,f,g,b⟩=>?_) hs rfl;obtain⟨j,e,b,i,q⟩:=b;subst e;cases g with
 |cons r k=>
  cases k;obtain⟨t,rfl⟩:=r;exact call_range_1<|JT f (by omega) (by omega) b i (by grind)
def VY{a b:Uc}{g:TA}{p pos:Pos}(k:Gl X "range")(hm:X.mg "range"=Y)(ha:PA X [a,b] g)(hs:starEach [a,b] X.env=[(false,eval a X.env),(false,eval b X.env)]:=by rfl)(c:starEach [b] X.env=[(false,eval b X.env)]:=by rfl):
 PI X tg (.Call (.Name "range" p) [a,b] [] pos) (aGi g):=by
 intro pins s σ H R I h;refine Call_<|sJ I k hm boot_range<|U2 (thn (ha pos pins s σ H _ I h) fun us s1 ⟨vs,w,l,m,d⟩=>?_) (by grind) (by rw[c];rfl);obtain⟨i,j,e,⟨d,n,o,u⟩,q⟩:=d;subst e;cases m with
 |cons r f=>
  cases f with
  |cons v f=>
   cases f;obtain⟨t,rfl⟩:=r;obtain⟨x,rfl⟩:=v;exact call_range_2<|JT l d n o u q
def aJa(d:TI)(g:TG)(tb:TS):TS:=fun D σ H=>d σ H fun J e=>∃W:Nat->Nat->St->Hp->Prop,(∃m,W 0 m σ e)/\∀i m σ H,W i m σ H->
 (J.stop i H/\D.nx σ H)\/(J.go i H/\∃N:St->Hp->Prop,(∀a H',N a H'->∃c,c<m/\W (i+1) c a H')/\∀x H',J.yld i H x H'->g x σ H' fun b f=>tb { D with nx:=N,ct:=N,bk:=D.nx } b f)
noncomputable def sG(fp:Ta)(h:Heap):T2:=fp.filterMap fun b=>(h.get? b).map fun o=>(b,o)
def dW{fp:Ta}{h:Heap}{b:Ub}{o:Obj}(a:b∈fp)(e:h.get? b=Z o):(b,o)∈sG fp h:=List.mem_filterMap.mpr ⟨b,a,by rw[e];rfl⟩
def FE{p:Ub×Obj}(hp:p∈sG fp h):p.1∈fp/\h.get? p.1=Z p.2:=by
 obtain⟨b,a,e⟩:=List.mem_filterMap.mp hp;cases q:h.get? b with
 |none=>rw[q]at e;cases e
 |some o=>
  rw[q]at e;have c:=D3 e;subst c;exact⟨a,q⟩
def Inv.pinned{fp:Ta}(I:Inv X pins σ H s)(f:∀b∈fp,kO X pins H b)(g:∀b∈fp,∃o,s.heap.get? b=Z o/\∀v,o.data≠.cell v):Inv X (pins++sG fp s.heap) σ H s:=
 I.pins_of fun p h=>(List.mem_append.mp h).elim (fun z=>I.pin p<|A7 _ z) fun z=>by
  obtain⟨a,e⟩:=FE z;obtain⟨i,j,f2,_⟩:=f p.1 a;obtain⟨o,c,d⟩:=g p.1 a;rw[e]at c;cases c;exact⟨e,i,j,f2,d⟩
def Inv.unpinned{pins a:T2}(I:Inv X (pins++a) σ H s):Inv X pins σ H s:=I.pins_of fun p b=>I.pin p<|A7 _<|C1 _ b
def aAY{iter:Uc}{t:T9}{R:TI}{g:TG}{tb:TS}{pos:Pos}(hp:PassesOwn (model X.prog X.w) X.A X.env X.xe)(S:X.calm=true)(hi:PI X tg iter R)(hg:PG X tg g)(c:PSs X t tb)
 (hs:∀x,foldedSetIterable iter X.env x=pure x:=by intro _;rfl):PS X (.For tg iter t [] pos) (aJa R g tb):=by
 intro pins s σ H D I h;refine wpAny_For (thn (hi pins s σ H _ I h) fun v s1 h1=>thn h1 fun a0 s2 h2=>?_) hs;obtain⟨it,fp,tn,J,H2,e,I2,T,L,f2,W,⟨m0,w0⟩,B⟩:=h2;subst e;have j:∀{H':Hp},(∀b∈fp,H' b=Y)->∀b∈fp,kO X pins H' b:=fun hn b c=>⟨hn b c,(f2 b c).2⟩;refine codeAny_forLoop_any (fun n U=>∃i k H',Inv X pins k H' U/\tn i U.heap/\(∀b∈fp,H' b=Y)/\W i n k H') ?_ m0 ⟨0,σ,H2,I2,L,fun b c=>(f2 b c).1,w0⟩;rintro n s3 ⟨i,l,G,V,C,E,w3⟩;rcases B i n l G w3 with⟨stop,qn⟩|⟨go,N,hN,step⟩
 .refine A0a hp (thn (T.done X rfl rfl rfl S i pins s3 l G X.xe V (j E) C stop) fun r s4 ⟨M,I4⟩=>?_);subst M;exact A0r ⟨l,G,I4,qn⟩
 .refine A0a hp (thn (T.item X rfl rfl rfl S i pins s3 l G X.xe V (j E) C go) fun r s4 ⟨u,M,h4⟩=>?_);subst M;refine A0a hp (thn h4 fun _ s5 ⟨x,H5,I5,r5,y5,z,O⟩=>?_);have P:=I5.pinned (j O)<|T.obj _ _ z;refine A0a hp (thn (hg _ s5 l H5 x u _ P r5<|step x H5 y5) fun _ s6 ⟨Q,H6,I6,q6⟩=>?_);refine A0a hp (thn (c _ s6 Q H6 _ I6 q6) fun f s7 y=>?_)
  have again:∀{a:St}{p:Hp},Inv X (pins++sG fp s5.heap) a p s7->N a p->∃m,m<n/\∃i k H',Inv X pins k H' s7/\tn i s7.heap/\(∀b∈fp,H' b=Y)/\W i m k H':=fun{a p} q F=>by
   obtain⟨m',hm,w7⟩:=hN a p F;refine⟨m',hm,i+1,a,p,q.unpinned,T.keep _ _ _ z fun b c o e=>(q.pin (b,o)<|A7 _<|A7 _<|dW c e).1,fun b c=>?_,w7⟩;obtain⟨o,e,d⟩:=T.obj _ _ z b c;exact(q.pin (b,o)<|A7 _<|A7 _<|dW c e).2.1
  cases f with
  |next=>obtain⟨a,p,q,F⟩:=y;exact again q F
  |cont=>obtain⟨a,p,q,F⟩:=y;exact again q F
  |brk=>obtain⟨a,p,q,y⟩:=y;exact⟨a,p,q.unpinned,y⟩
  |ret v=>obtain⟨x7,a,p,q,r7,y⟩:=y;exact⟨x7,a,p,q.unpinned,r7,y⟩
end
abbrev R2:=V->V->Hp->VK->Prop
def OpR(X:Cx)(f:Tn)(r:R2):Prop:=
 ∀(pins:T2)(s:Ua)(σ:St)(H:Hp)(x y:V)(v u:Tx)(Q:VK),Inv X pins σ H s->RelV x v->RelV y u->r x y H Q->
  wpAny (model X.prog X.w) X.A (f v u) (EP X pins σ Q) X.xe s
def UnR(X:Cx)(f:Tx->Sem Tx)(r:V->Hp->VK->Prop):Prop:=
 ∀(pins:T2)(s:Ua)(σ:St)(H:Hp)(x:V)(v:Tx)(Q:VK),Inv X pins σ H s->RelV x v->r x H Q->
  wpAny (model X.prog X.w) X.A (f v) (EP X pins σ Q) X.xe s
def fR(X:Cx)(f:Tx)(r:Tc->Hp->VK->Prop):Prop:=
 ∀(pins:T2)(s:Ua)(σ:St)(H:Hp)(xs:Tc)(us:T5)(Q:VK),Inv X pins σ H s->bG xs us->r xs H Q->
  wpAny (model X.prog X.w) X.A (call f us) (EP X pins σ Q) X.xe s
def aMm(X:Cx)(r:V->Hp->(Bool->Hp->Prop)->Prop):Prop:=
 ∀(pins:T2)(s:Ua)(σ:St)(H:Hp)(x:V)(v:Tx)(Q:Bool->Hp->Prop),Inv X pins σ H s->RelV x v->r x H Q->
  wpAny (model X.prog X.w) X.A (truthy v) (TP X pins σ Q) X.xe s
noncomputable def tOp(r:R2)(a tb:TE):TE:=fun σ H Q=>a σ H fun x b=>tb σ b fun y c=>r x y c Q
noncomputable def tUn(r:V->Hp->VK->Prop)(a:TE):TE:=fun σ H Q=>a σ H fun x b=>r x b Q
noncomputable def rI(C:Int->Int->Prop)(g:Int->Int->V):R2:=fun x y H Q=>∃i j,x=.int i/\y=.int j/\C i j/\Q (g i j) H
noncomputable def rI0(g:Int->Int->V):R2:=fun x y H Q=>∃i j,x=.int i/\y=.int j/\Q (g i j) H
def rU(g:Int->V):V->Hp->VK->Prop:=fun x H Q=>∃i,x=.int i/\Q (g i) H
section
variable{X:Cx}{a b c:Uc}{ta tb tc:TE}{pos:Pos}
def aJl(ha:PE X a ta)(j:PE X b tb){pins:T2}{R:V->V->Hp->Prop}(I:Inv X pins σ H s)
 (h:ta σ H fun x i=>tb σ i fun y d=>R x y d) {Q:T0} {f:Tn}
 (k:∀v u s2 x y d,Inv X pins σ d s2->RelV x v->RelV y u->R x y d->wpAny (model X.prog X.w) X.A (f v u) Q X.xe s2):
 wpAny (model X.prog X.w) X.A (eval a X.env) (fun v e=>wpAny (model X.prog X.w) X.A (eval b X.env) (fun u g=>wpAny (model X.prog X.w) X.A (f v u) Q X.xe g) X.xe e) X.xe s:=by
 refine thn (ha pins s σ H _ I h) fun v s1 ⟨x,i,l,m,n⟩=>?_;refine thn (j pins s1 σ i _ l n) fun u s2 ⟨y,d,o,p,q⟩=>?_;exact k v u s2 x y d o m p q
def aJP(d:OpR X (binaryOp op) r)(ha:PE X a ta)(e:PE X b tb):PE X (.BinOp a op b pos) (tOp r ta tb):=by
 intro pins s σ H Q I h;exact wpAny_BinOp (aJl ha e I h fun v u s2 x y f g i j q=>d pins s2 σ f x y v u Q g i j q)
def aLy{op:UnaryOp}{r:V->Hp->VK->Prop}(d:UnR X (unaryOp op) r)(ha:PE X a ta):PE X (.UnaryOp op a pos) (tUn r ta):=by
 intro pins s σ H Q I h;exact UnaryOp_ (thn (ha pins s σ H _ I h) fun v s1 ⟨x,e,f,g,i⟩=>d pins s1 σ e x v Q f g i)
def opI{f:Tn}{C:Int->Int->Prop}{g:Int->Int->Int}
 (rule:∀(i j:Int)(t u:Tok)(s:Ua)(Q:T0)(E:T0),C i j->Q (.int (g i j) s.toks) { s with toks:=s.toks+1 }->wpAny (model X.prog X.w) X.A (f (.int i t) (.int j u)) Q E s):
 OpR X f (rI C fun i j=>.int (g i j)):=by
 intro pins s σ H x y v u Q I d e h;obtain⟨i,j,rfl,rfl,k,q⟩:=h;obtain⟨t,rfl⟩:=d;obtain⟨l,rfl⟩:=e;exact rule i j t l s _ _ k ⟨.int (g i j),H,I.tok _,⟨_,rfl⟩,q⟩
def aKW{f:Tn}{g:Int->Int->Int}
 (rule:∀(i j:Int)(t u:Tok)(s:Ua)(Q:T0)(E:T0),Q (.int (g i j) s.toks) { s with toks:=s.toks+1 }->wpAny (model X.prog X.w) X.A (f (.int i t) (.int j u)) Q E s):
 OpR X f (rI0 fun i j=>.int (g i j)):=by
 intro pins s σ H x y v u Q I d e h;obtain⟨i,j,rfl,rfl,q⟩:=h;obtain⟨t,rfl⟩:=d;obtain⟨k,rfl⟩:=e;exact rule i j t k s _ _ ⟨.int (g i j),H,I.tok _,⟨_,rfl⟩,q⟩
def aFF{f:Tn}{g:Int->Int->Bool}
 (rule:∀(i j:Int)(t u:Tok)(s:Ua)(Q:T0)(E:T0),Q (.bool (g i j)) s->wpAny (model X.prog X.w) X.A (f (.int i t) (.int j u)) Q E s):
 OpR X f (rI0 fun i j=>.bl (g i j)):=by
 intro pins s σ H x y v u Q I d e h;obtain⟨i,j,rfl,rfl,q⟩:=h;obtain⟨t,rfl⟩:=d;obtain⟨k,rfl⟩:=e;exact rule i j t k s _ _ ⟨.bl (g i j),H,I,rfl,q⟩
def aKy(i j:Int):Prop:=0<=j/\j<=1000000/\i.natAbs<2 ^ 64
def aIF(i j:Int):Prop:=(-(2 ^ 64)<i/\i<2 ^ 64)\/(-(2 ^ 64)<j/\j<2 ^ 64)
def aIF.ok(h:aIF i j):IntMulOk i j:=by
 rcases h with⟨d,e⟩|⟨d,e⟩
 .exact .of_left (intBits_le_64 d e)
 .exact .of_right (intBits_le_64 d e)
def op_add:OpR X (binaryOp .Add) (rI0 fun i j=>.int (i+j)):=aKW fun _ _ _ _ _ _ _ q=>add_int q
def aGM:OpR X (binaryOp .Sub) (rI0 fun i j=>.int (i-j)):=aKW fun _ _ _ _ _ _ _ q=>sub_int q
def aHa:OpR X (binaryOp .Mod) (rI (fun _ j=>0<j) fun i j=>.int (i % j)):=opI fun i j _ _ _ _ _ d q=>by
 exact mod_int' (by omega) (by grind)
def aJd:OpR X (binaryOp .Pow) (rI aKy fun i j=>.int (i ^ j.toNat)):=opI fun _ _ _ _ _ _ _ d q=>pow_int_small d.1 d.2.1 d.2.2 q
def unI{f:Tx->Sem Tx}{g:Int->Int}
 (rule:∀(i:Int)(t:Tok)(s:Ua)(Q:T0)(E:T0),Q (.int (g i) s.toks) { s with toks:=s.toks+1 }->wpAny (model X.prog X.w) X.A (f (.int i t)) Q E s):
 UnR X f (rU fun i=>.int (g i)):=by
 intro pins s σ H x v Q I d h;obtain⟨i,rfl,q⟩:=h;obtain⟨t,rfl⟩:=d;exact rule i t s _ _ ⟨.int (g i),H,I.tok _,⟨_,rfl⟩,q⟩
def aHE:UnR X (unaryOp .USub) (rU fun i=>.int (-i)):=unI fun _ _ _ _ _ q=>neg_int q
end
noncomputable def aLk:V->V->Bool
 |.non,.non=>true|.non,.int _=>true|.int _,.non=>true|.non,.bl _=>true|.bl _,.non=>true|.non,.str _=>true|.str _,.non=>true
 |.int _,.int _=>true|.bl _,.bl _=>true|.str _,.str _=>true|.byt _,.byt _=>true
 |.int _,.str _=>true|.str _,.int _=>true|.bl _,.str _=>true|.str _,.bl _=>true
 |_,_=>false
def rEq:R2:=fun x y H Q=>aLk x y=true/\Q (.bl (decide (x=y))) H
def rNe:R2:=fun x y H Q=>aLk x y=true/\Q (.bl (!decide (x=y))) H
def SW:decide (V.int i=V.int j)=(i==j):=by
 rw[Y8];simp
def aAJ:decide (V.bl i=V.bl j)=(i==j):=by
 rw[Y8];simp
def RL:decide (V.str i=V.str j)=(i==j):=by
 rw[Y8];simp
def UN:decide (V.byt i=V.byt j)=(i.toList==j.toList):=by
 rw[Y8];cases i;cases j;simp
section
variable{X:Cx}{a b c:Uc}{ta tb tc:TE}{pos:Pos}
def cD{Q:VK}{d:Bool}(I:Inv X pins σ H s)(q:Q (.bl k) H)(e:k=d):EP X pins σ Q (.bool d) s:=by
 subst e;exact⟨.bl k,H,I,rfl,q⟩
def op_eq:OpR X (compareOp .Eq) rEq:=by
 intro pins s σ H x y v u Q I f d h;obtain⟨hs,q⟩:=h;cases x with
 |non=>
  cases f;cases y with
  |non=>cases d;exact PySem.EqNone.eq_none_none<|cD I q (by simp)
  |bl j=>cases d;exact PySem.EqNone.eq_none_bool<|cD I q (by simp)
  |int j=>obtain⟨e,rfl⟩:=d;exact PySem.EqNone.eq_none_int<|cD I q (by simp)
  |str j=>obtain⟨e,rfl⟩:=d;exact PySem.EqNone.eq_none_str<|cD I q (by simp)
  |_=>exact absurd hs B5
 |bl i=>
  cases f;cases y with
  |non=>cases d;exact PySem.EqNone.eq_bool_none<|cD I q (by simp)
  |bl j=>cases d;exact eq_bool<|cD I q aAJ
  |str j=>obtain⟨e,rfl⟩:=d;exact PySem.EqMixed.eq_bool_str<|cD I q (by simp)
  |_=>exact absurd hs B5
 |int i=>
  obtain⟨t,rfl⟩:=f;cases y with
  |non=>cases d;exact PySem.EqNone.eq_int_none<|cD I q (by simp)
  |int j=>obtain⟨e,rfl⟩:=d;exact eq_int<|cD I q SW
  |str j=>obtain⟨e,rfl⟩:=d;exact PySem.EqMixed.eq_int_str<|cD I q (by simp)
  |_=>exact absurd hs B5
 |str i=>
  obtain⟨t,rfl⟩:=f;cases y with
  |non=>cases d;exact PySem.EqNone.eq_str_none<|cD I q (by simp)
  |bl j=>cases d;exact PySem.EqMixed.eq_str_bool<|cD I q (by simp)
  |int j=>obtain⟨e,rfl⟩:=d;exact PySem.EqMixed.eq_str_int<|cD I q (by simp)
  |str j=>obtain⟨e,rfl⟩:=d;exact eq_str<|cD I q RL
  |_=>exact absurd hs B5
 |byt i=>
  obtain⟨t,rfl⟩:=f;cases y with
  |byt j=>obtain⟨e,rfl⟩:=d;exact W.eq_bytes<|cD I q UN
  |_=>exact absurd hs B5
 |_=>cases y<;>exact absurd hs B5
def op_ne:OpR X (compareOp .NotEq) rNe:=by
 intro pins s σ H x y v u Q I f d h;obtain⟨hs,q⟩:=h;cases x with
 |non=>
  cases f;cases y with
  |non=>cases d;exact PySem.EqNone.ne_none_none<|cD I q (by simp)
  |bl j=>cases d;exact PySem.EqNone.ne_none_bool<|cD I q (by simp)
  |int j=>obtain⟨e,rfl⟩:=d;exact PySem.EqNone.ne_none_int<|cD I q (by simp)
  |str j=>obtain⟨e,rfl⟩:=d;exact PySem.EqNone.ne_none_str<|cD I q (by simp)
  |_=>exact absurd hs B5
 |bl i=>
  cases f;cases y with
  |non=>cases d;exact PySem.EqNone.ne_bool_none<|cD I q (by simp)
  |bl j=>cases d;exact ne_bool<|cD I q<|L5 not aAJ
  |str j=>obtain⟨e,rfl⟩:=d;exact PySem.EqMixed.ne_bool_str<|cD I q (by simp)
  |_=>exact absurd hs B5
 |int i=>
  obtain⟨t,rfl⟩:=f;cases y with
  |non=>cases d;exact PySem.EqNone.ne_int_none<|cD I q (by simp)
  |int j=>obtain⟨e,rfl⟩:=d;exact ne_int<|cD I q<|L5 not SW
  |str j=>obtain⟨e,rfl⟩:=d;exact PySem.EqMixed.ne_int_str<|cD I q (by simp)
  |_=>exact absurd hs B5
 |str i=>
  obtain⟨t,rfl⟩:=f;cases y with
  |non=>cases d;exact PySem.EqNone.ne_str_none<|cD I q (by simp)
  |bl j=>cases d;exact PySem.EqMixed.ne_str_bool<|cD I q (by simp)
  |int j=>obtain⟨e,rfl⟩:=d;exact PySem.EqMixed.ne_str_int<|cD I q (by simp)
  |str j=>obtain⟨e,rfl⟩:=d;exact ne_str<|cD I q<|L5 not RL
  |_=>exact absurd hs B5
 |byt i=>
  obtain⟨t,rfl⟩:=f;cases y with
  |byt j=>obtain⟨e,rfl⟩:=d;exact W.ne_bytes<|cD I q<|L5 not UN
  |_=>exact absurd hs B5
 |_=>cases y<;>exact absurd hs B5
def op_lt:OpR X (compareOp .Lt) (rI0 fun i j=>.bl (decide (i<j))):=aFF fun _ _ _ _ _ _ _ q=>lt_int q
def aJR:OpR X (compareOp .LtE) (rI0 fun i j=>.bl (decide (i<=j))):=aFF fun _ _ _ _ _ _ _ q=>le_int q
def aKH:OpR X (compareOp .Gt) (rI0 fun i j=>.bl (decide (j<i))):=aFF fun _ _ _ _ _ _ _ q=>gt_int q
def aKU:OpR X (compareOp .GtE) (rI0 fun i j=>.bl (decide (j<=i))):=aFF fun _ _ _ _ _ _ _ q=>ge_int q
def OpR.or(h:OpR X f r)(h':OpR X f d):OpR X f (fun x y H Q=>r x y H Q\/d x y H Q):=by
 intro pins s σ H x y v u Q I e g q;rcases q with q|q
 .exact h pins s σ H x y v u Q I e g q
 .exact h' pins s σ H x y v u Q I e g q
def aEX(d:OpR X (compareOp op) r)(ha:PE X a ta)(e:PE X b tb)(hm:behindInMarks op b=false):PE X (.Compare a [op] [b] pos) (tOp r ta tb):=by
 intro pins s σ H Q I h;exact wpAny_Compare1 (aJl ha e I h fun v u s2 x y f g i j q=>d pins s2 σ f x y v u Q g i j q) hm
noncomputable def aGj(t:TE):TT:=fun σ H Q=>t σ H fun x H'=>∃k,x=.bl k/\Q k H'
def aDX{op:CmpOp}{r:R2}(d:OpR X (compareOp op) r)(ha:PE X a ta)(f:PE X b tb)(hm:behindInMarks op b=false):PT X (.Compare a [op] [b] pos) (aGj<|tOp r ta tb):=by
 intro pins s σ H Q I h
 refine wpAny_isTrue_Compare1 (thn (ha pins s σ H _ I h) fun v s1 ⟨x,g,i,j,l⟩=>thn (f pins s1 σ g _ i l) fun u s2 ⟨y,m,n,o,p⟩=>
  thn (d pins s2 σ m x y v u _ n j o p) fun c s3 ⟨z,q,t,w,k,e,B⟩=>?_) hm
 subst e;cases w;exact U4 ⟨q,t,B⟩
noncomputable def ZQ(r e:R2)(ta tb tc:TE):TE:=fun σ H Q=>ta σ H fun x f=>tb σ f fun y g=>r x y g fun z d=>∃k,z=.bl k /\
 (if k=true then tc σ d fun h i=>e y h i Q else Q (.bl false) d)
def aBz{op f:CmpOp}{r i:R2}(o:OpR X (compareOp op) r)(g:OpR X (compareOp f) i)(ha:PE X a ta)(p:PE X b tb)(q:PE X c tc)
 (hm:lastMarks [op,f] [b,c]=false:=by with_unfolding_all rfl):PE X (.Compare a [op,f] [b,c] pos) (ZQ r i ta tb tc):=by
 intro pins s σ H Q I h
 refine Compare_chain (thn (ha pins s σ H _ I h) fun v s1 ⟨x,t,w,B,C⟩=>chain_link (thn (p pins s1 σ t _ w C) fun u s2 ⟨y,D,E,j,F⟩=>
  thn (o pins s2 σ D x y v u _ E B j F) fun d s3 ⟨z,l,m,G,k,e,n⟩=>?_)) hm
 subst e;cases G;refine U4 ?_;cases k with
 |false=>exact ite_ff ⟨.bl false,l,m,rfl,n⟩
 |true=>exact ite_tt<|chain_last (thn (q pins s3 σ l _ m n) fun J s4 ⟨L,M,N,O,P⟩=>g pins s4 σ M y L u J Q N j O P)
def aFe(K:Fg)(x:V)(H:Hp)(k:Bool):Prop:=
 match x with
 |.non=>k=false
 |.bl b=>k=b
 |.int i=>k=(i != 0)
 |.str y=>y.length<=sizeLine/\k=((y.length:Int) != 0)
 |.byt y=>y.size<=sizeLine/\k=((y.size:Int) != 0)
 |.ref p=>(∃xs,SqL K H p xs/\k=!xs.isEmpty)\/(∃xs,SqT K H p xs/\k=!xs.isEmpty)\/∃kvs,H p=Z (.dK kvs)/\k=!kvs.isEmpty
 |_=>False
def PU{d:Type}{kvs:Tv (d×V)}{vs:Tv (d×Tx)}(r:KV kvs vs):(!vs.isEmpty)=!kvs.isEmpty:=by
 cases r<;>rfl
def AG(r:bG xs its):(!its.toArray.isEmpty)=!xs.isEmpty:=by
 cases r<;>simp
def CB:(sizeLine:Nat)<2 ^ 63:=by rw[E9];decide
def aHG:aMm X (fun x H Q=>∃k,aFe X.K x H k/\Q k H):=by
 intro pins s σ H x v Q I g h;obtain⟨k,e,q⟩:=h;have hs:=E9;cases x with
 |non=>
  cases g;have d:=e;subst d;exact truthy_none ⟨H,I,q⟩
 |bl b=>
  cases g;have d:=e;subst d;exact U4 ⟨H,I,q⟩
 |int i=>
  obtain⟨t,rfl⟩:=g;have d:=e;subst d;exact PySem.P.truthy_int ⟨H,I,q⟩
 |str y=>
  obtain⟨t,rfl⟩:=g;obtain⟨hy,d⟩:=e;subst d;exact PySem.P.truthy_str (by omega) ⟨H,I.tok _,q⟩
 |byt y=>
  obtain⟨t,rfl⟩:=g;obtain⟨hy,d⟩:=e;subst d;exact W.truthy_bytes (by omega) ⟨H,I.tok _,q⟩
 |ref p=>
  cases g;have d:=e;rcases d with⟨xs,hx,d⟩|⟨xs,hx,d⟩|⟨kvs,hx,d⟩
  .subst d;obtain⟨its,r,j,l⟩:=I.list hx;have f:=r.length;exact wpAny_truthy_list j.isList (by grind) ⟨H,I.tok _,by rw[AG r];exact q⟩
  .subst d;obtain⟨its,r,j,l⟩:=I.tuple hx;have f:=r.length;exact truthy_tuple j (by grind) ⟨H,I.tok _,by rw[AG r];exact q⟩
  .subst d;obtain⟨l,hS,vs,r,m⟩:=I.hok p _ hx;have f:=A1a r;exact wpAny_truthy_dict hS m (by omega) ⟨H,I.tok _,by rw[PU r];exact q⟩
 |_=>exact e.elim
def aAs(ha:PE X a ta)(e:∀d,isTrue a X.env d=(do let v <- d;standAt a.pos;holding [v]<|truthy v)):
 PT X a (fun σ H Q=>ta σ H fun x H'=>∃k,aFe X.K x H' k/\Q k H'):=by
 intro pins s σ H Q I h;exact isTrue_plain (thn (ha pins s σ H _ I h) fun v s1 ⟨x,f,g,i,j⟩=>aHG pins s1 σ f x v Q g i j)<|e _
def vals1{x:V}{us:T5}(r:bG [x] us):∃u,us=[u]/\RelV x u:=by
 cases r with
 |cons d e=>cases e;exact⟨_,rfl,d⟩
def vals2{x y:V}{us:T5}(r:bG [x,y] us):∃u d,us=[u,d]/\RelV x u/\RelV y d:=by
 cases r with
 |cons e f=>
  cases f with
  |cons g h=>cases h;exact⟨_,_,rfl,e,g⟩
def WU:fR X (.type "int") (fun xs H Q=>(∃i,xs=[.int i]/\Q (.int i) H)\/∃k,xs=[.bl k]/\Q (.int (if k then 1 else 0)) H):=by
 intro pins s σ H xs us Q I r h;rcases h with⟨i,rfl,q⟩|⟨k,rfl,q⟩
 .obtain⟨u,rfl,t,rfl⟩:=vals1 r;exact call_int_int ⟨.int i,H,I,⟨_,rfl⟩,q⟩
 .obtain⟨u,rfl,d⟩:=vals1 r;cases d;exact call_int_bool ⟨.int (if k then 1 else 0),H,I.tok _,⟨_,rfl⟩,q⟩
end
def EH.some_of{v:V}(r:EH (Z v) o):∃u,o=Z u/\RelV v u:=by
 cases o with
 |none=>exact r.elim
 |some u=>exact⟨u,rfl,r⟩
structure cG(k:Nat)(A:Ue)(q:Bool:=true):Prop where
 hd:q=true->A.handled=Y
 dp:A.depth+3*k+5<recursionLimit
 un:A.units+16*k+200<cLine
 gd:A.guards=Z []
def cG.mono{j:Nat}(r:cG k A q)(h:j<=k):cG j A q:=⟨r.hd,by have:=r.dp;omega,by have:=r.un;omega,r.gd⟩
def cG.deeper{k:Nat}(r:cG (k+1) A q)(env:Env):cG k (A.deeper env) q:=
 ⟨r.hd,by have:=r.dp;show A.depth+1+3*k+5<_;omega,by have:=r.un;show A.units+3+16*k+200<_;omega,r.gd⟩
def cG.depth(r:cG k A q):A.depth<recursionLimit:=by have:=r.dp;omega
def cG.units(r:cG k A q):A.units+64<cLine:=by have:=r.un;omega
noncomputable def VW:TA:=fun _ H Q=>Q [] H
noncomputable def rF(a:TE)(tr:TA):TA:=fun σ H Q=>a σ H fun x b=>tr σ b fun xs c=>Q (x::xs) c
section
variable{X:Cx}{e:Uc}{es:T8}{te:TE}{t:TA}{pos:Pos}
def CH:PA X [] VW:=fun _ _ _ _ H Q I h=>Calls.spliced_nil ⟨[],H,I,.nil,h⟩
def jW(ha:PE X e te)(a:PA X es t)(hs:starEach (e::es) X.env=(false,eval e X.env)::starEach es X.env:=by rfl):PA X (e::es) (rF te t):=by
 intro pos pins s σ H Q I h;rw[hs];refine Calls.spliced_cons (thn (ha pins s σ H _ I h) fun u s1 ⟨x,b,c,d,f⟩=>?_);exact thn (a pos pins s1 σ b _ c f) fun us s2 ⟨xs,g,i,j,k⟩=>⟨x::xs,g,i,.cons d j,k⟩
def aIj(t:TA):TE:=fun σ H Q=>t σ H fun xs a=>xs.length<=sizeLine/\∀p,a p=Y->Q (.ref p) (upd a p (.tup xs))
def aGN(t:TA):TE:=fun σ H Q=>t σ H fun xs a=>xs.length<=sizeLine/\∀p,a p=Y->Q (.ref p) (upd a p (.lst xs))
def ZP{x1}(h:PA X es t):PE X (.Tuple es x1 pos) (aIj t):=by
 intro pins s σ H Q I c;refine wpAny_Tuple_spliced (thn (h pos pins s σ H _ I c) fun us s1 ⟨xs,d,a,r,z,q⟩=>⟨by rw[<- r.length];exact z,?_⟩);have f:=a.hok.fresh<|A6 _;refine⟨.ref s1.heap.objs.size,upd d s1.heap.objs.size (.tup xs),a.laid (fun b u e=>A2 _ e) (A6 _) ?_,rfl,q _ f⟩;exact⟨z,us,r,⟨_,C6 _ rfl,rfl,_,rfl⟩⟩
def aCt(h:PA X es t):PE X (.List es pos) (aGN t):=by
 intro pins s σ H Q I c;refine wpAny_List_spliced (thn (h pos pins s σ H _ I c) fun us s1 ⟨xs,d,a,r,z,q⟩=>⟨by rw[<- r.length];exact z,?_⟩);have f:=a.hok.fresh<|A6 _;refine⟨.ref s1.heap.objs.size,upd d s1.heap.objs.size (.lst xs),a.laid (fun b u e=>A2 _ e) (A6 _) ?_,rfl,q _ f⟩;exact⟨z,us,0,r,C6 _ rfl⟩
end
abbrev Sp:=Tc->Hp->VK->XK->Prop
abbrev CXT:=List Env->Hp->Shared->XK->Value->Shared->Prop
structure VX(P:Ud)(w:World)(K:Fg)(mg:Str->Tf)(base:Heap)(A:Ue)(outer:Tv Env)(s:Ua)(H:Hp):Prop where
 frames:A.frames=Z outer
 mod:Mod K mg base
 bs:∀b o,base.get? b=Z o->s.heap.get? b=Z o/\H b=Y
 bsz:base.objs.size<=s.heap.objs.size
 funs:s.heap.FunFrames base outer
 frf:∀b∈frs outer,H b=Y
 hok:HOk P w H s.heap
 bare:AllBare s.gens
def CE(outer:Tv Env)(P:Ud)(w:World)(H:Hp)(s:Ua)(Q:VK)(u:Tx)(a:Ua):Prop:=
 ∃v H',a.os=s.os/\AllBare a.gens/\Un (frs outer) [] H H' s.heap a.heap/\HOk P w H' a.heap/\RelV v u/\Q v H'
def CR(CX:CXT)(outer:Tv Env)(P:Ud)(w:World)(H:Hp)(s:Ua)(Q:VK)(E:XK)(r:Result)(a:Ua):Prop:=
 match r with
 |.ok (.ret u)=>CE outer P w H s Q u a
 |.ok _=>False
 |.error e=>CX outer H s E e a
structure pO(P:Ud)(w:World)(K:Fg)(mg:Str->Tf)(base:Heap)(CX:CXT)(k:Nat)(f:Ub)(fd:FuncData)(ps:Tb)(sp:Sp)(q:Bool:=true):Prop where
 len:∀vs H Q E,sp vs H Q E->vs.length=ps.length
 run:∀(A:Ue)(outer:Tv Env)(s:Ua)(H:Hp)(args:Args)(us:T5)(vs:Tc)(Q:VK)(E:XK),cG k A q->VX P w K mg base A outer s H->BindsTo s fd args (ps.zip us)->bG vs us->sp vs H Q E->
  codeAny (model P w) A (.call (.ref f) args) (CR CX outer P w H s Q E) s
def pO.mono{P:Ud}{k:Nat}(F:pO P w K mg base CX j f fd ps sp q)(h:j<=k):
 pO P w K mg base CX k f fd ps sp q:=⟨F.len,fun A outer s H args us vs Q E a=>F.run A outer s H args us vs Q E<|a.mono h⟩
section
variable{X:Cx}{pins:T2}{σ:St}{H:Hp}{s s':Ua}
def Inv.env0(I:Inv X pins σ H s):VX X.prog X.w X.K X.mg X.base X.A X.stack s H:=
 ⟨I.ok.frames,I.ok.mod,I.bs,F5 I.ok.bsz I.sz,I.stack,I.stkFree,I.hok,I.bare⟩
def Inv.after(I:Inv X pins σ H s)(h:CE X.stack X.prog X.w H s Q u s'):EP X pins σ Q u s':=by
 obtain⟨v,H',os,bare,un,hok,r,q⟩:=h;obtain⟨c,g,d,t,a⟩:=s';obtain rfl:=os;exact⟨v,H',I.call un hok bare (fun b z=>absurd z (by simp)),r,q⟩
end
noncomputable def RK(sp:Sp)(a:Tc)(E:XK)(t:TA):TE:=fun σ H Q=>t σ H fun vs b=>sp (vs++a) b Q E
def Binds(K:Fg)(fd:FuncData)(ps:Tb)(ds:T5):Prop:=
 ∀(s:Ua)(us:T5),K.In s.heap->(us++ds).length=ps.length->BindsTo s fd ⟨us,[]⟩ (ps.zip (us++ds))
def Binds.all{ps:Tb}(h:∀us:T5,us.length=ps.length->bindArgs fd ⟨us,[]⟩=pure (ps.zip us)):Binds K fd ps []:=fun s us _ a=>by
 rw[C8]at a ⊢;exact .of_eq (h us a)
def OZ(CX:CXT)(X:Cx)(E:XK):Prop:=∀(pins:T2)(σ:St)(H:Hp)(s:Ua)(e:Tx)(a:Ua),Inv X pins σ H s->CX X.stack H s E e a->X.xe e a
section
variable{X:Cx}{CX:CXT}{k:Nat}{f C:Ub}{fd:FuncData}{ps:Tb}{sp:Sp}{dvs:Tc}{ds:T5}{E:XK}{x m:Str}{p pos apos:Pos}{e o:Uc}{es:T8}{ta:TE}{t:TA}
def aJL{σ:St}{H:Hp}{s:Ua}{vs:Tc}(F:pO X.prog X.w X.K X.mg X.base CX k f fd ps sp q)(c:cG k X.A q)(d:Binds X.K fd ps ds)(hd:bG dvs ds)(hx:OZ CX X E)
 (I:Inv X pins σ H s) (r:bG vs us) (h:sp (vs++dvs) H Q E):wpAny (model X.prog X.w) X.A (call (.ref f) us) (EP X pins σ Q) X.xe s:=by
 have b:=r.append hd;have g:(us++ds).length=ps.length:=by rw[<- b.length];exact F.len _ _ _ _ h
 refine wpAny_call (A0u (F.run X.A X.stack s H ⟨us,[]⟩ (us++ds) (vs++dvs) Q E c I.env0 (d s us I.kIn g) b h) fun r i a=>?_);cases r with
 |error e=>exact hx pins σ H s e i I a
 |ok fl=>
  cases fl with
  |ret u=>exact I.after a
  |next=>exact False.elim a
  |brk=>exact False.elim a
  |cont=>exact False.elim a
def RO{q:Bool}(F:pO X.prog X.w X.K X.mg X.base CX k f fd ps sp q)(d:cG k X.A q)(g:Gl X x)(hm:X.mg x=Z (.ref f))(i:W.keepIn X.K (.ref f)=true)(j:Binds X.K fd ps ds)(hd:bG dvs ds)(hx:OZ CX X E)
 (ha:PA X (e::es) t) (a:(x==("__debug__":Str))=false:=by decide) (l:starEach (e::es) X.env=(false,eval e X.env)::starEach es X.env:=by rfl) (b:(backTo pos<|starEach es X.env).any (·.1)=false:=by rfl):
 PE X (.Call (.Name x p) (e::es) [] pos) (RK sp dvs E t):=by
 intro pins s σ H Q I h;refine Z7<|qF I g hm ?_ a;refine W.callWith_K I.ok.mod.kin i (thn (ha pos pins s σ H _ I h) fun us s1 ⟨vs,n,c,r,q⟩=>⟨c.kIn,?_⟩) l b;exact aJL F d j hd hx c r q
end
structure aR(N P:Tb)(sc:Scope):Prop where
 kind:sc.kind=.function
 co:sc.isCoroutine=false
 gen:sc.isGenerator=false
 nd:N.Nodup
 pre:N.take P.length=P
 par:∀x∈P,sc.names.lookup x=Z .local\/sc.names.lookup x=Z .cell
 nofree:∀y∈sc.names,y.2≠.free
theorem FP{kindOf:Tq}{x:Str}:∀{binds:Tt}{m:Str->Tf},(∀v,(x,v)∉binds)->bindL kindOf binds m x=m x
 |[],_=>fun _=>rfl
 |(n,v)::r,m=>fun h=>by
  unfold bindL;rw[FP fun w a=>h w<|A8 _ a];split
  .have:x≠n:=by grind
   simp[this]
  .rfl
theorem GP{kindOf:Tq}{x:Str}:∀{binds:Tt}{m:Str->Tf},(∀v,(x,v)∉binds)->bindC kindOf binds m x=m x
 |[],_=>fun _=>rfl
 |(n,v)::r,m=>fun h=>by
  unfold bindC;rw[GP fun w a=>h w<|A8 _ a];split
  .rfl
  .have:x≠n:=by grind
   simp[this]
theorem EU{kindOf:Tq}{x:Str}{v:Tx}:∀{P:Tb}{vs:T5}{i:Nat}{m:Str->Tf},P.Nodup->P[i]?=Z x->vs[i]?=Z v->kindOf x=Z .local->
 bindL kindOf (P.zip vs) m x=Z v
 |[],_,_,_=>fun _ h _ _=>by simp at h
 |_::_,[],_,_=>fun _ _ h _=>by simp at h
 |p::P,w::vs,0,m=>fun nd a b c=>by
  simp at a b;subst a;subst b;show bindL kindOf ((p,w)::P.zip vs) m p=_;unfold bindL;rw[FP fun v d=>(List.nodup_cons.mp nd).1 (List.of_mem_zip d).1,A4 c];simp
 |p::P,w::vs,i+1,m=>fun nd a b c=>by
  unfold bindL;exact EU (List.nodup_cons.mp nd).2 (by assumption) (by grind) c
theorem GN{kindOf:Tq}{x:Str}{v:Tx}:∀{P:Tb}{vs:T5}{i:Nat}{m:Str->Tf},P.Nodup->P[i]?=Z x->vs[i]?=Z v->kindOf x≠Z .local->
 bindC kindOf (P.zip vs) m x=Z v
 |[],_,_,_=>fun _ h _ _=>by simp at h
 |_::_,[],_,_=>fun _ _ h _=>by simp at h
 |p::P,w::vs,0,m=>fun nd a b c=>by
  simp at a b;subst a;subst b;show bindC kindOf ((p,w)::P.zip vs) m p=_;unfold bindC;rw[GP fun v d=>(List.nodup_cons.mp nd).1 (List.of_mem_zip d).1,B0 c];simp
 |p::P,w::vs,i+1,m=>fun nd a b c=>by
  unfold bindC;exact GN (List.nodup_cons.mp nd).2 (by assumption) (by grind) c
def start(N:Tb)(vs:Tc):St:=vs.map Z++List.replicate (N.length-vs.length) Y
noncomputable def jG(CX:CXT)(P:Ud)(w:World)(K:Fg)(mg:Str->Tf)(base:Heap)(N:Tb)(qual:Str)(scope:Scope)(f:Ub)(cd:Tx)(A:Ue)(outer:Tv Env)(s:Ua)(H:Hp)(E:XK)(q:Bool:=true):Cx where
 prog:=P
 w:=w
 K:=K
 mg:=mg
 base:=base
 A:=A.deeper<|envOfC qual scope s.heap.objs.size f cd
 N:=N
 s₀:=s
 H₀:=H
 env:=envOfC qual scope s.heap.objs.size f cd
 outer:=outer
 stack:=envOfC qual scope s.heap.objs.size f cd::outer
 ex:=[]
 calm:=q
 fn:=fun _=>true
 pn:=[]
 xe:=fun e s'=>wpAny (model P w) (A.deeper<|envOfC qual scope s.heap.objs.size f cd) (leaving (envOfC qual scope s.heap.objs.size f cd) e) (fun _ s''=>CX outer H s E e s'') (fun e' s''=>CX outer H s E e' s'') s'
def KO{sc:Scope}(h:sc.names.lookup x=Z .cell):∃c,(cellsFrom n sc.names []).lookup x=Z c:=by
 have q:=W.cellsFrom_some sc.names n [] (.inl h);exact Option.isSome_iff_exists.mp q
def WE{P:Ud}{K:Fg}{A:Ue}{s s1:Ua}{H:Hp}{vs:Tc}{q:Bool}
 (S:aR N ps scope) (hd:q=true->A.handled=Y) (g:VX P w K mg base A outer s H) (F:vs.length=ps.length) (r:bG vs us)
 (x:InCallC s s.heap.objs.size (bindL (envOfC qual scope s.heap.objs.size f n).kindOf (ps.zip us) fun _=>Y) (cellsFrom (s.heap.objs.size+1) scope.names []) (bindC (envOfC qual scope s.heap.objs.size f n).kindOf (ps.zip us) fun _=>Y) s1):
 Inv (jG CX P w K mg base N qual scope f n A outer s H E q) [] (start N vs) H s1:=by
 have C:ps.length<=N.length:=by have:=L5 List.length S.pre;rw[Y7]at this;omega
 obtain⟨o,G,rfl,t⟩:=x.done;have j:∀b:Ub,b∉(jG CX P w K mg base N qual scope f n A outer s H E q).ex:=fun b z=>absurd (show b∈([]:Ta)from z) (by simp)
 refine⟨⟨g.mod,S.kind,rfl,rfl,A6 _,fun y z c o d=>?_,fun y hy=>?_,fun y c _ h=>?_,hd,Around.frames_deeper g.frames,.inr ⟨rfl,rfl⟩,fun b z=>absurd z<|j b,g.bs,g.bsz,fun b _ _=>j b,fun b z=>absurd z<|j b,g.funs,g.frf⟩,
  rfl,g.bare,Un.kept t,⟨_,x.toInCall.ns,fun i y v o d I=>?_⟩,fun y c h=>⟨_,x.cell y c h⟩,g.hok.fresh (A6 _),fun y c h=>?_,fun p l=>absurd (show p∈([]:T2)from l) (by simp),g.hok.kept t,?_⟩
 .exact name_of_addr x.apart (F6 o)<|F6 d
 .have hy:=hy;rcases hy with hy|hy
  .exact KO hy
  .exact absurd rfl<|S.nofree _<|F6 hy
 .exact A0z<|x.above y c<|F6 h
 .have hi:i<vs.length:=by
   unfold start at d;by_cases hi:i<vs.length
   .exact hi
   .rw[B4 (by grind)]at d;rw[A0k]at d;split at d<;>cases d
  have ha:vs[i]?=Z v:=by
   unfold start at d;rw[E5 (by grind),D0]at d;cases e:vs[i]? with
   |none=>rw[e]at d;cases d
   |some a=>rw[e]at d;cases d;rfl
  obtain⟨u,B,D⟩:=r.get ha
  have l:ps[i]?=Z y:=by
   rw[<- S.pre,Y4 (by omega)];exact o
  have m:ps.Nodup:=by rw[<- S.pre];exact S.nd.sublist<|List.take_sublist _ _
  refine⟨u,D,?_⟩;rcases S.par y (L8 l)with k|k
  .exact .inl ⟨k,EU m l B k⟩
  .obtain⟨c,e⟩:=KO k;refine .inr ⟨.inl k,c,e,?_⟩;have q:=x.cell y c e;rw[GN m l B (by show scope.names.lookup y≠_;rw[k];decide)]at q;exact q
 .exact g.hok.fresh<|A0z<|x.above y c<|F6 h
 .unfold start;show _=N.length;rw[B1,A3,List.length_replicate];omega
def aBc{P:Ud}{K:Fg}{k:Nat}{B kV doc oc:Tx}{od:Th}
 {osl:Array (Tf)} {ps:Tb} {A:Ue} {s:Ua} {H:Hp} {vs:Tc} {Q:VK} (D:K.lookup f=Z ⟨oc,od,.func (W.fnOf name qual a c scope B kV doc pm an cdv ct),osl⟩) (l:W.codeIn K cdv qual=true) (S:aR N ps scope)
 (F:vs.length=ps.length) (C:cG (k+1) A q) (i:VX P w K mg base A outer s H) (G:BindsTo s (W.fnOf name qual a c scope B kV doc pm an cdv ct) args (ps.zip us)) (r:bG vs us)
 (g:∃t,PSs (jG CX P w K mg base N qual scope f cdv A outer s H E q) c t/\t { nx:=fun _ H'=>Q .non H',rt:=Q } (start N vs) H):codeAny (model P w) A (.call (.ref f) args) (CR CX outer P w H s Q E) s:=by
 have KX:K.In s.heap:=i.mod.kin.keeps fun b o e=>(i.bs b o e).1;have m:s.heap.NoLimit:=i.mod.nolimit.keeps fun b o e=>(i.bs b o e).1
 have h:∀y∈ps.zip us,scope.names.lookup y.1=Z .local\/(scope.names.lookup y.1=Z .cell/\((cellsFrom (s.heap.objs.size+1) scope.names []).lookup y.1).isSome=true):=fun⟨n,v⟩ hy=>by
  rcases S.par n (List.of_mem_zip hy).1 with q|q
  .exact .inl q
  .exact .inr ⟨q,W.cellsFrom_some _ _ _ (.inl q)⟩
 refine codeAny_call_function C.depth (KX _ _ D) rfl S.co S.gen rfl (W.codeRec_of KX l)<|G _ _ _ _ ?_;refine wpAny_newFunctionEnv_cells S.kind h fun env L s1 x=>?_;subst L;refine⟨m.keeps x.toInCall.keep,codeAny_func ?_⟩;obtain⟨t,ht,M⟩:=g;have I:Inv (jG CX P w K mg base N qual scope f cdv A outer s H E q) [] (start N vs) H s1:=WE S C.hd i F r x;refine E2 (ht [] s1 (start N vs) H _ I M) (fun fl p hs=>?_) fun e p hs=>hs
 have j:∀{d:St}{H':Hp}{v:V}{u:Tx},Inv (jG CX P w K mg base N qual scope f cdv A outer s H E q) [] d H' p->RelV v u->Q v H'->CE outer P w H s Q u p:=
  fun{d H' v u} J z q=>⟨v,H',J.os,J.bare,J.base,J.hok,z,q⟩
 cases fl with
 |ret u=>
  obtain⟨v,d,H',J,z,q⟩:=hs;exact j J z q
 |next=>
  obtain⟨d,H',J,q⟩:=hs;exact j (v:=V.non) (u:=Value.none) J rfl q
 |brk=>
  obtain⟨_,_,_,q⟩:=hs;exact False.elim q
 |cont=>
  obtain⟨_,_,_,q⟩:=hs;exact False.elim q
def aFM{P:Ud}{K:Fg}{kV doc oc:Tx}{od:Th}
 {osl:Array (Tf)} {sp:Sp} {q:Bool} (i:K.lookup f=Z ⟨oc,od,.func (W.fnOf name qual a b scope g kV doc pm an cdv ct),osl⟩) (e:W.codeIn K cdv qual=true) (S:aR N ps scope)
 (len:∀vs H Q E,sp vs H Q E->vs.length=ps.length)
 (c:∀(A:Ue)(outer:Tv Env)(s:Ua)(H:Hp)(vs:Tc)(Q:VK)(E:XK),cG k (A.deeper<|envOfC qual scope s.heap.objs.size f cdv) q->sp vs H Q E->
  ∃t,PSs (jG CX P w K mg base N qual scope f cdv A outer s H E q) b t/\t { nx:=fun _ H'=>Q .non H',rt:=Q } (start N vs) H):
 pO P w K mg base CX (k+1) f (W.fnOf name qual a b scope g kV doc pm an cdv ct) ps sp q:=by
 refine⟨len,fun A outer s H args us vs Q E h j l r d=>?_⟩;exact aBc i e S (len _ _ _ _ d) h j l r<|c A outer s H vs Q E (h.deeper _) d
section
variable{X:Cx}{x:Str}{p pos:Pos}{e:Uc}{es:T8}{t:TA}{id T:String}{r:Tc->Hp->VK->Prop}
noncomputable def tCB(r:Tc->Hp->VK->Prop)(t:TA):TE:=fun σ H Q=>t σ H fun vs a=>r vs a Q
def wQ(c:fR X (.builtin id) r)(d:Gl X x)(hm:X.mg x=Y)(f:bootBuiltins x=Z (.builtin id))(ha:PA X (e::es) t)(hn:x≠"__name__":=by decide)(a:(x==("__debug__":Str))=false:=by decide)
 (g:starEach (e::es) X.env=(false,eval e X.env)::starEach es X.env:=by rfl) (b:(backTo pos<|starEach es X.env).any (·.1)=false:=by rfl):PE X (.Call (.Name x p) (e::es) [] pos) (tCB r t):=by
 intro pins s σ H Q I h;refine Z7<|sJ I d hm f ?_ hn a;exact PyProof.Rows.callWith_builtin1 (thn (ha pos pins s σ H _ I h) fun us s1 ⟨vs,i,j,k,l⟩=>c pins s1 σ i vs us Q j k l) g b
def XG(c:fR X (.type T) r)(d:Gl X x)(hm:X.mg x=Y)(f:bootBuiltins x=Z (.type T))(ha:PA X (e::es) t)(hn:x≠"__name__":=by decide)(a:(x==("__debug__":Str))=false:=by decide)
 (g:starEach (e::es) X.env=(false,eval e X.env)::starEach es X.env:=by rfl) (b:(backTo pos<|starEach es X.env).any (·.1)=false:=by rfl):PE X (.Call (.Name x p) (e::es) [] pos) (tCB r t):=by
 intro pins s σ H Q I h;refine Z7<|sJ I d hm f ?_ hn a;exact U2 (thn (ha pos pins s σ H _ I h) fun us s1 ⟨vs,i,j,k,l⟩=>c pins s1 σ i vs us Q j k l) g b
end
end L2
namespace HT
open PySem PyProof.Rows
noncomputable def lexLt:T7->T7->Bool
 |[],[]=>false
 |[],_::_=>true
 |_::_,[]=>false
 |x::xs,y::a=>if x=y then lexLt xs a else decide (x<y)
def lexLt_cons(x y:Int)(xs ys:T7):lexLt (x::xs) (y::ys)=if x=y then lexLt xs ys else decide (x<y):=rfl
def lexLt_nil_nil:lexLt [] []=false:=rfl
def lexLt_nil_cons(y:Int)(ys:T7):lexLt [] (y::ys)=true:=rfl
def lexLt_cons_nil(x:Int)(xs:T7):lexLt (x::xs) []=false:=rfl
def aAU(A:Ue)(s:Ua)(a:Int)(t:Tok)(c:Int)(u:Tok):∃e,SeqAt.EqAt A s (.int a t) (.int c u) e/\(e=true↔a=c):=
 ⟨(a==c),SeqAt.EqAt.int_int a t c u,by simp⟩
def rcLt_int(A:Ue)(s:Ua)(a:Int)(t:Tok)(c:Int)(u:Tok)(prog:Ud)(w:World)(E:T0)(Q:T0)(h:Q (.bool (decide (a<c))) s):
 wpAny (model prog w) A (richCompare .Lt (.int a t) (.int c u)) Q E s:=
 (PyProof.Rows.lt_int h:wpAny (model prog w) A (compareOp .Lt (.int a t) (.int c u)) Q E s)
section
open PySem.SeqAt
open PySem.AutoSeq1 (wpAny_loadPart')
open PySem.MeetsSeq PySem.MeetsSeq2 PySem.MeetsSeq3
def EA(l b:Ub)(items f:Ti)(n N:Nat)(dd H:Th)(sl sl2:Array (Tf))(E ms:T7)(hi:IntsAre items.toList E)(L:IntsAre f.toList ms):
 Meets (Builtin.«tuple.__lt__» ⟨[.ref l,.ref b],[]⟩)
  (fun _ R s=>s.heap.get? l=Z { cls:=.type "tuple",dict:=dd,data:=.seq items n,slots:=sl }/\s.heap.get? b=Z { cls:=.type "tuple",dict:=H,data:=.seq f N,slots:=sl2 } /\
   R (.ok (.ret (.bool (lexLt E ms)))) s):=
 .of_wp fun prog w A R s h=>by
  obtain⟨F,g,d,G,os⟩:=s;obtain⟨O,P,h⟩:=h;have f2:=AutoSeq1.sub_tuple_tuple;have T:items.size=E.length:=by rw[<- hi.length];simp
  have U:f.size=ms.length:=by rw[<- L.length];simp
  wp_walk using S8 O,S8 P,wpAny_forIn_list _ (fun rest b I=>b.1=Y/\I=⟨F,g,d,G,os⟩/\∃(vs ws:T5)(j k:T7),rest=vs.zip ws /\
   IntsAre vs j/\IntsAre ws k/\j.length+f.size=k.length+items.size/\R (.ok (.ret (.bool (lexLt j k)))) ⟨F,g,d,G,os⟩) _
  case turn=>
   rintro⟨y,x⟩ rest b I ⟨B,rfl,vs,ws,j,k,r,v,m,i,o⟩;cases v with
   |nil=>rw[List.zip_nil_left]at r;cases r
   |cons a t C=>
    cases m with
    |nil=>rw[List.zip_nil_right]at r;cases r
    |cons c u D=>
     injection r with J z
     injection J with hy hx
     subst hy hx;rw[lexLt_cons]at o;simp only[List.length_cons]at i;obtain⟨e,Q,p⟩:=aAU A.in1 ⟨F,g,d,G,os⟩ a t c u;refine A0<|Q prog w _ _ ?_;cases e with
     |true=>
      rw[A4 (p.mp rfl)]at o
      wp_walk
      exact⟨rfl,rfl,_,_,_,_,z,C,D,by omega,o⟩
     |false=>
      rw[B0 fun q=>absurd (p.mpr q) B5]at o;have K:=rcLt_int A.in1 ⟨F,g,d,G,os⟩ a t c u prog w
      wp_walk using K
      exact⟨_,rfl,by simpa using o⟩
  case fin=>
   rintro⟨V,W⟩ I ⟨B,rfl,vs,ws,j,k,r,v,m,i,o⟩;subst B
   have M:lexLt j k=decide (items.size<f.size):=by
    cases v with
    |nil=>
     cases m with
     |nil=>
      exact(C4 (by omega)).symm
     |cons c u S=>
      simp only[List.length_nil,List.length_cons]at i;exact(B9 (by omega)).symm
    |cons a t M=>
     cases m with
     |nil=>
      simp only[List.length_nil,List.length_cons]at i;exact(C4 (by omega)).symm
     |cons c u S=>
      cases r
   rw[M]at o
   wp_walk
   exact⟨_,rfl,by simpa[Builtin.Tuple.tupleCompareSizes]using o⟩
  case h=>
   exact⟨rfl,rfl,items.toList,f.toList,E,ms,rfl,hi,L,by omega,h⟩
end
section
variable{prog:Ud}{w:World}{A:Ue}{E:T0}{s:Ua}
def lt_tupInts{Q:T0}(k:IsTup s.heap l items)(m:IsTup s.heap b a)(hi:IntsAre items.toList c)(o:IntsAre a.toList ms)
 (p:A.units<cLine) (h:Q (.bool (lexLt c ms)) s):wpAny (model prog w) A (compareOp .Lt (.ref l) (.ref b)) Q E s:=by
 obtain⟨⟨cls,q,data,sl⟩,i,r,n,hd⟩:=id k;obtain⟨⟨j,e,data2,sl2⟩,d,f,t,g⟩:=id m;subst r hd f g
 exact richCompare_meets_room (op:=.Lt) ⟨_,i,rfl⟩ ⟨_,d,rfl⟩ F.slot_tuple_lt F.entry_tuple_lt (F.args_tuple_lt_2 _ _) (EA l b items a n t q e sl sl2 c ms hi o)
  ⟨i,d,show Value.bool (lexLt c ms)≠Value.notImplemented/\Q (.bool (lexLt c ms)) s from⟨(fun x=>nomatch x),h⟩⟩ p
def cat_tup{vs ws:T5}{Q:T0}(ht:IsTup s.heap t vs.toArray)(l:IsTup s.heap b ws.toArray)(r:vs≠[])
 (m:ws=[]->Q (.ref t) s) (o:ws≠[]->Q (.ref s.heap.objs.size) { s with heap:=s.heap.push { cls:=.type "tuple",data:=.seq (vs++ws).toArray } })
 (p:vs.length+ws.length<=sizeLine):wpAny (model prog w) A (binaryOp .Add (.ref t) (.ref b)) Q E s:=by
 obtain⟨⟨cls,i,data,sl⟩,d,q,n,hd⟩:=id ht;obtain⟨⟨j,c,data2,sl2⟩,a,f,k,g⟩:=id l;subst q hd f g;have e:vs.toArray++ws.toArray=(vs++ws).toArray:=by simp
 by_cases h:ws=[]
 .exact concat_meets ⟨_,d,rfl⟩ ⟨_,a,rfl⟩ noFill_tuple_add seq_tuple_add F.slot_tuple_add F.entry_tuple_add (F.args_tuple_add_2 _ _)
   (tuple_addW1 t b vs.toArray ws.toArray n k i c sl sl2 (by grind) (by simp[h])) ⟨d,a,m h⟩
 .refine concat_meets ⟨_,d,rfl⟩ ⟨_,a,rfl⟩ noFill_tuple_add seq_tuple_add F.slot_tuple_add F.entry_tuple_add (F.args_tuple_add_2 _ _)
   (tuple_addW2 t b vs.toArray ws.toArray n k i c sl sl2 (by grind) (by grind) (by omega)) ⟨d,a,?_⟩
  rw[e];exact o h
def sIx(n d:Nat):Tk->Nat
 |none=>d
 |some v=>if v<0 then(v+(n:Int)).toNat else min v.toNat n
def sIx_none(n d:Nat):sIx n d Y=d:=rfl
def sIx_nat(n d k:Nat):sIx n d (Z (k:Int))=min k n:=rfl
def sIx_le(n d:Nat)(hd:d<=n)(o:Tk):sIx n d o<=n:=by
 cases o with
 |none=>exact hd
 |some v=>
  show(if v<0 then(v+(n:Int)).toNat else min v.toNat n)<=n;by_cases a:v<0
  .rw[A4 a];omega
  .rw[B0 a];exact Nat.min_le_right _ _
def QW(v:Int)(n d:Nat):(if v<0 then max (v+(n:Int)) 0 else min v (n:Int))=((sIx n d (Z v):Nat):Int):=by
 show(if v<0 then max (v+(n:Int)) 0 else min v (n:Int))=(((if v<0 then(v+(n:Int)).toNat else min v.toNat n):Nat):Int);by_cases a:v<0
 .simp only[if_pos a];omega
 .simp only[if_neg a];omega
def OH(lo hi:Tk)(n:Nat):Builtin.Slice.sliceAdjust lo hi 1 (n:Int)=(((sIx n 0 lo:Nat):Int),((sIx n n hi:Nat):Int)):=by
 have a:¬((1:Int)<0):=by omega
 unfold Builtin.Slice.sliceAdjust;refine Prod.ext ?_ ?_
 .cases lo with
  |none=>rfl
  |some v=>exact QW v n 0
 .cases hi with
  |none=>rfl
  |some v=>exact QW v n n
def PH(i j:Nat):Builtin.Slice.slicePlaces (i:Int) (j:Int) 1=j-i:=by
 unfold Builtin.Slice.slicePlaces;split<;>omega
def DD{Q:Tk->Ua->Prop}(p:IsPart v o)(h:Q o s):wpAny (model prog w) A (Builtin.Slice.slicePartIndex v) Q E s:=by
 cases p with
 |none=>exact slicePart_none h
 |int i t=>exact slicePart_int h
def oX{lo:Tk}{n:Nat}{Q:Int×Int×Nat->Ua->Prop}(hs:s.heap.IsSliceOf sl vl c .none)(d:IsPart vl lo)(e:IsPart c hi)
 (h:Q (((sIx n 0 lo:Nat):Int),1,sIx n n hi-sIx n 0 lo) s):wpAny (model prog w) A (Builtin.Slice.sliceApplied (.ref sl)<|pure (n:Int)) Q E s:=by
 obtain⟨os,a,f,b⟩:=id hs;refine A0<|A0<|E1 a b rfl<|A0<|E1 a b rfl<|A0<|E1 a b rfl<|B2 ?_;refine A0<|slicePart_none ?_;refine A0<|DD d<|A0<|DD e<|A0<|B2 ?_;show wpAny _ _ (match Builtin.Slice.sliceAdjust lo hi 1 (n:Int)with|(lo,hi)=>pure (lo,(1:Int),Builtin.Slice.slicePlaces lo hi 1)) _ _ s;rw[OH lo hi n];show wpAny _ _ (pure (((sIx n 0 lo:Nat):Int),(1:Int),Builtin.Slice.slicePlaces ((sIx n 0 lo:Nat):Int) ((sIx n n hi:Nat):Int) 1)) _ _ s;rw[PH];exact B2 h
def aBn(xs:Ti)(i k:Nat):((List.range k).filterMap fun(m:Nat)=>xs[((i:Int)+(m:Int)*1).toNat]?).toArray=((xs.toList.drop i).take k).toArray:=by
 have e:(fun(m:Nat)=>xs[((i:Int)+(m:Int)*1).toNat]?)=fun m=>xs[i+m]?:=by
  funext m;have:((i:Int)+(m:Int)*1).toNat=i+m:=by omega
  rw[this]
 rw[e];have:=pick_run xs i k;rw[List.filterMap_map]at this;have a:((fun x=>xs[x]?) ∘ fun x=>i+x)=fun m=>xs[i+m]?:=rfl;rw[a]at this;rw[this]
def getItem_tuple_cut{lo:Tk}{Q:T0}(ht:IsTup s.heap t items)(hs:s.heap.IsSliceOf sl vl f .none)(g:IsPart vl lo)(i:IsPart f hi)
 (j:¬(sIx items.size 0 lo=0/\sIx items.size items.size hi=items.size))
 (h:Q (.ref s.heap.objs.size) { s with heap:=s.heap.push { cls:=.type "tuple",data:=.seq ((items.toList.drop<|sIx items.size 0 lo).take (sIx items.size items.size hi-sIx items.size 0 lo)).toArray } })
 (k:items.size<=sizeLine):wpAny (model prog w) A (getItem (.ref t) (.ref sl)) Q E s:=by
 have a:sizeOk (.seq ((items.toList.drop<|sIx items.size 0 lo).take (sIx items.size items.size hi-sIx items.size 0 lo)).toArray):=by
  show((items.toList.drop<|sIx items.size 0 lo).take (sIx items.size items.size hi-sIx items.size 0 lo)).toArray.size<=sizeLine;rw[D6,Y7,List.length_drop,Array.length_toList];omega
 obtain⟨os,b,c,l⟩:=id hs;have d:s.TypeIs (.ref sl) "slice":=⟨os,b,c⟩;unfold getItem
 try with_reducible refine E8 ?_
 first|refine A0 (B2 ?_)|skip
 refine A0<|wpAny_sequenceKey ht.typeIs (by decide) ?_
 refine A0 (F7 ht.typeIs Y5
  (O7 Y5 ht.typeIs entry_tuple_getitem ?_ (args_tuple_getitem _ _)))
 show wpAny _ _ (Builtin.Tuple.tupleItemsOf (.ref t) >>= _) _ _ s;refine A0<|tupleItemsOf_ ht ?_;refine A0<|wpAny_typeOf d ?_;refine A0<|oX hs g i ?_
 have e:¬((((sIx items.size 0 lo:Nat):Int)==0&&(1:Int)==1&&(sIx items.size items.size hi-sIx items.size 0 lo)==items.size)=true):=by
  intro q;rw[B8,B8]at q;have m:=eq_of_beq q.1.1;have n:=eq_of_beq q.2;exact j ⟨by omega,by omega⟩
 show wpAny _ _ (if (((sIx items.size 0 lo:Nat):Int)==0&&(1:Int)==1&&(sIx items.size items.size hi-sIx items.size 0 lo)==items.size)=true then _ else _) _ _ s;rw[B0 e,aBn]
 first
  |exact A0<|I0 (B2 ⟨_,rfl,B2 h⟩) a
  |exact A0<|I0 (A0<|B2<|B2 ⟨_,rfl,B2 h⟩) a
  |exact A0<|A0<|I0 (B2<|B2 ⟨_,rfl,B2 h⟩) a
  |exact A0<|A0<|I0 (B2 ⟨_,rfl,B2 h⟩) a
end
end HT
namespace L2
variable{H:Hp}{σ:St}{s:Ua}{pos:Pos}
open PySem PySem.Spec PyProof.Rows
abbrev TO:=St->Hp->(Tk->Hp->Prop)->Prop
def PO(X:Cx)(e:Tw Uc)(t:TO):Prop:=
 ∀(pins:T2)(s:Ua)(σ:St)(H:Hp)(Q:Tk->Hp->Prop),Inv X pins σ H s->t σ H Q->
  wpAny (model X.prog X.w) X.A (evalPart e X.env) (fun u a=>∃o H',Inv X pins σ H' a/\IsPart u o/\Q o H') X.xe s
def UD:TO:=fun _ H Q=>Q Y H
def aGc(t:TE):TO:=fun σ H Q=>t σ H fun x a=>∃i,x=.int i/\Q (Z i) a
section
variable{X:Cx}{e:Uc}{te:TE}{lo hi:Tw Uc}{tl th:TO}{pos p2:Pos}
def aEk:PO X Y UD:=by
 intro pins s σ H Q I h;exact B2 ⟨Y,H,I,.none,h⟩
def aEF(h:PE X e te):PO X (Z e) (aGc te):=by
 intro pins s σ H Q I a;refine thn (h pins s σ H _ I a) fun u s1 ⟨x,b,c,d,f⟩=>?_;obtain⟨i,rfl,q⟩:=f;obtain⟨t,rfl⟩:=d;exact⟨Z i,b,c,.int i t,q⟩
def SlR(X:Cx)(r:V->Tk->Tk->Hp->VK->Prop):Prop:=
 ∀(pins:T2)(s:Ua)(σ:St)(H:Hp)(x:V)(v vl a:Tx)(lo hi:Tk)(sl:Ub)(Q:VK),Inv X pins σ H s->RelV x v->s.heap.IsSliceOf sl vl a .none->IsPart vl lo->IsPart a hi->r x lo hi H Q->
  ∃T id,typeLookup (.type T) "__getitem__"=pure (Z (.builtin id))/\s.TypeIs v T/\wpAny (model X.prog X.w) X.A (getItem v (.ref sl)) (EP X pins σ Q) X.xe s
def SlR.or(h:SlR X r)(h':SlR X a):SlR X (fun x lo hi H Q=>r x lo hi H Q\/a x lo hi H Q):=by
 intro pins s σ H x v vl b lo hi sl Q I c hs d f q;rcases q with q|q
 .exact h pins s σ H x v vl b lo hi sl Q I c hs d f q
 .exact h' pins s σ H x v vl b lo hi sl Q I c hs d f q
noncomputable def tSl(r:V->Tk->Tk->Hp->VK->Prop)(te:TE)(tl th:TO):TE:=fun σ H Q=>te σ H fun x a=>tl σ a fun l b=>th σ b fun u c=>r x l u c Q
def aAX{r:V->Tk->Tk->Hp->VK->Prop}(d:SlR X r)(f:PE X e te)(g:PO X lo tl)(i:PO X hi th):PE X (.Subscript e (.Slice lo hi Y p2) pos) (tSl r te tl th):=by
 intro pins s σ H Q I h;refine Subscript_ (thn (f pins s σ H _ I h) fun v s1 ⟨x,j,k,m,n⟩=>?_);refine wpAny_Slice (thn (g pins s1 σ j _ k n) fun vl s2 ⟨l,o,p,t,w⟩=>thn (i pins s2 σ o _ p w) fun a s3 ⟨u,c,y,z,A⟩=>?_);refine B2 ?_;have B:Inv X pins σ c { s3 with heap:=s3.heap.push { cls:=.type "slice",data:=.fields #[vl,a,.none] } }:=y.kept fun b ob q=>A2 _ q;obtain⟨T,id,hT,ht,C⟩:=d pins { s3 with heap:=s3.heap.push { cls:=.type "slice",data:=.fields #[vl,a,.none] } } σ c x v vl a l u s3.heap.objs.size Q B m (Heap.IsSliceOf.new ..) t z A;exact tail_any ht hT C rfl
def KQ(xs:Tc)(lo hi:Tk):Tc:=(xs.drop<|HT.sIx xs.length 0 lo).take (HT.sIx xs.length xs.length hi-HT.sIx xs.length 0 lo)
def yL(xs:Tc)(lo hi:Tk):(KQ xs lo hi).length<=xs.length:=by
 unfold KQ;rw[Y7,List.length_drop];omega
def aLt(K:Fg):V->Tk->Tk->Hp->VK->Prop:=fun x lo hi H Q=>∃a xs,x=.ref a/\SqT K H a xs /\
 ¬(HT.sIx xs.length 0 lo=0/\HT.sIx xs.length xs.length hi=xs.length)/\∀p,H p=Y->Q (.ref p) (upd H p (.tup (KQ xs lo hi)))
def sl_tup:SlR X (aLt X.K):=by
 intro pins s σ H x v vl j lo hi sl Q I d hs f g h;obtain⟨a,xs,rfl,hx,k,q⟩:=h;cases d;obtain⟨its,r,ht,i⟩:=I.tuple hx;have c:its.toArray.size=xs.length:=by rw[D6];exact r.length.symm
 refine⟨"tuple",_,PyProof.Rows.slot_tuple_getitem.lookup,ht.typeIs,?_⟩;refine HT.getItem_tuple_cut ht hs f g (by grind) ?_ (by omega);rw[c];refine⟨.ref s.heap.objs.size,_,I.laid (fun b ob q=>A2 _ q) (A6 _) ?_,rfl,q _<|I.hok.fresh<|A6 _⟩;exact⟨F5 (yL xs lo hi) i,_,(r.drop<|HT.sIx xs.length 0 lo).take (HT.sIx xs.length xs.length hi-HT.sIx xs.length 0 lo),IsTup.new _ _⟩
def aAf(K:Fg):R2:=fun x y H Q=>∃a b xs c,x=.ref a/\y=.ref b/\SqT K H a xs/\SqT K H b c/\xs≠[]/\xs.length+c.length<=sizeLine /\
 (c=[]->Q (.ref a) H)/\(c≠[]->∀p,H p=Y->Q (.ref p) (upd H p (.tup (xs++c))))
def bG.nil_iff(r:bG xs us):us=[]↔xs=[]:=by
 cases r with
 |nil=>simp
 |cons _ _=>simp
def aDW:OpR X (binaryOp .Add) (aAf X.K):=by
 intro pins s σ H x y v u Q I i j h;obtain⟨a,b,xs,o,rfl,rfl,ha,k,hx,f,l,m⟩:=h;cases i;cases j;obtain⟨its,d,n,_⟩:=I.tuple ha;obtain⟨g,c,p2,_⟩:=I.tuple k;refine HT.cat_tup n p2 (fun z=>hx<|d.nil_iff.mp z) (fun z=>⟨.ref a,H,I,rfl,l<|c.nil_iff.mp z⟩) (fun z=>?_) (by rw[<- d.length,<- c.length];exact f);refine⟨.ref s.heap.objs.size,_,I.laid (fun b ob q=>A2 _ q) (A6 _) ?_,rfl,m (fun w=>z<|c.nil_iff.mpr w) _<|I.hok.fresh<|A6 _⟩;exact⟨by rw[B1];exact f,_,d.append c,IsTup.new _ _⟩
end
def ixN(n:Nat)(i:Int):Tg:=if 0<=i then(if i<n then Z i.toNat else Y)else if -(n:Int)<=i then Z (i+n).toNat else Y
def atI{a:Type}(xs:Tv a)(i:Int):Tw a:=(ixN xs.length i).bind fun j=>xs[j]?
def RP{n:Nat}{j:Nat}(h:ixN n i=Z j):seqIndex? i n=Z j/\j<n/\-(n:Int)<=i/\i<n:=by
 unfold ixN at h;by_cases b:0<=i
 .rw[A4 b]at h;by_cases a:i<n
  .rw[A4 a]at h;have e:=D3 h;exact⟨by rw[seqIndex_of b a,e],by omega,by omega,a⟩
  .rw[B0 a]at h;cases h
 .rw[B0 b]at h;by_cases a:-(n:Int)<=i
  .rw[A4 a]at h;have e:=D3 h;exact⟨by rw[seqIndex_neg (by omega) a,e],by omega,a,by omega⟩
  .rw[B0 a]at h;cases h
def HK{a:Type}{xs:Tv a}{v:a}(h:atI xs i=Z v):∃j,seqIndex? i xs.length=Z j/\xs[j]?=Z v/\j<xs.length/\-(xs.length:Int)<=i/\i<xs.length:=by
 unfold atI at h;cases e:ixN xs.length i with
 |none=>rw[e]at h;cases h
 |some j=>
  rw[e]at h;obtain⟨b,c,d,f⟩:=RP e;exact⟨j,b,h,c,d,f⟩
def pY{a:Type}{xs:Tv a}{j:Nat}{v:a}(h:xs[j]?=Z v):atI xs (j:Int)=Z v:=by
 have b:=(List.getElem?_eq_some_iff.mp h).1
 have e:ixN xs.length (j:Int)=Z j:=by
  unfold ixN;rw[A4 (by omega),A4 (by omega)];simp
 unfold atI;rw[e];exact h
def SZ(b:Uc):Prop:=∀o i,subscripted b false o i=operate [o,i] (getItem o i)
def IxR(X:Cx)(r:R2):Prop:=
 ∀(b a:Uc)(pins:T2)(s:Ua)(σ:St)(H:Hp)(x y:V)(v u:Tx)(Q:VK),Inv X pins σ H s->RelV x v->RelV y u->r x y H Q->
  subscripted a false v u=operate [v,u] (getItem v u)->wpAny (model X.prog X.w) X.A (subscriptTail b a v u) (EP X pins σ Q) X.xe s
def MtR(X:Cx)(id:String)(r:V->Tc->Hp->VK->Prop):Prop:=
 ∀(pins:T2)(s:Ua)(σ:St)(H:Hp)(x:V)(xs:Tc)(v:Tx)(us:T5)(Q:VK),Inv X pins σ H s->RelV x v->bG xs us->r x xs H Q->
  wpAny (model X.prog X.w) X.A (call (.builtin id) (v::us)) (EP X pins σ Q) X.xe s
section
variable{X:Cx}{a b:Uc}{ta tb:TE}{pos:Pos}
def IxR.or(h:IxR X r)(h':IxR X e):IxR X (fun x y H Q=>r x y H Q\/e x y H Q):=by
 intro c d pins s σ H x y v u Q I f g q hs;rcases q with q|q
 .exact h c d pins s σ H x y v u Q I f g q hs
 .exact h' c d pins s σ H x y v u Q I f g q hs
def aKJ(c:IxR X r)(ha:PE X a ta)(d:PE X b tb)(hs:SZ b):PE X (.Subscript a b pos) (tOp r ta tb):=by
 intro pins s σ H Q I h;exact Subscript_ (aJl ha d I h fun v u s2 x y e f g i q=>c a b pins s2 σ e x y v u Q f g i q<|hs _ _)
def aLj(K:Fg):R2:=fun x y H Q=>∃p xs i v,x=.ref p/\y=.int i/\SqL K H p xs/\atI xs i=Z v/\Q v H
def aJT(K:Fg):R2:=fun x y H Q=>∃p xs i v,x=.ref p/\y=.int i/\SqT K H p xs/\atI xs i=Z v/\Q v H
def aKd:R2:=fun x y H Q=>∃z i c,x=.str z/\y=.int i/\z.length<=sizeLine/\atI z.cps.toList i=Z c/\Q (.str ⟨#[c]⟩) H
def ix_list:IxR X (aLj X.K):=by
 intro e f pins s σ H x y v u Q I m n h hs;obtain⟨p,xs,i,z,rfl,rfl,o,A,q⟩:=h;cases m;obtain⟨t,rfl⟩:=n;obtain⟨its,r,g,G⟩:=I.list o;obtain⟨j,d,B,J,C,D⟩:=HK A;obtain⟨w,L,k⟩:=r.get B;have E:=r.length;have hn:=CB;have c:EP X pins σ Q w s:=⟨z,H,I,k,q⟩;by_cases l:0<=i
 .have F:i.toNat=j:=by
   rw[seqIndex_of l D]at d;exact D3 d
  exact item_listR g.isList l (by omega) (by grind) c hs
 .have F:(i+(its.toArray.size:Int)).toNat=j:=by
   rw[seqIndex_neg (by omega) C]at d;rw[D6,<- E];exact D3 d
  exact subscriptTail_builtinR g.isList.typeIs slot_list_getitem.lookup
   (wpAny_getItem_list_neg g.isList (by omega) (by grind) (by omega) (by grind) ⟨rfl,c⟩) hs
def ix_tup:IxR X (aJT X.K):=by
 intro c d pins s σ H x y v u Q I k l h hs;obtain⟨p,xs,i,z,rfl,rfl,m,n,q⟩:=h;cases k;obtain⟨t,rfl⟩:=l;obtain⟨its,r,g,C⟩:=I.tuple m;obtain⟨j,o,A,D,E,F⟩:=HK n;obtain⟨w,G,e⟩:=r.get A;have B:=r.length;have hn:=CB;have f:EP X pins σ Q w s:=⟨z,H,I,e,q⟩
 exact subscriptTail_builtinR g.typeIs slot_tuple_getitem.lookup
  (getItem_tuple g (by omega) (by omega) (by rw[D6,<- B];exact o) (by grind) ⟨rfl,f⟩) hs
def aIg:IxR X aKd:=by
 intro d e pins s σ H x y v u Q I f g h hs;obtain⟨z,i,c,rfl,rfl,w,k,q⟩:=h;obtain⟨t,rfl⟩:=f;obtain⟨A,rfl⟩:=g;obtain⟨j,l,B,C,m,n⟩:=HK k;have o:z.cps.toList.length=z.length:=by rfl
 rw[o]at l m n;have hn:=CB
 exact tail_any (typeIs_str s z t) slot_str_getitem.lookup (getItem_str (by
  have p:decide (i < -(2 ^ 63:Int))=false:=C4 (by omega);have r:decide (i>=2 ^ 63)=false:=C4 (by omega);rw[p,r,Bool.or_false]) (by grind) ⟨.str ⟨#[c]⟩,H,I.tok _,⟨_,rfl⟩,q⟩) hs
def rIx(K:Fg):R2:=fun x y H Q=>aLj K x y H Q\/aJT K x y H Q\/aKd x y H Q
def aJg:IxR X (rIx X.K):=ix_list.or<|ix_tup.or aIg
def OC(its:T5)(n j:Nat)(u:Tx):Obj.mapSeq (·.setIfInBounds j u) { cls:=.type "list",data:=.seq its.toArray n }={ cls:=.type "list",data:=.seq (its.set j u).toArray n }:=by
 simp[Obj.mapSeq]
def Inv.lst(I:Inv X pins σ H s)(h:H p=Z (.lst xs)):
 ∃(its:T5)(n:Nat),bG xs its/\s.heap.get? p=Z { cls:=.type "list",data:=.seq its.toArray n }/\xs.length<=sizeLine:=by
 obtain⟨z,its,n,r,e⟩:=I.hok p _ h;exact⟨its,n,r,e,z⟩
def Inv.lstUpd{its its':T5}{f:Obj->Obj}(I:Inv X pins σ H s)(h:H p=Z (.lst xs))
 (g:s.heap.get? p=Z { cls:=.type "list",data:=.seq its.toArray n }) (d:f { cls:=.type "list",data:=.seq its.toArray n }={ cls:=.type "list",data:=.seq its'.toArray c }) (r:bG ys its') (i:ys.length<=sizeLine) (t:Nat):
 Inv X pins σ (upd H p (.lst ys)) { s with heap:=s.heap.update p f,toks:=t }:=by
 have e:(s.heap.update p f).get? p=Z { cls:=.type "list",data:=.seq its'.toArray c }:=by
  rw[S3 f g (by rw[d]<;>rfl),d]
 refine I.write (by rw[h];trivial) (.inl rfl) (fun b u j q=>(O8 _ _<|O0 j).trans q) ⟨_,e⟩ ?_;exact⟨i,its',c,r,e⟩
def aFS:V->V->V->Hp->(Hp->Prop)->Prop:=fun o i v H Q=>∃p xs k j,o=.ref p/\i=.int k/\H p=Z (.lst xs)/\ixN xs.length k=Z j/\Q (upd H p (.lst (xs.set j v)))
def set_list:aIN X aFS:=by
 intro pins s σ H o i v B C u Q I g l m h;obtain⟨p,xs,k,j,rfl,rfl,e,w,q⟩:=h;cases g;obtain⟨t,rfl⟩:=l;obtain⟨its,n,r,d,D⟩:=I.lst e;obtain⟨c,E,x,y⟩:=RP w;have z:=r.length;have hn:=CB
 have F:Inv X pins σ (upd H p (.lst (xs.set j v))) { s with heap:=s.heap.update p (Obj.mapSeq (·.setIfInBounds j u)) }:=
  I.lstUpd e d (OC its n j u) (r.set m j) (by grind) s.toks
 by_cases f:0<=k
 .have A:k.toNat=j:=by
   rw[seqIndex_of f y]at c;exact D3 c
  exact W.ki_setAt d f (by omega) (by grind) (by grind)
 .have A:(k+(its.toArray.size:Int)).toNat=j:=by
   rw[seqIndex_neg (by omega) x]at c;rw[D6,<- z];exact D3 c
  exact W.ki_setBack d (by omega) (by grind) (by omega) (by grind)
def II(lo hi:Tk)(n:Nat):(sliceBounds lo hi Y n).1=((HT.sIx n 0 lo:Nat):Int)/\(sliceBounds lo hi Y n).2.1=((HT.sIx n n hi:Nat):Int)/\(sliceBounds lo hi Y n).2.2=1:=by
 refine⟨?_,?_,rfl⟩
 .cases lo with
  |none=>simp[sliceBounds,HT.sIx]
  |some i=>
   simp only[sliceBounds,HT.sIx,Option.getD_none];by_cases h:i<0
   .simp only[h,if_true]<;>omega
   .simp only[h,if_false]<;>omega
 .cases hi with
  |none=>simp[sliceBounds,HT.sIx]
  |some i=>
   simp only[sliceBounds,HT.sIx,Option.getD_none];by_cases h:i<0
   .simp only[h,if_true]<;>omega
   .simp only[h,if_false]<;>omega
def DQ(its:T5)(lo hi:Tk):slicePick its.toArray lo hi Y=((its.drop<|HT.sIx its.length 0 lo).take (HT.sIx its.length its.length hi-HT.sIx its.length 0 lo)).toArray:=by
 obtain⟨c,d,e⟩:=II lo hi its.toArray.size;unfold slicePick;rw[c,d,e];simp only[sliceRange_one,pick_run]<;>rfl
def aKI(K:Fg):V->Tk->Tk->Hp->VK->Prop:=fun x lo hi H Q=>∃a xs,x=.ref a/\SqL K H a xs/\∀p,H p=Y->Q (.ref p) (upd H p (.lst (KQ xs lo hi)))
def sl_list:SlR X (aKI X.K):=by
 intro pins s σ H x v vl i lo hi sl Q I d hs e f h;obtain⟨a,xs,rfl,hx,q⟩:=h;cases d;obtain⟨its,r,ht,g⟩:=I.list hx;have c:=r.length;refine⟨"list",_,slot_list_getitem.lookup,ht.isList.typeIs,?_⟩;refine wpAny_getItem_list_slice ht.isList hs e f .none (by simp) ?_ (by grind);rw[DQ,<- c];refine⟨.ref s.heap.objs.size,_,I.laid (fun b ob q=>A2 _ q) (A6 _) ?_,rfl,q _<|I.hok.fresh<|A6 _⟩;exact⟨F5 (yL xs lo hi) g,_,0,(r.drop<|HT.sIx xs.length 0 lo).take (HT.sIx xs.length xs.length hi-HT.sIx xs.length 0 lo),C6 _ rfl⟩
def HV:fR X (.builtin "len") (fun xs H Q=>∃p ys,xs=[.ref p]/\(SqL X.K H p ys\/SqT X.K H p ys)/\Q (.int ys.length) H):=by
 intro pins s σ H xs us Q I r h;obtain⟨p,ys,rfl,hq,q⟩:=h;obtain⟨u,rfl,f⟩:=vals1 r;cases f;have hn:=CB;rcases hq with hq|hq
 .obtain⟨its,d,e,g⟩:=I.list hq;have c:=d.length;exact Calls.call_len_list e.isList (by grind) ⟨.int ys.length,H,I.tok _,⟨s.toks+1,by rw[D6,c]⟩,q⟩
 .obtain⟨its,d,e,g⟩:=I.tuple hq;have c:=d.length;exact len_tuple e (by grind) ⟨.int ys.length,H,I.tok _,⟨s.toks+1,by rw[D6,c]⟩,q⟩
def JG:fR X (.type "list") (fun xs H Q=>∃p ys,xs=[.ref p]/\(SqL X.K H p ys\/SqT X.K H p ys)/\∀l,H l=Y->Q (.ref l) (upd H l (.lst ys))):=by
 intro pins s σ H xs us Q I r h;obtain⟨p,ys,rfl,hq,q⟩:=h;obtain⟨u,rfl,m⟩:=vals1 r;cases m
 have d:∀(its:T5),bG ys its->ys.length<=sizeLine->∀(h':Heap)(c':Nat),(∀b o',s.heap.get? b=Z o'->h'.get? b=Z o')->
  h'.get? s.heap.objs.size=Z { cls:=.type "list",dict:=Y,data:=.seq its.toArray c',slots:=#[] }->EP X pins σ Q (.ref s.heap.objs.size) { s with heap:=h' }:=fun its c f h' c' kp e=>
  ⟨.ref s.heap.objs.size,_,I.laid kp (A6 _) (show fM X.prog X.w _ h' _ (.lst ys)from⟨f,its,c',c,e⟩),rfl,q _<|I.hok.fresh<|A6 _⟩
 rcases hq with hq|hq
 .obtain⟨its,c,i,f⟩:=I.list hq;have g:=c.length;obtain⟨o,j,k,n,hd⟩:=i.isList;exact call_list_seq p (.inl rfl) j k hd (fun h' c' kp e=>d its c f h' c' kp e) (by grind)
 .obtain⟨its,c,i,f⟩:=I.tuple hq;have g:=c.length;obtain⟨o,j,k,n,hd⟩:=i;exact call_list_seq p (.inr rfl) j k hd (fun h' c' kp e=>d its c f h' c' kp e) (by grind)
def EB:fR X (.type "tuple") (fun xs H Q=>∃p ys,xs=[.ref p]/\((SqL X.K H p ys/\∀l,H l=Y->Q (.ref l) (upd H l (.tup ys)))\/(SqT X.K H p ys/\Q (.ref p) H))):=by
 intro pins s σ H xs us Q I r h;obtain⟨p,ys,rfl,h⟩:=h;obtain⟨u,rfl,k⟩:=vals1 r;cases k;rcases h with⟨c,q⟩|⟨c,q⟩
 .obtain⟨its,d,f,g⟩:=I.list c;have i:=d.length;refine call_tuple_list f.isList (fun h' kp=>?_) (by grind);have j:=I.kept (t':=s.toks) kp
  have m:Inv X pins σ (upd H h'.objs.size (.tup ys)) { s with heap:=h'.push { cls:=.type "tuple",data:=.seq its.toArray } }:=
   j.laid (fun b o e=>A2 _ e) (A6 _) (⟨g,its,d,IsTup.new _ _⟩)
  exact⟨.ref h'.objs.size,_,m,rfl,q _<|j.hok.fresh<|A6 _⟩
 .obtain⟨its,d,f,g⟩:=I.tuple c;exact call_tuple_same f ⟨.ref p,H,I,rfl,q⟩
def tyV(K:Fg)(T:String)(x:V)(H:Hp):Prop:=match x with
 |.str _=>T="str"
 |.int _=>T="int"
 |.ref p=>(T="list"/\∃xs,SqL K H p xs)\/(T="tuple"/\∃o,K.lookup p=Z o/\o.cls=.type "tuple"/\o.dict=Y) \/
  (T="dict"/\((∃kvs,H p=Z (.dK kvs))\/∃kvs,H p=Z (.dT kvs)))\/(T="set"/\∃S n,H p=Z (.set S n))
 |_=>False
def aAk(I:Inv X pins σ H s)(r:RelV x v)(ty:tyV X.K T x H):
 s.TypeIs v T/\∀a,v=.ref a->∃ob,s.heap.get? a=Z ob/\ob.dict=Y:=by
 cases x with
 |str z=>
  obtain⟨t,rfl⟩:=r;cases ty;exact⟨typeIs_str s z t,fun _ e=>nomatch e⟩
 |int i=>
  obtain⟨t,rfl⟩:=r;cases ty;exact⟨typeIs_int s i t,fun _ e=>nomatch e⟩
 |ref p=>
  cases r;rcases ty with⟨rfl,xs,h⟩|⟨rfl,o,d,j,hd⟩|⟨rfl,d⟩|⟨rfl,S,n,d⟩
  .obtain⟨its,_,g,_⟩:=I.list h;refine⟨g.isList.typeIs,fun a e=>?_⟩;cases e;obtain⟨o,n,e,c,hd,_⟩:=g;exact⟨o,e,hd⟩
  .refine⟨⟨o,I.kIn p o d,j⟩,fun a e=>?_⟩;cases e;exact⟨o,I.kIn _ o d,hd⟩
  .have z:∃o,s.heap.get? p=Z o/\o.ExactDict:=by
    rcases d with⟨kvs,d⟩|⟨kvs,d⟩
    .obtain⟨_,_,_,_,o,_,_,e,ex,_⟩:=I.hok p _ d;exact⟨o,e,ex⟩
    .obtain⟨_,_,_,_,o,_,_,e,ex,_⟩:=I.hok p _ d;exact⟨o,e,ex⟩
   obtain⟨o,e,ex⟩:=z;refine⟨⟨o,e,ex.1⟩,fun a f=>?_⟩;cases f;exact⟨o,e,ex.2.1⟩
  .obtain⟨o,_,_,_,e,ex,_⟩:=I.hok p _ d;refine⟨⟨o,e,ex.1⟩,fun a f=>?_⟩;cases f;exact⟨o,e,ex.2.1⟩
 |_=>exact False.elim ty
noncomputable def aLu(K:Fg)(T:String)(r:V->Tc->Hp->VK->Prop)(to:TE):TE:=fun σ H Q=>to σ H fun x c=>tyV K T x c/\r x [] c Q
noncomputable def tBM(K:Fg)(T:String)(r:V->Tc->Hp->VK->Prop)(to:TE)(t:TA):TE:=fun σ H Q=>to σ H fun x c=>tyV K T x c/\t σ c fun xs d=>r x xs d Q
variable{o e:Uc}{es:T8}{to:TE}{t:TA}{name:Str}{apos cpos:Pos}{T id:String}{r:V->Tc->Hp->VK->Prop}
def aAa(j:PlainAttrs T)(slot:Slot T name id)(f:typeOf (.builtin id)=pure (.type "method_descriptor"))(hm:MtR X id r)(k:PE X o to)
 (c:attributeBase o name X.env (eval o X.env)=eval o X.env:=by rfl) (d:(apos.endLine==cpos.line)=true:=by rfl):PE X (.Call (.Attribute o name apos) [] [] cpos) (aLu X.K T r to):=by
 intro pins s σ H Q I h;refine wpAny_Call_method0_late c d (thn (k pins s σ H _ I h) fun v s1 ⟨x,l,g,i,ty,m⟩=>?_);obtain⟨n,p⟩:=aAk g i ty;exact⟨T,id,j,slot,f,n,p,Calls.callWith_builtin rfl<|PySem.evalArgs_none<|hm pins s1 σ l x [] v [] Q g i .nil m⟩
def aGt(m:PlainAttrs T)(slot:Slot T name id)(i:typeOf (.builtin id)=pure (.type "method_descriptor"))(hm:MtR X id r)(n:PE X o to)(ha:PA X (e::es) t)
 (c:attributeBase o name X.env (eval o X.env)=eval o X.env:=by rfl)
 (f:((backTo cpos<|starEach (e::es) X.env).all (fun x=>!x.1)&&(backToKw cpos<|keywordEach [] X.env).all (fun x=>x.1.isSome)
  && decide ((e::es).length+([]:Tv Keyword).length+(if ([]:Tv Keyword).isEmpty then 0 else 1)<30))=true:=by rfl)
 (d:(apos.endLine==cpos.line)=true:=by rfl) (hs:starEach (e::es) X.env=(false,eval e X.env)::starEach es X.env:=by rfl) (g:(backTo cpos<|starEach es X.env).any (·.1)=false:=by rfl):
 PE X (.Call (.Attribute o name apos) (e::es) [] cpos) (tBM X.K T r to t):=by
 intro pins s σ H Q I h;refine wpAny_Call_method_late c f d rfl (thn (n pins s σ H _ I h) fun v s1 ⟨x,p,j,k,ty,q⟩=>?_);obtain⟨u,w⟩:=aAk j k ty;refine⟨T,id,m,slot,i,u,w,?_⟩;have l:=ha cpos pins s1 σ p _ j q;rw[hs]at l ⊢;refine Calls.callWith_builtin (by grind)<|Calls.evalArgs_plain ?_;exact thn l fun us s2 ⟨vs,y,z,A,B⟩=>hm pins s2 σ y x vs v us Q z k A B
end
def MtM(X:Cx)(id:String)(r:V->Tc->Hp->VK->Prop):Prop:=
 ∀(pins:T2)(s:Ua)(σ:St)(H:Hp)(x:V)(xs:Tc)(v:Tx)(us:T5)(Q:VK),Inv X pins σ H s->RelV x v->bG xs us->r x xs H Q->
  wpAny (model X.prog X.w) X.A (call (.builtin id) (v::us)) (EP X pins σ Q) X.xe s
def bG.one{x:V}{us:T5}(h:bG [x] us):∃u,us=[u]/\RelV x u:=by
 cases h with
 |cons r h=>cases h;exact⟨_,rfl,r⟩
def bG.zero:∀{us:T5},bG [] us->us=[]
 |_,.nil=>rfl
def bG.dropLast(h:bG xs us):bG xs.dropLast us.dropLast:=by
 induction h with
 |nil=>exact .nil
 |cons r t ih=>
  cases t with
  |nil=>exact .nil
  |cons q a=>exact .cons r ih
def bG.reverse(h:bG xs us):bG xs.reverse us.reverse:=by
 induction h with
 |nil=>exact .nil
 |cons r t ih=>rw[Z3,Z3];exact bG.append ih (.cons r .nil)
def OB{a:Type}(l:Tv a):l.eraseIdx (l.length-1)=l.dropLast:=by grind
section
variable{X:Cx}{pins:T2}{σ:St}{H:Hp}{s:Ua}{l b:Ub}{xs ys zs:Tc}
def Inv.lset{its its':T5}{f:Ti->Ti}{t':Nat}(I:Inv X pins σ H s)(a:H l=Z (.lst xs))
 (e:s.heap.get? l=Z { cls:=.type "list",data:=.seq its.toArray n }) (c:f its.toArray=its'.toArray) (d:bG ys its') (g:ys.length<=sizeLine):
 Inv X pins σ (upd H l (.lst ys)) { s with heap:=s.heap.update l<|Obj.mapSeq f,toks:=t' }:=by
 have q:=PySem.IsL.update e f;rw[c]at q;refine I.write (by rw[a];exact trivial) (.inl rfl) (fun j u h i=>(O8 s.heap (Obj.mapSeq f)<|O0 h).trans i) ⟨_,q⟩ ?_;exact⟨g,its',_,d,q⟩
def Inv.lnew{t':Nat}(I:Inv X pins σ H s)(a:bG ys its)(c:ys.length<=sizeLine):
 Inv X pins σ (upd H s.heap.objs.size (.lst ys)) { s with heap:=s.heap.push { cls:=.type "list",data:=.seq its.toArray },toks:=t' }:=
 I.laid (fun _ _ q=>A2 _ q) (A6 _) ⟨c,its,0,a,C6 _ rfl⟩
def Inv.fresh(I:Inv X pins σ H s):H s.heap.objs.size=Y:=I.hok.fresh<|A6 _
def Inv.lstM(I:Inv X pins σ H s)(a:H l=Z (.lst xs)):xs.length<=sizeLine/\∃(its:T5)(n:Nat),bG xs its/\xs.length=its.length/\s.heap.get? l=Z { cls:=.type "list",data:=.seq its.toArray n }:=by
 obtain⟨z,its,n,r,e⟩:=I.hok l _ a;exact⟨z,its,n,r,r.length,e⟩
def aBS{n:Nat}(h:n<=sizeLine):Builtin.List.listTooLong n=false:=by
 unfold Builtin.List.listTooLong;exact C4 (by omega)
end
section
variable{X:Cx}
def SY:V->Tc->Hp->VK->Prop:=fun x vs H Q=>∃l xs y,x=.ref l/\vs=[y]/\H l=Z (.lst xs)/\xs.length<sizeLine/\Q .non (upd H l (.lst (xs++[y])))
def WR:MtM X "list.append" SY:=by
 intro pins s σ H x vs v us Q I b c h;obtain⟨l,xs,y,rfl,rfl,a,f,q⟩:=h;cases b;obtain⟨u,rfl,d⟩:=c.one;obtain⟨z,its,n,r,g,e⟩:=I.lstM a;refine call_meets F.slot_list_append ⟨_,e,rfl⟩ F.entry_list_append (F.args_list_append_2 _ _) (PySem.list_append l its.toArray n u (by grind)) ⟨e,?_⟩;refine⟨.non,_,I.lset a e (by simp) (r.append (.cons d .nil)) ?_,rfl,q⟩;rw[B1,D5];omega
def US:V->Tc->Hp->VK->Prop:=fun x vs H Q=>∃l b xs zs,x=.ref l/\vs=[.ref b]/\H l=Z (.lst xs)/\H b=Z (.lst zs)/\xs.length+zs.length<=sizeLine/\Q .non (upd H l (.lst (xs++zs)))
def VN:MtM X "list.extend" US:=by
 intro pins s σ H x vs v us Q I g i h;obtain⟨l,b,xs,zs,rfl,rfl,f,hB,t,q⟩:=h;cases g;obtain⟨u,rfl,j⟩:=i.one;cases j;obtain⟨z,its,n,r,w,e⟩:=I.lstM f;obtain⟨y,a,k,m,o,p⟩:=I.lstM hB;have d:its.toArray.size+a.toArray.size<=sizeLine:=by rw[D6,D6];omega
 have c:¬(!its.toArray.isEmpty&&Builtin.List.listTooLong (its.toArray.size+a.toArray.size))=true:=by
  rw[aBS d,A0b];exact B5
 refine call_meets F.slot_list_extend ⟨_,e,rfl⟩ F.entry_list_extend (F.args_list_extend_2 _ _)
  (AutoSeq1.list_extend_list_list_0 l its.toArray n b a.toArray k c (by rw[D6];omega) (by omega)) ⟨e,p,?_⟩
 refine⟨.non,_,I.lset (its':=its++a) f e (by simp) (r.append m) ?_,rfl,q⟩;rw[B1];omega
def aLi:V->Tc->Hp->VK->Prop:=fun x vs H Q=>∃l xs y,x=.ref l/\vs=[]/\H l=Z (.lst xs)/\xs[xs.length-1]?=Z y/\Q y (upd H l (.lst xs.dropLast))
def aHN:MtM X "list.pop" aLi:=by
 intro pins s σ H x vs v us Q I d f h;obtain⟨l,xs,y,rfl,rfl,c,hy,q⟩:=h;cases d;have a:=f.zero;subst a;obtain⟨z,its,n,r,g,e⟩:=I.lstM c;obtain⟨u,i,j⟩:=r.get hy
 have b:its.toArray[its.toArray.size-1]?=Z u:=by
  show its.toArray[its.length-1]?=Z u;rw[<- Array.getElem?_toList,<- g];exact i
 refine call_meets F.slot_list_pop ⟨_,e,rfl⟩ F.entry_list_pop (F.args_list_pop_1 _) (MeetsSeq.list_pop_last l its.toArray n u b (by grind)) ⟨e,?_⟩;refine⟨y,_,I.lset c e ?_ r.dropLast ?_,j,q⟩
 .show its.toArray.eraseIdxIfInBounds (its.toArray.size-1)=its.dropLast.toArray;rw[D6,List.eraseIdxIfInBounds_toArray,OB]
 .rw[List.length_dropLast];omega
def NN:V->Tc->Hp->VK->Prop:=fun x vs H Q=>∃l xs,x=.ref l/\vs=[]/\H l=Z (.lst xs)/\Q .non (upd H l (.lst xs.reverse))
def OJ:MtM X "list.reverse" NN:=by
 intro pins s σ H x vs v us Q I c d h;obtain⟨l,xs,rfl,rfl,b,q⟩:=h;cases c;have a:=d.zero;subst a;obtain⟨z,its,n,r,f,e⟩:=I.lstM b;refine call_meets F.slot_list_reverse ⟨_,e,rfl⟩ F.entry_list_reverse (F.args_list_reverse_1 _) (AutoSeq1.list_reverse_list_0 l its.toArray n (by grind)) ⟨e,?_⟩;refine⟨.non,_,I.lset b e (by simp) r.reverse ?_,rfl,q⟩;rw[List.length_reverse];omega
def len_rep{a:Type}(xs:Tv a)(k:Nat):(List.replicate k xs).flatten.length=k*xs.length:=by
 induction k with
 |zero=>simp
 |succ k ih=>rw[Y6,Z4,B1,ih,Nat.succ_mul,Nat.add_comm]
end
section
variable{κ:Type}[DecidableEq κ]
noncomputable def jI(kvs:Tv (κ×V))(k:κ):Tw V:=(kvs.find? fun a=>decide (a.1=k)).map (·.2)
noncomputable def putK(kvs:Tv (κ×V))(k:κ)(v:V):Tv (κ×V):=
 if (kvs.any fun a=>decide (a.1=k))=true then kvs.map (fun a=>if a.1=k then(a.1,v)else a)else kvs++[(k,v)]
def CP{p:κ×V}{r:Tv (κ×V)}{k:κ}(e:p.1=k):jI (p::r) k=Z p.2:=by simp[jI,List.find?_cons,e]
def CG{p:κ×V}{r:Tv (κ×V)}{k:κ}(e:¬p.1=k):jI (p::r) k=jI r k:=by simp[jI,List.find?_cons,e]
theorem BJ(k:κ):∀kvs:Tv (κ×V),(kvs.any fun a=>decide (a.1=k))=(jI kvs k).isSome
 |[]=>rfl
 |p::r=>by
  rw[U5];by_cases e:p.1=k
  .simp only[CP e,decide_eq_true e,Bool.true_or,Option.isSome_some]
  .rw[CG e,C4 e,Bool.false_or];exact BJ k r
def kN(kvs:Tv (κ×V))(k:κ)(v:V):(putK kvs k v).length<=kvs.length+1:=by
 unfold putK;split
 .rw[A3];omega
 .rw[B1,C9,Y0];omega
def ZV{kvs:Tv (κ×V)}{k:κ}(v:V)(h:jI kvs k=Y):putK kvs k v=kvs++[(k,v)]:=by
 unfold putK;rw[BJ,h];exact B0 (by decide)
def EH.isSome_eq(r:EH o u):o.isSome=u.isSome:=by
 cases o with
 |none=>cases u with
  |none=>rfl
  |some _=>exact r.elim
 |some _=>cases u with
  |none=>exact r.elim
  |some _=>rfl
def KV.val{kvs:Tv (κ×V)}(r:KV kvs vs)(k:κ):EH (jI kvs k) (valueAt vs k):=by
 induction r with
 |nil=>exact True.intro
 |@cons p q ps a h t ih=>
  obtain⟨d,f⟩:=h;by_cases e:p.1=k
  .have c:=d.symm.trans e;have b:valueAt (q::a) k=Z q.2:=by simp[valueAt,List.find?_cons,c]
   rw[CP e,b];exact f
  .have c:¬q.1=k:=fun z=>e<|d.trans z;have b:valueAt (q::a) k=valueAt a k:=by simp[valueAt,List.find?_cons,c]
   rw[CG e,b];exact ih
def KV.any{kvs:Tv (κ×V)}(r:KV kvs vs)(k:κ):(kvs.any fun a=>decide (a.1=k))=vs.any fun a=>decide (a.1=k):=by
 induction r with
 |nil=>rfl
 |cons h t ih=>rw[U5,U5,ih,h.1]
def KV.repl{kvs:Tv (κ×V)}(r:KV kvs vs)(k:κ)(c:RelV y u):
 KV (kvs.map fun a=>if a.1=k then(a.1,y)else a) (vs.map fun a=>if a.1=k then(a.1,u)else a):=by
 induction r with
 |nil=>exact .nil
 |@cons p q ps f h t ih=>
  rw[C0,C0];refine .cons ?_ ih;obtain⟨b,d⟩:=h;by_cases e:p.1=k
  .rw[A4 e,A4<|b.symm.trans e];exact⟨b,c⟩
  .rw[B0 e,B0 fun z=>e<|b.trans z];exact⟨b,d⟩
def KV.put{kvs:Tv (κ×V)}(r:KV kvs vs)(k:κ)(a:RelV y u):KV (putK kvs k y) (stored vs k u):=by
 unfold putK stored;rw[r.any k];by_cases e:(vs.any fun b=>decide (b.1=k))=true
 .rw[A4 e,A4 e];exact r.repl k a
 .rw[B0 e,B0 e];exact Paired.snoc r ⟨rfl,a⟩
def KV.keys{kvs:Tv (κ×V)}(r:KV kvs vs):kvs.map (·.1)=vs.map (·.1):=by
 unfold KV at r
 induction r with
 |nil=>rfl
 |cons h t ih=>rw[C0,C0,ih,h.1]
def KV.length{kvs:Tv (κ×V)}(r:KV kvs vs):kvs.length=vs.length:=A1a r
end
def DK{P:Ud}(r:RelV (kV k) u):(dD P w).is k u=true:=by
 cases k with
 |inl i=>obtain⟨t,e⟩:=r;subst e;exact JR P w i t
 |inr x=>obtain⟨t,e⟩:=r;subst e;exact LB P w x t
theorem ET{P:Ud}:∀{ks:Tv Key}{us:T5},bG (ks.map kV) us->ItemsAre (dD P w) ks us
 |[],_=>fun r=>by rw[List.map_nil]at r;cases r;exact .nil
 |k::ks,_=>fun r=>by
  cases r with
  |cons h t=>exact .cons (DK h) (ET t)
abbrev KT(H:Hp):Tv (Tv Key×V)->Tv (Tv Key×Ub×Tx)->Prop:=Paired fun p q=>p.1=q.1/\H q.2.1=Z (.tup (p.1.map kV))/\RelV p.2 q.2.2
def KT.val{kvs:Tv (Tv Key×V)}(r:KT H kvs xs)(k:Tv Key):EH (jI kvs k) ((atKey xs k).map (·.2)):=by
 induction r with
 |nil=>exact True.intro
 |@cons p q ps a h t ih=>
  obtain⟨d,_,f⟩:=h;by_cases e:p.1=k
  .have c:=d.symm.trans e;have b:atKey (q::a) k=Z q.2:=by simp[atKey,List.find?_cons,c]
   rw[CP e,b];exact f
  .have c:¬q.1=k:=fun z=>e<|d.trans z;have b:atKey (q::a) k=atKey a k:=by simp[atKey,List.find?_cons,c]
   rw[CG e,b];exact ih
def KT.repl{kvs:Tv (Tv Key×V)}(r:KT H kvs xs)(k:Tv Key)(d:RelV y u):
 KT H (kvs.map fun b=>if b.1=k then(b.1,y)else b) (xs.map<|putAt k u):=by
 induction r with
 |nil=>exact .nil
 |@cons p q ps g h t ih=>
  rw[C0,C0];refine .cons ?_ ih;obtain⟨a,c,f⟩:=h;unfold putAt;by_cases e:p.1=k
  .rw[A4 e,A4<|a.symm.trans e];exact⟨a,c,d⟩
  .rw[B0 e,B0 fun z=>e<|a.trans z];exact⟨a,c,f⟩
def KT.put{kvs:Tv (Tv Key×V)}(r:KT H kvs xs)(k:Tv Key)(c:H b=Z (.tup (k.map kV)))(a:RelV y u):
 KT H (putK kvs k y) (storedH xs k b u):=by
 have e:(kvs.any fun d=>decide (d.1=k))=(atKey xs k).isSome:=by
  rw[BJ,(r.val k).isSome_eq,Option.isSome_map]
 unfold putK storedH;rw[e];by_cases q:(atKey xs k).isSome=true
 .rw[A4 q,A4 q];exact r.repl k a
 .rw[B0 q,B0 q];exact Paired.snoc r ⟨rfl,c,a⟩
def KT.keeps{H':Hp}{kvs:Tv (Tv Key×V)}(r:KT H kvs xs)(ht:∀b ys,H b=Z (.tup ys)->H' b=Z (.tup ys)):KT H' kvs xs:=
 Paired.mapP r fun _ _ z=>⟨z.1,ht _ _ z.2.1,z.2.2⟩
section
variable{P:Ud}{w:World}{H:Hp}{h:Heap}{a:Ub}
def aGp(ok:HOk P w H h)(e:Rd H a u):fM P w H h a u:=e.ok ok
def NL{kvs:Tv (Key×V)}(ok:HOk P w H h)(e:Rd H a (.dK kvs)):kvs.length<=sizeLine/\(a==sysModules)=false/\∃vs,KV kvs vs/\h.DictOf (dD P w) a vs:=
 show fM P w H h a (.dK kvs)from aGp ok e
def TM{kvs:Tv (Key×V)}(ok:HOk P w H h)(e:H a=Z (.dK kvs)):kvs.length<=sizeLine/\(a==sysModules)=false/\∃vs,KV kvs vs/\h.DictOf (dD P w) a vs:=NL ok (.inl e)
def yB{ks:Tv Key}(ok:HOk P w H h)(e:H a=Z (.tup (ks.map kV))):(tupleKind<|dD P w).is h ks a:=by
 obtain⟨_,its,r,o,b,c,n,d⟩:=(ok a _ e);exact⟨o,its.toArray,n,b,c,d,by simpa using ET r⟩
def NA{kvs:Tv (Tv Key×V)}(ok:HOk P w H h)(e:Rd H a (.dT kvs)):kvs.length<=sizeLine/\(a==sysModules)=false /\
 ∃xs,KT H kvs xs/\h.DictOfH (tupleKind<|dD P w) a xs:=by
 obtain⟨z,y,xs,r,o,es,ep,b,c,d,f,g⟩:=(aGp ok e);refine⟨z,y,xs,r,o,es,ep,b,c,d,f,fun x hx=>?_,g⟩
 have all:∀{l:Tv (Tv Key×V)}{m:Tv (Tv Key×Ub×Tx)},KT H l m->∀x∈m,(tupleKind<|dD P w).is h x.1 x.2.1:=by
  intro l m q
  induction q with
  |nil=>intro x hx;exact nomatch hx
  |@cons p q ps i j t ih=>
   intro x hx;rcases List.mem_cons.mp hx with e|hx
   .subst e;exact yB ok (by grind)
   .exact ih x hx
 exact all r x hx
def aFR{kvs:Tv (Tv Key×V)}(ok:HOk P w H h)(e:H a=Z (.dT kvs)):kvs.length<=sizeLine/\(a==sysModules)=false /\
 ∃xs,KT H kvs xs/\h.DictOfH (tupleKind<|dD P w) a xs:=NA ok (.inl e)
end
def vT(H:Hp)(a:Ub)(y:V)(r:Tw V):Prop:=
 (∃kvs k,Rd H a (.dK kvs)/\y=kV k/\r=jI kvs k)\/∃kvs k b,Rd H a (.dT kvs)/\y=.ref b/\H b=Z (.tup (k.map kV))/\r=jI kvs k
def DL(H:Hp)(a:Ub)(y v:V)(H':Hp):Prop:=
 (∃kvs k,H a=Z (.dK kvs)/\y=kV k/\kvs.length<sizeLine/\H'=upd H a (.dK (putK kvs k v))) \/
 ∃kvs k b,H a=Z (.dT kvs)/\y=.ref b/\H b=Z (.tup (k.map kV))/\kvs.length<sizeLine/\H'=upd H a (.dT (putK kvs k v))
def vT.k{a:Ub}{kvs:Tv (Key×V)}{k:Key}(e:H a=Z (.dK kvs)):vT H a (kV k) (jI kvs k):=.inl ⟨kvs,k,.inl e,rfl,rfl⟩
def vT.t{kvs:Tv (Tv Key×V)}{k:Tv Key}(e:H a=Z (.dT kvs))(c:H b=Z (.tup (k.map kV))):vT H a (.ref b) (jI kvs k):=.inr ⟨kvs,k,b,.inl e,rfl,c,rfl⟩
def DL.k{a:Ub}{kvs:Tv (Key×V)}{k:Key}{v:V}(e:H a=Z (.dK kvs))(b:kvs.length<sizeLine):DL H a (kV k) v (upd H a (.dK (putK kvs k v))):=.inl ⟨kvs,k,e,rfl,b,rfl⟩
def DL.t{kvs:Tv (Tv Key×V)}{k:Tv Key}(e:H a=Z (.dT kvs))(c:H b=Z (.tup (k.map kV)))(d:kvs.length<sizeLine):
 DL H a (.ref b) v (upd H a (.dT (putK kvs k v))):=.inr ⟨kvs,k,b,e,rfl,c,d,rfl⟩
section
variable{X:Cx}{pins:T2}{σ:St}{H:Hp}{s:Ua}{a:Ub}{y v:V}{u r:Tx}{o:Tw V}{A:Ue}{E:T0}
def Inv.big(I:Inv X pins σ H s):sysModules<s.heap.objs.size:=by
 have h:=(I.mod.glob.keeps I.bk).lt;exact Nat.lt_trans (by decide) h
def WG{Q:T0}(x:A.units+1<cLine)(I:Inv X pins σ H s)(g:vT H a y (Z v))(q:RelV y u)(h:∀f t,Inv X pins σ H t->RelV v f->Q f t):
 wpAny (model X.prog X.w) A (getItem (.ref a) u) Q E s:=by
 rcases g with⟨kvs,k,e,i,l⟩|⟨kvs,k,b,e,i,B,l⟩
 .subst i;obtain⟨z,hd,vs,c,j⟩:=NL I.hok e;obtain⟨f,m,d⟩:=EH.some_of (by rw[l];exact c.val k);exact wpAny_getItem_of (DK q) j.mapOf m<|h f _ (I.tok _) d
 .subst i;cases q;obtain⟨z,hd,xs,c,j⟩:=NA I.hok e;obtain⟨f,m,d⟩:=EH.some_of (by rw[l];exact c.val k);obtain⟨p,C,n⟩:=Option.map_eq_some_iff.mp m;refine wpAny_getItem_heap (A1d x) (yB I.hok B) j C ?_;rw[n];exact h f _ (I.tok _) d
def aMo{Q:T0}(m:A.units+1<cLine)(I:Inv X pins σ H s)(g:vT H a y o)(i:RelV y u)(h:∀j,Inv X pins σ H j->Q (.bool o.isSome) j):
 wpAny (model X.prog X.w) A (compareOp .In u (.ref a)) Q E s:=by
 rcases g with⟨kvs,k,e,d,l⟩|⟨kvs,k,b,e,d,n,l⟩
 .subst d;obtain⟨z,hd,vs,c,f⟩:=NL I.hok e;refine wpAny_in_of (DK i) hd f.mapOf ?_;rw[<- (c.val k).isSome_eq,<- l];exact h _<|I.tok _
 .subst d;cases i;obtain⟨z,hd,xs,c,f⟩:=NA I.hok e;refine wpAny_in_heap (A1d m) (yB I.hok n) hd f ?_;have q:=(c.val k).isSome_eq;rw[Option.isSome_map]at q;rw[<- q,<- l];exact h _<|I.tok _
def aEZ{Q:T0}(m:A.units+1<cLine)(I:Inv X pins σ H s)(g:vT H a y o)(i:RelV y u)(h:∀j,Inv X pins σ H j->Q (.bool (!o.isSome)) j):
 wpAny (model X.prog X.w) A (compareOp .NotIn u (.ref a)) Q E s:=by
 rcases g with⟨kvs,k,e,d,l⟩|⟨kvs,k,b,e,d,n,l⟩
 .subst d;obtain⟨z,hd,vs,c,f⟩:=NL I.hok e;refine wpAny_notIn_of (DK i) hd f.mapOf ?_;rw[<- (c.val k).isSome_eq,<- l];exact h _<|I.tok _
 .subst d;cases i;obtain⟨z,hd,xs,c,f⟩:=NA I.hok e;refine wpAny_notIn_heap (A1d m) (yB I.hok n) hd f ?_;have q:=(c.val k).isSome_eq;rw[Option.isSome_map]at q;rw[<- q,<- l];exact h _<|I.tok _
def vL{t':Nat}(I:Inv X pins σ H s)(c:Mut (H a))(hs:Heap.SameBut a s.heap h')(d:∃q,h'.get? a=Z q)(new:fM X.prog X.w (upd H a ob) h' a ob):
 Inv X pins σ (upd H a ob) { s with heap:=h',toks:=t' }:=
 I.write c (.inl rfl) (fun b q e z=>(hs.2 b e).trans z) d new
def NT{P:Ud}{h':Heap}{kvs:Tv (Key×V)}(z:kvs.length<=sizeLine)(hd:(a==sysModules)=false)(b:KV kvs vs)(dd:h'.DictOf (dD P w) a vs):
 fM P w H' h' a (.dK kvs):=⟨z,hd,vs,b,dd⟩
def VQ{Q:Unit->Ua->Prop}(F:A.units+1<cLine)(I:Inv X pins σ H s)(g:DL H a y v H')(t:RelV y u)(x:RelV v r)(h:∀B,Inv X pins σ H' B->Q () B):
 wpAny (model X.prog X.w) A (setItem (.ref a) u r) Q E s:=by
 rcases g with⟨kvs,k,e,j,l,m⟩|⟨kvs,k,b,e,j,C,l,m⟩
 .subst j m;obtain⟨z,hd,vs,d,n⟩:=TM I.hok e;have G:vs.length<=sizeLine:=by rw[<- d.length];exact z
  have p:(putK kvs k v).length<=sizeLine:=by have:=kN kvs k v;omega
  refine wpAny_setItem_pairs (DK t) n fun h' f hs=>h _ ?_;have J:∃q,h'.get? a=Z q:=let⟨q,_,_,i,_⟩:=f;⟨q,i⟩;exact vL I (by rw[e];exact True.intro) hs J<|NT p hd (d.put k x) f
 .subst j m;cases t;obtain⟨z,hd,xs,d,n⟩:=aFR I.hok e;have G:xs.length<=sizeLine:=by rw[<- A1a d];exact z
  have p:(putK kvs k v).length<=sizeLine:=by have:=kN kvs k v;omega
  refine wpAny_setItem_heap (A1d F) (yB I.hok C) n fun h' f hs=>h _ ?_;obtain⟨q,es,ep,i,K,L,M,_,N⟩:=f;refine vL I (by rw[e];exact True.intro) hs ⟨q,i⟩ ⟨p,hd,_,(d.put k C x).keeps fun c O D=>?_,q,es,ep,i,K,L,M,N⟩;rw[aN (yJ D e fun z=>nomatch z)];exact D
end
def aIq(i:Uc):Prop:=∀a b,subscripted i false a b=operate [a,b] (getItem a b)
def aFr{s:Ua}{pos:Pos}{id:String}
 (l:typeLookup (.type T) "__getitem__"=pure (Z (.builtin id))) (hs:aIq a)
 (h:wpAny (model prog w) A (eval b env) (fun o e=>wpAny (model prog w) A (eval a env) (fun i c=>c.TypeIs o T/\wpAny (model prog w) A (getItem o i) Q E c) E e) E s):
 wpAny (model prog w) A (eval (.Subscript b a pos) env) Q E s:=by
 refine Subscript_ (E2 h (fun o e j=>E2 j (fun i c d=>?_) fun _ _ x=>x) fun _ _ x=>x);obtain⟨hT,d⟩:=d;refine A0 ?_;refine A0<|wpAny_specialOf hT l ?_
 have g:wpAny (model prog w) A (subscripted a false o i) (fun r f=>wpAny (model prog w) A (letTemporaryGo b o r >>= fun _=>pure r) Q E f) E c:=by
  rw[hs o i];exact wpAny_operating (E2 d (fun r f k=>A0<|wpAny_letTemporaryGo<|B2 k) fun _ _ x=>x)
 first
  |exact B2<|A0 g
  |exact A0<|B2<|A0 g
  |exact A0 g
def LO(I:Inv X pins σ H s)(g:vT H a y o):s.TypeIs (.ref a) "dict":=by
 rcases g with⟨kvs,k,e,_,_⟩|⟨kvs,k,b,e,_,_,_⟩
 .obtain⟨_,_,vs,_,c⟩:=NL I.hok e;exact c.typeIs
 .obtain⟨_,_,xs,_,c⟩:=NA I.hok e;exact c.typeIs
def aGb(c ty:TE):TE:=fun σ H Q=>c σ H fun x d=>ty σ d fun y b=>∃a v,x=.ref a/\vT b a y (Z v)/\Q v b
noncomputable def aLH(ty c:TE):TE:=fun σ H Q=>ty σ H fun y d=>c σ d fun x b=>∃a o,x=.ref a/\vT b a y o/\Q (.bl o.isSome) b
noncomputable def RJ(ty c:TE):TE:=fun σ H Q=>ty σ H fun y d=>c σ d fun x b=>∃a o,x=.ref a/\vT b a y o/\Q (.bl (!o.isSome)) b
noncomputable def aGa(c ty d:TE):TS:=fun D σ H=>d σ H fun v e=>c σ e fun x f=>ty σ f fun y g=>∃a b,x=.ref a/\DL g a y v b/\D.nx σ b
section
variable{X:Cx}{o i e value:Uc}{pos pos' tpos:Pos}{td ty tv:TE}
def aCU(d:X.A.units+1<cLine)(f:PE X o td)(hi:PE X i ty)(hs:aIq i):PE X (.Subscript o i pos) (aGb td ty):=by
 intro pins s σ H Q I h;refine aFr F.slot_dict_getitem.lookup hs (thn (f pins s σ H _ I h) fun u s1 ⟨x,j,k,l,m⟩=>thn (hi pins s1 σ j _ k m) fun w s2 n=>?_);obtain⟨y,p,c,q,a,v,ex,g,r⟩:=n;subst ex;obtain rfl:=l;exact⟨LO c g,WG d c g q fun z s3 t b=>⟨v,p,t,b,r⟩⟩
def aIh(b:X.A.units+1<cLine)(hi:PE X i ty)(c:PE X o td):PC X .In i o (aLH ty td):=by
 intro pins s σ H Q I h;refine thn (hi pins s σ H _ I h) fun t s1 ⟨y,d,f,j,k⟩=>thn (c pins s1 σ d _ f k) fun u s2 ⟨x,l,m,n,a,p,ex,g,q⟩=>?_;subst ex;obtain rfl:=n;exact aMo b m g j fun s3 r=>⟨.bl p.isSome,l,r,rfl,q⟩
def XA(b:X.A.units+1<cLine)(hi:PE X i ty)(c:PE X o td):PC X .NotIn i o (RJ ty td):=by
 intro pins s σ H Q I h;refine thn (hi pins s σ H _ I h) fun v s1 ⟨y,d,f,j,k⟩=>thn (c pins s1 σ d _ f k) fun u s2 l=>?_;obtain⟨x,m,n,p,a,q,ex,g,r⟩:=l;subst ex;obtain rfl:=p;exact aEZ b n g j fun s3 t=>⟨.bl (!q.isSome),m,t,rfl,r⟩
def aDB(b:X.A.units+1<cLine)(c:PE X o td)(hi:PE X i ty)(d:PE X value tv)(hs:swapsWith value (Z (.Subscript o i pos')) pos.line X.env=pure false):
 PS X (.Assign [.Subscript o i pos'] value pos) (aGa td ty tv):=by
 intro pins s σ H D I h;refine wpAny_Assign_Subscript (thn (d pins s σ H _ I h) fun r s1 ⟨v,f,j,k,l⟩=>thn (c pins s1 σ f _ j l) fun u s2 ⟨x,m,n,p,q⟩=>thn (hi pins s2 σ m _ n q) fun F s3 t=>?_) hs;obtain⟨y,G,w,z,a,B,ex,g,C⟩:=t;subst ex;obtain rfl:=p;exact VQ b w g z k fun s4 E=>⟨σ,B,E,C⟩
end
def BR{P:Ud}(h:Heap)(a:sysModules<h.objs.size):fM P w H (h.push { cls:=.type "dict",data:=.dict #[] }) h.objs.size (.dK []):=
 ⟨E7 _,beq_eq_false_iff_ne.mpr<|O0<|C2 a,[],.nil,Heap.DictOf.new h⟩
def aBd{P:Ud}(h:Heap)(a:sysModules<h.objs.size):fM P w H (h.push { cls:=.type "dict",data:=.dict #[] }) h.objs.size (.dT []):=
 ⟨E7 _,beq_eq_false_iff_ne.mpr<|O0<|C2 a,[],.nil,_,#[],0,C6 _ rfl,⟨rfl,rfl,rfl⟩,rfl,rfl,A0o⟩
def PF:TE:=fun _ H Q=>∀p,H p=Y->Q (.ref p) (upd H p (.dK []))
section
variable{X:Cx}{pos:Pos}
def LF:PE X (.Dict [] [] pos) PF:=fun pins s σ H Q I h=>
 wpAny_Dict_empty ⟨.ref s.heap.objs.size,_,I.laid (fun _ _ q=>A2 _ q) (A6 _)<|BR s.heap I.big,rfl,h _<|I.hok.fresh<|A6 _⟩
end
def IA:Tv (TE×TE)->St->Hp->(Tv (V×V)->Hp->Prop)->Prop
 |[],_,H,Q=>Q [] H
 |(a,b)::r,σ,H,Q=>a σ H fun x c=>b σ c fun y d=>IA r σ d fun ps e=>Q ((x,y)::ps) e
abbrev VV:Tv (V×V)->Tv (Tx×Tx)->Prop:=Paired fun p q=>RelV p.1 q.1/\RelV p.2 q.2
def PPs(X:Cx)(pos:Pos)(keys:Tv (Tw Uc))(a:T8)(b:Tv (TE×TE)):Prop:=
 ∀(pins:T2)(s:Ua)(σ:St)(H:Hp)(Q:Tv (V×V)->Hp->Prop),Inv X pins σ H s->IA b σ H Q->
  wpAny (model X.prog X.w) X.A (evalPairs<|pairTrees keys a X.env pos) (fun vs c=>∃ps H',Inv X pins σ H' c/\VV ps vs/\Q ps H') X.xe s
def aFh:PPs X pos [] [] []:=fun pins s σ H Q I h=>pairTrees_nil_walk ⟨[],H,I,.nil,h⟩
def aBf{v:Uc}{c:TE}(e:PE X k c)(f:PE X v d)(g:PPs X pos ks vs a):
 PPs X pos (Z k::ks) (v::vs) ((c,d)::a):=fun pins s σ H Q I h=>
 pairTrees_cons_walk (thn (e pins s σ H _ I h) fun u s1 ⟨x,i,j,l,m⟩=>thn (f pins s1 σ i _ j m) fun z s2 ⟨y,n,o,p,q⟩=>
  thn (g pins s2 σ n _ o q) fun ws s3 ⟨ps,r,t,b,w⟩=>⟨(x,y)::ps,r,t,.cons ⟨l,p⟩ b,w⟩)
def sY(kvs more:Tv (Key×V)):Tv (Key×V):=more.foldl (fun acc a=>putK acc a.1 a.2) kvs
def KV.merge:∀{more:Tv (Key×V)}{rs:Tv (Key×Tx)}{kvs:Tv (Key×V)}{vs:Tv (Key×Tx)},KV more rs->KV kvs vs->KV (sY kvs more) (merged vs rs):=by
 intro more rs kvs vs r;unfold KV at r
 induction r generalizing kvs vs with
 |nil=>intro q;exact q
 |@cons p q ps b h t ih=>
  intro a
  have e:KV (putK kvs p.1 p.2) (stored vs q.1 q.2):=by
   have:=a.put p.1 h.2;rw[<- h.1];exact this
  exact ih e
theorem uC:∀(more kvs:Tv (Key×V)),(sY kvs more).length<=kvs.length+more.length
 |[]=>fun kvs=>by show kvs.length<=kvs.length+0;omega
 |p::r=>fun kvs=>by
  have a:=uC r<|putK kvs p.1 p.2;have b:=kN kvs p.1 p.2;show(sY (putK kvs p.1 p.2) r).length<=_;rw[C9];omega
theorem AR{P:Ud}:∀{kvs:Tv (Key×V)}{ws:Tv (Tx×Tx)},VV (kvs.map fun d=>(kV d.1,d.2)) ws->∃rs,Carries (dD P w) ws rs/\KV kvs rs
 |[],_=>fun r=>by rw[List.map_nil]at r;cases r;exact⟨[],True.intro,.nil⟩
 |p::kvs,_=>fun r=>by
  cases r with
  |@cons a b as bs h t=>
   obtain⟨rs,c,q⟩:=AR t;obtain⟨f,e⟩:=b;exact⟨(p.1,e)::rs,⟨DK h.1,rfl,c⟩,.cons ⟨rfl,h.2⟩ q⟩
def aGz(a:Tv (TE×TE)):TE:=fun σ H Q=>∀p,H p=Y->IA a σ (upd H p (.dK [])) fun ps b=>b p=Z (.dK [])/\∃kvs:Tv (Key×V),ps=kvs.map (fun c=>(kV c.1,c.2))/\kvs.length<=15/\Q (.ref p) (upd b p (.dK (sY [] kvs)))
def aDx(h:PPs X pos keys a b)(d:keys.all (·.isSome)=true)(l:keys.length=a.length)(m:keys≠[])
 (g:keys.length<=15):PE X (.Dict keys a pos) (aGz b):=by
 intro pins s σ H Q I q;have hn:=I.hok.fresh<|A6 s.heap.objs.size;have n:=I.laid (t':=s.toks) (fun _ _ q=>A2 _ q) (A6 _)<|BR s.heap I.big;refine wpAny_Dict_walk (knd:=dD X.prog X.w) d l m g (thn (h pins _ σ _ _ n<|q _ hn) fun ws s2 i=>?_);obtain⟨ps,y,k,j,e,kvs,ep,A,o⟩:=i;subst ep;obtain⟨rs,c,rk⟩:=AR j;obtain⟨z,hd,p,r,t⟩:=TM k.hok e;cases r;refine⟨rs,c,t,fun h' f hs=>⟨.ref s.heap.objs.size,_,?_,rfl,o⟩⟩
 have i:(sY [] kvs).length<=sizeLine:=by
  have u:=uC kvs [];rw[Y0]at u;rw[E9];omega
 have v:∃q,h'.get? s.heap.objs.size=Z q:=let⟨q,_,_,x,_⟩:=f;⟨q,x⟩;exact vL k (by rw[e];exact True.intro) hs v<|NT i hd (rk.merge .nil) f
structure M1(X:Cx)(o:Uc)(m:Str)(apos:Pos)(e:Uc)(cpos:Pos):Prop where
 base:attributeBase o m X.env (eval o X.env)=eval o X.env
 few:((backTo cpos<|starEach [e] X.env).all (fun x=>!x.1)&&(backToKw cpos<|keywordEach [] X.env).all (fun x=>x.1.isSome)
  && decide (([e]:T8).length+([]:Tv Keyword).length+(if ([]:Tv Keyword).isEmpty then 0 else 1)<30))=true
 line:(apos.endLine==cpos.line)=true
 trees:backTo cpos (starEach [e] X.env)=[(false,eval e X.env)]
structure M2(X:Cx)(o:Uc)(m:Str)(apos:Pos)(e f:Uc)(cpos:Pos):Prop where
 base:attributeBase o m X.env (eval o X.env)=eval o X.env
 few:((backTo cpos<|starEach [e,f] X.env).all (fun x=>!x.1)&&(backToKw cpos<|keywordEach [] X.env).all (fun x=>x.1.isSome)
  && decide (([e,f]:T8).length+([]:Tv Keyword).length+(if ([]:Tv Keyword).isEmpty then 0 else 1)<30))=true
 line:(apos.endLine==cpos.line)=true
 trees:backTo cpos (starEach [e,f] X.env)=[(false,eval e X.env),(false,eval f X.env)]
end L2
namespace Att
open PySem PySem.W PySem.Calls PyProof.Rows
def zO{P:Params}:∀(c:T7)(vs:T5),WellAll P h vs (c.map WData.int)->IntsAre vs c:=by
 intro c
 induction c with
 |nil=>
  intro vs w;cases w;exact .nil
 |cons n c ih=>
  intro vs w;cases w with
  |cons a b=>
   cases a;exact .cons _ _ (ih _ b)
def XW{l:OpenLaw}{n:Nat}(hn:l.most=Z n){P:Params}
 (c:l.row.toRowW.claim.pre args=true) (j:WellAll P h b args):
 ∃a vs e,b=[Value.ref a]/\args=[WData.list (e.map WData.int)]/\h.get? a=Z { cls:=.type "list",data:=.seq vs.toArray }/\IntsAre vs e/\e.length<=n:=by
 have k:=(pre_splitW c).1;have o:l.pre.holds [] { args:=args }=true:=(pre_splitW c).2;obtain⟨d,r,rfl,p,s⟩:=hasAllW_cons k;obtain rfl:=hasAllW_nil s;obtain⟨xs,rfl,t⟩:=hasW_list p;obtain⟨e,rfl⟩:=items_int t
 have f:e.length<=n:=by
  have i:(WTm.not (.lt (.lit (.int (n:Int))) (.len (.arg 0)))).holds [] { args:=[.list (e.map .int)] }=true:=by
   have i:=(holds_andW o).1;rw[hn]at i;exact i
  have m:=condW_of i<|w_not<|w_lt w_lit<|w_len_list<|w_arg rfl;refine Nat.le_of_not_lt fun q=>?_
  first
   |(rw[B9 x]at m;exact absurd m (by decide))
   |(simp at m;omega)
 cases j with
 |cons u v=>
  cases v;cases u with
  |list w g=>exact⟨_,_,e,rfl,rfl,w,zO e _ g,f⟩
def WS(l:OpenLaw)(args:Tv WData):l.row.toRowW.claim.post args (.bool true) args=true:=
 postW_of
  rfl
  (w_eq_bool (w_res rfl) w_lit) rfl
def attach_call{l:OpenLaw}{n:Nat}{XP:(Str->Tf)->Heap->Prop}{YP:World->Heap->Prop}{d:DefRec}
 (hn:l.most=Z n) (p:d.params.defaults=[])
 (call:∀(w:World)(s₀ c:Ua)(mg mb:Str->Tf)(fa:Ub)(o:Obj)(pm j doc:Tx)(a:Ub)(vs:T5)(k:T7),
  Ground q loose [] XP w s₀ mg mb c.heap->YP w c.heap->
  c.heap.get? fa=Z o->o.data=.func (docDef d.name d.params d.body d.scope pm j doc)->c.heap.CodeRec j d.name->mg d.name=Z (.ref fa)->
  c.heap.get? a=Z { cls:=.type "list",data:=.seq vs.toArray }->IntsAre vs k->k.length<=n->c.gens=#[]->
  codeAny (model l.prog w) callerA (.call (.ref fa) ⟨[.ref a],[]⟩) (fun r m=>r=.ok (.ret (.bool true))/\OldK c.heap m.heap/\m.os=c.os/\AllBare m.gens) c):
 WalkO q loose XP YP l.row.toRowW d [] (fun f vs=>PySem.call f vs):=by
 intro w s₀ c mg mb G b fa o pm j doc I kV z hd s v t A args x as g y B u C;obtain rfl:=Dflts.none v p;obtain rfl:=Dflts.noKw v;obtain⟨a,vs,k,rfl,rfl,h,e,i⟩:=XW hn g u;refine enter_call (A0u (call w s₀ c mg mb fa o pm j doc a vs k G b z (fd_plain hd) s t h e i A) fun r m D=>?_);obtain⟨rfl,E,F,H⟩:=D;exact⟨.inl ⟨.bool true,.bool true,[],rfl,fun _=>rfl,.bool true,WS l _,fun _=>⟨List.Pairwise.nil,fun _ hm=>(nomatch hm)⟩⟩,E,F,H⟩
section
variable{prog:Ud}{w:World}{A:Ue}{E:T0}{s:Ua}{K:Frag}
end
end Att
namespace L2
open PySem PySem.Spec PyProof.Rows
theorem EK:∀{vs:T5}{a:T7},IntsAre vs a->bG (a.map V.int) vs
 |_,_,.nil=>.nil
 |_,_,.cons n t h=>.cons ⟨t,rfl⟩ (EK h)
def aIZ(H:Hp):Prop:=∀b,H b=Y\/∃o xs,H b=Z (.frz o (.lst xs))
def aBh{P:Ud}{K:Fg}{a:Ub}{x:Str}{sp:Sp}{c:Ua}{vs:T5}
 (KX:K.In c.heap) (y:c.heap.Ns mainGlobals mg) (g:c.heap.Ns builtinsNs mb) (I:∀x:Str,x≠"__name__"->mb x=bootBuiltins x) (A:c.heap.NoLimit) (J:∃X,c.heap.Ns sysModules X) (L:∃bm ob,mg "__builtins__"=Z (.ref bm)/\bm≠builtinsNs/\c.heap.get? bm=Z ob/\ob.cls=.type "module"/\ob.dict=Z builtinsNs/\ob.data=.plain) (hg:c.gens=#[])
 (ha:c.heap.get? a=Z { cls:=.type "list",data:=.seq vs.toArray }) (hi:IntsAre vs t) (hl:t.length<=sizeLine) (hr:cG k callerA)
 (F:∀base:Heap,K.In base->base.Ns mainGlobals mg->pO P w K mg base CX k fa fd [x] sp) (p:∀(s:Ua)(u:Tx),BindsTo s fd ⟨[u],[]⟩ [(x,u)])
 (M:∀H:Hp,aIZ H->SqL K H a (t.map V.int)->sp [.ref a] H (fun v _=>v=.bl true) fun _ _ _=>False)
 (N:∀H e i,CX [] H c (fun _ _ _=>False) e i->False):
 codeAny (model P w) callerA (.call (.ref fa) ⟨[.ref a],[]⟩) (fun r i=>r=.ok (.ret (.bool true))/\OldK c.heap i.heap/\i.os=c.os/\AllBare i.gens) c:=by
 have rv:=EK hi;have B:=hi.length
 have l:∀H:Hp,aIZ H->SqL K H a (t.map V.int)->HOk P w H c.heap->(∀b,H b≠Y->b=a)->(H a≠Y->K.lookup a=Y)->
  codeAny (model P w) callerA (.call (.ref fa) ⟨[.ref a],[]⟩) (fun r i=>r=.ok (.ret (.bool true))/\OldK c.heap i.heap/\i.os=c.os/\AllBare i.gens) c:=by
  intro H hO hS hok O hK;have f:∀{b:Ub}{o:Obj},c.heap.get? b=Z o->H b=Y->(LQ c.heap H).get? b=Z o:=fun e n=>aAO e n
  have Q:∀{b:Ub}{o:Obj}{es:Array DictEntry}{ep:Nat},c.heap.get? b=Z o->o.data=.dict es ep->H b=Y:=fun{b o es ep} e d=>by
   cases q:H b with
   |none=>rfl
   |some u=>
    have C:=O b (by grind);subst C;rw[ha]at e;cases e;have d':=d;cases d'
  have j:∀{b:Ub}{m:Str->Tf},c.heap.Ns b m->(LQ c.heap H).Ns b m:=fun{b m} ⟨o,es,ep,e,d,r⟩=>⟨o,es,ep,f e<|Q e d,d,r⟩
  have D:=fun b o e=>f (KX b o e) (by
   cases q:H b with
   |none=>rfl
   |some u=>
    have C:=O b (by grind);subst C;rw[hK (by grind)]at e;cases e)
  have hM:Mod K mg (LQ c.heap H):=⟨D,j y,⟨mb,j g,I⟩,(let⟨mc,R,S⟩:=A;⟨mc,j R,S⟩),(let⟨X,T⟩:=J;let⟨o,es,ep,R,S,_⟩:=j T;⟨o,es,ep,R,S⟩),(let⟨bm,ob,b1,b2,U,b4,b5,b6⟩:=L;⟨bm,ob,b1,b2,f U (by
   cases q:H bm with
   |none=>rfl
   |some u=>
    have C:=O bm (by grind);rw[C,ha]at U;cases U;cases b6),b4,b5,b6⟩)⟩
  have e0:VX P w K mg (LQ c.heap H) callerA [] c H:=⟨rfl,hM,fun b o e=>aFE e,Nat.le_of_eq<|UU _ _,trivial,fun b g=>absurd (show b∈([]:Ta)from g) (by simp),hok,.of_eq hg⟩;refine A0u ((F _ D<|j y).run callerA [] c H ⟨[.ref a],[]⟩ [.ref a] [.ref a] _ _ hr e0 (p c (.ref a)) (.cons rfl .nil) (M H hO hS)) fun r i h=>?_;cases r with
  |error e=>exact(N H e i h).elim
  |ok fl=>
   cases fl with
   |next=>exact False.elim h
   |brk=>exact False.elim h
   |cont=>exact False.elim h
   |ret u=>
    obtain⟨v,H',os,bare,un,E,r',q⟩:=h;have q':=q;subst q';obtain rfl:=r';refine⟨rfl,OldK.of_keep fun b o e=>?_,os,bare⟩;cases q:H b with
    |none=>exact un.keep b o e q (by intro z;exact absurd (show b∈([]:Ta)from z) (by simp)) (by simp)
    |some u=>
     rcases hO b with z|⟨ob,xs,z⟩
     .rw[q]at z;cases z
     .have z2:=un.frzs b ob _ z;obtain⟨e1,_⟩:=hok b _ z;obtain⟨e2,_⟩:=E b _ z2;rw[e]at e1;cases e1;exact e2
 cases W:K.lookup a with
 |some o=>
  have e:=KX a o W;rw[ha]at e;cases e;refine l (fun _=>Y) (fun _=>.inl rfl) (.inr ⟨_,vs.toArray,_,W,rfl,rfl,rfl,by rw[D6,B];exact hl,by simpa using rv⟩) (fun b u z=>by have G:=z;cases G) (fun b z=>absurd rfl z) fun z=>absurd rfl z
 |none=>
  refine l (fun b=>if b=a then Z (.frz { cls:=.type "list",data:=.seq vs.toArray } (.lst (t.map V.int)))else Y) (fun b=>?_) (.inl (.inr ⟨{ cls:=.type "list",data:=.seq vs.toArray },A4 rfl⟩)) (fun b u z=>?_) (fun b z=>?_) fun _=>W
  .by_cases g:b=a
   .exact .inr ⟨_,_,A4 g⟩
   .exact .inl (B0 g)
  .by_cases g:b=a
   .have G:=(A4 g).symm.trans z;cases G;subst g;exact⟨ha,by rw[A3];exact hl,vs,_,rv,ha⟩
   .have G:=(B0 g).symm.trans z;cases G
  .by_cases g:b=a
   .exact g
   .exact absurd (B0 g) z
noncomputable abbrev KOf{K:Fg}{h:Heap}(_:K.In h):Fg:=K
def walk_of{l:W.OpenLaw}{n:Nat}(E:PyProof.Rows.importsNone q=true){YP:World->Heap->Prop}{d:DefRec}{K:Params->Fg}{CX:World->CXT}{sp:World->Sp}{x:Str}
 (hn:l.most=Z n) (t:n<=sizeLine) (y:d.params.defaults=[]) (I:cG k callerA)
 (J:∀(w:World)(h:Heap),YP w h->(K w.params).In h)
 (F:∀(w:World)(mg:Str->Tf)(fa:Ub)(h:Heap),(K w.params).In h->h.Ns mainGlobals mg->mg d.name=Z (.ref fa)->
  ∃fd:FuncData,(∀(s:Ua)(u:Tx),BindsTo s fd ⟨[u],[]⟩ [(x,u)]) /\
   ∀base:Heap,(K w.params).In base->base.Ns mainGlobals mg->pO l.prog w (K w.params) mg base (CX w) k fa fd [x] (sp w))
 (z:∀(w:World)(H:Hp)(a:Ub)(r:T7),r.length<=n->aIZ H->SqL (K w.params) H a (r.map V.int)->sp w [.ref a] H (fun v _=>v=.bl true) fun _ _ _=>False)
 (A:∀(w:World)(H:Hp)(s:Ua)(e:Tx)(B:Ua),CX w [] H s (fun _ _ _=>False) e B->False):
 W.WalkO q loose XP YP l.row.toRowW d [] (fun f vs=>PySem.call f vs):=by
 refine Att.attach_call hn y fun w s₀ m mg mb fa o pm R doc a vs r G c S hd L C p j i M=>?_;have KX:=J w _ c;obtain⟨fd,N,O⟩:=F w mg fa _ KX G.T.g C;exact aBh KX G.T.g G.T.b G.T.builtins G.T.nolimit (let⟨P,D,_⟩:=(G.T.seer E).mods;⟨P,D⟩) G.T.bmain M p j (F5 i t) I O N (fun H Q hS=>z w H a r i Q hS) fun H e B=>A w H m e B
end L2
namespace L2
variable{F H H':Hp}{W:Wd}{K:Fg}{M M':Sto}{γ:Ga}
open PySem PySem.Spec PyProof.Rows
def eT(s:Stmt):Arguments:=match s with
 |.FunctionDef _ a _ _ _ _ _ _ _ _=>a
 |_=>{ posonlyargs:=[],args:=[],vararg:=Y,kwonlyargs:=[],kw_defaults:=[],kwarg:=Y,defaults:=[] }
noncomputable def bR(s:Stmt):T9:=match s with
 |.FunctionDef _ _ b _ _ _ _ _ _ _=>b
 |_=>[]
noncomputable def aH(s:Stmt):Scope:=match s with
 |.FunctionDef _ _ _ _ _ _ sc _ _ _=>sc
 |_=>{ kind:=.function,names:=[],isGenerator:=false,isCoroutine:=false }
noncomputable abbrev CX0:CXT:=fun _ _ _ _ _ _=>False
noncomputable abbrev E0:XK:=fun _ _ _=>False
def aLb:OZ CX0 X E0:=fun _ _ _ _ _ _ _ h=>h.elim
structure Fun(K:Fg)(x qual:Str)(st:Stmt)(f:Ub)(fd:FuncData):Prop where
 ex:∃(oc:Tx)(od:Th)(kV doc pm:Tx)(an:Th)(cdv ct:Tx)(osl:Array (Tf)),
  fd=PySem.W.fnOf x qual (eT st) (bR st) (aH st) .none kV doc pm an cdv ct/\K.lookup f=Z ⟨oc,od,.func fd,osl⟩/\PySem.W.codeIn K cdv qual=true
 kp:PySem.W.keepIn K (.ref f)=true
section
variable{P:Ud}{w:World}{K:Fg}{mg:Str->Tf}{base:Heap}
def Fun.ok{st:Stmt}{sp:Sp}{q:Bool}(F:Fun K x qual st f fd)(S:aR N ps (aH st))(len:∀vs H Q E,sp vs H Q E->vs.length=ps.length)
 (a:∀(cdv:Tx)(A:Ue)(outer:Tv Env)(s:Ua)(H:Hp)(vs:Tc)(Q:VK)(E:XK),cG k (A.deeper<|envOfC qual (aH st) s.heap.objs.size f cdv) q->sp vs H Q E->
  ∃t,PSs (jG CX0 P w K mg base N qual (aH st) f cdv A outer s H E q).nox (bR st) t/\t { nx:=fun _ H'=>Q .non H',rt:=Q } (start N vs) H):pO P w K mg base CX0 (k+1) f fd ps sp q:=by
 obtain⟨oc,od,kV,doc,pm,an,cdv,ct,osl,rfl,d,b⟩:=F.ex;refine aFM d b S len fun A outer s H vs Q E e c=>?_;obtain⟨t,h,z⟩:=a cdv A outer s H vs Q E e c;exact⟨t,h.nox,z⟩
def Fun.binds{x qual:Str}{st:Stmt}{f:Ub}{fd:FuncData}{ps:Tb}(F:Fun K x qual st f fd)
 (h:∀(kV doc pm:Tx)(an:Th)(cdv ct:Tx)(us:T5),us.length=ps.length->bindArgs (PySem.W.fnOf x qual (eT st) (bR st) (aH st) .none kV doc pm an cdv ct) ⟨us,[]⟩=pure (ps.zip us)):Binds K fd ps []:=by
 obtain⟨oc,od,kV,doc,pm,an,cdv,ct,osl,rfl,b,a⟩:=F.ex;exact .all (h kV doc pm an cdv ct)
def aIT{x qual:Str}{st:Stmt}{f:Ub}{oc:Tx}{od an:Th}{osl:Array (Tf)}{kV doc pm cdv ct:Tx}(l:K.lookup f=Z ⟨oc,od,.func (PySem.W.fnOf x qual (eT st) (bR st) (aH st) .none kV doc pm an cdv ct),osl⟩)
 (c:PySem.W.codeIn K cdv qual=true) (k:PySem.W.keepIn K (.ref f)=true):Fun K x qual st f (PySem.W.fnOf x qual (eT st) (bR st) (aH st) .none kV doc pm an cdv ct):=⟨⟨oc,od,kV,doc,pm,an,cdv,ct,osl,rfl,l,c⟩,k⟩
end
def kJ(H H':Hp):Prop:=∀b o,H b=Z o->H' b=Z o
def kJ.refl(H:Hp):kJ H H:=fun _ _ h=>h
def kJ.trans(a:kJ H d)(b:kJ d e):kJ H e:=fun c o h=>b c o<|a c o h
def kJ.free(e:kJ H H')(h:H' l=Option.none):H l=Option.none:=by
 cases q:H l with
 |none=>rfl
 |some o=>
  rw[e l o q]at h;cases h
def kJ.seq(e:kJ H H')(h:SqL K H a xs):SqL K H' a xs:=by
 rcases h with(h|⟨o,h⟩)|h
 .exact .inl (.inl (e _ _ h))
 .exact .inl (.inr ⟨o,e _ _ h⟩)
 .exact .inr h
noncomputable def fO(env:Env):Tv (Tl)->Tv (Str×Ub)->Tv (Str×Ub)
 |[],cs=>cs
 |y::r,cs=>fO env r (if (y.2==NameKind.free)=true then(y.1,(env.cells.lookup y.1).getD 0)::cs else cs)
theorem uN{env:Env}:∀(l:Tv (Tl))(cs:Tv (Str×Ub)),(∀y∈l,y.2=.free->∃c,env.cells.lookup y.1=Z c)->
 (forIn l cs fun(x:Tl)(r:Tv (Str×Ub))=>if (x.2==NameKind.free)=true then(do
  let a <- cellOf env x.1
  pure (ForInStep.yield ((x.1,a)::r)))else pure (ForInStep.yield r))=(pure (fO env l cs):Sem (Tv (Str×Ub)))
 |[]=>fun cs _=>rfl
 |y::l=>fun cs h=>by
  rw[List.forIn_cons];by_cases b:(y.2==NameKind.free)=true
  .obtain⟨c,e⟩:=h y A9 (by grind);have f:cellOf env y.1=pure c:=by unfold cellOf;rw[e]
   rw[A4 b,f];show(forIn l ((y.1,c)::cs) _:Sem _)=_;rw[uN l _ fun z d=>h z<|A8 _ d]
   conv=>rhs;unfold fO
   rw[A4 b,e];rfl
  .rw[B0 b];show(forIn l cs _:Sem _)=_;rw[uN l _ fun z d=>h z<|A8 _ d]
   conv=>rhs;unfold fO
   rw[B0 b]
def vB{scope:Scope}{env:Env}(h:∀y∈scope.names,y.2=.free->∃c,env.cells.lookup y.1=Z c):closureFor scope env=pure (fO env scope.names []):=by
 have e:=uN scope.names [] h
 show((forIn scope.names ([]:Tv (Str×Ub)) fun x (r:Tv (Str×Ub))=>if (x.2==NameKind.free)=true then(do
  let a <- cellOf env x.1
  pure (ForInStep.yield ((x.1,a)::r)))else pure (ForInStep.yield r)) >>= fun z=>pure z:Sem (Tv (Str×Ub)))=_
 rw[e];rfl
theorem FA{env:Env}:∀(l:Tv (Tl))(cs:Tv (Str×Ub)),(∀y∈l,y.2=.free->∃c,env.cells.lookup y.1=Z c)->(∀x c,cs.lookup x=Z c->env.cells.lookup x=Z c)->
 ∀x c,(fO env l cs).lookup x=Z c->env.cells.lookup x=Z c
 |[]=>fun cs _ h x c e=>h x c e
 |y::l=>fun cs i h x c e=>by
  refine FA l _ (fun z g=>i z<|A8 _ g) ?_ x c e;intro z d a;by_cases j:(y.2==NameKind.free)=true
  .rw[A4 j]at a;obtain⟨c',f⟩:=i y A9 (by grind);rw[f]at a;rw[D9]at a;by_cases g:(z==y.1)=true
   .rw[g]at a;have b:z=y.1:=by grind
    rw[b,f];exact a
   .have b:(z==y.1)=false:=by grind
    rw[b]at a;exact h z d a
  .rw[B0 j]at a;exact h z d a
theorem xQ:∀(l:Tv (Tl))(cs:Tv (Str×Ub))(x:Str),((x,NameKind.free)∈l\/∃c,cs.lookup x=Z c)->∃c,(fO env l cs).lookup x=Z c
 |[]=>fun cs x h=>by
  rcases h with h|h
  .exact absurd h (by simp)
  .exact h
 |y::l=>fun cs x h=>by
  refine xQ l _ x ?_;rcases h with h|⟨c,b⟩
  .rcases List.mem_cons.mp h with e|e
   .subst e;refine .inr ?_;rw[A4 (by rfl)];exact⟨(env.cells.lookup x).getD 0,by rw[D9];simp⟩
   .exact .inl e
  .refine .inr ?_;by_cases d:(y.2==NameKind.free)=true
   .rw[A4 d,D9];by_cases f:(x==y.1)=true
    .rw[f];exact⟨_,rfl⟩
    .have a:(x==y.1)=false:=by grind
     rw[a];exact⟨c,b⟩
   .rw[B0 d];exact⟨c,b⟩
theorem uI{env:Env}:∀{names:Tv (Tl)}{x:Str}{k:NameKind},
 (names.map fun(y:Tl)=>if (y.2==NameKind.free&&env.scope.kind==.function&&env.kindOf y.1==Z .cell)=true then(y.1,NameKind.cell)else(y.1,y.2)).lookup x=Z k->
 (names.lookup x=Z k)\/(names.lookup x=Z .free/\k=.cell)
 |[],x,k=>fun h=>by simp at h
 |y::r,x,k=>fun h=>by
  rw[C0]at h;by_cases hx:(x==y.1)=true
  .by_cases b:(y.2==NameKind.free&&env.scope.kind==.function&&env.kindOf y.1==Z .cell)=true
   .rw[A4 b,D9,hx]at h;rw[D9,hx];have:y.2=.free:=by grind
    refine .inr ⟨by rw[this],?_⟩;cases h;rfl
   .rw[B0 b,D9,hx]at h;rw[D9,hx];exact .inl h
  .have a:(x==y.1)=false:=by grind
   have h':(r.map fun y=>if (y.2==NameKind.free&&env.scope.kind==.function&&env.kindOf y.1==Z .cell)=true then(y.1,NameKind.cell)else(y.1,y.2)).lookup x=Z k:=by
    by_cases b:(y.2==NameKind.free&&env.scope.kind==.function&&env.kindOf y.1==Z .cell)=true
    .rw[A4 b,D9,a]at h;exact h
    .rw[B0 b,D9,a]at h;exact h
   rw[D9,a];exact uI h'
theorem BU{env:Env}:∀{names:Tv (Tl)}{x:Str},names.lookup x=Z .free->
 (names.map fun(y:Tl)=>if (y.2==NameKind.free&&env.scope.kind==.function&&env.kindOf y.1==Z .cell)=true then(y.1,NameKind.cell)else(y.1,y.2)).lookup x=Z .cell \/
 (names.map fun(y:Tl)=>if (y.2==NameKind.free&&env.scope.kind==.function&&env.kindOf y.1==Z .cell)=true then(y.1,NameKind.cell)else(y.1,y.2)).lookup x=Z .free
 |[],x=>fun h=>by simp at h
 |y::r,x=>fun h=>by
  rw[C0];by_cases hx:(x==y.1)=true
  .rw[D9,hx]at h;have hy:=D3 h;by_cases b:(y.2==NameKind.free&&env.scope.kind==.function&&env.kindOf y.1==Z .cell)=true
   .rw[A4 b,D9,hx];exact .inl rfl
   .rw[B0 b,D9,hx];exact .inr (by rw[hy])
  .have a:(x==y.1)=false:=by grind
   rw[D9,a]at h;have ih:=BU (env:=env) h;by_cases b:(y.2==NameKind.free&&env.scope.kind==.function&&env.kindOf y.1==Z .cell)=true
   .rw[A4 b,D9,a];exact ih
   .rw[B0 b,D9,a];exact ih
def AN(X:Cx)(ifs:T8)(t:TT):Prop:=
 ∀(pins:T2)(s:Ua)(a:St)(H:Hp)(Q:Bool->Hp->Prop),Inv X pins a H s->t a H Q->
  wpAny (model X.prog X.w) X.A (forIn ifs true fun c r=>if r=true then(do
   let ok <- isTrue c X.env (eval c X.env)
   pure (ForInStep.yield ok))else pure (ForInStep.yield r)) (TP X pins a Q) X.xe s
noncomputable def aKl:TT:=fun _ H Q=>Q true H
def aCc:AN X [] aKl:=fun _ _ _ H _ I h=>wpAny_tests_nil ⟨H,I,h⟩
def aCG(h:PT X c t):AN X [c] t:=fun pins s a H Q I b=>wpAny_tests_one<|h pins s a H Q I b
section
variable{prog:Ud}{w:World}{A:Ue}{R:Result->Ua->Prop}{s:Ua}
def QT{iter:Uc}{scope:Scope}{acc:Tx}(I:Nat->Ua->Prop)
 (turn:∀n s,I n s->wpAny (model prog w) A (pyNext it) (fun r s1=>(r=Y/\R (.ok .next) s1)\/∃v,r=Z v /\
  wpAny (model prog w) A (letOwnedTupleGo a it v) (fun _ s2=>wpAny (model prog w) A (assign a env v) (fun _ s3=>
   wpAny (model prog w) A (forIn ifs true fun c r=>if r=true then(do
    let ok <- isTrue c env (eval c env)
    pure (ForInStep.yield ok))else pure (ForInStep.yield r)) (fun ok s4=>
     (ok=true/\wpAny (model prog w) A (eval elt env) (fun x e=>wpAny (model prog w) A (call (.builtin "list.append") [acc,x]) (fun _ g=>∃m,m<n/\I m g) (fun _ _=>False) e) (fun _ _=>False) s4) \/
     (ok=false/\∃m,m<n/\I m s4)) (fun _ _=>False) s3) (fun _ _=>False) s2) (fun _ _=>False) s1) (fun _ _=>False) s)
 (n:Nat) (h:I n s):codeAny (model prog w) A (.compLoop (.ListComp elt [⟨a,iter,ifs,0⟩] scope pos) 0 it acc env) R s:=by
 refine codeAny_loop rfl I (fun n s i=>?_) n h
 show wpAny _ A ((compTurn (.ListComp elt [⟨a,iter,ifs,0⟩] scope pos) 0 it acc env).onRaise fun x=>do
  noteFrame x env
  theTreesLotGoes x) _ _ s
 refine wpAny_noted ?_;refine A0<|U9<|A0 (E2 (turn n s i) (fun r s1 b=>?_) fun _ _ f=>f.elim);rcases b with⟨rfl,b⟩|⟨v,rfl,b⟩
 .exact B2 b
 .refine A0 (E2 b (fun _ s2 j=>?_) fun _ _ f=>f.elim);refine A0 (E2 j (fun _ s3 k=>?_) fun _ _ f=>f.elim);refine A0 (E2 k (fun ok s4 d=>?_) fun _ _ f=>f.elim);rcases d with⟨rfl,d⟩|⟨rfl,d⟩
  .refine A0<|A0 (E2 d (fun x e l=>?_) fun _ _ f=>f.elim);exact A0 (E2 l (fun _ g o=>B2<|B2 ⟨rfl,o⟩) fun _ _ f=>f.elim)
  .exact B2 ⟨rfl,d⟩
end
def bT(X:Cx)(N':Tb)(scope:Scope)(C:Ub)(s2:Ua)(a:Hp)(fp:Ta)(pn:T2):Cx:=
 { X with N:=N',s₀:=s2,H₀:=a,env:=compEnvC scope (fO X.env scope.names []) C X.env,outer:=X.stack,stack:=X.stack,ex:=fp,fn:=fun _=>false,pn:=X.pn++pn,xe:=fun _ _=>False }
noncomputable def uZ(cap:T3)(a:St):St:=cap.map fun o=>o.bind fun j=>(a[j]?).join
structure oD(X:Cx)(N':Tb)(cap:T3)(scope:Scope):Prop where
 nocell:∀y∈scope.names,y.2≠.cell
 kind:scope.kind=.function
 names:∀y∈scope.names,y.2=.local->scope.names.lookup y.1=Z .local
 frees:∀y∈scope.names,y.2=.free->X.env.kindOf y.1=Z .cell\/X.env.kindOf y.1=Z .free
 len:cap.length=N'.length
 cap:∀(i j:Nat),cap[i]?=Z (Z j)->∃x,N'[i]?=Z x/\X.N[j]?=Z x/\scope.names.lookup x=Z .free
section
variable{X:Cx}{N':Tb}{cap:T3}{scope:Scope}{pins:T2}{σ:St}{H:Hp}{s:Ua}
def oD.cells(S:oD X N' cap scope)(ok:X.Ok):∀y∈scope.names,y.2=.free->∃c,X.env.cells.lookup y.1=Z c:=fun y hy a=>ok.has y.1<|S.frees y hy a
def oD.sub(S:oD X N' cap scope)(ok:X.Ok):∀x c,(fO X.env scope.names []).lookup x=Z c->X.env.cells.lookup x=Z c:=
 FA scope.names [] (S.cells ok) fun x c e=>by simp at e
def oD.kinds(S:oD X N' cap scope)(h:(compEnvC scope cl C X.env).kindOf x=Z .cell\/(compEnvC scope cl C X.env).kindOf x=Z .free):scope.names.lookup x=Z .free:=by
 rcases h with h|h
 .rcases uI h with q|⟨q,_⟩
  .exact absurd rfl<|S.nocell _<|F6 q
  .exact q
 .rcases uI h with q|⟨q,_⟩
  .exact q
  .exact q
def Inv.stkAll(I:Inv X pins σ H s){b:Ub}(a:b≠X.env.locals)(c:b∉X.fs):b∉frs X.stack:=fun d=>(List.mem_cons.mp<|I.stkSub b d).elim a c
def CM(S:oD X N' cap scope)(I:Inv X pins σ H s){fp:Ta}{E:Heap}{C:Ub}{R:Nat}(w:∀b∈fp,kO X pins H b)(G:∀b∈fp,b<s.heap.objs.size)
 (A:s.heap.objs.size<=C) (hn:E.Ns C fun _=>Y) (h:∀b o,s.heap.get? b=Z o->E.get? b=Z o):
 Inv (bT X N' scope C s H fp pins) [] (uZ cap σ) H { s with heap:=E,toks:=R }:=by
 have B:∀x c,X.env.cells.lookup x=Z c->c<s.heap.objs.size:=fun x c e=>by
  obtain⟨v,q⟩:=I.cell x c e;exact q.lt
 have fresh:=I.hok.fresh A
 have ok:(bT X N' scope C s H fp pins).Ok:=by
  refine⟨I.ok.mod,S.kind,I.ok.glob,I.ok.blt,A,fun x y c J L=>?_,fun x hx=>?_,fun x c hx _=>?_,I.ok.hd,I.ok.frames,.inl rfl,fun b g=>⟨?_,fun x c e=>?_⟩,I.bs,F5 I.ok.bsz I.sz,fun b o e g=>?_,fun b g=>?_,I.stack,I.stkFree⟩
  .exact I.ok.inj x y c (S.sub I.ok x c J)<|S.sub I.ok y c L
  .exact xQ scope.names [] x (.inl (F6<|S.kinds hx))
  .exact absurd hx (by show ¬(false=true);decide)
  .exact C2<|B6 (G b g) A
  .exact(w b g).2.2.2.2.1 x c (S.sub I.ok x c e)
  .rcases (w b g).2.2.2.1 with z|z
   .exact I.ok.noex b o e z
   .exact absurd (B6 (B3 (I.ok.bs b o e).1) z)<|E3 _
  .exact I.stkAll (w b g).2.1 (w b g).2.2.1
 refine⟨ok,rfl,I.bare,Un.kept h,⟨_,hn,fun i x v J L h3=>?_⟩,fun x c e=>?_,fresh,fun x c e=>I.freeC x c<|S.sub I.ok x c e,fun p T=>?_,I.hok.kept h,?_⟩
 .
  have a:(cap[i]?).map (fun o=>o.bind fun j=>(σ[j]?).join)=Z (Z v):=by
   have:(uZ cap σ)[i]?=Z (Z v):=L;unfold uZ at this;rw[D0]at this;exact this
  cases e:cap[i]? with
  |none=>rw[e]at a;simp at a
  |some o=>
   cases o with
   |none=>rw[e]at a;simp at a
   |some j=>
    rw[e]at a;obtain⟨D,U,V,N⟩:=S.cap i j e
    have ex:D=x:=by
     have:N'[i]?=Z x:=J;rw[U]at this;exact D3 this
    subst ex
    have sv:σ[j]?=Z (Z v):=by
     have q:(σ[j]?).join=Z v:=D3 a;cases f:σ[j]? with
     |none=>rw[f]at q;simp at q
     |some o=>rw[f]at q;cases o with
      |none=>simp at q
      |some v'=>simp at q;rw[q]
    have Q:=S.frees _ (F6 N) rfl;obtain⟨m,hm,hl⟩:=I.loc;obtain⟨u,r,l⟩:=hl j D v V sv (Q.elim (fun z=>.inr (.inl z)) fun z=>.inr (.inr z));refine⟨u,r,.inr ⟨?_,?_⟩⟩
    .exact BU N
    .rcases l with⟨k,_⟩|⟨_,c,hc,o,O,hd⟩
     .rcases Q with z|z<;>rw[z]at k<;>cases k
     .obtain⟨c',t⟩:=xQ scope.names [] D (.inl (F6 N));have:=S.sub I.ok D c' t;rw[hc]at this;cases this;exact⟨c,t,o,h c o O,hd⟩
 .obtain⟨v,o,O,hd⟩:=I.cell x c<|S.sub I.ok x c e;exact⟨v,o,h c o O,hd⟩
 .have P:p∈X.pn++pins:=by
   rcases List.mem_append.mp T with z|z
   .exact z
   .exact absurd z (by simp)
  obtain⟨e,n,ne,nf,d⟩:=I.pin p P;exact⟨h _ _ e,n,C2<|B6 (B3 e) A,I.stkAll ne nf,d⟩
 .show(uZ cap σ).length=N'.length;unfold uZ;rw[A3];exact S.len
end
def tLc(cap:T3)(j:TI)(g:TG)(k:TT)(l:TE):TE:=fun e H Q=>j e H fun J n=>∃W:Nat->Nat->Tc->St->Hp->Prop,(∃m,W 0 m [] (uZ cap e) n)/\∀i m acc c H',W i m acc c H'->
 (J.stop i H'/\∀p,H' p=Y->Q (.ref p) (upd H' p (.lst acc))) \/
 (J.go i H'/\acc.length<sizeLine/\∃N:Tc->St->Hp->Prop,(∀acc' a d,N acc' a d->∃f,f<m/\W (i+1) f acc' a d)/\∀x d,J.yld i H' x d->g x c d fun a o=>k a o fun b h=>(b=true/\l a h fun v q=>N (acc++[v]) a q)\/(b=false/\N acc a h))
section
variable{X:Cx}{N':Tb}{cap:T3}{scope:Scope}
def aHH{elt tg iter:Uc}{ifs:T8}{pos:Pos}{wi:TI}{g:TG}{tc:TT}{te:TE}(hc:X.calm=true)(S:oD X N' cap scope)(hi:PI X tg iter wi)
 (hg:∀C s H fp pn,PG (bT X N' scope C s H fp pn) tg g) (ae:∀C s H fp pn,AN (bT X N' scope C s H fp pn) ifs tc) (he:∀C s H fp pn,PE (bT X N' scope C s H fp pn) elt te)
 (hs:∀x,foldedSetIterable iter X.env x=pure x) {pins:T2} {s:Ua} {σ:St} {H:Hp} {Q:VK} (I:Inv X pins σ H s) (h:tLc cap wi g tc te σ H Q)
 {use:Tw (Tx->Sem Unit)} {QQ:T0}
 (a2:∀(D C:Ub)(H':Hp)(acc:Tc)(O:Ua),D≠C->(∃m,O.heap.Ns C m)->(∀h',Heap.SameBut C O.heap h'->Inv X pins σ (upd H' D (.lst acc)) { O with heap:=h' })->kO X pins (upd H' D (.lst acc)) C->Q (.ref D) (upd H' D (.lst acc))->compPost (model X.prog X.w) X.A X.xe use QQ (.ref D) C (.ok .next) O):
 wpAny (model X.prog X.w) X.A (comprehension (.ListComp elt [⟨tg,iter,ifs,0⟩] scope pos) scope X.env (firstIterPos [⟨tg,iter,ifs,0⟩] pos) (newList []) false (firstIter [⟨tg,iter,ifs,0⟩] X.env) use) QQ X.xe s:=by
 refine wpAny_comprehension_free rfl hs (vB<|S.cells I.ok) S.kind S.names ?_;refine thn (hi pins s σ H _ I h) fun v s1 h1=>thn h1 fun av s2 h2=>?_;obtain⟨it,fp,tn,J,k,e,G,T,U,f2,W,⟨m0,w0⟩,a3⟩:=h2;subst e
 have f:∀b∈fp,b<s2.heap.objs.size:=fun b a=>by
  obtain⟨o,e,_⟩:=T.obj _ _ U b a;exact B3 e
 refine I0<|wpAny_newFunctionEnv S.nocell (fun y hy=>by simp at hy) (fun a4 a5 a6=>?_) S.kind;generalize hP:s2.heap.push { cls:=.type "list",dict:=Y,data:=.seq ([]:T5).toArray }=P2 at a5 a6 ⊢;have a7:P2.objs.size=s2.heap.objs.size+1:=by rw[<- hP,Heap.size_push]
 have j:s2.heap.objs.size≠P2.objs.size:=by rw[a7];exact C2<|O6 _
 have hC:s2.heap.objs.size<=P2.objs.size:=by rw[a7];exact A0c _
 have l:=fun b o e a=>a6.extBut b o a<|A2 _ e;have a0:=fun b o e=>l b o (by rw[<- hP];exact A2 _ e)<|C2<|B6 (B3 e) hC;have af:=l _ _ (by rw[<- hP];exact C6 _ rfl) j
 have I4:Inv (bT X N' scope P2.objs.size s2 k fp pins) [] (uZ cap σ) k { s2 with heap:=a4,toks:=s2.toks+([]:Tt).length }:=
  CM S G f2 f hC (by simpa using a5) a0
 have P:∀s4:Ua,s4={ s2 with heap:=a4,toks:=s2.toks+([]:Tt).length }->
  codeAny (model X.prog X.w) X.A (.compLoop (.ListComp elt [⟨tg,iter,ifs,0⟩] scope pos) 0 (.ref it) (.ref s2.heap.objs.size) (compEnvC scope (fO X.env scope.names []) P2.objs.size X.env)) (compPost (model X.prog X.w) X.A X.xe use QQ (.ref s2.heap.objs.size) P2.objs.size) s4:=by
  rintro s4 rfl
  have a8:s2.heap.objs.size∉frs X.stack:=fun a=>by
   obtain⟨_,o,ho,_⟩:=G.stack.mem a;exact absurd (B3 ho)<|E3 _
  have cne:∀x c,(fO X.env scope.names []).lookup x=Z c->c<s2.heap.objs.size:=fun x c e=>by
   obtain⟨v,q⟩:=G.cell x c<|S.sub G.ok x c e;exact q.lt
  have t:∀{Hx:Hp}{ob:Obj},(∀b∈fp,Hx b=Y)->∀b∈fp,kO (bT X N' scope P2.objs.size s2 k fp pins) [(s2.heap.objs.size,ob)] Hx b:=fun{Hx ob} hn b a=>by
   refine⟨hn b a,C2<|B6 (f b a) hC,G.stkAll (f2 b a).2.1 (f2 b a).2.2.1,.inl a,fun x c e=>(f2 b a).2.2.2.2.1 x c (S.sub G.ok x c e),fun p B=>?_⟩;rcases List.mem_append.mp B with z|z
   .exact(f2 b a).2.2.2.2.2 p z
   .rw[List.mem_singleton.mp z];exact A0n<|f b a
  refine QT (fun n O=>∃(i:Nat)(d:St)(H':Hp)(acc:Tc)(its:T5)(nn:Nat),Inv (bT X N' scope P2.objs.size s2 k fp pins) [] d H' O/\tn i O.heap/\(∀b∈fp,H' b=Y)/\H' s2.heap.objs.size=Y /\
   O.heap.get? s2.heap.objs.size=Z { cls:=.type "list",data:=.seq its.toArray nn }/\bG acc its/\acc.length<=sizeLine/\W i n acc d H') ?_ m0
   ⟨0,uZ cap σ,k,[],[],0,I4,T.keep _ _ _ U fun b _ o e=>a0 b o e,fun b a=>(f2 b a).1,G.hok.fresh<|A6 _,af,.nil,E7 _,w0⟩
  rintro n s5 ⟨i,d,H',acc,its,nn,I5,t5,a9,d5,g5,va,la,w5⟩
  have I5p:Inv (bT X N' scope P2.objs.size s2 k fp pins) [(s2.heap.objs.size,{ cls:=.type "list",data:=.seq its.toArray nn })] d H' s5:=I5.pins_of fun p B=>by
   rw[List.mem_singleton.mp B];exact⟨g5,d5,j,a8,fun v z=>by cases z⟩
  rcases a3 i n acc d H' w5 with⟨stop,q⟩|⟨go,lt,N,hN,step⟩
  .refine thn (T.done (bT X N' scope P2.objs.size s2 k fp pins) rfl rfl rfl hc i _ s5 d H' _ I5p (t a9) t5 stop) fun r s6 ⟨hr,I6⟩=>.inl ⟨hr,?_⟩;have d6:=(I6.pin (s2.heap.objs.size,{ cls:=.type "list",data:=.seq its.toArray nn }) (by simp)).1;have nC:=I6.free;refine a2 _ _ H' acc s6 j (let⟨m,hn,_⟩:=I6.loc;⟨m,hn⟩) (fun h' a1=>?_) (G.fpOk hC (by rw[aN j.symm];exact nC))<|q _ d5;have up:=fun b o a e=>a1.extBut b o a e;have L:∀b o,s2.heap.get? b=Z o->b≠P2.objs.size/\b≠s2.heap.objs.size:=fun b o e=>⟨C2<|B6 (B3 e) hC,C2<|B3 e⟩;have u6:=I6.base
   have u7:Un (frs X.stack) fp k (upd H' s2.heap.objs.size (.lst acc)) s2.heap h':=by
    refine⟨fun b o e n a hx=>up b o (L b o e).1 (u6.keep b o e n a hx),fun b o e n a hx=>?_,fun b o e n hx=>?_,fun b o e hx=>?_,fun b xs e=>?_,fun b o u e=>?_,fun b ps e=>?_⟩
    .obtain⟨sl,q⟩:=u6.slot b o e n a hx;exact⟨sl,up b _ (L b o e).1 q⟩
    .rw[aN (L b o e).2];exact u6.free b o e n hx
    .obtain⟨o',q⟩:=u6.there b o e hx;exact⟨o',up b o' (L b o e).1 q⟩
    .have z:=u6.tups b xs e;rw[aN (aO z d5)];exact z
    .have z:=u6.frzs b o u e;rw[aN (aO z d5)];exact z
    .obtain⟨more,z⟩:=u6.tbls b ps e;exact⟨more,by rw[aN (aO z d5)];exact z⟩
   have ag:HOk X.prog X.w (upd H' s2.heap.objs.size (.lst acc)) h':=fun b u e=>by
    by_cases a:b=s2.heap.objs.size
    .subst a;rw[aW]at e;cases e;exact⟨la,its,nn,va,up _ _ j d6⟩
    .rw[aN a]at e;refine(I6.hok b u e).stay (fun c v ah z=>up c v ?_ z) (fun c z=>by rw[aN (aO z d5)];exact z) fun c xs z=>by rw[aN (aO z d5)];exact z
     rcases ah with rfl|z
     .exact aO e nC
     .exact aO z nC
   have ai:=I6.os;have aj:=I6.bare;obtain⟨hh,gg,dd,tt,oo⟩:=s6;subst ai;have z7:=G.call (d':=dd) (t':=tt) u7 ag aj fun b a=>⟨(f2 b a).2.2.2.1,(f2 b a).2.1,(f2 b a).2.2.2.2.1,(f2 b a).2.2.2.2.2⟩;exact z7
  .refine thn (T.item (bT X N' scope P2.objs.size s2 k fp pins) rfl rfl rfl hc i _ s5 d H' _ I5p (t a9) t5 go) fun r s6 ⟨u,hr,h6⟩=>.inr ⟨u,hr,?_⟩;refine thn h6 fun _ s7 ⟨x,H7,I7,r7,y7,t7,ak⟩=>?_;have ao:=I7.pinned (t ak) (T.obj _ _ t7)
   have R:∀{aa:St}{Hx:Hp}{sx:Ua},Inv (bT X N' scope P2.objs.size s2 k fp pins) ([(s2.heap.objs.size,{ cls:=.type "list",data:=.seq its.toArray nn })]++sG fp s7.heap) aa Hx sx->
    (∀b∈fp,∀o,s7.heap.get? b=Z o->sx.heap.get? b=Z o)/\(∀b∈fp,Hx b=Y)/\sx.heap.get? s2.heap.objs.size=Z { cls:=.type "list",data:=.seq its.toArray nn }/\Hx s2.heap.objs.size=Y:=fun{aa Hx sx} Ix=>by
    refine⟨fun b a o e=>(Ix.pin (b,o)<|A7 _<|A7 _<|dW a e).1,fun b a=>?_,?_,?_⟩
    .obtain⟨o,e,_⟩:=T.obj _ _ t7 b a;exact(Ix.pin (b,o)<|A7 _<|A7 _<|dW a e).2.1
    .exact(Ix.pin (s2.heap.objs.size,_)<|A7 _<|C1 _<|List.mem_singleton.mpr rfl).1
    .exact(Ix.pin (s2.heap.objs.size,{ cls:=.type "list",data:=.seq its.toArray nn })<|A7 _<|C1 _<|List.mem_singleton.mpr rfl).2.1
   refine thn (hg _ _ _ _ _ _ s7 d H7 x u _ ao r7<|step x H7 y7) fun _ s8 ⟨E,H8,I8,q8⟩=>?_;refine thn (ae _ _ _ _ _ _ s8 E H8 _ I8 q8) fun b s9 ⟨H9,I9,q9⟩=>?_;rcases q9 with⟨rfl,q9⟩|⟨rfl,n9⟩
   .refine .inl ⟨rfl,thn (he _ _ _ _ _ _ s9 E H9 _ I9 q9) fun uv ap ⟨v,ab,ac,rv,aq⟩=>?_⟩;obtain⟨m',hm,ar⟩:=hN _ _ _ aq;obtain⟨b1,b2,b3,b4⟩:=R ac;refine wpAny_list_append_plain ⟨nn,b3⟩ (fun h' B a1=>?_) (by rw[D6,<- va.length];exact la);obtain⟨n2,e2⟩:=B;have up:=fun b o a e=>a1.extBut b o a e;have I10':Inv (bT X N' scope P2.objs.size s2 k fp pins) [] E ab ap:=ac.pins_of fun p B=>absurd B (by simp);refine⟨m',hm,i+1,E,ab,acc++[v],its++[uv],n2,I10'.turned up b4 j (.inr (A6 _)) (fun x c e=>C2<|cne x c e) fun p B=>?_,T.keep _ _ _ t7 fun b a o e=>up b o (C2<|f b a)<|b1 b a o e,b2,b4,?_,va.append (.cons rv .nil),?_,ar⟩
    .have au:p∈X.pn++pins:=by
      rcases List.mem_append.mp B with z|z
      .exact z
      .exact absurd z (by simp)
     exact C2<|B3 (G.pin p au).1
    .rw[e2];simp
    .rw[B1,D5];exact lt
   .obtain⟨m',hm,w9⟩:=hN _ _ _ n9;obtain⟨b1,b2,b3,b4⟩:=R I9;exact .inr ⟨rfl,m',hm,i+1,E,H9,acc,its,nn,I9.pins_of fun p B=>absurd B (by simp),T.keep _ _ _ t7 b1,b2,b4,b3,va,la,w9⟩
 exact codeAny_compStart_list (P _ rfl)<|T.self _ 0 _ _ _ (T.keep _ _ _ U fun b _ o e=>a0 b o e)<|P _ rfl
def aKF(f:X.calm=true)(S:oD X N' cap scope)(hi:PI X tg iter c)
 (i:∀C s H fp pn,PG (bT X N' scope C s H fp pn) tg g) (a:∀C s H fp pn,AN (bT X N' scope C s H fp pn) ifs d) (j:∀C s H fp pn,PE (bT X N' scope C s H fp pn) elt e)
 (hs:∀x,foldedSetIterable iter X.env x=pure x:=by intro _;rfl):PE X (.ListComp elt [⟨tg,iter,ifs,0⟩] scope pos) (tLc cap c g d e):=by
 intro pins s o H Q I h;refine aHH f S hi i a j hs I h fun D C H' acc p k ⟨m,hn⟩ l _ n=>⟨m,hn,fun h' b=>?_⟩;exact⟨.ref D,_,l h' b,rfl,n⟩
end
noncomputable def aLA:Key->Tz
 |.inl i=>.int i
 |.inr x=>.str x
mutual
noncomputable def Rep(K:Fg)(H:Hp):Tz->V->Prop
 |.none,v=>v=.non
 |.bool b,v=>v=.bl b
 |.int i,v=>v=.int i
 |.str x,v=>v=.str x
 |.list xs,v=>∃a vs,v=.ref a/\SqL K H a vs/\aM K H xs vs
 |.tuple xs,v=>∃a vs,v=.ref a/\SqT K H a vs/\aM K H xs vs
 |.dict kvs,v=>∃a ks,v=.ref a/\H a=Z (.dK ks)/\sN K H kvs ks
noncomputable def aM(K:Fg)(H:Hp):T4->Tc->Prop
 |[],vs=>vs=[]
 |d::ds,vs=>∃v r,vs=v::r/\Rep K H d v/\aM K H ds r
noncomputable def sN(K:Fg)(H:Hp):Tv (Tz×Tz)->Tv (Key×V)->Prop
 |[],ks=>ks=[]
 |(k,d)::kvs,ks=>∃c v r,ks=(c,v)::r/\k=aLA c/\Rep K H d v/\sN K H kvs r
end
def kJ.seqT(e:kJ H H')(h:SqT K H a xs):SqT K H' a xs:=by
 rcases h with h|h
 .refine .inl ?_;rcases h with h|⟨o,h⟩
  .exact .inl (e _ _ h)
  .exact .inr ⟨o,e _ _ h⟩
 .exact .inr h
mutual
theorem Rep.same{K:Fg}{H H':Hp}(e:kJ H H'):∀(d:Tz)(v:V),Rep K H d v->Rep K H' d v
 |.none=>fun v h=>h
 |.bool b=>fun v h=>h
 |.int i=>fun v h=>h
 |.str x=>fun v h=>h
 |.list xs=>fun v h=>by
  obtain⟨a,vs,c,f,g⟩:=h;exact⟨a,vs,c,e.seq f,aM.same e xs vs g⟩
 |.tuple xs=>fun v h=>by
  obtain⟨a,vs,c,f,g⟩:=h;exact⟨a,vs,c,e.seqT f,aM.same e xs vs g⟩
 |.dict kvs=>fun v h=>by
  obtain⟨a,ks,c,f,g⟩:=h;exact⟨a,ks,c,e _ _ f,sN.same e kvs ks g⟩
theorem aM.same{K:Fg}{H H':Hp}(e:kJ H H'):∀(ds:T4)(vs:Tc),aM K H ds vs->aM K H' ds vs
 |[]=>fun vs h=>h
 |d::ds=>fun vs h=>by
  obtain⟨v,r,c,f,g⟩:=h;exact⟨v,r,c,Rep.same e d v f,aM.same e ds r g⟩
theorem sN.same{K:Fg}{H H':Hp}(e:kJ H H'):∀(kvs:Tv (Tz×Tz))(ks:Tv (Key×V)),sN K H kvs ks->sN K H' kvs ks
 |[]=>fun ks h=>h
 |(k,d)::kvs=>fun ks h=>by
  obtain⟨j,v,r,c,f,g,l⟩:=h;exact⟨j,v,r,c,f,Rep.same e d v g,sN.same e kvs r l⟩
end
theorem aM.length{K:Fg}{H:Hp}:∀{ds:T4}{vs:Tc},aM K H ds vs->ds.length=vs.length
 |[],vs=>fun h=>by rw[show vs=[]from h];rfl
 |d::ds,vs=>fun h=>by
  obtain⟨v,r,a,_,b⟩:=h;rw[a,C9,C9,aM.length b]
theorem aM.get{K:Fg}{H:Hp}:∀{ds:T4}{vs:Tc}{i:Nat}{v:V},aM K H ds vs->vs[i]?=Z v->∃d,ds[i]?=Z d/\Rep K H d v
 |[],vs,i,v=>fun h e=>by rw[show vs=[]from h]at e;simp at e
 |d::ds,vs,0,v=>fun h e=>by
  obtain⟨w,r,a,b,c⟩:=h;rw[a]at e;simp at e;subst e;exact⟨d,rfl,b⟩
 |d::ds,vs,i+1,v=>fun h e=>by
  obtain⟨w,r,a,b,c⟩:=h;rw[a]at e;exact aM.get (i:=i) c (by simpa using e)
theorem aM.app{K:Fg}{H:Hp}:∀{ds es:T4}{vs ws:Tc},aM K H ds vs->aM K H es ws->aM K H (ds++es) (vs++ws)
 |[],es,vs,ws=>fun h k=>by rw[show vs=[]from h];exact k
 |d::ds,es,vs,ws=>fun h k=>by
  obtain⟨v,r,a,b,c⟩:=h;exact⟨v,r++ws,by rw[a];rfl,b,aM.app c k⟩
section
variable{X:Cx}{pins:T2}{σ:St}{H:Hp}{s:Ua}
def Inv.sysN(I:Inv X pins σ H s):H sysModules=Y:=by
 obtain⟨o,es,ep,h,_⟩:=I.mod.sysm;exact(I.bs _ _ h).2
def Inv.sysL(I:Inv X pins σ H s)(h:SqL X.K H a xs):sysModules≠a:=by
 intro e;subst e;have hn:=I.sysN;rcases h with(h|⟨o,h⟩)|⟨o,its,n,c,_,_,hd,_⟩
 .rw[hn]at h;cases h
 .rw[hn]at h;cases h
 .obtain⟨o',es,ep,h',b⟩:=I.mod.sysm;have:=I.mod.kin _ _ c;rw[h']at this;cases this;rw[hd]at b;cases b
mutual
theorem Rep.reads'(I:Inv X pins σ H s):∀(d:Tz)(v:V)(u:Tx),Rep X.K H d v->RelV v u->∃as,Reads s.heap u d as/\sysModules∉as
 |.none=>fun v u r q=>by
  rw[show v=.non from r]at q;rw[show u=Value.none from q];exact⟨_,.none,by simp⟩
 |.bool b=>fun v u r q=>by
  rw[show v=.bl b from r]at q;rw[show u=Value.bool b from q];exact⟨_,.bool b,by simp⟩
 |.int i=>fun v u r q=>by
  rw[show v=.int i from r]at q;obtain⟨t,rfl⟩:=(show ∃t,u=Value.int i t from q);exact⟨_,.int i t,by simp⟩
 |.str x=>fun v u r q=>by
  rw[show v=.str x from r]at q;obtain⟨t,rfl⟩:=(show ∃t,u=Value.str x t from q);exact⟨_,.str x t,by simp⟩
 |.list xs=>fun v u r q=>by
  obtain⟨a,vs,rfl,c,f⟩:=r;rw[show u=Value.ref a from q];obtain⟨its,B,⟨o,n,g,h,_,hd⟩,_⟩:=I.list c;obtain⟨as,ha,hs⟩:=aM.reads' I xs vs its f B;exact⟨_,.list g h hd (by simpa using ha),fun z=>(List.mem_cons.mp z).elim (I.sysL c) hs⟩
 |.tuple xs=>fun v u r q=>by
  obtain⟨a,vs,rfl,c,f⟩:=r;rw[show u=Value.ref a from q];obtain⟨its,B,⟨o,g,h,n,hd⟩,_⟩:=I.tuple c;obtain⟨as,ha,hs⟩:=aM.reads' I xs vs its f B;exact⟨_,.tuple g h hd (by simpa using ha),hs⟩
 |.dict kvs=>fun v u r q=>by
  obtain⟨a,ks,rfl,c,f⟩:=r;rw[show u=Value.ref a from q];obtain⟨_,hS,vs,C,o,es,ep,g,D,hd,_,O,_⟩:=(show fM X.prog X.w H s.heap a (.dK ks)from I.hok a _ c);obtain⟨as,bs,P,Q,j,l⟩:=sN.reads' I kvs ks vs es.toList f C O;refine⟨_,.dict g D.1 hd P Q,fun z=>?_⟩;rcases List.mem_append.mp z with z|z
  .rcases List.mem_cons.mp z with z|z
   .rw[z]at hS;simp at hS
   .exact j z
  .exact l z
theorem aM.reads'(I:Inv X pins σ H s):∀(ds:T4)(vs:Tc)(us:T5),aM X.K H ds vs->bG vs us->∃as,ReadsAll s.heap us ds as/\sysModules∉as
 |[]=>fun vs us r q=>by
  rw[show vs=[]from r]at q;cases q;exact⟨_,.nil,by simp⟩
 |d::ds=>fun vs us r q=>by
  obtain⟨v,t,rfl,c,f⟩:=r;cases q with
  |cons A E=>
   obtain⟨as,ha,j⟩:=Rep.reads' I d v _ c A;obtain⟨bs,G,l⟩:=aM.reads' I ds t _ f E;exact⟨_,.cons ha G,fun z=>(List.mem_append.mp z).elim j l⟩
theorem sN.reads'(I:Inv X pins σ H s):∀(kvs:Tv (Tz×Tz))(ks:Tv (Key×V))(vs:Tv (Key×Tx))(es:Tv DictEntry),sN X.K H kvs ks->KV ks vs->Pairs (dD X.prog X.w) es vs->
 ∃as bs,ReadsAll s.heap (es.map (·.key)) (kvs.map (·.1)) as/\ReadsAll s.heap (es.map (·.val)) (kvs.map (·.2)) bs/\sysModules∉as/\sysModules∉bs
 |[]=>fun ks vs es r q p=>by
  rw[show ks=[]from r]at q;cases q;cases p;exact⟨_,_,.nil,.nil,by simp,by simp⟩
 |(k,d)::kvs=>fun ks vs es r q p=>by
  obtain⟨R,v,t,rfl,S,c,f⟩:=r;cases q with
  |@cons _ N _ T A E=>
   cases p with
   |@cons e _ U _ p1 p2 p3=>
    obtain⟨as,bs,ha,G,j,l⟩:=sN.reads' I kvs t _ _ f E p3;obtain⟨cs,h,n3⟩:=Rep.reads' I d v _ c A.2
    have m:Reads s.heap e.key k []:=by
     rw[S];have y:yW N.1 e.key=true:=p1;rw[<- show R=N.1 from A.1]at y;rcases cT y with⟨i,J,rfl,L⟩|⟨x,J,rfl,L⟩
     .rw[L];exact .int i J
     .rw[L];exact .str x J
    refine⟨_,_,.cons m ha,.cons (show Reads s.heap e.val d cs by rw[p2];exact h) G,by simpa using j,fun z=>(List.mem_append.mp z).elim n3 l⟩
end
def Rep.reads(I:Inv X pins σ H s)(d:Tz)(v:V)(u:Tx)(r:Rep X.K H d v)(q:RelV v u):∃as,Reads s.heap u d as:=let⟨as,h,_⟩:=Rep.reads' I d v u r q;⟨as,h⟩
def aM.reads(I:Inv X pins σ H s)(ds:T4)(vs:Tc)(us:T5)(r:aM X.K H ds vs)(q:bG vs us):∃as,ReadsAll s.heap us ds as:=let⟨as,h,_⟩:=aM.reads' I ds vs us r q;⟨as,h⟩
end
section
variable{X:Cx}
def WM(K:Fg)(neg:Bool):R2:=fun x y H Q=>∃dx a,Rep K H dx x/\Rep K H a y/\SeqAt.shaped dx=true/\SeqAt.shaped a=true/\Q (.bl (if neg then !PyData.eqv dx a else PyData.eqv dx a)) H
def aBK(a:X.A.units+64<cLine):OpR X (compareOp .Eq) (WM X.K false):=by
 intro pins s i H x y v u Q I b c h;obtain⟨dx,d,hx,hy,e,f,q⟩:=h;obtain⟨as,ha⟩:=Rep.reads I dx x v hx b;obtain⟨bs,g⟩:=Rep.reads I d y u hy c;exact eq_dataH ha g e f a ⟨.bl _,H,I,rfl,q⟩
def aJE(a:X.A.units+64<cLine):OpR X (compareOp .NotEq) (WM X.K true):=by
 intro pins s i H x y v u Q I b c h;obtain⟨dx,d,hx,hy,e,f,q⟩:=h;obtain⟨as,ha⟩:=Rep.reads I dx x v hx b;obtain⟨bs,g⟩:=Rep.reads I d y u hy c;exact ne_dataH ha g e f a ⟨.bl _,H,I,rfl,q⟩
open Classical in
noncomputable def DM(h:Heap)(dv:Tz)(u:Tx):Bool:=if ∃d as,Reads h u d as/\PyData.eqv d dv=true then true else false
def aDE(r:Reads h u d as)(b:d.canLay0=true):DM h dv u=PyData.eqv d dv:=by
 unfold DM;by_cases e:PyData.eqv d dv=true
 .rw[A4 ⟨d,as,r,e⟩,e]
 .rw[B0,Bool.eq_false_iff.mpr e];rintro⟨c,a,f,g⟩;have:=SeqAt.Reads.unique d c u as a b r f;subst this;exact e g
theorem BI{A:Ue}{s:Ua}(a:Reads s.heap v dv g)(b:SeqAt.shaped dv=true)(c:A.units+64<cLine):
 ∀(us:T5)(ds:T4)(as:Ta),ReadsAll s.heap us ds as->ds.all SeqAt.shaped=true->(∀y∈us,SeqAt.EqAt A s y v<|DM s.heap dv y)/\us.any (DM s.heap dv)=ds.any fun d=>PyData.eqv d dv
 |[]=>fun ds as r _=>by
  cases r;exact⟨fun y hy=>absurd hy (by simp),rfl⟩
 |y::us=>fun ds as r hs=>by
  cases r with
  |@cons _ _ d h i j f k=>
   rw[Z1,B8]at hs;obtain⟨l,m⟩:=BI a b c us _ _ k hs.2;have e:=aDE (dv:=dv) f<|S7 hs.1;have hy:SeqAt.EqAt A s y v (PyData.eqv d dv):=SeqAt.eqAt_reads d dv A s y v _ _ f a (S7 hs.1) (S7 b)<|SeqAt.room_of_shaped hs.1 c;refine⟨fun z n=>?_,by rw[U5,U5,e,m]⟩;rcases List.mem_cons.mp n with q|q
   .rw[q,e];exact hy
   .exact l z q
def aIW(K:Fg)(neg:Bool):R2:=fun x y H Q=>∃dx ds p vs,Rep K H dx x/\y=.ref p/\(SqL K H p vs\/SqT K H p vs)/\aM K H ds vs/\SeqAt.shaped dx=true/\ds.all SeqAt.shaped=true /\
 Q (.bl (if neg then !ds.any fun d=>PyData.eqv d dx else ds.any fun d=>PyData.eqv d dx)) H
def aHO(i:X.A.in1.units+64<cLine):OpR X (compareOp .In) (aIW X.K false):=by
 intro pins s n H x y v u Q I k l h;obtain⟨dx,ds,p,vs,hx,rfl,hp,a,j,b,q⟩:=h;cases l;obtain⟨as,ha⟩:=Rep.reads I dx x v hx k;rcases hp with hp|hp
 .obtain⟨its,r,c,m⟩:=I.list hp;obtain⟨bs,d⟩:=aM.reads I ds vs its a r;obtain⟨e,f⟩:=BI (A:=X.A.in1) ha j i its ds bs d b;refine SeqAt.in_listAt (DM s.heap dx) c.isList (fun w g=>e w (by simpa using g)) ⟨.bl _,H,I,rfl,?_⟩;rw[show its.toArray.any (DM s.heap dx)=its.any (DM s.heap dx)by simp,f];exact q
 .obtain⟨its,r,c,m⟩:=I.tuple hp;obtain⟨bs,d⟩:=aM.reads I ds vs its a r;obtain⟨e,f⟩:=BI (A:=X.A.in1) ha j i its ds bs d b;refine SeqAt.in_tupleAt (DM s.heap dx) c (fun w g=>e w (by simpa using g)) ⟨.bl _,H,I,rfl,?_⟩;rw[show its.toArray.any (DM s.heap dx)=its.any (DM s.heap dx)by simp,f];exact q
theorem bG.types:∀{Ts:Tv String}{its:T5},bG (Ts.map V.ty) its->its=Ts.map Value.type
 |[],_=>fun h=>by cases h;rfl
 |t::Ts,its=>fun h=>by
  cases h with
  |cons a b=>rw[show _=Value.type t from a,bG.types b];rfl
theorem bG.bools:∀{bs:Tv Bool}{its:T5},bG (bs.map V.bl) its->its=bs.map Value.bool
 |[],_=>fun h=>by cases h;rfl
 |b::bs,its=>fun h=>by
  cases h with
  |cons a c=>rw[show _=Value.bool b from a,bG.bools c];rfl
def all_range(bs:Tv Bool):(List.range bs.length).all (fun i=>bs.getD i false)=bs.all id:=by
 rw[Y8];simp only[List.all_eq_true,List.mem_range];constructor
 .intro h b a;obtain⟨i,hi,rfl⟩:=List.mem_iff_getElem.mp a;have:=h i hi;rw[C3,C5 hi]at this;exact this
 .intro h i hi;rw[C3,C5 hi];exact h _<|A0f hi
def yN{bs:Tv Bool}:TruthOf prog w A (fun i v=>(bs.map Value.bool).toArray[i]?=Z v) (fun i=>bs.getD i false):=by
 intro i v s Q E a d;rw[List.getElem?_toArray,D0]at a;cases e:bs[i]? with
 |none=>rw[e]at a;cases a
 |some b=>
  rw[e]at a;cases a;have f:bs.getD i false=b:=by rw[C3,e];rfl
  have c:Q (bs.getD i false) s:=d;rw[f]at c;exact U4 c
noncomputable def dQ:Nat:=2 ^ 8000
def aBB(i:Int):Prop:=i.natAbs<dQ
def JY(h:aBB j):j.natAbs.log2<9000:=by
 by_cases a:j.natAbs=0
 .rw[a];decide +kernel
 .exact Nat.lt_trans ((Nat.log2_lt a).mpr h) (by decide)
def aKK(i j:Int):Prop:=aBB i/\aBB j
def FH(h:aBB j):Builtin.Int.intBits j<=2 ^ 20:=by
 unfold Builtin.Int.intBits;by_cases a:(j==0)=true
 .rw[A4 a];exact E7 _
 .rw[B0 a];have:=JY h;omega
end
structure Callee(P:Ud)(w:World)(K:Fg)(mg:Str->Tf)(base:Heap)(k:Nat)(x:Str)(ps:Tb)(sp:Sp)(q:Bool:=true):Prop where
 ex:∃f fd,pO P w K mg base CX0 k f fd ps sp q/\mg x=Z (.ref f)/\PySem.W.keepIn K (.ref f)=true/\Binds K fd ps []
structure Def(K:Fg)(mg:Str->Tf)(x:Str)(st:Stmt):Prop where
 ex:∃f fd,Fun K x x st f fd/\mg x=Z (.ref f)
section
variable{P:Ud}{w:World}{K:Fg}{mg:Str->Tf}{base:Heap}{X:Cx}
def Def.ok{st:Stmt}{ps:Tb}{sp:Sp}{q:Bool}(D:Def K mg x st)(S:aR N ps (aH st))
 (b:∀(kV doc pm:Tx)(an:Th)(cdv ct:Tx)(us:T5),us.length=ps.length->bindArgs (PySem.W.fnOf x x (eT st) (bR st) (aH st) .none kV doc pm an cdv ct) ⟨us,[]⟩=pure (ps.zip us))
 (len:∀vs H Q E,sp vs H Q E->vs.length=ps.length)
 (a:∀(f:Ub)(cdv:Tx)(A:Ue)(outer:Tv Env)(s:Ua)(H:Hp)(vs:Tc)(Q:VK)(E:XK),cG k (A.deeper<|envOfC x (aH st) s.heap.objs.size f cdv) q->sp vs H Q E->
  ∃t,PSs (jG CX0 P w K mg base N x (aH st) f cdv A outer s H E q).nox (bR st) t/\t { nx:=fun _ H'=>Q .non H',rt:=Q } (start N vs) H):Callee P w K mg base (k+1) x ps sp q:=by
 obtain⟨f,fd,F,m⟩:=D.ex;exact⟨f,fd,F.ok S len fun cdv A outer s H vs Q E c h=>a f cdv A outer s H vs Q E c h,m,F.kp,F.binds b⟩
def Callee.mono{k:Nat}(C:Callee P w K mg base j x ps sp)(h:j<=k):Callee P w K mg base k x ps sp:=by
 obtain⟨f,fd,F,r⟩:=C.ex;exact⟨f,fd,F.mono h,r⟩
def def_mk{st:Stmt}{oc:Tx}{od:Th}{osl:Array (Tf)}{kV doc:Tx}(X:K.In h)(G:h.Ns mainGlobals mg)(a:PySem.W.nsIn K mainGlobals x=Z (Z (.ref f)))
 (l:K.lookup f=Z ⟨oc,od,.func (PySem.W.fnOf x x (eT st) (bR st) (aH st) .none kV doc pm an cdv ct),osl⟩) (c:PySem.W.codeIn K cdv x=true) (k:PySem.W.keepIn K (.ref f)=true):Def K mg x st:=
 ⟨f,_,aIT l c k,PySem.W.mg_of X G a⟩
def aCK{e:Uc}{es:T8}(C:Callee X.prog X.w X.K X.mg X.base k x ps sp q)(d:cG k X.A q)(ha:PA X (e::es) t)(g:Gl X x:=by rfl)
 (a:(x==("__debug__":Str))=false:=by decide) (h:starEach (e::es) X.env=(false,eval e X.env)::starEach es X.env:=by rfl) (c:(backTo pos<|starEach es X.env).any (·.1)=false:=by rfl):
 PE X (.Call (.Name x p) (e::es) [] pos) (RK sp [] E0 t):=by
 obtain⟨f,fd,F,m,kp,b⟩:=C.ex;exact RO F d g m kp b .nil aLb ha a h c
def cG.units1(r:cG k A):A.in1.units+64<cLine:=by have:=r.un;show A.units+1+64<_;omega
def VG(mg:Str->Tf)(xs:Tb):Prop:=∀x∈xs,mg x=Y
def VG.of(h:VG mg xs)(x:Str)(hx:x∈xs:=by decide +kernel):mg x=Y:=h x hx
def aCv:VG mg []:=fun _ h=>absurd h (by simp)
def eJ{x:Str}(h:mg x=Y)(a:VG mg xs):VG mg (x::xs):=fun y hy=>(List.mem_cons.mp hy).elim (fun e=>e▸h) (a y)
def MQ(i j:Int):Prop:=aIF i j\/aKK i j
def MQ.ok(h:MQ i j):IntMulOk i j:=by
 rcases h with h|h
 .exact h.ok
 .exact IntMulOk.of_bits (FH h.1)<|FH h.2
def aEC:OpR X (binaryOp .Mult) (rI MQ fun i j=>.int (i*j)):=opI fun _ _ _ _ _ _ _ a q=>mul_int q a.ok
def aGr(_ j:Int):Prop:=0<j/\aBB j
def aBW:OpR X (binaryOp .FloorDiv) (rI aGr fun i j=>.int (i / j)):=opI fun i j _ _ _ _ _ a q=>by
 refine floordiv_int (Int.ne_of_gt a.1) ?_ (.inl (PyProof.noPylong_of_log2<|JY a.2));rw[Int.fdiv_eq_ediv_of_nonneg _ (Int.le_of_lt a.1)];exact q
end
def aFI(sc0:Scope)(N N':Tb)(cap:T3)(scope:Scope):Bool:=
 scope.names.all (fun y=>y.2 != .cell)&&(scope.kind==.function)&&scope.names.all (fun y=>y.2 != .local || scope.names.lookup y.1==Z .local) &&
 scope.names.all (fun y=>y.2 != .free || (sc0.names.lookup y.1==Z .cell || sc0.names.lookup y.1==Z .free))&&(cap.length==N'.length) &&
 (List.range cap.length).all fun i=>match cap[i]? with
  |some (some j)=>(match N'[i]?,N[j]? with
   |some x,some y=>x==y&&scope.names.lookup x==Z .free
   |_,_=>false)
  |_=>true
def aDw{X:Cx}{k:Scope}{N:Tb}(n:X.env.scope=k)(o:X.N=N)(h:aFI k N N' cap scope=true):oD X N' cap scope:=by
 unfold aFI at h;simp only[Bool.and_eq_true,List.all_eq_true,beq_iff_eq,bne_iff_ne,Bool.or_eq_true,List.mem_range]at h;obtain⟨⟨⟨⟨⟨a,b⟩,c⟩,d⟩,e⟩,f⟩:=h;refine⟨a,b,fun y hy m=>?_,fun y hy m=>?_,e,fun i j l=>?_⟩
 .rcases c y hy with z|z
  .exact absurd m z
  .exact z
 .show X.env.scope.names.lookup y.1=_\/X.env.scope.names.lookup y.1=_;rw[n];rcases d y hy with z|z
  .exact absurd m z
  .exact z
 .have hi:=(List.getElem?_eq_some_iff.mp l).1;have g:=f i hi;rw[l]at g;dsimp only at g;rw[o];split at g
  .rename_i x y ex p;rw[B8,A0j,A0j]at g;exact⟨x,ex,by rw[p,g.1],g.2⟩
  .cases g
noncomputable def tyName:Tz->String
 |.none=>"NoneType"
 |.bool _=>"bool"
 |.int _=>"int"
 |.str _=>"str"
 |.list _=>"list"
 |.tuple _=>"tuple"
 |.dict _=>"dict"
noncomputable def asked:Tv String:=["int","bool","str","list","tuple","dict"]
noncomputable def isT(T S:String):Bool:=T==S || (T=="int"&&S=="bool")
def CQ(T:String)(d:Tz):Bool:=isT T<|tyName d
def aKf(S T:String):Tw Bool:=if (Value.type S==Value.type T)=true then Z true else if PySem.W.kitMeta T=true then(PySem.fastBuiltinMro S).map (·.contains (Value.type T))else Y
def aAV:(["NoneType","bool","int","str","list","tuple","dict"].all fun S=>asked.all fun T=>aKf S T==Z (isT T S))=true:=by decide +kernel
def aCP{T:String}(h:T∈asked):PySem.W.kitOne K (.type (tyName d)) (.type T)=Z (CQ T d):=by
 have e:PySem.W.kitOne K (.type (tyName d)) (.type T)=aKf (tyName d) T:=rfl;have a:=aAV;rw[List.all_eq_true]at a;have b:=a (tyName d) (by cases d<;>simp[tyName]);rw[List.all_eq_true]at b;exact eq_of_beq<|b T h
theorem SM{K:Fg}:∀{Ts:Tv String},(∀T∈Ts,T∈asked)->PySem.W.kitAny K (.type (tyName d)) (Ts.map Value.type)=Z (Ts.any fun T=>CQ T d)
 |[]=>fun _=>rfl
 |T::Ts=>fun h=>by
  rw[C0];unfold PySem.W.kitAny;rw[aCP (h T A9),U5];cases CQ T d with
  |true=>rfl
  |false=>rw[Bool.false_or];exact SM fun U a=>h U<|A8 _ a
section
variable{X:Cx}
def RQ{H:Hp}(I:Inv X pins g H s):∀{d:Tz}{v:V}{u:Tx},Rep X.K H d v->RelV v u->∃Hc:Heap->Prop,PySem.W.KitX X.K u (.type (tyName d)) Hc/\Hc s.heap/\u≠.builtin "__main__.__loader__#opaque"
 |.none,v,u=>fun h r=>by
  rw[show v=.non from h]at r;cases r;exact⟨_,PySem.W.kitx_none,True.intro,fun z=>nomatch z⟩
 |.bool b,v,u=>fun h r=>by
  rw[show v=.bl b from h]at r;cases r;exact⟨_,PySem.W.kitx_bool,True.intro,fun z=>nomatch z⟩
 |.int i,v,u=>fun h r=>by
  rw[show v=.int i from h]at r;obtain⟨t,q⟩:=r;cases q;exact⟨_,PySem.W.kitx_int,True.intro,fun z=>nomatch z⟩
 |.str x,v,u=>fun h r=>by
  rw[show v=.str x from h]at r;obtain⟨t,q⟩:=r;cases q;exact⟨_,PySem.W.kitx_str,True.intro,fun z=>nomatch z⟩
 |.list xs,v,u=>fun h r=>by
  obtain⟨a,vs,rfl,c,_⟩:=h;cases r;obtain⟨its,j,⟨o,n,e,f,_,hd⟩,_⟩:=I.list c;exact⟨_,PySem.W.kitx_list,⟨o,e,f⟩,fun z=>nomatch z⟩
 |.tuple xs,v,u=>fun h r=>by
  obtain⟨a,vs,rfl,c,_⟩:=h;cases r;obtain⟨its,j,⟨o,e,f,n,hd⟩,_⟩:=I.tuple c;exact⟨_,PySem.W.kitx_tuple,⟨o,e,f⟩,fun z=>nomatch z⟩
 |.dict kvs,v,u=>fun h r=>by
  obtain⟨a,ks,rfl,c,_⟩:=h;cases r;obtain⟨_,_,vs,_,o,es,ep,k,hx,_⟩:=(I.hok a _ c);exact⟨_,PySem.W.kitx_dict,⟨o,k,hx.1⟩,fun z=>nomatch z⟩
def aHL(K:Fg):Tc->Hp->VK->Prop:=fun xs H Q=>∃x T d,xs=[x,.ty T]/\T∈asked/\Rep K H d x/\Q (.bl (CQ T d)) H
def UX:fR X (.builtin "isinstance") (aHL X.K):=by
 intro pins s i H xs us Q I r h;obtain⟨x,T,d,rfl,hT,hd,q⟩:=h;obtain⟨u,j,rfl,e,b⟩:=vals2 r;cases b;obtain⟨Hc,a,f,c⟩:=RQ I hd e;exact PySem.W.kia_one a I.kIn f (aCP hT) c fun g=>⟨.bl _,H,I.tok g,rfl,q⟩
def aAZ(K:Fg):Tc->Hp->VK->Prop:=fun xs H Q=>∃(x:V)(p:Ub)(Ts:Tv String)(d:Tz),xs=[x,.ref p]/\H p=Z (.tup (Ts.map V.ty))/\(∀T∈Ts,T∈asked)/\Rep K H d x/\Q (.bl (Ts.any fun T=>CQ T d)) H
def PX:fR X (.builtin "isinstance") (aAZ X.K):=by
 intro pins s w H xs us Q I r h;obtain⟨x,p,Ts,d,rfl,i,hT,hd,q⟩:=h;obtain⟨u,y,rfl,j,c⟩:=vals2 r;cases c;obtain⟨_,its,k,o,l,e,n,f⟩:=(I.hok p _ i);have b:=bG.types k;subst b;obtain⟨oc,od,m,osl⟩:=o;subst e f;obtain⟨Hc,a,t,g⟩:=RQ I hd j;exact PySem.W.kia_tup a I.kIn t l (SM hT) g fun v=>⟨.bl _,H,I.tok v,rfl,q⟩
end
def kJ.upd(h:H p=Y):kJ H (upd H p o):=fun b u e=>by rw[aN (aO e h)];exact e
def aQ:Tz->Tw (T4)
 |.list xs=>Z xs
 |.tuple xs=>Z xs
 |_=>Y
def kC{K:Fg}{H:Hp}:∀{d:Tz}{v:V}{ds:T4},Rep K H d v->aQ d=Z ds->∃a vs,v=.ref a/\(SqL K H a vs\/SqT K H a vs)/\aM K H ds vs
 |.list xs,v,ds=>fun h e=>by
  obtain⟨a,vs,b,c,f⟩:=h;cases e;exact⟨a,vs,b,.inl c,f⟩
 |.tuple xs,v,ds=>fun h e=>by
  obtain⟨a,vs,b,c,f⟩:=h;cases e;exact⟨a,vs,b,.inr c,f⟩
 |.none,_,_=>fun _ e=>by cases e
 |.bool _,_,_=>fun _ e=>by cases e
 |.int _,_,_=>fun _ e=>by cases e
 |.str _,_,_=>fun _ e=>by cases e
 |.dict _,_,_=>fun _ e=>by cases e
section
variable{X:Cx}{tg:Uc}
def YL(K:Fg)(c:TE):TI:=fun d H R=>c d H fun x b=>∃a,x=.ref a/\((∃xs,SqL K b a xs/\R (Itl K a) b)\/(∃xs,SqT K b a xs/\R (Itt K a) b))
def aIO{l:Uc}{i:TE}(j:PE X l i):PI X tg l (YL X.K i):=by
 intro pins s k H R I h;refine thn (j pins s k H _ I h) fun v s1 d=>?_;obtain⟨x,f,c,m,a,e,n⟩:=d;subst e;cases m
 have fp:∀b∈[s1.heap.objs.size],kO X pins f b:=fun b r=>by
  have e:=List.mem_singleton.mp r;subst e;exact c.fpOk (A6 _)<|c.hok.fresh<|A6 _
 rcases n with⟨xs,g,q⟩|⟨xs,g,q⟩
 .obtain⟨its,t,p,d⟩:=c.list g;refine A0v p.isList ?_;exact⟨s1.heap.objs.size,[s1.heap.objs.size],_,_,f,rfl,c.kept fun b o e=>A2 _ e,xX a _,⟨_,C6 _ rfl,rfl,rfl⟩,fp,q⟩
 .obtain⟨its,t,p,d⟩:=c.tuple g;refine Z8 p ?_;exact⟨s1.heap.objs.size,[s1.heap.objs.size],_,_,f,rfl,c.kept fun b o e=>A2 _ e,vD a _,⟨_,C6 _ rfl,rfl,rfl⟩,fp,q⟩
end
inductive CD where
 |d (x:Tz)
 |c (n:Nat)
 |t (xs:Tv (Tz ⊕ Nat))
 |f (kvs:Tv (Tv Key×Tz))
 |g (nm:Str)
abbrev Tu:=Tv (Str×CD)
abbrev Te:=Tw CD
abbrev T6:=Tv CD
inductive Cell where
 |lst (xs:T6)
 |dk (kvs:Tv (Key×CD))
 |dt (kvs:Tv (Tv Key×CD))
 |obj (nm:Str) (fs:Tu)
 |exc (fr:Bool) (nm:Str) (fs:Tu)
 |dead
structure Wd where
 F:Hp
 α:Nat->Ub
 n:Nat
structure Wd.Ext(W W':Wd):Prop where
 ff:kJ W.F W'.F
 ln:W.n<=W'.n
 al:∀i,i<W.n->W'.α i=W.α i
def Wd.Ext.refl(W:Wd):W.Ext W:=⟨kJ.refl _,A6 _,fun _ _=>rfl⟩
def Wd.Ext.trans(a:W.Ext c)(b:c.Ext d):W.Ext d:=⟨a.ff.trans b.ff,F5 a.ln b.ln,fun i h=>(b.al i<|B6 h a.ln).trans (a.al i h)⟩
def VD(K:Fg)(W:Wd):Tz ⊕ Nat->V->Prop
 |.inl x,v=>Rep K W.F x v
 |.inr i,v=>i<W.n/\v=.ref (W.α i)
noncomputable def cdA:Tz ⊕ Nat->CD
 |.inl x=>.d x
 |.inr i=>.c i
def bZ(K:Fg)(nm:Str):Ub:=match PySem.W.nsIn K mainGlobals nm with
 |some (some (.ref C))=>C
 |_=>0
def cL(K:Fg)(W:Wd):CD->V->Prop
 |.d x,v=>Rep K W.F x v
 |.c i,v=>i<W.n/\v=.ref (W.α i)
 |.t xs,v=>∃a vs,v=.ref a/\W.F a=Z (.tup vs)/\Paired (VD K W) xs vs
 |.f kvs,v=>∃a o us,v=.ref a/\W.F a=Z (.frz o (.dT us))/\Paired (fun p q=>p.1=q.1/\Rep K W.F p.2 q.2) kvs us
 |.g nm,v=>v=.ref (bZ K nm)
abbrev cM(K:Fg)(W:Wd):T6->Tc->Prop:=Paired<|cL K W
def OL(K:Fg)(W:Wd):Te->Tw V->Prop
 |none,none=>True
 |some x,some v=>cL K W x v
 |_,_=>False
abbrev cP(K:Fg)(W:Wd):Tv (Te)->St->Prop:=Paired<|OL K W
noncomputable def chA:T5:=[.ref 49]
noncomputable def chT:Bool:=true
def DN(c:Tx):Bool:=!chA.contains c
def cxq(cf:Bool)(c:Tx):Bool:=DN c || (cf&&chT)
def aJN(h:DN c=true):cxq cf c=true:=by unfold cxq;rw[h];rfl
def AV(a:Ub)(c:Tx)(dx:Th)(fr:Bool)(h:Heap):Prop:=∃o vs,h.get? a=Z o/\o.cls=c/\o.dict=dx/\o.data=.fields vs/\(fr=true->4<vs.size/\vs[1]?=Z .none/\vs[2]?=Z .none)/\(DN c=true->vs[2]?=Z .none)
def JP(K:Fg)(W:Wd)(dx:Th)(fs:Tu):Prop:=match dx with
 |none=>fs=[]
 |some d=>fs≠[]/\∃us,W.F d=Z (.xd us)/\Paired (fun p q=>p.1=q.1/\cL K W p.2 q.2) fs us
def IP(K:Fg)(W:Wd)(a:Ub):Cell->HO->Prop
 |.lst xs,.lst vs=>cM K W xs vs
 |.dk kvs,.dK us=>Paired (fun p q=>p.1=q.1/\cL K W p.2 q.2) kvs us
 |.dt kvs,.dT us=>Paired (fun p q=>p.1=q.1/\cL K W p.2 q.2) kvs us
 |.obj nm fs,.ins C _ us=>C=bZ K nm/\Paired (fun p q=>p.1=q.1/\cL K W p.2 q.2) fs us
 |.exc fr nm fs,.ext b=>∃dx,b=AV a (.ref (bZ K nm)) dx fr/\JP K W dx fs
 |_,_=>False
noncomputable def aAj:Tb:=["straight_within"]
def tabOf(K:Fg):Tx->Th
 |.ref c=>match K.lookup c with
  |some o=>(match o.data with
   |.fields vs=>(match (vs[11]?:Tf)with
    |some (Value.ref P)=>Z P
    |_=>Y)
   |_=>Y)
  |none=>Y
 |_=>Y
def aCb(K:Fg):Tv (Ub×Str):=K.filterMap fun p=>match p.2.data with
 |.func fd=>if aAj.contains fd.name=true then(tabOf K fd.code).map fun P=>(P,fd.qualname++".<locals>.<lambda>")else Y
 |_=>Y
def TabAt(H:Hp)(x:Ub×Str):Prop:=∃ps,H x.1=Z (.tbl ps)/\TriplesOk ps.toList/\∀pos a,codeAmong pos ps.toList=Z a->∃c' oc u vs t,a=.ref c'/\H c'=Z (.frz oc u)/\oc.data=.fields vs/\vs[1]?=Z (.str x.2 t)
def TabAt.upd(h:TabAt H x)(b:∀ps,H p≠Z (.tbl ps))(d:∀ob u,H p≠Z (.frz ob u)):TabAt (upd H p o) x:=by
 obtain⟨ps,e,t,k⟩:=h;refine⟨ps,by rw[aN (show x.1≠p from fun z=>b ps (z▸e))];exact e,t,fun pos f c=>?_⟩;obtain⟨c',oc,u,vs,g,i,a,j⟩:=k pos f c;exact⟨c',oc,u,vs,g,i,by rw[aN (show c'≠p from fun z=>d oc u (z▸a))];exact a,j⟩
def TabsOk(K:Fg)(F H:Hp):Prop:=∀x∈aCb K,F x.1=Y/\TabAt H x
def TabsOk.upd(h:TabsOk K F H)(a:∀ps,H p≠Z (.tbl ps))(b:∀ob u,H p≠Z (.frz ob u)):TabsOk K F (upd H p o):=fun x hx=>⟨(h x hx).1,(h x hx).2.upd a b⟩
def TabsOk.fresh(h:TabsOk K F H)(hp:H p=Y):TabsOk K F (L2.upd H p o):=h.upd (fun ps e=>by rw[hp]at e;cases e) fun ob u e=>by rw[hp]at e;cases e
def TabsOk.updF{p:Ub}{o:HO}(h:TabsOk K F H)(a:∀ps,H p≠Z (.tbl ps)):TabsOk K (L2.upd F p o) H:=fun x hx=>⟨by
 obtain⟨ps,e,_⟩:=(h x hx).2;rw[aN (show x.1≠p from fun z=>a ps (z▸e))];exact(h x hx).1,(h x hx).2⟩
def IP.nt(r:IP K W a c o):(∀ps,o≠.tbl ps)/\∀ob u,o≠.frz ob u:=by
 cases c<;>cases o<;>first|exact False.elim r|exact⟨fun _ e=>(by cases e),fun _ _ e=>(by cases e)⟩
def TabsOk.cell{o:HO}(h:TabsOk K F H)(e:H a=Z o)(r:IP K W a c o):TabsOk K F (L2.upd H a o'):=
 h.upd (fun ps z=>r.nt.1 ps<|D3<|e.symm.trans z) fun ob u z=>r.nt.2 ob u<|D3<|e.symm.trans z
structure Good(K:Fg)(W:Wd)(M:Tv Cell)(H:Hp):Prop where
 fh:kJ W.F H
 n:W.n=M.length
 cs:∀i c,M[i]?=Z c->c≠.dead->W.F (W.α i)=Y/\∃o,H (W.α i)=Z o/\IP K W (W.α i) c o
 inj:∀i j c c',M[i]?=Z c->M[j]?=Z c'->c≠.dead->c'≠.dead->W.α i=W.α j->i=j
 tb:TabsOk K W.F H
section
variable{K:Fg}{W W':Wd}{M M':Tv Cell}{H H':Hp}
def VD.up(h:VD K W x v)(e:W.Ext W'):VD K W' x v:=by
 cases x with
 |inl x=>exact Rep.same e.ff _ _ h
 |inr i=>exact⟨B6 h.1 e.ln,by rw[e.al i h.1];exact h.2⟩
def cL.up(h:cL K W x v)(e:W.Ext W'):cL K W' x v:=by
 cases x with
 |d x=>exact Rep.same e.ff _ _ h
 |c i=>exact⟨B6 h.1 e.ln,by rw[e.al i h.1];exact h.2⟩
 |t xs=>
  obtain⟨a,vs,b,j,k⟩:=h;exact⟨a,vs,b,e.ff _ _ j,Paired.mapP k fun _ _ r=>VD.up r e⟩
 |f kvs=>
  obtain⟨a,o,us,b,j,k⟩:=h;exact⟨a,o,us,b,e.ff _ _ j,Paired.mapP k fun _ _ r=>⟨r.1,Rep.same e.ff _ _ r.2⟩⟩
 |g nm=>exact h
def cM.up(h:cM K W xs vs)(e:W.Ext W'):cM K W' xs vs:=Paired.mapP h fun _ _ r=>cL.up r e
def cP.up{γ:Tv (Te)}(h:cP K W γ c)(e:W.Ext W'):cP K W' γ c:=Paired.mapP h fun a b r=>by
 cases a<;>cases b
 .exact True.intro
 .exact False.elim r
 .exact False.elim r
 .exact cL.up r e
def JP.up(h:JP K W dx fs)(e:W.Ext W'):JP K W' dx fs:=by
 cases dx with
 |none=>exact h
 |some d=>
  obtain⟨a,us,b,c⟩:=h;exact⟨a,us,e.ff _ _ b,Paired.mapP c fun _ _ r=>⟨r.1,cL.up r.2 e⟩⟩
def IP.up(h:IP K W a c o)(e:W.Ext W'):IP K W' a c o:=by
 cases c<;>cases o<;>first|exact(let⟨dx,b,d⟩:=h;⟨dx,b,d.up e⟩)|exact False.elim h|exact cM.up h e|exact Paired.mapP h fun _ _ r=>⟨r.1,cL.up r.2 e⟩|exact⟨h.1,Paired.mapP h.2 fun _ _ r=>⟨r.1,cL.up r.2 e⟩⟩
def Good.lay(g:Good K W M H){o:HO}(hp:H p=Y):W.Ext { W with F:=upd W.F p o }/\Good K { W with F:=upd W.F p o } M (upd H p o):=by
 have fp:=g.fh.free hp;have e:W.Ext { W with F:=upd W.F p o }:=⟨kJ.upd fp,A6 _,fun _ _=>rfl⟩;refine⟨e,?_,g.n,fun i c hi h=>?_,g.inj,(g.tb.updF fun ps e=>by rw[hp]at e;cases e).fresh hp⟩
 .intro b u a;have a:upd W.F p o b=Z u:=a;by_cases q:b=p
  .subst q;rw[aW]at a;rw[aW];exact a
  .rw[aN q]at a;rw[aN q];exact g.fh b u a
 .obtain⟨j,o',d,k⟩:=g.cs i c hi h;have f:=aO d hp;exact⟨by show upd W.F p o (W.α i)=Y;rw[aN f];exact j,o',by rw[aN f];exact d,k.up e⟩
noncomputable def Wd.more(W:Wd)(p:Ub):Wd:={ W with α:=fun i=>if i=W.n then p else W.α i,n:=W.n+1 }
def Wd.ext_more(W:Wd)(p:Ub):W.Ext (W.more p):=⟨kJ.refl _,A0c _,fun i h=>B0<|C2 h⟩
def Good.new(g:Good K W M H)(hp:H p=Y)(r:IP K W p c o):Good K (W.more p) (M++[c]) (upd H p o):=by
 have e:=W.ext_more p
 have at_:∀i c',(M++[c])[i]?=Z c'->(i<M.length/\M[i]?=Z c')\/(i=M.length/\c'=c):=fun i c' h=>by
  by_cases q:i<M.length
  .rw[E5 q]at h;exact .inl ⟨q,h⟩
  .rw[B4 (Nat.le_of_not_lt q)]at h
   have h':i-M.length=0:=by
    cases k:i-M.length with
    |zero=>rfl
    |succ m=>rw[k]at h;simp at h
   rw[h']at h;refine .inr ⟨by omega,?_⟩;simpa using h.symm
 have al:=fun i h=>e.al i (by rw[g.n];exact h);have an:(W.more p).α M.length=p:=by show(if M.length=W.n then p else _)=p;rw[A4 g.n.symm]
 have a:∀i c',M[i]?=Z c'->c'≠.dead->W.α i≠p:=fun i c' h f=>by
  obtain⟨_,o',s,_⟩:=g.cs i c' h f;exact aO s hp
 refine⟨?_,?_,fun i c' hi f=>?_,fun i j t l hi w x y d=>?_,g.tb.fresh hp⟩
 .intro b u z;have:=g.fh b u z;rw[aN (aO this hp)];exact this
 .show W.n+1=_;rw[g.n,B1];rfl
 .rcases at_ i c' hi with⟨q,h⟩|⟨rfl,rfl⟩
  .obtain⟨A,o',s,B⟩:=g.cs i c' h f;rw[al i q];exact⟨A,o',by rw[aN (a i c' h f)];exact s,B.up e⟩
  .rw[an];exact⟨g.fh.free hp,o,aW,r.up e⟩
 .rcases at_ i t hi with⟨q,h⟩|⟨rfl,rfl⟩
  .rcases at_ j l w with⟨v,h'⟩|⟨rfl,rfl⟩
   .rw[al i q,al j v]at d;exact g.inj i j t l h h' x y d
   .rw[al i q,an]at d;exact absurd d<|a i t h x
  .rcases at_ j l w with⟨v,h'⟩|⟨rfl,rfl⟩
   .rw[an,al j v]at d;exact absurd d.symm<|a j l h' y
   .rfl
def Good.set(g:Good K W M H){i:Nat}{c:Cell}(hi:M[i]?=Z c)(a:c≠.dead)(r:IP K W (W.α i) c' o'):Good K W (M.set i c') (upd H (W.α i) o'):=by
 obtain⟨p,o,w,x⟩:=g.cs i c hi a;have lt:=(List.getElem?_eq_some_iff.mp hi).1
 have at_:∀j d,(M.set i c')[j]?=Z d->(j=i/\d=c')\/(j≠i/\M[j]?=Z d):=fun j d h=>by
  by_cases q:i=j
  .subst q;rw[O1 lt]at h;exact .inl ⟨rfl,(D3 h).symm⟩
  .rw[S4 q]at h;exact .inr ⟨fun z=>q z.symm,h⟩
 refine⟨?_,by rw[g.n,Y9],fun j d e hd=>?_,fun j k f l e y s t m=>?_,g.tb.cell w x⟩
 .intro b u v;rw[aN (aO v p)];exact g.fh b u v
 .rcases at_ j d e with⟨rfl,rfl⟩|⟨q,h⟩
  .exact⟨p,o',aW,r⟩
  .obtain⟨A,u,B,C⟩:=g.cs j d h hd;have D:=fun z=>q<|g.inj j i d c h hi hd a z;exact⟨A,u,by rw[aN D];exact B,C⟩
 .rcases at_ j f e with⟨rfl,rfl⟩|⟨q,h⟩<;>rcases at_ k l y with⟨rfl,rfl⟩|⟨E,h'⟩
  .rfl
  .exact g.inj _ k c l hi h' a t m
  .exact g.inj j _ f c h hi s a m
  .exact g.inj j k f l h h' s t m
end
noncomputable abbrev Ga:=Tv<|Te
noncomputable abbrev Sto:=Tv Cell
abbrev EF:=Ga->Sto->Option (CD×Sto)
abbrev TF:=Ga->Sto->Tw (Bool×Sto)
abbrev AF:=Ga->Sto->Option (List CD×Sto)
inductive Out where
 |nx (γ:Ga)|bk (γ:Ga)|ct (γ:Ga)|rt (x:CD)
abbrev SF:=Ga->Sto->Tw (Out×Sto)
abbrev GF:=CD->Ga->Sto->Tw (Ga×Sto)
abbrev GsF:=T6->Ga->Sto->Tw (Ga×Sto)
abbrev F1:=CD->Sto->Tw (CD×Sto)
abbrev F2:=CD->CD->Sto->Tw (CD×Sto)
abbrev FN:=T6->Sto->Tw (CD×Sto)
section
variable(K:Fg)
def SE(t:TE)(f:EF):Prop:=∀γ M x M',f γ M=Z (x,M')->∀(W:Wd)(H:Hp)(a:St)(Q:VK),Good K W M H->cP K W γ a->(∀v W' H',W.Ext W'->Good K W' M' H'->cL K W' x v->Q v H')->t a H Q
def STt(t:TT)(f:TF):Prop:=∀γ M b M',f γ M=Z (b,M')->∀(W:Wd)(H:Hp)(a:St)(Q:Bool->Hp->Prop),Good K W M H->cP K W γ a->(∀W' H',W.Ext W'->Good K W' M' H'->Q b H')->t a H Q
def SA(t:TA)(f:AF):Prop:=∀γ M xs M',f γ M=Z (xs,M')->∀(W:Wd)(H:Hp)(a:St)(Q:Tc->Hp->Prop),Good K W M H->cP K W γ a->(∀vs W' H',W.Ext W'->Good K W' M' H'->cM K W' xs vs->Q vs H')->t a H Q
def aCi(D:Ends)(W:Wd)(H:Hp):Out->Prop
 |.nx γ=>∀a,cP K W γ a->D.nx a H
 |.bk γ=>∀a,cP K W γ a->D.bk a H
 |.ct γ=>∀a,cP K W γ a->D.ct a H
 |.rt x=>∀v,cL K W x v->D.rt v H
def SS(t:TS)(f:SF):Prop:=∀γ M o M',f γ M=Z (o,M')->∀(W:Wd)(H:Hp)(a:St)(D:Ends),Good K W M H->cP K W γ a->(∀W' H',W.Ext W'->Good K W' M' H'->aCi K D W' H' o)->t D a H
def SG(t:TG)(f:GF):Prop:=∀x γ M a M',f x γ M=Z (a,M')->∀(W:Wd)(H:Hp)(c:St)(v:V)(Q:St->Hp->Prop),Good K W M H->cP K W γ c->cL K W x v->(∀b W' H',W.Ext W'->Good K W' M' H'->cP K W' a b->Q b H')->t v c H Q
def SGs(t:TGs)(f:GsF):Prop:=∀xs γ M a M',f xs γ M=Z (a,M')->∀(W:Wd)(H:Hp)(c:St)(vs:Tc)(Q:St->Hp->Prop),Good K W M H->cP K W γ c->cM K W xs vs->(∀b W' H',W.Ext W'->Good K W' M' H'->cP K W' a b->Q b H')->t vs c H Q
def P2(r:R2)(f:F2):Prop:=∀x y M z M',f x y M=Z (z,M')->∀(W:Wd)(H:Hp)(v u:V)(Q:VK),Good K W M H->cL K W x v->cL K W y u->(∀w W' H',W.Ext W'->Good K W' M' H'->cL K W' z w->Q w H')->r v u H Q
def P1(r:V->Hp->VK->Prop)(f:F1):Prop:=∀x M z M',f x M=Z (z,M')->∀(W:Wd)(H:Hp)(v:V)(Q:VK),Good K W M H->cL K W x v->(∀w W' H',W.Ext W'->Good K W' M' H'->cL K W' z w->Q w H')->r v H Q
def PN(r:Tc->Hp->VK->Prop)(f:FN):Prop:=∀xs M z M',f xs M=Z (z,M')->∀(W:Wd)(H:Hp)(vs:Tc)(Q:VK),Good K W M H->cM K W xs vs->(∀w W' H',W.Ext W'->Good K W' M' H'->cL K W' z w->Q w H')->r vs H Q
def spM(f:FN):Sp:=fun vs H Q _=>∃xs M W y M',Good K W M H/\cM K W xs vs/\f xs M=Z (y,M')/\∀v W' H',W.Ext W'->Good K W' M' H'->cL K W' y v->Q v H'
end
def aD(i:Nat):EF:=fun γ M=>match γ[i]? with
 |some (some x)=>Z (x,M)
 |_=>Y
def fC(x:Tz):EF:=fun _ M=>Z (.d x,M)
noncomputable def fOp(h:F2)(f g:EF):EF:=fun γ M=>(f γ M).bind fun r=>(g γ r.2).bind fun q=>h r.1 q.1 q.2
noncomputable def fUn(h:F1)(f:EF):EF:=fun γ M=>(f γ M).bind fun r=>h r.1 r.2
def asB:CD->Tw Bool
 |.d (.bool b)=>Z b
 |_=>Y
def qN(f g:EF):EF:=fun γ M=>(f γ M).bind fun r=>(asB r.1).bind fun b=>if b=true then g γ r.2 else Z (.d (.bool false),r.2)
def fOr(f g:EF):EF:=fun γ M=>(f γ M).bind fun r=>(asB r.1).bind fun b=>if b=true then Z (.d (.bool true),r.2)else g γ r.2
def aEN(f:EF):EF:=fun γ M=>(f γ M).bind fun r=>(asB r.1).bind fun b=>Z (.d (.bool (!b)),r.2)
noncomputable def fIf(t:TF)(f g:EF):EF:=fun γ M=>(t γ M).bind fun r=>if r.1=true then f γ r.2 else g γ r.2
def DT(f g:TF):TF:=fun γ M=>(f γ M).bind fun r=>if r.1=true then g γ r.2 else Z (false,r.2)
def gOr(f g:TF):TF:=fun γ M=>(f γ M).bind fun r=>if r.1=true then Z (true,r.2)else g γ r.2
def iM(f:TF):TF:=fun γ M=>(f γ M).bind fun r=>Z (!r.1,r.2)
def gB(f:EF):TF:=fun γ M=>(f γ M).bind fun r=>(asB r.1).bind fun b=>Z (b,r.2)
def IY(h h':F2)(f g e:EF):EF:=fun γ M=>(f γ M).bind fun r=>(g γ r.2).bind fun q=>(h r.1 q.1 q.2).bind fun z=>(asB z.1).bind fun b=>if b=true then(e γ z.2).bind fun w=>h' q.1 w.1 w.2 else Z (.d (.bool false),z.2)
def aG:AF:=fun _ M=>Z ([],M)
def aC(f:EF)(g:AF):AF:=fun γ M=>(f γ M).bind fun r=>(g γ r.2).bind fun q=>Z (r.1::q.1,q.2)
def mV:T6->Tw (T4)
 |[]=>Z []
 |.d x::r=>(mV r).map (x::·)
 |.c _::_=>Y
 |.t _::_=>Y
 |.f _::_=>Y
 |.g _::_=>Y
def bY(f:AF):EF:=fun γ M=>(f γ M).bind fun r=>(mV r.1).bind fun ds=>if ds.length<=sizeLine then Z (.d (.tuple ds),r.2)else Y
def iQ(f:AF):EF:=fun γ M=>(f γ M).bind fun r=>(mV r.1).bind fun ds=>if ds.length<=sizeLine then Z (.d (.list ds),r.2)else Y
def lM(f:AF):EF:=fun γ M=>(f γ M).bind fun r=>if r.1.length<=sizeLine then Z (.c r.2.length,r.2++[.lst r.1])else Y
noncomputable def aK(h:FN)(f:AF):EF:=fun γ M=>(f γ M).bind fun r=>h r.1 r.2
def bX:SF:=fun γ M=>Z (.nx γ,M)
def aS(f g:SF):SF:=fun γ M=>(f γ M).bind fun r=>match r.1 with
 |.nx a=>g a r.2
 |o=>Z (o,r.2)
def mD(f:EF):SF:=fun γ M=>(f γ M).bind fun r=>Z (.nx γ,r.2)
def bQ(f:EF):SF:=fun γ M=>(f γ M).bind fun r=>Z (.rt r.1,r.2)
def aLo:SF:=fun _ M=>Z (.rt (.d .none),M)
noncomputable def sIf(c:TF)(f g:SF):SF:=fun γ M=>(c γ M).bind fun r=>if r.1=true then f γ r.2 else g γ r.2
def bC(f:EF)(g:GF):SF:=fun γ M=>(f γ M).bind fun r=>(g r.1 γ r.2).bind fun q=>Z (.nx q.1,q.2)
def hName(i:Nat):GF:=fun x γ M=>Z (γ.set i<|Z x,M)
def iV:GsF:=fun xs γ M=>match xs with
 |[]=>Z (γ,M)
 |_=>Y
def bD(f:GF)(g:GsF):GsF:=fun xs γ M=>match xs with
 |x::r=>(f x γ M).bind fun q=>g r q.1 q.2
 |[]=>Y
def iB(n:Nat)(g:GsF):GF:=fun x γ M=>match x with
 |.d (.tuple ds)=>if ds.length=n then g (ds.map .d) γ M else Y
 |.t xs=>if xs.length=n then g (xs.map cdA) γ M else Y
 |_=>Y
abbrev F3:=CD->CD->CD->Sto->Tw Sto
def hSub(fo a:EF)(s:F3):GF:=fun x γ M=>(fo γ M).bind fun r=>(a γ r.2).bind fun q=>(s r.1 q.1 x q.2).bind fun M'=>Z (γ,M')
def aCy(i j:Nat)(f:AF):SF:=fun γ M=>(f γ M).bind fun r=>match r.1 with
 |[x,y]=>Z (.nx ((γ.set i<|Z x).set j (Z y)),r.2)
 |_=>Y
def kZ(g:GF)(b:SF):T6->Ga->Sto->Tw (Out×Sto)
 |[],γ,M=>Z (.nx γ,M)
 |x::xs,γ,M=>(g x γ M).bind fun r=>(b r.1 r.2).bind fun q=>match q.1 with
  |.nx a=>kZ g b xs a q.2
  |.ct a=>kZ g b xs a q.2
  |.bk a=>Z (.nx a,q.2)
  |.rt x=>Z (.rt x,q.2)
def mP(f:AF)(g:GF)(b:SF):SF:=fun γ M=>(f γ M).bind fun r=>kZ g b r.1 γ r.2
def fJ(c:TF)(b:SF):Nat->Ga->Sto->Tw (Out×Sto)
 |0,_,_=>Y
 |n+1,γ,M=>(c γ M).bind fun r=>if r.1=true then(b γ r.2).bind fun q=>match q.1 with
  |.nx a=>fJ c b n a q.2
  |.ct a=>fJ c b n a q.2
  |.bk a=>Z (.nx a,q.2)
  |.rt x=>Z (.rt x,q.2)else Z (.nx γ,r.2)
open Classical in
noncomputable def sS(c:TF)(b:SF):SF:=fun γ M=>if h:∃n,(fJ c b n γ M).isSome=true then fJ c b h.choose γ M else Y
def lcF(g:GF)(c:TF)(e:EF):T6->Ga->Sto->Tw (T6×Sto)
 |[],γ,M=>Z ([],M)
 |x::xs,γ,M=>(g x γ M).bind fun a=>(c a.1 a.2).bind fun b=>if b.1=true then(e a.1 b.2).bind fun r=>(lcF g c e xs a.1 r.2).bind fun q=>Z (r.1::q.1,q.2)else lcF g c e xs a.1 b.2
noncomputable def DX(cap:T3)(γ:Ga):Ga:=cap.map fun o=>o.bind fun j=>(γ[j]?).join
def eN:TF:=fun _ M=>Z (true,M)
def yO(cap:T3)(f:AF)(g:GF)(c:TF)(e:EF):AF:=fun γ M=>(f γ M).bind fun r=>if r.1.length<=sizeLine then lcF g c e r.1 (DX cap γ) r.2 else Y
def fLc(cap:T3)(f:AF)(g:GF)(c:TF)(e:EF):EF:=iQ<|yO cap f g c e
def KM(cap:T3)(f:AF)(g:GF)(c:TF)(e:EF):EF:=lM<|yO cap f g c e
def fnF(ps N:Nat)(b:SF):FN:=fun xs M=>if xs.length=ps then(b (xs.map Z++List.replicate (N-xs.length) Y) M).bind fun r=>match r.1 with
 |.rt x=>Z (x,r.2)
 |.nx _=>Z (.d .none,r.2)
 |_=>Y else Y
def aI{b c:Type}{o:Tw b}{k:b->Tw c}{r:c}(h:o.bind k=Z r):∃a,o=Z a/\k a=Z r:=by
 cases o with
 |none=>cases h
 |some a=>exact⟨a,rfl,h⟩
theorem Paired.get{a b:Type}{R:a->b->Prop}:∀{xs:Tv a}{ys:Tv b}{i:Nat}{x:a},Paired R xs ys->xs[i]?=Z x->∃y,ys[i]?=Z y/\R x y
 |_,_,_,_,.nil=>fun e=>by simp at e
 |_,_,0,_,.cons r _=>fun e=>by simp at e;subst e;exact⟨_,rfl,r⟩
 |_,_,i+1,x,.cons _ t=>fun e=>by
  obtain⟨u,c,d⟩:=Paired.get t (by simpa using e);exact⟨u,by simpa using c,d⟩
theorem Paired.set{a b:Type}{R:a->b->Prop}{x:a}{y:b}(r:R x y):∀{xs:Tv a}{ys:Tv b}(i:Nat),Paired R xs ys->Paired R (xs.set i x) (ys.set i y)
 |_,_,_,.nil=>.nil
 |_,_,0,.cons _ t=>.cons r t
 |_,_,i+1,.cons q t=>.cons q (Paired.set r i t)
theorem Paired.app{c d:Type}{R:c->d->Prop}:∀{xs a:Tv c}{ys b:Tv d},Paired R xs ys->Paired R a b->Paired R (xs++a) (ys++b)
 |_,_,_,_,.nil=>fun s=>s
 |_,_,_,_,.cons r t=>fun s=>.cons r (Paired.app t s)
def Paired.len{a b:Type}{R:a->b->Prop}{xs:Tv a}{ys:Tv b}(p:Paired R xs ys):xs.length=ys.length:=A1a p
section
variable{K:Fg}
theorem eM{W:Wd}:∀{xs:T6}{ds:T4}{vs:Tc},mV xs=Z ds->cM K W xs vs->aM K W.F ds vs
 |[],ds,vs=>fun e h=>by
  cases e;cases h;rfl
 |.c _::_,ds,vs=>fun e h=>by cases e
 |.t _::_,ds,vs=>fun e h=>by cases e
 |.f _::_,ds,vs=>fun e h=>by cases e
 |.g _::_,ds,vs=>fun e h=>by cases e
 |.d x::r,ds,vs=>fun e h=>by
  cases h with
  |@cons _ v _ a b i=>
   unfold mV at e;cases q:mV r with
   |none=>rw[q]at e;cases e
   |some es=>
    rw[q]at e;cases e;exact⟨v,a,rfl,b,eM q i⟩
def TC(h:Paired (VD K W) xs vs):cM K W (xs.map cdA) vs:=by
 induction h with
 |nil=>exact .nil
 |@cons x v _ _ r _ ih=>exact .cons (by cases x<;>exact r) ih
theorem gS{W:Wd}:∀{ds:T4}{vs:Tc},aM K W.F ds vs->cM K W (ds.map .d) vs
 |[],vs=>fun h=>by rw[show vs=[]from h];exact .nil
 |d::ds,vs=>fun h=>by
  obtain⟨v,r,rfl,a,b⟩:=h;exact .cons a (gS b)
theorem MM:∀{xs:T6}{ds:T4},mV xs=Z ds->ds.length=xs.length
 |[],ds=>fun e=>by cases e;rfl
 |.c _::_,ds=>fun e=>by cases e
 |.t _::_,ds=>fun e=>by cases e
 |.f _::_,ds=>fun e=>by cases e
 |.g _::_,ds=>fun e=>by cases e
 |.d x::r,ds=>fun e=>by
  unfold mV at e;cases q:mV r with
  |none=>rw[q]at e;cases e
  |some es=>
   rw[q]at e;cases e;rw[C9,C9,MM q]
def aHp:SE K (aLD i) (aD i):=by
 intro γ M x M' h W H c Q g r k;unfold aD at h;cases e:γ[i]? with
 |none=>rw[e]at h;cases h
 |some o=>
  cases o with
  |none=>rw[e]at h;cases h
  |some y=>
   rw[e]at h;cases h;obtain⟨v,b,a⟩:=Paired.get r e;cases v with
   |none=>exact False.elim a
   |some v=>exact⟨v,b,k v W H (.refl _) g a⟩
def YY:SE K (tC (.int i)) (fC (.int i)):=by
 intro γ M x M' h W H a Q g r k;cases h;exact k _ W H (.refl _) g rfl
def aLO:SE K (tC (.bl b)) (fC (.bool b)):=by
 intro γ M x M' h W H a Q g r k;cases h;exact k _ W H (.refl _) g rfl
def aGT:SE K (tC .non) (fC .none):=by
 intro γ M x M' h W H a Q g r k;cases h;exact k _ W H (.refl _) g rfl
def aHq:SE K (tC (.str x)) (fC (.str x)):=by
 intro γ M x M' h W H a Q g r k;cases h;exact k _ W H (.refl _) g rfl
variable{ta tb tc:TE}{f g e:EF}{tt uu:TT}{ft gt:TF}{tA:TA}{fa:AF}
def QZ{r:R2}{h:F2}(p:P2 K r h)(a:SE K ta f)(b:SE K tb g):SE K (tOp r ta tb) (fOp h f g):=by
 intro γ M x M' c W H d Q G R k;obtain⟨⟨y,M1⟩,l,c⟩:=aI c;obtain⟨⟨z,M2⟩,m,c⟩:=aI c;refine a _ _ _ _ l W H d _ G R fun v n o i q s=>?_;refine b _ _ _ _ m n o d _ q (R.up i) fun u t A j B C=>?_;exact p _ _ _ _ _ c t A v u Q B (s.up j) C fun w D E I J L=>k w D E ((i.trans j).trans I) J L
def aKV{r:V->Hp->VK->Prop}{h:F1}(p:P1 K r h)(a:SE K ta f):SE K (tUn r ta) (fUn h f):=by
 intro γ M x M' b W H c Q G R k;obtain⟨⟨y,M1⟩,d,b⟩:=aI b;refine a _ _ _ _ d W H c _ G R fun v i j l m n=>?_;exact p _ _ _ _ b i j v Q m n fun w o q s t u=>k w o q (l.trans s) t u
def IB{b:Bool}(h:asB x=Z b):x=.d (.bool b):=by
 cases x with
 |c n=>cases h
 |t n=>cases h
 |f n=>cases h
 |g _=>cases h
 |d x=>cases x<;>first|cases h;rfl|cases h
def aGO(a:SE K ta f)(b:SE K tb g):SE K (aFV ta tb) (qN f g):=by
 intro γ M x M' d W H i Q G R k;obtain⟨⟨y,M1⟩,n,d⟩:=aI d;obtain⟨c,o,d⟩:=aI d;refine a _ _ _ _ n W H i _ G R fun v j l h m p=>?_;have hy:=IB o;subst hy;refine⟨c,p,?_⟩;cases c with
 |true=>rw[A4 rfl];rw[A4 rfl]at d;exact b _ _ _ _ d j l i Q m (R.up h) fun w q r s t u=>k w q r (h.trans s) t u
 |false=>
  cases d;exact k _ j l h m rfl
def aIc(a:SE K ta f):SE K (aGm ta) (aEN f):=by
 intro γ M x M' b W H d Q G R k;obtain⟨⟨y,M1⟩,h,b⟩:=aI b;obtain⟨c,i,b⟩:=aI b;refine a _ _ _ _ h W H d _ G R fun v j l m n o=>?_;have hy:=IB i;subst hy;cases b;exact⟨c,o,k _ j l m n rfl⟩
def aKN(t:STt K tt ft)(a:SE K ta f)(b:SE K tb g):SE K (tIf tt ta tb) (fIf ft f g):=by
 intro γ M x M' d W H i Q G R k;obtain⟨⟨c,M1⟩,s,d⟩:=aI d;refine t _ _ _ _ s W H i _ G R fun p q h r=>?_;cases c with
 |true=>rw[A4 rfl];rw[A4 rfl]at d;exact a _ _ _ _ d p q i Q r (R.up h) fun w j l m n o=>k w j l (h.trans m) n o
 |false=>rw[B0 B5];rw[B0 B5]at d;exact b _ _ _ _ d p q i Q r (R.up h) fun w j l m n o=>k w j l (h.trans m) n o
def aBJ{r l:R2}{h h':F2}(p:P2 K r h)(J:P2 K l h')(a:SE K ta f)(b:SE K tb g)(c:SE K tc e):SE K (ZQ r l ta tb tc) (IY h h' f g e):=by
 intro γ M x M' d W H j Q G R k;obtain⟨⟨y,M1⟩,L,d⟩:=aI d;obtain⟨⟨z,M2⟩,N,d⟩:=aI d;obtain⟨⟨w,M3⟩,O,d⟩:=aI d;obtain⟨q,P,d⟩:=aI d;refine a _ _ _ _ L W H j _ G R fun v S T n U V=>?_;refine b _ _ _ _ N S T j _ U (R.up n) fun u X H2 s G2 A=>?_;refine p _ _ _ _ _ O X H2 v u _ G2 (V.up s) A fun t B C D E r3=>?_;have hy:=IB P;subst hy;refine⟨q,r3,?_⟩;have i:=(n.trans s).trans D;cases q with
 |true=>
  obtain⟨⟨m,M4⟩,h5,d⟩:=aI d;refine c _ _ _ _ h5 B C j _ E (R.up i) fun o W4 H4 I G4 r4=>?_;exact J _ _ _ _ _ d W4 H4 u o Q G4 (A.up<|D.trans I) r4 fun w W5 H5 e5 G5 r5=>k w W5 H5 ((i.trans I).trans e5) G5 r5
 |false=>
  cases d;exact k _ B C i E rfl
def aJy(a:STt K tt ft)(b:STt K uu gt):STt K (aJQ tt uu) (DT ft gt):=by
 intro γ M x M' d W H i Q G R k;obtain⟨⟨c,M1⟩,n,d⟩:=aI d;refine a _ _ _ _ n W H i _ G R fun j l h m=>?_;cases c with
 |true=>rw[A4 rfl];rw[A4 rfl]at d;exact b _ _ _ _ d j l i Q m (R.up h) fun o p q r=>k o p (h.trans q) r
 |false=>rw[B0 B5];rw[B0 B5]at d;cases d;exact k j l h m
def aKn(a:STt K tt ft)(b:STt K uu gt):STt K (tOr tt uu) (gOr ft gt):=by
 intro γ M x M' d W H i Q G R k;obtain⟨⟨c,M1⟩,n,d⟩:=aI d;refine a _ _ _ _ n W H i _ G R fun j l h m=>?_;cases c with
 |true=>rw[A4 rfl];rw[A4 rfl]at d;cases d;exact k j l h m
 |false=>rw[B0 B5];rw[B0 B5]at d;exact b _ _ _ _ d j l i Q m (R.up h) fun o p q r=>k o p (h.trans q) r
def aIG(a:STt K tt ft):STt K (aLF tt) (iM ft):=by
 intro γ M x M' b W H d Q G R k;obtain⟨⟨c,M1⟩,h,b⟩:=aI b;cases b;exact a _ _ _ _ h W H d _ G R fun i j l m=>k i j l m
def aDg(a:SE K ta f):STt K (tB ta) (gB f):=by
 intro γ M x M' b W H d Q G R k;obtain⟨⟨y,M1⟩,h,b⟩:=aI b;obtain⟨c,i,b⟩:=aI b;refine a _ _ _ _ h W H d _ G R fun v j l m n o=>?_;have hy:=IB i;subst hy;cases b;exact⟨_,o,k j l m n⟩
def aDK(a:SE K ta f):STt K (aGj ta) (gB f):=aDg a
def aGJ:SA K VW aG:=by
 intro γ M x M' a W H b Q G R k;cases a;exact k [] W H (.refl _) G .nil
def aEr(a:SE K ta f)(b:SA K tA fa):SA K (rF ta tA) (aC f fa):=by
 intro γ M x M' c W H d Q G R k;obtain⟨⟨y,M1⟩,j,c⟩:=aI c;obtain⟨⟨u,M2⟩,l,c⟩:=aI c;cases c;refine a _ _ _ _ j W H d _ G R fun v m n h o p=>?_;exact b _ _ _ _ l m n d _ o (R.up h) fun vs q r i s t=>k _ q r (h.trans i) s (.cons (p.up i) t)
def aHX(b:SA K tA fa):SE K (aIj tA) (bY fa):=by
 intro γ M x M' a W H i Q G R k;obtain⟨⟨s,M1⟩,j,a⟩:=aI a;obtain⟨ds,l,a⟩:=aI a;by_cases c:ds.length<=sizeLine
 .rw[A4 c]at a;cases a;refine b _ _ _ _ j W H i _ G R fun vs t u m n o=>?_;have d:=eM l o;refine⟨by rw[<- d.length];exact c,fun p q=>?_⟩;obtain⟨h,r⟩:=n.lay q;exact k _ _ _ (m.trans h) r ⟨p,vs,rfl,SqT.of aW,aM.same h.ff _ _ d⟩
 .rw[B0 c]at a;cases a
def aGF(b:SA K tA fa):SE K (aGN tA) (iQ fa):=by
 intro γ M x M' a W H i Q G R k;obtain⟨⟨s,M1⟩,j,a⟩:=aI a;obtain⟨ds,l,a⟩:=aI a;by_cases c:ds.length<=sizeLine
 .rw[A4 c]at a;cases a;refine b _ _ _ _ j W H i _ G R fun vs t u m n o=>?_;have d:=eM l o;refine⟨by rw[<- d.length];exact c,fun p q=>?_⟩;obtain⟨h,r⟩:=n.lay q;exact k _ _ _ (m.trans h) r ⟨p,vs,rfl,SqL.of aW,aM.same h.ff _ _ d⟩
 .rw[B0 c]at a;cases a
def Good.newV(g:Good K W M H):cL K (W.more p) (.c M.length) (.ref p):=by
 refine⟨?_,?_⟩
 .show M.length<W.n+1;rw[g.n];exact O6 _
 .show V.ref p=.ref (if M.length=W.n then p else W.α M.length);rw[A4 g.n.symm]
def aJr(b:SA K tA fa):SE K (aGN tA) (lM fa):=by
 intro γ M x M' a W H i Q G R k;obtain⟨⟨j,M1⟩,l,a⟩:=aI a;by_cases c:j.length<=sizeLine
 .have a:=a;rw[A4 c]at a;cases a;refine b _ _ _ _ l W H i _ G R fun vs m q n d h=>?_;refine⟨by rw[<- Paired.len h];exact c,fun p o=>?_⟩;exact k _ _ _ (n.trans<|m.ext_more p) (d.new o h) d.newV
 .have a:=a;rw[B0 c]at a;cases a
def aES{h:FN}(b:SA K tA fa):SE K (RK (spM K h) [] E0 tA) (aK h fa):=by
 intro γ M x M' a W H c Q G R k;obtain⟨⟨d,M1⟩,i,a⟩:=aI a;refine b _ _ _ _ i W H c _ G R fun vs j t l m n=>?_;rw[C8];exact⟨d,M1,j,x,M',m,n,a,fun v o p q r s=>k v o p (l.trans q) r s⟩
def aGo{r:Tc->Hp->VK->Prop}{h:FN}(p:PN K r h)(b:SA K tA fa):SE K (tCB r tA) (aK h fa):=by
 intro γ M x M' a W H c Q G R k;obtain⟨⟨w,M1⟩,d,a⟩:=aI a;refine b _ _ _ _ d W H c _ G R fun vs i j l m n=>?_;exact p _ _ _ _ a i j vs Q m n fun v o q s t u=>k v o q (l.trans s) t u
end
section
variable{K:Fg}{ta tb tc:TE}{f g e:EF}{tt uu:TT}{ft gt:TF}{tA:TA}{fa:AF}{t u:TS}{p q:SF}{tg:TG}{hg:GF}{tgs:TGs}{hgs:GsF}
def aDb:SS K aGf bX:=by
 intro γ M o M' a W H b D G R k;cases a;exact k W H (.refl _) G b R
def aIY(a:SS K t p)(b:SS K u q):SS K (aHh t u) (aS p q):=by
 intro γ M o M' c W H n D G R k;obtain⟨⟨r,M1⟩,s,c⟩:=aI c;refine a _ _ _ _ s W H n _ G R fun h i j l=>?_;cases r with
 |nx d=>
  intro m v;exact b _ _ _ _ c h i m D l v fun w y z A=>k w y (j.trans z) A
 |bk d=>cases c;exact k h i j l
 |ct d=>cases c;exact k h i j l
 |rt x=>cases c;exact k h i j l
def aDs(a:SE K ta f):SS K (aBj ta) (mD f):=by
 intro γ M o M' b W H c D G R k;obtain⟨⟨y,M1⟩,h,b⟩:=aI b;cases b;exact a _ _ _ _ h W H c _ G R fun v i j d l m=>k i j d l c<|R.up d
def aGG(a:SE K ta f):SS K (aKS ta) (bQ f):=by
 intro γ M o M' b W H c D G R k;obtain⟨⟨y,M1⟩,d,b⟩:=aI b;cases b;exact a _ _ _ _ d W H c _ G R fun v h i j l m=>k h i j l v m
def aKj(c:STt K tt ft)(a:SS K t p)(b:SS K u q):SS K (aJz tt t u) (sIf ft p q):=by
 intro γ M o M' d W H i D G R k;obtain⟨⟨w,M1⟩,x,d⟩:=aI d;refine c _ _ _ _ x W H i _ G R fun r s h v=>?_;cases w with
 |true=>rw[A4 rfl];rw[A4 rfl]at d;exact a _ _ _ _ d r s i D v (R.up h) fun j l m n=>k j l (h.trans m) n
 |false=>rw[B0 B5];rw[B0 B5]at d;exact b _ _ _ _ d r s i D v (R.up h) fun j l m n=>k j l (h.trans m) n
def IJ(a:SE K ta f)(b:SG K tg hg):SS K (VJ ta tg) (bC f hg):=by
 intro γ M o M' c W H h D G R k;obtain⟨⟨y,M1⟩,j,c⟩:=aI c;obtain⟨⟨l,M2⟩,m,c⟩:=aI c;cases c;refine a _ _ _ _ j W H h _ G R fun v n r i s w=>?_;exact b _ _ _ _ _ m n r h v _ s (R.up i) w fun d x z A B R2=>k x z (i.trans A) B d R2
def cP.set{a:St}{x:CD}{v:V}(R:cP K W γ a)(i:Nat)(r:cL K W x v):cP K W (γ.set i<|Z x) (a.set i<|Z v):=Paired.set (show OL K W (Z x) (Z v)from r) i R
def wG:SG K (AL i) (hName i):=by
 intro x γ M a M' b W H c v Q G R r k;cases b;exact k _ W H (.refl _) G<|cP.set R i r
def aEL:SGs K aKw iV:=by
 intro xs γ M b M' a W H c vs Q G R r k;cases r with
 |nil=>cases a;exact⟨rfl,k c W H (.refl _) G R⟩
 |cons _ _=>cases a
def aAe(a:SG K tg hg)(b:SGs K tgs hgs):SGs K (aGl tg tgs) (bD hg hgs):=by
 intro xs γ M j M' c W H l vs Q G R r k;cases r with
 |nil=>cases c
 |@cons x v xs vs m n=>
  obtain⟨⟨o,M1⟩,s,c⟩:=aI c;refine⟨v,vs,rfl,a _ _ _ _ _ s W H l v _ G R m fun d w y i z A=>?_⟩;exact b _ _ _ _ _ c w y d vs _ z A (cM.up n i) fun h B C D E R2=>k h B C (i.trans D) E R2
def ZW{n:Nat}(b:SGs K tgs hgs):SG K (aEU K n tgs) (iB n hgs):=by
 intro x γ M j M' h W H o v Q G R r k;cases x with
 |c _=>cases h
 |f _=>cases h
 |g _=>cases h
 |t xs=>
  have h:(if xs.length=n then hgs (xs.map cdA) γ M else Y)=Z (j,M'):=h;by_cases i:xs.length=n
  .rw[A4 i]at h;obtain⟨a,vs,rfl,m,l⟩:=r;have s:=TC l;exact⟨a,vs,rfl,SqT.of<|G.fh _ _ m,by rw[<- i];simpa using(Paired.len l).symm,b _ _ _ _ _ h W H o vs Q G R s k⟩
  .rw[B0 i]at h;cases h
 |d x=>
  cases x with
  |tuple ds=>
   have h:(if ds.length=n then hgs (ds.map .d) γ M else Y)=Z (j,M'):=h;by_cases i:ds.length=n
   .rw[A4 i]at h;obtain⟨a,vs,rfl,m,l⟩:=r;exact⟨a,vs,rfl,G.fh.seqT m,by rw[<- l.length];exact i,b _ _ _ _ _ h W H o vs Q G R (gS l) k⟩
   .rw[B0 i]at h;cases h
  |_=>cases h
def P3(K:Fg)(r:V->V->V->Hp->(Hp->Prop)->Prop)(f:F3):Prop:=∀x y z M M',f x y z M=Z M'->∀(W:Wd)(H:Hp)(v u w:V)(Q:Hp->Prop),Good K W M H->cL K W x v->cL K W y u->cL K W z w->(∀W' H',W.Ext W'->Good K W' M' H'->Q H')->r v u w H Q
def aIs{r:aEQ}{s:F3}(p:P3 K r s)(a:SE K ta f)(b:SE K tb g):SG K (aLB ta tb r) (hSub f g s):=by
 intro x γ M m M' c W H j v Q G R n k;obtain⟨⟨o,M1⟩,w,c⟩:=aI c;obtain⟨⟨i,M2⟩,y,c⟩:=aI c;obtain⟨U,z,c⟩:=aI c;cases c;refine a _ _ _ _ w W H j _ G R fun A B C d D E=>?_;refine b _ _ _ _ y B C j _ D (R.up d) fun I J L h N O=>?_;exact p _ _ _ _ _ z J L A I v _ N (E.up h) O (n.up<|d.trans h) fun P S l T=>k j P S ((d.trans h).trans l) T<|R.up<|(d.trans h).trans l
def aHi(b:SA K tA fa):SS K (aKk i j tA) (aCy i j fa):=by
 intro γ M o M' a W H d D G R k;obtain⟨⟨w,M1⟩,h,a⟩:=aI a;refine b _ _ _ _ h W H d _ G R fun vs l m c n r=>?_;rcases r with _|⟨s,_|⟨v,_|_⟩⟩
 .cases a
 .cases a
 .cases a;exact⟨_,_,rfl,k l m c n _<|cP.set (cP.set (R.up c) i s) j v⟩
 .cases a
def NZ(K:Fg)(J:It)(xs:T6)(W:Wd):Prop:=∀W' M' H',W.Ext W'->Good K W' M' H'->
 (∀i x,xs[i]?=Z x->J.go i H'/\∀y b,J.yld i H' y b->∃a,W'.Ext a/\Good K a M' b/\cL K a x y)/\J.stop xs.length H'
def SI(K:Fg)(b:TI)(f:AF):Prop:=∀γ M xs M',f γ M=Z (xs,M')->∀(W:Wd)(H:Hp)(a:St)(R:It->Hp->Prop),Good K W M H->cP K W γ a->(∀J W' H',W.Ext W'->Good K W' M' H'->NZ K J xs W'->R J H')->b a H R
def cQ(f:EF):AF:=fun γ M=>(f γ M).bind fun r=>match r.1 with
 |.d x=>(aQ x).bind fun ds=>Z (ds.map .d,r.2)
 |_=>Y
def ZX(a:SE K ta f):SI K (YL K ta) (cQ f):=by
 intro γ M xs M' h W H D R G Rs k;obtain⟨⟨y,M1⟩,E,h⟩:=aI h;cases y with
 |c _=>cases h
 |t _=>cases h
 |f _=>cases h
 |g _=>cases h
 |d y=>
  obtain⟨ds,I,h⟩:=aI h;cases h;refine a _ _ _ _ E W H D _ G Rs fun v w A B s J=>?_;obtain⟨p,vs,rfl,hs,C⟩:=kC J I;refine⟨p,rfl,?_⟩
  have item:∀(i:Nat)(x:CD)(j:Wd),w.Ext j->(ds.map CD.d)[i]?=Z x->∃u,vs[i]?=Z u/\cL K j x u:=fun i x j m hx=>by
   obtain⟨u,n,o⟩:=Paired.get (gS C) hx;exact⟨u,n,o.up m⟩
  have l:(ds.map CD.d).length=vs.length:=by rw[A3];exact C.length
  rcases hs with hs|hs
  .refine .inl ⟨vs,s.fh.seq hs,k _ w A B s fun j M2 L m r=>?_⟩;have b:=r.fh.seq<|m.ff.seq hs;refine⟨fun i x hx=>?_,?_⟩
   .obtain⟨u,n,o⟩:=item i x j m hx;refine⟨⟨vs,u,b,n⟩,fun N z hy=>⟨j,.refl _,by rw[hy.1];exact r,?_⟩⟩;have:=hy.2 vs b;rw[n]at this;cases this;exact o
   .rw[l];exact⟨vs,b,A6 _⟩
  .refine .inr ⟨vs,s.fh.seqT hs,k _ w A B s fun j M2 L m r=>?_⟩;have b:=r.fh.seqT<|m.ff.seqT hs;refine⟨fun i x hx=>?_,?_⟩
   .obtain⟨u,n,o⟩:=item i x j m hx;refine⟨⟨vs,u,b,n⟩,fun N z hy=>⟨j,.refl _,by rw[hy.1];exact r,?_⟩⟩;have:=hy.2 vs b;rw[n]at this;cases this;exact o
   .rw[l];exact⟨vs,b,A6 _⟩
noncomputable def eA(lo:Int)(n:Nat):T6:=(List.range n).map fun i=>.d (.int (lo+(i:Nat)))
def LD{lo:Int}{i:Nat}{x:CD}(h:(eA lo n)[i]?=Z x):i<n/\x=.d (.int (lo+i)):=by
 unfold eA at h;rw[D0]at h;by_cases hi:i<n
 .rw[List.getElem?_range hi]at h;exact⟨hi,(D3 h).symm⟩
 .rw[List.getElem?_eq_none_iff.mpr (by grind)]at h;cases h
noncomputable def bS(i:Int):Bool:=decide (-(2 ^ 62)<=i)&&decide (i<2 ^ 62)
def dA(f:AF):AF:=fun γ M=>(f γ M).bind fun r=>match r.1 with
 |[.d (.int j)]=>if bS j=true then Z (eA 0 j.toNat,r.2)else Y
 |_=>Y
def lY(f:AF):AF:=fun γ M=>(f γ M).bind fun r=>match r.1 with
 |[.d (.int i),.d (.int j)]=>if bS i=true/\bS j=true then Z (eA i (j-i).toNat,r.2)else Y
 |_=>Y
def EZ{lo:Int}:NZ K (Itr lo n) (eA lo n) W:=fun W' M' H' e G=>
 ⟨fun i x hx=>⟨(LD hx).1,fun y a hy=>⟨W',.refl _,by rw[hy.1];exact G,by rw[(LD hx).2];exact hy.2⟩⟩,by show n<=_;simp[eA]⟩
def jE(h:bS i=true):-(2 ^ 62)<=i/\i<2 ^ 62:=by
 unfold bS at h;rw[B8]at h;exact⟨D7 h.1,D7 h.2⟩
def aDv(b:SA K tA fa):SI K (aFQ tA) (dA fa):=by
 intro γ M xs M' a W H c R G Rs k;obtain⟨⟨s,M1⟩,d,a⟩:=aI a;refine b _ _ _ _ d W H c _ G Rs fun vs h i l m n=>?_;revert a;dsimp only;split
 .rename_i j;intro a;by_cases hs:bS j=true
  .rw[A4 hs]at a;cases a;cases n with
   |cons r o=>
    cases o;exact⟨j,by rw[show _=V.int j from r],(jE hs).1,(jE hs).2,k _ h i l m EZ⟩
  .rw[B0 hs]at a;cases a
 .intro a;cases a
def aFi(b:SA K tA fa):SI K (aGi tA) (lY fa):=by
 intro γ M xs M' a W H d R G Rs k;obtain⟨⟨x,M1⟩,h,a⟩:=aI a;refine b _ _ _ _ h W H d _ G Rs fun vs l m n o s=>?_;revert a;dsimp only;split
 .rename_i i j;intro a;by_cases hs:bS i=true/\bS j=true
  .rw[A4 hs]at a;cases a;cases s with
   |cons r v=>
    cases v with
    |cons w c=>
     cases c;exact⟨i,j,by rw[show _=V.int i from r,show _=V.int j from w],⟨(jE hs.1).1,(jE hs.1).2,(jE hs.2).1,(jE hs.2).2⟩,k _ l m n o EZ⟩
  .rw[B0 hs]at a;cases a
 .intro a;cases a
def aJB{U:TI}(i:SI K U fa)(a:SG K tg hg)(b:SS K t p):SS K (aJa U tg t) (mP fa hg p):=by
 intro γ M o M' N W H σ D G R k;obtain⟨⟨xs,M1⟩,h1,N⟩:=aI N;refine i _ _ _ _ h1 W H σ _ G R fun J V H1 B G1 gv=>?_;refine⟨fun j m d H'=>∃r M2 s,j<=xs.length/\m=xs.length-j/\V.Ext s/\Good K s M2 H'/\cP K s r d/\kZ hg p (xs.drop j) r M2=Z (o,M'),⟨_,γ,M1,V,E7 _,rfl,.refl _,G1,R.up B,N⟩,?_⟩;rintro j m d H' ⟨r,M2,s,hj,rfl,w,X,R2,c⟩;obtain⟨O,P⟩:=gv s M2 H' w X;by_cases v:j<xs.length
 .obtain⟨go,yl⟩:=O j xs[j]<|C5 v;rw[A0g v]at c;refine .inr ⟨go,fun z C=>∃h E A,s.Ext A/\Good K A E C/\cP K A h z/\kZ hg p (xs.drop (j+1)) h E=Z (o,M'),?_,fun y C hy=>?_⟩
  .rintro z C ⟨h,E,A,e3,G3,R3,h3⟩;exact⟨_,by omega,h,E,A,v,rfl,w.trans e3,G3,R3,h3⟩
  .obtain⟨W8,e8,G8,ry⟩:=yl y C hy;obtain⟨⟨a0,M4⟩,h4,c⟩:=aI c;obtain⟨⟨o5,M5⟩,h5,c⟩:=aI c;refine a _ _ _ _ _ h4 W8 _ d y _ G8 (R2.up e8) ry fun Q W4 H4 e4 G4 R4=>?_;refine b _ _ _ _ h5 W4 H4 Q _ G4 R4 fun I H5 e5 L=>?_;have l:=(e8.trans e4).trans e5;cases o5 with
   |nx n=>exact fun S T=>⟨n,M5,I,l,L,T,c⟩
   |ct n=>exact fun S T=>⟨n,M5,I,l,L,T,c⟩
   |bk n=>cases c;exact k I H5 ((B.trans w).trans l) L
   |rt x=>cases c;exact k I H5 ((B.trans w).trans l) L
 .have e:j=xs.length:=by omega
  subst e;rw[List.drop_length]at c;cases c;exact .inl ⟨P,k s H' (B.trans w) X d R2⟩
def aBi(c:STt K tt ft)(b:SS K t p):SS K (aAb tt t) (sS ft p):=by
 intro γ M o M' v W H σ D G R k;unfold sS at v;by_cases l:∃n,(fJ ft p n γ M).isSome=true
 .rw[dif_pos l]at v;generalize l.choose=n at v;refine⟨fun m a H'=>∃r M2 w,W.Ext w/\Good K w M2 H'/\cP K w r a/\fJ ft p m r M2=Z (o,M'),⟨n,γ,M,W,.refl _,G,R,v⟩,?_⟩;rintro m a H' ⟨r,M2,w,A,T,R2,d⟩;cases m with
  |zero=>cases d
  |succ m=>
   obtain⟨⟨U,M3⟩,V,d⟩:=aI d;refine c _ _ _ _ V w H' a _ T R2 fun N O B P=>?_;cases U with
   |true=>
    obtain⟨⟨X,s⟩,I,d⟩:=aI d;refine⟨fun y Q=>∃h s z,w.Ext z/\Good K z s Q/\cP K z h y/\fJ ft p m h s=Z (o,M'),?_,?_⟩
    .rintro y Q ⟨h,s,z,e4,G4,R4,I⟩;exact⟨m,O6 _,h,s,z,A.trans e4,G4,R4,I⟩
    .refine b _ _ _ _ I N O a _ P (R2.up B) fun C S e5 E=>?_;have i:=B.trans e5;cases X with
     |nx j=>exact fun J L=>⟨j,s,C,i,E,L,d⟩
     |ct j=>exact fun J L=>⟨j,s,C,i,E,L,d⟩
     |bk j=>cases d;exact k C S (A.trans i) E
     |rt x=>cases d;exact k C S (A.trans i) E
   |false=>
    cases d;exact k N O (A.trans B) P a<|R2.up B
 .rw[dif_neg l]at v;cases v
theorem nN:∀{n m:Nat}{γ:Ga}{M:Sto}{r:Out×Sto},fJ c b n γ M=Z r->n<=m->fJ c b m γ M=Z r
 |0,_,_,_,_=>fun h _=>by cases h
 |n+1,0,_,_,_=>fun _ h=>by omega
 |n+1,m+1,γ,M,r=>fun h k=>by
  obtain⟨⟨d,M1⟩,i,h⟩:=aI h;show(c γ M).bind _=_;rw[i];show(if d=true then _ else _)=_;cases d with
  |false=>exact h
  |true=>
   obtain⟨⟨o,M2⟩,j,h⟩:=aI h;rw[j];cases o with
   |nx a=>exact nN h (by omega)
   |ct a=>exact nN h (by omega)
   |bk a=>exact h
   |rt x=>exact h
def BG{r:Out×Sto}(h:fJ c b n γ M=Z r):sS c b γ M=Z r:=by
 unfold sS;have a:∃n,(fJ c b n γ M).isSome=true:=⟨n,by rw[h];rfl⟩;rw[dif_pos a];have hs:=a.choose_spec;cases q:fJ c b a.choose γ M with
 |none=>rw[q]at hs;cases hs
 |some d=>
  rcases Nat.le_total n a.choose with z|z
  .rw[nN h z]at q;exact q.symm▸rfl
  .rw[nN q z]at h;exact h
theorem IQ{W:Wd}{γ:Ga}{a:St}(R:cP K W γ a):∀cap:T3,cP K W (DX cap γ) (uZ cap a)
 |[]=>.nil
 |none::r=>.cons True.intro (IQ R r)
 |some j::r=>by
  refine .cons ?_ (IQ R r);show OL K W ((γ[j]?).join) ((a[j]?).join);cases e:γ[j]? with
  |none=>
   have:a[j]?=Y:=by
    have c:=Paired.len R;exact List.getElem?_eq_none_iff.mpr (by grind)
   rw[this];exact True.intro
  |some x=>
   obtain⟨y,hy,b⟩:=Paired.get R e;rw[hy];exact b
theorem IU{g:GF}{c:TF}{e:EF}:∀{xs:T6}{γ:Ga}{M:Sto}{ys:T6}{M':Sto},lcF g c e xs γ M=Z (ys,M')->ys.length<=xs.length
 |[],_,_,_,_=>fun h=>by cases h;exact E7 _
 |x::xs,γ,M,ys,M'=>fun h=>by
  obtain⟨⟨a,M1⟩,i,h⟩:=aI h;obtain⟨⟨b,M2⟩,j,h⟩:=aI h;cases b with
  |true=>
   obtain⟨⟨y,k⟩,l,h⟩:=aI h;obtain⟨⟨zs,m⟩,d,h⟩:=aI h;cases h;have:=IU d;simp only[List.length_cons];omega
  |false=>
   have:=IU h;simp only[List.length_cons];omega
def aCH{wi:TI}{cap:T3}{te:TE}{O:EF}(i:SI K wi fa)(a:SG K tg hg)(c:STt K tt ft)(b:SE K te O){xs:T6}(D:yO cap fa hg ft O γ M=Z (xs,M'))
 {W:Wd} {H:Hp} {V:St} {Q:VK} (G:Good K W M H) (R:cP K W γ V) (k:∀vs W' H',W.Ext W'->Good K W' M' H'->cM K W' xs vs->∀p,H' p=Y->Q (.ref p) (upd H' p (.lst vs))):tLc cap wi tg tt te V H Q:=by
 obtain⟨⟨w,M1⟩,h1,D⟩:=aI D;by_cases hl:w.length<=sizeLine
 .rw[A4 hl]at D;refine i _ _ _ _ h1 W H V _ G R fun J W1 H1 e1 G1 gv=>?_
  refine⟨fun j m acc A H'=>∃B M2 x pre o,j<=w.length/\m=w.length-j/\acc.length<=j/\W1.Ext x/\Good K x M2 H'/\cP K x B A/\cM K x pre acc/\pre++o=xs/\lcF hg ft O (w.drop j) B M2=Z (o,M'),
   ⟨_,DX cap γ,M1,W1,[],xs,E7 _,rfl,E7 _,.refl _,G1,IQ (R.up e1) cap,.nil,rfl,D⟩,?_⟩
  rintro j m acc A H' ⟨B,M2,x,pre,o,hj,rfl,a5,X,G2,R2,rp,hx,l⟩;obtain⟨a0,a1⟩:=gv x M2 H' X G2;by_cases C:j<w.length
  .obtain⟨go,yl⟩:=a0 j w[j]<|C5 C;rw[A0g C]at l;refine .inr ⟨go,by omega,fun n I P=>∃r S E d h,n.length<=j+1/\x.Ext E/\Good K E S P/\cP K E r I/\cM K E d n/\d++h=xs/\lcF hg ft O (w.drop (j+1)) r S=Z (h,M'),?_,fun y P hy=>?_⟩
   .rintro n I P ⟨r,S,E,d,h,a2,e3,G3,R3,a3,a4,h3⟩;exact⟨_,by omega,r,S,E,d,h,C,rfl,a2,X.trans e3,G3,R3,a3,a4,h3⟩
   .obtain⟨W8,e8,G8,ry⟩:=yl y P hy;obtain⟨⟨L,M4⟩,h4,l⟩:=aI l;obtain⟨⟨b5,M5⟩,h5,l⟩:=aI l;refine a _ _ _ _ _ h4 W8 _ A y _ G8 (R2.up e8) ry fun N W4 H4 e4 G4 T=>?_;refine c _ _ _ _ h5 W4 H4 N _ G4 T fun W5 H5 U G5=>?_;have s:=(e8.trans e4).trans U;cases b5 with
    |true=>
     obtain⟨⟨z,M6⟩,h6,l⟩:=aI l;obtain⟨⟨zs,M7⟩,h7,l⟩:=aI l;cases l;refine .inl ⟨rfl,b _ _ _ _ h6 W5 H5 N _ G5 (T.up U) fun v W6 H6 e6 G6 r6=>?_⟩;refine⟨L,M6,W6,pre++[z],zs,by rw[B1];simp only[List.length_singleton];omega,s.trans e6,G6,T.up<|U.trans e6,Paired.app (cM.up rp<|s.trans e6) (.cons r6 .nil),by rw[<- hx,B7];rfl,h7⟩
    |false=>
     exact .inr ⟨rfl,L,M5,W5,pre,o,by omega,s,G5,T.up U,cM.up rp s,hx,l⟩
  .have e:j=w.length:=by omega
   subst e;rw[List.drop_length]at l;cases l;rw[C8]at hx;subst hx;exact .inl ⟨a1,k acc x H' (e1.trans X) G2 rp⟩
 .rw[B0 hl]at D;cases D
def WC{cap:T3}{fa:AF}{hg:GF}{ft:TF}{c:EF}{xs:T6}(a:yO cap fa hg ft c γ M=Z (xs,M')):xs.length<=sizeLine:=by
 obtain⟨⟨d,M1⟩,h,a⟩:=aI a;by_cases b:d.length<=sizeLine
 .rw[A4 b]at a;exact F5 (IU a) b
 .rw[B0 b]at a;cases a
def aFL{h:TI}{cap:T3}{j:TE}{l:EF}(i:SI K h fa)(a:SG K tg hg)(c:STt K tt ft)(b:SE K j l):SE K (tLc cap h tg tt j) (fLc cap fa hg ft l):=by
 intro γ M x M' d W H A Q G R k;obtain⟨⟨B,M1⟩,o,d⟩:=aI d;obtain⟨ds,r,d⟩:=aI d;by_cases m:ds.length<=sizeLine
 .rw[A4 m]at d;cases d;refine aCH i a c b o G R fun vs C D s v w p y=>?_;obtain⟨n,z⟩:=v.lay y;exact k _ _ _ (s.trans n) z ⟨p,vs,rfl,SqL.of aW,aM.same n.ff _ _<|eM r w⟩
 .rw[B0 m]at d;cases d
def aBL{h:TI}{cap:T3}{j:TE}{l:EF}(i:SI K h fa)(a:SG K tg hg)(c:STt K tt ft)(b:SE K j l):SE K (tLc cap h tg tt j) (KM cap fa hg ft l):=by
 intro γ M x M' d W H w Q G R k;obtain⟨⟨y,M1⟩,m,d⟩:=aI d;rw[A4 (WC m)]at d;cases d;refine aCH i a c b m G R fun vs o z r n s p v=>?_;exact k _ _ _ (r.trans<|o.ext_more p) (n.new v s) n.newV
def aIC:STt K aKl eN:=by
 intro γ M x M' a W H b Q G R k;cases a;exact k W H (.refl _) G
theorem cM.some{W:Wd}:∀{xs:T6}{vs:Tc},cM K W xs vs->cP K W (xs.map Z) (vs.map Z)
 |_,_,.nil=>.nil
 |_,_,.cons r t=>.cons r (cM.some t)
theorem wR{W:Wd}:∀n:Nat,cP K W (List.replicate n Y) (List.replicate n Y)
 |0=>.nil
 |n+1=>.cons True.intro (wR n)
def RZ{ps N:Tb}:∀vs H Q E,spM K (fnF ps.length N.length b) vs H Q E->vs.length=ps.length:=fun vs H Q E h=>by
 obtain⟨xs,M,W,y,M',G,R,a,_⟩:=h;by_cases c:xs.length=ps.length
 .rw[<- Paired.len R];exact c
 .unfold fnF at a;rw[B0 c]at a;cases a
def QU{ps N:Tb}{t:TS}(hS:SS K t b)(h:spM K (fnF ps.length N.length b) vs H Q E):t { nx:=fun _ H'=>Q .non H',rt:=Q } (start N vs) H:=by
 obtain⟨xs,M,W,y,M',G,R,a,k⟩:=h;by_cases c:xs.length=ps.length
 .unfold fnF at a;rw[A4 c]at a;obtain⟨⟨o,M1⟩,m,a⟩:=aI a
  have n:cP K W (xs.map Z++List.replicate (N.length-xs.length) Y) (start N vs):=by
   unfold start;rw[<- Paired.len R];exact Paired.app (cM.some R)<|wR _
  refine hS _ _ _ _ m W H _ _ G n fun d i j l=>?_;cases o with
  |rt x=>cases a;exact fun v r=>k v d i j l r
  |nx γ=>cases a;exact fun s r=>k .non d i j l rfl
  |bk γ=>cases a
  |ct γ=>cases a
 .unfold fnF at a;rw[B0 c]at a;cases a
def Def.okM{P:Ud}{w:World}{mg:Str->Tf}{base:Heap}{x:Str}{st:Stmt}{N ps:Tb}{k:Nat}{b:SF}{q:Bool}(D:Def K mg x st)(S:aR N ps (aH st))
 (c:∀(kV doc pm:Tx)(an:Th)(cdv ct:Tx)(us:T5),us.length=ps.length->bindArgs (PySem.W.fnOf x x (eT st) (bR st) (aH st) .none kV doc pm an cdv ct) ⟨us,[]⟩=pure (ps.zip us))
 (a:∀(f:Ub)(cdv:Tx)(A:Ue)(outer:Tv Env)(s:Ua)(H:Hp)(E:XK),cG k (A.deeper<|envOfC x (aH st) s.heap.objs.size f cdv) q->
  ∃t,PSs (jG CX0 P w K mg base N x (aH st) f cdv A outer s H E q).nox (bR st) t/\SS K t b):Callee P w K mg base (k+1) x ps (spM K (fnF ps.length N.length b)) q:=by
 refine D.ok S c RZ fun f cdv A outer s H vs Q E d h=>?_;obtain⟨t,i,hS⟩:=a f cdv A outer s H E d;exact⟨t,i,QU hS h⟩
end
def HS(h h':F2):F2:=fun x y M=>match h x y M with
 |some r=>Z r
 |none=>h' x y M
def pI(g:Int->Int->Tw Tz):F2:=fun x y M=>match x,y with
 |.d (.int i),.d (.int j)=>(g i j).bind fun z=>Z (.d z,M)
 |_,_=>Y
def aAn{g:Int->Int->Tw Tz}{x y:CD}{z:CD}(h:pI g x y M=Z (z,M')):∃i j w,x=.d (.int i)/\y=.d (.int j)/\g i j=Z w/\z=.d w/\M'=M:=by
 unfold pI at h;split at h
 .rename_i i j;obtain⟨w,a,h⟩:=aI h;cases h;exact⟨i,j,w,rfl,rfl,a,rfl,rfl⟩
 .cases h
section
variable{X:Cx}{K:Fg}
def aGy{g:Int->Int->Int}:P2 K (rI0 fun i j=>.int (g i j)) (pI fun i j=>Z (.int (g i j))):=by
 intro x y M z M' h W H v u Q G a b k;obtain⟨i,j,w,rfl,rfl,c,rfl,rfl⟩:=aAn h;cases c;exact⟨i,j,a,b,k _ W H (.refl _) G rfl⟩
def UF{g:Int->Int->Bool}:P2 K (rI0 fun i j=>.bl (g i j)) (pI fun i j=>Z (.bool (g i j))):=by
 intro x y M z M' h W H v u Q G a b k;obtain⟨i,j,w,rfl,rfl,c,rfl,rfl⟩:=aAn h;cases c;exact⟨i,j,a,b,k _ W H (.refl _) G rfl⟩
def ifS(c:Bool)(x:Tz):Tw Tz:=if c=true then Z x else Y
def aJG{y:Tz}(h:ifS c x=Z y):c=true/\y=x:=by
 unfold ifS at h;cases c with
 |true=>rw[A4 rfl]at h;cases h;exact⟨rfl,rfl⟩
 |false=>rw[B0 B5]at h;cases h
def aEy{C:Int->Int->Prop}{c:Int->Int->Bool}{g:Int->Int->Int}(a:∀i j,c i j=true->C i j):P2 K (rI C fun i j=>.int (g i j)) (pI fun i j=>ifS (c i j) (.int (g i j))):=by
 intro x y M z M' h W H v u Q G b d k;obtain⟨i,j,w,rfl,rfl,e,rfl,rfl⟩:=aAn h;obtain⟨f,rfl⟩:=aJG e;exact⟨i,j,b,d,a i j f,k _ W H (.refl _) G rfl⟩
def aJj:F2:=pI fun i j=>Z (.int (i+j))
def LY:F2:=pI fun i j=>Z (.int (i-j))
def kH(i j:Int):Bool:=decide (i.natAbs<2 ^ 64) || decide (j.natAbs<2 ^ 64) || (decide (i.natAbs<dQ)&&decide (j.natAbs<dQ))
def vP:F2:=pI fun i j=>ifS (kH i j) (.int (i*j))
def yQ(_ j:Int):Bool:=decide (0<j)&&decide (j.natAbs<dQ)
def qH:F2:=pI fun i j=>ifS (yQ i j) (.int (i / j))
noncomputable def jA(_ j:Int):Bool:=decide (0<j)
def fG:F2:=pI fun i j=>ifS (jA i j) (.int (i % j))
noncomputable def aGx(i j:Int):Bool:=decide (0<=j)&&decide (j<=1000000)&&decide (i.natAbs<2 ^ 64)
def KP:F2:=pI fun i j=>ifS (aGx i j) (.int (i ^ j.toNat))
def mulOk_of(h:kH i j=true):MQ i j:=by
 unfold kH at h;simp only[Bool.or_eq_true,Bool.and_eq_true,decide_eq_true_eq]at h;rcases h with(h|h)|h
 .exact .inl (.inl ⟨by omega,by omega⟩)
 .exact .inl (.inr ⟨by omega,by omega⟩)
 .exact .inr h
def ltI:F2:=pI fun i j=>Z (.bool (decide (i<j)))
def leI:F2:=pI fun i j=>Z (.bool (decide (i<=j)))
def gtI:F2:=pI fun i j=>Z (.bool (decide (j<i)))
def geI:F2:=pI fun i j=>Z (.bool (decide (j<=i)))
def eqD(neg:Bool):F2:=fun x y M=>match x,y with
 |.d a,.d b=>if (SeqAt.shaped a&&SeqAt.shaped b)=true then Z (.d (.bool (if neg then !PyData.eqv a b else PyData.eqv a b)),M)else Y
 |_,_=>Y
def aGe:P2 K (WM K neg) (eqD neg):=by
 intro x y M z M' h W H v u Q G c d k;unfold eqD at h;split at h
 .rename_i a b;by_cases hs:(SeqAt.shaped a&&SeqAt.shaped b)=true
  .rw[A4 hs]at h;cases h;rw[B8]at hs;exact⟨a,b,Rep.same G.fh _ _ c,Rep.same G.fh _ _ d,hs.1,hs.2,k _ W H (.refl _) G rfl⟩
  .rw[B0 hs]at h;cases h
 .cases h
def inD(neg:Bool):F2:=fun x y M=>match x,y with
 |.d a,.d b=>(aQ b).bind fun ds=>if (SeqAt.shaped a&&ds.all SeqAt.shaped)=true then Z (.d (.bool (if neg then !ds.any fun d=>PyData.eqv d a else ds.any fun d=>PyData.eqv d a)),M)else Y
 |_,_=>Y
def aJU{neg:Bool}:P2 K (aIW K neg) (inD neg):=by
 intro x y M z M' h W H v u Q G c d k;unfold inD at h;split at h
 .rename_i a b;obtain⟨ds,e,h⟩:=aI h;by_cases hs:(SeqAt.shaped a&&ds.all SeqAt.shaped)=true
  .rw[A4 hs]at h;cases h;rw[B8]at hs;obtain⟨p,vs,rfl,f,g⟩:=kC (Rep.same G.fh _ _ d) e;exact⟨a,ds,p,vs,Rep.same G.fh _ _ c,rfl,f,g,hs.1,hs.2,k _ W H (.refl _) G rfl⟩
  .rw[B0 hs]at h;cases h
 .cases h
def aM.nth{i:Nat}{d:Tz}(h:aM K H ds vs)(e:ds[i]?=Z d):∃v,vs[i]?=Z v/\Rep K H d v:=by
 have b:i<vs.length:=by rw[<- h.length];exact(List.getElem?_eq_some_iff.mp e).1
 have c:=C5 b;obtain⟨f,a,r⟩:=h.get c;rw[e]at a;cases a;exact⟨_,c,r⟩
def OP{a:Type}{xs:Tv a}{i:Int}{x:a}(h:atI xs i=Z x):∃j,ixN xs.length i=Z j/\xs[j]?=Z x:=by
 exact aI h
def PV{a:Type}{xs:Tv a}{j:Nat}{x:a}(h:ixN xs.length i=Z j)(e:xs[j]?=Z x):atI xs i=Z x:=by
 unfold atI;rw[h];exact e
def ixF:F2:=fun x y M=>match x,y with
 |.d a,.d (.int n)=>(aQ a).bind fun ds=>(atI ds n).bind fun e=>Z (.d e,M)
 |.c i,.d (.int n)=>match M[i]? with
  |some (.lst xs)=>(atI xs n).bind fun e=>Z (e,M)
  |_=>Y
 |.t xs,.d (.int n)=>(atI xs n).bind fun e=>Z (cdA e,M)
 |_,_=>Y
def Good.lstAt{i:Nat}(G:Good K W M H)(h:M[i]?=Z (.lst xs)):∃vs,H (W.α i)=Z (.lst vs)/\cM K W xs vs:=by
 obtain⟨_,o,b,a⟩:=G.cs i _ h (by simp);cases o with
 |lst vs=>exact⟨vs,b,a⟩
 |_=>exact False.elim a
def aLK:P2 K (rIx K) ixF:=by
 intro x y M z M' h W H v u Q G t A k;unfold ixF at h;split at h
 .rename_i a n;obtain⟨ds,D,h⟩:=aI h;obtain⟨e,r,h⟩:=aI h;cases h;obtain⟨p,vs,rfl,N,c⟩:=kC (Rep.same G.fh _ _ t) D;obtain⟨j,s,d⟩:=OP r;obtain⟨w,B,I⟩:=c.nth d;obtain⟨O,f,J,hq',g⟩:=kC t D;cases J
  have same:∀o,f[j]?=Z o->Rep K W.F e o:=fun o l=>by
   obtain⟨P,E,L⟩:=g.nth d;rw[l]at E;cases E;exact L
  obtain⟨o,l,q⟩:=g.nth d;have b:=PV (by rw[<- g.length];exact s) l;rcases hq' with hq'|hq'
  .exact .inl ⟨p,f,n,o,rfl,A,G.fh.seq hq',b,k _ W H (.refl _) G q⟩
  .exact .inr (.inl ⟨p,f,n,o,rfl,A,G.fh.seqT hq',b,k _ W H (.refl _) G q⟩)
 .rename_i i n;split at h
  .rename_i xs hx;obtain⟨e,r,h⟩:=aI h;cases h;obtain⟨vs,C,c⟩:=G.lstAt hx;obtain⟨j,s,d⟩:=OP r;obtain⟨w,B,q⟩:=Paired.get c d;have m:=PV (by rw[<- Paired.len c];exact s) B;rw[show v=.ref (W.α i)from t.2];exact .inl ⟨_,vs,n,w,rfl,A,SqL.of C,m,k _ W H (.refl _) G q⟩
  .cases h
 .rename_i xs n;obtain⟨e,r,h⟩:=aI h;cases h;obtain⟨a,vs,rfl,C,c⟩:=t;obtain⟨j,s,d⟩:=OP r;obtain⟨w,B,q⟩:=Paired.get c d;have m:=PV (by rw[<- Paired.len c];exact s) B;exact .inr (.inl ⟨_,vs,n,w,rfl,A,SqT.of<|G.fh _ _ C,m,k _ W H (.refl _) G (by cases e<;>exact q)⟩)
 .cases h
def fQ:FN:=fun xs M=>match xs with
 |[.d a]=>(aQ a).bind fun ds=>Z (.d (.int ds.length),M)
 |[.c i]=>match M[i]? with
  |some (.lst b)=>Z (.d (.int b.length),M)
  |_=>Y
 |[.t xs]=>Z (.d (.int xs.length),M)
 |_=>Y
def aIa:PN K (fun xs H Q=>∃p ys,xs=[.ref p]/\(SqL K H p ys\/SqT K H p ys)/\Q (.int ys.length) H) fQ:=by
 intro xs M z M' h W H vs Q G r k;unfold fQ at h;split at h
 .rename_i a;obtain⟨ds,e,h⟩:=aI h;cases h;rcases r with _|⟨b,_|_⟩;obtain⟨p,us,rfl,f,c⟩:=kC (Rep.same G.fh _ _ b) e;refine⟨p,us,rfl,f,?_⟩;rw[<- c.length];exact k _ W H (.refl _) G rfl
 .rename_i i;split at h
  .rename_i ys hy;cases h;rcases r with _|⟨b,_|_⟩;obtain⟨us,d,c⟩:=G.lstAt hy;rw[b.2];refine⟨_,us,rfl,.inl (SqL.of d),?_⟩;rw[<- Paired.len c];exact k _ W H (.refl _) G rfl
  .cases h
 .rename_i xs;cases h;rcases r with _|⟨b,_|_⟩;obtain⟨a,us,rfl,d,c⟩:=b;refine⟨_,us,rfl,.inr (SqT.of<|G.fh _ _ d),?_⟩;rw[<- Paired.len c];exact k _ W H (.refl _) G rfl
 .cases h
def xA:FN:=fun xs M=>match xs with
 |[.d a]=>(aQ a).bind fun ds=>Z (.d (.list ds),M)
 |[.c i]=>match M[i]? with
  |some (.lst b)=>(mV b).bind fun ds=>Z (.d (.list ds),M)
  |_=>Y
 |_=>Y
def aEp:PN K (fun xs H Q=>∃p ys,xs=[.ref p]/\(SqL K H p ys\/SqT K H p ys)/\∀l,H l=Y->Q (.ref l) (upd H l (.lst ys))) xA:=by
 intro xs M z M' h W H vs Q G r k;unfold xA at h;split at h
 .rename_i a;obtain⟨ds,c,h⟩:=aI h;cases h;rcases r with _|⟨d,_|_⟩;obtain⟨p,us,rfl,j,e⟩:=kC (show Rep K W.F a _ from d) c;refine⟨p,us,rfl,j.imp (fun z=>G.fh.seq z) fun z=>G.fh.seqT z,fun l f=>?_⟩;obtain⟨b,g⟩:=G.lay (o:=.lst us) f;exact k _ _ _ b g ⟨l,us,rfl,SqL.of aW,aM.same b.ff _ _ e⟩
 .rename_i i;split at h
  .rename_i ys hy;obtain⟨ds,c,h⟩:=aI h;cases h;rcases r with _|⟨d,_|_⟩;obtain⟨us,m,e⟩:=G.lstAt hy;rw[d.2];refine⟨_,us,rfl,.inl (SqL.of m),fun l f=>?_⟩;obtain⟨b,g⟩:=G.lay (o:=.lst us) f;exact k _ _ _ b g ⟨l,us,rfl,SqL.of aW,aM.same b.ff _ _<|eM c e⟩
  .cases h
 .cases h
def bO:FN:=fun xs M=>match xs with
 |[.d (.list ds)]=>Z (.d (.tuple ds),M)
 |[.d (.tuple ds)]=>Z (.d (.tuple ds),M)
 |[.c i]=>match M[i]? with
  |some (.lst a)=>(mV a).bind fun ds=>Z (.d (.tuple ds),M)
  |_=>Y
 |_=>Y
def aCQ:PN K (fun xs H Q=>∃p ys,xs=[.ref p]/\((SqL K H p ys/\∀l,H l=Y->Q (.ref l) (upd H l (.tup ys)))\/(SqT K H p ys/\Q (.ref p) H))) bO:=by
 intro xs M z M' h W H vs Q G r k;unfold bO at h;split at h
 .rename_i ds;cases h;rcases r with _|⟨a,_|_⟩;obtain⟨p,us,rfl,d,b⟩:=a;refine⟨p,us,rfl,.inl ⟨G.fh.seq d,fun l e=>?_⟩⟩;obtain⟨c,f⟩:=G.lay e;exact k _ _ _ c f ⟨l,us,rfl,SqT.of aW,aM.same c.ff _ _ b⟩
 .rename_i ds;cases h;rcases r with _|⟨a,_|_⟩;obtain⟨p,us,rfl,d,b⟩:=a;exact⟨p,us,rfl,.inr ⟨G.fh.seqT d,k _ W H (.refl _) G ⟨p,us,rfl,d,b⟩⟩⟩
 .rename_i i;split at h
  .rename_i ys hy;obtain⟨ds,g,h⟩:=aI h;cases h;rcases r with _|⟨a,_|_⟩;obtain⟨us,j,b⟩:=G.lstAt hy;rw[a.2];refine⟨_,us,rfl,.inl ⟨SqL.of j,fun l e=>?_⟩⟩;obtain⟨c,f⟩:=G.lay e;exact k _ _ _ c f ⟨l,us,rfl,SqT.of aW,aM.same c.ff _ _<|eM g b⟩
  .cases h
 .cases h
def EC(T:String)(f:EF):EF:=fun γ M=>(f γ M).bind fun r=>match r.1 with
 |.d a=>Z (.d (.bool (CQ T a)),r.2)
 |_=>Y
def aIi{T:String}{e:TE}{f:EF}(hT:T∈asked)(a:SE K e f):SE K (tCB (aHL K)<|rF e<|rF (tC (.ty T)) VW) (EC T f):=by
 intro γ M x M' b W H i Q G R k;obtain⟨⟨y,M1⟩,j,b⟩:=aI b;cases y with
 |c _=>cases b
 |t _=>cases b
 |f _=>cases b
 |g _=>cases b
 |d y=>
  cases b;refine a _ _ _ _ j W H i _ G R fun v l m n h o=>?_;exact⟨v,T,y,rfl,hT,Rep.same h.fh _ _ o,k _ l m n h rfl⟩
def QM(T U:String)(f:EF):EF:=fun γ M=>(f γ M).bind fun r=>match r.1 with
 |.d a=>Z (.d (.bool (CQ T a || CQ U a)),r.2)
 |_=>Y
def aEi{T U:String}{h:TE}{f:EF}(hT:T∈asked)(l:U∈asked)(a:SE K h f):SE K (tCB (aAZ K)<|rF h<|rF (aIj<|rF (tC (.ty T))<|rF (tC (.ty U)) VW) VW) (QM T U f):=by
 intro γ M x M' b W H m Q G R k;obtain⟨⟨y,M1⟩,n,b⟩:=aI b;cases y with
 |c _=>cases b
 |t _=>cases b
 |f _=>cases b
 |g _=>cases b
 |d y=>
  cases b;refine a _ _ _ _ n W H m _ G R fun v u w o q r=>?_;refine⟨by show 2<=sizeLine;decide,fun p s=>?_⟩;obtain⟨i,j⟩:=q.lay s;refine⟨v,p,[T,U],y,rfl,aW,fun S hS=>?_,Rep.same (i.ff.trans j.fh) _ _ r,?_⟩
  .rcases List.mem_cons.mp hS with rfl|hS
   .exact hT
   .rw[List.mem_singleton.mp hS];exact l
  .have e:([T,U].any fun T=>CQ T y)=(CQ T y || CQ U y):=by simp
   rw[e];exact k _ _ _ (o.trans i) j rfl
def aDj(M:Sto):CD->Tw Bool
 |.d .none=>Z false
 |.d (.bool b)=>Z b
 |.d (.int i)=>Z (i != 0)
 |.d (.list ds)=>Z (!ds.isEmpty)
 |.d (.tuple ds)=>Z (!ds.isEmpty)
 |.c i=>match M[i]? with
  |some (.lst xs)=>Z (!xs.isEmpty)
  |some (.dk kvs)=>Z (!kvs.isEmpty)
  |_=>Y
 |_=>Y
def DO(f:EF):TF:=fun γ M=>(f γ M).bind fun r=>(aDj r.2 r.1).bind fun b=>Z (b,r.2)
def nI{a b:Type}{xs:Tv a}{ys:Tv b}(h:xs.length=ys.length):xs.isEmpty=ys.isEmpty:=by
 cases xs<;>cases ys<;>simp at h ⊢
def aIb{r:TE}{f:EF}(a:SE K r f):STt K (fun n H Q=>r n H fun x H'=>∃k,aFe K x H' k/\Q k H') (DO f):=by
 intro γ M b M' j W H n Q G R k;obtain⟨⟨y,M1⟩,u,j⟩:=aI j;obtain⟨D,e,j⟩:=aI j;cases j;refine a _ _ _ _ u W H n _ G R fun v w z A l h=>⟨_,?_,k w z A l⟩;cases y with
 |d y=>
  cases y with
  |none=>cases e;rw[show v=.non from h];rfl
  |bool c=>cases e;rw[show v=.bl _ from h];rfl
  |int i=>cases e;rw[show v=.int _ from h];rfl
  |str x=>cases e
  |list ds=>
   cases e;obtain⟨p,us,rfl,q,m⟩:=h;exact .inl ⟨us,l.fh.seq q,by rw[nI m.length]⟩
  |tuple ds=>
   cases e;obtain⟨p,us,rfl,q,m⟩:=h;exact .inr (.inl ⟨us,l.fh.seqT q,by rw[nI m.length]⟩)
  |dict kvs=>cases e
 |t _=>cases e
 |f _=>cases e
 |g _=>cases e
 |c i=>
  rw[h.2];unfold aDj at e;dsimp only at e;split at e
  .rename_i xs hx;cases e;obtain⟨us,B,m⟩:=l.lstAt hx;exact .inl ⟨us,SqL.of B,by rw[nI (Paired.len m)]⟩
  .rename_i kvs hx;cases e;obtain⟨_,o,C,s⟩:=l.cs i _ hx (by simp);cases o with
   |dK us=>exact .inr (.inr ⟨us,C,by rw[nI (Paired.len s)]⟩)
   |_=>exact False.elim s
  .cases e
def boolsOf:T4->Tw (Tv Bool)
 |[]=>Z []
 |.bool b::r=>(boolsOf r).bind fun bs=>Z (b::bs)
 |_::_=>Y
def DU:FN:=fun xs M=>match xs with
 |[.d (.list ds)]=>(boolsOf ds).bind fun bs=>Z (.d (.bool (bs.all id)),M)
 |_=>Y
theorem FF{H:Hp}:∀{ds:T4}{bs:Tv Bool}{vs:Tc},boolsOf ds=Z bs->aM K H ds vs->vs=bs.map V.bl
 |[],bs,vs=>fun e h=>by cases e;exact h
 |.bool b::r,bs,vs=>fun e h=>by
  obtain⟨cs,a,e⟩:=aI e;cases e;obtain⟨v,us,rfl,c,d⟩:=h;rw[show v=V.bl b from c,FF a d];rfl
 |.none::_,_,_=>fun e _=>by cases e
 |.int _::_,_,_=>fun e _=>by cases e
 |.str _::_,_,_=>fun e _=>by cases e
 |.list _::_,_,_=>fun e _=>by cases e
 |.tuple _::_,_,_=>fun e _=>by cases e
 |.dict _::_,_,_=>fun e _=>by cases e
def WN(f:X.calm=true):fR X (.builtin "all") (fun xs H Q=>∃(p:Ub)(bs:Tv Bool),xs=[.ref p]/\SqL X.K H p (bs.map V.bl)/\Q (.bl (bs.all id)) H):=by
 intro pins s n H xs us Q I r h;obtain⟨p,bs,rfl,g,q⟩:=h;obtain⟨u,rfl,j⟩:=vals1 r;cases j;obtain⟨its,k,c,t⟩:=I.list g;have a:=bG.bools k;subst a;refine call_all_walk<|A0v c.isList ?_;have d:=c.lt;refine⟨_,_,_,_,_,_,(fun i=>bs.getD i false),rfl,Walks.list (A:=X.A.in1) (I.ok.hd f) s.heap.objs.size p (C2 d) (bs.map Value.bool).toArray,⟨⟨_,C6 _ rfl,rfl,rfl⟩,c.isList.at fun o e=>A2 _ e⟩,yN,fun h' v l=>?_⟩;have m:((bs.map Value.bool).toArray).size=bs.length:=by simp
 rw[m,all_range];refine⟨.bl _,H,I.kept fun b o e=>?_,rfl,q⟩;exact l b o (fun z=>by rw[D4]at z;exact absurd (B3 e) (by grind))<|A2 _ e
def aGU:PN K (fun xs H Q=>∃(p:Ub)(bs:Tv Bool),xs=[.ref p]/\SqL K H p (bs.map V.bl)/\Q (.bl (bs.all id)) H) DU:=by
 intro xs M z M' h W H vs Q G r k;unfold DU at h;split at h
 .rename_i ds;obtain⟨bs,a,h⟩:=aI h;cases h;rcases r with _|⟨b,_|_⟩;obtain⟨p,us,rfl,c,d⟩:=b;have e:=FF a d;subst e;exact⟨p,bs,rfl,G.fh.seq c,k _ W H (.refl _) G rfl⟩
 .cases h
def HP:F3:=fun x y z M=>match x,y with
 |.c i,.d (.int k)=>match M[i]? with
  |some (.lst xs)=>(ixN xs.length k).bind fun j=>Z<|M.set i (.lst (xs.set j z))
  |_=>Y
 |_,_=>Y
def aIM:P3 K aFS HP:=by
 intro x y z M M' h W H v u w Q G b c d k;unfold HP at h;split at h
 .rename_i i n;split at h
  .rename_i xs hx;obtain⟨j,e,h⟩:=aI h;cases h;obtain⟨us,f,a⟩:=G.lstAt hx;refine⟨W.α i,us,n,j,b.2,c,f,by rw[<- Paired.len a];exact e,?_⟩;exact k W _ (.refl _)<|G.set hx (by simp)<|Paired.set d j a
  .cases h
 .cases h
end
section
variable{X:Cx}{K:Fg}
def aBX(K:Fg):R2:=fun x y H Q=>∃l b xs zs,x=.ref l/\y=.ref b/\SqL K H l xs/\SqL K H b zs/\xs.length+zs.length<=sizeLine/\∀p,H p=Y->Q (.ref p) (upd H p (.lst (xs++zs)))
def op_catS:OpR X (binaryOp .Add) (aBX X.K):=by
 intro pins s C H x y v u Q I m o h;obtain⟨l,b,xs,zs,rfl,rfl,p,hB,D,q⟩:=h;cases m;cases o;obtain⟨its,r,⟨⟨cls,t,data,sl⟩,n,g,w,z,hd⟩,_⟩:=I.list p;obtain⟨a,i,⟨⟨j,d,data2,sl2⟩,A,c,e,k,f⟩,_⟩:=I.list hB;subst w hd e f;have E:=r.length;have G:=i.length;refine concat_meets ⟨_,g,rfl⟩ ⟨_,c,rfl⟩ noFill_list_add seq_list_add PySem.F.slot_list_add PySem.F.entry_list_add (PySem.F.args_list_add_2 _ _) (list_addW l b its.toArray a.toArray n A t d sl sl2 (by grind)) ⟨g,c,?_⟩;have B:its.toArray++a.toArray=(its++a).toArray:=by simp
 rw[B];exact⟨.ref _,_,I.lnew (r.append i) (by grind),rfl,q _ I.fresh⟩
def NB(M:Sto):CD->Tw (T6)
 |.d (.list ds)=>Z<|ds.map .d
 |.c i=>match M[i]? with
  |some (.lst xs)=>Z xs
  |_=>Y
 |_=>Y
def FQ{xs:T6}(G:Good K W M H)(h:NB M x=Z xs)(r:cL K W x v):∃p vs,v=.ref p/\SqL K H p vs/\cM K W xs vs:=by
 unfold NB at h;split at h
 .rename_i ds;cases h;obtain⟨p,us,rfl,b,a⟩:=r;exact⟨p,us,rfl,G.fh.seq b,gS a⟩
 .rename_i i;split at h
  .rename_i d hy;cases h;obtain⟨us,c,a⟩:=G.lstAt hy;exact⟨_,us,r.2,SqL.of c,a⟩
  .cases h
 .cases h
def aFz:F2:=fun x y M=>(NB M x).bind fun xs=>(NB M y).bind fun a=>(mV (xs++a)).bind fun ds=>if ds.length<=sizeLine then Z (.d (.list ds),M)else Y
def aFv:P2 K (aBX K) aFz:=by
 intro x y M z M' h W H v u Q G e f k;obtain⟨xs,g,h⟩:=aI h;obtain⟨o,i,h⟩:=aI h;obtain⟨ds,b,h⟩:=aI h;by_cases a:ds.length<=sizeLine
 .rw[A4 a]at h;cases h;obtain⟨p,vs,rfl,j,c⟩:=FQ G g e;obtain⟨q,us,rfl,m,hs⟩:=FQ G i f;have el:=MM b;rw[B1]at el;refine⟨p,q,vs,us,rfl,rfl,j,m,by rw[<- Paired.len c,<- Paired.len hs];omega,fun l a=>?_⟩;obtain⟨d,n⟩:=G.lay a;exact k _ _ _ d n ⟨l,_,rfl,SqL.of aW,aM.same d.ff _ _<|eM b<|Paired.app c hs⟩
 .rw[B0 a]at h;cases h
def aJn:F2:=fun x y M=>match x,y with
 |.d (.tuple xs),.d (.tuple a)=>if xs≠[]/\xs.length+a.length<=sizeLine then Z (.d (.tuple (xs++a)),M)else Y
 |_,_=>Y
def aM.nil_iff(r:aM K H ds vs):vs=[]↔ds=[]:=by
 have:=r.length;constructor<;>intro h<;>subst h<;>simp at this
 .exact this
 .exact List.eq_nil_of_length_eq_zero this.symm
def aFs:P2 K (aAf K) aJn:=by
 intro x y M z M' h W H v u Q G f g k;unfold aJn at h;split at h
 .rename_i xs c;by_cases a:xs≠[]/\xs.length+c.length<=sizeLine
  .rw[A4 a]at h;cases h;obtain⟨p,vs,rfl,d,b⟩:=f;obtain⟨q,us,rfl,i,hs⟩:=g;refine⟨p,q,vs,us,rfl,rfl,G.fh.seqT d,G.fh.seqT i,fun z=>a.1<|b.nil_iff.mp z,by rw[<- b.length,<- hs.length];exact a.2,fun z=>?_,fun z l j=>?_⟩
   .have:c=[]:=hs.nil_iff.mp z;subst this;rw[C8]at k;exact k _ W H (.refl _) G ⟨p,vs,rfl,d,b⟩
   .obtain⟨e,m⟩:=G.lay j;exact k _ _ _ e m ⟨l,_,rfl,SqT.of aW,aM.same e.ff _ _<|aM.app b hs⟩
  .rw[B0 a]at h;cases h
 .cases h
def P2.or(a:P2 K r h)(b:P2 K d h'):P2 K (fun x y H Q=>r x y H Q\/d x y H Q) (HS h h'):=by
 intro x y M z M' c W H v u Q G f g k;unfold HS at c;cases e:h x y M with
 |some q=>
  rw[e]at c;cases c;exact .inl (a _ _ _ _ _ e W H v u Q G f g k)
 |none=>
  rw[e]at c;exact .inr (b _ _ _ _ _ c W H v u Q G f g k)
noncomputable def OU(K:Fg):R2:=fun x y H Q=>∃a b c,x=.ref a/\y=.ref b/\SqT K H a []/\SqT K H b c/\Q (.ref b) H
def op_catT0:OpR X (binaryOp .Add) (OU X.K):=by
 intro pins s w H x y v u Q I k l h;obtain⟨a,b,z,rfl,rfl,ha,m,q⟩:=h;cases k;cases l;obtain⟨its,o,⟨⟨cls,p,data,sl⟩,i,r,n,hd⟩,_⟩:=I.tuple ha;obtain⟨c,A,⟨⟨j,e,data2,sl2⟩,d,f,t,g⟩,_⟩:=I.tuple m;subst r hd f g;cases o;exact concat_meets ⟨_,i,rfl⟩ ⟨_,d,rfl⟩ noFill_tuple_add seq_tuple_add PySem.F.slot_tuple_add PySem.F.entry_tuple_add (PySem.F.args_tuple_add_2 _ _) (tuple_addW0 a b #[] c.toArray n t p e sl sl2 rfl) ⟨i,d,⟨.ref b,H,I,rfl,q⟩⟩
def YG:F2:=fun x y M=>match x,y with
 |.d (.tuple []),.d (.tuple a)=>Z (.d (.tuple a),M)
 |_,_=>Y
def aBC:P2 K (OU K) YG:=by
 intro x y M z M' h W H v u Q G c d k;unfold YG at h;split at h
 .rename_i f;cases h;obtain⟨p,vs,rfl,a,e⟩:=c;obtain⟨q,us,rfl,b,hs⟩:=d;rw[show vs=[]from e]at a;exact⟨p,q,us,rfl,rfl,G.fh.seqT a,G.fh.seqT b,k _ W H (.refl _) G ⟨q,us,rfl,b,hs⟩⟩
 .cases h
def cS:F2:=HS aJj<|HS aFz<|HS YG aJn
def aCu(K:Fg):R2:=fun x y H Q=>(rI0 fun i j=>.int (i+j)) x y H Q\/aBX K x y H Q\/OU K x y H Q\/aAf K x y H Q
def aEY:OpR X (binaryOp .Add) (aCu X.K):=op_add.or<|op_catS.or<|op_catT0.or aDW
def aCW:P2 K (aCu K) cS:=P2.or aGy<|P2.or aFv<|P2.or aBC aFs
def eqS(neg:Bool):F2:=fun x y M=>match x,y with
 |.d (.str a),.d (.str b)=>Z (.d (.bool (if neg then !(a==b)else a==b)),M)
 |_,_=>Y
def eqX(neg:Bool):F2:=HS (eqS neg)<|eqD neg
def aGD(K:Fg):R2:=fun x y H Q=>rEq x y H Q\/WM K false x y H Q
def aII(K:Fg):R2:=fun x y H Q=>rNe x y H Q\/WM K true x y H Q
def aBu:decide (V.str a=V.str b)=(a==b):=by grind
def aJp:P2 K rEq (eqS false):=by
 intro x y M z M' h W H v u Q G c d k;unfold eqS at h;split at h
 .rename_i a b;cases h;rw[show v=.str a from c,show u=.str b from d];refine⟨rfl,?_⟩;rw[aBu];exact k _ W H (.refl _) G rfl
 .cases h
def aGI:P2 K rNe (eqS true):=by
 intro x y M z M' h W H v u Q G c d k;unfold eqS at h;split at h
 .rename_i a b;cases h;rw[show v=.str a from c,show u=.str b from d];refine⟨rfl,?_⟩;rw[aBu];exact k _ W H (.refl _) G rfl
 .cases h
def YU:P2 K (aGD K) (eqX false):=P2.or aJp aGe
def aGL:P2 K (aII K) (eqX true):=P2.or aGI aGe
def aHK(a:X.A.units+64<cLine):OpR X (compareOp .Eq) (aGD X.K):=op_eq.or<|aBK a
def aHc(a:X.A.units+64<cLine):OpR X (compareOp .NotEq) (aII X.K):=op_ne.or<|aJE a
def aGR:P2 K (rI0 fun i j=>.int (i-j)) LY:=aGy
def aHD:P2 K (rI MQ fun i j=>.int (i*j)) vP:=aEy fun _ _ h=>mulOk_of h
def aEw:P2 K (rI aGr fun i j=>.int (i / j)) qH:=aEy fun i j h=>by
 unfold yQ at h;rw[B8]at h;exact⟨D7 h.1,D7 (p:=j.natAbs<dQ) h.2⟩
def aJJ:P2 K (rI (fun _ j=>0<j) fun i j=>.int (i % j)) fG:=aEy fun i j h=>D7 h
def aJI:P2 K (rI aKy fun i j=>.int (i ^ j.toNat)) KP:=aEy fun i j h=>by
 unfold aGx at h;rw[B8,B8]at h;exact⟨D7 h.1.1,D7 h.1.2,D7 h.2⟩
def aGn:P2 K (rI0 fun i j=>.bl (decide (i<j))) ltI:=UF
def aLT:P2 K (rI0 fun i j=>.bl (decide (i<=j))) leI:=UF
def aLM:P2 K (rI0 fun i j=>.bl (decide (j<i))) gtI:=UF
def aKm:P2 K (rI0 fun i j=>.bl (decide (j<=i))) geI:=UF
def XJ:F1:=fun x M=>match x with
 |.d (.int i)=>Z (.d (.int (-i)),M)
 |_=>Y
def aJs:P1 K (rU fun i=>.int (-i)) XJ:=by
 intro x M z M' h W H v Q G r k;unfold XJ at h;split at h
 .rename_i i;cases h;exact⟨i,r,k _ W H (.refl _) G rfl⟩
 .cases h
end
section
variable{X:Cx}{K:Fg}
def aLW(h:X.K=K):fR X (.builtin "isinstance") (aHL K):=by subst h;exact UX
def aLs(h:X.K=K):fR X (.builtin "isinstance") (aAZ K):=by subst h;exact PX
def aJY(K:Fg):R2:=rIx K
def kIx(h:X.K=K):IxR X (aJY K):=by subst h;exact aJg
def aIV:P2 K (aJY K) ixF:=aLK
def aFH(K:Fg):Tc->Hp->VK->Prop:=fun xs H Q=>∃p a,xs=[.ref p]/\(SqL K H p a\/SqT K H p a)/\Q (.int a.length) H
def aLZ(h:X.K=K):fR X (.builtin "len") (aFH K):=by subst h;exact HV
def aCR:PN K (aFH K) fQ:=aIa
def QA(K:Fg):Tc->Hp->VK->Prop:=fun xs H Q=>∃p a,xs=[.ref p]/\(SqL K H p a\/SqT K H p a)/\∀l,H l=Y->Q (.ref l) (upd H l (.lst a))
def aFP(h:X.K=K):fR X (.type "list") (QA K):=by subst h;exact JG
def aAE:PN K (QA K) xA:=aEp
def UE(K:Fg):Tc->Hp->VK->Prop:=fun xs H Q=>∃p a,xs=[.ref p]/\((SqL K H p a/\∀l,H l=Y->Q (.ref l) (upd H l (.tup a)))\/(SqT K H p a/\Q (.ref p) H))
def aGZ(h:X.K=K):fR X (.type "tuple") (UE K):=by subst h;exact EB
def WH:PN K (UE K) bO:=aCQ
def aCr(K:Fg):Tc->Hp->VK->Prop:=fun xs H Q=>∃(p:Ub)(bs:Tv Bool),xs=[.ref p]/\SqL K H p (bs.map V.bl)/\Q (.bl (bs.all id)) H
def aMa(h:X.K=K)(a:X.calm=true):fR X (.builtin "all") (aCr K):=by subst h;exact WN a
def UB:PN K (aCr K) DU:=aGU
def kEq(h:X.K=K)(a:X.A.units+64<cLine):OpR X (compareOp .Eq) (aGD K):=by subst h;exact aHK a
def kNe(h:X.K=K)(a:X.A.units+64<cLine):OpR X (compareOp .NotEq) (aII K):=by subst h;exact aHc a
def kIn(h:X.K=K)(a:X.A.in1.units+64<cLine):OpR X (compareOp .In) (aIW K false):=by subst h;exact aHO a
def aMf(h:X.K=K):OpR X (binaryOp .Add) (aCu K):=by subst h;exact aEY
def TY(h:X.K=K)(b:PE X l a):PI X tg l (YL K a):=by subst h;exact aIO b
def aDc{n:Nat}(b:X.K=K)(c:X.calm=true)(h:PGs X es t)
 (hn:(assignEach es X.env).length=n:=by rfl) (a:(assignEach es X.env).findIdx? (·.1)=Y:=by rfl):PG X (.Tuple es k pos) (aEU K n t):=by subst b;exact aIQ c h hn a
noncomputable def aKY(K:Fg)(a:TE):TT:=fun b H Q=>a b H fun x H'=>∃k,aFe K x H' k/\Q k H'
def aEV(d:X.K=K)(ha:PE X a c)(e:∀b,isTrue a X.env b=(do let v <- b;standAt a.pos;holding [v]<|truthy v)):PT X a (aKY K c):=by subst d;exact aAs ha e
def aED(a:SE K b f):STt K (aKY K b) (DO f):=aIb a
end
section
variable{es:T8}{env:Env}
def cJ{a b}:starEach (.Name a b::es) env=(false,eval (.Name a b) env)::starEach es env:=rfl
def BK{a b c}:starEach (.Tuple a b c::es) env=(false,eval (.Tuple a b c) env)::starEach es env:=rfl
def xV:(backTo pos<|starEach [] env).any (·.1)=false:=rfl
def pN{e:Uc}(hs:starEach (e::es) env=(false,eval e env)::starEach es env)(h:(backTo pos<|starEach es env).any (·.1)=false):(backTo pos<|starEach (e::es) env).any (·.1)=false:=by
 rw[hs];have a:backTo pos ((false,eval e env)::starEach es env)=(false,(do let v <- eval e env;standAt pos;pure v:Sem Tx))::backTo pos (starEach es env)\/(backTo pos ((false,eval e env)::starEach es env)).any (·.1)=(backTo pos<|starEach es env).any (·.1):=.inr rfl;rcases a with q|q
 .rw[q,U5,h];rfl
 .rw[q];exact h
end
section
variable{P:Ud}{w:World}{K:Fg}{mg:Str->Tf}
def Fun.okM{base:Heap}{x:Str}{st:Stmt}{N ps:Tb}{k:Nat}{b:SF}{f:Ub}{fd:FuncData}(F:Fun K x x st f fd)(S:aR N ps (aH st))
 (c:∀(f:Ub)(cdv:Tx)(A:Ue)(outer:Tv Env)(s:Ua)(H:Hp)(E:XK),cG k (A.deeper<|envOfC x (aH st) s.heap.objs.size f cdv)->
  ∃t,PSs (jG CX0 P w K mg base N x (aH st) f cdv A outer s H E).nox (bR st) t/\SS K t b):pO P w K mg base CX0 (k+1) f fd ps (spM K (fnF ps.length N.length b)):=by
 have len:∀vs H Q E,spM K (fnF ps.length N.length b) vs H Q E->vs.length=ps.length:=fun vs H Q E h=>by
  obtain⟨xs,M,W,y,M',G,R,a,_⟩:=h;by_cases d:xs.length=ps.length
  .rw[<- Paired.len R];exact d
  .unfold fnF at a;rw[B0 d]at a;cases a
 refine F.ok S len fun cdv A outer s H vs Q E l h=>?_;obtain⟨t,m,hS⟩:=c f cdv A outer s H E l;refine⟨t,m,?_⟩;obtain⟨xs,M,W,y,M',G,R,a,k⟩:=h;by_cases d:xs.length=ps.length
 .unfold fnF at a;rw[A4 d]at a;obtain⟨⟨o,M1⟩,n,a⟩:=aI a
  have p:cP K W (xs.map Z++List.replicate (N.length-xs.length) Y) (start N vs):=by
   unfold start;rw[<- Paired.len R];exact Paired.app (cM.some R)<|wR _
  refine hS _ _ _ _ n W H _ _ G p fun e g i j=>?_;cases o with
  |rt x=>cases a;exact fun v r=>k v e g i j r
  |nx γ=>cases a;exact fun q r=>k .non e g i j rfl
  |bk γ=>cases a
  |ct γ=>cases a
 .unfold fnF at a;rw[B0 d]at a;cases a
def Def.okL{p:Str}{st:Stmt}{F:FN}(D:Def K mg x st)(S:aR N [p] (aH st))(c:F=fnF 1 N.length b)
 (d:∀(kV doc pm:Tx)(an:Th)(cdv ct:Tx)(us:T5),us.length=[p].length->bindArgs (PySem.W.fnOf x x (eT st) (bR st) (aH st) .none kV doc pm an cdv ct) ⟨us,[]⟩=pure ([p].zip us))
 (a:∀(base:Heap)(f:Ub)(cdv:Tx)(A:Ue)(outer:Tv Env)(s:Ua)(H:Hp)(E:XK),cG k (A.deeper<|envOfC x (aH st) s.heap.objs.size f cdv)->
  ∃t,PSs (jG CX0 P w K mg base N x (aH st) f cdv A outer s H E).nox (bR st) t/\SS K t b):
 ∃f fd,mg x=Z (.ref f)/\(∀(s:Ua)(u:Tx),BindsTo s fd ⟨[u],[]⟩ [(p,u)])/\∀base,pO P w K mg base CX0 (k+1) f fd [p] (spM K F):=by
 subst c;obtain⟨f,fd,Fu,m⟩:=D.ex;refine⟨f,fd,m,fun s u=>?_,fun base=>Fu.okM S<|a base⟩;obtain⟨oc,od,kV,doc,pm,an,cdv,ct,osl,rfl,g,e⟩:=Fu.ex;exact .of_eq (d kV doc pm an cdv ct [u] rfl)
theorem KJ{H:Hp}:∀a:T7,aM K H (a.map .int) (a.map V.int)
 |[]=>rfl
 |n::a=>⟨.int n,a.map V.int,rfl,rfl,KJ a⟩
def aHP{F:FN}(e:∀b:T7,b.length<=63->∃M',F [.d (.list (b.map .int))] []=Z (.d (.bool true),M')){b:T7}(f:b.length<=63)(hS:SqL K H a (b.map V.int))(ht:TabsOk K H H)(E:XK):
 spM K F [.ref a] H (fun v _=>v=.bl true) E:=by
 obtain⟨M',h⟩:=e b f;refine⟨[.d (.list (b.map .int))],[],⟨H,fun _=>0,0⟩,_,M',⟨kJ.refl H,rfl,fun i c h=>by simp at h,fun i j c c' h=>by simp at h,ht⟩,.cons (⟨a,b.map V.int,rfl,hS,KJ b⟩) .nil,h,fun v W' H' _ _ r=>r⟩
def law_walk{l:PySem.W.OpenLaw}{YP:World->Heap->Prop}{d:DefRec}{K:Params->Fg}{F:FN}{p:Str}(i:PyProof.Rows.importsNone q=true)(hn:l.most=Z 63)(b:d.params.defaults=[])(j:cG k callerA)
 (n:∀(w:World)(h:Heap),YP w h->(K w.params).In h)
 (hT:∀(w:World)(mg:Str->Tf)(h:Heap),(K w.params).In h->h.Ns mainGlobals mg->∃f fd,mg d.name=Z (.ref f)/\(∀(s:Ua)(u:Tx),BindsTo s fd ⟨[u],[]⟩ [(p,u)])/\∀base,pO l.prog w (K w.params) mg base CX0 k f fd [p]<|spM (K w.params) F)
 (o:∀c:T7,c.length<=63->∃M',F [.d (.list (c.map .int))] []=Z (.d (.bool true),M')) (ht:∀w:World,aCb (K w.params)=[]):
 PySem.W.WalkO q loose XP YP l.row.toRowW d [] (fun f vs=>PySem.call f vs):=
 L2.walk_of i hn (by decide) b j n
  (fun w mg y h KX G g=>by
   obtain⟨f,fd,m,r,t⟩:=hT w mg h KX G;have e:=m.symm.trans g;cases e;exact⟨fd,r,fun base _ _=>t base⟩)
  (fun w H a c v _ hS=>aHP o v hS (fun x hx=>by rw[ht w]at hx;cases hx) _) fun _ _ _ _ _ z=>z
end
def XF(e:Uc)(es:T8):Prop:=∀env:Env,starEach (e::es) env=(false,eval e env)::starEach es env
def LV:T8->Prop
 |[]=>True
 |e::es=>XF e es/\LV es
def LV.plain:∀{es:T8},LV es->∀(env:Env)(pos:Pos),(backTo pos<|starEach es env).any (·.1)=false
 |[]=>fun _ _ _=>rfl
 |_::_=>fun h env pos=>pN (h.1 env)<|h.2.plain env pos
section
variable{ι:Type}
structure ME(K:Fg)(X:ι->Cx)(e:Uc)(f:EF):Prop where
 ex:∃t,(∀i,PE (X i) e t)/\SE K t f
structure MT(K:Fg)(X:ι->Cx)(e:Uc)(f:TF):Prop where
 ex:∃t,(∀i,PT (X i) e t)/\STt K t f
structure MW(K:Fg)(X:ι->Cx)(e:Uc)(f:TF):Prop where
 ex:∃t,(∀i,PW (X i) e t)/\STt K t f
structure MA(K:Fg)(X:ι->Cx)(es:T8)(f:AF):Prop where
 ex:∃t,(∀i,PA (X i) es t)/\SA K t f
 st:LV es
structure MG(K:Fg)(X:ι->Cx)(e:Uc)(f:GF):Prop where
 ex:∃t,(∀i,PG (X i) e t)/\SG K t f
structure MGs(K:Fg)(X:ι->Cx)(es:T8)(f:GsF):Prop where
 ex:∃t,(∀i,PGs (X i) es t)/\SGs K t f
structure MI(K:Fg)(X:ι->Cx)(tg e:Uc)(f:AF)(q:Bool:=true):Prop where
 ex:∃t,(∀i,PI (X i) tg e t q)/\SI K t f
structure MF(K:Fg)(X:ι->Cx)(es:T8)(f:TF):Prop where
 ex:∃t,(∀i,AN (X i) es t)/\STt K t f
structure MS(K:Fg)(X:ι->Cx)(st:Stmt)(f:SF):Prop where
 ex:∃t,(∀i,PS (X i) st t)/\SS K t f
structure ML(K:Fg)(X:ι->Cx)(st:T9)(f:SF):Prop where
 ex:∃t,(∀i,PSs (X i) st t)/\SS K t f
structure Q2(K:Fg)(X:ι->Cx)(o:Tn)(h:F2):Prop where
 ex:∃r,(∀i,OpR (X i) o r)/\P2 K r h
structure Q1(K:Fg)(X:ι->Cx)(o:Tx->Sem Tx)(h:F1):Prop where
 ex:∃r,(∀i,UnR (X i) o r)/\P1 K r h
structure QN(K:Fg)(X:ι->Cx)(f:Tx)(h:FN):Prop where
 ex:∃r,(∀i,fR (X i) f r)/\PN K r h
structure QI(K:Fg)(X:ι->Cx)(h:F2):Prop where
 ex:∃r,(∀i,IxR (X i) r)/\P2 K r h
structure QS(K:Fg)(X:ι->Cx)(h:F3):Prop where
 ex:∃r,(∀i,aIN (X i) r)/\P3 K r h
variable{K:Fg}{X:ι->Cx}{a b c e:Uc}{es:T8}{f g h:EF}{ft gt:TF}{fa:AF}{pos:Pos}
def aB(i:Nat){x:Str}(k:∀j,(X j).N[i]?=Z x:=by intro _;rfl)(l:∀j,Vis (X j).env.scope x:=by intro _;first|exact Or.inl rfl|exact Or.inr (Or.inl rfl)|exact Or.inr<|Or.inr rfl)(hd:(x==("__debug__":Str))=false:=by decide)(d:(x==("__classdict__":Str))=false:=by decide):
 ME K X (.Name x pos) (aD i):=⟨_,fun j=>aHM (k j) (l j) hd d,aHp⟩
def aF:ME K X (.Constant (.int i) j pos) (fC (.int i)):=⟨_,fun _=>aJw,YY⟩
def fN:ME K X (.Constant (.bool i) j pos) (fC (.bool i)):=⟨_,fun _=>aLg,aLO⟩
def HU:ME K X (.Constant .none j pos) (fC .none):=⟨_,fun _=>aID,aGT⟩
def aBp:ME K X (.Constant (.str i) j pos) (fC (.str i)):=⟨_,fun _=>aIe,aHq⟩
def LW(hm:∀i,∃t:Tok,(X i).mg x=Z (.int n t))(d:∀i,Gl (X i) x:=by intro _;rfl)(hd:(x==("__debug__":Str))=false:=by decide):ME K X (.Name x pos) (fC (.int n)):=
 ⟨_,fun i=>TL (v:=.int n) (d i) (hm i).choose_spec ⟨_,rfl⟩ hd,YY⟩
def bE(q:Q2 K X (binaryOp op) k)(x:ME K X a f)(y:ME K X b g):ME K X (.BinOp a op b pos) (fOp k f g):=by
 obtain⟨r,d,j⟩:=q.ex;obtain⟨t,l,m⟩:=x.ex;obtain⟨u,n,o⟩:=y.ex;exact⟨_,fun i=>aJP (d i) (l i)<|n i,QZ j m o⟩
def aLx(q:Q1 K X (unaryOp op) k)(x:ME K X a f):ME K X (.UnaryOp op a pos) (fUn k f):=by
 obtain⟨r,d,j⟩:=q.ex;obtain⟨t,l,m⟩:=x.ex;exact⟨_,fun i=>aLy (d i)<|l i,aKV j m⟩
def dN{rest:T8}(x:ME K X a f)(y:ME K X (.BoolOp .And (b::rest) pos) g):ME K X (.BoolOp .And (a::b::rest) pos) (qN f g):=by
 obtain⟨t,d,j⟩:=x.ex;obtain⟨u,k,l⟩:=y.ex;exact⟨_,fun i=>aGE (d i)<|k i,aGO j l⟩
def fK(x:ME K X a f):ME K X (.BoolOp op [a] pos) f:=by
 obtain⟨t,d,j⟩:=x.ex;exact⟨_,fun i=>aHC<|d i,j⟩
def aBs(x:ME K X a f):ME K X (.UnaryOp .Not a pos) (aEN f):=by
 obtain⟨t,d,j⟩:=x.ex;exact⟨_,fun i=>aJe<|d i,aIc j⟩
def gA(q:Q2 K X (compareOp op) k)(x:ME K X a f)(y:ME K X b g)(hm:behindInMarks op b=false:=by rfl):ME K X (.Compare a [op] [b] pos) (fOp k f g):=by
 obtain⟨r,d,j⟩:=q.ex;obtain⟨t,l,m⟩:=x.ex;obtain⟨u,n,o⟩:=y.ex;exact⟨_,fun i=>aEX (d i) (l i) (n i) hm,QZ j m o⟩
def NC(q:Q2 K X (compareOp op) k)(n:Q2 K X (compareOp d) m)(x:ME K X a f)(y:ME K X b g)(z:ME K X c h)(hm:lastMarks [op,d] [b,c]=false:=by with_unfolding_all rfl):ME K X (.Compare a [op,d] [b,c] pos) (IY k m f g h):=by
 obtain⟨r,o,p⟩:=q.ex;obtain⟨E,j,l⟩:=n.ex;obtain⟨t,s,w⟩:=x.ex;obtain⟨u,A,B⟩:=y.ex;obtain⟨v,C,D⟩:=z.ex;exact⟨_,fun i=>aBz (o i) (j i) (s i) (A i) (C i) hm,aBJ p l w B D⟩
def aKQ(x:MT K X c ft)(y:ME K X a f)(z:ME K X b g):ME K X (.IfExp c a b pos) (fIf ft f g):=by
 obtain⟨t,d,j⟩:=x.ex;obtain⟨u,k,l⟩:=y.ex;obtain⟨v,m,n⟩:=z.ex;exact⟨_,fun i=>aAK (d i) (k i)<|m i,aKN j l n⟩
def aE:MA K X [] aG:=⟨⟨_,fun _=>CH,aGJ⟩,trivial⟩
def aA(x:ME K X e f)(y:MA K X es fa)(hs:XF e es:=by intro _;rfl):MA K X (e::es) (aC f fa):=by
 obtain⟨t,d,j⟩:=x.ex;obtain⟨u,k,l⟩:=y.ex;exact⟨⟨_,fun i=>jW (d i) (k i)<|hs _,aEr j l⟩,hs,y.st⟩
def bI(x:MA K X es fa):ME K X (.Tuple es k pos) (bY fa):=by
 obtain⟨t,d,j⟩:=x.ex;exact⟨_,fun i=>ZP<|d i,aHX j⟩
def lP(x:MA K X es fa):ME K X (.List es pos) (iQ fa):=by
 obtain⟨t,d,j⟩:=x.ex;exact⟨_,fun i=>aCt<|d i,aGF j⟩
def rY(x:MA K X es fa):ME K X (.List es pos) (lM fa):=by
 obtain⟨t,d,j⟩:=x.ex;exact⟨_,fun i=>aCt<|d i,aJr j⟩
def aX(q:QI K X k)(x:ME K X a f)(y:ME K X b g)(hs:SZ b:=by intro _ _;rfl):ME K X (.Subscript a b pos) (fOp k f g):=by
 obtain⟨r,d,j⟩:=q.ex;obtain⟨t,l,m⟩:=x.ex;obtain⟨u,n,o⟩:=y.ex;exact⟨_,fun i=>aKJ (d i) (l i) (n i) hs,QZ j m o⟩
def aP{F:FN}(C:∀i,Callee (X i).prog (X i).w (X i).K (X i).mg (X i).base k x ps (spM K F) q)(d:∀i,cG k (X i).A q)(y:MA K X (e::es) fa)(j:∀i,Gl (X i) x:=by intro _;rfl)(hd:(x==("__debug__":Str))=false:=by decide):
 ME K X (.Call (.Name x p) (e::es) [] pos) (aK F fa):=by
 obtain⟨u,l,m⟩:=y.ex;exact⟨_,fun i=>aCK (C i) (d i) (l i) (j i) hd (y.st.1 _)<|y.st.2.plain _ _,aES m⟩
def cU{id:String}{F:FN}(q:QN K X (.builtin id) F)(hm:∀i,(X i).mg x=Y)(d:bootBuiltins x=Z (.builtin id))(y:MA K X (e::es) fa)(j:∀i,Gl (X i) x:=by intro _;rfl)(hn:x≠"__name__":=by decide)(hd:(x==("__debug__":Str))=false:=by decide):
 ME K X (.Call (.Name x p) (e::es) [] pos) (aK F fa):=by
 obtain⟨r,k,l⟩:=q.ex;obtain⟨u,m,n⟩:=y.ex;exact⟨_,fun i=>wQ (k i) (j i) (hm i) d (m i) hn hd (y.st.1 _)<|y.st.2.plain _ _,aGo l n⟩
def cW{id:String}{F:FN}(q:QN K X (.type id) F)(hm:∀i,(X i).mg x=Y)(d:bootBuiltins x=Z (.type id))(y:MA K X (e::es) fa)(j:∀i,Gl (X i) x:=by intro _;rfl)(hn:x≠"__name__":=by decide)(hd:(x==("__debug__":Str))=false:=by decide):
 ME K X (.Call (.Name x p) (e::es) [] pos) (aK F fa):=by
 obtain⟨r,k,l⟩:=q.ex;obtain⟨u,m,n⟩:=y.ex;exact⟨_,fun i=>XG (k i) (j i) (hm i) d (m i) hn hd (y.st.1 _)<|y.st.2.plain _ _,aGo l n⟩
def xM{T:String}{p:Pos}(l:∀i,(X i).K=K)(hT:T∈asked)(x:ME K X a f)(hs:XF a [.Name y k])(hm:∀i,(X i).mg "isinstance"=Y)(d:∀i,(X i).mg y=Y)(m:bootBuiltins y=Z (.type T))(n:∀i,Gl (X i) "isinstance":=by intro _;rfl)(j:∀i,Gl (X i) y:=by intro _;rfl)
 (hn:y≠"__name__":=by decide) (hd:(y==("__debug__":Str))=false:=by decide):ME K X (.Call (.Name "isinstance" p) [a,.Name y k] [] pos) (EC T f):=by
 obtain⟨t,o,q⟩:=x.ex;refine⟨_,fun i=>wQ (aLW<|l i) (n i) (hm i) boot_isinstance (jW (o i) (jW (HY (v:=.ty T) (j i) (d i) m rfl hn hd) CH cJ)<|hs _) (by decide) (by decide) (hs _)<|pN cJ xV,aIi hT q⟩
def TZ{T U:String}{p:Pos}{k:Nat}(w:∀i,(X i).K=K)(hT:T∈asked)(A:U∈asked)(x:ME K X a f)(hs:XF a [.Tuple [.Name y s,.Name z d] k u])(hm:∀i,(X i).mg "isinstance"=Y)(j:∀i,(X i).mg y=Y)(l:∀i,(X i).mg z=Y)
 (B:bootBuiltins y=Z (.type T)) (m:bootBuiltins z=Z (.type U)) (C:∀i,Gl (X i) "isinstance":=by intro _;rfl) (n:∀i,Gl (X i) y:=by intro _;rfl) (o:∀i,Gl (X i) z:=by intro _;rfl)
 (hn:y≠"__name__":=by decide) (hd:(y==("__debug__":Str))=false:=by decide) (q:z≠"__name__":=by decide) (r:(z==("__debug__":Str))=false:=by decide):ME K X (.Call (.Name "isinstance" p) [a,.Tuple [.Name y s,.Name z d] k u] [] pos) (QM T U f):=by
 obtain⟨t,D,E⟩:=x.ex;refine⟨_,fun i=>wQ (aLs<|w i) (C i) (hm i) boot_isinstance (jW (D i) (jW (ZP<|jW (HY (v:=.ty T) (n i) (j i) B rfl hn hd) (jW (HY (v:=.ty U) (o i) (l i) m rfl q r) CH cJ) cJ) CH BK)<|hs _) (by decide) (by decide) (hs _)<|pN BK xV,aEi hT A E⟩
def dM(x:MT K X a ft):MT K X (.UnaryOp .Not a pos) (iM ft):=by
 obtain⟨t,d,j⟩:=x.ex;exact⟨_,fun i=>aHj<|d i,aIG j⟩
def AJ{rest:T8}(x:MT K X a ft)(y:MW K X (.BoolOp .And (b::rest) pos) gt):MW K X (.BoolOp .And (a::b::rest) pos) (DT ft gt):=by
 obtain⟨t,d,j⟩:=x.ex;obtain⟨u,k,l⟩:=y.ex;exact⟨_,fun i=>aHT (d i)<|k i,aJy j l⟩
def wZ(x:MT K X a ft):MW K X (.BoolOp .And [a] pos) ft:=by
 obtain⟨t,d,j⟩:=x.ex;exact⟨_,fun i=>aEH<|d i,j⟩
def lF{rest:T8}(x:MT K X a ft)(y:MW K X (.BoolOp .Or (b::rest) pos) gt):MW K X (.BoolOp .Or (a::b::rest) pos) (gOr ft gt):=by
 obtain⟨t,d,j⟩:=x.ex;obtain⟨u,k,l⟩:=y.ex;exact⟨_,fun i=>aLh (d i)<|k i,aKn j l⟩
def iN(x:MT K X a ft):MW K X (.BoolOp .Or [a] pos) ft:=by
 obtain⟨t,d,j⟩:=x.ex;exact⟨_,fun i=>aHW<|d i,j⟩
def pX(x:MW K X a ft):MT K X a ft:=by
 obtain⟨t,d,j⟩:=x.ex;exact⟨_,fun i=>(d i).pt,j⟩
def cV(q:Q2 K X (compareOp op) k)(x:ME K X a f)(y:ME K X b g)(hm:behindInMarks op b=false:=by rfl):MT K X (.Compare a [op] [b] pos) (gB<|fOp k f g):=by
 obtain⟨r,d,j⟩:=q.ex;obtain⟨t,l,m⟩:=x.ex;obtain⟨u,n,o⟩:=y.ex;exact⟨_,fun i=>aDX (d i) (l i) (n i) hm,aDK<|QZ j m o⟩
def dB(x:ME K X a f)(j:∀(env:Env)(d:Sem Tx),isTrue a env d=(do let v <- d;standAt a.pos;holding [v]<|truthy v):=by intro _ _;rfl):MT K X a (gB f):=by
 obtain⟨t,k,l⟩:=x.ex;exact⟨_,fun i=>aIU (k i)<|j _,aDg l⟩
def ZZ(j:∀i,(X i).K=K)(x:ME K X a f)(k:∀(env:Env)(d:Sem Tx),isTrue a env d=(do let v <- d;standAt a.pos;holding [v]<|truthy v):=by intro _ _;rfl):MT K X a (DO f):=by
 obtain⟨t,l,m⟩:=x.ex;exact⟨_,fun i=>aEV (j i) (l i)<|k _,aED m⟩
def jZ{p:Pos}(hm:∀i,(X i).mg "range"=Y)(x:MA K X [a] fa)(d:∀i,Gl (X i) "range":=by intro _;rfl):MI K X tg (.Call (.Name "range" p) [a] [] pos) (dA fa):=by
 obtain⟨t,j,k⟩:=x.ex;exact⟨_,fun i=>XX (d i) (hm i) (j i)<|x.st.1 _,aDv k⟩
def zX{p:Pos}(hm:∀i,(X i).mg "range"=Y)(x:MA K X [a,b] fa)(d:∀i,Gl (X i) "range":=by intro _;rfl):MI K X tg (.Call (.Name "range" p) [a,b] [] pos) (lY fa):=by
 obtain⟨t,j,k⟩:=x.ex;exact⟨_,fun i=>VY (d i) (hm i) (j i) (by rw[x.st.1,x.st.2.1];rfl) (by rw[x.st.2.1];rfl),aFi k⟩
def mQ(d:∀i,(X i).K=K)(x:ME K X a f):MI K X tg a (cQ f):=by
 obtain⟨t,j,k⟩:=x.ex;exact⟨_,fun i=>TY (d i)<|j i,ZX k⟩
def aV(i:Nat){x:Str}(d:∀j,(X j).N.Nodup)(hi:∀j,(X j).N[i]?=Z x:=by intro _;rfl)(hx:∀j,Loc (X j).env.scope x:=by intro _;first|exact Or.inl rfl|exact Or.inr rfl)(k:∀j,(X j).fn x=true\/(X j).env.scope.names.lookup x=Z .local:=by intro _;first|exact .inl rfl|exact .inr rfl):
 MG K X (.Name x pos) (hName i):=⟨_,fun j=>aFD (d j) (hi j) (hx j)<|k j,wG⟩
def jS:MGs K X [] iV:=⟨_,fun _=>aET,aEL⟩
def bN(x:MG K X e d)(y:MGs K X es gs)(hs:∀env:Env,(assignEach (e::es) env).map (·.2)=assign e env::(assignEach es env).map (·.2):=by intro _;rfl):MGs K X (e::es) (bD d gs):=by
 obtain⟨t,j,k⟩:=x.ex;obtain⟨u,l,m⟩:=y.ex;exact⟨_,fun i=>aCF (j i) (l i)<|hs _,aAe k m⟩
def pK{n:Nat}(j:∀i,(X i).K=K)(l:∀i,(X i).calm=true)(x:MGs K X es gs)(hn:∀env:Env,(assignEach es env).length=n:=by intro _;rfl)(d:∀env:Env,(assignEach es env).findIdx? (·.1)=Y:=by intro _;rfl):MG K X (.Tuple es k pos) (iB n gs):=by
 obtain⟨t,m,o⟩:=x.ex;exact⟨_,fun i=>aDc (j i) (l i) (m i) (hn _)<|d _,ZW o⟩
def aAH(q:QS K X s)(x:ME K X a f)(y:ME K X b g) (hs:∀(env:Env)(v:Tx),assign (.Subscript a b pos) env v=(do
 let d <- holding [v] (eval a env);let j <- holding [v,d] (eval b env)
 standAt pos
 holding [v,d,j] (setItem d j v)
 release [v,d,j] []):=by intro _ _;rfl):MG K X (.Subscript a b pos) (hSub f g s):=by
 obtain⟨r,k,l⟩:=q.ex;obtain⟨t,m,n⟩:=x.ex;obtain⟨u,o,p⟩:=y.ex;exact⟨_,fun i=>aGC (m i) (o i) (k i)<|hs _,aIs l n p⟩
def jL:MF K X [] eN:=⟨_,fun _=>aCc,aIC⟩
def aJi(x:MT K X c ft):MF K X [c] ft:=by
 obtain⟨t,d,j⟩:=x.ex;exact⟨_,fun i=>aCG<|d i,j⟩
abbrev LcI(ι:Type):Type:=ι×Ub×Ua×Hp×Ta×T2
def lG(X:ι->Cx)(N':Tb)(scope:Scope):LcI ι->Cx:=fun j=>bT (X j.1) N' scope j.2.1 j.2.2.1 j.2.2.2.1 j.2.2.2.2.1 j.2.2.2.2.2
variable{N':Tb}{cap:T3}{scope:Scope}{tg iter elt:Uc}{ifs:T8}{gf:GF}
def aJb(d:∀i,(X i).calm=true)(S:∀i,oD (X i) N' cap scope)(x:MI K X tg iter fa)(y:MG K (lG X N' scope) tg gf)(z:MF K (lG X N' scope) ifs ft)(w:ME K (lG X N' scope) elt f)(hs:∀(env:Env)(x:Tx),foldedSetIterable iter env x=pure x:=by intro _ _;rfl):
 ME K X (.ListComp elt [⟨tg,iter,ifs,0⟩] scope pos) (KM cap fa gf ft f):=by
 obtain⟨t,j,k⟩:=x.ex;obtain⟨u,l,m⟩:=y.ex;obtain⟨v,n,p⟩:=z.ex;obtain⟨o,q,r⟩:=w.ex;exact⟨_,fun i=>aKF (d i) (S i) (j i) (fun C s H fp pn=>l (i,C,s,H,fp,pn)) (fun C s H fp pn=>n (i,C,s,H,fp,pn)) (fun C s H fp pn=>q (i,C,s,H,fp,pn))<|hs _,aBL k m p r⟩
variable{st:Stmt}{sts:T9}{sf sg:SF}
def cN:ML K X [] bX:=⟨_,fun _=>aDC,aDb⟩
def aL(x:MS K X st sf):ML K X [st] sf:=by
 obtain⟨t,d,j⟩:=x.ex;exact⟨_,fun i=>RC<|d i,j⟩
def aJ(x:MS K X st sf)(y:ML K X sts sg):ML K X (st::sts) (aS sf sg):=by
 obtain⟨t,d,j⟩:=x.ex;obtain⟨u,k,l⟩:=y.ex;exact⟨_,fun i=>JS (d i)<|k i,aIY j l⟩
def aT(x:ME K X e f):MS K X (.Return (Z e) pos) (bQ f):=by
 obtain⟨t,d,j⟩:=x.ex;exact⟨_,fun i=>aHl<|d i,aGG j⟩
def rQ:SF:=fun _ _=>Y
def mK:MS K X st rQ:=⟨YX,fun _=>YS,fun _ _ _ _ h=>by cases h⟩
def lI(x:ME K X e f)(hs:∀i,swapsWith e Y pos.line (X i).env=pure false:=by intro _;rfl):MS K X (.Expr e pos) (mD f):=by
 obtain⟨t,d,j⟩:=x.ex;exact⟨_,fun i=>TB (d i)<|hs i,aDs j⟩
def dZ(x:MT K X c ft)(y:ML K X sts sf)(z:ML K X d sg):MS K X (.If c sts d pos) (sIf ft sf sg):=by
 obtain⟨t,j,k⟩:=x.ex;obtain⟨u,l,m⟩:=y.ex;obtain⟨v,n,o⟩:=z.ex;exact⟨_,fun i=>aGw (j i) (l i)<|n i,aKj k m o⟩
def BO(hp:∀i,PassesOwn (model (X i).prog (X i).w) (X i).A (X i).env (X i).xe)(x:MT K X c ft)(y:ML K X sts sf):MS K X (.While c sts [] pos) (sS ft sf):=by
 obtain⟨t,d,j⟩:=x.ex;obtain⟨u,k,l⟩:=y.ex;exact⟨_,fun i=>aCn (hp i) (d i)<|k i,aBi j l⟩
def hX(hp:∀i,PassesOwn (model (X i).prog (X i).w) (X i).A (X i).env (X i).xe)(d:∀i,(X i).calm=true)(x:MI K X tg iter fa)(y:MG K X tg gf)(z:ML K X sts sf)(hs:∀(env:Env)(x:Tx),foldedSetIterable iter env x=pure x:=by intro _ _;rfl):MS K X (.For tg iter sts [] pos) (mP fa gf sf):=by
 obtain⟨t,j,k⟩:=x.ex;obtain⟨u,l,m⟩:=y.ex;obtain⟨v,n,o⟩:=z.ex;exact⟨_,fun i=>aAY (hp i) (d i) (j i) (l i) (n i)<|hs _,aJB k m o⟩
def bH(i:Nat){k:Str}(l:∀j,(X j).N.Nodup)(x:ME K X e f)(hi:∀j,(X j).N[i]?=Z k:=by intro _;rfl)(hx:∀j,Loc (X j).env.scope k:=by intro _;first|exact Or.inl rfl|exact Or.inr rfl)(hs:∀j,swapsWith e (Z (.Name k d)) pos.line (X j).env=pure false:=by intro _;rfl)
 (m:∀j,(X j).fn k=true\/(X j).env.scope.names.lookup k=Z .local:=by intro _;first|exact .inl rfl|exact .inr rfl):MS K X (.Assign [.Name k d] e pos) (bC f<|hName i):=by
 obtain⟨t,n,o⟩:=x.ex;exact⟨_,fun j=>aCw (l j) (hi j) (hx j) (n j) (hs j)<|m j,IJ o wG⟩
def AS(x:ME K X e f)(y:MG K X tg gf)(d:∀k,swapsWithSole [tg] e pos.line (X k).env=pure false:=by intro _;rfl)(i:∀k,swappedStores [tg] e (X k).env=pure Y:=by intro _;rfl)(j:∀env:Env,(assignEach [tg] env).map (·.2)=[assign tg env]:=by intro _;rfl):MS K X (.Assign [tg] e pos) (bC f gf):=by
 obtain⟨t,l,m⟩:=x.ex;obtain⟨u,n,o⟩:=y.ex;exact⟨_,fun k=>aHU (l k) (n k) (d k) (i k)<|j _,IJ m o⟩
def gL(d:∀i,(X i).K=K:=by intro _;rfl):Q2 K X (binaryOp .Add) cS:=⟨_,fun i=>aMf<|d i,aCW⟩
def RN:Q2 K X (binaryOp .Sub) LY:=⟨_,fun _=>aGM,aGR⟩
def sI:Q2 K X (binaryOp .Mult) vP:=⟨_,fun _=>aEC,aHD⟩
def CK:Q2 K X (binaryOp .FloorDiv) qH:=⟨_,fun _=>aBW,aEw⟩
def iP:Q2 K X (binaryOp .Mod) fG:=⟨_,fun _=>aHa,aJJ⟩
def YO:Q2 K X (binaryOp .Pow) KP:=⟨_,fun _=>aJd,aJI⟩
def aKA:Q1 K X (unaryOp .USub) XJ:=⟨_,fun _=>aHE,aJs⟩
def OY:Q2 K X (compareOp .Lt) ltI:=⟨_,fun _=>op_lt,aGn⟩
def aLP:Q2 K X (compareOp .LtE) leI:=⟨_,fun _=>aJR,aLT⟩
def aEM:Q2 K X (compareOp .Gt) gtI:=⟨_,fun _=>aKH,aLM⟩
def aFg:Q2 K X (compareOp .GtE) geI:=⟨_,fun _=>aKU,aKm⟩
def DH(d:∀i,(X i).K=K)(j:∀i,(X i).A.units+64<cLine):Q2 K X (compareOp .Eq) (eqX false):=⟨_,fun i=>kEq (d i)<|j i,YU⟩
def uL(d:∀i,(X i).K=K)(j:∀i,(X i).A.units+64<cLine):Q2 K X (compareOp .NotEq) (eqX true):=⟨_,fun i=>kNe (d i)<|j i,aGL⟩
def aLV(d:∀i,(X i).K=K)(j:∀i,(X i).A.in1.units+64<cLine):Q2 K X (compareOp .In) (inD false):=⟨_,fun i=>kIn (d i)<|j i,aJU⟩
def bM(d:∀i,(X i).K=K:=by intro _;rfl):QI K X ixF:=⟨_,fun i=>kIx<|d i,aIV⟩
def qI(d:∀i,(X i).K=K:=by intro _;rfl):QN K X (.builtin "len") fQ:=⟨_,fun i=>aLZ<|d i,aCR⟩
def aBv(d:∀i,(X i).K=K):QN K X (.type "list") xA:=⟨_,fun i=>aFP<|d i,aAE⟩
def iG(d:∀i,(X i).K=K):QN K X (.type "tuple") bO:=⟨_,fun i=>aGZ<|d i,WH⟩
def aLN(d:∀i,(X i).K=K)(j:∀i,(X i).calm=true):QN K X (.builtin "all") DU:=⟨_,fun i=>aMa (d i)<|j i,UB⟩
def aFO:QS K X HP:=⟨_,fun _=>set_list,aIM⟩
end
section
variable{P:Ud}{w:World}{K:Fg}{mg:Str->Tf}
def Def.okG{st:Stmt}{ps:Tb}{b:SF}{q:Bool}(D:Def K mg x st)(S:aR N ps (aH st))
 (c:∀(kV doc pm:Tx)(an:Th)(cdv ct:Tx)(us:T5),us.length=ps.length->bindArgs (PySem.W.fnOf x x (eT st) (bR st) (aH st) .none kV doc pm an cdv ct) ⟨us,[]⟩=pure (ps.zip us))
 (a:∀(f:Ub)(cdv:Tx)(A:Ue)(outer:Tv Env)(s:Ua)(H:Hp)(E:XK),cG k (A.deeper<|envOfC x (aH st) s.heap.objs.size f cdv) q->
  ML K (fun _:Unit=>(jG CX0 P w K mg base N x (aH st) f cdv A outer s H E q).nox) (bR st) b):Callee P w K mg base (k+1) x ps (spM K (fnF ps.length N.length b)) q:=
 D.okM S c fun f cdv A outer s H E d=>by
  obtain⟨t,e,g⟩:=(a f cdv A outer s H E d).ex;exact⟨t,e (),g⟩
def Def.okLG{p:Str}{st:Stmt}{F:FN}(D:Def K mg x st)(S:aR N [p] (aH st))(c:F=fnF 1 N.length b)
 (d:∀(kV doc pm:Tx)(an:Th)(cdv ct:Tx)(us:T5),us.length=[p].length->bindArgs (PySem.W.fnOf x x (eT st) (bR st) (aH st) .none kV doc pm an cdv ct) ⟨us,[]⟩=pure ([p].zip us))
 (a:∀(base:Heap)(f:Ub)(cdv:Tx)(A:Ue)(outer:Tv Env)(s:Ua)(H:Hp)(E:XK),cG k (A.deeper<|envOfC x (aH st) s.heap.objs.size f cdv)->
  ML K (fun _:Unit=>(jG CX0 P w K mg base N x (aH st) f cdv A outer s H E).nox) (bR st) b):
 ∃f fd,mg x=Z (.ref f)/\(∀(s:Ua)(u:Tx),BindsTo s fd ⟨[u],[]⟩ [(p,u)])/\∀base,pO P w K mg base CX0 (k+1) f fd [p] (spM K F):=
 D.okL S c d fun base f cdv A outer s H E e=>by
  obtain⟨t,g,h⟩:=(a base f cdv A outer s H E e).ex;exact⟨t,g (),h⟩
end
end L2
namespace HT
open PySem PyProof.Rows PySem.Spec
section
variable{prog:Ud}{w:World}{A:Ue}{E:T0}{s:Ua}
def getItem_tuple_whole{lo:Tk}{Q:T0}(ht:IsTup s.heap t items)(hs:s.heap.IsSliceOf sl vl e .none)(g:IsPart vl lo)(i:IsPart e hi)
 (f:sIx items.size 0 lo=0/\sIx items.size items.size hi=items.size) (h:Q (.ref t) s):wpAny (model prog w) A (getItem (.ref t) (.ref sl)) Q E s:=by
 obtain⟨os,b,c,j⟩:=id hs;have d:s.TypeIs (.ref sl) "slice":=⟨os,b,c⟩;unfold getItem
 try with_reducible refine E8 ?_
 first|refine A0 (B2 ?_)|skip
 refine A0<|wpAny_sequenceKey ht.typeIs (by decide) ?_
 refine A0 (F7 ht.typeIs Y5
  (O7 Y5 ht.typeIs entry_tuple_getitem ?_ (args_tuple_getitem _ _)))
 show wpAny _ _ (Builtin.Tuple.tupleItemsOf (.ref t) >>= _) _ _ s;refine A0<|tupleItemsOf_ ht ?_;refine A0<|wpAny_typeOf d ?_;refine A0<|oX hs g i ?_
 have a:(((sIx items.size 0 lo:Nat):Int)==0&&(1:Int)==1&&(sIx items.size items.size hi-sIx items.size 0 lo)==items.size)=true:=by
  rw[f.1,f.2];simp
 show wpAny _ _ (if (((sIx items.size 0 lo:Nat):Int)==0&&(1:Int)==1&&(sIx items.size items.size hi-sIx items.size 0 lo)==items.size)=true then _ else _) _ _ s;rw[A4 a];refine A0 ?_;refine A0<|wpAny_typeOf ht.typeIs<|B2 ?_;exact A0<|wpAny_rule<|B2 ⟨_,rfl,B2 h⟩
end
end HT
namespace L2
variable{W:Wd}{K:Fg}{H:Hp}{apos cpos pos:Pos}
open PySem PySem.Spec PyProof.Rows
def aLC(K:Fg):V->Tk->Tk->Hp->VK->Prop:=fun x lo hi H Q=>∃a xs,x=.ref a/\SqT K H a xs/\(HT.sIx xs.length 0 lo=0/\HT.sIx xs.length xs.length hi=xs.length)/\Q (.ref a) H
def aAl:SlR X (aLC X.K):=by
 intro pins s f H x v vl g lo hi sl Q I c hs d e h;obtain⟨a,xs,rfl,hx,i,q⟩:=h;cases c;obtain⟨its,r,ht,j⟩:=I.tuple hx;have b:its.toArray.size=xs.length:=by rw[D6];exact r.length.symm
 refine⟨"tuple",_,PyProof.Rows.slot_tuple_getitem.lookup,ht.typeIs,?_⟩;exact HT.getItem_tuple_whole ht hs d e (by grind) ⟨.ref a,H,I,rfl,q⟩
def zM{a:Type}(xs:Tv a)(lo hi:Tk):Tv a:=(xs.drop<|HT.sIx xs.length 0 lo).take (HT.sIx xs.length xs.length hi-HT.sIx xs.length 0 lo)
abbrev OF:=Ga->Sto->Tw (Tk×Sto)
def iX:OF:=fun _ M=>Z (Y,M)
def asI:CD->Tk
 |.d (.int i)=>Z i
 |_=>Y
def rV(f:EF):OF:=fun a M=>(f a M).bind fun r=>(asI r.1).bind fun i=>Z (Z i,r.2)
def slF(x:CD)(lo hi:Tk)(M:Sto):Tw (CD×Sto):=match x with
 |.d (.list ds)=>Z (.d (.list (zM ds lo hi)),M)
 |.d (.tuple ds)=>Z (.d (.tuple (zM ds lo hi)),M)
 |.c i=>match M[i]? with
  |some (.lst xs)=>(mV<|zM xs lo hi).bind fun ds=>Z (.d (.list ds),M)
  |_=>Y
 |_=>Y
def fSl(f:EF)(l u:OF):EF:=fun a M=>(f a M).bind fun r=>(l a r.2).bind fun p=>(u a p.2).bind fun q=>slF r.1 p.1 q.1 q.2
def aIx(K:Fg):V->Tk->Tk->Hp->VK->Prop:=fun x lo hi H Q=>aKI K x lo hi H Q\/aLt K x lo hi H Q\/aLC K x lo hi H Q
def kSl{X:Cx}(h:X.K=K):SlR X (aIx K):=by subst h;exact sl_list.or<|sl_tup.or aAl
section
variable{K:Fg}
def SO(K:Fg)(t:TO)(f:OF):Prop:=∀a M b M',f a M=Z (b,M')->∀(W:Wd)(H:Hp)(c:St)(Q:Tk->Hp->Prop),Good K W M H->cP K W a c->(∀W' H',W.Ext W'->Good K W' M' H'->Q b H')->t c H Q
def aEg:SO K UD iX:=by
 intro b M x M' a W H c Q G R k;cases a;exact k W H (.refl _) G
def aJC{i:Int}(h:asI x=Z i):x=.d (.int i):=by
 cases x with
 |c n=>cases h
 |t n=>cases h
 |f n=>cases h
 |g _=>cases h
 |d x=>cases x<;>first|cases h;rfl|cases h
def aDq{c:TE}{f:EF}(a:SE K c f):SO K (aGc c) (rV f):=by
 intro o M x M' b W H d Q G R k;obtain⟨⟨y,M1⟩,e,b⟩:=aI b;obtain⟨i,g,b⟩:=aI b;cases b;refine a _ _ _ _ e W H d _ G R fun v h j l m n=>?_;have hy:=aJC g;subst hy;exact⟨i,n,k h j l m⟩
theorem aM.drop{H:Hp}:∀{ds:T4}{vs:Tc}(n:Nat),aM K H ds vs->aM K H (ds.drop n) (vs.drop n)
 |_,_,0=>fun h=>h
 |[],vs,n+1=>fun h=>by rw[show vs=[]from h];rfl
 |d::ds,vs,n+1=>fun h=>by
  obtain⟨v,r,rfl,_,a⟩:=h;exact aM.drop n a
theorem aM.take{H:Hp}:∀{ds:T4}{vs:Tc}(n:Nat),aM K H ds vs->aM K H (ds.take n) (vs.take n)
 |_,_,0=>fun h=>rfl
 |[],vs,n+1=>fun h=>by rw[show vs=[]from h];rfl
 |d::ds,vs,n+1=>fun h=>by
  obtain⟨v,r,rfl,a,b⟩:=h;exact⟨v,r.take n,rfl,a,aM.take n b⟩
def aM.cut(h:aM K H ds vs)(lo hi:Tk):aM K H (zM ds lo hi) (KQ vs lo hi):=by
 unfold zM KQ;rw[h.length];exact(h.drop _).take _
theorem BH{a b:Type}{R:a->b->Prop}:∀{xs:Tv a}{ys:Tv b}(n:Nat),Paired R xs ys->Paired R (xs.drop n) (ys.drop n)
 |_,_,0,h=>h
 |_,_,_+1,.nil=>.nil
 |_,_,n+1,.cons _ t=>BH n t
theorem uM{a b:Type}{R:a->b->Prop}:∀{xs:Tv a}{ys:Tv b}(n:Nat),Paired R xs ys->Paired R (xs.take n) (ys.take n)
 |_,_,0,h=>.nil
 |_,_,_+1,.nil=>.nil
 |_,_,n+1,.cons r t=>.cons r (uM n t)
def XR{xs:T6}{vs:Tc}(h:cM K W xs vs)(lo hi:Tk):cM K W (zM xs lo hi) (KQ vs lo hi):=by
 unfold zM KQ;rw[Paired.len h];exact uM _<|BH _ h
def aAd{x:CD}{lo hi:Tk}{M:Sto}{z:CD}{M':Sto}(h:slF x lo hi M=Z (z,M')){v:V}{Q:VK}(G:Good K W M H)(j:cL K W x v)(k:∀w W' H',W.Ext W'->Good K W' M' H'->cL K W' z w->Q w H'):aIx K v lo hi H Q:=by
 unfold slF at h;split at h
 .rename_i ds;cases h;obtain⟨p,us,rfl,c,a⟩:=j;refine .inl ⟨p,us,rfl,G.fh.seq c,fun l d=>?_⟩;obtain⟨b,f⟩:=G.lay d;exact k _ _ _ b f ⟨l,_,rfl,SqL.of aW,aM.same b.ff _ _<|a.cut lo hi⟩
 .rename_i ds;cases h;obtain⟨p,us,rfl,c,a⟩:=j;by_cases g:HT.sIx us.length 0 lo=0/\HT.sIx us.length us.length hi=us.length
  .refine .inr (.inr ⟨p,us,rfl,G.fh.seqT c,g,?_⟩)
   have e:zM ds lo hi=ds:=by
    unfold zM;rw[a.length,g.1,g.2,<- a.length];simp
   rw[e]at k;exact k _ W H (.refl _) G ⟨p,us,rfl,c,a⟩
  .refine .inr (.inl ⟨p,us,rfl,G.fh.seqT c,g,fun l d=>?_⟩);obtain⟨b,f⟩:=G.lay d;exact k _ _ _ b f ⟨l,_,rfl,SqT.of aW,aM.same b.ff _ _<|a.cut lo hi⟩
 .rename_i i;split at h
  .rename_i xs hx;obtain⟨ds,m,h⟩:=aI h;cases h;obtain⟨us,n,a⟩:=G.lstAt hx;rw[j.2];refine .inl ⟨_,us,rfl,SqL.of n,fun l d=>?_⟩;obtain⟨b,f⟩:=G.lay d;exact k _ _ _ b f ⟨l,_,rfl,SqL.of aW,aM.same b.ff _ _<|eM m<|XR a lo hi⟩
  .cases h
 .cases h
def aKO{i:TE}{f:EF}{j m:TO}{l u:OF}(a:SE K i f)(b:SO K j l)(c:SO K m u):SE K (tSl (aIx K) i j m) (fSl f l u):=by
 intro P M x M' d W H e Q G R k;obtain⟨⟨y,M1⟩,o,d⟩:=aI d;obtain⟨⟨p,M2⟩,r,d⟩:=aI d;obtain⟨⟨q,S⟩,s,d⟩:=aI d;refine a _ _ _ _ o W H e _ G R fun v t z g A B=>?_;refine b _ _ _ _ r t z e _ A (R.up g) fun C D h E=>?_;refine c _ _ _ _ s C D e _ E (R.up<|g.trans h) fun T U n F=>?_;exact aAd d F (B.up<|h.trans n) fun w I J L N O=>k w I J (((g.trans h).trans n).trans L) N O
def UY:FN:=fun xs M=>match xs with
 |[.d (.int i)]=>Z (.d (.int i),M)
 |[.d (.bool b)]=>Z (.d (.int (if b then 1 else 0)),M)
 |_=>Y
def aJM:PN K (fun xs H Q=>(∃i,xs=[.int i]/\Q (.int i) H)\/∃k,xs=[.bl k]/\Q (.int (if k then 1 else 0)) H) UY:=by
 intro xs M z M' h W H vs Q G r k;unfold UY at h;split at h
 .rename_i i;cases h;rcases r with _|⟨a,_|_⟩;exact .inl ⟨i,by rw[show _=V.int i from a],k _ W H (.refl _) G rfl⟩
 .rename_i b;cases h;rcases r with _|⟨a,_|_⟩;exact .inr ⟨b,by rw[show _=V.bl b from a],k _ W H (.refl _) G rfl⟩
 .cases h
noncomputable def tyB(T:String)(M:Sto):CD->Bool
 |.d (.list _)=>T=="list"
 |.d (.str _)=>T=="str"
 |.c i=>match M[i]? with
  |some (.lst _)=>T=="list"
  |some (.dk _)=>T=="dict"
  |some (.dt _)=>T=="dict"
  |_=>false
 |_=>false
def YE(h:tyB T M x=true)(G:Good K W M H)(r:cL K W x v):tyV K T v H:=by
 unfold tyB at h;split at h
 .rename_i ds;obtain⟨p,us,rfl,c,d⟩:=r;exact .inl ⟨eq_of_beq h,us,G.fh.seq c⟩
 .rename_i x;rw[show v=.str x from r];exact eq_of_beq h
 .rename_i i;rw[r.2];split at h
  .rename_i xs hx;obtain⟨us,e,d⟩:=G.lstAt hx;exact .inl ⟨eq_of_beq h,us,SqL.of e⟩
  .rename_i kvs hx;obtain⟨_,o,a,b⟩:=G.cs i _ hx (by simp);cases o with
   |dK us=>exact .inr (.inr (.inl ⟨eq_of_beq h,.inl ⟨us,a⟩⟩))
   |_=>exact False.elim b
  .rename_i kvs hx;obtain⟨_,o,a,b⟩:=G.cs i _ hx (by simp);cases o with
   |dT us=>exact .inr (.inr (.inl ⟨eq_of_beq h,.inr ⟨us,a⟩⟩))
   |_=>exact False.elim b
  .cases h
 .cases h
abbrev FM:=CD->T6->Sto->Tw (CD×Sto)
def bL(T:String)(h:FM)(f:EF)(fa:AF):EF:=fun a M=>(f a M).bind fun r=>if tyB T r.2 r.1=true then(fa a r.2).bind fun q=>h r.1 q.1 q.2 else Y
def PM(K:Fg)(r:V->Tc->Hp->VK->Prop)(f:FM):Prop:=∀x xs M z M',f x xs M=Z (z,M')->∀(W:Wd)(H:Hp)(v:V)(vs:Tc)(Q:VK),Good K W M H->cL K W x v->cM K W xs vs->(∀w W' H',W.Ext W'->Good K W' M' H'->cL K W' z w->Q w H')->r v vs H Q
def TQ{T:String}{r:V->Tc->Hp->VK->Prop}{h:FM}{d:TE}{f:EF}{e:TA}{fa:AF}(p:PM K r h)(a:SE K d f)(b:SA K e fa):SE K (tBM K T r d e) (bL T h f fa):=by
 intro I M x M' c W H g Q G R k;obtain⟨⟨y,M1⟩,n,c⟩:=aI c;by_cases hT:tyB T M1 y=true
 .have c:=c;rw[A4 hT]at c;obtain⟨⟨J,M2⟩,o,c⟩:=aI c;refine a _ _ _ _ n W H g _ G R fun v q s i j l=>⟨YE hT j l,?_⟩;refine b _ _ _ _ o q s g _ j (R.up i) fun vs t u m z A=>?_;exact p _ _ _ _ _ c t u v vs Q z (l.up m) A fun w B C D E F=>k w B C ((i.trans m).trans D) E F
 .have c:=c;rw[B0 hT]at c;cases c
def MV{T:String}{r:V->Tc->Hp->VK->Prop}{h:FM}{c:TE}{f:EF}(p:PM K r h)(a:SE K c f):SE K (aLu K T r c) (bL T h f aG):=by
 intro u M x M' b W H g Q G R k;obtain⟨⟨y,M1⟩,i,b⟩:=aI b;by_cases hT:tyB T M1 y=true
 .rw[A4 hT]at b;refine a _ _ _ _ i W H g _ G R fun v j l m d e=>⟨YE hT d e,?_⟩;exact p _ _ _ _ _ b j l v [] Q d e .nil fun w n o q s t=>k w n o (m.trans q) s t
 .rw[B0 hT]at b;cases b
def cO:FM:=fun x a M=>match x,a with
 |.c i,[y]=>match M[i]? with
  |some (.lst xs)=>if xs.length<sizeLine then Z (.d .none,M.set i (.lst (xs++[y])))else Y
  |_=>Y
 |_,_=>Y
def VC:PM K SY cO:=by
 intro x f M z M' h W H v vs Q G c rs k;unfold cO at h;split at h
 .rename_i i y;split at h
  .rename_i xs hx;by_cases a:xs.length<sizeLine
   .rw[A4 a]at h;cases h;obtain⟨us,d,b⟩:=G.lstAt hx;rcases rs with _|⟨e,_|_⟩;refine⟨W.α i,us,_,c.2,rfl,d,by rw[<- Paired.len b];exact a,?_⟩;exact k _ W _ (.refl _) (G.set hx (by simp)<|Paired.app b (.cons e .nil)) rfl
   .rw[B0 a]at h;cases h
  .cases h
 .cases h
def eY:FM:=fun x a M=>match x,a with
 |.c i,[]=>match M[i]? with
  |some (.lst xs)=>(xs[xs.length-1]?).bind fun y=>Z (y,M.set i (.lst xs.dropLast))
  |_=>Y
 |_,_=>Y
def CO{a b:Type}{R:a->b->Prop}{xs:Tv a}{ys:Tv b}(h:Paired R xs ys):Paired R xs.dropLast ys.dropLast:=by
 rw[List.dropLast_eq_take,List.dropLast_eq_take,Paired.len h];exact uM _ h
def aJh:PM K aLi eY:=by
 intro x g M z M' h W H v vs Q G b rs k;unfold eY at h;split at h
 .rename_i i;split at h
  .rename_i xs hx;obtain⟨y,c,h⟩:=aI h;cases h;obtain⟨us,d,a⟩:=G.lstAt hx;obtain⟨u,e,f⟩:=Paired.get a c;cases rs;refine⟨W.α i,us,u,b.2,rfl,d,by rw[<- Paired.len a];exact e,?_⟩;exact k _ W _ (.refl _) (G.set hx (by simp)<|CO a) f
  .cases h
 .cases h
end
section
variable{ι:Type}{K:Fg}{X:ι->Cx}{a b c e o:Uc}{es:T8}{f g h:EF}{fa:AF}{pos:Pos}
structure MO(K:Fg)(X:ι->Cx)(e:Tw Uc)(f:OF):Prop where
 ex:∃t,(∀i,PO (X i) e t)/\SO K t f
def HG:MO K X Y iX:=⟨_,fun _=>aEk,aEg⟩
def JB(x:ME K X e f):MO K X (Z e) (rV f):=by
 obtain⟨t,d,j⟩:=x.ex;exact⟨_,fun i=>aEF<|d i,aDq j⟩
def ZF{lo:Tw Uc}(j:∀i,(X i).K=K)(x:ME K X a f)(y:MO K X lo l)(z:MO K X hi u):ME K X (.Subscript a (.Slice lo hi Y d) pos) (fSl f l u):=by
 obtain⟨t,k,m⟩:=x.ex;obtain⟨v,n,p⟩:=y.ex;obtain⟨q,r,s⟩:=z.ex;exact⟨_,fun i=>aAX (kSl<|j i) (k i) (n i)<|r i,aKO m p s⟩
def aFJ:QN K X (.type "int") UY:=⟨_,fun _=>WU,aJM⟩
def jB(d:∀i,(X i).K=K)(x:ME K X o f)(y:MA K X [e] fa)(j:∀env:Env,attributeBase o "append" env (eval o env)=eval o env:=by intro _;rfl)(k:(apos.endLine==cpos.line)=true:=by rfl):
 ME K X (.Call (.Attribute o "append" apos) [e] [] cpos) (bL "list" cO f fa):=by
 obtain⟨t,l,m⟩:=x.ex;obtain⟨u,n,p⟩:=y.ex;refine⟨_,fun i=>?_,TQ VC m p⟩;have:=aGt A0l F.slot_list_append F.type_list_append WR (l i) (n i) (j _) (by rw[y.st.1];rfl) k (y.st.1 _)<|y.st.2.plain _ _;rw[d i]at this;exact this
def lV(d:∀i,(X i).K=K)(x:ME K X o f)(j:∀env:Env,attributeBase o "pop" env (eval o env)=eval o env:=by intro _;rfl)(k:(apos.endLine==cpos.line)=true:=by rfl):
 ME K X (.Call (.Attribute o "pop" apos) [] [] cpos) (bL "list" eY f aG):=by
 obtain⟨t,l,m⟩:=x.ex;refine⟨_,fun i=>?_,MV aJh m⟩;have:=aAa A0l F.slot_list_pop F.type_list_pop aHN (l i) (j _) k;rw[d i]at this;exact this
end
def Def.okNone{P:Ud}{st:Stmt}{ps:Tb}{k:Nat}(D:Def K mg x st)(S:aR N ps (aH st))
 (b:∀(kV doc pm:Tx)(an:Th)(cdv ct:Tx)(us:T5),us.length=ps.length->bindArgs (PySem.W.fnOf x x (eT st) (bR st) (aH st) .none kV doc pm an cdv ct) ⟨us,[]⟩=pure (ps.zip us)):
 Callee P w K mg base (k+1) x ps (spM K fun _ _=>Y):=by
 refine D.ok S b (fun vs H Q E h=>?_) fun f cdv A outer s H vs Q E c h=>?_
 .obtain⟨xs,M,W,y,M',G,R,a,_⟩:=h;cases a
 .obtain⟨xs,M,W,y,M',G,R,a,_⟩:=h;cases a
def BZ:EF:=fun _ M=>Z (.d (.dict []),M)
def aAg:SE K PF BZ:=by
 intro e M x M' a W H f Q G R k;cases a;intro p b;obtain⟨c,d⟩:=G.lay b;exact k _ _ _ c d ⟨p,[],rfl,aW,rfl⟩
def BS:Tv (EF×EF)->Ga->Sto->Tw (Tv (CD×CD)×Sto)
 |[],_,M=>Z ([],M)
 |(f,g)::r,c,M=>(f c M).bind fun a=>(g c a.2).bind fun b=>(BS r c b.2).bind fun q=>Z ((a.1,b.1)::q.1,q.2)
def keyOf:CD->Tw Key
 |.d (.int i)=>Z (.inl i)
 |.d (.str x)=>Z (.inr x)
 |_=>Y
section
variable{K:Fg}
def SPs(K:Fg):Tv (TE×TE)->Tv (EF×EF)->Prop:=Paired fun t f=>SE K t.1 f.1/\SE K t.2 f.2
theorem aBI:∀{ts:Tv (TE×TE)}{fs:Tv (EF×EF)},SPs K ts fs->∀{γ:Ga}{M:Sto}{xs:Tv (CD×CD)}{M':Sto},BS fs γ M=Z (xs,M')->∀{W:Wd}{H:Hp}{c:St}{Q:Tv (V×V)->Hp->Prop},Good K W M H->cP K W γ c->
 (∀vs W' H',W.Ext W'->Good K W' M' H'->Paired (fun a b=>cL K W' a.1 b.1/\cL K W' a.2 b.2) xs vs->Q vs H')->IA ts c H Q
 |_,_,.nil,γ,M,xs,M',h,W,H,c,Q,G,R,k=>by
  cases h;exact k [] W H (.refl _) G .nil
 |_,_,.cons s1 s2,γ,M,xs,M',h,W,H,c,Q,G,R,k=>by
  obtain⟨⟨a,M1⟩,g,h⟩:=aI h;obtain⟨⟨b,M2⟩,i,h⟩:=aI h;obtain⟨⟨q,y⟩,j,h⟩:=aI h;cases h;refine s1.1 _ _ _ _ g W H c _ G R fun v l m d n o=>?_;refine s1.2 _ _ _ _ i l m c _ n (R.up d) fun u z A e p r=>?_;refine aBI s2 j p (R.up<|d.trans e) fun vs s t f w x=>?_;exact k _ s t ((d.trans e).trans f) w (.cons ⟨o.up<|e.trans f,r.up f⟩ x)
def FR{k:Key}(h:keyOf x=Z k)(r:cL K W x v):v=kV k:=by
 unfold keyOf at h;split at h
 .cases h;exact r
 .cases h;exact r
 .cases h
theorem FD:∀(more acc:Tv (Key×V)),((acc++more).map (·.1)).Nodup->sY acc more=acc++more
 |[]=>fun acc _=>by simp[sY]
 |p::more=>fun acc h=>by
  have hn:jI acc p.1=Y:=by
   unfold jI;rw[Option.map_eq_none_iff,List.find?_eq_none];intro x hx hd;have:x.1=p.1:=D7 hd;rw[C7,Z5]at h;exact h.2.2 x.1 (List.mem_map_of_mem hx) p.1 (by simp) this
  show sY (putK acc p.1 p.2) more=_;rw[ZV _ hn,FD more _ (by grind),B7];rfl
end
section
variable{ι:Type}{K:Fg}{X:ι->Cx}
structure MD(K:Fg)(X:ι->Cx)(pos:Pos)(ks:Tv (Tw Uc))(vs:T8)(fs:Tv (EF×EF)):Prop where
 ex:∃ts,(∀i,PPs (X i) pos ks vs ts)/\SPs K ts fs
def aCj:MD K X pos [] [] []:=⟨_,fun _=>aFh,.nil⟩
def QX{v:Uc}{f:EF}(x:ME K X k f)(y:ME K X v g)(z:MD K X pos ks vs fs):MD K X pos (Z k::ks) (v::vs) ((f,g)::fs):=by
 obtain⟨t,a,b⟩:=x.ex;obtain⟨u,c,d⟩:=y.ex;obtain⟨o,e,h⟩:=z.ex;exact⟨_,fun i=>aBf (a i) (c i)<|e i,.cons ⟨b,d⟩ h⟩
def aCo:ME K X (.Dict [] [] pos) BZ:=⟨_,fun _=>LF,aAg⟩
end
section
variable{K:Fg}
theorem look_none{W:Wd}:∀{fs:Tu}{us:Tv (Str×V)},Paired (fun p q=>p.1=q.1/\cL K W p.2 q.2) fs us->fs.lookup f=Y->us.lookup f=Y
 |_,_,.nil=>fun h=>rfl
 |(g,y)::fs,(c,u)::us,.cons h t=>fun e=>by
  obtain⟨a,d⟩:=h;subst a;rw[D9]at e ⊢;by_cases q:(f==g)=true
  .rw[q]at e;cases e
  .have b:(f==g)=false:=by grind
   rw[b]at e ⊢;exact look_none t e
end
section
variable{K:Fg}
theorem FJ{a b:Type}{R:a->b->Prop}:∀{xs:Tv a}{ys:Tv b},Paired R xs ys->Paired R xs.reverse ys.reverse
 |_,_,.nil=>.nil
 |_,_,.cons h t=>by
  rw[Z3,Z3];exact Paired.app (FJ t) (.cons h .nil)
def lQ:FM:=fun x a M=>match x,a with
 |.c i,[]=>match M[i]? with
  |some (.lst xs)=>Z (.d .none,M.set i (.lst xs.reverse))
  |_=>Y
 |_,_=>Y
def PD:PM K NN lQ:=by
 intro x d M z M' h W H v vs Q G a rs k;unfold lQ at h;split at h
 .rename_i i;split at h
  .rename_i xs hx;cases h;obtain⟨us,b,c⟩:=G.lstAt hx;cases rs;refine⟨W.α i,us,a.2,rfl,b,?_⟩;exact k _ W _ (.refl _) (G.set hx (by simp)<|FJ c) rfl
  .cases h
 .cases h
end
section
variable{ι:Type}{K:Fg}{X:ι->Cx}{a b c e o:Uc}{es:T8}{f g h:EF}{fa:AF}{pos:Pos}
def NX(d:∀i,(X i).K=K)(x:ME K X o f)(j:∀env:Env,attributeBase o "reverse" env (eval o env)=eval o env:=by intro _;rfl)(k:(apos.endLine==cpos.line)=true:=by rfl):
 ME K X (.Call (.Attribute o "reverse" apos) [] [] cpos) (bL "list" lQ f aG):=by
 obtain⟨t,l,m⟩:=x.ex;refine⟨_,fun i=>?_,MV PD m⟩;have:=aAa A0l F.slot_list_reverse F.type_list_reverse OJ (l i) (j _) k;rw[d i]at this;exact this
end
open PySem PySem.W PyProof.Rows
def KS{b:Type}(lt:To)(n:Nat):KasT b->(b->Prop)->Prop
 |.ret a,Q=>Q a
 |.ask i j k,Q=>i<n/\j<n/\KS lt n (k<|lt i j) Q
theorem KS.bind{b c:Type}{lt:To}{n:Nat}{f:b->KasT c}{Q:c->Prop}:∀{t:KasT b},KS lt n t (fun a=>KS lt n (f a) Q)->KS lt n (t.bind f) Q
 |.ret _=>fun h=>h
 |.ask _ _ _=>fun h=>⟨h.1,h.2.1,KS.bind h.2.2⟩
theorem KS.mono{b:Type}{Q R:b->Prop}(m:∀a,Q a->R a):∀{t:KasT b},KS lt n t Q->KS lt n t R
 |.ret _=>fun h=>m _ h
 |.ask _ _ _=>fun h=>⟨h.1,h.2.1,KS.mono m h.2.2⟩
theorem KS.wp{c:Type}{lt:To}{n:Nat}{Q:c->Prop}{R:c->Ua->Prop}{b:Nat->Nat->(Bool->Ua->Prop)->Ua->Prop}
 (d:∀i j C,i<n->j<n->C (lt i j) s->b i j C s) (m:∀a,Q a->R a s):∀{t:KasT c},KS lt n t Q->KasT.kasWp b t R s
 |.ret _=>fun h=>m _ h
 |.ask _ _ _=>fun h=>d _ _ _ h.1 h.2.1<|KS.wp d m h.2.2
section
variable{lt:To}{n:Nat}
structure vH(lt:To):Prop where
 as:∀a b,lt a b=true->lt b a=false
 tr:∀a b c,lt b a=false->lt c b=false->lt c a=false
def vH.up(o:vH lt)(h:lt c a=true)(h':lt b a=false):lt c b=true:=by
 cases e:lt c b with
 |true=>rfl
 |false=>rw[o.tr _ _ _ h' e]at h;cases h
def Inv2(n:Nat)(p:Tj):Prop:=p.Perm (List.range n).toArray
def Inv2.sz(h:Inv2 n p):p.size=n:=by
 have:=(Array.perm_iff_toList_perm.mp h).length_eq;simpa using this
def Inv2.ent(h:Inv2 n p)(a:0<n)(k:Nat):p.getD k 0<n:=by
 rw[F9];cases e:p[k]? with
 |none=>exact a
 |some x=>
  have hm:=Array.mem_of_getElem? e;have:=(h.mem_iff).mp hm;simpa using this
def iK(lt:To)(p:Tj)(n:Nat):Prop:=∀i j,i<j->j<n->lt (p.getD j 0) (p.getD i 0)=false
def vR(lt:To)(p:Tj)(n:Nat):Prop:=∀i j,i<j->j<n->lt (p.getD i 0) (p.getD j 0)=false
def aBG(lt:To)(p:Tj)(n q:Nat):Prop:=∀i j,n<=i+q+1->i<j->j<n->lt (p.getD j 0) (p.getD i 0)=false
def iK.ext(o:vH lt)(h:iK lt p m)(d:1<=m)(b:lt (p.getD m 0) (p.getD (m-1) 0)=false):iK lt p (m+1):=by
 intro i j a f;by_cases e:j=m
 .subst e;by_cases c:i=j-1
  .subst c;exact b
  .exact o.tr _ _ _ (h i (j-1) (by omega) (by omega)) b
 .exact h i j a (by omega)
def vR.ext(o:vH lt)(h:vR lt p m)(d:1<=m)(b:lt (p.getD (m-1) 0) (p.getD m 0)=false):vR lt p (m+1):=by
 intro i j a f;by_cases e:j=m
 .subst e;by_cases c:i=j-1
  .subst c;exact b
  .exact o.tr _ _ _ b<|h i (j-1) (by omega) (by omega)
 .exact h i j a (by omega)
theorem PR(o:vH lt)(hp:Inv2 n p)(g:0<n){Q:Nat->Prop}:∀(f m:Nat),1<=m->iK lt p m->(∀r,m<=r->r<=m+f->iK lt p r->(r<m+f->lt (p.getD r 0) (p.getD (r-1) 0)=true)->Q r)->KS lt n (kas_asc p f m) Q
 |0=>fun m i hs k=>by
  rw[kas_asc.eq_def];exact k m (A6 _) (A6 _) hs fun h=>absurd h<|E3 _
 |f+1=>fun m i hs k=>by
  rw[kas_asc.eq_def];refine⟨hp.ent g _,hp.ent g _,?_⟩;cases e:lt (p.getD m 0) (p.getD (m-1) 0)with
  |true=>exact k m (A6 _) (by omega) hs fun _=>e
  |false=>exact PR o hp g f (m+1) (by omega) (hs.ext o i e) fun r a b c d=>k r (by omega) (by omega) c (fun z=>d (by omega))
def gT(hp:Inv2 n p)(i j:Nat):Inv2 n (kas_rev p i j):=(mirror_perm p i j _).trans hp
def tE{p:Tj}{j:Nat}(a:j<=p.size)(k:Nat):(kas_rev p i j).getD k 0=if i<=k/\k<j then p.getD (i+j-1-k) 0 else p.getD k 0:=by
 rw[F9,show(kas_rev p i j)[k]?=_ from getElem?_mirror_all a k];by_cases e:i<=k/\k<j
 .rw[A4 e,A4 e,F9]
 .rw[B0 e,B0 e,F9]
def NJ(o:vH lt){p:Tj}{lo hi m:Nat}(hm:m<=p.size)(g:hi<=m)(d:vR lt p m)(e:∀i j,lo<=i->i<j->j<hi->lt (p.getD j 0) (p.getD i 0)=false):vR lt (kas_rev p lo hi) m:=by
 intro i j c f;rw[tE (by omega),tE (by omega)];by_cases a:lo<=i/\i<hi
 .rw[A4 a];by_cases b:lo<=j/\j<hi
  .rw[A4 b];exact e _ _ (by omega) (by omega) (by omega)
  .rw[B0 b];exact d _ _ (by omega) f
 .rw[B0 a];by_cases b:lo<=j/\j<hi
  .rw[A4 b];exact d _ _ (by omega) (by omega)
  .rw[B0 b];exact d _ _ c f
theorem zV(o:vH lt)(t:0<n){Q:Tj×Nat×Nat->Prop}:∀(f:Nat)(p:Tj)(m q:Nat),Inv2 n p->1<=m->m+f<=n->vR lt p m->aBG lt p m q->q+1<=m->
 (∀h l s,Inv2 n h->m<=l->l<=m+f->vR lt h l->aBG lt h l s->s+1<=l->Q (h,l,s))->KS lt n (kas_desc f p m q) Q
 |0=>fun p m q r x A hd u y k=>by
  rw[kas_desc.eq_def];exact k p m q r (A6 _) (A6 _) hd u y
 |f+1=>fun p m q r x A hd u y k=>by
  rw[kas_desc.eq_def];refine⟨r.ent t _,r.ent t _,?_⟩;have B:=r.sz;have z:∀h:Tj,aBG lt h (m+1) 0:=fun h i j a b c=>by omega
  cases c:lt (p.getD m 0) (p.getD (m-1) 0)with
  |true=>
   have v:=hd.ext o x<|o.as _ _ c;dsimp only;rw[A4 rfl];by_cases w:q > 0
   .rw[A4 w];exact zV o t f _ (m+1) 0 (gT r _ _) (by omega) (by omega) (NJ o (by omega) (by omega) v (fun i j a b d=>u i j (by omega) b (by omega))) (z _) (by omega) fun h l s a b c' d e g=>k h l s a (by omega) (by omega) d e g
   .rw[B0 w];exact zV o t f _ (m+1) 0 r (by omega) (by omega) v (z _) (by omega) fun h l s a b c' d e g=>k h l s a (by omega) (by omega) d e g
  |false=>
   dsimp only;rw[B0 B5];refine⟨r.ent t _,r.ent t _,?_⟩;cases d:lt (p.getD (m-1) 0) (p.getD m 0)with
   |true=>
    dsimp only;rw[A4 rfl];exact k p m q r (A6 _) (by omega) hd u y
   |false=>
    dsimp only;rw[B0 B5];refine zV o t f p (m+1) (q+1) r (by omega) (by omega) (hd.ext o x d) ?_ (by omega) fun h l s a b c' d e g=>k h l s a (by omega) (by omega) d e g;intro i j a b e;by_cases C:j=m
    .subst C;by_cases D:i=j-1
     .subst D;exact c
     .exact o.tr _ _ _ (u i (j-1) (by omega) (by omega) (by omega)) c
    .exact u i j (by omega) b (by omega)
def Part(lt:To)(n:Nat)(r:Nat×Tj):Prop:=Inv2 n r.2/\1<=r.1/\r.1<=n/\iK lt r.2 r.1
def KD(o:vH lt)(d:0<n){p:Tj}{m:Nat}(hp:Inv2 n p)(e:1<=m)(h:m<=n)(hd:vR lt p m):KS lt n (kas_tail3 m n p) (Part lt n):=by
 have f:=hp.sz;rw[kas_tail3.eq_def];refine KS.bind (PR o (gT hp 0 m) d _ _ e ?_ fun r a b c _=>⟨gT hp 0 m,by omega,by omega,c⟩);intro i j g k;rw[tE (by omega),tE (by omega),A4 (by omega),A4 (by omega)];exact hd _ _ (by omega) (by omega)
def zA(o:vH lt)(h:0<n){p:Tj}{m:Nat}(hp:Inv2 n p)(s:m+1<=n)(hd:vR lt p (m+1)):KS lt n (kas_descPart m n p) (Part lt n):=by
 rw[kas_descPart.eq_def];refine KS.bind (zV o h _ _ _ _ hp (by omega) (by omega) hd (fun i j a b c=>by omega) (by omega) fun l f k a b c d e g=>?_);have r:=a.sz;show KS lt n (if k > 0 then kas_tail3 f n (kas_rev l (f-(k+1)) f)else kas_tail3 f n l) _;by_cases q:k > 0
 .rw[A4 q];exact KD o h (gT a _ _) (by omega) (by omega) (NJ o (by omega) (A6 _) d fun i j x y z=>e i j (by omega) y z)
 .rw[B0 q];exact KD o h a (by omega) (by omega) d
def aAu(o:vH lt)(f:0<n){p:Tj}(hp:Inv2 n p):KS lt n (kas_count n p) (Part lt n):=by
 have t:=hp.sz;rw[kas_count.eq_def];refine KS.bind (PR o hp f _ _ (A6 _) (fun i j a b=>by omega) fun r a b c d=>?_);by_cases e:(r==n)=true
 .rw[A4 e];exact⟨hp,a,by omega,c⟩
 .rw[B0 e];have w:r≠n:=by simpa using e
  have s:=d (by omega);by_cases g:r > 1
  .rw[A4 g];refine⟨hp.ent f _,hp.ent f _,?_⟩;cases l:lt (p.getD 0 0) (p.getD (r-1) 0)with
   |true=>dsimp only;rw[A4 rfl];exact⟨hp,a,by omega,c⟩
   |false=>
    dsimp only;rw[B0 B5];have le:∀i j,i<=j->j<r->i<j\/i=j:=fun i j x y=>by omega
    have h:∀x,lt x x=false:=fun x=>by
     cases q:lt x x with
     |false=>rfl
     |true=>rw[o.as _ _ q]at q;cases q
    have up:∀i,i<r->lt (p.getD i 0) (p.getD (r-1) 0)=false:=fun i hi=>by
     have u:lt (p.getD i 0) (p.getD 0 0)=false:=by
      by_cases z:i=0
      .subst z;exact h _
      .exact c 0 i (by omega) hi
     exact o.tr _ _ _ l u
    have v:∀i,i<r->lt (p.getD (r-1) 0) (p.getD i 0)=false:=fun i hi=>by
     by_cases z:i=r-1
     .subst z;exact h _
     .exact c i (r-1) (by omega) (by omega)
    have al:∀i j,i<r->j<r->lt (p.getD i 0) (p.getD j 0)=false:=fun i j hi k=>o.tr _ _ _ (v j k)<|up i hi;refine zA o f (gT hp _ _) (by omega) ?_;intro i j m k;rw[tE (by omega),tE (by omega),A4 (by omega)];by_cases z:j<r
    .rw[A4 (by omega)];exact al _ _ (by omega) (by omega)
    .rw[B0 (by omega)];have:j=r:=by omega
     subst this;exact o.tr _ _ _ (o.as _ _ s)<|up _ (by omega)
  .rw[B0 g];have:r=1:=by omega
   subst this;refine zA o f hp (by omega) ?_;intro i j m k;have:i=0:=by omega
   have:j=1:=by omega
   subst i;subst j;exact o.as _ _ s
theorem BW(o:vH lt)(d:0<n)(hp:Inv2 n p)(hs:iK lt p k){Q:Nat->Prop}(q:∀l,l<=k->(∀i,i<l->lt (p.getD k 0) (p.getD i 0)=false)->(∀i,l<=i->i<k->lt (p.getD k 0) (p.getD i 0)=true)->Q l):
 ∀(f l r:Nat),l<=r->r<=k->r-l<=f->(∀i,i<l->lt (p.getD k 0) (p.getD i 0)=false)->(∀i,r<=i->i<k->lt (p.getD k 0) (p.getD i 0)=true)->KS lt n (kas_place p k f l r) Q
 |0=>fun l r h e j a b=>by
  rw[kas_place.eq_def];have:l=r:=by omega
  subst this;exact q l e a b
 |f+1=>fun l r h e j a b=>by
  rw[kas_place.eq_def];show KS lt n (if l>=r then _ else _) Q;by_cases g:l>=r
  .rw[A4 g];have:l=r:=by omega
   subst this;exact q l e a b
  .rw[B0 g];refine⟨hp.ent d _,hp.ent d _,?_⟩;cases c:lt (p.getD k 0) (p.getD ((l+r) / 2) 0)with
   |true=>
    dsimp only;rw[A4 rfl];refine BW o d hp hs q f _ _ (by omega) (by omega) (by omega) a fun i x y=>?_;by_cases z:i=(l+r) / 2
    .subst z;exact c
    .exact o.up c<|hs _ _ (by omega) y
   |false=>
    dsimp only;rw[B0 B5];refine BW o d hp hs q f _ _ (by omega) (by omega) (by omega) (fun i x=>?_) b;by_cases z:i=(l+r) / 2
    .subst z;exact c
    .exact o.tr _ _ _ (hs i ((l+r) / 2) (by omega) (by omega)) c
def QV{p:Tj}{a d:Nat}(h:a<p.size)(hd:d<=a)(k:Nat):(bubble p a d).getD k 0=if k=a-d then p.getD a 0 else if a-d<k/\k<=a then p.getD (k-1) 0 else p.getD k 0:=by
 rw[F9,getElem?_bubble h d hd k];by_cases e:k=a-d
 .rw[A4 e,A4 e,F9]
 .rw[B0 e,B0 e];by_cases b:a-d<k/\k<=a
  .rw[A4 b,A4 b,F9]
  .rw[B0 b,B0 b,F9]
theorem ZN(o:vH lt)(g:0<n){Q:Tj->Prop}(q:∀p,Inv2 n p->iK lt p n->Q p):∀(f:Nat)(p:Tj)(k:Nat),Inv2 n p->k+f=n->iK lt p k->KS lt n (kas_bin f p k) Q
 |0=>fun p k c r hs=>by
  rw[kas_bin.eq_def];have:k=n:=by omega
  subst this;exact q p c hs
 |f+1=>fun p k c r hs=>by
  rw[kas_bin.eq_def];have s:=c.sz;refine KS.bind<|BW o g c hs (fun l t a b=>?_) k 0 k (by omega) (by omega) (by omega) (fun i x=>by omega) (fun i x y=>by omega);refine ZN o g q f _ (k+1) ((bubble_perm p k (k-l)).trans c) (by omega) ?_;intro i j d u;rw[QV (by omega) (by omega),QV (by omega) (by omega)];have e:k-(k-l)=l:=by omega
  rw[e];by_cases h:j=l
  .rw[A4 h,B0 (by omega),B0 (by omega)];exact a i (by omega)
  .rw[B0 h];by_cases m:l<j/\j<=k
   .rw[A4 m];by_cases i1:i=l
    .rw[A4 i1];exact o.as _ _<|b _ (by omega) (by omega)
    .rw[B0 i1];by_cases i2:l<i/\i<=k
     .rw[A4 i2];exact hs _ _ (by omega) (by omega)
     .rw[B0 i2];exact hs _ _ (by omega) (by omega)
   .rw[B0 m,B0 (by omega),B0 (by omega)];exact hs _ _ d (by omega)
def aDV(o:vH lt)(f:0<n):KS lt n (kas_sort n) (fun p=>Inv2 n p/\iK lt p n):=by
 unfold kas_sort;refine KS.bind<|KS.mono (fun r h=>?_)<|aAu o f (p:=(List.range n).toArray)<|Array.Perm.refl _;obtain⟨a,b,c,d⟩:=h;by_cases e:r.fst<n
 .rw[A4 e];have hm:max r.fst 1=r.fst:=by omega
  rw[hm];exact ZN o f (fun p x y=>⟨x,y⟩) _ _ _ a (by omega) d
 .rw[B0 e];have:r.fst=n:=by omega
  exact⟨a,this▸d⟩
end
end L2
namespace L2
open PySem PySem.Spec PyProof.Rows
def nD:T4->Tw (T7)
 |[]=>Z []
 |.int n::r=>(nD r).bind fun a=>Z (n::a)
 |_=>Y
theorem oV:∀{ds:T4}{us:T5}{as:Ta}{a:T7},ReadsAll h us ds as->nD ds=Z a->IntsAre us a
 |[],_,_,_=>fun r e=>by cases r;cases e;exact .nil
 |d::ds,_,_,_=>fun r e=>by
  cases r with
  |cons b c=>
   cases d with
   |int n=>
    obtain⟨ms,f,g⟩:=Option.bind_eq_some_iff.mp e;cases g;cases b;exact .cons _ _ (oV c f)
   |_=>cases e
def eS:Tz->Tz->Tw Bool
 |.int a,.int b=>Z<|decide (a<b)
 |.tuple xs,.tuple c=>(nD xs).bind fun d=>(nD c).bind fun ms=>Z<|HT.lexLt d ms
 |_,_=>Y
def dF:T4->T4->Tw Bool
 |[],a=>Z<|decide (0<a.length)
 |_::_,[]=>Z false
 |x::xs,y::a=>if PyData.eqv x y=true then dF xs a else eS x y
noncomputable def isI:Tz->Bool
 |.int _=>true
 |_=>false
section
variable{prog:Ud}{w:World}{A:Ue}{E:T0}{s:Ua}
def aFm{c fl:Bool}{Q:Bool->Ua->Prop}(f:A.units<cLine)(d:Reads s.heap p x as)(e:Reads s.heap q y bs)(h:eS x y=Z c)(g:fl=true->isI x=true/\isI y=true)(k:Q c s):
 wpAny (model prog w) A (oneLt' fl p q) Q E s:=by
 unfold eS at h;split at h
 .rename_i a b;cases d;cases e;cases h;cases fl with
  |true=>exact oneLt_int k
  |false=>exact W.kat_one _ _<|lt_int k
 .rename_i xs B;obtain⟨C,i,h⟩:=Option.bind_eq_some_iff.mp h;obtain⟨ms,j,h⟩:=Option.bind_eq_some_iff.mp h;cases h;cases fl with
  |true=>exact absurd (g rfl).1 (by intro z;cases z)
  |false=>
   cases d with
   |tuple l m n o=>
    cases e with
    |tuple r t u v=>
     exact W.kat_one _ _<|HT.lt_tupInts ⟨_,l,m,_,n⟩ ⟨_,r,t,_,u⟩ (oV o i) (oV v j) f k
 .cases h
theorem RY{b d:Bool}{Q:Bool->Ua->Prop}(l:A.units+64<cLine)(k:Q c s):∀(xs ys:T4)(us ws:T5)(as bs:Ta)(i:Nat),ReadsAll s.heap us xs as->ReadsAll s.heap ws ys bs->xs.all SeqAt.shaped=true->ys.all SeqAt.shaped=true->
 dF xs ys=Z c->d=decide (us.length<ws.length)->((b&&i==0)=true->xs.head?.all isI=true/\ys.head?.all isI=true)->W.KatLex prog w A b d Q (us.zip ws) i s
 |[],ys=>fun us ws as bs i g f s1 s2 h a j=>by
  cases g
  have o:ws.length=ys.length:=by
   clear k h a j s2
   induction f using ReadsAll.rec (motive_1:=fun _ _ _ _=>True)with
   |nil=>rfl
   |cons _ _ _ ih=>simp[ih]
   |_=>trivial
  refine W.kat_nil ?_;cases h;rw[a,o];exact k
 |x::xs,[]=>fun us ws as bs i g f s1 s2 h a j=>by
  cases f;rw[List.zip_nil_right];refine W.kat_nil ?_;cases h;rw[a];simpa using k
 |x::xs,y::ys=>fun us ws as bs i g f s1 s2 h a j=>by
  cases g with
  |cons m p=>
   cases f with
   |cons n q=>
    rw[Z1,B8]at s1 s2;refine W.kat_cons ?_;refine SeqAt.eqAt_reads x y A s _ _ _ _ m n (S7 s1.1) (S7 s2.1) (SeqAt.room_of_shaped s1.1 l) _ _ _ _ ?_;have h:(if PyData.eqv x y=true then dF xs ys else eS x y)=Z c:=h;cases e:PyData.eqv x y with
    |true=>
     rw[e,A4 rfl]at h;refine W.kat_yes<|RY l k xs ys _ _ _ _ (i+1) p q s1.2 s2.2 h ?_ fun z=>?_
     .rw[a];simp
     .simp at z
    |false=>
     rw[e,B0 B5]at h;refine W.kat_no<|aFm (by omega) m n h (fun z=>?_) k;have:=j z;simpa using this
end
open PySem PySem.W PyProof.Rows
noncomputable def WW{b:Type}(lt:To):KasT b->b
 |.ret a=>a
 |.ask i j k=>WW lt<|k<|lt i j
def KA{c:Type}(n:Nat):KasT c->(c->Prop)->Prop
 |.ret a,Q=>Q a
 |.ask i j k,Q=>i<n/\j<n/\∀b,KA n (k b) Q
section
variable{n:Nat}
theorem KA.bind{c d:Type}{f:c->KasT d}{Q:d->Prop}:∀{t:KasT c},KA n t (fun a=>KA n (f a) Q)->KA n (t.bind f) Q
 |.ret _=>fun h=>h
 |.ask _ _ _=>fun h=>⟨h.1,h.2.1,fun b=>KA.bind<|h.2.2 b⟩
theorem KA.ks{b:Type}{lt:To}{Q:b->Prop}:∀{t:KasT b},KA n t Q->KS lt n t (fun a=>a=WW lt t/\Q a)
 |.ret _=>fun h=>⟨rfl,h⟩
 |.ask i j _=>fun h=>⟨h.1,h.2.1,KA.ks<|h.2.2<|lt i j⟩
theorem KS.run{a:Type}{lt:To}{Q:a->Prop}:∀{t:KasT a},KS lt n t Q->Q (WW lt t)
 |.ret _=>fun h=>h
 |.ask i j k=>fun h=>KS.run (t:=k<|lt i j) h.2.2
theorem PQ(hp:Inv2 n p)(a:0<n){Q:Nat->Prop}(q:∀r,Q r):∀(f m:Nat),KA n (kas_asc p f m) Q
 |0=>fun m=>by rw[kas_asc.eq_def];exact q m
 |f+1=>fun m=>by
  refine⟨hp.ent a _,hp.ent a _,fun b=>?_⟩;cases b with
  |true=>exact q m
  |false=>exact PQ hp a q f (m+1)
theorem zS(c:0<n){Q:Tj×Nat×Nat->Prop}(k:∀p m q,Inv2 n p->Q (p,m,q)):∀(f:Nat)(p:Tj)(m q:Nat),Inv2 n p->KA n (kas_desc f p m q) Q
 |0=>fun p m q a=>by rw[kas_desc.eq_def];exact k p m q a
 |f+1=>fun p m q a=>by
  refine⟨a.ent c _,a.ent c _,fun b=>?_⟩;cases b with
  |true=>
   by_cases d:q > 0
   .rw[A4 d];exact zS c k f _ _ _<|gT a _ _
   .rw[B0 d];exact zS c k f _ _ _ a
  |false=>
   refine⟨a.ent c _,a.ent c _,fun b=>?_⟩;cases b with
   |true=>exact k p m q a
   |false=>exact zS c k f _ _ _ a
def JL(a:0<n){p:Tj}{m:Nat}(hp:Inv2 n p):KA n (kas_tail3 m n p) (fun r=>Inv2 n r.2):=by
 exact KA.bind<|PQ (gT hp 0 m) a (fun r=>gT hp 0 m) _ _
def zG(b:0<n){p:Tj}{m:Nat}(hp:Inv2 n p):KA n (kas_descPart m n p) (fun r=>Inv2 n r.2):=by
 refine KA.bind<|zS b (fun e f d a=>?_) _ _ _ _ hp;by_cases c:d > 0
 .rw[A4 c];exact JL b<|gT a _ _
 .rw[B0 c];exact JL b a
def ZR(a:0<n){p:Tj}(hp:Inv2 n p):KA n (kas_count n p) (fun r=>Inv2 n r.2):=by
 refine KA.bind<|PQ hp a (fun r=>?_) _ _;by_cases e:(r==n)=true
 .rw[A4 e];exact hp
 .rw[B0 e];by_cases g:r > 1
  .rw[A4 g];refine⟨hp.ent a _,hp.ent a _,fun b=>?_⟩;cases b with
   |true=>exact hp
   |false=>exact zG a<|gT hp _ _
  .rw[B0 g];exact zG a hp
theorem AE(a:0<n)(hp:Inv2 n p){Q:Nat->Prop}(q:∀l,Q l):∀(f l r:Nat),KA n (kas_place p k f l r) Q
 |0=>fun l r=>by rw[kas_place.eq_def];exact q l
 |f+1=>fun l r=>by
  show KA n (if l>=r then _ else _) Q;by_cases g:l>=r
  .rw[A4 g];exact q l
  .rw[B0 g];refine⟨hp.ent a _,hp.ent a _,fun b=>?_⟩;cases b with
   |true=>exact AE a hp q f _ _
   |false=>exact AE a hp q f _ _
theorem YM(b:0<n):∀(f:Nat)(p:Tj)(k:Nat),Inv2 n p->KA n (kas_bin f p k) (Inv2 n)
 |0=>fun p k a=>by rw[kas_bin.eq_def];exact a
 |f+1=>fun p k a=>by
  exact KA.bind<|AE b a (fun l=>YM b f _ (k+1)<|(bubble_perm p k (k-l)).trans a) k 0 k
def UJ(d:0<n):KA n (kas_sort n) (Inv2 n):=by
 have:=ZR d<|Array.Perm.refl _;refine KA.bind ?_
 have mono:∀{c:Type}{Q R:c->Prop}(m:∀a,Q a->R a)(t:KasT c),KA n t Q->KA n t R:=by
  intro c Q R m t
  induction t with
  |ret a=>exact m a
  |ask i j k ih=>exact fun h=>⟨h.1,h.2.1,fun b=>ih b<|h.2.2 b⟩
 refine mono (fun r a=>?_) _ this;by_cases e:r.fst<n
 .rw[A4 e];exact YM d _ _ _ a
 .rw[B0 e];exact a
def fH(lt:To)(n:Nat):Td:=(WW lt<|kas_sort n).toList
def rW(lt:To)(a:0<n):(fH lt n).Perm (List.range n):=by
 have:=KS.run<|KA.ks (lt:=lt)<|UJ a;simpa[fH]using Array.perm_iff_toList_perm.mp this.2
end
end L2
namespace L2
variable{H:Hp}{K:Fg}{W:Wd}{σ:St}
open PySem PySem.Spec PyProof.Rows
mutual
noncomputable def eP:Tz->Bool
 |.int _=>true
 |.tuple xs=>dX xs
 |_=>false
noncomputable def dX:T4->Bool
 |[]=>true
 |x::r=>eP x&&dX r
end
mutual
theorem rk{h h':Heap}(k:∀b o vs n,h.get? b=Z o->o.data=.seq vs n->h'.get? b=Z o):∀(d:Tz)(v:Tx)(as:Ta),eP d=true->Reads h v d as->Reads h' v d as
 |.int n=>fun _ _ _ r=>by cases r;exact .int _ _
 |.tuple xs=>fun _ _ e r=>by
  cases r with
  |tuple a b c d=>exact .tuple (k _ _ _ _ a c) b c (aBA k xs _ _ (by unfold eP at e;exact e) d)
 |.none=>fun _ _ e _=>by unfold eP at e;cases e
 |.bool _=>fun _ _ e _=>by unfold eP at e;cases e
 |.str _=>fun _ _ e _=>by unfold eP at e;cases e
 |.list _=>fun _ _ e _=>by unfold eP at e;cases e
 |.dict _=>fun _ _ e _=>by unfold eP at e;cases e
theorem aBA{h h':Heap}(k:∀b o vs n,h.get? b=Z o->o.data=.seq vs n->h'.get? b=Z o):∀(ds:T4)(vs:T5)(as:Ta),dX ds=true->ReadsAll h vs ds as->ReadsAll h' vs ds as
 |[]=>fun _ _ _ r=>by cases r;exact .nil
 |d::ds=>fun _ _ e r=>by
  cases r with
  |cons a b=>
   unfold dX at e;rw[B8]at e;exact .cons (rk k d _ _ e.1 a) (aBA k ds _ _ e.2 b)
end
theorem ReadsAll.at:∀{ds:T4}{vs:T5}{as:Ta}(i:Nat),ReadsAll h vs ds as->i<ds.length->∃bs,Reads h (vs.getD i .none) (ds.getD i .none) bs
 |[],_,_,i=>fun _ hi=>absurd hi<|Nat.not_lt_zero _
 |d::ds,_,_,0=>fun r _=>by cases r with|cons a b=>exact⟨_,a⟩
 |d::ds,_,_,i+1=>fun r hi=>by
  cases r with
  |cons a b=>
   obtain⟨bs,x⟩:=ReadsAll.at i b<|Nat.lt_of_succ_lt_succ hi;exact⟨bs,x⟩
theorem ReadsAll.len:∀{ds:T4}{vs:T5}{as:Ta},ReadsAll h vs ds as->vs.length=ds.length
 |[],_,_=>fun r=>by cases r;rfl
 |d::ds,_,_=>fun r=>by
  cases r with
  |cons a b=>simp[ReadsAll.len b]
section
variable{prog:Ud}{w:World}{A:Ue}{E:T0}{s:Ua}
def aIP{b c:Bool}{Q:Bool->Ua->Prop}(a:A.units+64<cLine)(d:Reads s.heap p (.tuple xs) as)(e:Reads s.heap q (.tuple ys) bs)
 (s1:xs.all SeqAt.shaped=true) (s2:ys.all SeqAt.shaped=true) (h:dF xs ys=Z c) (f:b=true->xs.head?.all isI=true/\ys.head?.all isI=true) (k:Q c s):wpAny (model prog w) A (keyLt' (tuples' b) p q) Q E s:=by
 cases d with
 |tuple g o i j=>
  cases e with
  |tuple l r m n=>
   refine PySem.W.kat_lt g i l m<|RY a k xs ys _ _ _ _ 0 j n s1 s2 h (by simp) fun z=>f ?_;simpa using z
noncomputable def oO(rows:Tv (T4)):Bool:=rows.all fun r=>match r with
 |.int _::_=>true
 |_=>false
noncomputable def vO(rows:Tv (T4)):Bool:=rows.all fun r=>match r with
 |.tuple _::_=>true
 |_=>false
def aHk(n:Int)(t:Tok):PySem.W.Looks M h (typeOf (.int n t)) (.type "int"):=fun A Q E s _ q=>by
 show wpAny M A (pure _) Q E s;exact B2 q
theorem firstsI:∀{rows:Tv (T4)}{vs:T5}{as:Ta},ReadsAll h vs (rows.map .tuple) as->oO rows=true->∃fs,PySem.W.KatTups h vs fs/\fs.length=rows.length/\∀v∈fs,∃n t,v=.int n t
 |[],_,_=>fun r _=>by cases r;exact⟨[],.nil,rfl,fun v c=>nomatch c⟩
 |x::rows,_,_=>fun r e=>by
  unfold oO at e;rw[Z1,B8]at e;cases r with
  |cons a b=>
   obtain⟨fs,j,k,m⟩:=firstsI b (by unfold oO;exact e.2);cases x with
   |nil=>exact absurd e.1 (by decide)
   |cons d ds=>
    cases d with
    |int n=>
     cases a with
     |tuple p q u i=>
      rename_i o vs B ;generalize c:vs.toList=l at i;cases i with
      |cons y C=>
       cases y with
       |int _ t=>
        refine⟨.int n t::fs,.cons p q u (f:=.int n t) ?_ j,by simp[k],?_⟩
        .rw[<- Array.getElem?_toList,c];rfl
        .intro v g;rcases List.mem_cons.mp g with z|z
         .exact⟨_,_,z⟩
         .exact m v z
    |_=>exact absurd e.1 (by intro z;cases z)
end
section
variable{prog:Ud}{w:World}{A:Ue}{E:T0}{s:Ua}
def aHt{h:Heap}{a:Ub}{o:Obj}(g:h.get? a=Z o)(c:o.cls=.type "tuple"):PySem.W.Looks M h (typeOf (.ref a)) (.type "tuple"):=fun A Q E s k q=>wpAny_typeOf (⟨o,k _ _ g,c⟩) q
theorem RX:∀{rows:Tv (T4)}{vs:T5}{as:Ta},ReadsAll h vs (rows.map .tuple) as->vO rows=true->∃fs,PySem.W.KatTups h vs fs/\fs.length=rows.length/\∀v∈fs,∃a o,v=.ref a/\h.get? a=Z o/\o.cls=.type "tuple"
 |[],_,_=>fun r _=>by cases r;exact⟨[],.nil,rfl,fun v c=>nomatch c⟩
 |x::rows,_,_=>fun r e=>by
  unfold vO at e;rw[Z1,B8]at e;cases r with
  |cons a b=>
   obtain⟨fs,i,j,k⟩:=RX b (by unfold vO;exact e.2);cases x with
   |nil=>exact absurd e.1 (by decide)
   |cons d ds=>
    cases d with
    |tuple B=>
     cases a with
     |tuple m n p g=>
      rename_i o vs C;generalize c:vs.toList=l at g;cases g with
      |cons q D=>
       cases q with
       |@tuple t _ _ _ _ _ u y F G=>
        refine⟨.ref t::fs,.cons m n p ?_ i,by simp[j],?_⟩
        .rw[<- Array.getElem?_toList,c];rfl
        .intro v f;rcases List.mem_cons.mp f with z|z
         .exact⟨_,_,z,u,y⟩
         .exact k v z
    |_=>exact absurd e.1 (by simp)
def VM{rows:Tv (T4)}{Q:SortKind->Ua->Prop}(r:ReadsAll s.heap vs (rows.map .tuple) as)(i:0<rows.length)(hk:oO rows=true\/vO rows=true)(q:Q (tuples'<|oO rows) s):wpAny M A (keyKind' vs.toArray) Q E s:=by
 rcases hk with hk|hk
 .obtain⟨fs,b,j,f⟩:=firstsI r hk;rw[hk]at q;refine PySem.W.kat_kind (T:=.type "int") b (by omega) (fun v h=>?_) (by decide) q;obtain⟨n,t,rfl⟩:=f v h;exact aHk n t
 .obtain⟨fs,b,j,f⟩:=RX r hk
  have e:oO rows=false:=by
   cases rows with
   |nil=>cases i
   |cons x r=>
    unfold vO at hk;rw[Z1,B8]at hk;cases x with
    |nil=>rfl
    |cons d ds=>cases d<;>first|rfl|exact absurd hk.1 (by simp)
  rw[e]at q;refine PySem.W.kat_kind (T:=.type "tuple") b (by omega) (fun v h=>?_) (by decide) q;obtain⟨a,o,rfl,g,c⟩:=f v h;exact aHt g c
end
section
variable{X:Cx}{pins:T2}{σ:St}{H:Hp}{s:Ua}{h':Heap}
def fM.there{P:Ud}(x:fM P w H h a o):∃u,h.get? a=Z u:=by
 induction o with
 |lst xs=>obtain⟨_,_,_,_,e⟩:=x;exact⟨_,e⟩
 |tup xs=>obtain⟨_,_,_,_,e,_⟩:=x;exact⟨_,e⟩
 |dK kvs=>obtain⟨_,_,_,_,o,_,_,e,_⟩:=x;exact⟨_,e⟩
 |dT kvs=>obtain⟨_,_,_,_,o,_,_,e,_⟩:=x;exact⟨_,e⟩
 |set S n=>obtain⟨o,_,_,_,e,_⟩:=x;exact⟨_,e⟩
 |ins C dx fs=>obtain⟨_,_,_,e,_⟩:=x;exact⟨_,e⟩
 |own y=>exact x
 |xd fs=>obtain⟨_,⟨_,_,_,e,_⟩,_⟩:=x;exact⟨_,e⟩
 |rng lo hi=>obtain⟨_,_,_,e⟩:=x;exact⟨_,e⟩
 |frz o u=>exact⟨_,x.1⟩
 |tbl ps=>exact⟨_,x⟩
 |met f b=>exact⟨_,x⟩
 |ext c=>exact x.2.1
def HOk.none{P:Ud}{a:Ub}(x:HOk P w H h)(e:h.get? a=Y):H a=Y:=by
 cases q:H a with
 |none=>rfl
 |some o=>
  obtain⟨u,z⟩:=(x a o q).there;rw[e]at z;cases z
def Inv.laidL{a:Ub}(I:Inv X pins σ H s)(k:∀b u,b≠X.env.locals->s.heap.get? b=Z u->h'.get? b=Z u)(f:∀m,s.heap.Ns X.env.locals m->h'.Ns X.env.locals m)(hp:s.heap.get? a=Y)(new:fM X.prog X.w (upd H a o) h' a o):
 Inv X pins σ (upd H a o) { s with heap:=h' }:=by
 have hn:=I.hok.none hp;have nt:∀b u,H b=Z u->b≠X.env.locals:=fun b u e z=>by rw[z,I.free]at e;cases e
 refine I.step (ch:=[]) (fun _ z=>nomatch z) (fun b o d _ _ e _=>k b o d e) (fun b o d _ _ e _=>⟨o.slots,k b o d e⟩) (fun b o _ e n=>?_) (fun b o _ e=>?_) (fun b xs e=>?_) (fun b o u e=>?_) (fun b ps e=>⟨#[],?_⟩) f ?_ I.bare
 .rw[aN (fun z=>by subst z;rw[hp]at e;cases e)];exact n
 .by_cases z:b=X.env.locals
  .subst z;obtain⟨m,hm,_⟩:=I.loc;obtain⟨o',_,_,q,_⟩:=f m hm;exact⟨o',q⟩
  .exact⟨o,k b o z e⟩
 .rw[aN (aO e hn)];exact e
 .rw[aN (aO e hn)];exact e
 .rw[aN (aO e hn)];simpa using e
 .intro b u e;by_cases g:b=a
  .subst g;rw[aW]at e;cases e;exact new
  .rw[aN g]at e;refine(I.hok b u e).stay (fun c v h q=>k c v ?_ q) (fun c q=>by rw[aN (aO q hn)];exact q) fun c xs q=>by rw[aN (aO q hn)];exact q
   rcases h with z|z
   .rw[z];exact nt b _ e
   .exact nt c _ z
def SB{h:Heap}(a:h.Ns L m)(b:h.Ns L c):m=c:=by
 obtain⟨o,es,ep,f,g,_,i⟩:=a;obtain⟨o',j,k,d,e,_,l⟩:=b;rw[f]at d;cases d;rw[g]at e;cases e;funext x;rw[<- i x,l x]
def iC(rows:Tv (T4))(i j:Nat):Bool:=(dF (rows.getD i [])<|rows.getD j []).getD false
def NV(K:Fg):Tc->Hp->VK->Prop:=fun xs H Q=>∃(p:Ub)(vs:Tc)(a:Tv (T4)),xs=[.ref p]/\SqL K H p vs/\aM K H (a.map .tuple) vs/\2<=a.length/\a.length<64 /\
 (∀r∈a,r.all SeqAt.shaped=true/\dX r=true)/\(oO a=true\/vO a=true)/\(∀i j,i<a.length->j<a.length->(dF (a.getD i [])<|a.getD j []).isSome=true) /\
 ∀l,H l=Y->Q (.ref l) (upd H l (.lst ((fH (iC a) a.length).map fun i=>vs.getD i .non)))
theorem GB(r:bG vs us):∀ps:Td,bG (ps.map fun i=>vs.getD i .non) (ps.map fun i=>us.getD i .none)
 |[]=>.nil
 |p::ps=>by
  refine .cons ?_ (GB r ps)
  have go:∀{vs:Tc}{us:T5}(i:Nat),bG vs us->RelV (vs.getD i .non) (us.getD i .none):=by
   intro vs us i r
   induction r generalizing i with
   |nil=>exact rfl
   |cons a b ih=>cases i with
    |zero=>exact a
    |succ i=>exact ih i
  exact go p r
def JF(hu:X.A.in1.in1.units+64<cLine):fR X (.builtin "sorted") (NV X.K):=by
 intro pins s σ H xs us Q I r h;obtain⟨p,vs,a,rfl,hp,g,h2,S,f,k,t,q⟩:=h;obtain⟨u,rfl,ru⟩:=vals1 r;cases ru;obtain⟨its,rv,pl,hz⟩:=I.list hp;obtain⟨as,w⟩:=aM.reads I _ vs its g rv;have l:its.length=a.length:=by rw[ReadsAll.len w,A3]
 obtain⟨m,F⟩:=I.fr;have N:News X.base X.env.locals s.heap (nH X.base s.heap X.env.locals):=MJ;refine PySem.W.kat_sorted F N pl.isList (by omega) (by omega) fun D e1 h' F' N' hD=>?_
 have kp:∀(P:Heap),Fr X.base X.env.locals P m->(∀q∈nH X.base s.heap X.env.locals,P.get? q.1=Z q.2)->∀b o,b≠X.env.locals->s.heap.get? b=Z o->P.get? b=Z o:=fun P G1 M1 b o hb e=>by
  cases z:X.base.get? b with
  |some v=>
   have:=I.bk b v z;rw[e]at this;cases this;exact G1.keep b _ z
  |none=>exact M1 (b,o)<|mX hb z e
 have k':=kp h' F' fun q B=>(N' q<|A8 _ B).1
 have E:s.heap.get? D=Y:=by
  have hN:=N' _ A9;cases e:s.heap.get? D with
  |none=>rfl
  |some o=>exact absurd (hD (D,o)<|mX hN.2.1 hN.2.2 e)<|E3 _
 have G:∀b o vs n,s.heap.get? b=Z o->o.data=.seq vs n->b≠X.env.locals:=fun b o vs n e d z=>by
  obtain⟨o',es,ep,x1,x2,_⟩:=F.ns;subst z;rw[e]at x1;cases x1;rw[d]at x2;cases x2
 have T:dX (a.map .tuple)=true:=by
  clear g w l q k t h2 S
  induction a with
  |nil=>rfl
  |cons x r ih=>
   show(dX x&&dX (r.map .tuple))=true;rw[(f x A9).2,ih fun y hy=>f y<|A8 _ hy];rfl
 have J:ReadsAll h' its (a.map .tuple) as:=aBA (fun b o vs n e d=>k' b o (G b o vs n e d) e) _ _ _ T w;refine VM (s:={ s with heap:=h' }) J (by omega) k ?_;rw[l];refine KS.wp (lt:=iC a) (n:=a.length) (fun i j C hi R c=>?_) (fun p U=>?_)<|(UJ (by omega)).ks (lt:=iC a)
 .have at_:∀i,i<a.length->∃bs,Reads h' (its.getD i .none) (.tuple (a.getD i [])) bs:=fun i hi=>by
   obtain⟨bs,x⟩:=ReadsAll.at i J (by simpa using hi)
   have:(a.map PyData.tuple).getD i .none=.tuple (a.getD i []):=by
    rw[C3,D0,C3,C5 hi];rfl
   rw[this]at x;exact⟨bs,x⟩
  obtain⟨b1,r1⟩:=at_ i hi;obtain⟨b2,r2⟩:=at_ j R
  have mem:∀i,i<a.length->a.getD i []∈a:=fun i hi=>by
   rw[C3,C5 hi];exact A0f hi
  have hd:oO a=true->∀r∈a,r.head?.all isI=true:=fun z r w=>by
   unfold oO at z;have:=List.all_eq_true.mp z r w;cases r with
   |nil=>rfl
   |cons d ds=>cases d<;>first|rfl|exact absurd this (by intro z;cases z)
  obtain⟨c0,L⟩:=Option.isSome_iff_exists.mp<|t i j hi R;have hc:iC a i j=c0:=by unfold iC;rw[L];rfl
  rw[hc]at c;exact aIP (s:={ s with heap:=h' }) hu r1 r2 (f _<|mem i hi).1 (f _<|mem j R).1 L (fun z=>⟨hd z _<|mem i hi,hd z _<|mem j R⟩) c
 .obtain⟨e,_⟩:=U;subst e;refine PySem.W.KasFin.intro F' N' (.head fun q B=>C2<|hD q B) fun V c M O=>?_;have a0:=kp V M (fun q B=>(O q<|A8 _ B).1);refine⟨.ref D,upd H D (.lst ((fH (iC a) a.length).map fun i=>vs.getD i .non)),?_,rfl,q D<|I.hok.none E⟩;refine I.laidL a0 (fun m' a1=>?_) E ⟨?_,_,c,GB rv _,(O _ A9).1⟩
  .rw[<- SB F.ns a1];exact M.ns
  .rw[A3,(rW (iC a) (by omega)).length_eq,List.length_range];have:64<=sizeLine:=by decide
   omega
end
def rowsOf:T4->Tw (Tv<|T4)
 |[]=>Z []
 |.tuple r::ds=>(rowsOf ds).bind fun rs=>Z (r::rs)
 |_=>Y
theorem xB:∀{ds:T4}{rows:Tv (T4)},rowsOf ds=Z rows->ds=rows.map .tuple
 |[],_=>fun h=>by cases h;rfl
 |d::ds,rows=>fun h=>by
  cases d with
  |tuple r=>
   have h:(rowsOf ds).bind (fun rs=>Z (r::rs))=Z rows:=h;obtain⟨rs,a,b⟩:=Option.bind_eq_some_iff.mp h;cases b;rw[xB a];rfl
  |_=>cases h
def sortable(rows:Tv (T4)):Bool:=decide (2<=rows.length)&&decide (rows.length<64)&&rows.all (fun r=>r.all SeqAt.shaped&&dX r)&&(oO rows || vO rows)&&(List.range rows.length).all fun i=>(List.range rows.length).all fun j=>(dF (rows.getD i [])<|rows.getD j []).isSome
def GS(rows:Tv (T4)):T4:=(fH (iC rows) rows.length).map fun i=>.tuple (rows.getD i [])
def zU:FN:=fun xs M=>match xs with
 |[.d (.list ds)]=>(rowsOf ds).bind fun a=>if sortable a=true then Z (.d (.list (GS a)),M)else Y
 |[.c i]=>match M[i]? with
  |some (.lst b)=>(mV b).bind fun ds=>(rowsOf ds).bind fun a=>if sortable a=true then Z (.d (.list (GS a)),M)else Y
  |_=>Y
 |_=>Y
def mY(h:sortable rows=true):2<=rows.length/\rows.length<64/\(∀r∈rows,r.all SeqAt.shaped=true/\dX r=true)/\(oO rows=true\/vO rows=true)/\(∀i j,i<rows.length->j<rows.length->(dF (rows.getD i [])<|rows.getD j []).isSome=true):=by
 unfold sortable at h;rw[B8,B8,B8,B8,Bool.or_eq_true]at h;obtain⟨⟨⟨⟨a,b⟩,c⟩,d⟩,e⟩:=h;refine⟨D7 a,D7 b,fun r f=>?_,d,fun i j hi g=>?_⟩
 .have:=List.all_eq_true.mp c r f
  rwa [B8]at this
 .exact List.all_eq_true.mp (List.all_eq_true.mp e i<|List.mem_range.mpr hi) j<|List.mem_range.mpr g
section
variable{K:Fg}
theorem aM.len{H:Hp}:∀{ds:T4}{vs:Tc},aM K H ds vs->vs.length=ds.length
 |[],_=>fun h=>by
  rw[h];rfl
 |d::ds,_=>fun h=>by
  obtain⟨v,r,rfl,_,a⟩:=h;simp[aM.len a]
theorem DI{H:Hp}{rows:Tv (T4)}(r:aM K H (rows.map .tuple) us):∀ps:Td,(∀i∈ps,i<rows.length)->aM K H (ps.map fun i=>.tuple (rows.getD i [])) (ps.map fun i=>us.getD i .non)
 |[]=>fun _=>rfl
 |p::ps=>fun a=>by
  refine⟨_,_,rfl,?_,DI r ps fun i hi=>a i<|A8 _ hi⟩;have hi:=a p A9;have c:=aM.len r;rw[A3]at c
  have f:us[p]?=Z (us.getD p .non):=by
   rw[C3,C5 (by omega)];rfl
  obtain⟨d,b,g⟩:=aM.get r f;rw[D0,C5 hi]at b;cases b;have e:rows.getD p []=rows[p]:=by grind
  show Rep K H (.tuple (rows.getD p [])) (us.getD p .non);rw[e];exact g
def aGu{lt:To}{n:Nat}(a:0<n):∀i∈fH lt n,i<n:=fun i hi=>List.mem_range.mp<|(rW lt a).mem_iff.mp hi
def VL:PN K (NV K) zU:=by
 intro xs M z M' h W H vs Q G r k;unfold zU at h;split at h
 .rename_i ds;obtain⟨b,e,h⟩:=aI h;by_cases hs:sortable b=true
  .rw[A4 hs]at h;cases h;obtain⟨f,g,j,m,n⟩:=mY hs;rcases r with _|⟨q,_|_⟩;obtain⟨p,us,rfl,u,c⟩:=(show ∃a us,_=V.ref a/\SqL K W.F a us/\aM K W.F ds us from q);rw[xB e]at c;refine⟨p,us,b,rfl,G.fh.seq u,aM.same G.fh _ _ c,f,g,j,m,n,fun l s=>?_⟩;obtain⟨d,t⟩:=G.lay (o:=.lst ((fH (iC b) b.length).map fun i=>us.getD i .non)) s;exact k _ _ _ d t ⟨l,_,rfl,SqL.of aW,DI (aM.same d.ff _ _ c) _<|aGu (by omega)⟩
  .rw[B0 hs]at h;cases h
 .rename_i i;split at h
  .rename_i x hy;obtain⟨ds,v,h⟩:=aI h;obtain⟨b,e,h⟩:=aI h;by_cases hs:sortable b=true
   .rw[A4 hs]at h;cases h;obtain⟨f,g,j,m,n⟩:=mY hs;rcases r with _|⟨q,_|_⟩;obtain⟨us,w,c⟩:=G.lstAt hy;have c:=eM v c;rw[xB e]at c;rw[q.2];refine⟨_,us,b,rfl,SqL.of w,aM.same G.fh _ _ c,f,g,j,m,n,fun l s=>?_⟩;obtain⟨d,t⟩:=G.lay (o:=.lst ((fH (iC b) b.length).map fun i=>us.getD i .non)) s;exact k _ _ _ d t ⟨l,_,rfl,SqL.of aW,DI (aM.same d.ff _ _ c) _<|aGu (by omega)⟩
   .rw[B0 hs]at h;cases h
  .cases h
 .cases h
end
def cG.units2(r:cG k A):A.in1.in1.units+64<cLine:=by have:=r.un;show A.units+1+1+64<_;omega
section
variable{prog:Ud}{w:World}{A:Ue}{E:T0}{s:Ua}
def zH{a:Ub}{vs:T5}{P:PySem.Fin->Ua->Prop}(g:s.heap.get? a=Z (seqObj "list" vs.toArray n))(d:vs.length<2)
 (k:P (.done (.ret .none)) { s with heap:=sortedHeap s.heap a vs vs.toArray }):wpAny (model prog w) A (Builtin.«list.sort» ⟨[.ref a],[]⟩) P E s:=by
 rw[list_sort_plain];have e:vs.toArray.size<=sizeLine:=by rw[D6,E9];omega
 refine A0<|listItems_at g rfl ?_;refine A0<|listUpdate_at g rfl ?_ e (by simp);have b:=get?_update_seq g (fun _=>#[]);refine A0<|seqEpoch_at b rfl ?_;refine A0<|wpAny_newTuple ?_ (by omega);refine A0<|wpAny_newList ?_;refine E8 ?_;have hs:vs.toArray.size<2:=by omega
 rw[A4 hs,A4 hs];refine A0<|B2 ?_;refine A0 ?_;refine B2 ?_;have f:=A2 { cls:=.type "tuple",data:=.seq vs.toArray.toList.toArray } b;have c:=A2 { cls:=.type "list",data:=.seq ([]:T5).toArray } f;refine A0<|seqEpoch_at c rfl ?_
 have hm:Array.map (fun x=>x.snd) (arrOf<|SortSt.mk' general' (vs.toArray.zip vs.toArray) #[] 7 Y)=vs.toArray:=by
  show Array.map (fun x=>x.snd) (vs.toArray.zip vs.toArray)=vs.toArray
  apply Array.ext
  .simp
  .intro i h d;simp
 rw[hm];refine A0<|listUpdate_at c rfl ?_ (by simp) (by omega);rw[B0 (by simp)];exact B2 k
def IW{vs:T5}{Q:T0}(g:s.heap.IsList l vs.toArray)(p:vs.length<2)
 (k:∀(h':Heap)(D:Ub),(∀b o,s.heap.get? b=Z o->h'.get? b=Z o)->s.heap.objs.size<=D->(∃c,h'.get? D=Z (seqObj "list" vs.toArray c))->Q (.ref D) { s with heap:=h' }):wpAny (model prog w) A (call (.builtin "sorted") [.ref l]) Q E s:=by
 refine Calls.call_function_entry kind_sorted plain_sorted entry_sorted (args_sorted1 _) ?_;have i:vs.length<=sizeLine:=by rw[E9];omega
 unfold Builtin.sorted;refine A0 (show wpAny _ _ (pure ()) _ _ _ from B2 ?_);refine A0<|collect_list g ?_ i;refine A0<|wpAny_newList ?_ i;generalize a:(s.heap.push<|seqObj "list" #[] 0).update s.heap.objs.size (Obj.mapSeq fun x=>x++vs.toArray)=d
 have j:∀b o,s.heap.get? b=Z o->d.get? b=Z o:=fun b o e=>by
  rw[<- a,Heap.get?_update_ne _ _ _ _<|C2<|B3 e];exact A2 _ e
 have f:s.heap.objs.size<=d.objs.size:=by
  have q:(s.heap.push<|seqObj "list" #[] 0).get? s.heap.objs.size=Z (seqObj "list" #[] 0):=C6 _ rfl;have m:=get?_update_seq q (fun x=>x++vs.toArray);rw[a]at m;exact A0z<|B3 m
 refine A0<|E8 ?_;have h:(d.push { cls:=.type "list",data:=.seq vs.toArray }).get? d.objs.size=Z (seqObj "list" vs.toArray 0):=C6 _ rfl;refine O7 slot_list_sort ⟨_,h,rfl⟩ entry_list_sort (zH h p ⟨_,rfl,?_⟩)<|args_list_sort _;refine B2 ⟨_,rfl,k _ _ (fun b o e=>?_) f ?_⟩
 .have n:b≠d.objs.size:=C2<|B3<|j b o e;unfold sortedHeap;rw[Heap.get?_update_ne _ _ _ _ n];refine A2 _<|A2 _ ?_;rw[Heap.get?_update_ne _ _ _ _ n];exact A2 _<|j b o e
 .unfold sortedHeap;have r:=get?_update_seq h (fun _=>#[]);have t:=A2 (seqObj "tuple" vs.toArray 0) r;have u:=A2 (seqObj "list" #[] 0) t;exact⟨_,get?_update_seq u fun _=>vs.toArray⟩
end
def OD(K:Fg):Tc->Hp->VK->Prop:=fun xs H Q=>∃(p:Ub)(vs:Tc),xs=[.ref p]/\SqL K H p vs/\vs.length<2/\∀l,H l=Y->Q (.ref l) (upd H l (.lst vs))
def JH:fR X (.builtin "sorted") (OD X.K):=by
 intro pins s σ H xs us Q I r h;obtain⟨p,vs,rfl,d,j,q⟩:=h;obtain⟨u,rfl,e⟩:=vals1 r;cases e;obtain⟨its,a,f,i⟩:=I.list d;have l:=a.length;refine IW f.isList (by omega) fun h' D k b ⟨c,g⟩=>?_;exact⟨.ref D,upd H D (.lst vs),I.laid (t':=s.toks) k b ⟨i,its,c,a,g⟩,rfl,q D<|I.hok.fresh b⟩
def aCx(K:Fg):Tc->Hp->VK->Prop:=fun xs H Q=>NV K xs H Q\/OD K xs H Q
def aIH{X:Cx}(h:X.K=K)(a:X.A.in1.in1.units+64<cLine):fR X (.builtin "sorted") (aCx K):=by
 subst h;intro pins s σ H xs us Q I r h;rcases h with h|h
 .exact JF a pins s σ H xs us Q I r h
 .exact JH pins s σ H xs us Q I r h
def uG:FN:=fun xs M=>match xs with
 |[.d (.list ds)]=>if ds.length<2 then Z (.d (.list ds),M)else Y
 |[.c i]=>match M[i]? with
  |some (.lst a)=>(mV a).bind fun ds=>if ds.length<2 then Z (.d (.list ds),M)else Y
  |_=>Y
 |_=>Y
def aCO:PN K (OD K) uG:=by
 intro xs M z M' h W H vs Q G r k;unfold uG at h;split at h
 .rename_i ds;by_cases hs:ds.length<2
  .rw[A4 hs]at h;cases h;rcases r with _|⟨d,_|_⟩;obtain⟨p,us,rfl,g,b⟩:=(show ∃a us,_=V.ref a/\SqL K W.F a us/\aM K W.F ds us from d);refine⟨p,us,rfl,G.fh.seq g,by rw[aM.len b];exact hs,fun l e=>?_⟩;obtain⟨c,f⟩:=G.lay (o:=.lst us) e;exact k _ _ _ c f ⟨l,_,rfl,SqL.of aW,aM.same c.ff _ _ b⟩
  .rw[B0 hs]at h;cases h
 .rename_i i;split at h
  .rename_i n hy;obtain⟨ds,j,h⟩:=aI h;by_cases hs:ds.length<2
   .rw[A4 hs]at h;cases h;rcases r with _|⟨d,_|_⟩;obtain⟨us,m,b⟩:=G.lstAt hy;have b:=eM j b;rw[d.2];refine⟨_,us,rfl,SqL.of m,by rw[aM.len b];exact hs,fun l e=>?_⟩;obtain⟨c,f⟩:=G.lay (o:=.lst us) e;exact k _ _ _ c f ⟨l,_,rfl,SqL.of aW,aM.same c.ff _ _ b⟩
   .rw[B0 hs]at h;cases h
  .cases h
 .cases h
def xU:FN:=fun xs M=>match uG xs M with
 |some r=>Z r
 |none=>zU xs M
def aBa:PN K (aCx K) xU:=by
 intro xs M z M' h W H vs Q G r k;unfold xU at h;split at h
 .rename_i q a;cases h;exact .inr (aCO xs M z M' a W H vs Q G r k)
 .exact .inl (VL xs M z M' h W H vs Q G r k)
def aFc{ι:Type}{X:ι->Cx}(a:∀i,(X i).K=K)(b:∀i,(X i).A.in1.in1.units+64<cLine):QN K X (.builtin "sorted") xU:=⟨_,fun i=>aIH (a i)<|b i,aBa⟩
mutual
theorem HM:∀(x y:Tz),eP x=true->eP y=true->(PyData.eqv x y=true↔x=y)
 |.int a,.int b=>fun _ _=>by rw[PyData.eqv.eq_def];simp
 |.int a,.tuple b=>fun _ _=>by rw[PyData.eqv.eq_def];simp
 |.tuple a,.int b=>fun _ _=>by rw[PyData.eqv.eq_def];simp
 |.tuple xs,.tuple c=>fun h k=>by
  unfold eP at h k;rw[PyData.eqv.eq_def];have:=aGd xs c h k;simpa using this
 |.none,_=>fun h _=>by unfold eP at h;cases h
 |.bool _,_=>fun h _=>by unfold eP at h;cases h
 |.str _,_=>fun h _=>by unfold eP at h;cases h
 |.list _,_=>fun h _=>by unfold eP at h;cases h
 |.dict _,_=>fun h _=>by unfold eP at h;cases h
 |.int _,.none=>fun _ h=>by unfold eP at h;cases h
 |.int _,.bool _=>fun _ h=>by unfold eP at h;cases h
 |.int _,.str _=>fun _ h=>by unfold eP at h;cases h
 |.int _,.list _=>fun _ h=>by unfold eP at h;cases h
 |.int _,.dict _=>fun _ h=>by unfold eP at h;cases h
 |.tuple _,.none=>fun _ h=>by unfold eP at h;cases h
 |.tuple _,.bool _=>fun _ h=>by unfold eP at h;cases h
 |.tuple _,.str _=>fun _ h=>by unfold eP at h;cases h
 |.tuple _,.list _=>fun _ h=>by unfold eP at h;cases h
 |.tuple _,.dict _=>fun _ h=>by unfold eP at h;cases h
theorem aGd:∀(xs c:T4),dX xs=true->dX c=true->(PyData.eqvAll xs c=true↔xs=c)
 |[],[]=>fun _ _=>by rw[A1c];simp
 |[],_::_=>fun _ _=>by rw[A1c];simp
 |_::_,[]=>fun _ _=>by rw[A1c];simp
 |x::xs,y::c=>fun h k=>by
  unfold dX at h k;rw[B8]at h k;rw[A1c];show(PyData.eqv x y&&PyData.eqvAll xs c)=true↔_;rw[B8,HM x y h.1 k.1,aGd xs c h.2 k.2,List.cons.injEq]
end
theorem aAF:∀a b:T7,HT.lexLt a b=true->HT.lexLt b a=false
 |[],[]=>fun h=>by cases h
 |[],_::_=>fun _=>rfl
 |_::_,[]=>fun h=>by cases h
 |x::xs,y::c=>fun h=>by
  rw[HT.lexLt_cons]at h ⊢;by_cases e:x=y
  .rw[A4 e]at h;rw[A4 e.symm];exact aAF xs c h
  .rw[B0 e]at h;rw[B0 (O0 e)];have:=D7 h;exact C4 (by omega)
theorem aBq:∀a b c:T7,HT.lexLt b a=false->HT.lexLt c b=false->HT.lexLt c a=false
 |[],_,[]=>fun _ _=>rfl
 |[],_,_::_=>fun _ _=>rfl
 |x::xs,[],_=>fun h _=>by cases h
 |x::xs,y::f,[]=>fun _ h=>by cases h
 |x::xs,y::f,z::zs=>fun h k=>by
  rw[HT.lexLt_cons]at h k ⊢;by_cases e:y=x
  .rw[A4 e]at h;by_cases d:z=y
   .rw[A4 d]at k;rw[A4 (d.trans e)];exact aBq xs f zs h k
   .rw[B0 d]at k;subst e;rw[B0 d];exact k
  .rw[B0 e]at h;have h:=O9 h;by_cases d:z=y
   .subst d;rw[B0 e];exact C4 h
   .rw[B0 d]at k;have k:=O9 k;rw[B0 (by omega)];exact C4 (by omega)
theorem aCs:∀a b:T7,HT.lexLt a b=false->HT.lexLt b a=false->a=b
 |[],[]=>fun _ _=>rfl
 |[],_::_=>fun h _=>by cases h
 |_::_,[]=>fun _ h=>by cases h
 |x::xs,y::c=>fun h k=>by
  rw[HT.lexLt_cons]at h k;by_cases e:x=y
  .rw[A4 e]at h;rw[A4 e.symm]at k;rw[e,aCs xs c h k]
  .rw[B0 e]at h;rw[B0 (O0 e)]at k;have h:=O9 h;have k:=O9 k;omega
def XM:∀{xs ys:T4}{a:T7},nD xs=Z a->nD ys=Z a->xs=ys:=by
 have go:∀{xs:T4}{a:T7},nD xs=Z a->xs=a.map .int:=by
  intro xs
  induction xs with
  |nil=>intro a h;cases h;rfl
  |cons d ds ih=>
   intro a h;cases d with
   |int n=>
    have h:(nD ds).bind (fun a=>Z (n::a))=Z a:=h;obtain⟨ms,b,c⟩:=Option.bind_eq_some_iff.mp h;cases c;rw[ih b];rfl
   |_=>cases h
 intro xs ys a h k;rw[go h,go k]
def tJ{c:Bool}(h:eS x y=Z c):(∃a b,x=.int a/\y=.int b/\c=decide (a<b))\/∃xs ys d ms,x=.tuple xs/\y=.tuple ys/\nD xs=Z d/\nD ys=Z ms/\c=HT.lexLt d ms:=by
 unfold eS at h;split at h
 .cases h;exact .inl ⟨_,_,rfl,rfl,rfl⟩
 .obtain⟨d,e,h⟩:=Option.bind_eq_some_iff.mp h;obtain⟨ms,f,h⟩:=Option.bind_eq_some_iff.mp h;cases h;exact .inr ⟨_,_,_,_,rfl,rfl,e,f,rfl⟩
 .cases h
def JN{c:Bool}(h:eS x y=Z c):∃d,eS y x=Z d/\(c=true->d=false)/\(c=false->d=false->x=y):=by
 rcases tJ h with⟨a,b,rfl,rfl,rfl⟩|⟨xs,i,j,ms,rfl,rfl,f,g,rfl⟩
 .refine⟨decide (b<a),rfl,fun z=>C4 (by have:=D7 z;omega),fun z e=>?_⟩;have z:=O9 z;have e:=O9 e;rw[show a=b by omega]
 .refine⟨HT.lexLt ms j,?_,fun z=>aAF _ _ z,fun z e=>?_⟩
  .show(nD i).bind _=_;rw[g];show(nD xs).bind _=_;rw[f];rfl
  .have:=aCs _ _ z e;subst this;rw[XM f g]
def aDr(h:eS y x=Z false)(k:eS z y=Z false):eS z x=Z false:=by
 rcases tJ h with⟨a,b,rfl,rfl,g⟩|⟨xs,j,r,ms,rfl,rfl,l,m,g⟩
 .rcases tJ k with⟨c,d,rfl,e,f⟩|⟨_,_,_,_,_,e,_⟩
  .cases e;have g:=O9 g.symm;have f:=O9 f.symm;show Z (decide (c<b))=Z false;rw[C4 (by omega)]
  .cases e
 .rcases tJ k with⟨c,d,rfl,e,f⟩|⟨zs,n,o,p,rfl,e,q,i,f⟩
  .cases e
  .cases e;rw[l]at i;cases i;have:=aBq _ _ _ g.symm f.symm;show(nD zs).bind _=_;rw[q];show(nD j).bind _=_;rw[m];show Z _=Z false;rw[this]
theorem aBM:∀a b:T4,dX a=true->dX b=true->dF a b=Z true->dF b a=Z false
 |[],[]=>fun _ _ h=>by cases h
 |[],_::_=>fun _ _ _=>rfl
 |_::_,[]=>fun _ _ h=>by cases h
 |x::xs,y::c=>fun p q h=>by
  unfold dX at p q;rw[B8]at p q;have h:(if PyData.eqv x y=true then dF xs c else eS x y)=Z true:=h;show(if PyData.eqv y x=true then dF c xs else eS y x)=Z false;by_cases e:PyData.eqv x y=true
  .rw[A4 e]at h;have f:=(HM x y p.1 q.1).mp e;rw[A4 ((HM y x q.1 p.1).mpr f.symm)];exact aBM xs c p.2 q.2 h
  .rw[B0 e]at h;rw[B0 fun z=>e<|(HM x y p.1 q.1).mpr ((HM y x q.1 p.1).mp z).symm];obtain⟨d,g,i,_⟩:=JN h;rw[g,i rfl]
theorem aBm:∀a b c:T4,dX a=true->dX b=true->dX c=true->dF b a=Z false->dF c b=Z false->dF c a=Z false
 |[],_,[]=>fun _ _ _ _ _=>rfl
 |[],_,_::_=>fun _ _ _ _ _=>rfl
 |x::xs,[],_=>fun _ _ _ h _=>by cases h
 |x::xs,y::j,[]=>fun _ _ _ _ h=>by cases h
 |x::xs,y::j,z::zs=>fun p q r h k=>by
  unfold dX at p q r;rw[B8]at p q r;have g:(if PyData.eqv y x=true then dF j xs else eS y x)=Z false:=h;clear h;have f:(if PyData.eqv z y=true then dF zs j else eS z y)=Z false:=k;clear k;show(if PyData.eqv z x=true then dF zs xs else eS z x)=Z false;by_cases e:PyData.eqv y x=true
  .rw[A4 e]at g;have l:=(HM y x q.1 p.1).mp e;subst l;by_cases i:PyData.eqv z y=true
   .rw[A4 i]at f ⊢;exact aBm xs j zs p.2 q.2 r.2 g f
   .rw[B0 i]at f ⊢;exact f
  .rw[B0 e]at g;by_cases i:PyData.eqv z y=true
   .have l:=(HM z y r.1 q.1).mp i;subst l;rw[B0 e];exact g
   .rw[B0 i]at f
    have m:¬PyData.eqv z x=true:=fun w=>by
     have w:=(HM z x r.1 p.1).mp w;subst w;obtain⟨d,n,_,o⟩:=JN g;rw[n]at f;cases f;exact e<|(HM y z q.1 p.1).mpr (o rfl rfl)
    rw[B0 m];exact aDr g f
def ZC(h:sortable rows=true):vH (iC rows):=by
 obtain⟨o,p,l,q,m⟩:=mY h
 have f:∀i,dX (rows.getD i [])=true:=fun i=>by
  rw[C3];cases e:rows[i]? with
  |none=>rfl
  |some r=>exact(l r<|L8 e).2
 have g:∀i,¬i<rows.length->rows.getD i []=[]:=fun i hi=>by
  rw[C3,Z2 (by omega)];rfl
 have ans:∀i j,∃c,dF (rows.getD i []) (rows.getD j [])=Z c:=fun i j=>by
  by_cases hi:i<rows.length
  .by_cases k:j<rows.length
   .exact Option.isSome_iff_exists.mp<|m i j hi k
   .rw[g j k];cases rows.getD i []with
    |nil=>exact⟨_,rfl⟩
    |cons _ _=>exact⟨_,rfl⟩
  .rw[g i hi];exact⟨_,rfl⟩
 have is:∀i j c,iC rows i j=c->dF (rows.getD i []) (rows.getD j [])=Z c:=fun i j c e=>by
  obtain⟨d,hd⟩:=ans i j;unfold iC at e;rw[hd]at e ⊢;exact L5 Z e
 have un:∀i j c,dF (rows.getD i []) (rows.getD j [])=Z c->iC rows i j=c:=fun i j c e=>by
  unfold iC;rw[e];rfl
 exact⟨fun a b e=>un _ _ _<|aBM _ _ (f a) (f b)<|is _ _ _ e,fun a b c e n=>un _ _ _<|aBm _ _ _ (f a) (f b) (f c) (is _ _ _ e)<|is _ _ _ n⟩
def DP{rows:Tv (T4)}(h:sortable rows=true):iK (iC rows) (WW (iC rows)<|PySem.W.kas_sort rows.length) rows.length:=
 (KS.run<|aDV (ZC h) (by have:=(mY h).1;omega)).2
def TrS(h B:Heap)(e:Ub)(vs:Ti):Tf->Prop
 |none=>vs[1]?=Z .none
 |some fl=>∃T a ts,vs[1]?=Z (.ref T)/\B.get? T=Y/\T≠e/\h.get? T=Z a/\a.data=.fields ts/\ts[3]?=Z fl
def Tr(cf:Bool)(h B:Heap)(e:Ub)(c:Tx)(dx:Th)(st:Tf):Prop:=
 ∃a vs,h.get? e=Z a/\(a.cls=c/\a.dict=dx)/\a.data=.fields vs/\(1<vs.size/\(cxq cf c=true->vs[2]?=Z .none))/\TrS h B e vs st
structure Fly(cf:Bool)(B:Heap)(l:Tv Env)(e:Ub)(c:Tx)(dx:Th)(st:Tf)(h:Heap):Prop where
 stays:B.StaysIn h
 new:B.get? e=Y
 frames:h.FunFrames B l
 tr:Tr cf h B e c dx st
def Fly.obj{B:Heap}{st:Tf}(F:Fly cf B l e c dx st h):∃a vs,h.get? e=Z a/\a.cls=c/\a.dict=dx/\a.data=.fields vs/\(DN c=true->vs[2]?=Z .none):=by
 obtain⟨a,vs,d,b,f,g,_⟩:=F.tr;exact⟨a,vs,d,b.1,b.2,f,fun n=>g.2<|aJN n⟩
def Fly.weak{f:Bool}{B:Heap}{st:Tf}(F:Fly cf B l e c dx st h)(w:f=true->cf=true):Fly f B l e c dx st h:=by
 obtain⟨a,b,d,i,vs,j,k,m,g,n⟩:=F;refine⟨a,b,d,i,vs,j,k,m,⟨g.1,fun z=>g.2 ?_⟩,n⟩;cases f with
 |false=>cases cf<;>simp_all [cxq]
 |true=>rw[w rfl];exact z
def SH(o:Obj)(f:Ti->Ti):(o.mapFields f).dict=o.dict:=by
 obtain⟨c,d,dt,sl⟩:=o;cases dt<;>rfl
section
variable{cf:Bool}{M:Model}{A:Ue}{E:T0}{s:Ua}{B:Heap}{env:Env}{outer l:Tv Env}{L e:Ub}{c:Tx}{dx:Th}{st:Tf}{Q:Unit->Ua->Prop}
def jD{h:Heap}{a b:Ub}{o d:Obj}(ha:h.get? a=Z d)(hd:d.data=.fields vs)(f:h.get? b=Z o)(hn:∀ws,o.data≠.fields ws):b≠a:=by grind
def LX{h:Obj}(x:A.frames=Z (env::outer))(J:env.frame=Z L)(stays:B.StaysIn s.heap)(new:B.get? e=Y)(fr:s.heap.FunFrames B (env::outer))
 (u:s.heap.get? e=Z h) (F:h.cls=c/\h.dict=dx) (i:h.data=.fields vs) (v:1<vs.size/\(cxq cf c=true->vs[2]?=Z .none))
 (q:∀h',Fly cf B (env::outer) e c dx (Z<|rawInt L) h'->s.heap.UpToSlots h'->Q () { s with heap:=h' }):
 wpAny M A (do let a <- frameOf env;let j <- entryPlaceOf L nx;let b <- EntryCells.newEntry hd a .none (rawInt L) .none j;setField (.ref e) 1 b) Q E s:=by
 have k:e∉(env::outer).filterMap (·.frame):=fun hm=>by
  obtain⟨_,o,N,f⟩:=fr.mem hm;exact jD u i N f rfl
 refine A0 (wpAny_frameOf_fun x fr J fun g w=>A0 (wpAny_entryPlaceOf fun j y=>?_));unfold EntryCells.newEntry newFields;refine A0<|I0 ?_<|y.sizeOk5 _ _ _ _ _;generalize m:({ cls:=.type "traceback",dict:=Y,data:=.fields ([hd,Value.ref L,.none,rawInt L,.none]++(if j.isEmpty then List.replicate 6 Value.none else j)).toArray }:Obj)=p;have C:p.data=.fields ([hd,Value.ref L,.none,rawInt L,.none]++(if j.isEmpty then List.replicate 6 Value.none else j)).toArray:=by rw[<- m]
 have G:g.get? e=Z h:=(w.2.1 e k).trans u;have r:B.StaysIn g:=fun b o d=>(w.2.1 b fun hm=>by rw[(fr.mem hm).1]at d;cases d).trans (stays b o d);have I:(g.push p).get? e=Z h:=A2 p G;refine Z0 I i v.1<|q _ ?_ ?_
 all_goals
  have t:g.objs.size≠e:=A0n<|B3 G;have O:=S3 (Obj.mapFields (·.setIfInBounds 1 (Value.ref g.objs.size))) I<|A0w<|U0 i _
  have kp:∀b o,b≠e->g.get? b=Z o->((g.push p).update e (Obj.mapFields (·.setIfInBounds 1 (Value.ref g.objs.size)))).get? b=Z o:=fun b o D d=>by
   rw[O8 _ _ (O0 D)];exact A2 _ d
 .refine⟨fun b o d=>kp b o (fun z=>by rw[z,new]at d;cases d)<|r b o d,new,fr.of_keeps fun b o d f=>?_,?_⟩
  .obtain⟨sl,hs⟩:=w.2.2 b o d;exact⟨_,kp b _ (jD u i d f) hs,rfl⟩
  .refine⟨_,_,O,⟨(Obj.cls_mapFields _ _).trans F.1,(SH _ _).trans F.2⟩,U0 i _,⟨by simpa using v.1,fun n=>by rw[Array.getElem?_setIfInBounds_ne (by decide)];exact v.2 n⟩,g.objs.size,p,_,by simp[v.1],r.fresh,t,?_,C,by simp⟩;rw[O8 _ _ (O0 t)];exact C6 g (by rw[<- m];rfl)
 .intro b o d f;obtain⟨sl,hs⟩:=w.2.2 b o d;exact⟨sl,kp b _ (jD u i d f) hs⟩
def zY(f:A.frames=Z (env::outer))(i:env.frame=Z L)(F:Fly cf B (env::outer) e c dx st s.heap)(j:st=Y\/st=Z .none\/st=Z (rawInt L))
 (q:∀h',Fly cf B (env::outer) e c dx (Z<|rawInt L) h'->s.heap.UpToSlots h'->Q () { s with heap:=h' }):wpAny M A (noteFrame (.ref e) env) Q E s:=by
 obtain⟨r,vs,g,k,h,m,ht⟩:=id F.tr;unfold noteFrame;simp only[i];rcases j with rfl|rfl|rfl
 .refine A0<|E1 g h (show vs[1]?=Z .none from ht) ?_;rw[B0 (by decide)];exact LX f i F.stays F.new F.frames g k h m q
 .obtain⟨T,n,ts,t1,t2,t3,t4,t5,t6⟩:=ht;refine A0<|E1 g h t1 ?_;rw[A4 (show(Value.ref T != Value.none)=true from by simp)];refine A0<|E1 t4 t5 t6 ?_;rw[B0 (show ¬((Value.none==rawInt L)=true)from by simp[rawInt])];refine A0<|Z0 t4 t5 (Array.getElem?_eq_some_iff.mp t6).1 ?_;have oth:∀b,b≠T->(s.heap.update T (Obj.mapFields (·.setIfInBounds 3 Value.none))).get? b=s.heap.get? b:=fun b a=>O8 _ _ (O0 a)
  refine LX (s:={ s with heap:=s.heap.update T (Obj.mapFields (·.setIfInBounds 3 Value.none)) }) f i (fun b o a=>(oth b fun z=>by rw[z,t2]at a;cases a).trans (F.stays b o a)) F.new
   (F.frames.of_keeps fun b o a d=>⟨o,(oth b<|jD t4 t5 a d).trans a,rfl⟩) ((oth e<|O0 t3).trans g) k h m fun h' p u=>q h' p fun b o a d=>u b o ((oth b<|jD t4 t5 a d).trans a) d
 .obtain⟨T,n,ts,t1,t2,t3,t4,t5,t6⟩:=ht;refine A0<|E1 g h t1 ?_;rw[A4 (show(Value.ref T != Value.none)=true from by simp)];refine A0<|E1 t4 t5 t6 ?_;rw[A4 (show(rawInt L==rawInt L)=true from by simp)];exact B2<|q _ F (.refl _)
def tL{fl:Tx}{fo:Th}(F:Fly cf B l e c dx (Z fl) s.heap)
 (q:∀h',Fly cf B l e c dx (Z (fo.elim .none fun f=>rawInt f)) h'->s.heap.UpToSlots h'->Q () { s with heap:=h' }):wpAny M A (setFlight (.ref e) fo) Q E s:=by
 obtain⟨j,vs,g,k,h,m,T,n,ts,t1,t2,t3,t4,t5,t6⟩:=id F.tr;have i:3<ts.size:=(Array.getElem?_eq_some_iff.mp t6).1;unfold setFlight;refine A0<|E1 g h t1 ?_;rw[A4 (show(Value.ref T != Value.none)=true from by simp)];have oth:∀b,b≠T->(s.heap.update T (Obj.mapFields (·.setIfInBounds 3 (fo.elim .none fun f=>rawInt f)))).get? b=s.heap.get? b:=fun b a=>O8 _ _<|O0 a
 refine Z0 t4 t5 i (q _ ⟨fun b o a=>(oth b fun z=>by rw[z,t2]at a;cases a).trans (F.stays b o a),F.new,F.frames.of_keeps fun b o a d=>⟨o,(oth b<|jD t4 t5 a d).trans a,rfl⟩,
  j,vs,(oth e (O0 t3)).trans g,k,h,m,T,_,_,t1,t2,t3,S3 _ t4 (A0w (U0 t5 _)),U0 t5 _,by simp[i]⟩
  fun b o a d=>⟨o.slots,(oth b (jD t4 t5 a d)).trans a⟩)
def aCN(f:A.frames=Z (env::outer))(h:env.frame=Z L)(F:Fly cf B (env::outer) e c dx st s.heap)(g:st=Y\/st=Z .none\/st=Z (rawInt L))
 (q:∀h',Fly cf B outer e c dx (Z .none) h'->s.heap.UpToSlots h'->Q () { s with heap:=h' }):wpAny M A (leaving env (.ref e)) Q E s:=by
 unfold leaving;refine A0 (zY f h F g fun k F1 u1=>tL (fo:=Y) F1 fun i F2 j=>?_);obtain⟨a,b,⟨_,_,c'⟩,d⟩:=F2;exact q i ⟨a,b,c',d⟩<|u1.trans j
def aDL{X:T0}(a:A.frames=Z (env::outer))(d:env.frame=Z L)(F:Fly cf B (env::outer) e c dx st s.heap)(b:st=Y\/st=Z .none\/st=Z (rawInt L))
 (q:∀h',Fly cf B (env::outer) e c dx (Z<|rawInt L) h'->s.heap.UpToSlots h'->X (.ref e) { s with heap:=h' }):notedBy M A env (cameBackBy M A env X) (.ref e) s:=by
 unfold notedBy;refine zY a d F b fun f F1 u1=>?_;unfold cameBackBy;obtain⟨k,vs,g,m,h,n,T,o,ts,t1,t2,t3,t4,t5,t6⟩:=id F1.tr;refine A0<|E1 g h t1 ?_;rw[B0 (show ¬((Value.ref T==Value.none)=true)from by simp),d];exact tL (s:={ s with heap:=f }) (fo:=Z L) F1 fun i F2 j=>q i F2<|u1.trans j
end
structure Body(X:Cx):Prop where
 stk:X.stack=X.env::X.outer
 fr:X.env.frame=Z X.env.locals
 ex:X.ex=[]
structure Kp(X:Cx)(H:Hp)(B h:Heap):Prop where
 trk:∀b u o,H b=Z u->h.get? b=Z o->B.get? b=Z o
 ent:∀b o,X.s₀.heap.get? b=Z o->b∉X.fs->(∃o',B.get? b=Z o')/\(X.H₀ b=Y->B.get? b=Z o)
 pin:∀p∈X.pn,B.get? p.1=Z p.2
section
variable{X:Cx}{pins:T2}{σ:St}{H:Hp}{s:Ua}{B h':Heap}
def Inv.up(I:Inv X [] σ H s)(b:Body X)(k:Kp X H B s.heap)(stays:B.StaysIn h')(u:s.heap.UpToSlots h'):Inv X [] σ H { s with heap:=h' }/\Kp X H B h':=by
 have tr:=fun a v o e q=>stays a o<|k.trk a v o e q
 have cell:∀c v,s.heap.IsCell c v->h'.IsCell c v:=fun c v ⟨o,D,hd⟩=>by
  obtain⟨sl,q⟩:=u c o D fun vs z=>by rw[hd]at z;cases z
  exact⟨_,q,hd⟩
 have f:∀a∈X.fs,∀o,s.heap.get? a=Z o->∃sl,h'.get? a=Z { o with slots:=sl }:=fun a ha o e=>by
  obtain⟨_,j,A,hn⟩:=I.funs.mem ha;rw[e]at A;cases A;exact u a o e hn
 refine⟨⟨I.ok,I.os,I.bare,⟨fun a o e n ha hx=>?_,fun a o e n ha hx=>?_,I.base.free,fun a o e hx=>?_,I.base.tups,I.base.frzs,I.base.tbls⟩,?_,fun x c e=>?_,I.free,I.freeC,fun p t=>?_,fun a v e=>?_,I.len⟩,⟨fun a v o e q=>?_,k.ent,k.pin⟩⟩
 .exact stays a o<|(k.ent a o e ha).2 n
 .obtain⟨sl,g⟩:=I.base.slot a o e n ha hx;obtain⟨y,h⟩:=f a ha _ g;exact⟨y,h⟩
 .by_cases ha:a∈X.fs
  .obtain⟨j,g⟩:=I.base.there a o e hx;obtain⟨sl,h⟩:=f a ha j g;exact⟨_,h⟩
  .obtain⟨⟨o',q⟩,_⟩:=k.ent a o e ha;exact⟨o',stays a o' q⟩
 .obtain⟨m,hn,E⟩:=I.loc;refine⟨m,u.ns hn,fun i x v g h F=>?_⟩;obtain⟨G,r,l⟩:=E i x v g h F;refine⟨G,r,?_⟩;rcases l with l|⟨J,c,e,z⟩
  .exact .inl l
  .exact .inr ⟨J,c,e,cell c _ z⟩
 .obtain⟨v,z⟩:=I.cell x c e;exact⟨v,cell c v z⟩
 .rw[C8]at t;obtain⟨_,n,L,M,d⟩:=I.pin p<|C1 _ t;exact⟨stays _ _<|k.pin p t,n,L,M,d⟩
 .exact(I.hok a v e).stay (fun c w hc q=>by
   rcases hc with rfl|hc
   .exact tr c v w e q
   .exact tr c _ w hc q) (fun _ q=>q) fun _ _ q=>q
 .obtain⟨j,C⟩:=(I.hok a v e).there;have:=tr a v j e C;rw[q]at this;cases this;exact k.trk a v o e C
def XS(X:Cx)(EE:St->XK)(ev:Tx)(s:Ua):Prop:=
 ∃e c dx st σ H B,ev=.ref e/\Inv X [] σ H s/\Kp X H B s.heap/\Fly X.calm B X.stack e c dx st s.heap/\(st=Y\/st=Z .none\/st=Z (rawInt X.env.locals))/\EE σ c dx H
def XS.unwish(h:XS (X.wish E) EE ev s):XS X EE ev s:=by
 obtain⟨e,c,dx,st,σ,H,B,b,I,k,F,a,q⟩:=h;exact⟨e,c,dx,st,σ,H,B,b,I.unwish,⟨k.trk,k.ent,k.pin⟩,F,a,q⟩
def CX1(P:Ud)(w:World)(cf:Bool:=true):CXT:=fun outer H s E ev a=>∃e c dx H' B,ev=.ref e/\a.os=s.os/\AllBare a.gens/\Un (frs outer) [] H H' s.heap a.heap/\HOk P w H' a.heap/\Fly cf B outer e c dx (Z .none) a.heap /\
 (∀b u o,H' b=Z u->a.heap.get? b=Z o->B.get? b=Z o)/\(∀b o,s.heap.get? b=Z o->b∉frs outer->(∃o',B.get? b=Z o')/\(H b=Y->B.get? b=Z o))/\E c dx H'
def Inv.entry(I:Inv X pins σ H s)(bd:Body X){b:Ub}{o:Obj}(e:X.s₀.heap.get? b=Z o)(a:b∉X.fs):b∉frs X.stack/\(∃c,s.heap.get? b=Z c)/\(X.H₀ b=Y->s.heap.get? b=Z o/\H b=Y):=by
 have nx:b∉X.ex:=by rw[bd.ex];simp
 refine⟨fun z=>?_,I.base.there b o e nx,fun n=>⟨I.base.keep b o e n a nx,I.base.free b o e n nx⟩⟩;rcases List.mem_cons.mp (I.stkSub b z)with q|q
 .exact absurd (q▸B6 (B3 e) I.ok.above)<|E3 _
 .exact a q
def YN{EE:St->XK}(bd:Body X)(I:Inv X pins σ H s)(h:CX1 X.prog X.w cf X.stack H s (EE σ) ev d)(i:X.calm=true->cf=true:=by intro _;rfl):XS X EE ev d:=by
 obtain⟨e,c,dx,H',B,rfl,os,bare,un,hok,F,trk,ent,q⟩:=h;have j:Inv X pins σ H' d:=I.call' os un hok bare fun b z=>absurd z (by simp);refine⟨e,c,dx,Z .none,σ,H',B,rfl,j.pins_of fun p f=>absurd f (by simp),⟨trk,fun b o e k=>?_,fun p f=>?_⟩,F.weak i,.inr (.inl rfl),q⟩
 .obtain⟨a,⟨l,m⟩,g⟩:=I.entry bd e k;exact⟨(ent b l m a).1,fun n=>(ent b o (g n).1 a).2 (g n).2⟩
 .obtain⟨a,n,r,t,_⟩:=I.pin p<|C1 _ f;exact(ent p.1 p.2 a fun z=>(List.mem_cons.mp<|I.stkSub p.1 z).elim r t).2 n
def ZH{EE:St->XK}{e:Ub}{d:Obj}(bd:Body X)(I:Inv X pins σ H s)(i:s.heap.get? e=Z d)(hn:H e=Y)(r:X.s₀.heap.get? e=Y)(hp:∀p∈X.pn,p.1≠e)(j:d.data=.fields vs)(t:1<vs.size)(c:vs[1]?=Z .none)(f:cxq X.calm d.cls=true->vs[2]?=Z .none)
 (q:EE σ d.cls d.dict H):XS X EE (.ref e) s:=by
 have k:e∉frs X.stack:=fun hm=>by
  obtain⟨_,o,v,h⟩:=I.stack.mem hm;exact jD i j v h rfl
 have get:∀b o,b≠e->b∉frs X.stack->s.heap.get? b=Z o->(PySem.W.hideAll s.heap (e::frs X.stack)).get? b=Z o:=fun b o c f w=>PySem.W.hideAll_get _ w fun hm=>(List.mem_cons.mp hm).elim c f;refine⟨e,d.cls,d.dict,Y,σ,H,PySem.W.hideAll s.heap (e::frs X.stack),rfl,I.pins_of fun p hp=>absurd hp (by simp),⟨fun b u o c f=>?_,fun b o c f=>?_,fun p c=>?_⟩,⟨fun b o c=>PySem.W.of_hideAll _ c,PySem.W.hideAll_none _ A9,?_,d,vs,i,⟨rfl,rfl⟩,j,⟨t,f⟩,c⟩,.inl rfl,q⟩
 .exact get b o (aO c hn) (fun z=>by rw[I.stkFree b z]at c;cases c) f
 .obtain⟨l,⟨m,x⟩,y⟩:=I.entry bd c f;have g:b≠e:=fun z=>by rw[z,r]at c;cases c
  exact⟨⟨m,get b m g l x⟩,fun n=>get b o g l (y n).1⟩
 .obtain⟨A,n,g,k,_⟩:=I.pin p<|C1 _ c;exact get p.1 p.2 (hp p c) (fun z=>(List.mem_cons.mp<|I.stkSub p.1 z).elim g k) A
 .exact PySem.W.funFrames_hide I.stack fun env hm a ha=>A8 _<|List.mem_filterMap.mpr ⟨env,hm,ha⟩
def aBH(bd:Body X):PassesOwn (model X.prog X.w) X.A X.env (XS X EE):=by
 rintro ev s ⟨e,c,dx,st,σ,H,B,rfl,I,k,F,a,q⟩;have b:=I.ok.frames;rw[bd.stk]at b F;refine aDL b bd.fr F a fun h' d u=>?_;obtain⟨f,g⟩:=I.up bd k d.stays u;exact⟨e,c,dx,_,σ,H,B,rfl,f,g,by rw[bd.stk];exact d,.inr (.inr rfl),q⟩
end
section
variable{P:Ud}{w:World}{K:Fg}{mg:Str->Tf}{base:Heap}{N:Tb}{qual:Str}{scope:Scope}{f:Ub}{cd:Tx}{A:Ue}{outer:Tv Env}{s:Ua}{H:Hp}{E:XK}{CX:CXT}
def HF:Body (jG CX P w K mg base N qual scope f cd A outer s H E cf):=⟨rfl,rfl,rfl⟩
def Body.wish(b:Body X)(E:T0):Body (X.wish E):=⟨b.stk,b.fr,b.ex⟩
def NK{ev:Tx}(h:XS (jG (CX1 P w cf) P w K mg base N qual scope f cd A outer s H E cf) (fun _=>E) ev d):(jG (CX1 P w cf) P w K mg base N qual scope f cd A outer s H E cf).xe ev d:=by
 obtain⟨e,c,dx,st,σ,H',B,rfl,I,k,F,b,q⟩:=h;refine aCN (c:=c) (dx:=dx) (st:=st) (B:=B) (outer:=outer) (L:=s.heap.objs.size) I.ok.frames rfl F b fun h' g u=>?_;obtain⟨a,i⟩:=I.up HF k g.stays u;exact⟨e,c,dx,H',B,rfl,a.os,a.bare,a.base,a.hok,g,i.trk,i.ent,q⟩
def aIR{kV doc oc:Tx}{od:Th}
 {osl:Array (Tf)} {sp:Sp} (g:K.lookup f=Z ⟨oc,od,.func (PySem.W.fnOf name qual a b scope e kV doc pm an cdv ct),osl⟩) (d:PySem.W.codeIn K cdv qual=true) (S:aR N ps scope)
 (len:∀vs H Q E,sp vs H Q E->vs.length=ps.length)
 (c:∀(A:Ue)(outer:Tv Env)(s:Ua)(H:Hp)(vs:Tc)(Q:VK)(E:XK),cG k (A.deeper<|envOfC qual scope s.heap.objs.size f cdv)->sp vs H Q E->
  ∃t,PSs ((jG (CX1 P w) P w K mg base N qual scope f cdv A outer s H E).wish (XS (jG (CX1 P w) P w K mg base N qual scope f cdv A outer s H E) fun _=>E)) b t/\t { nx:=fun _ H'=>Q .non H',rt:=Q } (start N vs) H):
 pO P w K mg base (CX1 P w) (k+1) f (PySem.W.fnOf name qual a b scope e kV doc pm an cdv ct) ps sp:=
 aFM g d S len fun A outer s H vs Q E i h=>by
  obtain⟨t,ht,j⟩:=c A outer s H vs Q E i h;exact⟨t,fun pins l σ H' D I m=>E2 (ht pins l σ H' D (I.wish _) m) (fun _ _ q=>q.unwish) fun _ _ z=>NK z,j⟩
end
structure aCl(K:Fg)(C:Ub):Prop where
 ga:PySem.W.findIn K (.ref C) "__getattribute__"=Z (Z (.builtin "BaseException.__getattribute__"))
 gh:PySem.W.findIn K (.ref C) "__getattr__"=Z Y
 be:PySem.W.subIn K (.ref C) (.type "BaseException")=Z true
 cl:(PySem.W.clsIn K C).isSome=true
section
variable{prog:Ud}{w:World}{A:Ue}{E:T0}{s:Ua}{K:Fg}{x C:Ub}{ox:Obj}{od:Tw Obj}{name:Str}
def JD{Q:T0}(X:K.In s.heap)(I:PySem.W.InstAt s.heap x ox C od)(c:aCl K C)
 (h:wpAny (model prog w) A.in1 (Builtin.«object.__getattribute__» ⟨[.ref x,.str name k],[]⟩)
  (fun a i=>match a with|.done (.ret v)=>Q v i|.done _=>False|.again c'=>c'.quiet=true/\codeAny (model prog w) A c' (fun r i=>match r with|.ok (.ret v)=>Q v i|.ok _=>False|.error e=>E e i) i) E s):
 wpAny (model prog w) A (call (.builtin "BaseException.__getattribute__") [.ref x,.str name k]) Q E s:=by
 have l:=F.entry_bexc_ga;generalize Builtin.«object.__getattribute__»=b at l h;refine wpAny_call<|codeAny_call_builtin F.excAttr_ValueError.ga.plain l ?_;have o:builtinKind "BaseException.__getattribute__"=Z .slot:=by rfl
 have j:splitId "BaseException.__getattribute__"=Z ("BaseException","__getattribute__"):=by rfl
 have m:=I.type (M:=model prog w);have n:=PySem.W.looks_subIn (M:=model prog w) X c.be;obtain⟨p,g,d,t,os⟩:=s;refine A0 ?_;refine A0<|m.at<|n.at ?_
 repeat (first|assumption|wp_step)
 refine E2 h (fun a i z=>?_) fun _ _ z=>z;rcases a with(_|_|_|_)|c'
 .exact z
 .exact z
 .exact z
 .exact z
 .exact⟨z.1,A0u z.2 fun r i q=>by cases r with
   |error e=>exact q
   |ok f=>cases f<;>exact q⟩
def UW{fill:Bool}(X:K.In s.heap)(I:PySem.W.InstAt s.heap x ox C od)(c:aCl K C)
 (h:wpAny (model prog w) A.in1 (Builtin.«object.__getattribute__» ⟨[.ref x,.str name d],[]⟩)
  (fun a b=>match a with|.done (.ret v)=>wpAny (model prog w) A (handedOut v) Q E b|.done _=>False|.again c'=>c'.quiet=true/\codeAny (model prog w) A c' (fun r b=>match r with|.ok (.ret v)=>wpAny (model prog w) A (handedOut v) Q E b|_=>False) b) (fun _ _=>False) s):
 wpAny (model prog w) A (getAttrBy (.ref x) (.str name d) fill ex) Q E s:=by
 have g:=I.type (M:=model prog w);have i:=PySem.W.looks_findIn (M:=model prog w) X c.ga;have L2:=PySem.W.looks_findIn (M:=model prog w) X c.gh;refine E8<|A0<|g.here<|A0<|i.here ?_;have j:(Value.builtin "BaseException.__getattribute__"==Value.builtin "object.__getattribute__")=false:=by rfl
 have k:(onTheHeap (Value.ref C)&&Value.builtin "BaseException.__getattribute__"==Value.builtin "object.__getattribute__")=false:=by rfl
 refine A0<|L2.here<|A0<|A1b<|E8 ?_;unfold callGetattribute;rw[B0 (by cases ex<;>exact B5)];refine A0<|B2 ?_;refine E2 (JD (E:=fun _ _=>False) X I c ?_) (fun v b z=>z) fun _ _ z=>z.elim;refine E2 h (fun a b z=>?_) fun _ _ z=>z;rcases a with(_|_|_|_)|c'
 .exact z
 .exact z
 .exact z
 .exact z
 .exact⟨z.1,A0u z.2 fun r b q=>by cases r with
   |error e=>exact q
   |ok f=>cases f<;>exact q⟩
def XI{Q:Tf->Ua->Prop}(X:K.In s.heap)(I:PySem.W.InstAt s.heap x ox C od)(c:aCl K C)(ha:PySem.W.findIn K (.ref C) "__class__"=Z (Z (.builtin "object.__class__")))
 (hn:PySem.W.specialIn K (.builtin "object.__class__") "__get__"=Z (Z (.builtin "getset_descriptor.__get__"))) (htk:PySem.W.takesIn K (.builtin "object.__class__")=Z true) (hm:PySem.W.mroIn K C (.type "object")=Z true)
 (h:Q (Z (.ref C)) { s with toks:=s.toks+1 }):wpAny (model prog w) A (getAttr? (.ref x) "__class__") Q E s:=by
 have a:PySem.W.findObj K C od "__class__"=Z (.bind (.builtin "getset_descriptor.__get__") (.builtin "object.__class__")):=by
  obtain⟨i,b⟩:=Option.isSome_iff_exists.mp c.cl;unfold PySem.W.findObj;rw[b,A1,ha,A1];simp[hn,htk]
 refine A0<|wpAny_mkText<|A0<|A1b<|UW X I c ?_;obtain⟨j,g,d,t,os⟩:=s;have e:=I.type (M:=model prog w);have f:=PySem.W.looks_find (M:=model prog w) X I a;refine A0<|B2<|A0<|B2<|A0<|e.at<|A0<|f.at ?_;refine A0<|E8<|wpAny_call<|PySem.W.class_get X I hm ?_;refine B2 ?_;exact B2<|B2 h
def aAm(c:aCl K C)(ha:PySem.W.findIn K (.ref C) "__class__"=Z (Z (.builtin "object.__class__")))
 (hn:PySem.W.specialIn K (.builtin "object.__class__") "__get__"=Z (Z (.builtin "getset_descriptor.__get__"))) (htk:PySem.W.takesIn K (.builtin "object.__class__")=Z true) (hm:PySem.W.mroIn K C (.type "object")=Z true):
 PySem.W.KitX K (.ref x) (.ref C) (fun h=>∃ox od,PySem.W.InstAt h x ox C od) where
 ty:=fun _ _ _ ⟨_,_,I⟩=>I.type
 it:=fun _ _ X _=>by
  have hc:=c.cl;unfold PySem.W.clsIn at hc;split at hc
  .rename_i c' d' cd' sl' ho;intro A' Q' E' s' k q;exact A0<|wpAny_loadPart (k _ _<|X _ _ ho)<|B2 q
  .cases hc
 ne:=fun h tp dd its n sl X htp=>by
  have hc:=c.cl;refine Bool.eq_false_iff.mpr fun q=>?_;have e:=Value.ref.inj<|beq_iff_eq.mp q;subst e;unfold PySem.W.clsIn at hc;split at hc
  .rename_i c' d' cd' sl' ho;have z:=(X _ _ ho).symm.trans htp;cases z
  .cases hc
 ca:=fun X ⟨_,_,I⟩ k=>XI X I c ha hn htk hm k
end
section
variable{X:Cx}{pins:T2}{σ:St}{H:Hp}{s:Ua}
noncomputable def xN(sp:Sp)(EE:St->XK)(t:TA):TE:=fun σ H Q=>t σ H fun vs a=>sp vs a Q<|EE σ
structure jX(P:Ud)(w:World)(K:Fg)(mg:Str->Tf)(base:Heap)(k:Nat)(x:Str)(ps:Tb)(sp:Sp):Prop where
 ex:∃f fd,pO P w K mg base (CX1 P w) k f fd ps sp/\mg x=Z (.ref f)/\PySem.W.keepIn K (.ref f)=true/\Binds K fd ps []
structure XOk(X:Cx)(EE:St->XK):Prop where
 bd:Body X
 pass:∀ev s,XS X EE ev s->X.xe ev s
 own:PassesOwn (model X.prog X.w) X.A X.env X.xe
def XOk.of{X:Cx}(bd:Body X)(EE:St->XK):XOk (X.wish<|XS X EE) EE:=⟨bd.wish _,fun _ _ h=>h.unwish,aBH bd⟩
def aFB{EE:St->XK}(ok:XOk X EE)(F:pO X.prog X.w X.K X.mg X.base (CX1 X.prog X.w) k f fd ps sp)(c:cG k X.A)(d:Binds X.K fd ps [])
 (I:Inv X pins σ H s) (r:bG vs us) (h:sp vs H Q (EE σ)):wpAny (model X.prog X.w) X.A (call (.ref f) us) (EP X pins σ Q) X.xe s:=by
 have g:us.length=ps.length:=by rw[<- r.length];exact F.len _ _ _ _ h
 have b:=d s us I.kIn (by grind);rw[C8]at b;refine wpAny_call (A0u (F.run X.A X.stack s H ⟨us,[]⟩ us vs Q (EE σ) c I.env0 b r h) fun r i a=>?_);cases r with
 |error e=>exact ok.pass _ _<|YN ok.bd I a
 |ok fl=>
  cases fl with
  |ret u=>exact I.after a
  |next=>exact False.elim a
  |brk=>exact False.elim a
  |cont=>exact False.elim a
def aDt{EE:St->XK}{k:Nat}{x:Str}{ps:Tb}{sp:Sp}{p pos:Pos}{e:Uc}{es:T8}{t:TA}(ok:XOk X EE)(C:jX X.prog X.w X.K X.mg X.base k x ps sp)(g:cG k X.A)(ha:PA X (e::es) t)(i:Gl X x)
 (a:(x==("__debug__":Str))=false) (j:starEach (e::es) X.env=(false,eval e X.env)::starEach es X.env) (c:(backTo pos<|starEach es X.env).any (·.1)=false):
 PE X (.Call (.Name x p) (e::es) [] pos) (xN sp EE t):=by
 intro pins s σ H Q I h;obtain⟨f,fd,F,m,kp,b⟩:=C.ex;refine Z7<|qF I i m ?_ a;exact PySem.W.callWith_K I.ok.mod.kin kp (thn (ha pos pins s σ H _ I h) fun us s1 ⟨vs,l,d,r,q⟩=>⟨d.kIn,aFB ok F g b d r q⟩) j c
noncomputable abbrev bmV:T5:=[.type "ValueError",.type "Exception",.type "BaseException",.type "object"]
def SL(X:K.In h)(q:PySem.W.excIn K C a b=true):
 ∃bm N nm c bs hd sn sub ab col dd k0 k1 k2 k3 k5 mN,h.get? C=Z (excClassObj nm c C N bs bm hd sn sub ab col dd k0 k1 k2 k3 k5 b)/\h.Ns N mN/\mN "__init__"=Y/\OwnTail h a bm:=by
 unfold PySem.W.excIn at q;split at q
 case h_2=>cases q
 case h_1 dd e sl f=>
  split at q
  case h_2=>cases q
  case h_1 t bm k0 k1 k2 k3 n k5 hm hs=>
   simp only[Bool.and_eq_true,beq_iff_eq,Bool.not_eq_true']at q;obtain⟨⟨⟨⟨⟨g,i⟩,j⟩,k⟩,d⟩,m⟩:=q;subst g i;cases e with
   |mk nm bs o p c hd sn sub ab col r=>
    cases hm;cases j
    have es:sl=#[k0,k1,k2,k3,Z (.builtin n),k5]:=by
     cases sl with
     |mk l=>exact L5 Array.mk hs
    cases es;exact⟨bm,p,nm,c,bs,hd,sn,sub,ab,col,dd,k0,k1,k2,k3,k5,_,X _ _ f,.of_isNs (PySem.W.isNs_of_in X d),PySem.W.nsMap_none_of_in X d m,PySem.W.tail_of_in X k⟩
def wL(EE:St->XK)(C:Ub):TS:=fun _ σ H=>EE σ (.ref C) Y H
def VO{cpos:Pos}(ok:XOk X EE)(f:X.calm=true)(hm:X.mg x=Z (.ref C))(q:PySem.W.excIn X.K C bmV "ValueError.__new__"=true)(g:Gl X x)
 (a:(x==("__debug__":Str))=false):PS X (.Raise (Z (.Call (.Name x np) [] [] cpos)) Y pos) (wL EE C):=by
 intro pins s σ H D I h;obtain⟨bm,N,nm,i,bs,hd,sn,sub,ab,col,dd,k0,k1,k2,k3,k5,mN,j,k,l,b⟩:=SL I.kIn q
 refine wpAny_Raise_call_subT (C:=C) (nm:=nm) (q:=i) (N:=N) (bs:=bs) (bm:=bm) (hdct:=hd) (sn:=sn) (sub:=sub) (ab:=ab) (col:=col) (dd:=dd) (k0:=k0) (k1:=k1) (k2:=k2) (k3:=k3) (k5:=k5) (mN:=mN)
  F.excBase_ValueError (b.hasType F.excBase_ValueError.hasBase) (I.ok.hd f) rfl l (qF I g hm ⟨rfl,evalArgs_empty ⟨rfl,E7 _,j,k,b,fun h' e mk=>ok.pass _ _ ?_⟩⟩ a)
 obtain⟨t,m,_,_⟩:=mk.there;have n:Inv X pins σ H { s with heap:=h' }:=I.kept mk.keeps
 have hn:H e=Y:=by
  cases z:H e with
  |none=>rfl
  |some u=>
   obtain⟨o,c⟩:=(I.hok e u z).there;rw[mk.new]at c;cases c
 refine ZH ok.bd n m hn ?_ (fun p r z=>?_) rfl (show 1<6 by decide) rfl (fun _=>rfl) h
 .cases z:X.s₀.heap.get? e with
  |none=>rfl
  |some o=>
   obtain⟨v,d⟩:=I.base.there e o z (by rw[ok.bd.ex];simp);rw[mk.new]at d;cases d
 .have:=(I.pin p<|C1 _ r).1;rw[z,mk.new]at this;cases this
end
def hCx(X:Cx)(e:Ub):Cx:={ X with A:=X.A.mark<|Z (.ref e),calm:=false,xe:=fun _ _=>False }
noncomputable def mL(X:Cx)(pins:T2):Cx:={ X with pn:=X.pn++pins }
section
variable{X:Cx}{pins:T2}{σ:St}{H:Hp}{s:Ua}
def Inv.toH(I:Inv X pins σ H s)(e:Ub):Inv (hCx X e) pins σ H s:=
 ⟨⟨I.ok.mod,I.ok.kind,I.ok.glob,I.ok.blt,I.ok.above,I.ok.inj,I.ok.has,I.ok.cab,fun z=>(by cases z),I.ok.frames,I.ok.stk,I.ok.exf,I.ok.bs,I.ok.bsz,I.ok.noex,I.ok.exfs,I.ok.funs,I.ok.frf⟩,I.os,I.bare,I.base,I.loc,I.cell,I.free,I.freeC,I.pin,I.hok,I.len⟩
def Inv.ofH(I:Inv (hCx X e) pins σ H s)(ok:X.Ok):Inv X pins σ H s:=⟨ok,I.os,I.bare,I.base,I.loc,I.cell,I.free,I.freeC,I.pin,I.hok,I.len⟩
def Inv.toP(I:Inv X pins σ H s):Inv (mL X pins) [] σ H s:=
 ⟨⟨I.ok.mod,I.ok.kind,I.ok.glob,I.ok.blt,I.ok.above,I.ok.inj,I.ok.has,I.ok.cab,I.ok.hd,I.ok.frames,I.ok.stk,I.ok.exf,I.ok.bs,I.ok.bsz,I.ok.noex,I.ok.exfs,I.ok.funs,I.ok.frf⟩,I.os,I.bare,I.base,I.loc,I.cell,I.free,I.freeC,fun p a=>I.pin p (by rw[C8]at a;exact a),I.hok,I.len⟩
def Inv.ofP(I:Inv (mL X pins) [] σ H s)(ok:X.Ok):Inv X pins σ H s:=⟨ok,I.os,I.bare,I.base,I.loc,I.cell,I.free,I.freeC,fun p a=>I.pin p (by rw[C8];exact a),I.hok,I.len⟩
def Inv.track{e:Ub}{a:Obj}(I:Inv X pins σ H s)(f:s.heap.get? e=Z a)(g:a.data=.fields vs)(hn:H e=Y)(l:X.s₀.heap.get? e=Y)(hp:∀p∈X.pn++pins,p.1≠e)(hx:DN a.cls=true->vs[2]?=Z .none):
 Inv X pins σ (upd H e (.ext (AV e a.cls a.dict false))) s:=by
 have d:∀b u,H b=Z u->b≠e:=fun b u z=>aO z hn;refine⟨I.ok,I.os,I.bare,⟨I.base.keep,I.base.slot,fun b o q n hx=>?_,I.base.there,fun b xs q=>?_,fun b o u q=>?_,fun b ps q=>?_⟩,I.loc,I.cell,?_,fun x c q=>?_,fun p h=>?_,fun b u q=>?_,I.len⟩
 .rw[aN (fun z=>by rw[z,l]at q;cases q)];exact I.base.free b o q n hx
 .have:=I.base.tups b xs q;rw[aN (d _ _ this)];exact this
 .have:=I.base.frzs b o u q;rw[aN (d _ _ this)];exact this
 .obtain⟨more,this⟩:=I.base.tbls b ps q;exact⟨more,by rw[aN (d _ _ this)];exact this⟩
 .obtain⟨m,⟨o,es,ep,i,hd,_⟩,_⟩:=I.loc;rw[aN (jD f g i fun ws z=>by rw[hd]at z;cases z)];exact I.free
 .obtain⟨v,o,i,hd⟩:=I.cell x c q;rw[aN (jD f g i fun ws z=>by rw[hd]at z;cases z)];exact I.freeC x c q
 .obtain⟨r,t,w⟩:=I.pin p h;exact⟨r,by rw[aN (hp p h)];exact t,w⟩
 .by_cases j:b=e
  .subst j;rw[aW]at q;cases q;exact⟨⟨a,vs,f,rfl,rfl,g,(fun z=>by cases z),hx⟩,⟨a,f⟩,fun B C ⟨o,ws,y,A⟩ k=>⟨o,ws,k o y,A⟩⟩
  .rw[aN j]at q;exact(I.hok b u q).stay (fun _ _ _ z=>z) (fun c z=>by rw[aN (d _ _ z)];exact z) fun c xs z=>by rw[aN (d _ _ z)];exact z
def tF{i:Nat}{x:Str}{Q:Unit->Ua->Prop}(I:Inv X pins σ H s)(G:X.N.Nodup)(hi:X.N[i]?=Z x)(J:X.env.scope.names.lookup x=Z .local)
 (h:∀t,Inv X pins (σ.set i Y) H t->Heap.SameBut X.env.locals s.heap t.heap->Q () t):wpAny M A (do bindName X.env x .none;unbindBehindTheSuite X.env x pos) Q E s:=by
 obtain⟨m,hn,L⟩:=id I.loc;have g:(X.env.scope.kind==.class || (X.env.scope.kind==.module&&X.env.locals != X.env.globals))=false:=by rw[I.ok.kind];rfl
 have l:i<σ.length:=by rw[I.len];exact(List.getElem?_eq_some_iff.mp hi).1
 obtain⟨oL,_,_,O,_⟩:=id hn;refine wpAny_nameGoes_keeps J hn g fun h' v w hs=>h _ ?_ hs;have a:∀b o,X.s₀.heap.get? b=Z o->b≠X.env.locals:=fun b o q=>C2<|B6 (B3 q) I.ok.above;refine⟨I.ok,I.os,I.bare,⟨fun b o q n B hx=>(hs.2 b<|a b o q).trans (I.base.keep b o q n B hx),fun b o q n B hx=>?_,I.base.free,fun b o q hx=>?_,I.base.tups,I.base.frzs,I.base.tbls⟩,⟨_,w,fun j y P f r R=>?_⟩,fun y c q=>?_,I.free,I.freeC,fun p S=>?_,fun b u q=>?_,by simpa using I.len⟩
 .obtain⟨sl,f⟩:=I.base.slot b o q n B hx;exact⟨sl,(hs.2 b<|a b o q).trans f⟩
 .obtain⟨o',f⟩:=I.base.there b o q hx;exact⟨o',(hs.2 b<|a b o q).trans f⟩
 .have C:j≠i:=fun z=>by
   subst z;rw[O1 l]at r;cases r
  rw[S4 (O0 C)]at r;obtain⟨T,U,z⟩:=L j y P f r R;refine⟨T,U,?_⟩;rcases z with⟨k,e⟩|⟨k,c,e,z⟩
  .have:y≠x:=fun e=>C<|AU G f (e▸hi);exact .inl ⟨k,by simp[this,e]⟩
  .exact .inr ⟨k,c,e,z.sameBut hs<|I.cne y c e⟩
 .obtain⟨D,z⟩:=I.cell y c q;exact⟨D,z.sameBut hs<|I.cne y c q⟩
 .obtain⟨e,n,F,V,d⟩:=I.pin p S;exact⟨(hs.2 p.1 F).trans e,n,F,V,d⟩
 .refine(I.hok b u q).stay (fun c D hc z=>(hs.2 c ?_).trans z) (fun _ z=>z) fun _ _ z=>z;rintro rfl;rcases hc with rfl|hc
  .rw[I.free]at q;cases q
  .rw[I.free]at hc;cases hc
structure HR where
 c:Tx
 n:Tg
 t:TS
def unbN:Tg->St->St
 |none,σ=>σ
 |some i,σ=>σ.set i Y
def setN:Tg->St->V->St
 |none,σ,_=>σ
 |some i,σ,v=>σ.set i<|Z v
def aCq(D:Ends)(n:Tg):Ends:={ nx:=fun σ H=>D.nx (unbN n σ) H,rt:=D.rt,bk:=fun σ H=>D.bk (unbN n σ) H,ct:=fun σ H=>D.ct (unbN n σ) H }
def tHs(K:Fg)(D:Ends):Tv HR->St->XK
 |[],_,_,_,_=>False
 |h::r,σ,c,dx,H=>∃b,PySem.W.exmOne K c h.c=Z b/\(if b=true then ∀e,H e=Y->h.t (aCq D h.n) (setN h.n σ (.ref e)) (upd H e (.ext (AV e c dx false)))else tHs K D r σ c dx H)
def aBl(X:Cx)(hs:Tv ExceptHandler)(rs:Tv HR):Prop:=∀(pins:T2)(D:Ends)(e:Ub)(c:Tx)(dx:Th)(σ:St)(H:Hp)(s:Ua)(B:Heap)(E:T0),X.Ok->Inv (mL X pins) [] σ H s->Kp (mL X pins) H B s.heap->
 Fly X.calm B X.stack e c dx (Z .none) s.heap->tHs X.K D rs σ c dx H->wpAny (model X.prog X.w) X.A (handleBy (.ref e) X.env hs) (SP X pins D) E s
def aHx:aBl X [] []:=fun _ _ _ _ _ _ _ _ _ _ _ _ _ _ h=>h.elim
def JO(X:Cx)(x:Str)(c:Tx):Prop:=X.mg x=Z c\/(X.mg x=Y/\bootBuiltins x=Z c/\x≠"__name__")
def ZT{Q:T0}(n:JO X x c)(I:Inv X pins σ H s)(a:Gl X x)(hd:(x==("__debug__":Str))=false)(h:Q c s):
 wpAny (model X.prog X.w) X.A (eval (.Name x pos) X.env) Q E s:=by
 rcases n with m|⟨m,b,z⟩
 .exact qF I a m h hd
 .exact sJ I a m b h z hd
def Fly.fresh{B h:Heap}{st:_}(bd:Body X)(I:Inv X pins σ H s)(k:Kp X H B s.heap)(F:Fly cf B X.stack e c dx st s.heap):H e=Y/\X.s₀.heap.get? e=Y/\∀p∈X.pn,p.1≠e:=by
 obtain⟨d,vs,a,_,_,f,_⟩:=F.obj;refine⟨?_,?_,fun p g z=>?_⟩
 .cases z:H e with
  |none=>rfl
  |some u=>
   have:=k.trk e u d z a;rw[F.new]at this;cases this
 .cases z:X.s₀.heap.get? e with
  |none=>rfl
  |some o=>
   by_cases b:e∈X.fs
   .obtain⟨_,j,i,hn⟩:=I.funs.mem b;exact absurd rfl<|jD a f i hn
   .obtain⟨⟨o',q⟩,_⟩:=k.ent e o z b;rw[F.new]at q;cases q
 .have:=k.pin p g;rw[z,F.new]at this;cases this
def aKx(X:Cx):Tw Str->Tg->Prop
 |none,none=>True
 |some n,some i=>X.N.Nodup/\X.N[i]?=Z n/\X.env.scope.names.lookup n=Z .local
 |_,_=>False
def aCS{pos:Pos}{l:Stmt}{g:T9}{h:HR}(bd:Body X)(hc:JO X x h.c)(hg:Gl X x)(hd:(x==("__debug__":Str))=false)
 (hn:aKx X nm h.n)
 (hS:∀e,PSs (hCx X e) (l::g) h.t) (hR:aBl X hs rs):aBl X (.ExceptHandler (Z (.Name x np)) nm (l::g) pos::hs) (h::rs):=by
 intro pins D e c dx σ H s B E ok I k F y;obtain⟨b,hb,y⟩:=y;have N:Body (mL X pins):=⟨bd.stk,bd.fr,bd.ex⟩;obtain⟨oe,vs,he,O,_,hv,_⟩:=F.obj;have LT:PySem.W.Looks (model X.prog X.w) s.heap (typeOf (.ref e)) c:=O▸(PySem.W.Looks.ld he).andThen .now;have IH:=(I.ofP ok).toH e;have hA:(hCx X e).A=X.A.mark (Z (.ref e)):=rfl;refine wpAny_handleBy_cons (codeAny_handlers_test<|ZT (X:=hCx X e) hc IH hg hd ?_) (by intro z;cases z);refine(PySem.W.exm_one IH.kIn LT hb).here ?_;cases b with
 |false=>exact hR pins D e c dx σ H s B E ok I k F y
 |true=>
  rw[A4 rfl]at y;have V:Fly X.calm B (mL X pins).stack e c dx (Z .none) s.heap:=F
  have go:∀(P:Ua->Prop),(∀J,Inv X pins σ (upd H e (.ext (AV e c dx false))) J->P J)->wpAny (model X.prog X.w) (X.A.mark<|Z (.ref e)) (setFlight (.ref e) Y) (fun _ s1=>P s1) (notedBy (model X.prog X.w) (X.A.mark<|Z (.ref e)) X.env fun x J=>cameBackBy (model X.prog X.w) X.A X.env E x J) s:=fun P hP=>by
   refine tL (fo:=Y) V fun h1 F1 u1=>hP _ ?_;obtain⟨o,k1⟩:=I.up N k F1.stays u1;obtain⟨n1,n2,n3⟩:=Fly.fresh (s:={ s with heap:=h1 }) (h:=h1) N o k1 F1;obtain⟨a0,a1,Q,C,R,S,T⟩:=F1.obj;have L:=Inv.track o Q S n1 n2 (fun p hp=>n3 p (by rw[C8]at hp;exact hp)) (by rw[C];exact T);rw[C,R]at L;exact L.ofP ok
  have U:H e=Y:=(Fly.fresh (h:=s.heap) N I k V).1;have M:=y e U;cases nm with
  |none=>
   cases j:h.n with
   |some i=>rw[j]at hn;exact False.elim hn
   |none=>
    rw[j]at M;refine codeAny_handlers_suite (go _ fun s1 o=>?_);refine E2 (hS e pins s1 σ _ (aCq D Y) (o.toH e) M) (fun f s2 z=>?_) fun _ _ z=>z.elim;cases f with
    |next=>obtain⟨a,H',d,q⟩:=z;exact⟨a,H',d.ofH ok,q⟩
    |brk=>obtain⟨a,H',d,q⟩:=z;exact⟨a,H',d.ofH ok,q⟩
    |cont=>obtain⟨a,H',d,q⟩:=z;exact⟨a,H',d.ofH ok,q⟩
    |ret u=>obtain⟨v,a,H',d,r,q⟩:=z;exact⟨v,a,H',d.ofH ok,r,q⟩
  |some n=>
   cases j:h.n with
   |none=>rw[j]at hn;exact False.elim hn
   |some i=>
    rw[j]at hn M;obtain⟨nd,hi,lo⟩:=hn;refine codeAny_handlers_suite_as (go _ fun s1 o=>?_);refine rX (X:=X) o nd hi (.inl lo) (v:=.ref e) rfl (fun s2 L=>?_) (.inr lo);refine E2 (hS e pins s2 _ _ (aCq D<|Z i) (L.toH e) M) (fun f s3 z=>?_) fun _ _ z=>z.elim;show wpAny _ _ _ (fun _ G=>SP X pins D f G) E s3;cases f with
    |next=>obtain⟨a,H',d,q⟩:=z;exact tF (d.ofH ok) nd hi lo fun s4 m _=>⟨_,H',m,q⟩
    |brk=>obtain⟨a,H',d,q⟩:=z;exact tF (d.ofH ok) nd hi lo fun s4 m _=>⟨_,H',m,q⟩
    |cont=>obtain⟨a,H',d,q⟩:=z;exact tF (d.ofH ok) nd hi lo fun s4 m _=>⟨_,H',m,q⟩
    |ret u=>obtain⟨v,a,H',d,r,q⟩:=z;exact tF (d.ofH ok) nd hi lo fun s4 m _=>⟨v,_,H',m,r,q⟩
def aGY(K:Fg)(tb:(St->XK)->TS)(rs:Tv HR):TS:=fun D σ H=>tb (tHs K D rs) D σ H
def aIm{b:T9}{h₀:ExceptHandler}{hs:Tv ExceptHandler}{pos:Pos}{tb:(St->XK)->TS}(bd:Body X)
 (n:∀pins EE,PSs ((mL X pins).wish (XS (mL X pins) EE)) b<|tb EE) (o:aBl X (h₀::hs) rs):PS X (.Try b (h₀::hs) [] [] pos) (aGY X.K tb rs):=by
 intro pins s σ H D I h;have i:Body (mL X pins):=⟨bd.stk,bd.fr,bd.ex⟩;refine wpAny_Try_except (E2 (n pins (tHs X.K D rs) [] s σ H D (I.toP.wish _) h) (fun f s1 z=>?_) fun ev s1 z=>?_)
 .cases f with
  |next=>obtain⟨a,H',d,q⟩:=z;exact A0r ⟨a,H',d.unwish.ofP I.ok,q⟩
  |brk=>obtain⟨a,H',d,q⟩:=z;exact⟨a,H',d.unwish.ofP I.ok,q⟩
  |cont=>obtain⟨a,H',d,q⟩:=z;exact⟨a,H',d.unwish.ofP I.ok,q⟩
  |ret u=>obtain⟨v,a,H',d,r,q⟩:=z;exact⟨v,a,H',d.unwish.ofP I.ok,r,q⟩
 .obtain⟨e,c,dx,st,j,p,B,rfl,l,t,F1,k,q⟩:=z;have m:=l.ok.frames;have g:=F1;rw[i.stk]at g m;refine zY m i.fr g k fun F F2 w=>tL F2 fun G F3 x=>?_;obtain⟨y,A⟩:=l.up i t F2.stays w;obtain⟨C,E⟩:=y.up i A F3.stays x;exact o pins D e c dx j p _ B _ I.ok C E (by rw[bd.stk];exact F3) q
end
structure Exc where
 nm:Str
 fs:Tu
inductive Rs where
 |v (x:CD)|x (e:Exc)
inductive aLq where
 |o (o:Out)|xc (γ:Ga) (e:Exc)
abbrev EX:=Ga->Sto->Option (Rs×Sto)
abbrev AX:=Ga->Sto->Option ((List CD ⊕ Exc)×Sto)
abbrev SFX:=Ga->Sto->Tw (aLq×Sto)
abbrev FX:=T6->Sto->Tw (Rs×Sto)
section
variable(K:Fg)
def ExR(W:Wd)(ex:Exc)(c:Tx)(dx:Th):Prop:=c=.ref (bZ K ex.nm)/\JP K W dx ex.fs
def aGs(E:XK)(Q:VK)(W:Wd)(H:Hp):Rs->Prop
 |.v x=>∀v,cL K W x v->Q v H
 |.x ex=>∀c dx,ExR K W ex c dx->E c dx H
def SEX(EE:St->XK)(t:TE)(f:EX):Prop:=∀a M r M',f a M=Z (r,M')->∀(W:Wd)(H:Hp)(σ:St)(Q:VK),Good K W M H->cP K W a σ->(∀W' H',W.Ext W'->Good K W' M' H'->aGs K (EE σ) Q W' H' r)->t σ H Q
def aKG(E:XK)(Q:Tc->Hp->Prop)(W:Wd)(H:Hp):T6 ⊕ Exc->Prop
 |.inl xs=>∀vs,cM K W xs vs->Q vs H
 |.inr ex=>∀c dx,ExR K W ex c dx->E c dx H
def SAX(EE:St->XK)(t:TA)(f:AX):Prop:=∀a M r M',f a M=Z (r,M')->∀(W:Wd)(H:Hp)(σ:St)(Q:Tc->Hp->Prop),Good K W M H->cP K W a σ->(∀W' H',W.Ext W'->Good K W' M' H'->aKG K (EE σ) Q W' H' r)->t σ H Q
def aHY(EE:St->XK)(D:Ends)(W:Wd)(H:Hp):aLq->Prop
 |.o o=>aCi K D W H o
 |.xc a ex=>∀σ c dx,cP K W a σ->ExR K W ex c dx->EE σ c dx H
def SSX(EE:St->XK)(t:TS)(f:SFX):Prop:=∀a M o M',f a M=Z (o,M')->∀(W:Wd)(H:Hp)(σ:St)(D:Ends),Good K W M H->cP K W a σ->(∀W' H',W.Ext W'->Good K W' M' H'->aHY K EE D W' H' o)->t D σ H
def spX(f:FX):Sp:=fun vs H Q E=>∃xs M W r M',Good K W M H/\cM K W xs vs/\f xs M=Z (r,M')/\∀W' H',W.Ext W'->Good K W' M' H'->aGs K E Q W' H' r
end
def liE(f:EF):EX:=fun a M=>(f a M).bind fun r=>Z (.v r.1,r.2)
def liA(f:AF):AX:=fun a M=>(f a M).bind fun r=>Z (.inl r.1,r.2)
def liS(f:SF):SFX:=fun a M=>(f a M).bind fun r=>Z (.o r.1,r.2)
def wI(f:EX)(g:AX):AX:=fun a M=>(f a M).bind fun r=>match r.1 with
 |.x e=>Z (.inr e,r.2)
 |.v x=>(g a r.2).bind fun q=>match q.1 with
  |.inr e=>Z (.inr e,q.2)
  |.inl xs=>Z (.inl (x::xs),q.2)
def aLv(f:EX)(k:CD->Sto->Tw (Rs×Sto)):EX:=fun a M=>(f a M).bind fun r=>match r.1 with
 |.x e=>Z (.x e,r.2)
 |.v x=>k x r.2
def MP(f:AX)(k:T6->Sto->Tw (Rs×Sto)):EX:=fun a M=>(f a M).bind fun r=>match r.1 with
 |.inr e=>Z (.x e,r.2)
 |.inl xs=>k xs r.2
def okR(o:Tw (CD×Sto)):Tw (Rs×Sto):=o.bind fun r=>Z (.v r.1,r.2)
def kP(h:FX)(f:AX):EX:=MP f h
def xCB(h:FN)(f:AX):EX:=MP f fun xs M=>okR<|h xs M
def iY(f g:SFX):SFX:=fun b M=>(f b M).bind fun r=>match r.1 with
 |.o (.nx a)=>g a r.2
 |o=>Z (o,r.2)
def aKE(f:EX):SFX:=fun a M=>(f a M).bind fun r=>match r.1 with
 |.x e=>Z (.xc a e,r.2)
 |.v x=>Z (.o (.rt x),r.2)
def iR(f:EX):SFX:=fun a M=>(f a M).bind fun r=>match r.1 with
 |.x e=>Z (.xc a e,r.2)
 |.v _=>Z (.o (.nx a),r.2)
def yZ(f:EX)(g:GF):SFX:=fun a M=>(f a M).bind fun r=>match r.1 with
 |.x e=>Z (.xc a e,r.2)
 |.v x=>(g x a r.2).bind fun q=>Z (.o (.nx q.1),q.2)
noncomputable def VP(c:TF)(f g:SFX):SFX:=fun a M=>(c a M).bind fun r=>if r.1=true then f a r.2 else g a r.2
def uJ(nm:Str):SFX:=fun a M=>Z (.xc a ⟨nm,[]⟩,M)
def fnX(ps N:Nat)(b:SFX):FX:=fun xs M=>if xs.length=ps then(b (xs.map Z++List.replicate (N-xs.length) Y) M).bind fun r=>match r.1 with
 |.o (.rt x)=>Z (.v x,r.2)
 |.o (.nx _)=>Z (.v (.d .none),r.2)
 |.xc _ e=>Z (.x e,r.2)
 |_=>Y else Y
def aBr:Tg->Ga->Ga
 |none,a=>a
 |some i,a=>a.set i Y
def setG:Tg->Ga->CD->Ga
 |none,a,_=>a
 |some i,a,x=>a.set i<|Z x
def aLL(n:Tg):Out->Out
 |.nx a=>.nx (aBr n a)
 |.bk a=>.bk (aBr n a)
 |.ct a=>.ct (aBr n a)
 |.rt x=>.rt x
structure HMi where
 tab:Tv (Str×Bool)
 n:Tg
 f:SF
def zP:Tv HMi->Ga->Exc->Sto->Tw (Out×Sto)
 |[],_,_,_=>Y
 |h::r,a,ex,M=>match h.tab.lookup ex.nm with
  |some true=>(h.f (setG h.n a (.c M.length)) (M++[.exc false ex.nm ex.fs])).bind fun q=>Z (aLL h.n q.1,q.2)
  |some false=>zP r a ex M
  |none=>Y
def HN(b:SFX)(hs:Tv HMi):SF:=fun c M=>(b c M).bind fun r=>match r.1 with
 |.o o=>Z (o,r.2)
 |.xc a ex=>zP hs a ex r.2
section
variable{K:Fg}{EE:St->XK}{ta tb:TE}{tA:TA}{t u:TS}{f g:EX}{fa:AX}{p q:SFX}{tt:TT}{ft:TF}{tg:TG}{hg:GF}
def aHB{f:EF}(a:SE K ta f):SEX K EE ta (liE f):=by
 intro i M r M' h W H σ Q G R k;obtain⟨⟨x,M1⟩,b,h⟩:=aI h;cases h;exact a _ _ _ _ b W H σ Q G R fun v W' H' e c d=>k W' H' e c v d
def aJO{f:AF}(a:SA K tA f):SAX K EE tA (liA f):=by
 intro i M r M' h W H σ Q G R k;obtain⟨⟨x,M1⟩,b,h⟩:=aI h;cases h;exact a _ _ _ _ b W H σ Q G R fun v W' H' e c d=>k W' H' e c v d
def aHr{f:SF}(a:SS K t f):SSX K EE t (liS f):=by
 intro d M r M' h W H σ D G R k;obtain⟨⟨x,M1⟩,b,h⟩:=aI h;cases h;exact a _ _ _ _ b W H σ D G R fun W' H' e c=>k W' H' e c
def aAN(a:SEX K EE ta f)(b:SAX K EE tA fa):SAX K EE (rF ta tA) (wI f fa):=by
 intro s M r M' h W H σ Q G R k;obtain⟨⟨x,M1⟩,w,h⟩:=aI h;refine a _ _ _ _ w W H σ _ G R fun i j c l=>?_;cases x with
 |x e=>cases h;exact k i j c l
 |v x=>
  intro v z;obtain⟨⟨y,M2⟩,A,h⟩:=aI (show(fa s M1).bind _=_ from h);refine b _ _ _ _ A i j σ _ l (R.up c) fun m n d o=>?_;cases y with
  |inr e=>cases h;exact k m n (c.trans d) o
  |inl xs=>cases h;exact fun vs rs=>k m n (c.trans d) o _ (.cons (z.up d) rs)
def LN{h:FX}(a:SAX K EE tA fa):SEX K EE (xN (spX K h) EE tA) (kP h fa):=by
 intro v M r M' b W H σ Q G R k;obtain⟨⟨x,M1⟩,j,b⟩:=aI b;refine a _ _ _ _ j W H σ _ G R fun c l d i=>?_;cases x with
 |inr e=>cases b;exact k c l d i
 |inl xs=>exact fun vs rs=>⟨xs,M1,c,r,M',i,rs,b,fun m n o s=>k m n (d.trans o) s⟩
def aFx(a:SSX K EE t p)(b:SSX K EE u q):SSX K EE (aHh t u) (iY p q):=by
 intro z M o M' c W H σ D G R k;obtain⟨⟨x,M1⟩,n,c⟩:=aI c;refine a _ _ _ _ n W H σ _ G R fun h i j l=>?_;cases x with
 |xc d e=>cases c;exact k h i j l
 |o x=>
  cases x with
  |nx d=>exact fun m r=>b _ _ _ _ c h i m D l r fun s v w y=>k s v (j.trans w) y
  |bk d=>cases c;exact k h i j l
  |ct d=>cases c;exact k h i j l
  |rt x=>cases c;exact k h i j l
def YJ(a:SEX K EE ta f):SSX K EE (aBj ta) (iR f):=by
 intro m M o M' b W H σ D G R k;obtain⟨⟨x,M1⟩,l,b⟩:=aI b;refine a _ _ _ _ l W H σ _ G R fun h i d j=>?_;cases x with
 |x e=>cases b;exact fun c dx z=>k h i d j σ c dx (R.up d) z
 |v x=>cases b;exact fun v n=>k h i d j σ<|R.up d
def aDU(a:SEX K EE ta f)(b:SG K tg hg):SSX K EE (VJ ta tg) (yZ f hg):=by
 intro n M o M' d W H σ D G R k;obtain⟨⟨x,M1⟩,r,d⟩:=aI d;refine a _ _ _ _ r W H σ _ G R fun j l h m=>?_;cases x with
 |x e=>cases d;exact fun c dx z=>k j l h m σ c dx (R.up h) z
 |v x=>
  intro v s;obtain⟨⟨w,M2⟩,y,d⟩:=aI (show(hg x n M1).bind _=_ from d);cases d;exact b _ _ _ _ _ y j l σ v _ m (R.up h) s fun i A B C E R2=>k A B (h.trans C) E i R2
def aIt(c:STt K tt ft)(a:SSX K EE t p)(b:SSX K EE u q):SSX K EE (aJz tt t u) (VP ft p q):=by
 intro v M o M' d W H σ D G R k;obtain⟨⟨x,M1⟩,s,d⟩:=aI d;refine c _ _ _ _ s W H σ _ G R fun m n e r=>?_;cases x with
 |true=>rw[A4 rfl];rw[A4 rfl]at d;exact a _ _ _ _ d m n σ D r (R.up e) fun h i j l=>k h i (e.trans j) l
 |false=>rw[B0 B5];rw[B0 B5]at d;exact b _ _ _ _ d m n σ D r (R.up e) fun h i j l=>k h i (e.trans j) l
def GO:SSX K EE (wL EE<|bZ K nm) (uJ nm):=by
 intro b M o M' a W H σ D G R k;cases a;exact k W H (.refl _) G σ _ Y R ⟨rfl,rfl⟩
def cP.setN{γ:Ga}{n:Tg}{x:CD}{v:V}(R:cP K W γ σ)(r:cL K W x v):cP K W (setG n γ x) (setN n σ v):=by
 cases n with
 |none=>exact R
 |some i=>exact Paired.set (x:=Z x) (y:=Z v) r i R
def cP.unbN{γ:Ga}{n:Tg}(R:cP K W γ σ):cP K W (aBr n γ) (unbN n σ):=by
 cases n with
 |none=>exact R
 |some i=>exact Paired.set (x:=Y) (y:=Y) True.intro i R
inductive HsM(K:Fg):Tv HR->Tv HMi->Prop
 |nil:HsM K [] []
 |cons {h:HR} {m:HMi} {hs:Tv HR} {ms:Tv HMi} (hn:h.n=m.n) (ht:∀nm b,m.tab.lookup nm=Z b->PySem.W.exmOne K (.ref (bZ K nm)) h.c=Z b) (hS:SS K h.t m.f) (r:HsM K hs ms):HsM K (h::hs) (m::ms)
theorem ZK{D:Ends}{W:Wd}{M M':Sto}{H:Hp}{γ:Ga}{σ:St}{ex:Exc}{c:Tx}{dx:Th}{o:Out}(G:Good K W M H)(R:cP K W γ σ)(E:ExR K W ex c dx):
 ∀{hs:Tv HR}{ms:Tv HMi},HsM K hs ms->zP ms γ ex M=Z (o,M')->(∀W' H',W.Ext W'->Good K W' M' H'->aCi K D W' H' o)->tHs K D hs σ c dx H
 |_,_,.nil=>fun h _=>by cases h
 |_,_,@HsM.cons _ h m hs ms hn ht hS r=>fun d k=>by
  obtain⟨rfl,v⟩:=E;unfold zP at d;cases e:m.tab.lookup ex.nm with
  |none=>rw[e]at d;cases d
  |some b=>
   rw[e]at d;refine⟨b,ht _ _ e,?_⟩;cases b with
   |false=>rw[B0 B5];exact ZK G R ⟨rfl,v⟩ r d k
   |true=>
    intro a ha;obtain⟨⟨y,M1⟩,z,d⟩:=aI d;have s:=d;cases s;have A:Good K (W.more a) (M++[.exc false ex.nm ex.fs]) (upd H a (.ext (AV a (.ref (bZ K ex.nm)) dx false))):=G.new ha ⟨dx,rfl,v⟩;have w:=W.ext_more a;have B:cL K (W.more a) (.c M.length) (.ref a):=⟨by show M.length<W.n+1;rw[G.n];exact O6 _,by show _=V.ref (if M.length=W.n then a else _);rw[A4 G.n.symm]⟩;rw[hn];refine hS _ _ _ _ z (W.more a) _ _ _ A ((R.up w).setN B) fun C F I J=>?_;have l:=k C F (w.trans I) J;cases y with
    |nx i=>exact fun j R2=>l _ R2.unbN
    |bk i=>exact fun j R2=>l _ R2.unbN
    |ct i=>exact fun j R2=>l _ R2.unbN
    |rt x=>exact l
def aJK{tb:(St->XK)->TS}{rs:Tv HR}{ms:Tv HMi}(b:∀EE,SSX K EE (tb EE) p)(h:HsM K rs ms):SS K (aGY K tb rs) (HN p ms):=by
 intro z M o M' a W H σ D G R k;obtain⟨⟨x,M1⟩,i,a⟩:=aI a;refine b _ _ _ _ _ i W H σ D G R fun j l d e=>?_;cases x with
 |o x=>cases a;exact k j l d e
 |xc m ex=>exact fun n c dx r E=>ZK e r E h a fun s v w y=>k s v (d.trans w) y
end
section
variable{ι:Type}
structure MX(K:Fg)(X:ι->Cx)(EE:ι->St->XK)(e:Uc)(f:EX):Prop where
 ex:∃t:ι->TE,(∀i,PE (X i) e<|t i)/\∀i,SEX K (EE i) (t i) f
structure MAX(K:Fg)(X:ι->Cx)(EE:ι->St->XK)(es:T8)(f:AX):Prop where
 ex:∃t:ι->TA,(∀i,PA (X i) es<|t i)/\∀i,SAX K (EE i) (t i) f
 st:LV es
structure MSX(K:Fg)(X:ι->Cx)(EE:ι->St->XK)(st:Stmt)(f:SFX):Prop where
 ex:∃t:ι->TS,(∀i,PS (X i) st<|t i)/\∀i,SSX K (EE i) (t i) f
structure MLX(K:Fg)(X:ι->Cx)(EE:ι->St->XK)(st:T9)(f:SFX):Prop where
 ex:∃t:ι->TS,(∀i,PSs (X i) st<|t i)/\∀i,SSX K (EE i) (t i) f
variable{K:Fg}{X:ι->Cx}{EE:ι->St->XK}{e a b c tg iter:Uc}{es:T8}{f g:EX}{fa:AX}{p q:SFX}{ft:TF}{gf:GF}{st:Stmt}{sts sts':T9}{pos:Pos}
def aFT{f:EF}(x:ME K X e f):MX K X EE e (liE f):=by
 obtain⟨t,d,h⟩:=x.ex;exact⟨fun _=>t,d,fun _=>aHB h⟩
def mR{f:AF}(x:MA K X es f):MAX K X EE es (liA f):=by
 obtain⟨t,d,h⟩:=x.ex;exact⟨⟨fun _=>t,d,fun _=>aJO h⟩,x.st⟩
def qU{f:SF}(x:ML K X sts f):MLX K X EE sts (liS f):=by
 obtain⟨t,d,h⟩:=x.ex;exact⟨fun _=>t,d,fun _=>aHr h⟩
def max_cons(x:MX K X EE e f)(y:MAX K X EE es fa)(hs:XF e es:=by intro _;rfl):MAX K X EE (e::es) (wI f fa):=by
 obtain⟨t,d,h⟩:=x.ex;obtain⟨u,j,k⟩:=y.ex;exact⟨⟨_,fun i=>jW (d i) (j i)<|hs _,fun i=>aAN (h i)<|k i⟩,hs,y.st⟩
def tD{F:FX}{p:Pos}(ok:∀i,XOk (X i)<|EE i)(C:∀i,jX (X i).prog (X i).w (X i).K (X i).mg (X i).base k x ps (spX K F))(d:∀i,cG k (X i).A)(y:MAX K X EE (e::es) fa)(h:∀i,Gl (X i) x:=by intro _;rfl)(hd:(x==("__debug__":Str))=false:=by decide):
 MX K X EE (.Call (.Name x p) (e::es) [] pos) (kP F fa):=by
 obtain⟨u,j,l⟩:=y.ex;exact⟨_,fun i=>aDt (ok i) (C i) (d i) (j i) (h i) hd (y.st.1 _)<|y.st.2.plain _ _,fun i=>LN<|l i⟩
def lL(x:MSX K X EE st p):MLX K X EE [st] p:=by
 obtain⟨t,d,h⟩:=x.ex;exact⟨t,fun i=>RC<|d i,h⟩
def oU(x:MSX K X EE st p)(y:MLX K X EE sts q):MLX K X EE (st::sts) (iY p q):=by
 obtain⟨t,d,h⟩:=x.ex;obtain⟨u,j,k⟩:=y.ex;exact⟨_,fun i=>JS (d i)<|j i,fun i=>aFx (h i)<|k i⟩
def lT(x:MX K X EE e f)(hs:∀i,swapsWith e Y pos.line (X i).env=pure false:=by intro _;rfl):MSX K X EE (.Expr e pos) (iR f):=by
 obtain⟨t,d,h⟩:=x.ex;exact⟨_,fun i=>TB (d i)<|hs i,fun i=>YJ<|h i⟩
def QL(i:Nat){h:Str}(k:∀j,(X j).N.Nodup)(x:MX K X EE e f)(hi:∀j,(X j).N[i]?=Z h:=by intro _;rfl)(hx:∀j,Loc (X j).env.scope h:=by intro _;first|exact Or.inl rfl|exact Or.inr rfl)(hs:∀j,swapsWith e (Z (.Name h d)) pos.line (X j).env=pure false:=by intro _;rfl)
 (l:∀j,(X j).fn h=true\/(X j).env.scope.names.lookup h=Z .local:=by intro _;first|exact .inl rfl|exact .inr rfl):MSX K X EE (.Assign [.Name h d] e pos) (yZ f<|hName i):=by
 obtain⟨t,m,n⟩:=x.ex;exact⟨_,fun j=>aCw (k j) (hi j) (hx j) (m j) (hs j)<|l j,fun j=>aDU (n j) wG⟩
def PJ(x:MT K X c ft)(y:MLX K X EE sts p)(z:MLX K X EE sts' q):MSX K X EE (.If c sts sts' pos) (VP ft p q):=by
 obtain⟨t,d,h⟩:=x.ex;obtain⟨u,j,k⟩:=y.ex;obtain⟨v,l,m⟩:=z.ex;exact⟨_,fun i=>aGw (d i) (j i)<|l i,fun i=>aIt h (k i)<|m i⟩
def BL{cpos:Pos}(ok:∀i,XOk (X i)<|EE i)(j:∀i,(X i).K=K)(d:∀i,(X i).calm=true)(hm:∀i,(X i).mg x=Z (.ref (bZ K x)))(q:PySem.W.excIn K (bZ K x) bmV "ValueError.__new__"=true)(h:∀i,Gl (X i) x:=by intro _;rfl)(hd:(x==("__debug__":Str))=false:=by decide):
 MSX K X EE (.Raise (Z (.Call (.Name x np) [] [] cpos)) Y pos) (uJ x):=
 ⟨fun i=>wL (EE i)<|bZ K x,fun i=>VO (ok i) (d i) (hm i) (by grind) (h i) hd,fun _=>GO⟩
def aIA(X:ι->Cx):ι×T2×(St->XK)->Cx:=fun j=>(mL (X j.1) j.2.1).wish (XS (mL (X j.1) j.2.1) j.2.2)
noncomputable def aJA:ι×T2×(St->XK)->St->XK:=fun j=>j.2.2
def aLY(X:ι->Cx):ι×Ub->Cx:=fun j=>hCx (X j.1) j.2
def aCE(bd:∀i,Body<|X i)(j:ι×T2×(St->XK)):XOk (aIA X j) (aJA (ι:=ι) j):=
 XOk.of (X:=mL (X j.1) j.2.1) ⟨(bd j.1).stk,(bd j.1).fr,(bd j.1).ex⟩ _
structure MH(K:Fg)(X:ι->Cx)(hs:Tv ExceptHandler)(ms:Tv HMi):Prop where
 ex:∃rs,(∀i,aBl (X i) hs rs)/\HsM K rs ms
def aAx:MH K X [] []:=⟨[],fun _=>aHx,.nil⟩
def zR{hp:Pos}{h:Stmt}{d:T9}{tab:Tv (Str×Bool)}{f:SF}(j:Tx)(bd:∀i,Body<|X i)(k:∀i,JO (X i) x j)
 (hn:∀i,aKx (X i) nm n)
 (ht:∀p∈tab,PySem.W.exmOne K (.ref (bZ K p.1)) j=Z p.2) (hS:ML K (aLY X) (h::d) f) (r:MH K X hs ms) (l:∀i,Gl (X i) x:=by intro _;rfl) (hd:(x==("__debug__":Str))=false:=by decide):
 MH K X (.ExceptHandler (Z (.Name x np)) nm (h::d) hp::hs) (⟨tab,n,f⟩::ms):=by
 obtain⟨t,m,o⟩:=hS.ex;obtain⟨rs,s,u⟩:=r.ex;refine⟨⟨j,n,t⟩::rs,fun i=>aCS (bd i) (k i) (l i) hd (hn i) (fun e=>m (i,e))<|s i,.cons rfl (fun nm b z=>?_) o u⟩;exact ht (nm,b)<|F6 z
def aBU{h₀:ExceptHandler}{hs:Tv ExceptHandler}(bd:∀i,Body<|X i)(d:∀i,(X i).K=K)(x:MLX K (aIA X) (aJA (ι:=ι)) sts p)(h:MH K X (h₀::hs) ms):MS K X (.Try sts (h₀::hs) [] [] pos) (HN p ms):=by
 obtain⟨rs,j,l⟩:=h.ex;obtain⟨t,m,n⟩:=x.ex;refine⟨aGY K (fun EE D σ H=>∀i pins,t (i,pins,EE) D σ H) rs,fun i=>?_,aJK (fun EE=>?_) l⟩
 .have:=aIm (tb:=fun EE D σ H=>∀i pins,t (i,pins,EE) D σ H) (pos:=pos) (bd i) (fun pins EE ps s σ H D I h=>m (i,pins,EE) ps s σ H D I<|h i pins)<|j i;rw[d i]at this;exact this
 .exact fun r M o M' u W H σ D G R k i pins=>n (i,pins,EE) r M o M' u W H σ D G R k
section
variable{P:Ud}{w:World}{K:Fg}{mg:Str->Tf}{base:Heap}
abbrev aJH(P:Ud)(w:World)(K:Fg)(mg:Str->Tf)(base:Heap)(N:Tb)(x:Str)(st:Stmt)(f:Ub)(cdv:Tx)(A:Ue)(outer:Tv Env)(s:Ua)(H:Hp)(E:XK):Unit->Cx:=fun _=>
 (jG (CX1 P w) P w K mg base N x (aH st) f cdv A outer s H E).wish (XS (jG (CX1 P w) P w K mg base N x (aH st) f cdv A outer s H E) fun _=>E)
def yR{st:Stmt}{f:Ub}(i:Unit):XOk (aJH P w K mg base N x st f cdv A outer s H E i) ((fun _ _=>E:Unit->St->XK) i):=XOk.of HF _
def RB{ps N:Tb}{b:SFX}:∀vs H Q E,spX K (fnX ps.length N.length b) vs H Q E->vs.length=ps.length:=fun vs H Q E h=>by
 obtain⟨xs,M,W,y,M',G,R,d,_⟩:=h;by_cases i:xs.length=ps.length
 .rw[<- Paired.len R];exact i
 .unfold fnX at d;rw[B0 i]at d;cases d
def QO{ps N:Tb}{b:SFX}{t:TS}{E:XK}(hS:SSX K (fun _=>E) t b)(h:spX K (fnX ps.length N.length b) vs H Q E):t { nx:=fun _ H'=>Q .non H',rt:=Q } (start N vs) H:=by
 obtain⟨xs,M,W,r,M',G,R,d,j⟩:=h
 have i:xs.length=ps.length:=by
  by_cases i:xs.length=ps.length
  .exact i
  .unfold fnX at d;rw[B0 i]at d;cases d
 unfold fnX at d;rw[A4 i]at d;obtain⟨⟨o,M1⟩,u,d⟩:=aI d
 have y:cP K W (xs.map Z++List.replicate (N.length-xs.length) Y) (start N vs):=by
  unfold start;rw[<- Paired.len R];exact Paired.app (cM.some R)<|wR _
 refine hS _ _ _ _ u W H _ _ G y fun k l m n=>?_;cases o with
 |xc s e=>cases d;exact fun σ c dx _ z=>j k l m n c dx z
 |o o=>
  cases o with
  |rt x=>cases d;exact fun v r=>j k l m n v r
  |nx s=>cases d;exact fun σ r=>j k l m n .non rfl
  |bk s=>cases d
  |ct s=>cases d
def Fun.okXF{x qual:Str}{st:Stmt}{N ps:Tb}{k:Nat}{b:SFX}{f:Ub}{fd:FuncData}(Fu:Fun K x qual st f fd)(S:aR N ps (aH st))
 (d:∀(f:Ub)(cdv:Tx)(A:Ue)(outer:Tv Env)(s:Ua)(H:Hp)(E:XK),cG k (A.deeper<|envOfC qual (aH st) s.heap.objs.size f cdv)->
  MLX K (aJH P w K mg base N qual st f cdv A outer s H E) (fun _ _=>E) (bR st) b):pO P w K mg base (CX1 P w) (k+1) f fd ps (spX K (fnX ps.length N.length b)):=by
 obtain⟨oc,od,kV,doc,pm,an,cdv,ct,osl,rfl,j,i⟩:=Fu.ex;refine aIR j i S RB fun A outer s H vs Q E l h=>?_;obtain⟨t,m,n⟩:=(d f cdv A outer s H E l).ex;exact⟨t (),m (),QO (n ()) h⟩
def Def.okX{st:Stmt}{ps:Tb}{b:SFX}(D:Def K mg x st)(S:aR N ps (aH st))
 (h:∀(kV doc pm:Tx)(an:Th)(cdv ct:Tx)(us:T5),us.length=ps.length->bindArgs (PySem.W.fnOf x x (eT st) (bR st) (aH st) .none kV doc pm an cdv ct) ⟨us,[]⟩=pure (ps.zip us))
 (d:∀(f:Ub)(cdv:Tx)(A:Ue)(outer:Tv Env)(s:Ua)(H:Hp)(E:XK),cG k (A.deeper<|envOfC x (aH st) s.heap.objs.size f cdv)->
  MLX K (aJH P w K mg base N x st f cdv A outer s H E) (fun _ _=>E) (bR st) b):jX P w K mg base (k+1) x ps (spX K (fnX ps.length N.length b)):=by
 obtain⟨f,fd,Fu,m⟩:=D.ex;exact⟨f,fd,Fu.okXF S d,m,Fu.kp,Fu.binds h⟩
end
end
structure XC(K:Fg)(C:Ub):Prop where
 c:aCl K C
 ha:PySem.W.findIn K (.ref C) "__class__"=Z (Z (.builtin "object.__class__"))
 hn:PySem.W.specialIn K (.builtin "object.__class__") "__get__"=Z (Z (.builtin "getset_descriptor.__get__"))
 htk:PySem.W.takesIn K (.builtin "object.__class__")=Z true
 hm:PySem.W.mroIn K C (.type "object")=Z true
def aGP(H:Hp):Th->Prop
 |none=>True
 |some d=>∃us,H d=Z (.xd us)
inductive ClV:V->Tx->Prop
 |own (C:Ub):ClV (.ref C) (.ref C)
 |ty (T:String):ClV (.ty T) (.type T)
def ClV.is(h:ClV v c)(r:RelV v u):u=c:=by cases h<;>exact r
def YH(K:Fg):Tc->Hp->VK->Prop:=fun xs H Q=>∃v d c b,xs=[v,d]/\ClV d c/\Q (.bl b) H /\
 ((v=.non/\PySem.W.kitOne K (.type "NoneType") c=Z b)\/∃a C dx fr,v=.ref a/\H a=Z (.ext (AV a (.ref C) dx fr))/\aGP H dx/\XC K C/\PySem.W.kitOne K (.ref C) c=Z b)
section
variable{X:Cx}{K:Fg}
def YT(I:Inv X pins σ H s)(h:H a=Z (.ext (AV a (.ref C) dx fr)))(d:aGP H dx):∃c od,PySem.W.InstAt s.heap a c C od/\c.dict=dx:=by
 obtain⟨⟨o,vs,e,f,b,i,_⟩,_⟩:=I.hok a _ h
 have g:PySem.W.notCls o=true:=by
  obtain⟨_,_,dt,_⟩:=o;cases i;rfl
 cases dx with
 |none=>exact⟨o,Y,⟨e,f,g,by rw[b];exact True.intro⟩,b⟩
 |some j=>
  obtain⟨us,hd⟩:=d;obtain⟨od,q⟩:=(I.hok j _ hd).there;exact⟨o,Z od,⟨e,f,g,by rw[b];exact q⟩,b⟩
def UZ:fR X (.builtin "isinstance") (YH X.K):=by
 intro pins s σ H vs us Q I r h;obtain⟨v,l,c,b,rfl,j,q,h⟩:=h;obtain⟨u,m,rfl,i,f⟩:=vals2 r;cases j.is f;rcases h with⟨rfl,e⟩|⟨a,C,dx,fr,rfl,ha,d,xc,e⟩
 .cases i;exact PySem.W.kia_one PySem.W.kitx_none I.kIn True.intro e (fun z=>nomatch z) fun g=>⟨.bl _,H,I.tok g,rfl,q⟩
 .cases i;obtain⟨k,od,J,_⟩:=YT I ha d;exact PySem.W.kia_one (aAm xc.c xc.ha xc.hn xc.htk xc.hm) I.kIn ⟨k,od,J⟩ e (fun z=>nomatch z) fun g=>⟨.bl _,H,I.tok g,rfl,q⟩
def aKz(h:X.K=K):fR X (.builtin "isinstance") (YH K):=by subst h;exact UZ
def NF(tab:Tv (Str×Bool))(nn:Tw Bool)(f:EF):EF:=fun a M=>(f a M).bind fun r=>match r.1 with
 |.c i=>(match r.2[i]? with
  |some (.exc _ nm _)=>(tab.lookup nm).bind fun b=>Z (.d (.bool b),r.2)
  |_=>Y)
 |.d .none=>nn.bind fun b=>Z (.d (.bool b),r.2)
 |_=>Y
def JP.ok(r:JP K W dx fs)(s:kJ W.F H):aGP H dx:=by
 cases dx with
 |none=>exact True.intro
 |some d=>obtain⟨_,us,h,_⟩:=r;exact⟨us,s _ _ h⟩
def Good.excAt{i:Nat}(G:Good K W M H)(h:M[i]?=Z (.exc fr nm fs)):∃dx,H (W.α i)=Z (.ext (AV (W.α i) (.ref (bZ K nm)) dx fr))/\JP K W dx fs:=by
 obtain⟨_,o,b,a⟩:=G.cs i _ h (by simp);cases o with
 |ext c=>
  obtain⟨dx,rfl,r⟩:=a;exact⟨dx,b,r⟩
 |_=>exact False.elim a
def aEe{tab:Tv (Str×Bool)}{nn:Tw Bool}{n:TE}{f:EF}{j:V}{c:Tx}(o:ClV j c)(ht:∀p∈tab,XC K (bZ K p.1)/\PySem.W.kitOne K (.ref (bZ K p.1)) c=Z p.2)(hn:∀b,nn=Z b->PySem.W.kitOne K (.type "NoneType") c=Z b)
 (a:SE K n f):SE K (tCB (YH K)<|rF n<|rF (tC j) VW) (NF tab nn f):=by
 intro D M x M' h W H σ Q G R k;obtain⟨⟨y,M1⟩,w,h⟩:=aI h;refine a _ _ _ _ w W H σ _ G R fun v q r s l u=>?_;cases y with
 |t _=>cases h
 |f _=>cases h
 |g _=>cases h
 |c i=>
  dsimp only at h;cases e:M1[i]? with
  |none=>rw[e]at h;cases h
  |some cl=>
   rw[e]at h;cases cl with
   |exc fr nm fs=>
    obtain⟨b,m,h⟩:=aI h;cases h;obtain⟨z,A⟩:=ht (nm,b)<|F6 m;obtain⟨dx,B,C⟩:=l.excAt e;exact⟨v,j,c,b,rfl,o,k _ q r s l rfl,.inr ⟨_,_,dx,fr,u.2,B,C.ok l.fh,z,A⟩⟩
   |_=>cases h
 |d y=>
  cases y with
  |none=>
   obtain⟨b,m,h⟩:=aI h;cases h;exact⟨v,j,c,b,rfl,o,k _ q r s l rfl,.inl ⟨u,hn b m⟩⟩
  |_=>cases h
end
section
variable{ι:Type}{K:Fg}{X:ι->Cx}{a:Uc}{f:EF}{pos:Pos}
def aAD(hm:∀i,(X i).mg y=Z (.ref C))(b:∀i,Gl (X i) y:=by intro _;rfl)(hd:(y==("__debug__":Str))=false:=by decide):∀i c,PE (X i) (.Name y c) (tC (.ref C)):=fun i _=>TL (b i) (hm i) rfl hd
def UR{p d:Pos}{tab:Tv (Str×Bool)}{nn:Tw Bool}(g:∀i,(X i).K=K)(h:ClV e c)(hy:∀i d,PE (X i) (.Name y d)<|tC e)(ht:∀p∈tab,XC K (bZ K p.1)/\PySem.W.kitOne K (.ref (bZ K p.1)) c=Z p.2)(hn:∀b,nn=Z b->PySem.W.kitOne K (.type "NoneType") c=Z b)
 (x:ME K X a f) (hs:XF a [.Name y d]) (hm:∀i,(X i).mg "isinstance"=Y) (j:∀i,Gl (X i) "isinstance":=by intro _;rfl):ME K X (.Call (.Name "isinstance" p) [a,.Name y d] [] pos) (NF tab nn f):=by
 obtain⟨t,k,l⟩:=x.ex;exact⟨_,fun i=>wQ (aKz<|g i) (j i) (hm i) boot_isinstance (jW (k i) (jW (hy i _) CH cJ)<|hs _) (by decide) (by decide) (hs _)<|pN cJ xV,aEe h ht hn l⟩
end
def fX(h:FX)(f:AF):EF:=fun a M=>(f a M).bind fun r=>(h r.1 r.2).bind fun q=>match q.1 with
 |.v x=>Z (x,q.2)
 |.x _=>Y
noncomputable def noX:St->XK:=fun _ _ _ _=>False
section
variable{X:Cx}{K:Fg}
def aAo{e:Uc}{es:T8}(C:jX X.prog X.w X.K X.mg X.base k x ps sp)(d:cG k X.A)(ha:PA X (e::es) t)(g:Gl X x)
 (a:(x==("__debug__":Str))=false) (i:starEach (e::es) X.env=(false,eval e X.env)::starEach es X.env) (c:(backTo pos<|starEach es X.env).any (·.1)=false):
 PE X (.Call (.Name x p) (e::es) [] pos) (xN sp noX t):=by
 obtain⟨f,fd,F,m,kp,b⟩:=C.ex
 exact RO (E:=noX []) F d g m kp b .nil (fun _ _ _ _ _ _ _ h=>by obtain⟨_,_,_,_,_,_,_,_,_,_,_,_,_,z⟩:=h;exact z.elim) ha a i c |> fun h pins s σ H Q I j=>h pins s σ H Q I (by
  show t σ H fun vs l=>sp (vs++[]) l Q (noX []);simpa only[List.append_nil]using j)
def UV{h:FX}{c:TA}{fa:AF}(a:SA K c fa):SE K (xN (spX K h) noX c) (fX h fa):=by
 intro s M x M' b W H σ Q G R k;obtain⟨⟨xs,M1⟩,d,b⟩:=aI b;obtain⟨⟨r,M2⟩,f,b⟩:=aI b;refine a _ _ _ _ d W H σ _ G R fun vs g t i j l=>?_;refine⟨xs,M1,g,r,M2,j,l,f,fun m n o p=>?_⟩;cases r with
 |x e=>cases b
 |v y=>cases b;exact fun v q=>k v m n (i.trans o) p q
end
def jO{ι:Type}{X:ι->Cx}{e:Uc}{es:T8}{pos:Pos}{F:FX}(C:∀i,jX (X i).prog (X i).w (X i).K (X i).mg (X i).base k x ps (spX K F))(a:∀i,cG k (X i).A)(y:MA K X (e::es) fa)(b:∀i,Gl (X i) x:=by intro _;rfl)(hd:(x==("__debug__":Str))=false:=by decide):
 ME K X (.Call (.Name x p) (e::es) [] pos) (fX F fa):=by
 obtain⟨u,c,d⟩:=y.ex;exact⟨_,fun i=>aAo (C i) (a i) (c i) (b i) hd (y.st.1 _)<|y.st.2.plain _ _,UV d⟩
section
variable{K:Fg}{cv:Tx}{a:Str}{b:Bool}{l:Tv (Str×Bool)}
def rG:∀p∈([]:Tv (Str×Bool)),PySem.W.exmOne K (.ref (bZ K p.1)) cv=Z p.2:=fun _ h=>absurd h (by simp)
def fF(h:PySem.W.exmOne K (.ref (bZ K a)) cv=Z b)(r:∀p∈l,PySem.W.exmOne K (.ref (bZ K p.1)) cv=Z p.2):∀p∈(a,b)::l,PySem.W.exmOne K (.ref (bZ K p.1)) cv=Z p.2:=by grind
def TU{b:Bool}(h:PySem.W.kitOne K (.type "NoneType") cv=Z b):∀c,Z b=Z c->PySem.W.kitOne K (.type "NoneType") cv=Z c:=fun c e=>by cases e;exact h
def SR(h:PySem.W.nsIn K mainGlobals nm=Z (Z (.ref C))):bZ K nm=C:=by unfold bZ;rw[h]
end
mutual
noncomputable def snap:Nat->Sto->CD->Tw Tz
 |_,_,.d x=>Z x
 |0,_,.c _=>Y
 |n+1,M,.c i=>match M[i]? with
  |some (.lst xs)=>(sO n M xs).bind fun ds=>Z (.list ds)
  |_=>Y
 |_,_,.f _=>Y
 |_,_,.g _=>Y
 |0,_,.t _=>Y
 |n+1,M,.t xs=>(sO n M<|xs.map cdA).bind fun ds=>Z (.tuple ds)
noncomputable def sO:Nat->Sto->T6->Tw (T4)
 |_,_,[]=>Z []
 |n,M,x::xs=>(snap n M x).bind fun d=>(sO n M xs).bind fun ds=>Z (d::ds)
end
section
variable{K:Fg}{W:Wd}{M:Sto}{H:Hp}
def Good.lstAt'(G:Good K W M H){i:Nat}(h:M[i]?=Z (.lst xs)):∃vs,H (W.α i)=Z (.lst vs)/\cM K W xs vs:=by
 obtain⟨_,o,b,a⟩:=G.cs i _ h (by intro z;cases z);cases o with
 |lst vs=>exact⟨vs,b,a⟩
 |_=>exact False.elim a
mutual
theorem AW(G:Good K W M H):∀(n:Nat)(x:CD)(d:Tz)(v:V),snap n M x=Z d->cL K W x v->Rep K H d v
 |0,.d x=>fun d v h r=>by unfold snap at h;cases h;exact Rep.same G.fh _ _ r
 |n+1,.d x=>fun d v h r=>by unfold snap at h;cases h;exact Rep.same G.fh _ _ r
 |0,.c i=>fun d v h r=>by unfold snap at h;cases h
 |n+1,.c i=>fun d v h r=>by
  unfold snap at h;cases e:M[i]? with
  |none=>rw[e]at h;cases h
  |some c=>
   rw[e]at h;cases c with
   |lst xs=>
    obtain⟨ds,b,h⟩:=aI (show(sO n M xs).bind _=_ from h);cases h;obtain⟨vs,j,l⟩:=G.lstAt' e;exact⟨W.α i,vs,r.2,SqL.of j,yG G n xs ds vs b l⟩
   |_=>cases h
 |0,.f xs=>fun d v h r=>by unfold snap at h;cases h
 |n+1,.f xs=>fun d v h r=>by unfold snap at h;cases h
 |0,.g xs=>fun d v h r=>by unfold snap at h;cases h
 |n+1,.g xs=>fun d v h r=>by unfold snap at h;cases h
 |0,.t xs=>fun d v h r=>by unfold snap at h;cases h
 |n+1,.t xs=>fun d v h r=>by
  unfold snap at h;obtain⟨ds,b,h⟩:=aI h;cases h;obtain⟨a,vs,rfl,j,l⟩:=r;exact⟨a,vs,rfl,SqT.of<|G.fh _ _ j,yG G n _ ds vs b<|TC l⟩
theorem yG(G:Good K W M H):∀(n:Nat)(xs:T6)(ds:T4)(vs:Tc),sO n M xs=Z ds->cM K W xs vs->aM K H ds vs
 |_,[]=>fun ds vs h r=>by
  unfold sO at h;cases h;cases r;rfl
 |n,x::xs=>fun ds vs h r=>by
  unfold sO at h;obtain⟨d,b,h⟩:=aI h;obtain⟨es,j,h⟩:=aI h;cases h;cases r with
  |@cons _ v _ k m o=>exact⟨v,k,rfl,AW G n x d v b m,yG G n xs es k j o⟩
end
end
def ZA:snap n M (.d x)=Z x:=by cases n<;>simp only[snap]
open PySem PySem.Spec PyProof.Rows PySem.Builtin PySem.Builtin.ObjectAttr
end L2
namespace L2
variable{W:Wd}{H:Hp}{M:Sto}
open PySem PySem.Spec PyProof.Rows
def unt(H:Hp)(e:Ub):Hp:=fun b=>if b=e then Y else H b
def oB{a b:Ub}(h:b≠a):unt H a b=H b:=by unfold unt;rw[B0 h]
def rR:unt H a a=Y:=by unfold unt;rw[A4 rfl]
section
variable{X:Cx}{pins:T2}{σ:St}{H:Hp}{s:Ua}
def Inv.untrack(I:Inv X pins σ H s)(f:H e=Z (.ext d)):Inv X pins σ (unt H e) s:=by
 have up:∀b,H b=Y->unt H e b=Y:=fun b q=>by
  by_cases z:b=e
  .rw[z,rR]
  .rw[oB z];exact q
 have a:∀b u,H b=Z u->(∀g,u≠.ext g)->b≠e:=fun b u q n z=>by
  rw[z,f]at q;cases q;exact n d rfl
 refine⟨I.ok,I.os,I.bare,⟨I.base.keep,I.base.slot,fun b o q n hx=>up b<|I.base.free b o q n hx,I.base.there,fun b xs q=>?_,fun b o u q=>?_,fun b ps q=>?_⟩,I.loc,I.cell,up _ I.free,fun x c q=>up _<|I.freeC x c q,fun p h=>?_,fun b u q=>?_,I.len⟩
 .have:=I.base.tups b xs q;rw[oB (a _ _ this fun _ z=>by cases z)];exact this
 .have:=I.base.frzs b o u q;rw[oB (a _ _ this fun _ z=>by cases z)];exact this
 .obtain⟨more,this⟩:=I.base.tbls b ps q;exact⟨more,by rw[oB (a _ _ this fun _ z=>by cases z)];exact this⟩
 .obtain⟨i,j,k⟩:=I.pin p h;exact⟨i,up _ j,k⟩
 .have l:b≠e:=fun z=>by rw[z,rR]at q;cases q
  rw[oB l]at q;exact(I.hok b u q).stay (fun _ _ _ z=>z) (fun c z=>by rw[oB (a _ _ z fun _ w=>by cases w)];exact z) fun c xs z=>by rw[oB (a _ _ z fun _ w=>by cases w)];exact z
def Inv.newX(I:Inv X pins σ H s)(mk:Heap.MadeExcOf s.heap h' e (.ref C) us):H e=Y/\Inv X pins σ (upd H e (.ext (AV e (.ref C) Y true))) { s with heap:=h' }:=by
 have hn:H e=Y:=by
  cases z:H e with
  |none=>rfl
  |some u=>
   obtain⟨o,a⟩:=(I.hok e u z).there;rw[mk.new]at a;cases a
 obtain⟨t,d,_,_⟩:=mk.there;refine⟨hn,I.un (t':=s.toks) ⟨fun b o q _ _ _=>mk.keeps b o q,fun b o q _ _ _=>⟨o.slots,mk.keeps b o q⟩,fun b o q n _=>?_,fun b o q _=>⟨o,mk.keeps b o q⟩,fun b xs q=>?_,fun b o u q=>?_,fun b ps q=>?_⟩ fun b u q=>?_⟩
 .rw[aN (fun z=>by rw[z,mk.new]at q;cases q)];exact n
 .rw[aN (aO q hn)];exact q
 .rw[aN (aO q hn)];exact q
 .exact⟨#[],by rw[aN (aO q hn),q];simp⟩
 .by_cases f:b=e
  .subst f;rw[aW]at q;cases q;exact⟨⟨_,_,d,rfl,rfl,rfl,fun _=>⟨by show 4<6;decide,rfl,rfl⟩,fun _=>rfl⟩,⟨_,d⟩,fun j k ⟨o',ws,g,h⟩ i=>⟨o',ws,i o' g,h⟩⟩
  .rw[aN f]at q;exact(I.hok b u q).stay (fun c v _ r=>mk.keeps c v r) (fun c r=>by rw[aN (aO r hn)];exact r) fun c xs r=>by rw[aN (aO r hn)];exact r
end
section
variable{K:Fg}
noncomputable def aJm(ds:T4)(n:Nat):T4:=(List.replicate n ds).flatten
theorem FG{b:Type}:∀(l:Tv (Tv b))(a:Tv b),(l.map List.toArray).foldl (fun x1 c=>x1++c) a.toArray=(a++l.flatten).toArray
 |[]=>fun a=>by simp
 |x::l=>fun a=>by
  rw[C0,Y1];have:a.toArray++x.toArray=(a++x).toArray:=by simp
  rw[this,FG l (a++x),Z4,B7]
theorem KR(r:bG vs us):∀n:Nat,bG (List.replicate n vs).flatten (List.replicate n us).flatten
 |0=>.nil
 |n+1=>by rw[Y6,Y6,Z4,Z4];exact r.append<|KR r n
end
section
variable{K:Fg}
theorem BV{H:Hp}(h:aM K H as vs):∀n:Nat,aM K H (aJm as n) (List.replicate n vs).flatten
 |0=>by rfl
 |n+1=>by
  unfold aJm;rw[Y6,Y6,Z4,Z4];exact aM.app h<|BV h n
def ZL(K:Fg)(c:Tx)(tab:Tv (Str×Bool)):Bool:=tab.all fun p=>match PySem.W.kitOne K (.ref (bZ K p.1)) c with
 |some b=>b==p.2
 |none=>false
def TJ{a:Tb}(hx:∀nm∈a,XC K<|bZ K nm)(h:ZL K c tab=true)(e:tab.map Prod.fst=a):∀p∈tab,XC K (bZ K p.1)/\PySem.W.kitOne K (.ref (bZ K p.1)) c=Z p.2:=by
 intro p d;refine⟨hx _ (by grind),?_⟩;have:=List.all_eq_true.mp h p d;split at this
 .rename_i b f;rw[f,eq_of_beq this]
 .cases this
def aDH:∀nm∈([]:Tb),XC K (bZ K nm):=fun _ h=>absurd h (by simp)
def JZ{l:Tb}(x:XC K (bZ K a))(r:∀nm∈l,XC K<|bZ K nm):∀nm∈a::l,XC K (bZ K nm):=by grind
end
abbrev KY:=Key ⊕ Tv Key
abbrev KF:=Ga->Sto->Tw (KY×Sto)
def VB(W:Wd):KY->V->Prop
 |.inl k,v=>v=kV k
 |.inr ks,v=>∃b,v=.ref b/\W.F b=Z (.tup (ks.map kV))
def VB.up(h:VB W k v)(e:W.Ext W'):VB W' k v:=by
 cases k with
 |inl k=>exact h
 |inr ks=>obtain⟨b,a,c⟩:=h;exact⟨b,a,e.ff _ _ c⟩
section
variable{K:Fg}
def SK(K:Fg)(t:TE)(f:KF):Prop:=∀a M k M',f a M=Z (k,M')->∀(W:Wd)(H:Hp)(b:St)(Q:VK),Good K W M H->cP K W a b->(∀v W' H',W.Ext W'->Good K W' M' H'->VB W' k v->Q v H')->t b H Q
def dS(f:EF):KF:=fun a M=>(f a M).bind fun r=>(keyOf r.1).bind fun k=>Z (.inl k,r.2)
variable{t td ty tx tv:TE}{tA:TA}{f fo fx fv:EF}{fk:KF}{fa:AF}
def aGK(a:SE K t f):SK K t (dS f):=by
 intro n M k M' b W H d Q G R c;obtain⟨⟨x,M1⟩,e,b⟩:=aI b;obtain⟨o,g,b⟩:=aI b;cases b;exact a _ _ _ _ e W H d _ G R fun v h i j l m=>c v h i j l<|FR g m
section
variable{κ:Type}[DecidableEq κ]
noncomputable def lkC(kvs:Tv (κ×CD))(k:κ):Te:=(kvs.find? fun a=>decide (a.1=k)).map (·.2)
noncomputable def putD(kvs:Tv (κ×CD))(k:κ)(v:CD):Tv (κ×CD):=
 if (kvs.any fun a=>decide (a.1=k))=true then kvs.map (fun a=>if a.1=k then(a.1,v)else a)else kvs++[(k,v)]
abbrev PKV(K:Fg)(W:Wd)(kvs:Tv (κ×CD))(us:Tv (κ×V)):Prop:=Paired (fun p q=>p.1=q.1/\cL K W p.2 q.2) kvs us
theorem IV{W:Wd}:∀{kvs:Tv (κ×CD)}{us:Tv (κ×V)},PKV K W kvs us->OL K W (lkC kvs k) (jI us k)
 |_,_,.nil=>True.intro
 |_,_,.cons (a:=p) (b:=q) (l₁:=ps) (l₂:=qs) r1 r2=>by
  by_cases h:p.1=k
  .have h':=r1.1▸h;rw[show lkC (p::ps) k=Z p.2 by simp[lkC,List.find?_cons,h],show jI (q::qs) k=Z q.2 by simp[jI,List.find?_cons,h']];exact r1.2
  .have h':=r1.1▸h;rw[show lkC (p::ps) k=lkC ps k by simp[lkC,List.find?_cons,h],show jI (q::qs) k=jI qs k by simp[jI,List.find?_cons,h']];exact IV r2
theorem MY{W:Wd}{k:κ}:∀{kvs:Tv (κ×CD)}{us:Tv (κ×V)},PKV K W kvs us->(kvs.any fun a=>decide (a.1=k))=us.any fun a=>decide (a.1=k)
 |_,_,.nil=>rfl
 |_,_,.cons b c=>by rw[U5,U5,MY c,b.1]
theorem MN{W:Wd}{k:κ}(d:cL K W x v):∀{kvs:Tv (κ×CD)}{us:Tv (κ×V)},PKV K W kvs us->PKV K W (kvs.map fun b=>if b.1=k then(b.1,x)else b) (us.map fun b=>if b.1=k then(b.1,v)else b)
 |_,_,.nil=>.nil
 |_,_,.cons (a:=p) c r2=>by
  rw[C0,C0];refine .cons ?_ (MN d r2);by_cases h:p.1=k
  .rw[A4 h,A4 (c.1▸h)];exact⟨c.1,d⟩
  .rw[B0 h,B0 (c.1▸h)];exact c
def FL{k:κ}{x:CD}{v:V}{kvs:Tv (κ×CD)}{us:Tv (κ×V)}(r:PKV K W kvs us)(a:cL K W x v):PKV K W (putD kvs k x) (putK us k v):=by
 unfold putD putK;rw[MY r];split
 .exact MN a r
 .exact Paired.app r (.cons ⟨rfl,a⟩ .nil)
end
noncomputable def lkP(kvs:Tv (Tv Key×Tz))(k:Tv Key):Tw Tz:=(kvs.find? fun a=>decide (a.1=k)).map (·.2)
theorem KN{W:Wd}:∀{kvs:Tv (Tv Key×Tz)}{us:Tv (Tv Key×V)},Paired (fun p q=>p.1=q.1/\Rep K W.F p.2 q.2) kvs us->OL K W ((lkP kvs k).map .d) (jI us k)
 |_,_,.nil=>True.intro
 |_,_,.cons (a:=p) (b:=q) (l₁:=ps) (l₂:=qs) r1 r2=>by
  by_cases h:p.1=k
  .have h':=r1.1▸h;rw[show lkP (p::ps) k=Z p.2 by simp[lkP,List.find?_cons,h],show jI (q::qs) k=Z q.2 by simp[jI,List.find?_cons,h']];exact r1.2
  .have h':=r1.1▸h;rw[show lkP (p::ps) k=lkP ps k by simp[lkP,List.find?_cons,h],show jI (q::qs) k=jI qs k by simp[jI,List.find?_cons,h']];exact KN r2
def atD(M:Sto):CD->KY->Tw (Te)
 |.c i,.inl k=>match M[i]? with
  |some (.dk kvs)=>Z<|lkC kvs k
  |_=>Y
 |.c i,.inr ks=>match M[i]? with
  |some (.dt kvs)=>Z<|lkC kvs ks
  |_=>Y
 |.f kvs,.inr ks=>Z<|(lkP kvs ks).map .d
 |_,_=>Y
def wX(M:Sto):CD->KY->CD->Tw Sto
 |.c i,.inl k,x=>match M[i]? with
  |some (.dk kvs)=>if kvs.length<sizeLine then Z (M.set i (.dk (putD kvs k x)))else Y
  |_=>Y
 |.c i,.inr ks,x=>match M[i]? with
  |some (.dt kvs)=>if kvs.length<sizeLine then Z (M.set i (.dt (putD kvs ks x)))else Y
  |_=>Y
 |_,_,_=>Y
def Good.dkAt{i:Nat}{kvs:Tv (Key×CD)}(G:Good K W M H)(h:M[i]?=Z (.dk kvs)):∃us,H (W.α i)=Z (.dK us)/\PKV K W kvs us:=by
 obtain⟨_,o,b,a⟩:=G.cs i _ h (by simp);cases o<;>first|exact⟨_,b,a⟩|exact False.elim a
def Good.dtAt{i:Nat}{kvs:Tv (Tv Key×CD)}(G:Good K W M H)(h:M[i]?=Z (.dt kvs)):∃us,H (W.α i)=Z (.dT us)/\PKV K W kvs us:=by
 obtain⟨_,o,b,a⟩:=G.cs i _ h (by simp);cases o<;>first|exact⟨_,b,a⟩|exact False.elim a
def HL{r:Te}(G:Good K W M H)(h:atD M x k=Z r)(e:cL K W x v)(g:VB W k y):∃a o,v=.ref a/\vT H a y o/\OL K W r o:=by
 unfold atD at h;split at h
 .rename_i i m;split at h
  .rename_i kvs j;cases h;obtain⟨us,c,d⟩:=G.dkAt j;refine⟨_,_,e.2,?_,IV d⟩;rw[show y=kV m from g];exact vT.k c
  .cases h
 .rename_i i ks;split at h
  .rename_i kvs j;cases h;obtain⟨us,c,d⟩:=G.dtAt j;obtain⟨b,rfl,l⟩:=g;exact⟨_,_,e.2,vT.t c<|G.fh _ _ l,IV d⟩
  .cases h
 .rename_i kvs ks;cases h;obtain⟨a,o,us,rfl,c,d⟩:=e;obtain⟨b,rfl,l⟩:=g;exact⟨_,_,rfl,.inr ⟨us,ks,b,.inr ⟨o,G.fh _ _ c⟩,rfl,G.fh _ _ l,rfl⟩,KN d⟩
 .cases h
def NM{M':Sto}(G:Good K W M H)(h:wX M x k z=Z M')(j:cL K W x v)(l:VB W k y)(m:cL K W z u):∃a H',v=.ref a/\DL H a y u H'/\Good K W M' H':=by
 unfold wX at h;split at h
 .rename_i o i n;split at h
  .rename_i kvs d;by_cases c:kvs.length<sizeLine
   .rw[A4 c]at h;cases h;obtain⟨us,g,e⟩:=G.dkAt d;refine⟨_,_,j.2,?_,G.set d (by simp) (o':=.dK (putK us n u))<|FL e m⟩;rw[show y=kV n from l];exact DL.k g (by rw[<- Paired.len e];exact c)
   .rw[B0 c]at h;cases h
  .cases h
 .rename_i o i ks;split at h
  .rename_i kvs d;by_cases c:kvs.length<sizeLine
   .rw[A4 c]at h;cases h;obtain⟨us,g,e⟩:=G.dtAt d;obtain⟨b,rfl,p⟩:=l;exact⟨_,_,j.2,DL.t g (G.fh _ _ p) (by rw[<- Paired.len e];exact c),G.set d (by simp)<|FL e m⟩
   .rw[B0 c]at h;cases h
  .cases h
 .cases h
def xK:EF:=fun _ M=>Z (.c M.length,M++[.dk []])
def gI(fo:EF)(fk:KF):EF:=fun a M=>(fo a M).bind fun o=>(fk a o.2).bind fun k=>(atD k.2 o.1 k.1).bind fun r=>r.bind fun x=>Z (x,k.2)
def qP(neg:Bool)(fk:KF)(fo:EF):EF:=fun a M=>(fk a M).bind fun k=>(fo a k.2).bind fun o=>(atD o.2 o.1 k.1).bind fun r=>Z (.d (.bool (if neg then !r.isSome else r.isSome)),o.2)
def hG(fo:EF)(fk:KF)(fv:EF):SF:=fun a M=>(fv a M).bind fun v=>(fo a v.2).bind fun o=>(fk a o.2).bind fun k=>(wX k.2 o.1 k.1 v.1).bind fun M'=>Z (.nx a,M')
def ZS:SE K PF xK:=by
 intro c M x M' a W H d Q G R k;cases a;exact fun p b=>k _ (W.more p) _ (W.ext_more p) (G.new b .nil) G.newV
def aDh(a:SE K td fo)(b:SK K ty fk):SE K (aGb td ty) (gI fo fk):=by
 intro I M x M' c W H d Q G R k;obtain⟨⟨o,M1⟩,l,c⟩:=aI c;obtain⟨⟨J,M2⟩,m,c⟩:=aI c;obtain⟨r,n,c⟩:=aI c;obtain⟨z,q,c⟩:=aI c;cases c;subst q;refine a _ _ _ _ l W H d _ G R fun v s w e A B=>b _ _ _ _ m s w d _ A (R.up e) fun y C D h i E=>?_;obtain⟨p,F,ev,g,j⟩:=HL i n (B.up h) E;cases F with
 |none=>exact False.elim j
 |some u=>exact⟨p,u,ev,g,k u C D (e.trans h) i j⟩
def GG(h:OL K W r o):o.isSome=r.isSome:=by
 cases r<;>cases o<;>first|rfl|exact False.elim h
def aGW(b:SK K ty fk)(a:SE K td fo):SE K (aLH ty td) (qP false fk fo):=by
 intro D M x M' c W H d Q G R k;obtain⟨⟨E,M1⟩,j,c⟩:=aI c;obtain⟨⟨o,M2⟩,l,c⟩:=aI c;obtain⟨r,m,c⟩:=aI c;cases c;refine b _ _ _ _ j W H d _ G R fun y n q e s u=>a _ _ _ _ l n q d _ s (R.up e) fun v w z h i A=>?_;obtain⟨p,B,ev,g,C⟩:=HL i m A<|u.up h;refine⟨p,B,ev,g,k _ w z (e.trans h) i ?_⟩;show _=V.bl r.isSome;rw[GG C]
def UT(b:SK K ty fk)(a:SE K td fo):SE K (RJ ty td) (qP true fk fo):=by
 intro D M x M' c W H d Q G R k;obtain⟨⟨E,M1⟩,j,c⟩:=aI c;obtain⟨⟨o,M2⟩,l,c⟩:=aI c;obtain⟨r,m,c⟩:=aI c;cases c;refine b _ _ _ _ j W H d _ G R fun y n q e s u=>a _ _ _ _ l n q d _ s (R.up e) fun v w z h i A=>?_;obtain⟨p,B,ev,g,C⟩:=HL i m A<|u.up h;refine⟨p,B,ev,g,k _ w z (e.trans h) i ?_⟩;show _=V.bl (!r.isSome);rw[GG C]
def aDk(a:SE K td fo)(b:SK K ty fk)(c:SE K tv fv):SS K (aGa td ty tv) (hG fo fk fv):=by
 intro P M o M' d W H e D G R k;obtain⟨⟨z,M1⟩,m,d⟩:=aI d;obtain⟨⟨x,M2⟩,n,d⟩:=aI d;obtain⟨⟨Q,S⟩,q,d⟩:=aI d;obtain⟨T,r,d⟩:=aI d;cases d;refine c _ _ _ _ m W H e _ G R fun u s w h A B=>a _ _ _ _ n s w e _ A (R.up h) fun v C E i F I=>b _ _ _ _ q C E e _ F (R.up<|h.trans i) fun y J U j L N=>?_;obtain⟨p,l,ev,g,O⟩:=NM L r (I.up j) N<|(B.up i).up j;exact⟨p,l,ev,g,k J l ((h.trans i).trans j) O e<|R.up<|(h.trans i).trans j⟩
end
section
variable{ι:Type}
structure MK(K:Fg)(X:ι->Cx)(e:Uc)(f:KF):Prop where
 ex:∃t,(∀i,PE (X i) e t)/\SK K t f
variable{K:Fg}{X:ι->Cx}{e o i a b:Uc}{es:T8}{f g fx:EF}{fk:KF}{fa:AF}{pos:Pos}
def mk_one(x:ME K X e f):MK K X e (dS f):=by
 obtain⟨t,c,d⟩:=x.ex;exact⟨_,c,aGK d⟩
def LM:ME K X (.Dict [] [] pos) xK:=⟨_,fun _=>LF,ZS⟩
def nA(c:∀j,(X j).A.units+1<cLine)(x:ME K X o f)(y:MK K X i fk)(hs:aIq i:=by intro _ _;rfl):ME K X (.Subscript o i pos) (gI f fk):=by
 obtain⟨t,d,h⟩:=x.ex;obtain⟨u,k,l⟩:=y.ex;exact⟨_,fun j=>aCU (c j) (d j) (k j) hs,aDh h l⟩
def PY(c:∀j,(X j).A.units+1<cLine)(y:MK K X i fk)(x:ME K X o f)(hm:behindInMarks .In o=false:=by rfl):MT K X (.Compare i [.In] [o] pos) (gB<|qP false fk f):=by
 obtain⟨t,d,h⟩:=x.ex;obtain⟨u,k,l⟩:=y.ex;exact⟨_,fun j=>aCh (aIh (c j) (k j)<|d j) hm,aDg<|aGW l h⟩
def yI(c:∀j,(X j).A.units+1<cLine)(y:MK K X i fk)(x:ME K X o f)(hm:behindInMarks .NotIn o=false:=by rfl):MT K X (.Compare i [.NotIn] [o] pos) (gB<|qP true fk f):=by
 obtain⟨t,d,h⟩:=x.ex;obtain⟨u,k,l⟩:=y.ex;exact⟨_,fun j=>aCh (XA (c j) (k j)<|d j) hm,aDg<|UT l h⟩
def vV(d:∀j,(X j).A.units+1<cLine)(x:ME K X o f)(y:MK K X i fk)(z:ME K X e g)(hs:∀j,swapsWith e (Z (.Subscript o i c)) pos.line (X j).env=pure false:=by intro _;rfl):MS K X (.Assign [.Subscript o i c] e pos) (hG f fk g):=by
 obtain⟨t,h,k⟩:=x.ex;obtain⟨u,l,m⟩:=y.ex;obtain⟨v,n,p⟩:=z.ex;exact⟨_,fun j=>aDB (d j) (h j) (l j) (n j)<|hs j,aDk k m p⟩
end
end L2
namespace PySem
open Sem (wp)
open AutoSeq1 (wpAny_loadPart')
section
variable{prog:Ud}{w:World}{A:Ue}{E:T0}{s:Ua}
def tV{items}{x:Tx}{Q:T0}(a:s.heap.IsTupleIter it l i)(e:s.heap.IsTuple l items)(hx:items[i]?=Z x)
 (f:∀h',h'.IsTupleIter it l (i+1)->Heap.SameBut it s.heap h'->Q x { s with heap:=h' }):wpAny (model prog w) A (Builtin.SmallTypes.nextOf (.ref it)) Q E s:=by
 obtain⟨o,b,g,hd⟩:=id a;obtain⟨h,c,_,j,d⟩:=e;refine A0<|F7 a.typeIs J7<|O7 J7 a.typeIs A0h ?_<|A0d _;show wpAny _ _ (field (.ref it) 0 >>= _) _ _ s;refine A0<|E1 b hd rfl ?_;refine A0<|E1 b hd rfl ?_;refine A0<|Y3 c d ?_;simp only[Int.toNat_natCast,hx];refine A0<|Z0 b hd (by simp)<|B2 ⟨x,rfl,B2<|f _ ?_<|Heap.SameBut.update ..⟩;exact⟨_,S3 _ b<|A0w<|U0 hd _,(Obj.cls_mapFields ..).trans g,by rw[U0 hd];simp[rawInt]⟩
def xS{items}{Q:T0}(f:A.handled=Y)(a:s.heap.IsTupleIter it l i)(g:s.heap.IsTuple l items)(hx:items[i]?=Y)
 (h:∀h' e,Heap.ExtBut it s.heap h'->(∃o,h'.get? e=Z o/\o.cls=.type "StopIteration")->E (.ref e) { s with heap:=h' }):wpAny (model prog w) A (Builtin.SmallTypes.nextOf (.ref it)) Q E s:=by
 obtain⟨o,b,j,hd⟩:=id a;obtain⟨k,c,_,m,d⟩:=g;refine A0<|F7 a.typeIs J7<|O7 J7 a.typeIs A0h ?_<|A0d _;show wpAny _ _ (field (.ref it) 0 >>= _) _ _ s;refine A0<|E1 b hd rfl ?_;refine A0<|E1 b hd rfl ?_;refine A0<|Y3 c d ?_;simp only[Int.toNat_natCast,hx];refine A0<|wpAny_rule<|A0<|Z0 b hd (by simp) ?_;refine A0 ?_;refine A0<|I0 ?_ (by size_fits);refine A0<|wpAny_of_eq rfl ?_;refine I0 ?_ (by size_fits);refine A0<|wpAny_handled ?_
 first|rw[show A.in1.handled=Y from f]|rw[f]
 refine A0<|B2<|wpAny_throw ?_;exact h _ _ (((Heap.SameBut.update ..).extBut.push _).push _) ⟨_,C6 _ rfl,rfl⟩
end
def XN{A:Ue}(hh:A.handled=Y)(it l:Ub)(hne:l≠it)(items:Ti):
 Draws prog w A it [it,l] items.size (fun i v=>items[i]?=Z v) (fun i h=>h.IsTupleIter it l i/\h.IsTuple l items) where
 live:=fun _ _ st=>let⟨o,ho,_⟩:=st.1;⟨o,ho⟩
 frame:=fun _ _ _ st hk=>⟨st.1.at fun o e=>hk it (by simp) o e,let⟨o,ho,r⟩:=st.2;⟨o,hk l (by simp) o ho,r⟩⟩
 item:=fun i s Q E hi st hQ=>by
  refine tV st.1 st.2 (x:=items[i]) (by simp[hi]) fun h' hit' hs'=>?_;exact hQ _ h' s.toks (by simp[hi]) ⟨hit',let⟨o,ho,r⟩:=st.2;⟨o,(hs'.2 l hne).trans ho,r⟩⟩ hs'
 done:=fun s Q E st hE=>xS hh st.1 st.2 (by simp) hE
def CC(l:Ub)(items:Ti)(n:Nat)(b:Th)(sl:Array (Tf)):
 Meets (Builtin.«enumerate.__new__» ⟨[.type "enumerate",.ref l],[]⟩) (fun _ R s=>s.heap.get? l=Z { cls:=.type "tuple",dict:=b,data:=.seq items n,slots:=sl } /\
  R (.ok (.ret (.ref (s.heap.push { cls:=.type "tuple_iterator",data:=.fields #[.ref l,.int 0 0] }).objs.size)))
   { s with heap:=(s.heap.push { cls:=.type "tuple_iterator",data:=.fields #[.ref l,.int 0 0] }).push { cls:=.type "enumerate",data:=.fields #[.none,.bool false,.ref s.heap.objs.size,rawInt 0,.none,.none] } }):=
 .of_wp fun prog w A R s h=>by
  obtain⟨i,g,d,j,os⟩:=s;obtain⟨a,h⟩:=h;have f:=sub_enumerate;have e:Heap.IsTuple (Shared.heap ⟨i,g,d,j,os⟩) l items:=⟨_,a,rfl,n,rfl⟩
  wp_walk using S8 a
  refine wpAny_stack_any fun st=>B2 ?_;split
  .rename_i c _ _ _ _ _;cases (c==Value.type "enumerate")
   .wp_walk using S8 a,Z8 e
    exact⟨_,rfl,h⟩
   .wp_walk using S8 a,Z8 e
    exact⟨_,rfl,h⟩
  .wp_walk using S8 a,Z8 e
   exact⟨_,rfl,h⟩
section
variable{prog:Ud}{w:World}{A:Ue}{E:T0}{s:Ua}
def DW{Q:T0}(g:s.heap.IsTuple l items)
 (h:∀h',IsEnum h' (s.heap.objs.size+1) s.heap.objs.size 0 .none->h'.IsTupleIter s.heap.objs.size l 0->h'.objs.size=s.heap.objs.size+2->
  (∀b o,s.heap.get? b=Z o->h'.get? b=Z o)->Q (.ref (s.heap.objs.size+1)) { s with heap:=h' }):
 wpAny (model prog w) A (call (.type "enumerate") [.ref l]) Q E s:=by
 obtain⟨⟨c,a,dt,sl⟩,i,d,n,hd⟩:=g
 replace d:c=.type "tuple":=d
 replace hd:dt=.seq items n:=hd
 subst d hd
 refine callType_new F.called_enumerate (by decide) (F.typeCall_enumerate_1 _) (F.newCall_enumerate_1 _) (fun obj=>F.args_object_init_2 obj _) F.entry_enumerate_new
  (CC l items n a sl) ⟨i,?_⟩
 have e:(s.heap.push { cls:=.type "tuple_iterator",data:=.fields #[.ref l,.int 0 0] }).objs.size=s.heap.objs.size+1:=Heap.size_push ..;rw[e]
 have f:IsEnum ((s.heap.push { cls:=.type "tuple_iterator",data:=.fields #[.ref l,.int 0 0] }).push
  { cls:=.type "enumerate",data:=.fields #[.none,.bool false,.ref s.heap.objs.size,rawInt 0,.none,.none] }) (s.heap.objs.size+1) s.heap.objs.size 0 .none:=by
  have:=C6 (s.heap.push { cls:=.type "tuple_iterator",data:=.fields #[.ref l,.int 0 0] })
   (o:={ cls:=.type "enumerate",data:=.fields #[.none,.bool false,.ref s.heap.objs.size,rawInt 0,.none,.none] }) rfl
  rw[e]at this;exact this
 refine⟨⟨_,f,rfl⟩,h _ f ⟨_,A2 _<|C6 _ rfl,rfl,rfl⟩ (by simp) fun b o x=>A2 _<|A2 _ x⟩
end
end PySem
namespace L2
open PySem PySem.Spec PyProof.Rows
section
variable{X:Cx}{pins:T2}{σ:St}{H:Hp}{s:Ua}{h':Heap}
def Inv.turnLay{fp:Ta}{a:Ub}{t':Nat}(I:Inv X pins σ H s)(g:∀b∈fp,kO X pins H b)(k:∀b u,b∉fp->s.heap.get? b=Z u->h'.get? b=Z u)(hp:s.heap.objs.size<=a)(new:fM X.prog X.w (upd H a o) h' a o):
 Inv X pins σ (upd H a o) { s with heap:=h',toks:=t' }:=by
 have hn:=I.hok.fresh hp;have h:∀b u,H b=Z u->b∉fp:=fun b u e z=>by rw[(g b z).1]at e;cases e
 refine I.step (fun b f=>?_) (fun b o _ _ d e _=>k b o d e) (fun b o _ _ d e _=>⟨o.slots,k b o d e⟩) (fun b o _ e n=>?_) (fun b o d e=>⟨o,k b o d e⟩)
  (fun b xs e=>?_) (fun b o u e=>?_) (fun b ps e=>⟨#[],?_⟩) (fun m hm=>?_) ?_ I.bare
 .obtain⟨_,i,_,j,l,p⟩:=g b f;exact⟨j,i,l,p⟩
 .rw[aN (fun z=>by subst z;exact absurd (B3 e)<|Nat.not_lt.mpr hp)];exact n
 .rw[aN (aO e hn)];exact e
 .rw[aN (aO e hn)];exact e
 .rw[aN (aO e hn)];simpa using e
 .obtain⟨o,es,ep,t,r⟩:=hm;exact⟨o,es,ep,k _ o (fun z=>(g _ z).2.1 rfl) t,r⟩
 .intro b u e;by_cases f:b=a
  .subst f;rw[aW]at e;cases e;exact new
  .rw[aN f]at e;refine(I.hok b u e).stay (fun c v d q=>k c v ?_ q) (fun c q=>by rw[aN (aO q hn)];exact q) fun c xs q=>by rw[aN (aO q hn)];exact q
   rcases d with z|z
   .rw[z];exact h b _ e
   .exact h c _ z
def Inv.turnF{fp:Ta}{t':Nat}(I:Inv X pins σ H s)(d:∀b∈fp,kO X pins H b)(k:∀b u,b∉fp->s.heap.get? b=Z u->h'.get? b=Z u):Inv X pins σ H { s with heap:=h',toks:=t' }:=by
 have f:∀b u,H b=Z u->b∉fp:=fun b u e z=>by rw[(d b z).1]at e;cases e
 refine I.step (fun b g=>?_) (fun b o _ _ a e _=>k b o a e) (fun b o _ _ a e _=>⟨o.slots,k b o a e⟩) (fun _ _ _ _ n=>n) (fun b o a e=>⟨o,k b o a e⟩)
  (fun _ _ e=>e) (fun _ _ _ e=>e) (fun b ps e=>⟨#[],by simpa using e⟩) (fun m hm=>?_) (fun b u e=>?_) I.bare
 .obtain⟨_,h,_,i,j,l⟩:=d b g;exact⟨i,h,j,l⟩
 .obtain⟨o,es,ep,p,r⟩:=hm;exact⟨o,es,ep,k _ o (fun z=>(d _ z).2.1 rfl) p,r⟩
 .refine(I.hok b u e).stay (fun c v a q=>k c v ?_ q) (fun _ q=>q) fun _ _ q=>q;rcases a with z|z
  .rw[z];exact f b _ e
  .exact f c _ z
end
def Ite(Sq:Hp->Tc->Prop):It:=
 ⟨fun i H=>∃xs x,Sq H xs/\xs[i]?=Z x,fun i H v H'=>∃p x,H p=Y/\v=.ref p/\H'=upd H p (.tup [.int i,x])/\∀xs,Sq H xs->xs[i]?=Z x,fun i H=>∃xs,Sq H xs/\xs.length=i⟩
def tnE(e it:Ub)(It:Heap->Nat->Prop)(i:Nat)(h:Heap):Prop:=(∃a,IsEnum h e it i a)/\It h i
section
variable{P:Ud}{w:World}{K:Fg}{elts:T8}{x1:Nat}{tpos:Pos}
def FU{e it a:Ub}{Sq:Hp->Tc->Prop}{It:Heap->Nat->Prop}(hei:e≠it)
 (hobj:∀h i,It h i->∃o vs,h.get? it=Z o/\o.data=.fields vs) (hkeep:∀h h' i,It h i->(∀o,h.get? it=Z o->h'.get? it=Z o)->It h' i)
 (hinj:∀(X:Cx),X.K=K->∀pins σ H s,Inv X pins σ H s->∀xs ys,Sq H xs->Sq H ys->xs=ys)
 (draw:∀(X:Cx),X.prog=P->X.w=w->X.K=K->X.calm=true->∀pins σ H s,Inv X pins σ H s->∀xs,Sq H xs->(∃o vs,s.heap.get? it=Z o/\o.data=.fields vs)->(∃o vs,s.heap.get? e=Z o/\o.data=.fields vs)->∃(its:T5)(fp:Ta)(S:Nat->Heap->Prop),bG xs its/\e∉fp /\
  Draws P w X.A.in1 it fp its.length (fun i v=>its[i]?=Z v) S/\(∀i,It s.heap i->S i s.heap)/\∀i h,S i h->It h i):
 Turn P w K (.Tuple elts x1 tpos) (Ite Sq) [e,it] e (tnE e it It) where
 mem:=by simp
 obj:=fun i h st b hb=>by
  obtain⟨⟨old,h1⟩,h2⟩:=st;rcases List.mem_cons.mp hb with rfl|hb
  .exact⟨_,h1,fun v z=>by cases z⟩
  .obtain⟨o,vs,q1,q2⟩:=hobj _ _ h2;rw[List.mem_singleton.mp hb];exact⟨o,q1,fun v z=>by rw[q2]at z;cases z⟩
 keep:=fun i h h' st k=>by
  obtain⟨⟨old,h1⟩,h2⟩:=st;exact⟨⟨old,k e (by simp) _ h1⟩,hkeep _ _ _ h2 fun o q=>k it (by simp) o q⟩
 item:=by
  intro X hP hw hK hc i pins s σ H E I hf st hg;obtain⟨xs,x,hq,hx⟩:=hg;obtain⟨⟨old,he⟩,hit⟩:=st;obtain⟨its,fp,S,rv,hef,D,s1,s2⟩:=draw X hP hw hK hc pins σ H s I xs hq (hobj _ _ hit) ⟨_,_,he,rfl⟩;subst hP hw hK;obtain⟨u,hu,ru⟩:=rv.get hx;have hlt:=(List.getElem?_eq_some_iff.mp hu).1;refine wpAny_pyNext_enum_itemD D he (s1 _ hit) hlt hei hef fun v h1 tk hv ho st1 ht hsz hk=>⟨_,rfl,?_⟩;rw[hu]at hv;cases hv;refine wpAny_letOwnedTupleGo_enum ho fun h2 he2 sb=>?_;have ne:=A0n<|B3 he;have ht2:=(sb.2 _ ne).trans ht
  have I2:Inv X pins σ (upd H s.heap.objs.size (.tup [.int i,x])) { s with heap:=h2,toks:=tk+1 }:=by
   refine I.turnLay hf (fun b o hb q=>(sb.2 b fun z=>hb (by simp[z])).trans (hk b o (fun z=>hb (by simp[z])) (fun z=>hb (by simp[z])) q)) (A6 _) ⟨by show 2<=sizeLine;rw[E9];decide,[.int i tk,u],.cons ⟨tk,rfl⟩ (.cons ru .nil),⟨_,ht2,rfl,_,rfl⟩⟩
  refine⟨.ref s.heap.objs.size,_,I2,rfl,⟨_,x,I.hok.fresh<|A6 _,rfl,rfl,fun ys hy=>by rw[hinj X rfl _ _ _ _ I ys xs hy hq];exact hx⟩,⟨⟨_,by have:=he2;push_cast;exact this⟩,?_⟩,fun b hb=>?_⟩
  .exact hkeep _ _ _ (s2 _ _ st1) fun o q=>(sb.2 it<|O0 hei).trans q
  .have hb0:=(hf b hb).1;rw[aN fun z=>?_]
   .exact hb0
   .subst z;rcases List.mem_cons.mp hb with q|q
    .exact ne q
    .obtain⟨o,vs,q1,_⟩:=hobj _ _ hit;rw[<- List.mem_singleton.mp q]at q1;exact absurd (B3 q1)<|E3 _
 done:=by
  intro X hP hw hK hc i pins s σ H E I hf st hg;obtain⟨xs,hq,hx⟩:=hg;obtain⟨⟨old,he⟩,hit⟩:=st;obtain⟨its,fp,S,rv,hef,D,s1,s2⟩:=draw X hP hw hK hc pins σ H s I xs hq (hobj _ _ hit) ⟨_,_,he,rfl⟩;subst hP hw hK;have hl:=rv.length;rw[hl]at hx;subst hx;exact wpAny_pyNext_enum_endD D he (s1 _ hit) fun h1 hx=>⟨rfl,I.turnF hf fun b o hb q=>hx b o (fun z=>hb (by simp[z])) q⟩
 self:=fun A i s Q E st h=>by
  obtain⟨⟨old,he⟩,_⟩:=st;exact wpAny_pyIter_enum he h
def OK{e it:Ub}(c:e≠it):Turn P w K (.Tuple elts x1 tpos) (Ite fun H xs=>SqL K H a xs) [e,it] e (tnE e it fun h i=>h.IsListIter it a i):=by
 refine FU (a:=a) c (fun h i st=>?_) (fun h h' i st k=>st.at k) (fun X f pins m H s I xs D r t=>?_) fun X u v f x pins m H s I xs y hi B=>?_
 .obtain⟨o,q,_,d⟩:=st;exact⟨o,_,q,d⟩
 .subst f;exact I.list_inj r t
 .subst u v f;obtain⟨its,C,p,E⟩:=I.list y
  have g:∀b,(∃o vs,s.heap.get? b=Z o/\o.data=.fields vs)->a≠b:=fun b ⟨o,vs,q,d⟩ z=>by
   subst z;obtain⟨o',j,_,n,l⟩:=p.isList;rw[q]at j;cases j;rw[d]at l;cases l
  refine⟨its,[it,a],fun i h=>h.IsListIter it a i/\h.IsList a its.toArray,C,?_,?_,fun i st=>⟨st,p.isList⟩,fun i h st=>st.1⟩
  .intro z;rcases List.mem_cons.mp z with z|z
   .exact c z
   .exact g e B (List.mem_singleton.mp z).symm
  .have:=Draws.list (prog:=X.prog) (w:=X.w) (A:=X.A.in1) (I.ok.hd x) it a (g it hi) its.toArray;simpa using this
def OM{e it:Ub}(c:e≠it):Turn P w K (.Tuple elts x1 tpos) (Ite fun H xs=>SqT K H a xs) [e,it] e (tnE e it fun h i=>h.IsTupleIter it a i):=by
 refine FU (a:=a) c (fun h i st=>?_) (fun h h' i st k=>st.at k) (fun X f pins m H s I xs D r t=>?_) fun X u v f x pins m H s I xs y hi B=>?_
 .obtain⟨o,q,_,d⟩:=st;exact⟨o,_,q,d⟩
 .subst f;exact I.tuple_inj r t
 .subst u v f;obtain⟨its,C,p,E⟩:=I.tuple y;have pt:=p
  have g:∀b,(∃o vs,s.heap.get? b=Z o/\o.data=.fields vs)->a≠b:=fun b ⟨o,vs,q,d⟩ z=>by
   subst z;obtain⟨o',j,_,n,l⟩:=pt;rw[q]at j;cases j;rw[d]at l;cases l
  refine⟨its,[it,a],fun i h=>h.IsTupleIter it a i/\h.IsTuple a its.toArray,C,?_,?_,fun i st=>⟨st,pt⟩,fun i h st=>st.1⟩
  .intro z;rcases List.mem_cons.mp z with z|z
   .exact c z
   .exact g e B (List.mem_singleton.mp z).symm
  .have:=XN (prog:=X.prog) (w:=X.w) (A:=X.A.in1) (I.ok.hd x) it a (g it hi) its.toArray;simpa using this
end
section
variable{X:Cx}{elts:T8}{x1:Nat}{tpos:Pos}
def aGg(K:Fg)(c:TA):TI:=fun d H R=>c d H fun vs b=>∃a,vs=[.ref a]/\((∃xs,SqL K b a xs/\R (Ite fun H xs=>SqL K H a xs) b)\/(∃xs,SqT K b a xs/\R (Ite fun H xs=>SqT K H a xs) b))
def aEa{a:Uc}{m:TA}{p pos:Pos}(n:Gl X "enumerate")(hm:X.mg "enumerate"=Y)(ha:PA X [a] m)(hs:starEach [a] X.env=[(false,eval a X.env)]:=by rfl):PI X (.Tuple elts x1 tpos) (.Call (.Name "enumerate" p) [a] [] pos) (aGg X.K m):=by
 intro pins s o H R I h;refine Call_<|sJ I n hm boot_enumerate<|U2 (thn (ha pos pins s o H _ I h) fun us s1 ⟨vs,g,c,t,u⟩=>?_) hs rfl;obtain⟨l,e,q⟩:=u;subst e;cases t with
 |cons r v=>
  cases v;cases r
  have fp:∀b∈[s1.heap.objs.size+1,s1.heap.objs.size],kO X pins g b:=fun b hb=>by
   rcases List.mem_cons.mp hb with rfl|hb
   .exact c.fpOk (A0c _)<|c.hok.fresh<|A0c _
   .rw[List.mem_singleton.mp hb];exact c.fpOk (A6 _)<|c.hok.fresh<|A6 _
  rcases q with⟨xs,i,q⟩|⟨xs,i,q⟩
  .obtain⟨its,w,p,x⟩:=c.list i;refine call_enumerate_list p.isList fun h' f d j k=>?_;refine wpAny_pyIter_enum f ?_;exact⟨_,_,_,_,g,rfl,c.kept k,OK<|Nat.succ_ne_self _,⟨⟨_,f⟩,d⟩,fp,q⟩
  .obtain⟨its,w,p,x⟩:=c.tuple i;refine DW p fun h' f d j k=>?_;refine wpAny_pyIter_enum f ?_;exact⟨_,_,_,_,g,rfl,c.kept k,OM<|Nat.succ_ne_self _,⟨⟨_,f⟩,d⟩,fp,q⟩
end
noncomputable def EJ(ds:T4):T6:=ds.zipIdx.map fun p=>.d (.tuple [.int (p.2:Nat),p.1])
def JX(f:AF):AF:=fun a M=>(f a M).bind fun r=>match r.1 with
 |[.d x]=>(aQ x).bind fun ds=>Z (EJ ds,r.2)
 |_=>Y
def XU{i:Nat}{x:CD}(h:(EJ ds)[i]?=Z x):∃d,ds[i]?=Z d/\x=.d (.tuple [.int (i:Nat),d]):=by
 unfold EJ at h;rw[D0,List.getElem?_zipIdx]at h;cases e:ds[i]? with
 |none=>rw[e]at h;cases h
 |some d=>
  rw[e]at h;exact⟨d,rfl,by simpa using h.symm⟩
def aEO{K:Fg}{n:TA}{fa:AF}(b:SA K n fa):SI K (aGg K n) (JX fa):=by
 intro L M xs M' a W H A R G Rs k;obtain⟨⟨N,M1⟩,B,a⟩:=aI a;refine b _ _ _ _ B W H A _ G Rs fun vs h o q j C=>?_;revert a;dsimp only;split
 .rename_i y;intro a;obtain⟨ds,D,a⟩:=aI a;cases a;cases C with
  |cons r E=>
   cases E;obtain⟨p,us,rfl,hs,s⟩:=kC r D
   have t:∀Sq:Hp->Tc->Prop,(∀c M2 e,h.Ext c->Good K c M2 e->Sq e us)->NZ K (Ite Sq) (EJ ds) h:=fun Sq hS c M2 e f g=>by
    have l:=hS c M2 e f g;refine⟨fun i x hx=>?_,us,l,by rw[show(EJ ds).length=ds.length by simp[EJ],s.length]⟩;obtain⟨d,hd,rfl⟩:=XU hx;obtain⟨u,w,F⟩:=Paired.get (gS s) (by rw[D0,hd];rfl);refine⟨⟨us,u,l,w⟩,fun v O hy=>?_⟩;obtain⟨I,P,hn,rfl,rfl,m⟩:=hy;have:=m us l;rw[w]at this;cases this;obtain⟨z,J⟩:=g.lay hn;refine⟨_,z,J,⟨I,_,rfl,SqT.of aW,?_⟩⟩;exact⟨_,_,rfl,rfl,_,_,rfl,Rep.same z.ff _ _<|(F.up f),rfl⟩
   refine⟨p,rfl,?_⟩;rcases hs with hs|hs
   .exact .inl ⟨us,j.fh.seq hs,k _ h o q j (t _ fun c M2 e f g=>g.fh.seq<|f.ff.seq hs)⟩
   .exact .inr ⟨us,j.fh.seqT hs,k _ h o q j (t _ fun c M2 e f g=>g.fh.seqT<|f.ff.seqT hs)⟩
 .intro a;cases a
def aDu{ι:Type}{K:Fg}{X:ι->Cx}{a:Uc}{fa:AF}{pos:Pos}{p:Pos}(c:∀i,(X i).K=K)(hm:∀i,(X i).mg "enumerate"=Y)(x:MA K X [a] fa)(d:∀i,Gl (X i) "enumerate":=by intro _;rfl):MI K X (.Tuple elts x1 tpos) (.Call (.Name "enumerate" p) [a] [] pos) (JX fa):=by
 obtain⟨t,b,e⟩:=x.ex;exact⟨_,fun i=>by have:=aEa (elts:=elts) (x1:=x1) (tpos:=tpos) (p:=p) (pos:=pos) (d i) (hm i) (b i)<|x.st.1 _;rw[c i]at this;exact this,aEO e⟩
def DV:entryFor table "proto.unchain"=Z Builtin.«proto.unchain»:=entryFor_of_fast (by kernel_rfl)
def CY{s:Ua}{b:Ub}{o:Obj}{Q:T0}(c:s.heap.get? b=Z o)(d:o.data=.fields vs)(e:vs[2]?=Z .none)(q:∀v,Q v s):
 wpAny (model prog w) A (runValue (.builtin "proto.unchain" ⟨[.ref a,.ref b,.ref b,.bool false],[]⟩)) Q E s:=by
 refine wpAny_runValue<|codeAny_builtin DV ?_;unfold Builtin.«proto.unchain»;refine A0<|E1 c d e ?_;rw[A4 (by decide)];simp only[ret];refine A0<|B2 ?_;exact B2<|q _
def HdP(A:Ue)(p:T2):Prop:=A.handled=Y\/∃a o vs,A.handled=Z (.ref a)/\(a,o)∈p/\o.data=.fields vs/\vs[2]?=Z .none
noncomputable abbrev nxB(k:Bool):Builtin:=match k with|true=>Builtin.«list_iterator.__next__»|false=>Builtin.«tuple_iterator.__next__»
def Has(h:Heap)(p:T2):Prop:=∀x∈p,h.get? x.1=Z x.2
def OS(c:CwQ q X)(ok:X.Ok):∃p,HdP X.A p/\∀pins a H s,Inv X pins a H s->Has s.heap p/\∀b,kO X pins H b->∀x∈p,x.1≠b:=by
 have nil:X.A.handled=Y->∃p,HdP X.A p/\∀pins a H s,Inv X pins a H s->Has s.heap p/\∀b,kO X pins H b->∀x∈p,x.1≠b:=fun h=>⟨[],.inl h,fun _ _ _ _ _=>⟨fun x hx=>absurd hx (by simp),fun _ _ x hx=>absurd hx (by simp)⟩⟩;cases q with
 |true=>exact nil<|ok.hd c
 |false=>
  rcases c with hn|⟨d,o,vs,e,f,g,i⟩
  .exact nil hn
  .refine⟨[(d,o)],.inr ⟨d,o,vs,e,by simp,f,g⟩,fun pins a H s I=>?_⟩;obtain⟨j,_,_,k⟩:=i pins a H s I;refine⟨fun x hx=>?_,fun b l x hx z=>?_⟩
   .rw[List.mem_singleton.mp hx];exact j
   .rw[List.mem_singleton.mp hx]at z;exact k b l z.symm
section
variable{prog:Ud}{w:World}{A:Ue}{E:T0}{s:Ua}{p:T2}
def VI{e:Ub}{c:Tx}{Q:Fin->Ua->Prop}(hd:HdP A p)(hp:Has s.heap p)(a:s.heap.get? e=Z ⟨c,Y,.fields d,#[]⟩)(h:2<d.size)(hn:∀x∈p,x.1≠e)
 (f:∀h',Heap.SameBut e s.heap h'->(∃o,h'.get? e=Z o/\o.cls=c)->E (.ref e) { s with heap:=h' }):wpAny (model prog w) A (raiseNew (.ref e)) Q E s:=by
 unfold raiseNew;refine A0<|wpAny_handled ?_;rcases hd with b|⟨g,o,vs,b,hm,i,j⟩
 .rw[b];exact A0<|B2<|wpAny_throw<|f _ (Heap.SameBut.refl ..) ⟨_,a,rfl⟩
 .rw[b];dsimp only;rw[A4 (show(Value.ref g != Value.ref e)=true by simp;exact hn _ hm)];refine A0<|E8 (CY (hp _ hm) i j fun _=>?_);refine A0 (show wpAny _ _ (setField (.ref e) 2 (.ref g)) _ _ _ from Z0 a rfl h ?_);exact wpAny_throw<|f _ (Heap.SameBut.update ..) ⟨_,S3 _ a rfl,rfl⟩
def pV{k:Bool}{it l:Ub}{i:Nat}{o:Obj}{n:Obj}{items:Ti}{t:Nat}{Q:Fin->Ua->Prop}(hd:HdP A p)(hp:Has s.heap p)(hn:∀x∈p,x.1≠it)(f:s.heap.get? it=Z o)(c:o.data=.fields #[.ref l,.int i 0])(g:s.heap.get? l=Z n)(j:n.data=.seq items t)(hx:items[i]?=Y)
 (v:∀h' e,Heap.ExtBut it s.heap h'->(∃o,h'.get? e=Z o/\o.cls=.type "StopIteration")->E (.ref e) { s with heap:=h' }):wpAny (model prog w) A (nxB k ⟨[.ref it],[]⟩) Q E s:=by
 cases k
 all_goals
  show wpAny _ _ (field (.ref it) 0 >>= _) _ _ s;refine A0<|E1 f c (x:=.ref l) rfl ?_;show wpAny _ _ (if (Value.ref l==Value.none)=true then _ else _) _ _ s;rw[B0 (show ¬((Value.ref l==Value.none)=true)from B5)];show wpAny _ _ (field (.ref it) 1 >>= _) _ _ s;refine A0<|E1 f c (x:=.int i 0) rfl ?_;show wpAny _ _ (seqItems? (.ref l) >>= _) _ _ s;refine A0<|Y3 g j ?_;simp only[Int.toNat_natCast,hx];refine A0<|wpAny_rule<|A0<|Z0 f c (by simp) ?_;show wpAny _ _ (newExc (.type "StopIteration") [] >>= _) _ _ _;refine A0 ?_;simp only[newExc,newTuple];refine A0<|I0 ?_ (by size_fits);refine A0 (m:=firstArgMember _ _)<|wpAny_of_eq (a:=Value.none) (by first|rfl|(simp only[firstArgMember];rfl)) ?_;refine I0 ?_ (by size_fits)
  have up:∀b u,b≠it->s.heap.get? b=Z u->(s.heap.update it (Obj.mapFields (·.setIfInBounds 0 Value.none))).get? b=Z u:=fun b u d q=>by
   rw[O8 _ _ (O0 d)];exact q
  refine VI hd (fun x hx=>A2 _<|A2 _<|up _ _ (hn x hx)<|hp x hx) (C6 _ rfl) (by rw[Array.size_append];exact B6 (show 2<6 by decide)<|J9 _ _) (fun x hx z=>?_) fun h' y q=>v h' _ (fun b u d r=>y.extBut _ _ ?_<|A2 _<|A2 _<|up b u d r) q
  .have:=B3<|A2 (h:=_) { cls:=.type "tuple",data:=.seq ([]:T5).toArray }<|up _ _ (hn x hx)<|hp x hx;rw[z]at this;exact E3 _ this
  .intro z;have:=B3<|A2 (h:=_) { cls:=.type "tuple",data:=.seq ([]:T5).toArray }<|up b u d r;rw[z]at this;exact E3 _ this
end
noncomputable abbrev aBe(k:Bool):String:=match k with|true=>"list"|false=>"tuple"
noncomputable abbrev VA(k:Bool):String:=match k with|true=>"list_iterator"|false=>"tuple_iterator"
def IsB(k:Bool)(h:Heap)(l:Ub)(xs:Ti):Prop:=∃o,h.get? l=Z o/\o.cls=.type (aBe k)/\∃n,o.data=.seq xs n
def ItB(k:Bool)(h:Heap)(it l:Ub)(i:Nat):Prop:=∃o,h.get? it=Z o/\o.cls=.type (VA k)/\o.data=.fields #[.ref l,.int i 0]
def ItB.at{h':Heap}(x:ItB k h it l i)(f:∀o,h.get? it=Z o->h'.get? it=Z o):ItB k h' it l i:=let⟨o,e,r⟩:=x;⟨o,f o e,r⟩
section
variable{prog:Ud}{w:World}{A:Ue}{E:T0}{s:Ua}{p:T2}{k:Bool}{it l:Ub}{i:Nat}{items:Ti}
def QF{Q:T0}(hd:HdP A p)(hp:Has s.heap p)(hn:∀x∈p,x.1≠it)(g:ItB k s.heap it l i)(j:IsB k s.heap l items)(hx:items[i]?=Y)
 (h:∀h' e,Heap.ExtBut it s.heap h'->(∃o,h'.get? e=Z o/\o.cls=.type "StopIteration")->E (.ref e) { s with heap:=h' }):wpAny (model prog w) A (Builtin.SmallTypes.nextOf (.ref it)) Q E s:=by
 obtain⟨o,a,f,b⟩:=g;obtain⟨m,c,_,n,d⟩:=j;unfold Builtin.SmallTypes.nextOf;cases k
 .exact A0<|F7 (name:=Str.ofString "__next__") ⟨o,a,f⟩ J7<|O7 J7 ⟨o,a,f⟩ A0h (pV (k:=false) hd hp hn a b c d hx h)<|A0d _
 .exact A0<|F7 (name:=Str.ofString "__next__") ⟨o,a,f⟩ A1e<|O7 A1e ⟨o,a,f⟩ entry_listiter_next (pV (k:=true) hd hp hn a b c d hx h)<|args_listiter_next _
def next_end{Q:Tf->Ua->Prop}(hd:HdP A p)(hp:Has s.heap p)(hn:∀x∈p,x.1≠it)(h:ItB k s.heap it l i)(n:IsB k s.heap l items)(hx:items[i]?=Y)
 (m:∀h',Heap.ExtBut it s.heap h'->Q Y { s with heap:=h' }):wpAny (model prog w) A (pyNext (.ref it)) Q E s:=by
 obtain⟨o,a,c,d⟩:=h;obtain⟨q,f,_,r,g⟩:=n;unfold pyNext;cases k
 .exact A0<|A1b<|F7 (name:=Str.ofString "__next__") ⟨o,a,c⟩ J7<|O7 J7 ⟨o,a,c⟩ A0h (pV (k:=false) hd hp hn a d f g hx fun h' e j ⟨o,a,c⟩=>A0<|wpAny_isInstance (T:="StopIteration") (b:=true) ⟨o,a,c⟩ isSubtype_stop<|B2<|m h' j)<|A0d _
 .exact A0<|A1b<|F7 (name:=Str.ofString "__next__") ⟨o,a,c⟩ A1e<|O7 A1e ⟨o,a,c⟩ entry_listiter_next (pV (k:=true) hd hp hn a d f g hx fun h' e j ⟨o,a,c⟩=>A0<|wpAny_isInstance (T:="StopIteration") (b:=true) ⟨o,a,c⟩ isSubtype_stop<|B2<|m h' j)<|args_listiter_next _
def SJ{Q:T5->Ua->Prop}(hd:HdP A p)(hp:Has s.heap p)(ht:IsTup s.heap t items)
 (q:∀h',Heap.ExtBut s.heap.objs.size s.heap h'->Q items.toList { s with heap:=h' }):wpAny (model prog w) A (unpackItems (.ref t) items.size Y) Q E s:=by
 have lt:∀{b:Ub}{u:Obj},s.heap.get? b=Z u->b≠s.heap.objs.size:=fun e=>C2<|B3 e;have g:t≠s.heap.objs.size:=by obtain⟨o,r,_⟩:=ht;exact lt r
 unfold unpackItems;refine A0 ?_;unfold notIterableAtAll;refine A0<|wpAny_specialOf ht.typeIs slot_tuple_iter.lookup ?_;refine B2 ?_;simp only[Bool.false_eq_true,if_false];refine A0<|E8<|iter_tuple ht ?_;refine A0<|E8 (draw_tuple g items.size 0 _ _ ⟨_,C6 _ rfl,rfl,rfl⟩ (ht.push _) (by omega) fun h c a=>?_)
 have j:List.take items.size (List.drop 0 items.toList)=items.toList:=by
  rw[List.drop_zero];exact List.take_of_length_le (by simp)
 rw[j];rw[B0 (by simp)];have d:IsTup h t items:=(ht.push _).extBut a.extBut g;refine A0<|E8 (next_end (k:=false) hd (fun x hx=>a.extBut _ _ (lt<|hp x hx)<|A2 _<|hp x hx) (fun x hx=>lt<|hp x hx) c d (by simp) fun m f=>?_);simp only[Option.isSome_none,Bool.false_eq_true,if_false];exact B2 (q m fun b o n e=>f b o n<|a.extBut b o n<|A2 _ e)
end
def HH(k:Bool)(hd:HdP A p)(it l:Ub)(hne:l≠it)(hn:∀x∈p,x.1≠it)(items:Ti):
 Draws prog w A it (it::l::p.map (·.1)) items.size (fun i v=>items[i]?=Z v) (fun i h=>ItB k h it l i/\IsB k h l items/\Has h p) where
 live:=fun _ _ st=>let⟨o,ho,_⟩:=st.1;⟨o,ho⟩
 frame:=fun _ _ _ st hk=>⟨st.1.at fun o e=>hk it (by simp) o e,let⟨o,ho,r⟩:=st.2.1;⟨o,hk l (by simp) o ho,r⟩,fun x hx=>hk x.1 (by simp only[List.mem_cons,List.mem_map];exact .inr (.inr ⟨x,hx,rfl⟩)) _<|st.2.2 x hx⟩
 item:=fun i s Q E hi st hQ=>by
  have up:∀h',Heap.SameBut it s.heap h'->IsB k h' l items/\Has h' p:=fun h' hs'=>⟨let⟨o,ho,r⟩:=st.2.1;⟨o,(hs'.2 l hne).trans ho,r⟩,fun x hx=>(hs'.2 x.1<|hn x hx).trans (st.2.2 x hx)⟩;cases k with
  |true=>exact wpAny_nextOf_list_item st.1 st.2.1 (x:=items[i]) (by simp[hi]) fun h' hit' hs'=>hQ _ h' s.toks (by simp[hi]) ⟨hit',up h' hs'⟩ hs'
  |false=>exact tV st.1 st.2.1 (x:=items[i]) (by simp[hi]) fun h' hit' hs'=>hQ _ h' s.toks (by simp[hi]) ⟨hit',up h' hs'⟩ hs'
 done:=fun s Q E st hE=>QF hd st.2.2 hn st.1 st.2.1 (by simp) hE
end L2
namespace PySem
open PySem.Calls PyProof.Rows
end PySem
namespace PySem
open PySem.Calls PyProof.Rows
end PySem
namespace PySem.W
open PySem PySem.Calls PyProof.Rows PyProof.V PySem.Spec
end PySem.W
namespace L2
open PySem PySem.Spec PyProof.Rows
section
variable{X:Cx}{pins:T2}{σ:St}{H:Hp}{s:Ua}{E:T0}
end
section
variable{K:Fg}{td:TE}{fo:EF}
def HJ(a:Tv Key×Tz):T4:=[.tuple (a.1.map aLA),a.2]
def CV(rows:Tv (T4)):Tw (T4):=if sortable rows=true then Z (GS rows)else if rows.length<2 then Z (rows.map .tuple)else Y
end
section
variable{K:Fg}
def Good.freezeL{W:Wd}{i:Nat}{ds:T4}(G:Good K W M H)(hi:M[i]?=Z (.lst xs))(hd:mV xs=Z ds):
 ∃W',W.Ext W'/\Good K W' (M.set i .dead) H/\W'.α i=W.α i/\cL K W' (.d (.list ds)) (.ref (W.α i)):=by
 obtain⟨vs,f,r⟩:=G.lstAt hi;obtain⟨hn,_⟩:=G.cs i _ hi (by simp);have lt:=(List.getElem?_eq_some_iff.mp hi).1;have e:W.Ext { W with F:=upd W.F (W.α i) (.lst vs) }:=⟨kJ.upd hn,A6 _,fun _ _=>rfl⟩
 have at_:∀j d,(M.set i .dead)[j]?=Z d->d≠.dead->j≠i/\M[j]?=Z d:=fun j d h hd=>by
  by_cases q:i=j
  .subst q;rw[O1 lt]at h;exact absurd (D3 h).symm hd
  .rw[S4 q]at h;exact⟨fun z=>q z.symm,h⟩
 refine⟨_,e,⟨fun c o a=>?_,by show W.n=_;rw[G.n,Y9],fun j d b hd=>?_,fun j k g l b s m p t=>?_,G.tb.updF fun ps z=>by rw[f]at z;cases z⟩,rfl,⟨_,vs,rfl,SqL.of aW,aM.same e.ff _ _<|eM hd r⟩⟩
 .have a:upd W.F (W.α i) (.lst vs) c=Z o:=a;by_cases q:c=W.α i
  .subst q;rw[aW]at a;cases a;exact f
  .rw[aN q]at a;exact G.fh c o a
 .obtain⟨q,h⟩:=at_ j d b hd;obtain⟨v,u,w,x⟩:=G.cs j d h hd;have y:=fun z=>q<|G.inj j i d _ h hi hd (by simp) z;exact⟨by show upd W.F (W.α i) (.lst vs) (W.α j)=Y;rw[aN y];exact v,u,w,x.up e⟩
 .exact G.inj j k g l (at_ j g b m).2 (at_ k l s p).2 m p t
def nF(f:EF):EF:=fun a M=>(f a M).bind fun r=>match r.1 with
 |.c i=>match r.2[i]? with
  |some (.lst xs)=>(mV xs).bind fun ds=>Z (.d (.list ds),r.2.set i .dead)
  |_=>Y
 |.d x=>Z (.d x,r.2)
 |_=>Y
def WX{t:TE}{f:EF}(a:SE K t f):SE K t (nF f):=by
 intro r M x M' b W H c Q G R k;obtain⟨⟨o,M1⟩,d,b⟩:=aI b;revert b;dsimp only;split
 .rename_i i;split
  .rename_i xs hx;intro b;obtain⟨ds,e,b⟩:=aI b;cases b;refine a _ _ _ _ d W H c _ G R fun v s g h j l=>?_;obtain⟨m,n,p,_,q⟩:=j.freezeL hx e;rw[l.2];exact k _ m g (h.trans n) p q
  .intro b;cases b
 .intro b;cases b;exact a _ _ _ _ d W H c _ G R k
 .intro b;cases b
def xF{ι:Type}{X:ι->Cx}{e:Uc}{f:EF}(x:ME K X e f):ME K X e (nF f):=by
 obtain⟨t,a,b⟩:=x.ex;exact⟨t,a,WX b⟩
def EL:FN:=fun xs M=>match xs with
 |[.d a]=>(aQ a).bind fun ds=>Z (.c M.length,M++[.lst (ds.map .d)])
 |[.c i]=>match M[i]? with
  |some (.lst b)=>Z (.c M.length,M++[.lst b])
  |_=>Y
 |_=>Y
def aCM:PN K (QA K) EL:=by
 intro xs M z M' h W H vs Q G r k;unfold EL at h;split at h
 .rename_i a;obtain⟨ds,e,h⟩:=aI h;cases h;rcases r with _|⟨b,_|_⟩;obtain⟨p,us,rfl,hs,c⟩:=kC b e;refine⟨p,us,rfl,hs.elim (fun q=>.inl (G.fh.seq q)) fun q=>.inr (G.fh.seqT q),fun l d=>?_⟩;exact k _ (W.more l) _ (W.ext_more l) (G.new d<|gS c) G.newV
 .rename_i i;split at h
  .rename_i g hy;cases h;rcases r with _|⟨b,_|_⟩;obtain⟨us,f,c⟩:=G.lstAt hy;refine⟨_,us,by rw[b.2],.inl (SqL.of f),fun l d=>?_⟩;exact k _ (W.more l) _ (W.ext_more l) (G.new d c) G.newV
  .cases h
 .cases h
def aEd{ι:Type}{X:ι->Cx}(a:∀i,(X i).K=K):QN K X (.type "list") EL:=⟨_,fun i=>aFP<|a i,aCM⟩
def eqC(neg:Bool):F2:=fun x y M=>(snap 5 M x).bind fun a=>(snap 5 M y).bind fun b=>if (SeqAt.shaped a&&SeqAt.shaped b)=true then Z (.d (.bool (if neg then !PyData.eqv a b else PyData.eqv a b)),M)else Y
def aHV{neg:Bool}:P2 K (WM K neg) (eqC neg):=by
 intro x y M z M' h W H v u Q G c d k;obtain⟨a,e,h⟩:=aI h;obtain⟨b,f,h⟩:=aI h;by_cases hs:(SeqAt.shaped a&&SeqAt.shaped b)=true
 .rw[A4 hs]at h;cases h;rw[B8]at hs;exact⟨a,b,AW G 5 x a v e c,AW G 5 y b u f d,hs.1,hs.2,k _ W H (.refl _) G rfl⟩
 .rw[B0 hs]at h;cases h
def eqY(neg:Bool):F2:=HS (eqX neg)<|eqC neg
def aLz{ι:Type}{X:ι->Cx}(a:∀i,(X i).K=K)(b:∀i,(X i).A.units+64<cLine):Q2 K X (compareOp .Eq) (eqY false):=⟨_,fun i=>(kEq (a i)<|b i).or (by have:=aBK<|b i;rw[a i]at this;exact this),P2.or YU aHV⟩
end
section
variable{X:Cx}{pins:T2}{σ:St}{H:Hp}{s:Ua}{a:Ub}{y v:V}{u r:Tx}{A:Ue}{E:T0}
def XQ{Q:Unit->Ua->Prop}(D:A.units<cLine)(I:Inv X pins σ H s)(g:DL H a y v H')(p:RelV y u)(t:RelV v r)(h:∀x,Inv X pins σ H' x->Q () x):
 wpAny (model X.prog X.w) A (dictSet a u r) Q E s:=by
 rcases g with⟨kvs,k,e,j,l,m⟩|⟨kvs,k,b,e,j,B,l,m⟩
 .subst j m;obtain⟨z,hd,vs,d,n⟩:=TM I.hok e;have F:vs.length<=sizeLine:=by rw[<- d.length];exact z
  have o:(putK kvs k v).length<=sizeLine:=by have:=kN kvs k v;omega
  refine wpAny_dictSet_pairs (DK p) n fun h' f hs=>h _ ?_;have G:∃q,h'.get? a=Z q:=let⟨q,_,_,i,_⟩:=f;⟨q,i⟩;exact vL I (by rw[e];exact True.intro) hs G<|NT o hd (d.put k t) f
 .subst j m;cases p;obtain⟨z,hd,xs,d,n⟩:=aFR I.hok e;have F:xs.length<=sizeLine:=by rw[<- A1a d];exact z
  have o:(putK kvs k v).length<=sizeLine:=by have:=kN kvs k v;omega
  refine wpAny_dictSet_heap D (yB I.hok B) n fun h' f hs=>h _ ?_;obtain⟨q,es,ep,i,J,K,L,_,M⟩:=f;refine vL I (by rw[e];exact True.intro) hs ⟨q,i⟩ ⟨o,hd,_,(d.put k B t).keeps fun c N C=>?_,q,es,ep,i,J,K,L,M⟩;rw[aN (yJ C e fun z=>nomatch z)];exact C
end
section
variable{prog:Ud}{w:World}{A:Ue}{R:Result->Ua->Prop}{s:Ua}
def aCX{iter:Uc}{scope:Scope}(I:Nat->Ua->Prop)
 (turn:∀n s,I n s->wpAny (model prog w) A (pyNext it) (fun r s1=>(r=Y/\R (.ok .next) s1)\/∃v,r=Z v /\
  wpAny (model prog w) A (letOwnedTupleGo a it v) (fun _ s2=>wpAny (model prog w) A (assign a env v) (fun _ s3=>
   wpAny (model prog w) A (forIn ifs true fun c r=>if r=true then(do
    let ok <- isTrue c env (eval c env)
    pure (ForInStep.yield ok))else pure (ForInStep.yield r)) (fun ok s4=>
     (ok=true/\wpAny (model prog w) A (eval e env) (fun i j=>wpAny (model prog w) A (eval g env) (fun k l=>wpAny (model prog w) A (dictSet D i k) (fun _ s7=>∃m,m<n/\I m s7) (fun _ _=>False) l) (fun _ _=>False) j) (fun _ _=>False) s4) \/
     (ok=false/\∃m,m<n/\I m s4)) (fun _ _=>False) s3) (fun _ _=>False) s2) (fun _ _=>False) s1) (fun _ _=>False) s)
 (n:Nat) (h:I n s):codeAny (model prog w) A (.compLoop (.DictComp e g [⟨a,iter,ifs,0⟩] scope pos) 0 it (.ref D) env) R s:=by
 refine codeAny_loop rfl I (fun n s o=>?_) n h
 show wpAny _ A ((compTurn (.DictComp e g [⟨a,iter,ifs,0⟩] scope pos) 0 it (.ref D) env).onRaise fun x=>do
  noteFrame x env
  theTreesLotGoes x) _ _ s
 refine wpAny_noted ?_;refine A0<|U9<|A0 (E2 (turn n s o) (fun r s1 b=>?_) fun _ _ f=>f.elim);rcases b with⟨rfl,b⟩|⟨v,rfl,b⟩
 .exact B2 b
 .refine A0 (E2 b (fun _ s2 p=>?_) fun _ _ f=>f.elim);refine A0 (E2 p (fun _ s3 q=>?_) fun _ _ f=>f.elim);refine A0 (E2 q (fun ok s4 d=>?_) fun _ _ f=>f.elim);rcases d with⟨rfl,d⟩|⟨rfl,d⟩
  .refine A0<|A0 (E2 d (fun i j t=>?_) fun _ _ f=>f.elim);refine A0<|E8 (E2 t (fun k l u=>?_) fun _ _ f=>f.elim);refine A0<|U9<|E8 (E2 u (fun _ s7 y=>B2 ⟨rfl,y⟩) fun _ _ f=>f.elim)
  .exact B2 ⟨rfl,d⟩
end
def tDc(l:HO)(cap:T3)(n:TI)(g:TG)(o:TT)(p q:TE):TE:=fun e H Q=>n e H fun J f=>∀D,f D=Y->∃W:Nat->Nat->St->Hp->Prop,(∃m,W 0 m (uZ cap e)<|upd f D l)/\∀i m c H',W i m c H'->
 (J.stop i H'/\Q (.ref D) H') \/
 (J.go i H'/\∃N:St->Hp->Prop,(∀a d,N a d->∃h,h<m/\W (i+1) h a d)/\∀x d,J.yld i H' x d->g x c d fun a r=>o a r fun b j=>(b=true/\p a j fun y s=>q a s fun v t=>∃k,DL t D y v k/\N a k)\/(b=false/\N a j))
section
variable{X:Cx}{N':Tb}{cap:T3}{scope:Scope}
def aAr{f:HO}(ho:f=.dT []\/f=.dK [])(hu:X.A.units<cLine)(hc:X.calm=true)(S:oD X N' cap scope)(hi:PI X tg iter wi)
 (hg:∀C s H fp pn,PG (bT X N' scope C s H fp pn) tg g) (a7:∀C s H fp pn,AN (bT X N' scope C s H fp pn) ifs tc) (hk:∀C s H fp pn,PE (bT X N' scope C s H fp pn) kx tk) (hv:∀C s H fp pn,PE (bT X N' scope C s H fp pn) vx tv)
 (hs:∀x,foldedSetIterable iter X.env x=pure x) {K:St} (I:Inv X pins K H s) (h:tDc f cap wi g tc tk tv K H Q)
 (a0:∀(D C:Ub)(H':Hp)(L:Ua),(∃m,L.heap.Ns C m)->(∀h',Heap.SameBut C L.heap h'->Inv X pins K H' { L with heap:=h' })->kO X pins H' C->Q (.ref D) H'->compPost (model X.prog X.w) X.A X.xe use QQ (.ref D) C (.ok .next) L):
 wpAny (model X.prog X.w) X.A (comprehension (.DictComp kx vx [⟨tg,iter,ifs,0⟩] scope pos) scope X.env (firstIterPos [⟨tg,iter,ifs,0⟩] pos) newDict false (firstIter [⟨tg,iter,ifs,0⟩] X.env) use) QQ X.xe s:=by
 refine wpAny_comprehension_free rfl hs (vB<|S.cells I.ok) S.kind S.names ?_;refine thn (hi pins s K H _ I h) fun v s1 h1=>thn h1 fun ax s2 h2=>?_;obtain⟨it,fp,tn,J,j,e,I2,T,a1,f2,hD⟩:=h2;subst e
 have M:∀b∈fp,b<s2.heap.objs.size:=fun b a=>by
  obtain⟨o,e,_⟩:=T.obj _ _ a1 b a;exact B3 e
 refine I0 ?_;obtain⟨W,⟨m0,w0⟩,a2⟩:=hD s2.heap.objs.size<|I2.hok.fresh<|A6 _;generalize O:s2.heap.objs.size=D at *
 have V:Inv X pins K (upd j D f) { s2 with heap:=s2.heap.push { cls:=.type "dict",data:=.dict #[] } }:=by
  refine I2.laid (fun _ _ q=>A2 _ q) (Nat.le_of_eq O) ?_;rcases ho with rfl|rfl
  .rw[<- O];exact aBd _ I2.big
  .rw[<- O];exact BR _ I2.big
 have k:tn 0 (s2.heap.push { cls:=.type "dict",data:=.dict #[] }):=T.keep _ _ _ a1 fun b _ o e=>A2 _ e
 have B:∀b∈fp,kO X pins (upd j D f) b:=fun b a=>by
  obtain⟨q0,q1⟩:=f2 b a;exact⟨by rw[aN (C2<|M b a)];exact q0,q1⟩
 generalize a8:({ s2 with heap:=s2.heap.push { cls:=.type "dict",data:=.dict #[] } }:Ua)=s3 at V ⊢;have k:tn 0 s3.heap:=by rw[<- a8];exact k
 have E:∀b∈fp,b<s3.heap.objs.size:=fun b a=>by
  obtain⟨o,e,_⟩:=T.obj _ _ k b a;exact B3 e
 refine wpAny_newFunctionEnv S.nocell (fun y hy=>by simp at hy) (fun a3 a9 aa=>?_) S.kind;have P:=fun b o e=>aa.extBut b o (C2<|B3 e)<|A2 _ e
 have I4:Inv (bT X N' scope s3.heap.objs.size s3 (upd j D f) fp pins) [] (uZ cap K) (upd j D f) { s3 with heap:=a3,toks:=s3.toks+([]:Tt).length }:=
  CM S V B E (A6 _) (by simpa using a9) P
 have F:∀s4:Ua,s4={ s3 with heap:=a3,toks:=s3.toks+([]:Tt).length }->
  codeAny (model X.prog X.w) X.A (.compLoop (.DictComp kx vx [⟨tg,iter,ifs,0⟩] scope pos) 0 (.ref it) (.ref D) (compEnvC scope (fO X.env scope.names []) s3.heap.objs.size X.env)) (compPost (model X.prog X.w) X.A X.xe use QQ (.ref D) s3.heap.objs.size) s4:=by
  rintro s4 rfl
  have l:∀{Hx:Hp},(∀b∈fp,Hx b=Y)->∀b∈fp,kO (bT X N' scope s3.heap.objs.size s3 (upd j D f) fp pins) [] Hx b:=fun{Hx} hn b a=>by
   refine⟨hn b a,C2<|E b a,V.stkAll (B b a).2.1 (B b a).2.2.1,.inl a,fun x c e=>(B b a).2.2.2.2.1 x c (S.sub V.ok x c e),fun p hp=>?_⟩;rcases List.mem_append.mp hp with z|z
   .exact(B b a).2.2.2.2.2 p z
   .exact absurd z (by simp)
  refine aCX (fun n L=>∃(i:Nat)(d:St)(H':Hp),Inv (bT X N' scope s3.heap.objs.size s3 (upd j D f) fp pins) [] d H' L/\tn i L.heap/\(∀b∈fp,H' b=Y)/\W i n d H') ?_ m0
   ⟨0,uZ cap K,_,I4,T.keep _ _ _ k fun b _ o e=>P b o e,fun b a=>(B b a).1,w0⟩
  rintro n s5 ⟨i,d,H',I5,t5,a4,w5⟩;rcases a2 i n d H' w5 with⟨stop,q⟩|⟨go,N,hN,step⟩
  .refine thn (T.done (bT X N' scope s3.heap.objs.size s3 (upd j D f) fp pins) rfl rfl rfl hc i _ s5 d H' _ I5 (l a4) t5 stop) fun r s6 ⟨hr,I6⟩=>.inl ⟨hr,?_⟩;have nC:=I6.free;refine a0 D _ H' s6 (let⟨m,hn,_⟩:=I6.loc;⟨m,hn⟩) (fun h' ab=>?_) (V.fpOk (A6 _) nC) q;have up:=fun b o a e=>ab.extBut b o a e;have R:∀b o,s3.heap.get? b=Z o->b≠s3.heap.objs.size:=fun b o e=>C2<|B3 e;have U:=I6.base
   have u7:Un (frs X.stack) fp (upd j D f) H' s3.heap h':=by
    refine⟨fun b o e n a hx=>up b o (R b o e)<|U.keep b o e n a hx,fun b o e n a hx=>?_,U.free,fun b o e hx=>?_,U.tups,U.frzs,U.tbls⟩
    .obtain⟨sl,q⟩:=U.slot b o e n a hx;exact⟨sl,up b _ (R b o e) q⟩
    .obtain⟨o',q⟩:=U.there b o e hx;exact⟨o',up b o' (R b o e) q⟩
   have ac:=fun b u e=>by
    refine(I6.hok b u e).stay (fun c v ae z=>up c v ?_ z) (fun c z=>z) fun c xs z=>z;rcases ae with rfl|z
    .exact aO e nC
    .exact aO z nC
   have af:=I6.os;have ag:=I6.bare;obtain⟨hh,gg,dd,tt,oo⟩:=s6;subst af;have z7:=V.call (d':=dd) (t':=tt) u7 ac ag fun b a=>⟨(B b a).2.2.2.1,(B b a).2.1,(B b a).2.2.2.2.1,(B b a).2.2.2.2.2⟩;exact z7
  .refine thn (T.item (bT X N' scope s3.heap.objs.size s3 (upd j D f) fp pins) rfl rfl rfl hc i _ s5 d H' _ I5 (l a4) t5 go) fun r s6 ⟨u,hr,h6⟩=>.inr ⟨u,hr,?_⟩;refine thn h6 fun _ s7 ⟨x,H7,I7,r7,y7,t7,ah⟩=>?_;have ai:=I7.pinned (l ah) (T.obj _ _ t7)
   have G:∀{a5:St}{Hx:Hp}{sx:Ua},Inv (bT X N' scope s3.heap.objs.size s3 (upd j D f) fp pins) ([]++sG fp s7.heap) a5 Hx sx->(∀b∈fp,∀o,s7.heap.get? b=Z o->sx.heap.get? b=Z o)/\(∀b∈fp,Hx b=Y):=fun{a5 Hx sx} Ix=>by
    refine⟨fun b a o e=>(Ix.pin (b,o)<|A7 _<|A7 _<|dW a e).1,fun b a=>?_⟩;obtain⟨o,e,_⟩:=T.obj _ _ t7 b a;exact(Ix.pin (b,o)<|A7 _<|A7 _<|dW a e).2.1
   refine thn (hg _ _ _ _ _ _ s7 d H7 x u _ ai r7<|step x H7 y7) fun _ s8 ⟨t,H8,I8,q8⟩=>?_;refine thn (a7 _ _ _ _ _ _ s8 t H8 _ I8 q8) fun b s9 ⟨H9,I9,q9⟩=>?_;rcases q9 with⟨rfl,q9⟩|⟨rfl,n9⟩
   .refine .inl ⟨rfl,thn (hk _ _ _ _ _ _ s9 t H9 _ I9 q9) fun uk aj ⟨y,ak,ao,ry,ap⟩=>thn (hv _ _ _ _ _ _ aj t ak _ ao ap) fun uv ay ⟨v,az,aq,rv,ar,au,av⟩=>?_⟩;obtain⟨m',hm,aw⟩:=hN _ _ av;refine XQ (X:=bT X N' scope s3.heap.objs.size s3 (upd j D f) fp pins) hu aq au ry rv fun b0 a6=>?_;obtain⟨b1,b2⟩:=G a6;exact⟨m',hm,i+1,t,ar,a6.pins_of fun p hp=>absurd hp (by simp),T.keep _ _ _ t7 b1,b2,aw⟩
   .obtain⟨m',hm,w9⟩:=hN _ _ n9;obtain⟨b1,b2⟩:=G I9;exact .inr ⟨rfl,m',hm,i+1,t,H9,I9.pins_of fun p hp=>absurd hp (by simp),T.keep _ _ _ t7 b1,b2,w9⟩
 exact codeAny_compStart_dict (F _ rfl)<|T.self _ 0 _ _ _ (T.keep _ _ _ k fun b _ o e=>P b o e)<|F _ rfl
def pe_dc{a:HO}(l:a=.dT []\/a=.dK [])(n:X.A.units<cLine)(o:X.calm=true)(S:oD X N' cap scope)(hi:PI X tg iter f)
 (p:∀C s H fp pn,PG (bT X N' scope C s H fp pn) tg g) (b:∀C s H fp pn,AN (bT X N' scope C s H fp pn) ifs i) (r:∀C s H fp pn,PE (bT X N' scope C s H fp pn) d j) (t:∀C s H fp pn,PE (bT X N' scope C s H fp pn) e k)
 (hs:∀x,foldedSetIterable iter X.env x=pure x:=by intro _;rfl):PE X (.DictComp d e [⟨tg,iter,ifs,0⟩] scope pos) (tDc a cap f g i j k):=fun pins s v H Q I h=>
 aAr l n o S hi p b r t hs I h fun D _ H' _ ⟨m,hn⟩ u _ q=>⟨m,hn,fun h' c=>⟨.ref D,H',u h' c,rfl,q⟩⟩
def aBb{i:Nat}{x:Str}{n:HO}(P:n=.dT []\/n=.dK []){d:Pos}{K:TE}(R:X.N.Nodup)(p:X.N[i]?=Z x)(T:X.A.units<cLine)(U:X.calm=true)(S:oD X N' cap scope)(hi:PI X tg iter G)
 (V:∀C s H fp pn,PG (bT X N' scope C s H fp pn) tg g) (q:∀C s H fp pn,AN (bT X N' scope C s H fp pn) ifs J) (W:∀C s H fp pn,PE (bT X N' scope C s H fp pn) k K) (hv:∀C s H fp pn,PE (bT X N' scope C s H fp pn) l L)
 (r:swapsWith (.DictComp k l [⟨tg,iter,ifs,0⟩] scope pos) (Z (.Name x c)) d.line X.env=pure true) (hx:X.env.scope.names.lookup x=Z .local)
 (hs:∀x,foldedSetIterable iter X.env x=pure x):PS X (.Assign [.Name x c] (.DictComp k l [⟨tg,iter,ifs,0⟩] scope pos) d) (VJ (tDc n cap G g J K L)<|AL i):=by
 intro pins s O H D I h;rw[exec_Assign_Name_used _ _ _ _ r];refine A0<|U9<|A0 ?_;show wpAny _ _ (comprehension (.DictComp k l [⟨tg,iter,ifs,0⟩] scope pos) scope X.env _ newDict false (firstIter [⟨tg,iter,ifs,0⟩] X.env) (Z<|assign (.Name x c) X.env) >>= fun _=>pure ()) _ _ s;refine A0 (thn (aAr (use:=Z<|assign (.Name x c) X.env) (QQ:=fun _ f=>∃j H',Inv X pins j H' f/\D.nx j H') (Q:=fun v H1=>AL i v O H1 D.nx) P T U S hi V q W hv hs I h fun E C H' f ⟨m,hn⟩ hI fC hq=>?_) fun _ f hz=>B2<|B2 hz);have I1:Inv X pins O H' f:=hI f.heap<|Heap.SameBut.refl ..;refine wpAny_assign_Name<|yC (M:=model X.prog X.w) (A:=X.A) (E:=X.xe) I1 R p (.inl hx) (v:=.ref E) (u:=.ref E) rfl (fun s2 I2 t=>?_) (.inr hx);obtain⟨a,y,ha⟩:=t
 have B:C≠a:=by
  rcases ha with z|z
  .rw[z];exact fC.2.1
  .exact fun w=>fC.2.2.2.2.1 x a z w.symm
 refine⟨m,hn.extBut y.extBut B,fun h' F=>?_⟩;exact⟨_,_,I2.turned (t':=s2.toks) (fun b o hb e=>F.extBut b o hb e) fC.1 fC.2.1 fC.2.2.2.1 fC.2.2.2.2.1 fC.2.2.2.2.2,hq⟩
end
def dcF(d:Nat)(g:GF)(c:TF)(f:KF)(e:EF):T6->Ga->Sto->Tw Sto
 |[],_,M=>Z M
 |x::xs,h,M=>(g x h M).bind fun a=>(c a.1 a.2).bind fun b=>if b.1=true then(f a.1 b.2).bind fun k=>(e a.1 k.2).bind fun v=>(wX v.2 (.c d) k.1 v.1).bind fun M'=>dcF d g c f e xs a.1 M' else dcF d g c f e xs a.1 b.2
def fDc(b:Cell)(cap:T3)(f:AF)(g:GF)(c:TF)(d:KF)(e:EF):EF:=fun a M=>(f a M).bind fun r=>(dcF r.2.length g c d e r.1 (DX cap a) (r.2++[b])).bind fun M'=>Z (.c r.2.length,M')
section
variable{K:Fg}{tg:TG}{tt:TT}{hg:GF}{ft:TF}{fa:AF}
def aJX{I:HO}{L:Cell}(h0:(I=.dT []/\L=.dt [])\/(I=.dK []/\L=.dk []))(i:SI K wi fa)(a:SG K tg hg)(c:STt K tt ft)(b:SK K tk N)(e:SE K tv O):
 SE K (tDc I cap wi tg tt tk tv) (fDc L cap fa hg ft N O):=by
 intro γ M x M' t W H σ Q G R k;obtain⟨⟨h,M1⟩,h1,t⟩:=aI t;obtain⟨M9,h9,t⟩:=aI t;cases t;refine i _ _ _ _ h1 W H σ _ G R fun J P H1 e1 G1 gv=>fun D hD=>?_;have G2:Good K (P.more D) (M1++[L]) (upd H1 D I):=G1.new hD (by rcases h0 with⟨rfl,rfl⟩|⟨rfl,rfl⟩<;>exact .nil);have V:=P.ext_more D;have rD:cL K (P.more D) (.c M1.length) (.ref D):=G1.newV;refine⟨fun j m l H'=>∃n S o,j<=h.length/\m=h.length-j/\(P.more D).Ext o/\Good K o S H'/\cP K o n l/\dcF M1.length hg ft N O (h.drop j) n S=Z M',⟨_,DX cap γ,_,_,E7 _,rfl,.refl _,G2,IQ ((R.up e1).up V) cap,h9⟩,?_⟩;rintro j m l H' ⟨n,S,o,hj,rfl,u,G3,R3,d⟩;obtain⟨X,a0⟩:=gv o S H' (V.trans u) G3;by_cases q:j<h.length
 .obtain⟨go,yl⟩:=X j h[j]<|C5 q;rw[A0g q]at d;refine .inr ⟨go,fun w T=>∃f U A,o.Ext A/\Good K A U T/\cP K A f w/\dcF M1.length hg ft N O (h.drop (j+1)) f U=Z M',?_,fun y T hy=>?_⟩
  .rintro w T ⟨f,U,A,e4,G4,R4,h4⟩;exact⟨_,by omega,f,U,A,q,rfl,u.trans e4,G4,R4,h4⟩
  .obtain⟨W8,e8,G8,ry⟩:=yl y T hy;obtain⟨⟨B,M5⟩,h5,d⟩:=aI d;obtain⟨⟨b6,M6⟩,h6,d⟩:=aI d;refine a _ _ _ _ _ h5 W8 _ l y _ G8 (R3.up e8) ry fun r W5 H5 e5 G5 C=>?_;refine c _ _ _ _ h6 W5 H5 r _ G5 C fun W6 H6 E G6=>?_;have F:=(e8.trans e5).trans E;cases b6 with
   |true=>
    obtain⟨⟨ky,M7⟩,h7,d⟩:=aI d;obtain⟨⟨z,aa⟩,a1,d⟩:=aI d;obtain⟨a2,a3,d⟩:=aI d;refine .inl ⟨rfl,b _ _ _ _ h7 W6 H6 r _ G6 (C.up E) fun yv W7 H7 e7 G7 r7=>e _ _ _ _ a1 W7 H7 r _ G7 (C.up<|E.trans e7) fun v a4 ab s a5 a6=>?_⟩;have g:=(F.trans e7).trans s;obtain⟨p,a7,ep,a8,a9⟩:=NM a5 a3 (rD.up<|u.trans g) (r7.up s) a6;cases ep;exact⟨a7,a8,B,a2,a4,g,a9,C.up<|(E.trans e7).trans s,d⟩
   |false=>
    exact .inr ⟨rfl,B,M6,W6,F,G6,C.up E,d⟩
 .have ej:j=h.length:=by omega
  subst ej;rw[List.drop_length]at d;cases d;exact .inl ⟨a0,k _ o H' ((e1.trans V).trans u) G3<|rD.up u⟩
variable{ι:Type}{X:ι->Cx}{N':Tb}{cap:T3}{scope:Scope}{tg' iter kx vx:Uc}{ifs:T8}{gf:GF}{fk:KF}{f:EF}{pos:Pos}
def WL(i:Nat){c:Str}{a:Pos}(g:∀j,(X j).N.Nodup)(h:∀i,(X i).A.units<cLine)(k:∀i,(X i).calm=true)(S:∀i,oD (X i) N' cap scope)(x:MI K X tg' iter fa)(y:MG K (lG X N' scope) tg' gf)(z:MF K (lG X N' scope) ifs ft)(w:MK K (lG X N' scope) kx fk)(q:ME K (lG X N' scope) vx f)(d:∀j,(X j).N[i]?=Z c:=by intro _;rfl)
 (e:∀j,swapsWith (.DictComp kx vx [⟨tg',iter,ifs,0⟩] scope pos) (Z (.Name c b)) a.line (X j).env=pure true:=by intro _;rfl) (hx:∀j,(X j).env.scope.names.lookup c=Z .local:=by intro _;rfl) (hs:∀(env:Env)(x:Tx),foldedSetIterable iter env x=pure x:=by intro _ _;rfl):
 MS K X (.Assign [.Name c b] (.DictComp kx vx [⟨tg',iter,ifs,0⟩] scope pos) a) (bC (fDc (.dk []) cap fa gf ft fk f)<|hName i):=by
 obtain⟨t,l,m⟩:=x.ex;obtain⟨u,n,r⟩:=y.ex;obtain⟨v,B,D⟩:=z.ex;obtain⟨o,E,F⟩:=w.ex;obtain⟨p,G,I⟩:=q.ex;exact⟨_,fun j=>aBb (.inr rfl) (g j) (d j) (h j) (k j) (S j) (l j) (fun C s H fp pn=>n (j,C,s,H,fp,pn)) (fun C s H fp pn=>B (j,C,s,H,fp,pn)) (fun C s H fp pn=>E (j,C,s,H,fp,pn)) (fun C s H fp pn=>G (j,C,s,H,fp,pn)) (e j) (hx j)<|hs _,IJ (aJX (.inr ⟨rfl,rfl⟩) m r D F I) wG⟩
end
def cG.u1(r:cG k A):A.units+1<cLine:=by have:=r.un;omega
def cG.u0(r:cG k A):A.units<cLine:=by have:=r.un;omega
abbrev IPF:=Ga->Sto->Tw ((T6×(Sto->Prop))×Sto)
def aJu(K:Fg)(J:It)(P:Sto->Prop)(xs:T6)(W:Wd):Prop:=∀W' M' H',W.Ext W'->Good K W' M' H'->P M'->
 (∀i x,xs[i]?=Z x->J.go i H'/\∀y b,J.yld i H' y b->∃a,W'.Ext a/\Good K a M' b/\cL K a x y)/\J.stop xs.length H'
def SIP(K:Fg)(c:TI)(f:IPF):Prop:=∀a M xs P M',f a M=Z ((xs,P),M')->∀(W:Wd)(H:Hp)(b:St)(R:It->Hp->Prop),Good K W M H->cP K W a b->(∀J W' H',W.Ext W'->Good K W' M' H'->aJu K J P xs W'->R J H')->c b H R
def walked(M:Sto):CD->Tw (T6×(Sto->Prop))
 |.d x=>(aQ x).bind fun ds=>Z (ds.map .d,fun _=>True)
 |.c i=>match M[i]? with
  |some (.lst xs)=>Z (xs,fun M'=>M'[i]?=Z (.lst xs))
  |_=>Y
 |_=>Y
def tG(f:EF):IPF:=fun a M=>(f a M).bind fun r=>(walked r.2 r.1).bind fun p=>Z (p,r.2)
open Classical in
noncomputable def zI(P:Sto->Prop)(g:GF)(b:SF):T6->Ga->Sto->Tw (Out×Sto)
 |[],c,M=>if P M then Z (.nx c,M)else Y
 |x::xs,c,M=>if P M then(g x c M).bind fun r=>(b r.1 r.2).bind fun q=>match q.1 with
  |.nx a=>zI P g b xs a q.2
  |.ct a=>zI P g b xs a q.2
  |.bk a=>Z (.nx a,q.2)
  |.rt x=>Z (.rt x,q.2)else Y
noncomputable def FS(f:IPF)(g:GF)(b:SF):SF:=fun a M=>(f a M).bind fun r=>zI r.1.2 g b r.1.1 a r.2
section
variable{K:Fg}{ta:TE}{f:EF}{fp:IPF}{tg:TG}{hg:GF}{t:TS}{p:SF}
def PZ{W:Wd}{M:Sto}{H:Hp}{x:CD}{v:V}{xs:T6}{P:Sto->Prop}(h:walked M x=Z (xs,P))(G:Good K W M H)(r:cL K W x v):
 ∃a,v=.ref a/\((∃vs,SqL K H a vs)/\(∀W' M' H',W.Ext W'->Good K W' M' H'->P M'->∃vs,SqL K H' a vs/\cM K W' xs vs)\/(∃vs,SqT K H a vs)/\∀W' M' H',W.Ext W'->Good K W' M' H'->P M'->∃vs,SqT K H' a vs/\cM K W' xs vs):=by
 unfold walked at h;split at h
 .rename_i y;obtain⟨ds,j,h⟩:=aI h;cases h;obtain⟨a,vs,rfl,hs,c⟩:=kC (show Rep K W.F y v from r) j;refine⟨a,rfl,?_⟩;rcases hs with hs|hs
  .exact .inl ⟨⟨vs,G.fh.seq hs⟩,fun W' M' H' e b _=>⟨vs,b.fh.seq<|e.ff.seq hs,cM.up (gS c) e⟩⟩
  .exact .inr ⟨⟨vs,G.fh.seqT hs⟩,fun W' M' H' e b _=>⟨vs,b.fh.seqT<|e.ff.seqT hs,cM.up (gS c) e⟩⟩
 .rename_i i;split at h
  .rename_i m hy;cases h;obtain⟨vs,k,c⟩:=G.lstAt hy;refine⟨_,r.2,.inl ⟨⟨vs,SqL.of k⟩,fun W' M' H' e b l=>?_⟩⟩;obtain⟨us,g,d⟩:=b.lstAt l;rw[e.al i r.1]at g;exact⟨us,SqL.of g,d⟩
  .cases h
 .cases h
def aFj(a:SE K ta f):SIP K (YL K ta) (tG f):=by
 intro J M xs P M' d W H C R G Rs k;obtain⟨⟨y,M1⟩,D,d⟩:=aI d;obtain⟨q,E,d⟩:=aI d;cases d;refine a _ _ _ _ D W H C _ G Rs fun v z A B m F=>?_;obtain⟨l,rfl,e⟩:=PZ E m F;refine⟨l,rfl,?_⟩;rcases e with⟨⟨vs,n⟩,e⟩|⟨⟨vs,n⟩,e⟩
 .refine .inl ⟨vs,n,k _ z A B m fun g M2 o r h s=>?_⟩;obtain⟨us,c,j⟩:=e g M2 o r h s;refine⟨fun i x hx=>?_,us,c,by rw[Paired.len j];exact A6 _⟩;obtain⟨u,b,w⟩:=Paired.get j hx;refine⟨⟨us,u,c,b⟩,fun y I hy=>⟨g,.refl _,by rw[hy.1];exact h,?_⟩⟩;have:=hy.2 us c;rw[b]at this;cases this;exact w
 .refine .inr ⟨vs,n,k _ z A B m fun g M2 o r h s=>?_⟩;obtain⟨us,c,j⟩:=e g M2 o r h s;refine⟨fun i x hx=>?_,us,c,by rw[Paired.len j];exact A6 _⟩;obtain⟨u,b,w⟩:=Paired.get j hx;refine⟨⟨us,u,c,b⟩,fun y I hy=>⟨g,.refl _,by rw[hy.1];exact h,?_⟩⟩;have:=hy.2 us c;rw[b]at this;cases this;exact w
def aEI{S:TI}(i:SIP K S fp)(a:SG K tg hg)(b:SS K t p):SS K (aJa S tg t) (FS fp hg p):=by
 intro T M o M' u W H σ D G R k;obtain⟨⟨⟨xs,P⟩,M1⟩,h1,u⟩:=aI u;have u:zI P hg p xs T M1=Z (o,M'):=u;refine i _ _ _ _ _ h1 W H σ _ G R fun J U H1 A G1 gv=>?_;refine⟨fun j m d H'=>∃n M2 q,j<=xs.length/\m=xs.length-j/\U.Ext q/\Good K q M2 H'/\cP K q n d/\zI P hg p (xs.drop j) n M2=Z (o,M'),⟨_,T,M1,U,E7 _,rfl,.refl _,G1,R.up A,u⟩,?_⟩;rintro j m d H' ⟨n,M2,q,hj,rfl,v,V,R2,c⟩
 have s:P M2:=by
  by_cases s:P M2
  .exact s
  .cases hd:xs.drop j<;>rw[hd]at c<;>unfold zI at c<;>rw[B0 s]at c<;>cases c
 obtain⟨I,L⟩:=gv q M2 H' v V s;by_cases r:j<xs.length
 .obtain⟨go,yl⟩:=I j xs[j]<|C5 r;rw[A0g r]at c;unfold zI at c;rw[A4 s]at c;refine .inr ⟨go,fun w B=>∃g C z,q.Ext z/\Good K z C B/\cP K z g w/\zI P hg p (xs.drop (j+1)) g C=Z (o,M'),?_,fun y B hy=>?_⟩
  .rintro w B ⟨g,C,z,e3,G3,R3,h3⟩;exact⟨_,by omega,g,C,z,r,rfl,v.trans e3,G3,R3,h3⟩
  .obtain⟨W8,X,G8,ry⟩:=yl y B hy;obtain⟨⟨a0,M4⟩,h4,c⟩:=aI c;obtain⟨⟨o5,M5⟩,h5,c⟩:=aI c;refine a _ _ _ _ _ h4 W8 _ d y _ G8 (R2.up X) ry fun N W4 H4 e4 G4 R4=>?_;refine b _ _ _ _ h5 W4 H4 N _ G4 R4 fun E H5 e5 F=>?_;have h:=(X.trans e4).trans e5;cases o5 with
   |nx l=>exact fun O Q=>⟨l,M5,E,h,F,Q,c⟩
   |ct l=>exact fun O Q=>⟨l,M5,E,h,F,Q,c⟩
   |bk l=>cases c;exact k E H5 ((A.trans v).trans h) F
   |rt x=>cases c;exact k E H5 ((A.trans v).trans h) F
 .have e:j=xs.length:=by omega
  subst e;rw[List.drop_length]at c;unfold zI at c;rw[A4 s]at c;cases c;exact .inl ⟨L,k q H' (A.trans v) V d R2⟩
end
section
variable{ι:Type}{K:Fg}{X:ι->Cx}{tg iter a:Uc}{es sts':T8}{sts:T9}{f:EF}{fa:AF}{gf:GF}{gs:GsF}{sf:SF}{pos:Pos}
def aDA(hp:∀i,PassesOwn (model (X i).prog (X i).w) (X i).A (X i).env (X i).xe)(b:∀i,(X i).calm=true)(c:∀i,(X i).K=K)(x:ME K X iter f)(y:MG K X tg gf)(z:ML K X sts sf)(hs:∀(env:Env)(x:Tx),foldedSetIterable iter env x=pure x:=by intro _ _;rfl):MS K X (.For tg iter sts [] pos) (FS (tG f) gf sf):=by
 obtain⟨t,d,e⟩:=x.ex;obtain⟨u,g,h⟩:=y.ex;obtain⟨v,j,k⟩:=z.ex;exact⟨_,fun i=>aAY (hp i) (b i) (TY (c i)<|d i) (g i) (j i)<|hs _,aEI (aFj e) h k⟩
end
structure Apart5(z TI TO i1 i2:Ub):Prop where
 TIz:TI≠z
 TOz:TO≠z
 i1z:i1≠z
 i2z:i2≠z
 TITO:TI≠TO
 TIi1:TI≠i1
 TIi2:TI≠i2
 TOi1:TO≠i1
 TOi2:TO≠i2
 i12:i1≠i2
def VT(n:Nat):Apart5 (n+4) (n+2) (n+3) n (n+1):=by
 have key:∀a b:Nat,¬a=b->(a:Ub)≠b:=fun _ _ h=>h;exact⟨key _ _ (by omega),key _ _ (by omega),key _ _ (by omega),key _ _ (by omega),key _ _ (by omega),key _ _ (by omega),key _ _ (by omega),key _ _ (by omega),key _ _ (by omega),key _ _ (by omega)⟩
section
variable{X:Cx}{elts:T8}{x1:Nat}{tpos:Pos}
def boot_zip:bootBuiltins "zip"=Z (.type "zip"):=by decide +kernel
end
noncomputable def rK:T4->T4->T6
 |x::xs,y::a=>.d (.tuple [x,y])::rK xs a
 |_,_=>[]
def aMk(f:AF):AF:=fun a M=>(f a M).bind fun r=>match r.1 with
 |[.d (.list xs),.d (.list b)]=>Z (rK xs b,r.2)
 |_=>Y
theorem KW:∀{xs ys:T4}{i:Nat}{x:CD},(rK xs ys)[i]?=Z x->∃a b,xs[i]?=Z a/\ys[i]?=Z b/\x=.d (.tuple [a,b])
 |[],_,i,x=>fun h=>by unfold rK at h;cases i<;>cases h
 |_::_,[],i,x=>fun h=>by unfold rK at h;cases i<;>cases h
 |a::xs,b::ys,0,x=>fun h=>⟨a,b,rfl,rfl,by unfold rK at h;exact(D3 h).symm⟩
 |a::xs,b::ys,i+1,x=>fun h=>by
  obtain⟨c,d,e,f,g⟩:=KW (xs:=xs) (ys:=ys) (i:=i) (by unfold rK at h;exact h);exact⟨c,d,e,f,g⟩
end L2
namespace PySem
open Sem (wp)
namespace F
end F
end PySem
namespace L2
open PySem PySem.Spec PyProof.Rows
def cG.le{ι:Type}{j:Nat}(r:cG k A q)(h:j<=k:=by decide):ι->cG j A q:=fun _=>r.mono h
def cG.mark{j:Nat}(r:cG k A)(h:j<=k):cG j (A.mark v) false:=
 ⟨(fun z=>nomatch z),(r.mono h).dp,(r.mono h).un,r.gd⟩
section
variable{X:Cx}
def RU:Tc->Hp->VK->Prop:=fun xs H Q=>∃(a:Ub)(kvs:Tv (Key×V))(c:T7),xs=[.ref a]/\H a=Z (.dK kvs)/\kvs.map (·.1)=c.map .inl/\c.length<64 /\
 ∀b:T7,b.Perm c->b.Pairwise (·<=·)->∀l,H l=Y->Q (.ref l) (upd H l (.lst (b.map .int)))
theorem FW:∀{vs:T5}{a:T7},IntsAre vs a->bG (a.map V.int) vs
 |_,_,.nil=>.nil
 |_,_,.cons _ t h=>.cons ⟨t,rfl⟩ (FW h)
theorem QY:∀{ws:T5}{a:T7},ws.length=a.length->(∀(j:Nat) v i,ws[j]?=Z v->a[j]?=Z i->∃t,v=Value.int i t)->IntsAre ws a
 |[],[],_,_=>.nil
 |v::ws,n::a,b,h=>by
  obtain⟨t,rfl⟩:=h 0 v n rfl rfl;exact .cons n t (QY (Nat.succ.inj b) fun j=>h (j+1))
def LJ(U:X.calm=true):fR X (.builtin "sorted") RU:=by
 intro pins s σ H xs us Q I r h;obtain⟨a,kvs,B,rfl,ea,M,C,q⟩:=h;obtain⟨u,rfl,ru⟩:=vals1 r;cases ru;obtain⟨z,hs,vs,rk,dd⟩:=TM I.hok ea;obtain⟨ep,E⟩:=dd.dictAt;obtain⟨m,F⟩:=I.fr;have N:News X.base X.env.locals s.heap (nH X.base s.heap X.env.locals):=MJ
 have O:vs.length=B.length:=by
  have h1:kvs.length=vs.length:=Paired.len rk;have h2:=L5 List.length M;rw[A3,A3]at h2;omega
 refine W.kdu_sorted (W.kdl_dict (knd:=dD X.prog X.w) (kvs:=vs) (ep:=ep) hs) (I.ok.hd U) F N E (by rw[O,E9];omega) fun D h' tk ws F' N' P g hw=>?_
 have hi:IntsAre ws B:=QY (by rw[g,O]) fun j v i e1 e2=>by
  obtain⟨k,x,e3,R⟩:=hw j v e1;have e5:(vs.map (·.1))=B.map Sum.inl:=by rw[<- M];exact(KV.keys rk).symm
  have S:(vs.map (·.1))[j]?=Z k:=by rw[D0,e3];rfl
  rw[e5,D0,e2]at S;cases S;rw[NP]at R;rcases cT R with⟨i',t,G,e8⟩|⟨_,_,G,_⟩
  .cases G;exact⟨t,e8⟩
  .cases G
 refine W.ksk_lsort (its:=ws.toArray) (n:=0) (news':=fun o=>(D,o)::nH X.base s.heap X.env.locals) F' N' (fun o=>.head fun p hp=>C2<|P p hp) (by simp) hi C fun J d c l y f K _ pm pw _=>?_
 have A:s.heap.get? D=Y:=by
  have T:=f _ A9;cases e:s.heap.get? D with
  |none=>rfl
  |some o=>exact absurd (P (D,o)<|mX T.2.1 T.2.2 e)<|E3 _
 have kp:∀b o,b≠X.env.locals->s.heap.get? b=Z o->l.get? b=Z o:=fun b o hb e=>by
  cases z:X.base.get? b with
  |some v=>
   have:=I.bk b v z;rw[e]at this;cases this;exact y.keep b _ z
  |none=>exact(f (b,o)<|A8 _<|mX hb z e).1
 have hz:(d.map V.int).length<=sizeLine:=by rw[A3,pm.length_eq,E9];omega
 have I2:Inv X pins σ (upd H D (.lst (d.map .int))) { s with heap:=l }:=I.laidL kp (fun m' L=>by rw[<- SB F.ns L];exact y.ns) A ⟨hz,J,c,FW K,(f _ A9).1⟩;exact⟨.ref D,_,I2.tok tk,rfl,q d pm pw D<|I.hok.none A⟩
end
theorem sZ:∀{xs ys:T7},xs.Pairwise (·<=·)->ys.Pairwise (·<=·)->xs.Perm ys->xs=ys
 |[],ys=>fun _ _ p=>(List.nil_perm.mp p).symm
 |x::xs,[]=>fun _ _ p=>by have:=p.length_eq;simp at this
 |x::xs,y::ys=>fun hx hy p=>by
  have c:=List.pairwise_cons.mp hx;have d:=List.pairwise_cons.mp hy
  have e:x=y:=by
   have a:y<=x:=by
    rcases List.mem_cons.mp (p.mem_iff.mp A9)with q|q
    .exact Int.le_of_eq q.symm
    .exact d.1 x q
   have b:x<=y:=by
    rcases List.mem_cons.mp (p.mem_iff.mpr A9)with q|q
    .exact Int.le_of_eq q.symm
    .exact c.1 y q
   omega
  subst e;rw[sZ c.2 d.2 (List.perm_cons x |>.mp p)]
noncomputable def kI(c:T7):T7:=c.mergeSort fun a b=>decide (a<=b)
def vF(a:T7):(kI a).Perm a:=List.mergeSort_perm _ _
def qB(d:T7):(kI d).Pairwise (·<=·):=by
 have:=List.pairwise_mergeSort (le:=fun a b:Int=>decide (a<=b)) (fun a b c e f=>B9<|Int.le_trans (D7 e)<|D7 f) (fun a b=>by simp;omega) d;exact this.imp fun h=>D7 h
def EN:Tv Key->Tw (T7)
 |[]=>Z []
 |.inl i::r=>(EN r).map (i::·)
 |.inr _::_=>Y
theorem JU:∀{ks:Tv Key}{a:T7},EN ks=Z a->ks=a.map .inl
 |[],a=>fun h=>by cases h;rfl
 |.inl i::r,a=>fun h=>by
  obtain⟨m,b,c⟩:=Option.map_eq_some_iff.mp (show(EN r).map (i::·)=Z a from h);subst c;rw[JU b];rfl
 |.inr _::_,a=>fun h=>by cases h
section
variable{K:Fg}
def tM:FN:=fun xs M=>match xs with
 |[.c i]=>match M[i]? with
  |some (.dk kvs)=>(EN (kvs.map (·.1))).bind fun a=>if a.length<64 then Z (.d (.list ((kI a).map .int)),M)else Y
  |_=>Y
 |_=>Y
theorem aBV:∀a:T7,aM K H (a.map .int) (a.map .int)
 |[]=>rfl
 |n::a=>⟨_,_,rfl,rfl,aBV a⟩
theorem EI{W:Wd}:∀{kvs:Tv (Key×CD)}{us:Tv (Key×V)},PKV K W kvs us->us.map (·.1)=kvs.map (·.1)
 |_,_,.nil=>rfl
 |_,_,.cons h t=>by rw[C0,C0,EI t,h.1]
def VZ:PN K RU tM:=by
 intro xs M z M' h W H vs Q G r k;unfold tM at h;split at h
 .rename_i i;split at h
  .rename_i kvs hi;obtain⟨a,f,h⟩:=aI h;by_cases b:a.length<64
   .rw[A4 b]at h;cases h;obtain⟨us,ha,g⟩:=G.dkAt hi;rcases r with _|⟨j,_|_⟩;refine⟨W.α i,us,a,by rw[j.2],ha,by rw[EI g];exact JU f,b,fun c pm m l d=>?_⟩;have e:c=kI a:=sZ m (qB a)<|pm.trans (vF a).symm;subst e;obtain⟨n,p⟩:=G.lay (o:=.lst ((kI a).map .int)) d;exact k _ _ _ n p ⟨l,_,rfl,SqL.of aW,aBV _⟩
   .rw[B0 b]at h;cases h
  .cases h
 .cases h
def aAA{ι:Type}{X:ι->Cx}(a:∀i,(X i).calm=true):QN K X (.builtin "sorted") tM:=⟨_,fun i=>LJ<|a i,VZ⟩
end
section
variable{K:Fg}
end
end L2
namespace HT
open PySem  PySem.Spec PyProof.Rows
end HT
namespace L2
open PySem PySem.Spec PyProof.Rows
section
open PySem.SeqAt
open PySem.AutoSeq1 (wpAny_loadPart')
open PySem.MeetsSeq PySem.MeetsSeq2 PySem.MeetsSeq3
def aEq{A:Ue}{s:Ua}{c:Bool}(f:A.units<cLine)(d:Reads s.heap p x as)(e:Reads s.heap q y bs)(h:eS x y=Z c):
 ∀Q:T0,Q (.bool c) s->wpAny (model prog w) A (richCompare .Lt p q) Q E s:=by
 intro Q k;unfold eS at h;split at h
 .rename_i a b;cases d;cases e;cases h;exact HT.rcLt_int _ _ _ _ _ _ _ _ _ _ k
 .rename_i xs v;obtain⟨z,g,h⟩:=Option.bind_eq_some_iff.mp h;obtain⟨ms,i,h⟩:=Option.bind_eq_some_iff.mp h;cases h;cases d with
  |tuple j l m n=>
   cases e with
   |tuple o r t u=>exact HT.lt_tupInts ⟨_,j,l,_,m⟩ ⟨_,o,r,_,t⟩ (oV n g) (oV u i) f k
 .cases h
def ED(l b:Ub)(us i:Ti)(n L:Nat)(dd u:Th)(sl sl2:Array (Tf))(xs ys:T4)(c:Bool):
 Meets (Builtin.«tuple.__lt__» ⟨[.ref l,.ref b],[]⟩)
  (fun A R s=>(A.in1.units+64<cLine/\(∃as,ReadsAll s.heap us.toList xs as)/\(∃bs,ReadsAll s.heap i.toList ys bs)/\xs.all SeqAt.shaped=true/\ys.all SeqAt.shaped=true/\dF xs ys=Z c) /\
   s.heap.get? l=Z { cls:=.type "tuple",dict:=dd,data:=.seq us n,slots:=sl }/\s.heap.get? b=Z { cls:=.type "tuple",dict:=u,data:=.seq i L,slots:=sl2 } /\
   R (.ok (.ret (.bool c))) s):=
 .of_wp fun prog w A R s h=>by
  obtain⟨r,g,d,v,os⟩:=s;obtain⟨⟨I,⟨as,hi⟩,⟨bs,J⟩,s1,s2,M⟩,N,O,h⟩:=h;have f2:=AutoSeq1.sub_tuple_tuple;have T:us.size=xs.length:=by rw[<- ReadsAll.len hi];simp
  have U:i.size=ys.length:=by rw[<- ReadsAll.len J];simp
  wp_walk using S8 N,S8 O,wpAny_forIn_list _ (fun rest b z=>b.1=Y/\z=⟨r,g,d,v,os⟩/\∃(vs ws:T5)(j a:T4),rest=vs.zip ws /\
   (∃as,ReadsAll r vs j as)/\(∃bs,ReadsAll r ws a bs)/\j.all SeqAt.shaped=true/\a.all SeqAt.shaped=true/\j.length+i.size=a.length+us.size/\dF j a=Z c) _
  case turn=>
   rintro⟨y,x⟩ rest b z ⟨o,rfl,vs,ws,j,a,m,⟨B,ha⟩,⟨C,p⟩,t1,t2,f,k⟩;cases ha with
   |nil=>rw[List.zip_nil_left]at m;cases m
   |cons D K=>
    cases p with
    |nil=>rw[List.zip_nil_right]at m;cases m
    |cons t F=>
     rename_i dx P _ V Q _;rw[List.zip_cons_cons]at m;injection m with G q
     injection G with hy hx
     subst hy hx;rw[Z1,B8]at t1 t2;simp only[List.length_cons]at f;refine A0<|SeqAt.eqAt_reads _ _ A.in1 ⟨r,g,d,v,os⟩ _ _ _ _ D t (S7 t1.1) (S7 t2.1) (SeqAt.room_of_shaped t1.1 I) prog w _ _ ?_;have k:(if PyData.eqv _ _=true then dF _ _ else eS _ _)=Z c:=k;revert k;split
     .rename_i e;intro k;rw[e]
      wp_walk
      exact⟨rfl,rfl,_,_,_,_,q,⟨_,K⟩,⟨_,F⟩,t1.2,t2.2,by omega,k⟩
     .rename_i e;intro k;rw[Bool.eq_false_iff.mpr e];have H:=fun E=>aEq (prog:=prog) (w:=w) (A:=A.in1) (E:=E) (s:=⟨r,g,d,v,os⟩) (Nat.lt_of_le_of_lt (J9 _ 64) I) D t k
      wp_walk using H
      exact⟨_,rfl,by simpa using h⟩
  case fin=>
   rintro⟨t,F⟩ z ⟨o,rfl,vs,ws,j,a,m,⟨B,ha⟩,⟨C,p⟩,t1,t2,f,k⟩;simp only at o;subst o
   have S:c=decide (us.size<i.size):=by
    cases ha with
    |nil=>
     have k:Z (decide (0<a.length))=Z c:=k;cases k;simp only[List.length_nil]at f;exact decide_eq_decide.mpr (by omega)
    |cons D K=>
     cases p with
     |nil=>
      cases k;simp only[List.length_nil,List.length_cons]at f;exact(C4 (by omega)).symm
     |cons t F=>
      rw[List.zip_cons_cons]at m;cases m
   rw[S]at h
   wp_walk
   exact⟨_,rfl,by simpa[Builtin.Tuple.tupleCompareSizes]using h⟩
  case h=>
   exact⟨rfl,rfl,us.toList,i.toList,xs,ys,rfl,⟨_,hi⟩,⟨_,J⟩,s1,s2,by omega,M⟩
end
section
variable{prog:Ud}{w:World}{A:Ue}{E:T0}{s:Ua}
def aEu{c:Bool}{Q:T0}(l:Reads s.heap p (.tuple xs) as)(m:Reads s.heap q (.tuple ys) bs)(s1:xs.all SeqAt.shaped=true)(s2:ys.all SeqAt.shaped=true)(n:dF xs ys=Z c)
 (b:A.in1.units+64<cLine) (h:Q (.bool c) s):wpAny (model prog w) A (compareOp .Lt p q) Q E s:=by
 cases l with
 |tuple d e f o=>
  cases m with
  |tuple g i j r=>
   rename_i t _ _ _ u _ _;obtain⟨cls,v,data,sl⟩:=t;obtain⟨k,a,data2,sl2⟩:=u;simp only at e f i j;subst e f i j
   exact richCompare_meets_room (op:=.Lt) ⟨_,d,rfl⟩ ⟨_,g,rfl⟩ F.slot_tuple_lt F.entry_tuple_lt (F.args_tuple_lt_2 _ _) (ED _ _ _ _ _ _ v a sl sl2 xs ys c)
    ⟨⟨b,⟨_,o⟩,⟨_,r⟩,s1,s2,n⟩,d,g,show Value.bool c≠Value.notImplemented/\Q (.bool c) s from⟨(fun x=>nomatch x),h⟩⟩ (Nat.lt_of_le_of_lt (A0z<|B6 (O6 _)<|J9 _ 64) b)
end
section
variable{X:Cx}
def aIw(K:Fg):R2:=fun x y H Q=>∃xs a c,Rep K H (.tuple xs) x/\Rep K H (.tuple a) y/\xs.all SeqAt.shaped=true/\a.all SeqAt.shaped=true/\dF xs a=Z c/\Q (.bl c) H
def aIl(a:X.A.in1.units+64<cLine):OpR X (compareOp .Lt) (aIw X.K):=by
 intro pins s g H x y v u Q I b d h;obtain⟨xs,i,c,hx,hy,s1,s2,e,q⟩:=h;obtain⟨as,ha⟩:=Rep.reads I _ x v hx b;obtain⟨bs,f⟩:=Rep.reads I _ y u hy d;exact aEu ha f s1 s2 e a ⟨.bl _,H,I,rfl,q⟩
end
def ltD:F2:=fun x y M=>match x,y with
 |.d (.tuple xs),.d (.tuple a)=>if (xs.all SeqAt.shaped&&a.all SeqAt.shaped)=true then(dF xs a).bind fun c=>Z (.d (.bool c),M)else Y
 |_,_=>Y
def ltX:F2:=HS ltI ltD
section
variable{K:Fg}
def aHd:P2 K (aIw K) ltD:=by
 intro x y M z M' h W H v u Q G b d k;unfold ltD at h;split at h
 .rename_i xs a;by_cases hs:(xs.all SeqAt.shaped&&a.all SeqAt.shaped)=true
  .rw[A4 hs]at h;obtain⟨c,e,h⟩:=aI h;cases h;rw[B8]at hs;exact⟨xs,a,c,Rep.same G.fh _ _ b,Rep.same G.fh _ _ d,hs.1,hs.2,e,k _ W H (.refl _) G rfl⟩
  .rw[B0 hs]at h;cases h
 .cases h
end
section
variable{ι:Type}{K:Fg}{X:ι->Cx}
def aEv{X:Cx}{K:Fg}(e:X.K=K)(a:X.A.in1.units+64<cLine):OpR X (compareOp .Lt) (aIw K):=by subst e;exact aIl a
def aKs(a:∀i,(X i).K=K)(b:∀i,(X i).A.in1.units+64<cLine):Q2 K X (compareOp .Lt) ltX:=⟨_,fun i=>op_lt.or<|aEv (a i)<|b i,P2.or aGn aHd⟩
end
def QE:Tv (CD×CD)->Tw (Tv (Key×CD))
 |[]=>Z []
 |(k,x)::r=>(keyOf k).bind fun a=>(QE r).bind fun q=>Z ((a,x)::q)
def qS(fs:Tv (EF×EF)):EF:=fun a M=>(BS fs a (M++[.dk []])).bind fun r=>match r.2[M.length]? with
 |some (.dk [])=>(QE r.1).bind fun kvs=>if kvs.length<=15/\(kvs.map (·.1)).Nodup then Z (.c M.length,r.2.set M.length (.dk kvs))else Y
 |_=>Y
section
variable{K:Fg}
theorem CS{W:Wd}:∀{xs:Tv (CD×CD)}{kvs:Tv (Key×CD)}{vs:Tv (V×V)},QE xs=Z kvs->Paired (fun a b=>cL K W a.1 b.1/\cL K W a.2 b.2) xs vs->
 ∃us:Tv (Key×V),vs=us.map (fun p=>(kV p.1,p.2))/\us.map (·.1)=kvs.map (·.1)/\Paired (fun p q=>p.1=q.1/\cL K W p.2 q.2) kvs us
 |[],kvs,vs=>fun h r=>by
  cases h;cases r;exact⟨[],rfl,rfl,.nil⟩
 |(k,x)::xs,kvs,vs=>fun h r=>by
  obtain⟨d,e,h⟩:=aI (show(keyOf k).bind _=_ from h);obtain⟨q,f,h⟩:=aI h;cases h;cases r with
  |@cons _ b _ g c i=>
   obtain⟨us,j,l,m⟩:=CS f i;refine⟨(d,b.2)::us,?_,?_,.cons ⟨rfl,c.2⟩ m⟩
   .rw[C0,<- j,<- FR e c.1]
   .rw[C0,C0,l]
def aCB(sp:SPs K ts fs):SE K (aGz ts) (qS fs):=by
 intro B M x M' a W H C Q G R k;obtain⟨⟨xs,M1⟩,m,a⟩:=aI a;intro p q;have r:=G.new q (c:=.dk []) (o:=.dK []) (show Paired _ [] []from .nil);have e:=W.ext_more p;refine aBI sp m r (R.up e) fun vs s D b f t=>?_;dsimp only at a;split at a
 .rename_i g;obtain⟨kvs,u,a⟩:=aI a;by_cases d:kvs.length<=15/\(kvs.map (·.1)).Nodup
  .rw[A4 d]at a;cases a
   have al:s.α M.length=p:=by
    rw[b.al M.length (by show M.length<W.n+1;rw[G.n];exact O6 _)];show(if M.length=W.n then p else _)=p;rw[A4 G.n.symm]
   obtain⟨_,o,h,i⟩:=f.cs _ _ g (by intro z;cases z);rw[al]at h
   have v:o=.dK []:=by
    cases o with
    |dK us=>cases i;rfl
    |_=>exact False.elim i
   subst v;obtain⟨us,w,j,y⟩:=CS u t;have nd:(us.map (·.1)).Nodup:=by rw[j];exact d.2
   have A:us.length<=15:=by
    have:=L5 List.length j;rw[A3,A3]at this;omega
   refine⟨h,us,w,A,?_⟩;rw[FD us [] (by simpa using nd),Y2];have l:=f.set (o':=.dK us) (c':=.dk kvs) g (by intro z;cases z) y;rw[al]at l;refine k _ _ _ (e.trans b) l ⟨?_,by rw[al]⟩;exact B6 (by show M.length<W.n+1;rw[G.n];exact O6 _) b.ln
  .rw[B0 d]at a;cases a
 .cases a
end
section
variable{ι:Type}{K:Fg}{X:ι->Cx}
def JM(x:MD K X pos ks vs fs)(a:ks.all (·.isSome)=true:=by rfl)(c:ks.length=vs.length:=by rfl)(d:ks≠[]:=by simp)(b:ks.length<=15:=by simp):ME K X (.Dict ks vs pos) (qS fs):=by
 obtain⟨t,e,f⟩:=x.ex;exact⟨_,fun i=>aDx (e i) a c d b,aCB f⟩
end
section
variable{K:Fg}{EE:St->XK}{tA:TA}{fa:AX}
def WB(a:SAX K EE tA fa):SEX K EE (RK (spM K h) [] E0 tA) (xCB h fa):=by
 intro r M s M' b W H i Q G R k;obtain⟨⟨x,M1⟩,j,b⟩:=aI b;refine a _ _ _ _ j W H i _ G R fun d l f g=>?_;cases x with
 |inr e=>cases b;exact k d l f g
 |inl xs=>
  intro vs rs;obtain⟨⟨y,M2⟩,m,b⟩:=aI (show(h xs M1).bind _=_ from b);cases b;show spM K h (vs++[]) _ _ _;rw[C8];exact⟨xs,M1,d,y,M2,g,rs,m,fun w n o p q c=>k n o (f.trans p) q w c⟩
end
section
variable{ι:Type}{K:Fg}{X:ι->Cx}{EE:ι->St->XK}{e:Uc}{es:T8}{fa:AX}{pos:Pos}
def KZ{F:FN}(C:∀i,Callee (X i).prog (X i).w (X i).K (X i).mg (X i).base k x ps (spM K F) q)(a:∀i,cG k (X i).A q)(y:MAX K X EE (e::es) fa)(b:∀i,Gl (X i) x:=by intro _;rfl)(hd:(x==("__debug__":Str))=false:=by decide):
 MX K X EE (.Call (.Name x p) (e::es) [] pos) (xCB F fa):=by
 obtain⟨u,c,d⟩:=y.ex;exact⟨_,fun i=>aCK (C i) (a i) (c i) (b i) hd (y.st.1 _)<|y.st.2.plain _ _,fun i=>WB<|d i⟩
end
def tI:FM:=fun x a M=>match x,a with
 |.c i,[.c j]=>match M[i]?,M[j]? with
  |some (.lst xs),some (.lst zs)=>if xs.length+zs.length<=sizeLine then Z (.d .none,M.set i (.lst (xs++zs)))else Y
  |_,_=>Y
 |_,_=>Y
section
variable{K:Fg}
def XO:PM K US tI:=by
 intro x m M z M' h W H v vs Q G d rs k;unfold tI at h;split at h
 .rename_i i j;split at h
  .rename_i xs zs hx e;by_cases b:xs.length+zs.length<=sizeLine
   .rw[A4 b]at h;cases h;obtain⟨us,f,c⟩:=G.lstAt hx;obtain⟨ws,g,a⟩:=G.lstAt e;rcases rs with _|⟨l,_|_⟩;refine⟨W.α i,W.α j,us,ws,d.2,by rw[l.2],f,g,by rw[<- Paired.len c,<- Paired.len a];exact b,?_⟩;exact k _ W _ (.refl _) (G.set hx (by intro q;cases q) (c':=.lst (xs++zs)) (show cM K W _ _ from Paired.app c a)) rfl
   .rw[B0 b]at h;cases h
  .cases h
 .cases h
end
section
variable{ι:Type}{K:Fg}{X:ι->Cx}{o e:Uc}{f:EF}{fa:AF}
def VF{apos cpos:Pos}(a:∀i,(X i).K=K)(x:ME K X o f)(y:MA K X [e] fa)(b:∀env:Env,attributeBase o "extend" env (eval o env)=eval o env:=by intro _;rfl)(c:(apos.endLine==cpos.line)=true:=by rfl):
 ME K X (.Call (.Attribute o "extend" apos) [e] [] cpos) (bL "list" tI f fa):=by
 obtain⟨t,d,g⟩:=x.ex;obtain⟨u,h,j⟩:=y.ex;refine⟨_,fun i=>?_,TQ XO g j⟩;have:=aGt A0l F.slot_list_extend F.type_list_extend VN (d i) (h i) (apos:=apos) (cpos:=cpos) (b _) (by rw[y.st.1];rfl) c (y.st.1 _)<|y.st.2.plain _ _;rw[a i]at this;exact this
end
def Rsg(xs:Tj):Prop:=∀i k:Nat,i<k->k<xs.size->xs.getD i 0<xs.getD k 0
noncomputable abbrev t7(b:Bool)(p:Tj):SetTable:=⟨7,p,#[],0,b,0,true⟩
noncomputable abbrev t31(b:Bool)(p:Tj):SetTable:=⟨31,p,#[],0,b,1,true⟩
noncomputable def vI:Tx->Int
 |.int i _=>i
 |_=>0
structure Tp(b:Bool)(t:SetTable)(es:Array (Int×Tx)):Prop where
 bd:∀e∈es.toList,0<=e.1/\e.1<9
 vl:∀e∈es.toList,vI e.2=e.1
 nd:(es.toList.map (·.1)).Nodup
 fm:∃p,Rsg p/\((t=t7 b p/\(∀i,i<p.size->p.getD i 0<=7)/\p.size<=4/\p.size=es.size)\/(t=t31 b p/\p.toList=es.toList.map fun e=>e.1.toNat))
structure aLX(prog:Ud)(w:World)(b:Bool)(h:Heap)(a:Ub)(es:Array (Int×Tx))(σ:T7):Prop where
 ob:∃o ep t,h.get? a=Z o/\o.ExactSet/\o.data=.set es ep t/\t.fits es.size=true/\Tp b t es
 el:ElemsOf (intKind prog w) es.toList
 sm:es.size<scanBound
 pm:(es.toList.map fun e=>vI e.2).Perm σ
section
variable{prog:Ud}{w:World}{A:Ue}{E:T0}{s:Ua}
def aIB{h:Heap}{a:Ub}{o:Obj}(b:h.get? a=Z o)(hd:o.data=.set es ep t):(h.update a<|Obj.putSet es' t').get? a=Z { o with data:=.set es' (ep+1) t' }:=by
 have:=S3 (Obj.putSet es' t') b (by rw[putSet_of es' t' hd];rfl);rw[putSet_of es' t' hd]at this;exact this
def stored{h:Heap}{a:Ub}{o:Obj}{es':Array (Int×Tx)}{t':SetTable}(g:h.get? a=Z o)(c:o.ExactSet)(hd:o.data=.set es ep t)(el:ElemsOf (intKind prog w) es'.toList)(sm:es'.size<scanBound)(i:t'.fits es'.size=true)(T:Tp b t' es')(pm:(es'.toList.map fun e=>vI e.2).Perm d):
 (h.update a<|Obj.putSet es' t').get? a=Z { o with data:=.set es' (ep+1) t' }/\aLX prog w b (h.update a<|Obj.putSet es' t') a es' d:=by
 have f:=aIB (es':=es') (t':=t') g hd;exact⟨f,⟨_,_,_,f,c,rfl,i,T⟩,el,sm,pm⟩
end
section
variable{prog:Ud}{w:World}{A:Ue}{E:T0}{s:Ua}
end
end L2
namespace PySem
section
variable{prog:Ud}{w:World}{A:Ue}{E:T0}{s:Ua}
structure xY(z TO i1 i2 l:Ub):Prop where
 z:l≠z
 o:l≠TO
 a:l≠i1
 b:l≠i2
section
variable{z TI TO i1 i2:Ub}{fs1 fs2:Ta}{k n1 n2:Nat}{P1 P2:Nat->Tx->Prop}{S1 S2:Nat->Heap->Prop}{a b:Tx}
def aFG{Q:T0}(D:L2.Apart5 z TI TO i1 i2)(g:∀l∈fs1,xY z TO i1 i2 l)(f2:∀l∈fs2,xY z TO i1 i2 l)(J:Draws prog w A i1 (i1::fs1) n1 P1 S1)(K:Draws prog w A i2 (i2::fs2) n2 P2 S2)
 (i:IsZip s.heap z TI TO .none) (hI:IsPair s.heap TI (.ref i1) (.ref i2)) (hO:IsPair s.heap TO a b) (t1:S1 k s.heap) (t2:S2 k s.heap) (k1:k<n1) (k2:k<n2)
 (hQ:∀h' tk x y,P1 k x->P2 k y->IsZip h' z TI TO (rawInt s.heap.objs.size)->IsPair h' TO x y->S1 (k+1) h'->S2 (k+1) h'->IsPair h' s.heap.objs.size x y->
  (∀c o,c≠z->c≠TO->c≠i1->c≠i2->s.heap.get? c=Z o->h'.get? c=Z o)->Q (.ref s.heap.objs.size) { s with heap:=h',toks:=tk }):
 wpAny (model prog w) A (Builtin.«zip.__next__» ⟨[.ref z],[]⟩) (fun r s'=>∃v,r=.done (.ret v)/\Q v s') E s:=by
 have C:∀{h h':Heap}{c:Ub}{j:Nat},Heap.SameBut c h h'->i1≠c->(∀l∈fs1,l≠c)->S1 j h->S1 j h':=fun L q r st=>J.frame _ _ _ st fun b hb o e=>L.extBut b o (by
  rcases List.mem_cons.mp hb with rfl|hb
  .exact q
  .exact r b hb) e
 have F:∀{h h':Heap}{c:Ub}{j:Nat},Heap.SameBut c h h'->i2≠c->(∀l∈fs2,l≠c)->S2 j h->S2 j h':=fun L q r st=>K.frame _ _ _ st fun b hb o e=>L.extBut b o (by
  rcases List.mem_cons.mp hb with rfl|hb
  .exact q
  .exact r b hb) e
 refine(?_:wpAny _ _ (field (.ref z) 2 >>= fun v=>_) _ _ _);refine A0<|E1 i rfl (x:=Value.bool false) rfl (?_:wpAny _ _ (field (.ref z) 3 >>= fun v=>_) _ _ _);refine A0<|E1 i rfl (x:=Value.ref TI) rfl<|A0<|Y3 hI rfl (?_:wpAny _ _ (Builtin.SmallTypes.ownedTupleIsFree (.ref z) >>= fun v=>_) _ _ _);refine A0<|A0 (m:=field (.ref z) 0)<|E1 i rfl (x:=Value.none) rfl<|B2 ?_;rw[A4 rfl];refine A0<|wpAny_rule<|A0<|E1 i rfl (x:=Value.ref TO) rfl<|A0 (Z9 i (by simp) fun R M n=>A0 ?_);have M:IsZip R z TI TO .ellipsis:=M;simp only[List.zipIdx_cons,List.zipIdx_nil,List.forIn_cons,List.forIn_nil];refine A0<|A0<|wpAny_onRaise (?_:wpAny _ _ (Builtin.SmallTypes.nextOf (.ref i1) >>= fun v=>_) _ _ _);refine A0 (J.item k { s with heap:=R } _ _ k1 (C n D.i1z (fun l d=>(g l d).z) t1) fun x g2 N p1 u1 p=>B2 ?_);have S:IsPair g2 TO a b:=p.extBut _ _ D.TOi1<|n.extBut _ _ D.TOz hO;refine A0<|Y3 S rfl<|A0 (wpAny_updateSeq_pair S fun T O t=>A0<|wpAny_letGo<|B2 ?_);have O:IsPair T TO x b:=O;refine A0<|A0<|wpAny_onRaise (?_:wpAny _ _ (Builtin.SmallTypes.nextOf (.ref i2) >>= fun v=>_) _ _ _);refine A0 (K.item k { s with heap:=T,toks:=N } _ _ k2 (F t D.TOi2.symm (fun l d=>(f2 l d).o)<|F p D.i12.symm (fun l d=>(f2 l d).a)<|F n D.i2z (fun l d=>(f2 l d).z) t2) fun y g4 P p2 u2 u=>B2 ?_);have U:IsPair g4 TO x b:=u.extBut _ _ D.TOi2 O;refine A0<|Y3 U rfl<|A0 (wpAny_updateSeq_pair U fun f G B=>A0<|wpAny_letGo<|B2<|B2 ?_);have G:IsPair f TO x y:=G;have sz:f.objs.size=s.heap.objs.size:=by rw[B.1,u.1,t.1,p.1,n.1]
 have V:IsZip f z TI TO .ellipsis:=B.extBut _ _ D.TOz.symm<|u.extBut _ _ D.i2z.symm<|t.extBut _ _ D.TOz.symm<|p.extBut _ _ D.i1z.symm M;have s1:S1 (k+1) f:=C B D.TOi1.symm (fun l d=>(g l d).o)<|C u D.i12 (fun l d=>(g l d).b)<|C t D.TOi1.symm (fun l d=>(g l d).o) u1;have s2:S2 (k+1) f:=F B D.TOi2.symm (fun l d=>(f2 l d).o) u2;have zl:z<f.objs.size:=B3 V;refine A0<|Y3 G rfl<|A0<|wpAny_newTuple (?_:wpAny _ _ (Builtin.SmallTypes.ownedTupleHandOut (.ref z) (.ref f.objs.size) >>= fun v=>_) _ _ _);have z6:IsZip (f.push { cls:=.type "tuple",data:=.seq #[x,y] }) z TI TO .ellipsis:=A2 _ V;refine A0<|A0 (m:=setField (.ref z) 0 _) (Z9 z6 (by simp) fun g7 z7 W=>Z9 z7 (by simp) fun H I X=>B2 ⟨_,rfl,?_⟩);have up:∀c o,c≠z->f.get? c=Z o->H.get? c=Z o:=fun c o q e=>X.extBut _ _ q<|W.extBut _ _ q<|A2 _ e;have nw:IsPair H f.objs.size x y:=X.extBut _ _ (A0n zl)<|W.extBut _ _ (A0n zl)<|C6 _ rfl;have I:IsZip H z TI TO (rawInt f.objs.size):=I;rw[sz]at nw I;show Q (.ref f.objs.size) _;rw[sz];refine hQ H P x y p1 p2 I (up _ _ D.TOz G) (J.frame _ _ _ s1 fun c hc o e=>up c o ?_ e) (K.frame _ _ _ s2 fun c hc o e=>up c o ?_ e) nw fun c o c1 c2 c3 c4 e=>up c o c1<|B.extBut _ _ c2<|u.extBut _ _ c4<|t.extBut _ _ c2<|p.extBut _ _ c3<|n.extBut _ _ c1 e
 .rcases List.mem_cons.mp hc with rfl|hc
  .exact D.i1z
  .exact(g c hc).z
 .rcases List.mem_cons.mp hc with rfl|hc
  .exact D.i2z
  .exact(f2 c hc).z
def aHw(D:L2.Apart5 z TI TO i1 i2)(O:∀l∈fs1,xY z TO i1 i2 l)(f2:∀l∈fs2,xY z TO i1 i2 l)(G:Draws prog w A i1 (i1::fs1) n1 P1 S1)(P:Draws prog w A i2 (i2::fs2) n2 P2 S2)
 (i:IsZip s.heap z TI TO .none) (hI:IsPair s.heap TI (.ref i1) (.ref i2)) (hO:IsPair s.heap TO a b) (t1:S1 k s.heap) (t2:S2 k s.heap) (ke:k=n1\/(k<n1/\k=n2))
 (R:∀h' tk e,(∀c o,c≠z->c≠TO->c≠i1->c≠i2->s.heap.get? c=Z o->h'.get? c=Z o)->(∃o,h'.get? e=Z o/\o.cls=.type "StopIteration")->E (.ref e) { s with heap:=h',toks:=tk }):
 wpAny (model prog w) A (Builtin.«zip.__next__» ⟨[.ref z],[]⟩) Q E s:=by
 have S:∀{h h':Heap}{c:Ub}{j:Nat},Heap.SameBut c h h'->i1≠c->(∀l∈fs1,l≠c)->S1 j h->S1 j h':=fun H q r st=>G.frame _ _ _ st fun b hb o e=>H.extBut b o (by
  rcases List.mem_cons.mp hb with rfl|hb
  .exact q
  .exact r b hb) e
 have I:∀{h h':Heap}{c:Ub}{j:Nat},Heap.SameBut c h h'->i2≠c->(∀l∈fs2,l≠c)->S2 j h->S2 j h':=fun H q r st=>P.frame _ _ _ st fun b hb o e=>H.extBut b o (by
  rcases List.mem_cons.mp hb with rfl|hb
  .exact q
  .exact r b hb) e
 have y:∀{g:Heap}{v:Tx}{e:Ub}{o:Obj},IsZip g z TI TO v->g.get? e=Z o->o.cls=.type "StopIteration"->e≠z:=fun i f n q=>by
  subst q;rw[i]at f;cases f;simp at n
 refine(?_:wpAny _ _ (field (.ref z) 2 >>= fun v=>_) _ _ _);refine A0<|E1 i rfl (x:=Value.bool false) rfl (?_:wpAny _ _ (field (.ref z) 3 >>= fun v=>_) _ _ _);refine A0<|E1 i rfl (x:=Value.ref TI) rfl<|A0<|Y3 hI rfl (?_:wpAny _ _ (Builtin.SmallTypes.ownedTupleIsFree (.ref z) >>= fun v=>_) _ _ _);refine A0<|A0 (m:=field (.ref z) 0)<|E1 i rfl (x:=Value.none) rfl<|B2 ?_;rw[A4 rfl];refine A0<|wpAny_rule<|A0<|E1 i rfl (x:=Value.ref TO) rfl<|A0 (Z9 i (by simp) fun J F t=>A0 ?_);have F:IsZip J z TI TO .ellipsis:=F;simp only[List.zipIdx_cons,List.zipIdx_nil,List.forIn_cons,List.forIn_nil];refine A0<|A0<|wpAny_onRaise (?_:wpAny _ _ (Builtin.SmallTypes.nextOf (.ref i1) >>= fun v=>_) _ _ _);rcases ke with rfl|⟨k1,rfl⟩
 .refine A0 (G.done { s with heap:=J } _ _ (S t D.i1z (fun l d=>(O l d).z) t1) fun K e p ⟨L,f,n⟩=>?_);have T:IsZip K z TI TO .ellipsis:=p _ _ D.i1z.symm F;exact Z9 T (by simp) fun M _ u=>R M s.toks e (fun c o B _ N _ q=>u.extBut _ _ B<|p _ _ N<|t.extBut _ _ B q) ⟨L,u.extBut _ _ (y T f n) f,n⟩
 .refine A0 (G.item k { s with heap:=J } _ _ k1 (S t D.i1z (fun l d=>(O l d).z) t1) fun x K C p1 u1 p=>B2 ?_);have U:IsPair K TO a b:=p.extBut _ _ D.TOi1<|t.extBut _ _ D.TOz hO;refine A0<|Y3 U rfl<|A0 (wpAny_updateSeq_pair U fun M O3 u=>A0<|wpAny_letGo<|B2 ?_);refine A0<|A0<|wpAny_onRaise (?_:wpAny _ _ (Builtin.SmallTypes.nextOf (.ref i2) >>= fun v=>_) _ _ _);refine A0 (P.done { s with heap:=M,toks:=C } _ _ (I u D.TOi2.symm (fun l d=>(f2 l d).o)<|I p D.i12.symm (fun l d=>(f2 l d).a)<|I t D.i2z (fun l d=>(f2 l d).z) t2) fun g4 e V ⟨L,f,n⟩=>?_);have W:IsZip g4 z TI TO .ellipsis:=V _ _ D.i2z.symm<|u.extBut _ _ D.TOz.symm<|p.extBut _ _ D.i1z.symm F;exact Z9 W (by simp) fun g5 _ X=>R g5 C e (fun c o B c2 N c4 q=>X.extBut _ _ B<|V _ _ c4<|u.extBut _ _ c2<|p.extBut _ _ N<|t.extBut _ _ B q) ⟨L,X.extBut _ _ (y W f n) f,n⟩
end
def zT{h:Heap}{o:Obj}{n:Nat}(e:h.objs.size=n)(f:o.isFreed=false:=by rfl):(h.push o).get? n=Z o:=by subst e;exact C6 _ f
end
end PySem
namespace L2
variable{K:Fg}{H:Hp}
open PySem PySem.Spec PyProof.Rows
section
variable{prog:Ud}{w:World}{A:Ue}{E:T0}{s:Ua}
variable{z TI TO i1 i2:Ub}{fs1 fs2:Ta}{k n1 n2:Nat}{P1 P2:Nat->Tx->Prop}{S1 S2:Nat->Heap->Prop}{a b:Tx}
def aDG{Q:Tf->Ua->Prop}(D:Apart5 z TI TO i1 i2)(f:∀l∈fs1,xY z TO i1 i2 l)(f2:∀l∈fs2,xY z TO i1 i2 l)(g:Draws prog w A.in1 i1 (i1::fs1) n1 P1 S1)(h:Draws prog w A.in1 i2 (i2::fs2) n2 P2 S2)
 (e:IsZip s.heap z TI TO .none) (i:IsPair s.heap TI (.ref i1) (.ref i2)) (j:IsPair s.heap TO a b) (t1:S1 k s.heap) (t2:S2 k s.heap) (k1:k<n1) (k2:k<n2)
 (m:∀h' d x y,P1 k x->P2 k y->IsZip h' z TI TO (rawInt s.heap.objs.size)->IsPair h' TO x y->S1 (k+1) h'->S2 (k+1) h'->IsPair h' s.heap.objs.size x y->
  (∀c o,c≠z->c≠TO->c≠i1->c≠i2->s.heap.get? c=Z o->h'.get? c=Z o)->Q (Z (.ref s.heap.objs.size)) { s with heap:=h',toks:=d }):
 wpAny (model prog w) A (pyNext (.ref z)) Q E s:=by
 have ty:s.TypeIs (.ref z) "zip":=⟨_,e,rfl⟩;unfold pyNext;exact A0<|A1b<|F7 ty A0s<|O7 A0s ty F.entry_zip_next (aFG D f f2 g h e i j t1 t2 k1 k2 fun h' d x y n p q r t u v B=>B2<|m h' d x y n p q r t u v B)<|F.args_zip_next_1 _
def aDm{Q:Tf->Ua->Prop}(D:Apart5 z TI TO i1 i2)(g:∀l∈fs1,xY z TO i1 i2 l)(f2:∀l∈fs2,xY z TO i1 i2 l)(h:Draws prog w A.in1 i1 (i1::fs1) n1 P1 S1)(i:Draws prog w A.in1 i2 (i2::fs2) n2 P2 S2)
 (f:IsZip s.heap z TI TO .none) (j:IsPair s.heap TI (.ref i1) (.ref i2)) (m:IsPair s.heap TO a b) (t1:S1 k s.heap) (t2:S2 k s.heap) (n:k=n1\/(k<n1/\k=n2))
 (p:∀h' d,(∀c o,c≠z->c≠TO->c≠i1->c≠i2->s.heap.get? c=Z o->h'.get? c=Z o)->Q Y { s with heap:=h',toks:=d }):wpAny (model prog w) A (pyNext (.ref z)) Q E s:=by
 have ty:s.TypeIs (.ref z) "zip":=⟨_,f,rfl⟩;unfold pyNext;exact A0<|A1b<|F7 ty A0s<|O7 A0s ty F.entry_zip_next (aHw D g f2 h i f j m t1 t2 n fun h' d e q r=>A0 (let⟨o,t,u⟩:=r;wpAny_isInstance (T:="StopIteration") (b:=true) ⟨o,t,u⟩ isSubtype_stop<|B2<|p h' d q))<|F.args_zip_next_1 _
end
theorem vJ:∀(xs ys:T4),(rK xs ys).length=xs.length\/((rK xs ys).length<xs.length/\(rK xs ys).length=ys.length)
 |[],_=>.inl rfl
 |_::_,[]=>.inr ⟨Nat.succ_pos _,rfl⟩
 |x::xs,y::ys=>by
  have:=vJ xs ys;simp only[rK,List.length_cons];omega
section
variable{K:Fg}
end
section
variable{K:Fg}
end
section
variable{K:Fg}
end
section
variable{K:Fg}
end
section
variable{K:Fg}
end
section
variable{prog:Ud}{w:World}{A:Ue}{E:T0}{s:Ua}
abbrev TK(prog:Ud)(w:World):HeapKind prog w (Tv Key):=tupleKind<|dD prog w
end
section
variable{prog:Ud}{w:World}{A:Ue}{E:T0}{s:Ua}
abbrev hT(prog:Ud)(w:World)(k:Tv Key):Int:=(TK prog w).hash k
end
section
variable{X:Cx}{N':Tb}{cap:T3}{scope:Scope}
end
section
variable{P:Ud}{w:World}{K:Fg}{mg:Str->Tf}
end
noncomputable abbrev lob(its:T5)(nn:Nat):Obj:={ cls:=.type "list",data:=.seq its.toArray nn }
def aAB:EF:=fun _ _=>Y
def aAt:ME K X e aAB:=⟨fun _ _ _=>False,fun _ _ _ _ _ _ _ h=>h.elim,fun _ _ _ _ h=>by cases h⟩
section
variable{K:Fg}
end
def SqB(k:Bool)(K:Fg)(H:Hp)(a:Ub)(xs:Tc):Prop:=match k with|true=>SqL K H a xs|false=>SqT K H a xs
def aFY{s:Ua}{Q:T0}(a:IsB k s.heap l items)
 (b:Q (.ref s.heap.objs.size) { s with heap:=s.heap.push { cls:=.type (VA k),data:=.fields #[.ref l,.int 0 0] } }):wpAny (model prog w) A (pyIter (.ref l)) Q E s:=
 match k with
 |true=>A0v a b
 |false=>Z8 a b
def aCT:Meets (Builtin.«zip.__new__» ⟨[.type "zip",.ref l1,.ref l2],[]⟩) (fun _ R s=>IsB k1 s.heap l1 xs/\IsB k2 s.heap l2 ys /\
 ∀h',(∀c o,s.heap.get? c=Z o->h'.get? c=Z o)->h'.get? s.heap.objs.size=Z { cls:=.type (VA k1),data:=.fields #[.ref l1,.int 0 0] }->h'.get? (s.heap.objs.size+1)=Z { cls:=.type (VA k2),data:=.fields #[.ref l2,.int 0 0] }->
  IsPair h' (s.heap.objs.size+2) (.ref s.heap.objs.size) (.ref (s.heap.objs.size+1))->IsPair h' (s.heap.objs.size+3) .none .none->IsZip h' (s.heap.objs.size+4) (s.heap.objs.size+2) (s.heap.objs.size+3) .none->R (.ok (.ret (.ref (s.heap.objs.size+4)))) { s with heap:=h' }):=
 .of_wp fun prog w A R s h=>by
  obtain⟨a,g,d,b,os⟩:=s;obtain⟨f,i,h⟩:=h;have sub:=sub_zip;have j:=f;have L2:IsB k2 (Shared.heap ⟨a.push { cls:=.type (VA k1),data:=.fields #[.ref l1,.int 0 0] },g,d,b,os⟩) l2 ys:=let⟨o,e,r⟩:=i;⟨o,A2 _ e,r⟩
  wp_walk using aFY j,aFY L2
  refine⟨_,rfl,?_⟩;simp only[Heap.size_push]at h ⊢;refine h _ (fun c o e=>?_) ?_ ?_ ?_ ?_ ?_
  .exact A2 _<|A2 _<|A2 _<|A2 _<|A2 _ e
  .exact A2 _<|A2 _<|A2 _<|A2 _<|C6 _ rfl
  .exact A2 _<|A2 _<|A2 _<|zT<|Heap.size_push ..
  .exact A2 _<|A2 _<|zT (by simp only[Heap.size_push])
  .exact A2 _<|zT (by simp only[Heap.size_push])
  .exact zT (by simp only[Heap.size_push])
def aKp(k1 k2:Bool)(K:Fg)(l1 l2:Ub):It:=
 ⟨fun i H=>∃xs a x y,SqB k1 K H l1 xs/\SqB k2 K H l2 a/\xs[i]?=Z x/\a[i]?=Z y,
  fun i H v H'=>∃p x y,H p=Y/\v=.ref p/\H'=upd H p (.tup [x,y])/\(∀xs,SqB k1 K H l1 xs->xs[i]?=Z x)/\∀a,SqB k2 K H l2 a->a[i]?=Z y,
  fun i H=>∃xs a,SqB k1 K H l1 xs/\SqB k2 K H l2 a/\((i=xs.length)\/(i<xs.length/\i=a.length))⟩
def aMb(k1 k2:Bool)(z TI TO i1 i2 l1 l2:Ub)(i:Nat)(h:Heap):Prop:=IsZip h z TI TO .none/\IsPair h TI (.ref i1) (.ref i2)/\(∃a b,IsPair h TO a b)/\ItB k1 h i1 l1 i/\ItB k2 h i2 l2 i
section
variable{X:Cx}{pins:T2}{σ:St}{H:Hp}{s:Ua}{a:Ub}{xs ys:Tc}{k:Bool}
def Inv.rowB(I:Inv X pins σ H s)(h:SqB k X.K H a xs):∃its:T5,bG xs its/\IsB k s.heap a its.toArray:=
 match k with
 |true=>let⟨its,r,p,_⟩:=I.list h;⟨its,r,p.isList⟩
 |false=>let⟨its,r,p,_⟩:=I.tuple h;⟨its,r,p⟩
def Inv.rowB_inj(I:Inv X pins σ H s)(h:SqB k X.K H a xs)(h':SqB k X.K H a ys):xs=ys:=
 match k with
 |true=>I.list_inj h h'
 |false=>I.tuple_inj h h'
end
section
variable{P:Ud}{w:World}{K:Fg}{elts:T8}{x1:Nat}{tpos:Pos}{z TI TO i1 i2 l1 l2:Ub}{k1 k2:Bool}
def nm_ne:Value.type (VA k)≠.type (aBe a):=by grind
def IZ(T:IsB k h l xs)(d:IsZip h z TI TO .none)(f:ItB k1 h i1 l1 i)(g:ItB k2 h i2 l2 j)(m:l≠TO):xY z TO i1 i2 l:=by
 obtain⟨o,e,c,_⟩:=T;obtain⟨t,p,v,_⟩:=f;obtain⟨x,s,y,_⟩:=g
 have a:∀(b:Ub)(u:Obj),h.get? b=Z u->u.cls≠.type (aBe k)->l≠b:=fun b u q n r=>by
  subst r;rw[e]at q;cases q;exact n c
 exact⟨a z _ d (by grind),m,a i1 _ p (by grind),a i2 _ s (by grind)⟩
def WV(A5:Apart5 z TI TO i1 i2)(n1:l1≠TO)(n2:l2≠TO):Turn P w K (.Tuple elts x1 tpos) (aKp k1 k2 K l1 l2) [z,TI,TO,i1,i2] z (aMb k1 k2 z TI TO i1 i2 l1 l2) q where
 mem:=by simp
 obj:=fun i h st b hb=>by
  obtain⟨hz,hTI,⟨a,c,hTO⟩,⟨o1,e1,_,d1⟩,⟨o2,e2,_,d2⟩⟩:=st;simp only[List.mem_cons,List.not_mem_nil,or_false]at hb;rcases hb with rfl|rfl|rfl|rfl|rfl
  .exact⟨_,hz,fun v q=>by cases q⟩
  .exact⟨_,hTI,fun v q=>by cases q⟩
  .exact⟨_,hTO,fun v q=>by cases q⟩
  .exact⟨_,e1,fun v q=>by rw[d1]at q;cases q⟩
  .exact⟨_,e2,fun v q=>by rw[d2]at q;cases q⟩
 keep:=fun i h h' st k=>by
  obtain⟨hz,hTI,⟨a,c,hTO⟩,h1,h2⟩:=st;exact⟨k z (by simp) _ hz,k TI (by simp) _ hTI,⟨a,c,k TO (by simp) _ hTO⟩,h1.at fun o e=>k i1 (by simp) o e,h2.at fun o e=>k i2 (by simp) o e⟩
 item:=by
  intro X hP hw hK hc i pins s σ H E I hf st hg;subst hP hw hK;obtain⟨xs,ys,x,y,hq1,hq2,hx,hy⟩:=hg;obtain⟨its,rv,p⟩:=I.rowB hq1;obtain⟨jts,rw',p'⟩:=I.rowB hq2;obtain⟨u,hu,ru⟩:=rv.get hx;obtain⟨v,hv,rv'⟩:=rw'.get hy;obtain⟨hz,hTI,⟨a,c,hTO⟩,h1,h2⟩:=id st;have F1:=IZ p hz h1 h2 n1;have F2:=IZ p' hz h1 h2 n2;obtain⟨ps,hd,hps⟩:=OS hc I.ok
  replace hd:HdP X.A.in1 ps:=hd
  obtain⟨hp,hn⟩:=hps _ _ _ _ I
  have far:∀{l},xY z TO i1 i2 l->∀l'∈l::ps.map (·.1),xY z TO i1 i2 l':=fun{l} F l' hl=>by
   rcases List.mem_cons.mp hl with rfl|hl
   .exact F
   .obtain⟨x,hx,rfl⟩:=List.mem_map.mp hl;exact⟨hn z (hf z (by simp)) x hx,hn TO (hf TO (by simp)) x hx,hn i1 (hf i1 (by simp)) x hx,hn i2 (hf i2 (by simp)) x hx⟩
  have li:=(List.getElem?_eq_some_iff.mp hu).1;have lj:=(List.getElem?_eq_some_iff.mp hv).1;refine aDG (k:=i) A5 (far F1) (far F2) (HH k1 hd i1 l1 F1.a (hn i1<|hf i1 (by simp)) its.toArray) (HH k2 hd i2 l2 F2.b (hn i2<|hf i2 (by simp)) jts.toArray) hz hTI hTO ⟨h1,p,hp⟩ ⟨h2,p',hp⟩ (by simpa using li) (by simpa using lj) fun h' tk u' v' e1 e2 a1 a2 a3 a4 a5 hk=>⟨_,rfl,?_⟩;have e1:u=u':=D3<|hu.symm.trans<|(List.getElem?_toArray ..).symm.trans e1;have e2:v=v':=D3<|hv.symm.trans<|(List.getElem?_toArray ..).symm.trans e2;subst e1 e2;refine wpAny_letOwnedTupleGo_zip a1 fun h2' hz2 sb=>?_
  have lt:∀b∈[z,TI,TO,i1,i2],s.heap.objs.size≠b:=fun b hb q=>by
   obtain⟨o1,e1,_⟩:=id h1;obtain⟨o2,e2,_⟩:=id h2;simp only[List.mem_cons,List.not_mem_nil,or_false]at hb
   have:∃o,s.heap.get? b=Z o:=by
    rcases hb with rfl|rfl|rfl|rfl|rfl
    .exact⟨_,hz⟩
    .exact⟨_,hTI⟩
    .exact⟨_,hTO⟩
    .exact⟨_,e1⟩
    .exact⟨_,e2⟩
   obtain⟨o,e⟩:=this;rw[<- q]at e;exact absurd (B3 e)<|E3 _
  have kk:∀b o,b∉[z,TI,TO,i1,i2]->s.heap.get? b=Z o->h2'.get? b=Z o:=fun b o hb q=>by
   simp only[List.mem_cons,List.not_mem_nil,or_false,not_or]at hb;exact(sb.2 b hb.1).trans (hk b o hb.1 hb.2.2.1 hb.2.2.2.1 hb.2.2.2.2 q)
  have ht2:h2'.get? s.heap.objs.size=Z { cls:=.type "tuple",data:=.seq #[u,v] }:=(sb.2 _<|lt z (by simp)).trans a5
  have I2:Inv X pins σ (upd H s.heap.objs.size (.tup [x,y])) { s with heap:=h2',toks:=tk }:=
   I.turnLay hf kk (A6 _) ⟨by show 2<=sizeLine;rw[E9];decide,[u,v],.cons ru (.cons rv' .nil),⟨_,ht2,rfl,_,rfl⟩⟩
  refine⟨.ref s.heap.objs.size,_,I2,rfl,⟨_,x,y,I.hok.fresh<|A6 _,rfl,rfl,fun ws hw=>by rw[I.rowB_inj hw hq1];exact hx,fun ws hw=>by rw[I.rowB_inj hw hq2];exact hy⟩,⟨hz2,?_,⟨_,_,(sb.2 TO A5.TOz).trans a2⟩,a3.1.at fun o e=>(sb.2 i1 A5.i1z).trans e,a4.1.at fun o e=>(sb.2 i2 A5.i2z).trans e⟩,fun b hb=>?_⟩
  .exact(sb.2 TI A5.TIz).trans (hk TI _ A5.TIz A5.TITO A5.TIi1 A5.TIi2 hTI)
  .rw[aN fun q=>lt b hb q.symm];exact(hf b hb).1
 done:=by
  intro X hP hw hK hc i pins s σ H E I hf st hg;subst hP hw hK;obtain⟨xs,ys,hq1,hq2,hend⟩:=hg;obtain⟨its,rv,p⟩:=I.rowB hq1;obtain⟨jts,rw',p'⟩:=I.rowB hq2;obtain⟨hz,hTI,⟨a,c,hTO⟩,h1,h2⟩:=id st;have l1':=rv.length;have l2':=rw'.length;have F1:=IZ p hz h1 h2 n1;have F2:=IZ p' hz h1 h2 n2;obtain⟨ps,hd,hps⟩:=OS hc I.ok
  replace hd:HdP X.A.in1 ps:=hd
  obtain⟨hp,hn⟩:=hps _ _ _ _ I
  have far:∀{l},xY z TO i1 i2 l->∀l'∈l::ps.map (·.1),xY z TO i1 i2 l':=fun{l} F l' hl=>by
   rcases List.mem_cons.mp hl with rfl|hl
   .exact F
   .obtain⟨x,hx,rfl⟩:=List.mem_map.mp hl;exact⟨hn z (hf z (by simp)) x hx,hn TO (hf TO (by simp)) x hx,hn i1 (hf i1 (by simp)) x hx,hn i2 (hf i2 (by simp)) x hx⟩
  refine aDm (k:=i) A5 (far F1) (far F2) (HH k1 hd i1 l1 F1.a (hn i1<|hf i1 (by simp)) its.toArray) (HH k2 hd i2 l2 F2.b (hn i2<|hf i2 (by simp)) jts.toArray) hz hTI hTO ⟨h1,p,hp⟩ ⟨h2,p',hp⟩ (by simpa[<- l1',<- l2']using hend) fun h' tk hk=>⟨rfl,I.turnF (t':=tk) hf fun b o hb q=>?_⟩;simp only[List.mem_cons,List.not_mem_nil,or_false,not_or]at hb;exact hk b o hb.1 hb.2.2.1 hb.2.2.2.1 hb.2.2.2.2 q
 self:=fun A i s Q E st h=>wpAny_pyIter_zip st.1 h
end
section
variable{X:Cx}{elts:T8}{x1:Nat}{tpos:Pos}
def aGh(K:Fg)(f:TA):TI:=fun g H R=>f g H fun vs c=>∃a b d e xs h,vs=[.ref a,.ref b]/\SqB d K c a xs/\SqB e K c b h/\R (aKp d e K a b) c
def aER{q:Bool}{a b:Uc}{u:TA}{p pos:Pos}(y:Gl X "zip")(hm:X.mg "zip"=Y)(ha:PA X [a,b] u)(hs:starEach [a,b] X.env=[(false,eval a X.env),(false,eval b X.env)])(c:starEach [b] X.env=[(false,eval b X.env)]):PI X (.Tuple elts x1 tpos) (.Call (.Name "zip" p) [a,b] [] pos) (aGh X.K u) q:=by
 intro pins s A H R I h;refine Call_<|sJ I y hm boot_zip<|U2 (thn (ha pos pins s A H _ I h) fun us s1 ⟨vs,v,d,B,C⟩=>?_) (by rw[hs,c]) (by rw[c];rfl);obtain⟨l,g,Q,S,xs,T,e,i,j,q⟩:=C;subst e;cases B with
 |cons r k=>
  cases k with
  |cons D k=>
   cases k;cases (show _=Value.ref l from r);cases (show _=Value.ref g from D)
   have fp:∀b∈[s1.heap.objs.size+4,s1.heap.objs.size+2,s1.heap.objs.size+3,s1.heap.objs.size,s1.heap.objs.size+1],kO X pins v b:=fun b E=>by
    have f:s1.heap.objs.size<=b:=by
     simp only[List.mem_cons,List.not_mem_nil,or_false]at E;omega
    exact d.fpOk f<|d.hok.fresh f
   obtain⟨its,U,w⟩:=d.rowB i;obtain⟨G,J,x⟩:=d.rowB j;have L:l<s1.heap.objs.size:=by obtain⟨o,e,_⟩:=w;exact B3 e
   have M:g<s1.heap.objs.size:=by obtain⟨o,e,_⟩:=x;exact B3 e
   refine callType_new F.called_zip (by decide) (F.typeCall_zip_2 _ _) (F.newCall_zip_2 _ _) (fun obj=>F.args_object_init_3 obj _ _) F.entry_zip_new aCT ⟨w,x,fun h' N O P m n t=>⟨⟨_,t,rfl⟩,wpAny_pyIter_zip t ?_⟩⟩;exact⟨_,_,_,_,v,rfl,d.kept (t':=s1.toks) N,WV (z:=s1.heap.objs.size+4) (TI:=s1.heap.objs.size+2) (TO:=s1.heap.objs.size+3) (i1:=s1.heap.objs.size) (i2:=s1.heap.objs.size+1) (l1:=l) (l2:=g) (VT _) (C2<|Nat.lt_add_right 3 L)<|C2<|Nat.lt_add_right 3 M,⟨t,m,⟨_,_,n⟩,⟨_,O,rfl,rfl⟩,⟨_,P,rfl,rfl⟩⟩,fp,q⟩
end
def aCd(f:AF):AF:=fun a M=>(f a M).bind fun r=>match r.1 with
 |[.d x,.d y]=>match aQ x,aQ y with
  |some xs,some b=>Z (rK xs b,r.2)
  |_,_=>Y
 |_=>Y
def SN{xs:T4}(h:aQ x=Z xs)(r:Rep K H x v):∃k a us,v=V.ref a/\SqB k K H a us/\aM K H xs us:=by
 obtain⟨a,us,e,h1|h1,b⟩:=kC r h
 .exact⟨true,a,us,e,h1,b⟩
 .exact⟨false,a,us,e,h1,b⟩
def SqB.to(e:kJ H H')(h:SqB k K H a xs):SqB k K H' a xs:=
 match k with
 |true=>e.seq h
 |false=>e.seqT h
def aFl(b:SA K w fa):SI K (aGh K w) (aCd fa):=by
 intro γ M xs M' a W H C R G Rs k;obtain⟨⟨ys,M1⟩,D,a⟩:=aI a;refine b _ _ _ _ D W H C _ G Rs fun vs E F I j J=>?_;revert a;dsimp only;split
 .rename_i x y;split
  .rename_i as bs ha L;intro a;cases a;cases J with
   |cons r N=>
    cases N with
    |cons O l=>
     cases l;obtain⟨P,p,us,rfl,hs,z⟩:=SN ha r;obtain⟨Q,S,e,rfl,f,g⟩:=SN L O;refine⟨p,S,P,Q,us,e,rfl,hs.to j.fh,f.to j.fh,k _ E F I j fun W2 M2 H2 h m=>?_⟩;have n:=(hs.to h.ff).to m.fh;have o:=(f.to h.ff).to m.fh;refine⟨fun i x hx=>?_,us,e,n,o,?_⟩
     .obtain⟨c,d,T,hd,rfl⟩:=KW hx;obtain⟨u,A,U⟩:=Paired.get (gS z) (by rw[D0,T];rfl);obtain⟨v,B,V⟩:=Paired.get (gS g) (by rw[D0,hd];rfl);refine⟨⟨us,e,u,v,n,o,A,B⟩,fun y H3 hy=>?_⟩;obtain⟨X,x',y',hn,rfl,rfl,q,s⟩:=hy;have:=q us n;rw[A]at this;cases this;have:=s e o;rw[B]at this;cases this;obtain⟨t,G3⟩:=m.lay hn;refine⟨_,t,G3,⟨X,_,rfl,SqT.of aW,?_⟩⟩;exact⟨_,_,rfl,Rep.same t.ff _ _<|U.up h,_,_,rfl,Rep.same t.ff _ _<|V.up h,rfl⟩
     .have:=vJ as bs;rw[<- z.length,<- g.length];exact this
  .intro a;cases a
 .intro a;cases a
def aDi{ι:Type}{q:Bool}{X:ι->Cx}{a b:Uc}{fa:AF}{pos:Pos}{p:Pos}(d:∀i,(X i).K=K)(hm:∀i,(X i).mg "zip"=Y)(x:MA K X [a,b] fa)(e:∀i,Gl (X i) "zip":=by intro _;rfl):MI K X (.Tuple elts x1 tpos) (.Call (.Name "zip" p) [a,b] [] pos) (aCd fa) q:=by
 obtain⟨t,c,f⟩:=x.ex;exact⟨_,fun i=>by have:=aER (q:=q) (elts:=elts) (x1:=x1) (tpos:=tpos) (p:=p) (pos:=pos) (e i) (hm i) (c i) (by rw[x.st.1,x.st.2.1];rfl) (by rw[x.st.2.1];rfl);rw[d i]at this;exact this,aFl f⟩
def aHb(Ln:Tc->Prop)(cap:T3)(j:TI)(g:TG)(k:TT)(bd:(Tc->St->Hp->Prop)->Tc->St->Hp->Prop):TE:=fun e H Q=>j e H fun J l=>∃W:Nat->Nat->Tc->St->Hp->Prop,(∃m,W 0 m [] (uZ cap e) l)/\∀i m acc c H',W i m acc c H'->
 (J.stop i H'/\∀p,H' p=Y->Q (.ref p) (upd H' p (.lst acc))) \/
 (J.go i H'/\Ln acc/\∃N:Tc->St->Hp->Prop,(∀acc' a d,N acc' a d->∃f,f<m/\W (i+1) f acc' a d)/\∀x d,J.yld i H' x d->g x c d fun a n=>k a n fun b h=>(b=true/\bd N acc a h)\/(b=false/\N acc a h))
structure LcB(X:Cx)(N':Tb)(scope:Scope)(elt tg iter:Uc)(ifs:T8)(rest:Tv Comprehension)(pos:Pos)(Ln:Tc->Prop)(bd:(Tc->St->Hp->Prop)->Tc->St->Hp->Prop)(q:Bool:=true):Prop where
 ex:∃BD:Ub->Env->(Ua->Prop)->Ua->Prop,
  (∀{R:Result->Ua->Prop}{s:Ua}{it:Tx}{D:Ub}{env:Env}(I:Nat->Ua->Prop),(∀n s,I n s->wpAny (model X.prog X.w) X.A (pyNext it) (fun r s1=>(r=Y/\R (.ok .next) s1)\/∃v,r=Z v /\
   wpAny (model X.prog X.w) X.A (letOwnedTupleGo tg it v) (fun _ s2=>wpAny (model X.prog X.w) X.A (assign tg env v) (fun _ s3=>
    wpAny (model X.prog X.w) X.A (forIn ifs true fun c r=>if r=true then(do
     let ok <- isTrue c env (eval c env)
     pure (ForInStep.yield ok))else pure (ForInStep.yield r)) (fun ok s4=>
      (ok=true/\BD D env (fun s7=>∃m,m<n/\I m s7) s4)\/(ok=false/\∃m,m<n/\I m s4)) (fun _ _=>False) s3) (fun _ _=>False) s2) (fun _ _=>False) s1) (fun _ _=>False) s)->
   ∀n,I n s->codeAny (model X.prog X.w) X.A (.compLoop (.ListComp elt (⟨tg,iter,ifs,0⟩::rest) scope pos) 0 it (.ref D) env) R s) /\
  ∀{C:Ub}{sa:Ua}{Ha:Hp}{fp:Ta}{pn pins:T2}{σ:St}{H:Hp}{s:Ua}{D:Ub}{its:T5}{nn:Nat}{acc:Tc}{N:Tc->St->Hp->Prop}{P:Ua->Prop},CwQ q (bT X N' scope C sa Ha fp pn)->Inv (bT X N' scope C sa Ha fp pn) pins σ H s->kO (bT X N' scope C sa Ha fp pn) pins H D->s.heap.get? D=Z (lob its nn)->bG acc its->acc.length<=sizeLine->Ln acc->bd N acc σ H->
   (∀s7,(∃σ' H' acc' its' nn',Inv (bT X N' scope C sa Ha fp pn) pins σ' H' s7/\H' D=Y/\s7.heap.get? D=Z (lob its' nn')/\bG acc' its'/\acc'.length<=sizeLine/\N acc' σ' H')->P s7)->BD D (bT X N' scope C sa Ha fp pn).env P s
section
variable{X:Cx}{N':Tb}{cap:T3}{scope:Scope}
def aJW{fp:Ta}(h:CwQ q X)(I:Inv X pins l H s)(f:∀b∈fp,kO X pins H b):CwQ q (bT X N' scope C s H fp pins):=by
 cases q with
 |true=>exact h
 |false=>
  rcases h with hn|⟨c,o,vs,m,n,p,r⟩
  .exact .inl hn
  .obtain⟨d,i,j,t⟩:=r _ _ _ _ I;have a:c∉fp:=fun e=>t c (f c e) rfl;refine .inr ⟨c,o,vs,m,n,p,fun g u H' v k=>⟨k.base.keep c o d i j a,k.base.free c o d i a,j,fun b e z=>?_⟩⟩;rcases e.2.2.2.1 with w|w
   .exact a (z▸w)
   .exact absurd (B6 (B3 d) (z▸w))<|E3 _
def TN{rest:Tv Comprehension}(hc:CwQ q X)(S:oD X N' cap scope)(hi:PI X tg iter wi q)
 (hg:∀C s H fp pn,CwQ q (bT X N' scope C s H fp pn)->PG (bT X N' scope C s H fp pn) tg g) (a8:∀C s H fp pn,CwQ q (bT X N' scope C s H fp pn)->AN (bT X N' scope C s H fp pn) ifs tc) (B:LcB X N' scope elt tg iter ifs rest pos Ln bd q)
 (hs:∀x,foldedSetIterable iter X.env x=pure x) {H:Hp} (I:Inv X pins σ H s) (h:aHb Ln cap wi g tc bd σ H Q)
 (a2:∀(D C:Ub)(H':Hp)(acc:Tc)(L:Ua),D≠C->(∃m,L.heap.Ns C m)->(∀h',Heap.SameBut C L.heap h'->Inv X pins σ (upd H' D (.lst acc)) { L with heap:=h' })->kO X pins (upd H' D (.lst acc)) C->Q (.ref D) (upd H' D (.lst acc))->compPost (model X.prog X.w) X.A X.xe use QQ (.ref D) C (.ok .next) L):
 wpAny (model X.prog X.w) X.A (comprehension (.ListComp elt (⟨tg,iter,ifs,0⟩::rest) scope pos) scope X.env (firstIterPos (⟨tg,iter,ifs,0⟩::rest) pos) (newList []) false (firstIter (⟨tg,iter,ifs,0⟩::rest) X.env) use) QQ X.xe s:=by
 obtain⟨BD,Bl,Bb⟩:=B.ex;refine wpAny_comprehension_free (e:=.ListComp elt (⟨tg,iter,ifs,0⟩::rest) scope pos) (g:=⟨tg,iter,ifs,0⟩) (gs:=rest) rfl hs (vB<|S.cells I.ok) S.kind S.names ?_;refine thn (hi pins s σ H _ I h) fun v s1 h1=>thn h1 fun aj s2 h2=>?_;obtain⟨it,fp,tn,J,j,e,l,T,R,f2,W,⟨m0,w0⟩,a3⟩:=h2;subst e
 have f:∀b∈fp,b<s2.heap.objs.size:=fun b a=>by
  obtain⟨o,e,_⟩:=T.obj _ _ R b a;exact B3 e
 refine I0<|wpAny_newFunctionEnv S.nocell (fun y hy=>by simp at hy) (fun t U a0=>?_) S.kind;dsimp only at U a0 ⊢;generalize hP:s2.heap.push { cls:=.type "list",dict:=Y,data:=.seq ([]:T5).toArray }=P2 at U a0 ⊢;have a4:P2.objs.size=s2.heap.objs.size+1:=by rw[<- hP,Heap.size_push]
 have k:s2.heap.objs.size≠P2.objs.size:=by rw[a4];exact C2<|O6 _
 have hC:s2.heap.objs.size<=P2.objs.size:=by rw[a4];exact A0c _
 have E:∀b o,P2.get? b=Z o->b≠P2.objs.size->t.get? b=Z o:=fun b o e a=>a0.extBut b o a<|A2 _ e;have a1:∀b o,s2.heap.get? b=Z o->t.get? b=Z o:=fun b o e=>E b o (by rw[<- hP];exact A2 _ e)<|C2<|B6 (B3 e) hC;have a9:t.get? s2.heap.objs.size=Z { cls:=.type "list",data:=.seq #[] 0 }:=E _ _ (by rw[<- hP];exact C6 _ rfl) k
 have I4:Inv (bT X N' scope P2.objs.size s2 j fp pins) [] (uZ cap σ) j { s2 with heap:=t,toks:=s2.toks+([]:Tt).length }:=
  CM S l f2 f hC (by simpa using U) a1
 have cq:CwQ q (bT X N' scope P2.objs.size s2 j fp pins):=aJW hc l f2
 have M:∀s4:Ua,s4={ s2 with heap:=t,toks:=s2.toks+([]:Tt).length }->
  codeAny (model X.prog X.w) X.A (.compLoop (.ListComp elt (⟨tg,iter,ifs,0⟩::rest) scope pos) 0 (.ref it) (.ref s2.heap.objs.size) (compEnvC scope (fO X.env scope.names []) P2.objs.size X.env)) (compPost (model X.prog X.w) X.A X.xe use QQ (.ref s2.heap.objs.size) P2.objs.size) s4:=by
  rintro s4 rfl
  have O:s2.heap.objs.size∉frs X.stack:=fun a=>by
   obtain⟨_,o,ho,_⟩:=l.stack.mem a;exact absurd (B3 ho)<|E3 _
  have cne:∀x c,(fO X.env scope.names []).lookup x=Z c->c<s2.heap.objs.size:=fun x c e=>by
   obtain⟨v,q⟩:=l.cell x c<|S.sub l.ok x c e;exact q.lt
  have F:∀{Hx:Hp}{ob:Obj},(∀b∈fp,Hx b=Y)->∀b∈fp,kO (bT X N' scope P2.objs.size s2 j fp pins) [(s2.heap.objs.size,ob)] Hx b:=fun{Hx ob} hn b a=>by
   refine⟨hn b a,C2<|B6 (f b a) hC,l.stkAll (f2 b a).2.1 (f2 b a).2.2.1,.inl a,fun x c e=>(f2 b a).2.2.2.2.1 x c (S.sub l.ok x c e),fun p hp=>?_⟩;rcases List.mem_append.mp hp with z|z
   .exact(f2 b a).2.2.2.2.2 p z
   .rw[List.mem_singleton.mp z];exact A0n<|f b a
  refine Bl (fun n L=>∃(i:Nat)(d:St)(H':Hp)(acc:Tc)(its:T5)(nn:Nat),Inv (bT X N' scope P2.objs.size s2 j fp pins) [] d H' L/\tn i L.heap/\(∀b∈fp,H' b=Y)/\H' s2.heap.objs.size=Y /\
   L.heap.get? s2.heap.objs.size=Z { cls:=.type "list",data:=.seq its.toArray nn }/\bG acc its/\acc.length<=sizeLine/\W i n acc d H') ?_ m0
   ⟨0,uZ cap σ,j,[],[],0,I4,T.keep _ _ _ R fun b _ o e=>a1 b o e,fun b a=>(f2 b a).1,l.hok.fresh<|A6 _,a9,.nil,E7 _,w0⟩
  rintro n s5 ⟨i,d,H',acc,its,nn,I5,t5,a5,d5,g5,va,la,w5⟩
  have I5p:Inv (bT X N' scope P2.objs.size s2 j fp pins) [(s2.heap.objs.size,{ cls:=.type "list",data:=.seq its.toArray nn })] d H' s5:=I5.pins_of fun p hp=>by
   rw[List.mem_singleton.mp hp];exact⟨g5,d5,k,O,fun v z=>by cases z⟩
  rcases a3 i n acc d H' w5 with⟨stop,q⟩|⟨go,lt,N,hN,step⟩
  .refine thn (T.done (bT X N' scope P2.objs.size s2 j fp pins) rfl rfl rfl cq i _ s5 d H' _ I5p (F a5) t5 stop) fun r s6 ⟨hr,I6⟩=>.inl ⟨hr,?_⟩;have d6:=(I6.pin (s2.heap.objs.size,{ cls:=.type "list",data:=.seq its.toArray nn }) (by simp)).1;have nC:H' P2.objs.size=Y:=I6.free;refine a2 _ _ H' acc s6 k (let⟨m,hn,_⟩:=I6.loc;⟨m,hn⟩) (fun h' aa=>?_) (l.fpOk hC (by rw[aN k.symm];exact nC))<|q _ d5;have up:∀b o,b≠P2.objs.size->s6.heap.get? b=Z o->h'.get? b=Z o:=fun b o a e=>aa.extBut b o a e;have G:∀b o,s2.heap.get? b=Z o->b≠P2.objs.size/\b≠s2.heap.objs.size:=fun b o e=>⟨C2<|B6 (B3 e) hC,C2<|B3 e⟩;have u6:Un (frs X.stack) fp j H' s2.heap s6.heap:=I6.base
   have u7:Un (frs X.stack) fp j (upd H' s2.heap.objs.size (.lst acc)) s2.heap h':=by
    refine⟨fun b o e n a hx=>up b o (G b o e).1 (u6.keep b o e n a hx),fun b o e n a hx=>?_,fun b o e n hx=>?_,fun b o e hx=>?_,fun b xs e=>?_,fun b o u e=>?_,fun b ps e=>?_⟩
    .obtain⟨sl,q⟩:=u6.slot b o e n a hx;exact⟨sl,up b _ (G b o e).1 q⟩
    .rw[aN (G b o e).2];exact u6.free b o e n hx
    .obtain⟨o',q⟩:=u6.there b o e hx;exact⟨o',up b o' (G b o e).1 q⟩
    .have z:=u6.tups b xs e;rw[aN (aO z d5)];exact z
    .have z:=u6.frzs b o u e;rw[aN (aO z d5)];exact z
    .obtain⟨more,z⟩:=u6.tbls b ps e;exact⟨more,by rw[aN (aO z d5)];exact z⟩
   have ab:HOk X.prog X.w (upd H' s2.heap.objs.size (.lst acc)) h':=fun b u e=>by
    by_cases a:b=s2.heap.objs.size
    .subst a;rw[aW]at e;cases e;exact⟨la,its,nn,va,up _ _ k d6⟩
    .rw[aN a]at e;refine(I6.hok b u e).stay (fun c v ac z=>up c v ?_ z) (fun c z=>by rw[aN (aO z d5)];exact z) fun c xs z=>by rw[aN (aO z d5)];exact z
     rcases ac with rfl|z
     .exact aO e nC
     .exact aO z nC
   have ae:s6.os=s2.os:=I6.os;have af:=I6.bare;obtain⟨hh,gg,dd,tt,oo⟩:=s6;subst ae;have z7:=l.call (s:=s2) (h':=h') (g':=gg) (d':=dd) (t':=tt) (ch:=fp) u7 ab af fun b a=>⟨(f2 b a).2.2.2.1,(f2 b a).2.1,(f2 b a).2.2.2.2.1,(f2 b a).2.2.2.2.2⟩;exact z7
  .refine thn (T.item (bT X N' scope P2.objs.size s2 j fp pins) rfl rfl rfl cq i _ s5 d H' _ I5p (F a5) t5 go) fun r s6 ⟨u,hr,h6⟩=>.inr ⟨u,hr,?_⟩;refine thn h6 fun _ s7 ⟨x,H7,I7,r7,y7,t7,ag⟩=>?_;have ah:=I7.pinned (F ag) (T.obj _ _ t7)
   have P:∀{a6:St}{Hx:Hp}{sx:Ua},Inv (bT X N' scope P2.objs.size s2 j fp pins) ([(s2.heap.objs.size,{ cls:=.type "list",data:=.seq its.toArray nn })]++sG fp s7.heap) a6 Hx sx->
    (∀b∈fp,∀o,s7.heap.get? b=Z o->sx.heap.get? b=Z o)/\(∀b∈fp,Hx b=Y)/\sx.heap.get? s2.heap.objs.size=Z { cls:=.type "list",data:=.seq its.toArray nn }/\Hx s2.heap.objs.size=Y:=fun{a6 Hx sx} Ix=>by
    refine⟨fun b a o e=>(Ix.pin (b,o)<|A7 _<|A7 _<|dW a e).1,fun b a=>?_,?_,?_⟩
    .obtain⟨o,e,_⟩:=T.obj _ _ t7 b a;exact(Ix.pin (b,o)<|A7 _<|A7 _<|dW a e).2.1
    .exact(Ix.pin (s2.heap.objs.size,_)<|A7 _<|C1 _<|List.mem_singleton.mpr rfl).1
    .exact(Ix.pin (s2.heap.objs.size,{ cls:=.type "list",data:=.seq its.toArray nn })<|A7 _<|C1 _<|List.mem_singleton.mpr rfl).2.1
   refine thn (hg _ _ _ _ _ cq _ s7 d H7 x u _ ah r7<|step x H7 y7) fun _ s8 ⟨a7,H8,I8,q8⟩=>?_;refine thn (a8 _ _ _ _ _ cq _ s8 a7 H8 _ I8 q8) fun b s9 ⟨H9,I9,q9⟩=>?_;rcases q9 with⟨rfl,q9⟩|⟨rfl,n9⟩
   .obtain⟨b1,b2,b3,b4⟩:=P I9
    have fD:kO (bT X N' scope P2.objs.size s2 j fp pins) (sG fp s7.heap) H9 s2.heap.objs.size:=by
     refine⟨b4,k,O,.inr (A6 _),fun x c e=>C2<|cne x c e,fun p hp=>?_⟩;rcases List.mem_append.mp hp with hp|hp
     .exact C2<|B3 (l.pin p hp).1
     .exact C2<|f p.1 (FE hp).1
    refine .inl ⟨rfl,Bb cq (I9.pins_of fun p hp=>I9.pin p<|A7 _<|A7 _ hp) fD b3 va la lt q9 fun ak ⟨d,H',acc',its',nn',J1,J2,J3,J4,J5,J6⟩=>?_⟩;obtain⟨m',hm,ai⟩:=hN _ _ _ J6;refine⟨m',hm,i+1,d,H',acc',its',nn',J1.pins_of fun p hp=>absurd hp (by simp),T.keep _ _ _ t7 fun b a o e=>(J1.pin (b,o)<|A7 _<|dW a e).1,fun b a=>?_,J2,J3,J4,J5,ai⟩;obtain⟨o,e,_⟩:=T.obj _ _ t7 b a;exact(J1.pin (b,o)<|A7 _<|dW a e).2.1
   .obtain⟨m',hm,w9⟩:=hN _ _ _ n9;obtain⟨b1,b2,b3,b4⟩:=P I9;exact .inr ⟨rfl,m',hm,i+1,a7,H9,acc,its,nn,I9.pins_of fun p hp=>absurd hp (by simp),T.keep _ _ _ t7 b1,b2,b4,b3,va,la,w9⟩
 exact codeAny_compStart_list (M _ rfl)<|T.self _ 0 _ _ _ (T.keep _ _ _ R fun b _ o e=>a1 b o e)<|M _ rfl
def aBE{rest:Tv Comprehension}(e:CwQ q X)(S:oD X N' cap scope)(hi:PI X tg iter c q)
 (f:∀C s H fp pn,CwQ q (bT X N' scope C s H fp pn)->PG (bT X N' scope C s H fp pn) tg g) (a:∀C s H fp pn,CwQ q (bT X N' scope C s H fp pn)->AN (bT X N' scope C s H fp pn) ifs d) (B:LcB X N' scope elt tg iter ifs rest pos Ln bd q)
 (hs:∀x,foldedSetIterable iter X.env x=pure x:=by intro _;rfl):PE X (.ListComp elt (⟨tg,iter,ifs,0⟩::rest) scope pos) (aHb Ln cap c g d bd):=by
 intro pins s l H Q I h;rw[eval_ListComp];refine TN (use:=Y) (Q:=Q) e S hi f a B hs I h fun D C H' acc n i ⟨m,hn⟩ j _ k=>⟨m,hn,fun h' b=>?_⟩;exact⟨.ref D,_,j h' b,rfl,k⟩
def XB{i:Nat}{x:Str}{rest:Tv Comprehension}{d:Pos}(O:X.N.Nodup)(k:X.N[i]?=Z x)(P:CwQ q X)(S:oD X N' cap scope)(hi:PI X tg iter J q)
 (R:∀C s H fp pn,CwQ q (bT X N' scope C s H fp pn)->PG (bT X N' scope C s H fp pn) tg g) (l:∀C s H fp pn,CwQ q (bT X N' scope C s H fp pn)->AN (bT X N' scope C s H fp pn) ifs L) (B:LcB X N' scope elt tg iter ifs rest pos Ln bd q)
 (n:swapsWith (.ListComp elt (⟨tg,iter,ifs,0⟩::rest) scope pos) (Z (.Name x c)) d.line X.env=pure true:=by rfl) (hx:X.env.scope.names.lookup x=Z .local:=by rfl)
 (hs:∀x,foldedSetIterable iter X.env x=pure x:=by intro _;rfl):PS X (.Assign [.Name x c] (.ListComp elt (⟨tg,iter,ifs,0⟩::rest) scope pos) d) (VJ (aHb Ln cap J g L bd)<|AL i):=by
 intro pins s p H D I h;rw[exec_Assign_Name_used _ _ _ _ n];refine A0<|U9<|A0 ?_;show wpAny _ _ (comprehension (.ListComp elt (⟨tg,iter,ifs,0⟩::rest) scope pos) scope X.env _ (newList []) false (firstIter (⟨tg,iter,ifs,0⟩::rest) X.env) (Z<|assign (.Name x c) X.env) >>= fun _=>pure ()) _ _ s;refine A0 (thn (TN (use:=Z<|assign (.Name x c) X.env) (QQ:=fun _ f=>∃j H',Inv X pins j H' f/\D.nx j H') (Q:=fun v T=>AL i v p T D.nx) P S hi R l B hs I h fun E C H' acc f U ⟨m,hn⟩ W fC hq=>?_) fun _ f hz=>B2<|B2 hz);have r:Inv X pins p (upd H' E (.lst acc)) f:=W f.heap<|Heap.SameBut.refl ..;have r:Inv X pins p (upd H' E (.lst acc)) f:=r;refine wpAny_assign_Name<|yC (M:=model X.prog X.w) (A:=X.A) (E:=X.xe) r O k (.inl hx) (v:=.ref E) (u:=.ref E) rfl (fun s2 I2 t=>?_) (.inr hx);obtain⟨a,y,ha⟩:=t
 have F:C≠a:=by
  rcases ha with z|z
  .rw[z];exact fC.2.1
  .exact fun w=>fC.2.2.2.2.1 x a z w.symm
 refine⟨m,hn.extBut y.extBut F,fun h' G=>?_⟩;exact⟨_,_,I2.turned (t':=s2.toks) (fun b o hb e=>G.extBut b o hb e) fC.1 fC.2.1 fC.2.2.2.1 fC.2.2.2.2.1 fC.2.2.2.2.2,hq⟩
end
section
variable{X:Cx}{N':Tb}{cap:T3}{scope:Scope}{elt tg iter:Uc}{ifs:T8}{pos:Pos}{te:TE}
def aIf(u:∀C s H fp pn,CwQ q (bT X N' scope C s H fp pn)->PE (bT X N' scope C s H fp pn) elt te):LcB X N' scope elt tg iter ifs [] pos (fun acc=>acc.length<sizeLine) (fun N acc d H=>te d H fun v y=>N (acc++[v]) d y) q:=
 ⟨fun D env P s4=>wpAny (model X.prog X.w) X.A (eval elt env) (fun x B=>wpAny (model X.prog X.w) X.A (call (.builtin "list.append") [.ref D,x]) (fun _ E=>P E) (fun _ _=>False) B) (fun _ _=>False) s4,fun I f n h=>QT I f n h,by
  intro C sa Ha fp pn pins d H s D its nn acc N P F I G J t L lt h k;obtain⟨M,dl,O,dx,a,g⟩:=G
  have Ip:Inv (bT X N' scope C sa Ha fp pn) ([(D,lob its nn)]++pins) d H s:=I.pins_of fun p hp=>by
   rcases List.mem_append.mp hp with hp|hp
   .rw[List.mem_singleton.mp hp];exact⟨J,M,dl,O,fun v z=>by cases z⟩
   .exact I.pin p (A7 _ hp)
  refine thn (u _ _ _ _ _ F _ s d H _ Ip h) fun Q i ⟨v,j,c,R,l⟩=>?_;have q:=c.pin (D,lob its nn)<|A7 _<|C1 _<|List.mem_singleton.mpr rfl;have m:=c.pins_of (pins':=pins) fun p hp=>c.pin p<|A7 _<|A7 _ hp;refine wpAny_list_append_plain ⟨nn,q.1⟩ (fun h' hp r=>?_) (by rw[D6,<- t.length];exact L);obtain⟨S,T⟩:=hp;refine k _ ⟨d,j,acc++[v],its++[Q],S,m.turned (t':=i.toks) (fun b o U e=>r.extBut b o U e) q.2.1 dl dx a g,q.2.1,?_,t.append (.cons R .nil),?_,l⟩
  .rw[T];simp
  .rw[B1,D5];exact lt⟩
end
section
variable{K:Fg}{ι:Type}{X:ι->Cx}{N':Tb}{cap:T3}{scope:Scope}{tg iter elt tg2 iter2:Uc}{ifs ifs2:T8}{pos:Pos}{fa fa2:AF}{gf gf2:GF}{ft ft2:TF}{f:EF}
def rB(a:∀i,(X i).calm=true)(S:∀i,oD (X i) N' cap scope)(x:MI K X tg iter fa)(y:MG K (lG X N' scope) tg gf)(z:MF K (lG X N' scope) ifs ft)(w:ME K (lG X N' scope) elt f)(hs:∀(env:Env)(x:Tx),foldedSetIterable iter env x=pure x:=by intro _ _;rfl):
 ME K X (.ListComp elt [⟨tg,iter,ifs,0⟩] scope pos) (fLc cap fa gf ft f):=by
 obtain⟨t,b,c⟩:=x.ex;obtain⟨u,d,e⟩:=y.ex;obtain⟨v,g,h⟩:=z.ex;obtain⟨o,j,k⟩:=w.ex;exact⟨_,fun i=>aBE (q:=true) (a i) (S i) (b i) (fun C s H fp pn _=>d (i,C,s,H,fp,pn)) (fun C s H fp pn _=>g (i,C,s,H,fp,pn)) (aIf fun C s H fp pn _=>j (i,C,s,H,fp,pn))<|hs _,aFL c e h k⟩
def QC(i:Nat){c:Str}{a:Pos}(g:∀j,(X j).N.Nodup)(h:∀i,(X i).calm=true)(S:∀i,oD (X i) N' cap scope)(x:MI K X tg iter fa)(y:MG K (lG X N' scope) tg gf)(z:MF K (lG X N' scope) ifs ft)(w:ME K (lG X N' scope) elt f)
 (d:∀j,(X j).N[i]?=Z c:=by intro _;rfl) (e:∀j,swapsWith (.ListComp elt [⟨tg,iter,ifs,0⟩] scope pos) (Z (.Name c b)) a.line (X j).env=pure true:=by intro _;rfl) (hx:∀j,(X j).env.scope.names.lookup c=Z .local:=by intro _;rfl) (hs:∀(env:Env)(x:Tx),foldedSetIterable iter env x=pure x:=by intro _ _;rfl):
 MS K X (.Assign [.Name c b] (.ListComp elt [⟨tg,iter,ifs,0⟩] scope pos) a) (bC (KM cap fa gf ft f)<|hName i):=by
 obtain⟨t,k,l⟩:=x.ex;obtain⟨u,m,n⟩:=y.ex;obtain⟨v,p,r⟩:=z.ex;obtain⟨o,A,B⟩:=w.ex;exact⟨_,fun j=>XB (q:=true) (g j) (d j) (h j) (S j) (k j) (fun C s H fp pn _=>m (j,C,s,H,fp,pn)) (fun C s H fp pn _=>p (j,C,s,H,fp,pn)) (aIf fun C s H fp pn _=>A (j,C,s,H,fp,pn)) (e j) (hx j)<|hs _,IJ (aBL l n r B) wG⟩
end
section
variable{X:Cx}{pins:T2}{σ:St}{H:Hp}{s:Ua}
def Inv.setE{a:Ub}{c:Tx}{dx:Th}{o:Obj}{vs:Ti}{i:Nat}{x:Tx}{fr fr':Bool}(I:Inv X pins σ H s)(e:H a=Z (.ext (AV a c dx fr)))(k:s.heap.get? a=Z o)(l:o.cls=c)(m:o.dict=dx)(j:o.data=.fields vs)
 (p:∀d:Ti,d=vs.setIfInBounds i x->(fr'=true->4<d.size/\d[1]?=Z .none/\d[2]?=Z .none)/\(DN c=true->d[2]?=Z .none)):
 Inv X pins σ (upd H a (.ext (AV a c dx fr'))) { s with heap:=s.heap.update a (Obj.mapFields (·.setIfInBounds i x)) }:=by
 have h:=S3 (Obj.mapFields (·.setIfInBounds i x)) k<|A0w<|U0 j _
 have g:∀b ob,b≠a->s.heap.get? b=Z ob->(s.heap.update a (Obj.mapFields (·.setIfInBounds i x))).get? b=Z ob:=fun b ob f q=>by
  rw[O8 _ _ (O0 f)];exact q
 refine I.un (t':=s.toks) ⟨fun b ob z n _ _=>?_,fun b ob z n _ _=>?_,fun b ob z n _=>?_,fun b ob z _=>?_,fun b xs z=>?_,fun b ob w z=>?_,fun b ps z=>?_⟩ fun b w z=>?_
 .exact g b ob (fun w=>by rw[w,e]at n;cases n) z
 .exact⟨ob.slots,g b ob (fun w=>by rw[w,e]at n;cases n) z⟩
 .rw[aN (fun w=>by rw[w,e]at n;cases n)];exact n
 .by_cases w:b=a
  .rw[w];exact⟨_,h⟩
  .exact⟨ob,g b ob w z⟩
 .rw[aN (yJ z e (by intro w;cases w))];exact z
 .rw[aN (yJ z e (by intro w;cases w))];exact z
 .exact⟨#[],by rw[aN (yJ z e (by intro w;cases w)),z];simp⟩
 .by_cases f:b=a
  .subst f;rw[aW]at z;cases z;exact⟨⟨_,_,h,(Obj.cls_mapFields _ _).trans l,(SH _ _).trans m,U0 j _,p _ rfl⟩,⟨_,h⟩,fun A B ⟨o',ws,t,u⟩ y=>⟨o',ws,y o' t,u⟩⟩
  .rw[aN f]at z;refine(I.hok b w z).stay (fun c v hc r=>g c v ?_ r) (fun c r=>?_) fun c xs r=>?_
   .rcases hc with rfl|hc
    .exact f
    .exact yJ hc e (by intro w;cases w)
   .rw[aN (yJ r e (by intro w;cases w))];exact r
   .rw[aN (yJ r e (by intro w;cases w))];exact r
end
def UO:unt (upd H a u) a=unt H a:=by
 funext b;by_cases h:b=a
 .subst h;rw[rR,rR]
 .rw[oB h,oB h,aN h]
end L2
namespace PySem
open Sem (wp)
open Builtin
open AutoSeq1
def yH:fillsNumberSlot (.type "tuple") "mul"=pure false:=
 fillsNumberSlot_seq (id:="tuple.__mul__") (r:=Z (.builtin "tuple.__rmul__")) F.slot_tuple_mul.lookup (by decide +kernel) F.slot_tuple_rmul.lookup (by decide +kernel)
def IK:seqRepeat? (.type "tuple")=pure (Z (.builtin "tuple.__mul__")):=by
 unfold seqRepeat?;rw[seqSlot_of (T:="tuple") (name:="__mul__") (id:="tuple.__mul__") F.slot_tuple_mul.lookup (by decide +kernel),seqSlot_of (T:="tuple") (name:="__rmul__") (id:="tuple.__rmul__") F.slot_tuple_rmul.lookup (by decide +kernel)];rfl
def DJ(a:Int)(t:Tok)(l:Ub)(items:Ti)(n:Nat)(od:Th)(osl:Array (Tf)):
 Meets (Builtin.«int.__rmul__» ⟨[.int a t,.ref l],[]⟩) (fun _ R s=>s.heap.get? l=Z { cls:=.type "tuple",dict:=od,data:=.seq items n,slots:=osl }/\R (.ok (.ret Value.notImplemented)) s):=
 .of_wp fun prog w A R s h=>by obtain⟨b,g,d,c,os⟩:=s;obtain⟨e,h⟩:=h;wp_walk;exact⟨_,rfl,h⟩
def zK(l:Ub)(items:Ti)(n:Nat)(od:Th)(osl:Array (Tf))(x:Int)(u:Tok)(c:items.isEmpty=false)(q:2<=x)(r:x<2 ^ 62)(i:items.size*x.toNat<=sizeLine):
 Meets (Builtin.«tuple.__mul__» ⟨[.ref l,.int x u],[]⟩) (fun _ R s=>s.heap.get? l=Z { cls:=.type "tuple",dict:=od,data:=.seq items n,slots:=osl }/\R (.ok (.ret (Value.ref s.heap.objs.size))) { s with heap:=s.heap.push { cls:=Value.type "tuple",data:=Data.seq (List.foldl (fun x1 a=>x1++a) #[] (List.replicate x.toNat items)) },toks:=s.toks }):=
 .of_wp fun prog w A R s h=>by
  obtain⟨t,g,d,v,os⟩:=s;obtain⟨e,h⟩:=h;have y:=idx_int;have f2:=sub_tuple_tuple;have z:=sub_list_list;have B:=sub_tuple_list;have C:=sub_list_tuple;have j:(decide (x < -(2 ^ 63)) || decide (x>=2 ^ 63))=false:=by simp;omega
  have k:(items.isEmpty || x==1)=false:=by rw[c];simp;omega
  have m:(decide (x<=0) || items.isEmpty)=false:=by rw[c];simp;omega
  have f:(items.size:Int)*x=((items.size*x.toNat:Nat):Int):=by
   have:x=(x.toNat:Int):=by omega
   rw[Int.natCast_mul,<- this]
  have sz:sizeLine=16777216:=E9;have o:¬(items.size:Int)*x > (2 ^ 63-1) / 8:=by rw[f];omega
  have p:Tuple.tupleTooMany ((items.size:Int)*x)=false:=by rw[f];unfold Tuple.tupleTooMany;exact C4 (by omega)
  have b:(List.foldl (fun x1 a=>x1++a) #[] (List.replicate x.toNat items)).size<=sizeLine:=by rw[size_joined,Nat.mul_comm];simpa using i
  wp_walk using S8 e
  rw[B0 (by rw[j];exact B5)]
  wp_walk using S8 e
  rw[B0 (by rw[k];exact B5),B0 (by rw[m];exact B5),B0 o]
  wp_walk
  rw[B0 (by rw[p];exact B5)]
  wp_walk
  rw[B0 (by first|exact Nat.not_lt.mpr b|omega)]
  wp_walk
  exact⟨_,rfl,h⟩
end PySem
namespace L2
open PySem PySem.Spec PyProof.Rows
def ZD(K:Fg):R2:=fun x y H Q=>∃(l:Ub)(vs:Tc)(i:Int),x=.ref l/\y=.int i/\SqT K H l vs/\vs≠[]/\2<=i/\i<2 ^ 62/\vs.length*i.toNat<=sizeLine/\∀p,H p=Y->Q (.ref p) (upd H p (.tup (List.replicate i.toNat vs).flatten))
def aEJ:OpR X (binaryOp .Mult) (ZD X.K):=by
 intro pins s D H x y u v Q I k m h;obtain⟨l,vs,i,rfl,rfl,p,d,r,i1,g,q⟩:=h;cases (show u=Value.ref l from k);obtain⟨t,rfl⟩:=(show ∃t,v=Value.int i t from m);obtain⟨its,f,⟨⟨oc,od,E,osl⟩,n,e,j,G,J⟩,hs⟩:=I.tuple p;dsimp only at e;subst e;have a:=f.length;have c:its≠[]:=fun z=>d<|f.nil_iff.mp z;have w:its.toArray.isEmpty=false:=by cases its with|nil=>exact absurd rfl c|cons _ _=>rfl
 have sz:sizeLine=16777216:=E9
 refine wpAny_binaryOp_repeat_ref (T:="tuple") (U:="int") (by decide) ⟨_,n,rfl⟩ (fun A=>typeIs_int A i t) yH F.fills_int_mul F.slot_int_rmul IK F.slot_int_index.lookup
  (call_meets F.slot_int_rmul (typeIs_int s i t) F.entry_int_rmul (F.args_int_rmul_2 _ _) (DJ i t l its.toArray j od osl)
   ⟨n,rfl,⟨_,n,rfl⟩,call_meets F.slot_tuple_mul ⟨_,n,rfl⟩ F.entry_tuple_mul (F.args_tuple_mul_2 _ _)
    (zK l its.toArray j od osl i t w r i1 (by rw[D6,<- a];exact g))
    ⟨n,?_⟩⟩)
 refine⟨.ref s.heap.objs.size,_,I.laid (t':=s.toks) (o:=.tup (List.replicate i.toNat vs).flatten) (fun b ob q=>A2 _ q) (A6 _) ?_,rfl,q _<|I.hok.fresh<|A6 _⟩;refine⟨by rw[len_rep,Nat.mul_comm];exact g,(List.replicate i.toNat its).flatten,KR f _,?_⟩;have:=FG (List.replicate i.toNat its) [];rw[List.map_replicate]at this;rw[show List.foldl (fun B C=>B++C) #[] (List.replicate i.toNat its.toArray)=((List.replicate i.toNat its).flatten).toArray by simpa using this];exact IsTup.new _ _
def JV:F2:=fun x y M=>match x,y with
 |.d (.tuple ds),.d (.int i)=>if ds≠[]/\2<=i/\i<2 ^ 62/\ds.length*i.toNat<=sizeLine then Z (.d (.tuple (aJm ds i.toNat)),M)else Y
 |_,_=>Y
section
variable{K:Fg}
def aDJ:P2 K (ZD K) JV:=by
 intro x y M z M' h W H v u Q G d e k;unfold JV at h;split at h
 .rename_i ds i;by_cases a:ds≠[]/\2<=i/\i<2 ^ 62/\ds.length*i.toNat<=sizeLine
  .rw[A4 a]at h;cases h;obtain⟨f,g,i1,j⟩:=a;obtain⟨p,vs,rfl,m,b⟩:=d;have ln:=aM.len b;refine⟨p,vs,i,rfl,e,G.fh.seqT m,fun z=>f<|List.length_eq_zero_iff.mp (by rw[<- ln,z];rfl),g,i1,by rw[ln];exact j,fun l n=>?_⟩;obtain⟨c,q⟩:=G.lay (o:=.tup (List.replicate i.toNat vs).flatten) n;exact k _ _ _ c q ⟨l,_,rfl,SqT.of aW,aM.same c.ff _ _<|BV b _⟩
  .rw[B0 a]at h;cases h
 .cases h
def aHA{ι:Type}{X:ι->Cx}(a:∀i,(X i).K=K):Q2 K X (binaryOp .Mult) JV:=⟨_,fun i=>(show OpR (X i) (binaryOp .Mult) (ZD K)by have:=aEJ (X:=X i);rw[a i]at this;exact this),aDJ⟩
end
end L2
namespace PySem.W
open PySem PySem.Calls PyProof.Rows PyProof.V PySem.Spec
end PySem.W
namespace L2
open PySem PySem.Spec PyProof.Rows
open PySem PySem.W PySem.Spec PyProof.Rows
end L2
namespace L2
open PySem PySem.Spec PyProof.Rows
end L2
namespace PySem
open Sem (wp)
open Builtin
open AutoSeq1
end PySem
namespace L2
variable{A:Ue}{H:Hp}{s:Ua}
open PySem PySem.Spec PyProof.Rows
section
variable{P:Ud}{w:World}{K:Fg}{tg:Uc}{q:Bool}
def OO(a it:Ub):Turn P w K tg (Itl K a) [it] it (fun i h=>h.IsListIter it a i) q where
 mem:=by simp
 obj:=(xX (P:=P) (w:=w) (K:=K) (tg:=tg) a it).obj
 keep:=(xX (P:=P) (w:=w) (K:=K) (tg:=tg) a it).keep
 item:=by
  intro X hP hw hK hc i pins s σ H E I hf st hg;subst hP hw hK;obtain⟨xs,x,hq,hx⟩:=hg;obtain⟨its,rv,p,hz⟩:=I.list hq;obtain⟨u,hu,ru⟩:=rv.get hx;obtain⟨f0,f1,f2,f3,f4,f5⟩:=hf it (by simp);refine wpAny_pyNext_list_item st p.isList (x:=u) (by simpa using hu) fun h' st' sb=>?_;have I1:Inv X pins σ H { s with heap:=h' }:=I.turned (t':=s.toks) (fun b o hb e=>(sb.2 b hb).trans e) f0 f1 f3 f4 f5;obtain⟨o,e,c,d⟩:=id st';exact⟨u,rfl,KB (s:={ s with heap:=h' }) e c d (by decide) ⟨x,H,I1,ru,⟨rfl,fun ys hy=>by rw[I.list_inj hy hq];exact hx⟩,st',fun b hb=>(hf b hb).1⟩⟩
 done:=by
  intro X hP hw hK hc i pins s σ H E I hf st hg;subst hP hw hK;obtain⟨xs,hq,hx⟩:=hg;obtain⟨its,rv,p,hz⟩:=I.list hq;obtain⟨f0,f1,f2,f3,f4,f5⟩:=hf it (by simp);have hl:=rv.length;obtain⟨ps,hd,hps⟩:=OS hc I.ok;obtain⟨hp,hn⟩:=hps _ _ _ _ I;exact next_end (k:=true) hd hp (hn it<|hf it (by simp)) st p.isList (by simp;omega) fun h' eb=>⟨rfl,I.turned (t':=s.toks) (fun b o hb e=>eb b o hb e) f0 f1 f3 f4 f5⟩
 self:=fun _ _ _ _ _ st h=>wpAny_pyIter_listiter st h
def LU(a it:Ub):Turn P w K tg (Itt K a) [it] it (fun i h=>h.IsTupleIter it a i) q where
 mem:=by simp
 obj:=(vD (P:=P) (w:=w) (K:=K) (tg:=tg) a it).obj
 keep:=(vD (P:=P) (w:=w) (K:=K) (tg:=tg) a it).keep
 item:=by
  intro X hP hw hK hc i pins s σ H E I hf st hg;subst hP hw hK;obtain⟨xs,x,hq,hx⟩:=hg;obtain⟨its,rv,p,hz⟩:=I.tuple hq;obtain⟨u,hu,ru⟩:=rv.get hx;obtain⟨f0,f1,f2,f3,f4,f5⟩:=hf it (by simp);refine wpAny_pyNext_tuple_item st (show s.heap.IsTuple a its.toArray from p) (x:=u) (by simpa using hu) fun h' st' sb=>?_;have I1:Inv X pins σ H { s with heap:=h' }:=I.turned (t':=s.toks) (fun b o hb e=>(sb.2 b hb).trans e) f0 f1 f3 f4 f5;obtain⟨o,e,c,d⟩:=id st';exact⟨u,rfl,KB (s:={ s with heap:=h' }) e c d (by decide) ⟨x,H,I1,ru,⟨rfl,fun ys hy=>by rw[I.tuple_inj hy hq];exact hx⟩,st',fun b hb=>(hf b hb).1⟩⟩
 done:=by
  intro X hP hw hK hc i pins s σ H E I hf st hg;subst hP hw hK;obtain⟨xs,hq,hx⟩:=hg;obtain⟨its,rv,p,hz⟩:=I.tuple hq;obtain⟨f0,f1,f2,f3,f4,f5⟩:=hf it (by simp);have hl:=rv.length;obtain⟨ps,hd,hps⟩:=OS hc I.ok;obtain⟨hp,hn⟩:=hps _ _ _ _ I;exact next_end (k:=false) hd hp (hn it<|hf it (by simp)) st p (by simp;omega) fun h' eb=>⟨rfl,I.turned (t':=s.toks) (fun b o hb e=>eb b o hb e) f0 f1 f3 f4 f5⟩
 self:=fun _ _ _ _ _ st h=>wpAny_pyIter_tupleiter st h
end
section
variable{X:Cx}{tg:Uc}{q:Bool}{K:Fg}
def aFb(j:X.K=K)(k:PE X l i):PI X tg l (YL K i) q:=by
 subst j;intro pins s m H R I h;refine thn (k pins s m H _ I h) fun v s1 d=>?_;obtain⟨x,f,c,n,a,e,r⟩:=d;subst e;cases n
 have fp:∀b∈[s1.heap.objs.size],kO X pins f b:=fun b t=>by
  have e:b=s1.heap.objs.size:=List.mem_singleton.mp t;subst e;exact c.fpOk (A6 _)<|c.hok.fresh<|A6 _
 rcases r with⟨xs,g,q⟩|⟨xs,g,q⟩
 .obtain⟨its,u,p,d⟩:=c.list g;refine A0v p.isList ?_;exact⟨s1.heap.objs.size,[s1.heap.objs.size],_,_,f,rfl,c.kept (t':=s1.toks) fun b o e=>A2 _ e,OO a _,⟨_,C6 _ rfl,rfl,rfl⟩,fp,q⟩
 .obtain⟨its,u,p,d⟩:=c.tuple g;refine Z8 (show s1.heap.IsTuple a its.toArray from p) ?_;exact⟨s1.heap.objs.size,[s1.heap.objs.size],_,_,f,rfl,c.kept (t':=s1.toks) fun b o e=>A2 _ e,LU a _,⟨_,C6 _ rfl,rfl,rfl⟩,fp,q⟩
def aFt{n:Nat}(l:X.K=K)(m:CwQ q X)(h:PGs X es t)
 (hn:(assignEach es X.env).length=n) (c:(assignEach es X.env).findIdx? (·.1)=Y):PG X (.Tuple es k pos) (aEU K n t):=by
 subst l;intro pins s i H v u Q I r d;obtain⟨a,xs,p,w,x,d⟩:=d;subst p;cases r;obtain⟨its,j,ht,B⟩:=I.tuple w;obtain⟨ps,hd,f⟩:=OS m I.ok;obtain⟨y,_⟩:=f _ _ _ _ I;rw[assign_Tuple];refine A0<|U9 ?_;unfold unpack;have g:(assignEach es X.env).length=its.toArray.size:=by simp[hn,<- x,j.length]
 rw[g,c];refine A0<|E8 (SJ hd y ht fun h' hx=>?_);have z:Inv X pins i H { s with heap:=h' }:=I.kept (t':=s.toks) fun b o e=>hx b o (C2<|B3 e) e;exact h pins _ i H xs _ Q z (by simpa using j) d
def aEj{i j:Nat}{x y:Str}{a b:Uc}{r:TA}{pos:Pos}{kt k2 pt2}(E:CwQ q X)(t:X.N.Nodup)(hi:X.N[i]?=Z x)(F:X.N[j]?=Z y)(g:i≠j)
 (hx:X.env.scope.names.lookup x=Z .local) (hy:X.env.scope.names.lookup y=Z .local) (ha:PA X [a,b] r)
 (G:swappedStores [.Tuple [.Name x d,.Name y f] kt pt] (.Tuple [a,b] k2 pt2) X.env=pure (Z [x,y]))
 (hs:swapsWithSole [.Tuple [.Name x d,.Name y f] kt pt] (.Tuple [a,b] k2 pt2) pos.line X.env=pure false):
 PS X (.Assign [.Tuple [.Name x d,.Name y f] kt pt] (.Tuple [a,b] k2 pt2) pos) (aKk i j r):=by
 intro pins s u H D I h;rw[exec_Assign_arm];refine A0<|U9 ?_;rw[hs];refine A0<|B2 ?_;rw[B0 (by decide)];refine A0<|Tuple_ (thn (ha _ pins s u H _ I h) fun us s1 ⟨vs,z,J,L,k⟩=>?_);obtain⟨v,w,M,k⟩:=k;subst M
 obtain⟨u1,c,rfl,O,l⟩:∃u1 c,us=[u1,c]/\RelV v u1/\RelV w c:=by
  cases L with
  |cons p q=>
   cases q with
   |cons P Q=>
    cases Q;exact⟨_,_,rfl,p,P⟩
 refine I0 ?_ (by show 2<=sizeLine;decide);have B:Inv X pins u z { s1 with heap:=s1.heap.push { cls:=.type "tuple",data:=.seq [u1,c].toArray } }:=J.kept (t':=s1.toks) fun b o e=>A2 _ e;obtain⟨ps,hd,m⟩:=OS E I.ok;obtain⟨R,_⟩:=m _ _ _ _ B;rw[G];refine A0<|B2 ?_;show wpAny (model X.prog X.w) X.A (do rule "assign.swapped-stores";let items <- unpackItems (.ref s1.heap.objs.size) 2 Y;assignInOrder [fun v=>bindName X.env y v,fun v=>bindName X.env x v] items.reverse;pure Flow.next) _ _ _;refine A0<|wpAny_rule<|A0 (SJ (items:=#[u1,c]) hd R (IsTup.new s1.heap _) fun h' n=>?_);have S:=B.kept (h':=h') (t':=s1.toks) fun b o e=>n b o (C2<|B3 e) e;show wpAny _ _ (assignInOrder [fun v=>bindName X.env y v,fun v=>bindName X.env x v] [c,u1] >>= fun _=>pure Flow.next) _ _ _;refine A0<|assignInOrder_cons<|wpAny_bindName<|rX S t F (.inl hy) l (fun s2 T=>?_) (.inr hy);refine assignInOrder_cons<|wpAny_bindName<|rX T t hi (.inl hx) O (fun s3 C=>assignInOrder_nil<|B2 ?_) (.inr hx);rw[List.set_comm _ _ (O0 g)]at C;exact⟨_,z,C,k⟩
def aHQ(hd:HdP A p)(I ax:Ub)(hne:ax≠I)(hn:∀x∈p,x.1≠I)(items:Ti):
 Walks prog w A I (I::ax::p.map (·.1)) [I] items.size (fun i v=>items[i]?=Z v) (fun i h=>h.IsListIter I ax i/\h.IsList ax items/\Has h p) where
 sub:=fun b hb=>by simp at hb;simp[hb]
 frame:=fun _ _ _ st hk=>⟨st.1.at fun o e=>hk I (by simp) o e,st.2.1.at fun o e=>hk ax (by simp) o e,fun x hx=>hk x.1 (by simp only[List.mem_cons,List.mem_map];exact .inr (.inr ⟨x,hx,rfl⟩)) _<|st.2.2 x hx⟩
 item:=fun i s Q E hi st hQ=>by
  refine wpAny_pyNext_list_item st.1 st.2.1 (x:=items[i]) (by simp[hi]) fun h' hit' hs'=>?_;exact hQ _ h' s.toks (by simp[hi]) ⟨hit',st.2.1.extBut hs'.extBut hne,fun x hx=>(hs'.2 x.1<|hn x hx).trans (st.2.2 x hx)⟩ fun b o hb e=>hs'.extBut b o (fun h=>hb (by simp[h])) e
 done:=fun s Q E st hQ=>next_end (k:=true) hd st.2.2 hn st.1 st.2.1 (by simp) fun h' he'=>hQ h' s.toks fun b o hb e=>he' b o (fun h=>hb (by simp[h])) e
 self:=fun _ _ _ _ st hQ=>wpAny_pyIter_listiter st.1 hQ
def WI(j:X.K=K)(k:CwQ q X):fR X (.builtin "all") (aCr K):=by
 subst j;intro pins s y H xs us Q I r h;obtain⟨p,bs,rfl,l,q⟩:=h;obtain⟨u,rfl,m⟩:=vals1 r;cases (show u=Value.ref p from m);obtain⟨its,n,d,B⟩:=I.list l;have a:=bG.bools n;subst a;obtain⟨ps,hd,f⟩:=OS k I.ok;obtain⟨c,_⟩:=f _ _ _ _ I;refine call_all_walk<|A0v d.isList ?_;have g:p<s.heap.objs.size:=d.lt;refine⟨_,_,_,_,_,_,(fun i=>bs.getD i false),rfl,aHQ (A:=X.A.in1) hd s.heap.objs.size p (C2 g) (fun x hx=>C2<|B3<|c x hx) (bs.map Value.bool).toArray,⟨⟨_,C6 _ rfl,rfl,rfl⟩,d.isList.at fun o e=>A2 _ e,fun x hx=>A2 _<|c x hx⟩,yN,fun h' t v=>?_⟩;have w:((bs.map Value.bool).toArray).size=bs.length:=by simp
 rw[w,all_range];refine⟨.bl _,H,I.kept (h':=h') (t':=t) fun b o e=>?_,rfl,q⟩;exact v b o (fun z=>by rw[D4]at z;exact absurd (B3 e) (by rw[z];exact E3 _))<|A2 _ e
end
section
variable{ι:Type}{K:Fg}{X:ι->Cx}{q:Bool}{a b e:Uc}{es:T8}{f:EF}{fa:AF}{pos:Pos}
def RD(c:∀i,(X i).K=K)(x:ME K X a f):MI K X tg a (cQ f) q:=by
 obtain⟨t,d,g⟩:=x.ex;exact⟨_,fun i=>aFb (c i)<|d i,ZX g⟩
def aCY{n:Nat}(d:∀i,(X i).K=K)(g:∀i,CwQ q<|X i)(x:MGs K X es gs)(hn:∀env:Env,(assignEach es env).length=n:=by intro _;rfl)(c:∀env:Env,(assignEach es env).findIdx? (·.1)=Y:=by intro _;rfl):MG K X (.Tuple es k pos) (iB n gs):=by
 obtain⟨t,h,j⟩:=x.ex;exact⟨_,fun i=>aFt (d i) (g i) (h i) (hn _)<|c _,ZW j⟩
def aDN(i j:Nat){d g:Str}{m k2:Nat}(o:∀j,CwQ q<|X j)(p:∀j,(X j).N.Nodup)(x:MA K X [a,b] fa)(n:i≠j:=by decide)(hi:∀k,(X k).N[i]?=Z d:=by intro _;rfl)(r:∀k,(X k).N[j]?=Z g:=by intro _;rfl)(hx:∀k,(X k).env.scope.names.lookup d=Z .local:=by intro _;rfl)(hy:∀k,(X k).env.scope.names.lookup g=Z .local:=by intro _;rfl)
 (u:∀k,swappedStores [.Tuple [.Name d h,.Name g l] m pt] (.Tuple [a,b] k2 c) (X k).env=pure (Z [d,g]):=by intro _;rfl) (v:∀k,swapsWithSole [.Tuple [.Name d h,.Name g l] m pt] (.Tuple [a,b] k2 c) pos.line (X k).env=pure false:=by intro _;rfl):
 MS K X (.Assign [.Tuple [.Name d h,.Name g l] m pt] (.Tuple [a,b] k2 c) pos) (aCy i j fa):=by
 obtain⟨t,w,y⟩:=x.ex;exact⟨_,fun k=>aEj (o k) (p k) (hi k) (r k) n (hx k) (hy k) (w k) (u k)<|v k,aHi y⟩
def aAI(c:∀i,(X i).K=K)(d:∀i,CwQ q<|X i):QN K X (.builtin "all") DU:=⟨_,fun i=>WI (c i)<|d i,UB⟩
def IC(X:ι->Cx)(N':Tb)(scope:Scope)(q:Bool):{ j:LcI ι // CwQ q (lG X N' scope j) }->Cx:=fun j=>lG X N' scope j.1
def PL(g:∀i,CwQ q<|X i)(S:∀i,oD (X i) N' cap scope)(x:MI K X tg iter fa q)(y:MG K (IC X N' scope q) tg c)(z:MF K (IC X N' scope q) ifs d)(w:ME K (IC X N' scope q) elt f)(hs:∀(env:Env)(x:Tx),foldedSetIterable iter env x=pure x:=by intro _ _;rfl):
 ME K X (.ListComp elt [⟨tg,iter,ifs,0⟩] scope pos) (fLc cap fa c d f):=by
 obtain⟨t,j,k⟩:=x.ex;obtain⟨u,l,m⟩:=y.ex;obtain⟨v,n,p⟩:=z.ex;obtain⟨o,r,B⟩:=w.ex;exact⟨_,fun i=>aBE (g i) (S i) (j i) (fun C s H fp pn h=>l ⟨(i,C,s,H,fp,pn),h⟩) (fun C s H fp pn h=>n ⟨(i,C,s,H,fp,pn),h⟩) (aIf fun C s H fp pn h=>r ⟨(i,C,s,H,fp,pn),h⟩)<|hs _,aFL k m p B⟩
end
def cG.units1q(r:cG k A q):A.in1.units+64<cLine:=by have:=r.un;show A.units+1+64<_;omega
def aIz(A:Ue)(outer:Tv Env)(s:Ua)(H:Hp):Prop:=A.handled=Y\/∃a o vs,A.handled=Z (.ref a)/\o.data=.fields vs/\vs[2]?=Z .none/\s.heap.get? a=Z o/\H a=Y/\a∉frs outer
def HdX.at(h:HdX X)(I:Inv X pins a H s):aIz X.A X.stack s H:=by
 rcases h with h|⟨b,o,vs,c,d,e,f⟩
 .exact .inl h
 .obtain⟨g,i,j,_⟩:=f _ _ _ _ I;exact .inr ⟨b,o,vs,c,d,e,g,i,j⟩
def HdX.wish(h:HdX X):HdX (X.wish E):=by
 rcases h with h|⟨a,o,vs,b,c,d,e⟩
 .exact .inl h
 .exact .inr ⟨a,o,vs,b,c,d,fun _ _ _ _ I=>e _ _ _ _ I.unwish⟩
def HdX.try(h:HdX X):HdX ((mL X pins).wish E):=by
 rcases h with h|⟨e,o,vs,f,g,i,j⟩
 .exact .inl h
 .refine .inr ⟨e,o,vs,f,g,i,fun a k H s I=>?_⟩;have as:X.pn++(pins++a)=(X.pn++pins)++a:=(B7 ..).symm;have J:=I.unwish;have l:Inv X (pins++a) k H s:=⟨⟨J.ok.mod,J.ok.kind,J.ok.glob,J.ok.blt,J.ok.above,J.ok.inj,J.ok.has,J.ok.cab,J.ok.hd,J.ok.frames,J.ok.stk,J.ok.exf,J.ok.bs,J.ok.bsz,J.ok.noex,J.ok.exfs,J.ok.funs,J.ok.frf⟩,J.os,J.bare,J.base,J.loc,J.cell,J.free,J.freeC,fun p d=>J.pin p (as▸d),J.hok,J.len⟩;obtain⟨m,n,q,r⟩:=j _ _ _ _ l;exact⟨m,n,q,fun b c=>r b ⟨c.1,c.2.1,c.2.2.1,c.2.2.2.1,c.2.2.2.2.1,fun p d=>c.2.2.2.2.2 p (as▸d)⟩⟩
structure aFU(P:Ud)(w:World)(K:Fg)(mg:Str->Tf)(base:Heap)(CX:CXT)(k:Nat)(f:Ub)(fd:FuncData)(ps:Tb)(sp:Sp):Prop where
 len:∀vs H Q E,sp vs H Q E->vs.length=ps.length
 run:∀(A:Ue)(outer:Tv Env)(s:Ua)(H:Hp)(args:Args)(us:T5)(vs:Tc)(Q:VK)(E:XK),cG k A false->aIz A outer s H->VX P w K mg base A outer s H->BindsTo s fd args (ps.zip us)->bG vs us->sp vs H Q E->
  codeAny (model P w) A (.call (.ref f) args) (CR CX outer P w H s Q E) s
structure eR(P:Ud)(w:World)(K:Fg)(mg:Str->Tf)(base:Heap)(CX:CXT)(k:Nat)(x:Str)(ps:Tb)(sp:Sp):Prop where
 ex:∃f fd,aFU P w K mg base CX k f fd ps sp/\mg x=Z (.ref f)/\W.keepIn K (.ref f)=true/\Binds K fd ps []
section
variable{P:Ud}{w:World}{K:Fg}{mg:Str->Tf}{base:Heap}
def eR.calm(C:eR P w K mg base CX0 k x ps sp):Callee P w K mg base k x ps sp:=by
 obtain⟨f,fd,F,r⟩:=C.ex;exact⟨f,fd,⟨F.len,fun A outer s H args us vs Q E a=>F.run A outer s H args us vs Q E ⟨(fun z=>nomatch z),a.dp,a.un,a.gd⟩ (.inl (a.hd rfl))⟩,r⟩
def aDD(h:aIz A outer s H):HdX (jG CX P w K mg base N qual scope f g A outer s H E false):=by
 rcases h with h|⟨a,o,vs,i,j,k,c,d,e⟩
 .exact .inl h
 .refine .inr ⟨a,o,vs,i,j,k,fun pins m H' n I=>⟨I.base.keep a o c d e (fun z=>by cases z),I.base.free a o c d (fun z=>by cases z),fun z=>?_,fun b l z=>?_⟩⟩
  .rcases List.mem_cons.mp (show a∈s.heap.objs.size::frs outer from z)with z|z
   .exact absurd (B3 c) (by rw[z];exact E3 _)
   .exact e z
  .rcases l.2.2.2.1 with w|w
   .cases w
   .exact absurd (B6 (B3 c) (z▸w))<|E3 _
def Fun.okW{st:Stmt}{sp:Sp}(Fu:Fun K x qual st f fd)(S:aR N ps (aH st))(len:∀vs H Q E,sp vs H Q E->vs.length=ps.length)
 (a:∀(cdv:Tx)(A:Ue)(outer:Tv Env)(s:Ua)(H:Hp)(vs:Tc)(Q:VK)(E:XK),cG k (A.deeper<|envOfC qual (aH st) s.heap.objs.size f cdv) false->HdX (jG CX P w K mg base N qual (aH st) f cdv A outer s H E false)->sp vs H Q E->
  ∃t,PSs (jG CX P w K mg base N qual (aH st) f cdv A outer s H E false) (bR st) t/\t { nx:=fun _ H'=>Q .non H',rt:=Q } (start N vs) H):aFU P w K mg base CX (k+1) f fd ps sp:=by
 obtain⟨oc,od,kV,doc,pm,an,cdv,ct,osl,rfl,e,c⟩:=Fu.ex;refine⟨len,fun A outer s H args us vs Q E d g h i r b=>?_⟩;exact aBc e c S (len _ _ _ _ b) d h i r<|a cdv A outer s H vs Q E (d.deeper _) (aDD g) b
def Def.noneQ{st:Stmt}{ps:Tb}{k:Nat}(D:Def K mg x st)(S:aR N ps (aH st))
 (b:∀(kV doc pm:Tx)(an:Th)(cdv ct:Tx)(us:T5),us.length=ps.length->bindArgs (PySem.W.fnOf x x (eT st) (bR st) (aH st) .none kV doc pm an cdv ct) ⟨us,[]⟩=pure (ps.zip us)):
 Callee P w K mg base (k+1) x ps (spM K fun _ _=>Y) q:=by
 refine D.ok S b (fun vs H Q E h=>?_) fun f cdv A outer s H vs Q E c h=>?_
 .obtain⟨xs,M,W,y,M',G,R,a,_⟩:=h;cases a
 .obtain⟨xs,M,W,y,M',G,R,a,_⟩:=h;cases a
def Def.okW{st:Stmt}{ps:Tb}{b:SF}(D:Def K mg x st)(S:aR N ps (aH st))
 (c:∀(kV doc pm:Tx)(an:Th)(cdv ct:Tx)(us:T5),us.length=ps.length->bindArgs (W.fnOf x x (eT st) (bR st) (aH st) .none kV doc pm an cdv ct) ⟨us,[]⟩=pure (ps.zip us))
 (a:∀(f:Ub)(cdv:Tx)(A:Ue)(outer:Tv Env)(s:Ua)(H:Hp)(E:XK),cG k (A.deeper<|envOfC x (aH st) s.heap.objs.size f cdv) false->HdX (jG CX0 P w K mg base N x (aH st) f cdv A outer s H E false).nox->
  ML K (fun _:Unit=>(jG CX0 P w K mg base N x (aH st) f cdv A outer s H E false).nox) (bR st) b):eR P w K mg base CX0 (k+1) x ps (spM K (fnF ps.length N.length b)):=by
 obtain⟨f,fd,Fu,m⟩:=D.ex;refine⟨f,fd,Fu.okW S RZ fun cdv A outer s H vs Q E d e hs=>?_,m,Fu.kp,Fu.binds c⟩;obtain⟨t,g,h⟩:=(a f cdv A outer s H E d e.wish).ex;exact⟨t,(g ()).nox,QU h hs⟩
abbrev aAy(P:Ud)(w:World)(K:Fg)(mg:Str->Tf)(base:Heap)(N:Tb)(x:Str)(st:Stmt)(f:Ub)(cdv:Tx)(A:Ue)(outer:Tv Env)(s:Ua)(H:Hp)(E:XK):Unit->Cx:=fun _=>
 (jG (CX1 P w false) P w K mg base N x (aH st) f cdv A outer s H E false).wish (XS (jG (CX1 P w false) P w K mg base N x (aH st) f cdv A outer s H E false) fun _=>E)
def OQ{st:Stmt}(i:Unit):XOk (aAy P w K mg base N x st f cdv A outer s H E i) ((fun _ _=>E:Unit->St->XK) i):=XOk.of HF _
def Def.okWX{st:Stmt}{ps:Tb}(D:Def K mg x st)(S:aR N ps (aH st))
 (d:∀(kV doc pm:Tx)(an:Th)(cdv ct:Tx)(us:T5),us.length=ps.length->bindArgs (W.fnOf x x (eT st) (bR st) (aH st) .none kV doc pm an cdv ct) ⟨us,[]⟩=pure (ps.zip us))
 (a:∀(f:Ub)(cdv:Tx)(A:Ue)(outer:Tv Env)(s:Ua)(H:Hp)(E:XK),cG k (A.deeper<|envOfC x (aH st) s.heap.objs.size f cdv) false->(∀i,HdX<|aAy P w K mg base N x st f cdv A outer s H E i)->
  MLX K (aAy P w K mg base N x st f cdv A outer s H E) (fun _ _=>E) (bR st) b):eR P w K mg base (CX1 P w false) (k+1) x ps (spX K (fnX ps.length N.length b)):=by
 obtain⟨f,fd,Fu,m⟩:=D.ex;refine⟨f,fd,Fu.okW S RB fun cdv A outer s H vs Q E e c hs=>?_,m,Fu.kp,Fu.binds d⟩;obtain⟨t,g,h⟩:=(a f cdv A outer s H E e fun _=>c.wish).ex;exact⟨t (),fun pins j l H' D I c=>E2 (g () pins j l H' D (I.wish _) c) (fun _ _ q=>q.unwish) fun _ _ z=>NK z,QO (h ()) hs⟩
end
section
variable{X:Cx}{k:Nat}{x:Str}{ps:Tb}{sp:Sp}{p pos:Pos}{e:Uc}{es:T8}{t:TA}{CX:CXT}{E:St->XK}
def SU(hx:∀(pins:T2)(a:St)(H:Hp)(s:Ua)(e:Tx)(g:Ua),Inv X pins a H s->CX X.stack H s (E a) e g->X.xe e g)(C:eR X.prog X.w X.K X.mg X.base CX k x ps sp)(n:cG k X.A false)(o:HdX X)(ha:PA X (e::es) t)(v:Gl X x)
 (i:(x==("__debug__":Str))=false) (y:starEach (e::es) X.env=(false,eval e X.env)::starEach es X.env) (j:(backTo pos<|starEach es X.env).any (·.1)=false):
 PE X (.Call (.Name x p) (e::es) [] pos) (xN sp E t):=by
 intro pins s a H Q I h;obtain⟨f,fd,F,m,kp,b⟩:=C.ex;refine Z7<|qF I v m ?_ i;refine W.callWith_K (h₀:=X.base) I.ok.mod.kin kp (thn (ha pos pins s a H _ I h) fun us s1 ⟨vs,z,c,r,q⟩=>⟨c.kIn,?_⟩) y j;have B:us.length=ps.length:=by rw[<- r.length];exact F.len _ _ _ _ q
 have l:=b s1 us c.kIn (by rw[C8];exact B);rw[C8]at l;refine wpAny_call (A0u (F.run X.A X.stack s1 z ⟨us,[]⟩ us vs Q (E a) n (o.at c) c.env0 l r q) fun r g d=>?_);cases r with
 |error e=>exact hx pins a _ _ e g c d
 |ok fl=>
  cases fl with
  |ret u=>exact c.after d
  |next=>exact False.elim d
  |brk=>exact False.elim d
  |cont=>exact False.elim d
end
section
variable{ι:Type}{K:Fg}{X:ι->Cx}{EE:ι->St->XK}{e:Uc}{es:T8}{fa:AF}{fx:AX}{pos:Pos}{k:Nat}{x:Str}{ps:Tb}{p:Pos}
def aCe{F:FN}(b:SA K c fa):SE K (xN (spM K F) (fun _=>E0) c) (aK F fa):=by
 intro t M x M' a W H d Q G R k;obtain⟨⟨f,M1⟩,g,a⟩:=aI a;refine b _ _ _ _ g W H d _ G R fun vs h u i j l=>?_;exact⟨f,M1,h,x,M',j,l,a,fun v m n o q r=>k v m n (i.trans o) q r⟩
def oW{F:FN}(C:∀i,eR (X i).prog (X i).w (X i).K (X i).mg (X i).base CX0 k x ps (spM K F))(a:∀i,cG k (X i).A false)(b:∀i,HdX<|X i)(y:MA K X (e::es) fa)(c:∀i,Gl (X i) x:=by intro _;rfl)(hd:(x==("__debug__":Str))=false:=by decide):
 ME K X (.Call (.Name x p) (e::es) [] pos) (aK F fa):=by
 obtain⟨u,d,f⟩:=y.ex;exact⟨_,fun i=>SU (E:=fun _=>E0) (fun _ _ _ _ _ _ _ h=>h.elim) (C i) (a i) (b i) (d i) (c i) hd (y.st.1 _)<|y.st.2.plain _ _,aCe f⟩
def DF{F:FX}(ok:∀i,XOk (X i)<|EE i)(a:∀i,(X i).calm=false)(C:∀i,eR (X i).prog (X i).w (X i).K (X i).mg (X i).base (CX1 (X i).prog (X i).w false) k x ps (spX K F))(b:∀i,cG k (X i).A false)(c:∀i,HdX<|X i)(y:MAX K X EE (e::es) fx)(d:∀i,Gl (X i) x:=by intro _;rfl)(hd:(x==("__debug__":Str))=false:=by decide):
 MX K X EE (.Call (.Name x p) (e::es) [] pos) (kP F fx):=by
 obtain⟨u,f,g⟩:=y.ex;exact⟨_,fun i=>SU (E:=EE i) (fun _ _ _ _ _ _ I h=>(ok i).pass _ _ (YN (ok i).bd I h fun z=>by rw[a i]at z;cases z)) (C i) (b i) (c i) (f i) (d i) hd (y.st.1 _)<|y.st.2.plain _ _,fun i=>LN<|g i⟩
end
def aBZ(h:H a=Y):unt H a=H:=by
 funext b;by_cases q:b=a
 .subst q;rw[rR,h]
 .rw[oB q]
section
variable{X:Cx}{C:Ub}
def QD{cpos:Pos}(ok:XOk X EE)(R:HdX X)(m:X.calm=false)(hn:DN (.ref C)=false)(hm:X.mg x=Z (.ref C))(q:W.excIn X.K C bmV "ValueError.__new__"=true)(S:W.keepIn X.K (.ref C)=true)(be:W.subIn X.K (.ref C) (.type "BaseException")=Z true)(T:Gl X x)
 (n:(x==("__debug__":Str))=false):PS X (.Raise (Z (.Call (.Name x np) [] [] cpos)) Y pos) (wL EE C):=by
 intro pins s r H D I h;obtain⟨bm,N,nm,qn,bs,hd,sn,sub,ab,U,dd,k0,g,k2,k3,k5,mN,E,V,oi,ot⟩:=SL I.kIn q;show wpAny (model X.prog X.w) X.A (do standAt pos;raiseStmt X.env (Z (do let v <- eval (.Call (.Name x np) [] [] cpos) X.env;standAt pos;pure v)) Y) _ _ s;refine A0<|U9 ?_;unfold raiseStmt;dsimp only;refine A0<|A0<|Z7<|qF I T hm (W.callWith_K0 I.kIn S (wpAny_call_exc_subT (hrest:=E7 _) F.excBase_ValueError ot E V oi fun h' a mk=>A0<|U9<|B2 ?_)) n;obtain⟨tA,b,_,_⟩:=mk.there;have G:Inv X pins r H { s with heap:=h' }:=I.kept mk.keeps;have hC:h'.get? C=_:=mk.keeps _ _ E
 have J:H a=Y:=by
  cases z:H a with
  |none=>rfl
  |some u=>
   obtain⟨o,L⟩:=(I.hok a u z).there;rw[mk.new]at L;cases L
 have LT:W.Looks (model X.prog X.w) h' (typeOf (.ref a)) (.ref C):=(W.Looks.ld b).andThen .now;have LS:=W.looks_subIn (M:=model X.prog X.w) G.kIn be;have LC:W.Looks (model X.prog X.w) h' (typeOf (.ref C)) (.type "type"):=(W.Looks.ld hC).andThen .now
 have nt:∀{t:Bool->Ua->Prop},t false { s with heap:=h' }->wpAny (model X.prog X.w) X.A (isType (.ref a)) t X.xe { s with heap:=h' }:=fun{t} z=>by
  simp only[isType,loadHead];refine A0<|wpAny_loadPart b ?_;exact B2 z
 refine A0<|B2 ?_;dsimp only;refine A0<|E8 ?_;unfold excFromValue isExcClass;refine A0<|A0<|nt ?_;simp only[Bool.false_eq_true,if_false];refine B2 ?_;simp only[Bool.false_eq_true,if_false];unfold isInstance;refine A0<|A0<|LT.here<|LS.here ?_;simp only[if_true];refine B2 ?_;refine A0<|nt ?_;simp only[Bool.false_eq_true,if_false];unfold raisedInstance;refine A0<|A0<|LT.here<|A0<|LC.here ?_;rw[A4 (by decide)];refine B2 ?_;unfold setFlight;refine A0<|A0<|E1 b rfl (x:=.none) rfl ?_;rw[B0 (by decide)];refine B2 ?_
 have h0:X.s₀.heap.get? a=Y:=by
  cases z:X.s₀.heap.get? a with
  |none=>rfl
  |some o=>
   obtain⟨o1,O⟩:=I.base.there a o z (by rw[ok.bd.ex];simp);rw[mk.new]at O;cases O
 have c:∀p∈X.pn,p.1≠a:=fun p c z=>by
  have:=(I.pin p<|C1 _ c).1;rw[z,mk.new]at this;cases this
 have d:∀(j:Heap)(f:Obj)(k:Ti),Inv X [] r H { s with heap:=j }->j.get? a=Z f->f.cls=.ref C->f.dict=Y->f.data=.fields k->1<k.size->k[1]?=Z .none->X.xe (.ref a) { s with heap:=j }:=fun j f k I2 g1 P g3 g4 g5 g6=>
  ok.pass _ _ (ZH ok.bd I2 g1 J h0 c g4 g5 g6 (fun z=>by rw[P]at z;unfold cxq at z;rw[hn,m]at z;cases z) (by rw[P,g3];exact h))
 unfold raiseNew;refine A0<|wpAny_handled ?_;rcases R with y|⟨l,o,a0,y,hv,hz,B⟩
 .rw[y];exact A0<|B2<|wpAny_throw<|d _ _ _ (G.pins_of fun p c=>absurd c (by simp)) b rfl rfl rfl (show 1<6 by decide) rfl
 .obtain⟨g,_,_,_⟩:=B _ _ _ _ I;obtain⟨_,IT⟩:=I.newX mk;have ne:l≠a:=fun z=>by rw[z,mk.new]at g;cases g
  rw[y];dsimp only;rw[A4 (show(Value.ref l != Value.ref a)=true by simp;exact ne)];have I4:=IT.setE (i:=2) (x:=.ref l) (fr':=false) aW b rfl rfl rfl fun a1 e=>⟨(fun z=>nomatch z),fun z=>by rw[hn]at z;cases z⟩;refine A0<|E8 (CY (mk.keeps _ _ g) hv hz fun _=>?_);refine A0 (show wpAny _ _ (setField (.ref a) 2 (.ref l)) _ _ _ from Z0 b rfl (show 2<6 by decide) ?_);refine wpAny_throw ?_;have Q:Inv X [] r _ _:=(I4.untrack aW).pins_of fun p c=>absurd c (by simp);rw[UO,UO,aBZ J]at Q;exact d _ _ _ Q (S3 _ b rfl) rfl rfl rfl (by simp) rfl
end
abbrev HEx:={ p:Ub×Obj // ∃vs,p.2.data=.fields vs/\vs[2]?=Z .none }
def aGQ(p:HEx):HdX (hCx (mL X [p.1]) p.1.1):=by
 obtain⟨⟨e,a⟩,vs,c,d⟩:=p;refine .inr ⟨e,a,vs,rfl,c,d,fun pins k H s I=>?_⟩;have hm:(e,a)∈(hCx (mL X [(e,a)]) e).pn++pins:=C1 _<|A7 _<|List.mem_singleton.mpr rfl;obtain⟨f,g,h,i,_⟩:=I.pin (e,a) hm;exact⟨f,g,I.stkAll h i,fun b j z=>j.2.2.2.2.2 (e,a) hm z.symm⟩
def aEB{X:Cx}{y:T9}{tb:(St->XK)->TS}{pos:Pos}{j:Stmt}{g:T9}{ts:TS}(hT:chT=true)(L:X.calm=true)(bd:Body X)(hb:∀pins EE,PSs ((mL X pins).wish (XS (mL X pins) EE)) y<|tb EE)(hc:JO X x U)(hg:Gl X x)(hd:(x==("__debug__":Str))=false)
 (hS:∀p:HEx,PSs (hCx (mL X [p.1]) p.1.1) (j::g) ts):
 PS X (.Try y [.ExceptHandler (Z (.Name x np)) Y (j::g) hp] [] [] pos) (fun D M H=>tb (fun b c _ H'=>W.exmOne X.K c U=Z true/\ts D b H') D M H):=by
 intro pins s M H D I h;have l:Body (mL X pins):=⟨bd.stk,bd.fr,bd.ex⟩;refine wpAny_Try_except (E2 (hb pins _ [] s M H D (I.toP.wish _) h) (fun f s1 z=>?_) fun ev s1 z=>?_)
 .cases f with
  |next=>obtain⟨b,H',d,q⟩:=z;exact A0r ⟨b,H',d.unwish.ofP I.ok,q⟩
  |brk=>obtain⟨b,H',d,q⟩:=z;exact⟨b,H',d.unwish.ofP I.ok,q⟩
  |cont=>obtain⟨b,H',d,q⟩:=z;exact⟨b,H',d.unwish.ofP I.ok,q⟩
  |ret u=>obtain⟨v,b,H',d,r,q⟩:=z;exact⟨v,b,H',d.unwish.ofP I.ok,r,q⟩
 .obtain⟨a,c,dx,st,C,V,B,rfl,I1,k1,F1,N,hq,q⟩:=z;have hf:=I1.ok.frames;have E:=F1;rw[l.stk]at E hf;refine zY hf l.fr E N fun h2 F2 u2=>tL (s:={ s1 with heap:=h2 }) (fo:=Y) F2 fun h3 F3 u3=>?_;obtain⟨I2,k2⟩:=I1.up l k1 F2.stays u2;obtain⟨I3,k3⟩:=I2.up l k2 F3.stays u3;obtain⟨oe,vs,F,O,_,hv,_⟩:=F3.obj;have P:Fly X.calm B (mL X pins).stack a c dx (Z .none) h3:=by rw[l.stk];exact F3
  have LT:W.Looks (model X.prog X.w) h3 (typeOf (.ref a)) c:=O▸(W.Looks.ld F).andThen .now;have IH:=(I3.ofP I.ok).toH a;refine wpAny_handleBy_cons (codeAny_handlers_test<|ZT (X:=hCx X a) hc IH hg hd ?_) (by intro z;cases z);refine(W.exm_one IH.kIn LT hq).here ?_;refine codeAny_handlers_suite (tL (fo:=Y) P fun Q R u4=>?_);obtain⟨I4,k4⟩:=I3.up l k3 R.stays u4;obtain⟨n1,n2,n3⟩:=Fly.fresh (s:={ s1 with heap:=Q }) (h:=Q) l I4 k4 R;obtain⟨n,G,t,_,i,⟨_,S⟩,_⟩:=R.tr;have cx:G[2]?=Z .none:=S (by unfold cxq;rw[L,hT];simp);have IX:=I4.ofP I.ok
  have nl:a≠X.env.locals:=by
   obtain⟨m,⟨o,es,ep,F,hd,_⟩,_⟩:=IX.loc;exact O0 (jD t i F fun ws z=>by rw[hd]at z;cases z)
  have nf:a∉X.fs:=fun hm=>by
   obtain⟨_,o,F,T⟩:=IX.funs.mem hm;exact jD t i F T rfl
  have IS:Inv (hCx (mL X [(a,n)]) a) pins C V { s1 with heap:=Q }:=by
   have k:=(IX.toH a).ok;refine⟨⟨k.mod,k.kind,k.glob,k.blt,k.above,k.inj,k.has,k.cab,k.hd,k.frames,k.stk,k.exf,k.bs,k.bsz,k.noex,k.exfs,k.funs,k.frf⟩,IX.os,IX.bare,IX.base,IX.loc,IX.cell,IX.free,IX.freeC,fun p hp=>?_,IX.hok,IX.len⟩;rcases List.mem_append.mp hp with hp|hp
   .rcases List.mem_append.mp hp with hp|hp
    .exact IX.pin p<|C1 _ hp
    .rw[List.mem_singleton.mp hp];exact⟨t,n1,nl,nf,fun v z=>by rw[i]at z;cases z⟩
   .exact IX.pin p<|A7 _ hp
  have e:∀{b:St}{H':Hp}{s':Ua},Inv (hCx (mL X [(a,n)]) a) pins b H' s'->Inv X pins b H' s':=fun J=>⟨I.ok,J.os,J.bare,J.base,J.loc,J.cell,J.free,J.freeC,fun p hp=>J.pin p ((List.mem_append.mp hp).elim (fun z=>C1 _<|C1 _ z) fun z=>A7 _ z),J.hok,J.len⟩;refine E2 (hS ⟨(a,n),G,i,cx⟩ pins _ C V D IS q) (fun f s5 z=>?_) fun _ _ z=>z.elim;cases f with
  |next=>obtain⟨b,H',d,q⟩:=z;exact⟨b,H',e d,q⟩
  |brk=>obtain⟨b,H',d,q⟩:=z;exact⟨b,H',e d,q⟩
  |cont=>obtain⟨b,H',d,q⟩:=z;exact⟨b,H',e d,q⟩
  |ret u=>obtain⟨v,b,H',d,r,q⟩:=z;exact⟨v,b,H',e d,r,q⟩
section
variable{ι:Type}{K:Fg}{X:ι->Cx}{EE:ι->St->XK}{sts:T9}{b:SFX}{h:SF}{pos:Pos}
def QR(b:SFX)(tab:Tv (Str×Bool))(h:SF):SF:=fun c M=>(b c M).bind fun r=>match r.1 with
 |.o o=>Z (o,r.2)
 |.xc a ex=>if tab.lookup ex.nm=Z true then h a r.2 else Y
def aFa{tb:(St->XK)->TS}{tab:Tv (Str×Bool)}{g:Tx}(x:∀EE,SSX K (EE) (tb EE) b)(y:SS K ts h)(ht:∀z q,tab.lookup z=Z q->PySem.W.exmOne K (.ref (bZ K z)) g=Z q):
 SS K (fun D f H=>tb (fun d c _ H'=>PySem.W.exmOne K c g=Z true/\ts D d H') D f H) (QR b tab h):=by
 intro C M o M' a W H f D G R k;obtain⟨⟨r,M1⟩,n,a⟩:=aI a;refine x _ _ _ _ _ n W H f D G R fun i j l m=>?_;cases r with
 |o r=>cases a;exact k i j l m
 |xc p ex=>
  intro d c dx t E;obtain⟨rfl,F⟩:=E;dsimp only at a;by_cases e:tab.lookup ex.nm=Z true
  .rw[A4 e]at a;exact⟨ht _ _ e,y _ _ _ _ a i j d D m t fun u v w B=>k u v (l.trans w) B⟩
  .rw[B0 e]at a;cases a
def aKP(X:ι->Cx):ι×HEx->Cx:=fun j=>hCx (mL (X j.1) [j.2.1]) j.2.1.1
def aAW(j:ι×HEx):HdX (aKP X j):=aGQ j.2
def aFw{e:Stmt}{a:T9}(tab:Tv (Str×Bool))(f:Tx)(bd:∀i,Body<|X i)(g:∀i,(X i).calm=true)(l:∀i,(X i).K=K)(m:MLX K (aIA X) (aJA (ι:=ι)) sts b)
 (n:∀i,JO (X i) x f) (ht:∀p∈tab,PySem.W.exmOne K (.ref (bZ K p.1)) f=Z p.2) (y:ML K (aKP X) (e::a) h) (r:∀i,Gl (X i) x:=by intro _;rfl) (hd:(x==("__debug__":Str))=false:=by decide) (hT:chT=true:=by decide):
 MS K X (.Try sts [.ExceptHandler (Z (.Name x np)) Y (e::a) hp] [] [] pos) (QR b tab h):=by
 obtain⟨t,v,w⟩:=m.ex;obtain⟨u,B,C⟩:=y.ex;refine⟨fun D d H=>∀i pins,t (i,pins,fun j c _ H'=>PySem.W.exmOne K c f=Z true/\u D j H') D d H,fun i=>?_,aFa (tb:=fun EE D d H=>∀i pins,t (i,pins,EE) D d H) (fun EE E M o M' F W H d D G R k i pins=>w (i,pins,EE) E M o M' F W H d D G R k) C fun z q h=>ht (z,q)<|F6 h⟩;have:=aEB (X:=X i) (tb:=fun EE D d H=>∀i pins,t (i,pins,EE) D d H) (pos:=pos) (np:=np) (hp:=hp) hT (g i) (bd i) (fun pins EE ps s d H D I h=>v (i,pins,EE) ps s d H D I<|h i pins) (n i) (r i) hd fun p=>B (i,p);rw[l i]at this;exact this
def MZ{cpos:Pos}(ok:∀i,XOk (X i)<|EE i)(a:∀i,(X i).K=K)(d:∀i,HdX<|X i)(c:∀i,(X i).calm=false)(hn:DN (.ref (bZ K x))=false)(hm:∀i,(X i).mg x=Z (.ref (bZ K x)))(q:W.excIn K (bZ K x) bmV "ValueError.__new__"=true)(e:W.keepIn K (.ref (bZ K x))=true)(be:W.subIn K (.ref (bZ K x)) (.type "BaseException")=Z true)(f:∀i,Gl (X i) x:=by intro _;rfl)(hd:(x==("__debug__":Str))=false:=by decide):
 MSX K X EE (.Raise (Z (.Call (.Name x np) [] [] cpos)) Y pos) (uJ x):=
 ⟨fun i=>wL (EE i)<|bZ K x,fun i=>QD (ok i) (d i) (c i) hn (hm i) (by rw[a i];exact q) (by rw[a i];exact e) (by rw[a i];exact be) (f i) hd,fun _=>GO⟩
end
end L2
section
noncomputable section
namespace Q25
open PySem PySem.Spec PyProof.Rows L2
noncomputable def top(i:Nat):Stmt:=PySem.Challenge.pw_cutstree_k25_between.main.body.getD i (.Pass ⟨0,0,0,0⟩)
noncomputable def gY:Tv (Str×Bool):=[("NoPlace",true),("NoTree",false)]
def ar1{a:Type}{P:Tv a->Prop}{us:Tv a}(d:us.length=1)(h:∀b,P [b]):P us:=by
 rcases us with _|⟨b,_|⟨c,r⟩⟩<;>first|exact h _|cases d
def ar2{a:Type}{P:Tv a->Prop}{us:Tv a}(e:us.length=2)(h:∀b d,P [b,d]):P us:=by
 rcases us with _|⟨b,_|⟨d,_|⟨c,r⟩⟩⟩<;>first|exact h _ _|cases e
def ar3{a:Type}{P:Tv a->Prop}{us:Tv a}(f:us.length=3)(h:∀b d e,P [b,d,e]):P us:=by
 rcases us with _|⟨b,_|⟨d,_|⟨e,_|⟨c,r⟩⟩⟩⟩<;>first|exact h _ _ _|cases f
def ar4{a:Type}{P:Tv a->Prop}{us:Tv a}(g:us.length=4)(h:∀b d e f,P [b,d,e,f]):P us:=by
 rcases us with _|⟨b,_|⟨d,_|⟨e,_|⟨f,_|⟨c,r⟩⟩⟩⟩⟩<;>first|exact h _ _ _ _|cases g
set_option hygiene false
local macro_rules | `(tactic| sleep 990) => `(tactic| exact ⟨rfl, rfl, rfl, by decide +kernel, rfl, by decide +kernel, by decide +kernel⟩)
local macro_rules | `(tactic| sleep 988) => `(tactic| (intro _; exact T.hB.of _))
local macro_rules | `(tactic| sleep 989) => `(tactic| (intro _; dsimp only [lG, bT, IC]; decide +kernel))
local macro_rules | `(tactic| sleep 987) => `(tactic| (intro _; exact aDw rfl rfl (by kernel_rfl)))
local macro_rules | `(tactic| sleep 991) => `(tactic| (intro _ _ _ _ _ _ _ hl; apply ar1 hl; intros; rfl))
local macro_rules | `(tactic| sleep 992) => `(tactic| (intro _ _ _ _ _ _ _ hl; apply ar2 hl; intros; rfl))
local macro_rules | `(tactic| sleep 993) => `(tactic| (intro _ _ _ _ _ _ _ hl; apply ar3 hl; intros; rfl))
local macro_rules | `(tactic| sleep 994) => `(tactic| (intro _ _ _ _ _ _ _ hl; apply ar4 hl; intros; rfl))
set_option hygiene true
abbrev pW:Stmt:=top 32
noncomputable abbrev zE:Tb:=["_law_script","_law_many","_law_row","_law_odd","_law_deck_here","_law_k","_law_at","_law_one"]
noncomputable abbrev sE:Tb:=["_law_script","_law_many"]
def sc__law_deck:aR zE sE (aH pW):=by sleep 990
def tS:EF:=(iQ<|aC (fC (.int 48271))<|aC (fC (.int 69621))<|aC (fC (.int 39373))<|aC (fC (.int 40692)) aG)
def AC(γ:Ga)(M:Sto):tS γ M=Z (.d (.list [(.int 48271),(.int 69621),(.int 39373),(.int 40692)]),M):=rfl
def fE:SF:=(aS (bC (fOp fG (aD 5)<|aK fQ<|aC (aD 2) aG)<|hName 6)
 (aS (bC (fOp fG (fOp ixF (aD 2)<|aD 6)<|fC (.int 1000000))<|hName 7)
 (aS (sIf (gB<|fOp (eqX false) (aD 3)<|fC (.int 0))
  (aS (bC (fOp fG (fOp cS (fOp cS (fOp ixF (aD 2)<|aD 6)<|fOp vP (fOp vP (aD 5)<|aD 5)<|fC (.int 16807))<|fOp vP (fC (.int 3))<|aD 5)<|fC (.int 2147483629))<|hName 7)
 (aS (bC (fOp fG (fOp cS (fOp vP (aD 7)<|fOp ixF tS<|fOp fG (aD 5)<|fC (.int 4))<|fC (.int 7))<|fC (.int 2147483647))<|hName 7)
 (bC (fOp fG (fOp vP (aD 7) (aD 7)) (fC (.int 2147483629))) (hName 7))))
  (bC (fOp qH (fOp ixF (aD 2) (aD 6)) (fC (.int 1000000))) (hSub (aD 2) (aD 6) HP)))
 (mD (bL "list" cO (aD 4) (aC (aD 7) aG))))))
def nJ:SF:=(aS (bC (aK EL<|aC (aD 0) aG)<|hName 2)
 (aS (sIf (gB<|fOp (eqY false) (aD 2)<|iQ aG)
  (bC (lM<|aC (fC (.int 4)) aG)<|hName 2)
  bX)
 (aS (bC (fOp fG (fOp ixF (aD 2)<|fC (.int 0))<|fC (.int 2))<|hName 3)
 (aS (bC (fOp qH (fOp ixF (aD 2)<|fC (.int 0))<|fC (.int 2))<|hSub (aD 2) (fC (.int 0)) HP)
 (aS (bC (lM aG)<|hName 4)
 (aS (mP (dA<|aC (aD 1) aG) (hName 5) fE)
 (aS (mD<|bL "list" lQ (aD 4) aG)
 (bQ (aD 4)))))))))
def nB:FN:=fnF 2 8 nJ
abbrev yD:Stmt:=top 6
noncomputable abbrev AQ:Tb:=["thing"]
noncomputable abbrev qV:Tb:=["thing"]
def GH:aR AQ qV (aH yD):=by sleep 990
def BP:SF:=(bQ<|QM "list" "tuple"<|aD 0)
def oS:FN:=fnF 1 1 BP
abbrev qA:Stmt:=top 7
noncomputable abbrev sF:Tb:=["thing","length"]
noncomputable abbrev kL:Tb:=["thing","length"]
def vK:aR sF kL (aH qA):=by sleep 990
def rT:SF:=(bQ<|qN (aK oS<|aC (aD 0) aG)<|fOp (eqX false) (aK fQ<|aC (aD 0) aG)<|aD 1)
def fU:FN:=fnF 2 2 rT
abbrev xG:Stmt:=top 16
noncomputable abbrev NI:Tb:=["one","other"]
noncomputable abbrev AY:Tb:=["one","other"]
def sc_common:aR NI AY (aH xG):=by sleep 990
def uP:SF:=(sS (DO<|aD 1)<|aCy 0 1<|aC (aD 1)<|aC (fOp fG (aD 0)<|aD 1) aG)
def LZ:SF:=(aS uP
 (bQ (aD 0)))
def CI:FN:=fnF 2 2 LZ
abbrev rZ:Stmt:=top 5
noncomputable abbrev uF:Tb:=["thing"]
noncomputable abbrev mE:Tb:=["thing"]
def yX:aR uF mE (aH rZ):=by sleep 990
def vA:SF:=(bQ<|qN (EC "int"<|aD 0)<|aEN<|EC "bool"<|aD 0)
def jH:FN:=fnF 1 1 vA
abbrev fI:Stmt:=top 15
noncomputable abbrev fS:Tb:=["thing"]
noncomputable abbrev cR:Tb:=["thing"]
def iZ:aR fS cR (aH fI):=by sleep 990
def cA:SF:=(aS (sIf (gOr (iM<|gB<|aK fU<|aC (aD 0)<|aC (fC (.int 2)) aG)<|gOr (iM<|gB<|aK jH<|aC (fOp ixF (aD 0)<|fC (.int 0)) aG)<|iM<|gB<|aK jH<|aC (fOp ixF (aD 0)<|fC (.int 1)) aG)
 (bQ<|fC (.bool false))
 bX)
 (bQ (qN (fOp geI (fOp ixF (aD 0) (fC (.int 0))) (fC (.int 0))) (fOp geI (fOp ixF (aD 0) (fC (.int 1))) (fC (.int 1))))))
def bP:FN:=fnF 1 1 cA
abbrev qC:Stmt:=top 14
noncomputable abbrev zC:Tb:=["thing"]
noncomputable abbrev mW:Tb:=["thing"]
def HZ:aR zC mW (aH qC):=by sleep 990
def kF:SF:=(bQ<|qN (aK bP<|aC (aD 0) aG)<|fOp (eqX false) (aK CI<|aC (fOp ixF (aD 0)<|fC (.int 0))<|aC (fOp ixF (aD 0)<|fC (.int 1)) aG)<|fC (.int 1))
def dP:FN:=fnF 1 1 kF
abbrev rM:Stmt:=top 8
noncomputable abbrev uW:Tb:=["many","thing"]
noncomputable abbrev mS:Tb:=["many","thing"]
def yM:aR uW mS (aH rM):=by sleep 990
def lX:SF:=(bQ<|qN (aK jH<|aC (aD 1) aG)<|IY leI ltI (fC (.int 0)) (aD 1)<|aD 0)
def hV:FN:=fnF 2 2 lX
abbrev fY:Stmt:=top 9
noncomputable abbrev gN:Tb:=["many","i","j"]
noncomputable abbrev cZ:Tb:=["many","i","j"]
def kK:aR gN cZ (aH fY):=by sleep 990
def cK:SF:=(bQ<|qN (aK hV<|aC (aD 0)<|aC (aD 1) aG)<|qN (aK hV<|aC (aD 0)<|aC (aD 2) aG)<|fOp (eqX true) (aD 1)<|aD 2)
def bF:FN:=fnF 3 3 cK
abbrev fZ:Stmt:=top 11
noncomputable abbrev gO:Tb:=["many","thing"]
noncomputable abbrev cX:Tb:=["many","thing"]
def kG:aR gO cX (aH fZ):=by sleep 990
def bU:SF:=(bQ<|qN (aK fU<|aC (aD 1)<|aC (fC (.int 3)) aG)<|qN (aK bF<|aC (aD 0)<|aC (fOp ixF (aD 1)<|fC (.int 0))<|aC (fOp ixF (aD 1)<|fC (.int 1)) aG)<|fOp ltI (fOp ixF (aD 1)<|fC (.int 0))<|fOp ixF (aD 1)<|fC (.int 1))
def aY:FN:=fnF 2 2 bU
abbrev mB:Stmt:=top 25
noncomputable abbrev tW:Tb:=["tree","beside","at","row"]
noncomputable abbrev nW:Tb:=["tree"]
def sc_rows_beside:aR tW nW (aH mB):=by sleep 990
def kR:EF:=(KM [Y] (dA<|aC (fOp cS (aK fQ<|aC (aD 0) aG)<|fC (.int 1)) aG) (hName 0) eN<|lM aG)
def gW:SF:=(aS (mD<|bL "list" cO (fOp ixF (aD 1)<|fOp ixF (aD 3)<|fC (.int 0))<|aC (bY<|aC (fOp ixF (aD 3)<|fC (.int 1))<|aC (aD 2) aG) aG)
 (mD (bL "list" cO (fOp ixF (aD 1) (fOp ixF (aD 3) (fC (.int 1)))) (aC (bY (aC (fOp ixF (aD 3) (fC (.int 0))) (aC (aD 2) aG))) aG))))
def nR:SF:=(aS (bC kR<|hName 1)
 (aS (mP (JX<|aC (aD 0) aG) (iB 2<|bD (hName 2)<|bD (hName 3) iV) gW)
 (bQ (aD 1))))
def jR:FN:=fnF 1 4 nR
abbrev oE:Stmt:=top 24
noncomputable abbrev wF:Tb:=["tree","start","beside","seen","waiting","steps","here","there","at"]
noncomputable abbrev qG:Tb:=["tree","start"]
def sc_steps_from:aR wF qG (aH oE):=by sleep 990
def dI:SF:=(sIf (gB<|qP true (dS<|aD 7)<|aD 3)
 (aS (hG (aD 3) (dS<|aD 7)<|fC (.bool true))
 (aS (mD<|bL "list" cO (aD 4)<|aC (aD 7) aG)
 (mD (bL "list" cO (aD 5) (aC (bY (aC (aD 6) (aC (aD 7) (aC (aD 8) aG)))) aG)))))
  bX)
def sH:SF:=(sS (DO<|aD 4) (aS (bC (bL "list" eY (aD 4) aG)<|hName 6)
 (FS (tG (fOp ixF (aD 2) (aD 6))) (iB 2 (bD (hName 7) (bD (hName 8) iV))) dI)))
def pT:SF:=(aS (bC (aK jR<|aC (aD 0) aG)<|hName 2)
 (aS (bC (qS [((aD 1),(fC (.bool true)))])<|hName 3)
 (aS (bC (lM<|aC (aD 1) aG)<|hName 4)
 (aS (bC (lM aG)<|hName 5)
 (aS sH
 (bQ (aD 5)))))))
def dE:FN:=fnF 2 9 pT
abbrev pR:Stmt:=top 12
noncomputable abbrev yU:Tb:=["row"]
noncomputable abbrev mZ:Tb:=["row"]
def JK:aR yU mZ (aH pR):=by sleep 990
def nZ:EF:=(fLc [Y,Y] (aCd<|aC (aD 0)<|aC (fSl (aD 0) (rV<|fC (.int 1)) iX) aG) (iB 2<|bD (hName 0)<|bD (hName 1) iV) eN<|fOp ltX (aD 0)<|aD 1)
def rA:SF:=(bQ<|aK DU<|aC nZ aG)
def iA:FN:=fnF 1 1 rA
abbrev uQ:Stmt:=top 20
noncomputable abbrev FI:Tb:=["many","tree"]
noncomputable abbrev yA:Tb:=["many","tree"]
def NW:aR FI yA (aH uQ):=by sleep 990
def sA:EF:=(fLc [Z 0,Y] (cQ<|aD 1) (hName 1) eN<|qN (aK aY<|aC (aD 0)<|aC (aD 1) aG)<|aK dP<|aC (fOp ixF (aD 1)<|fC (.int 2)) aG)
def rN:EF:=(fLc [Y] (cQ<|aD 1) (hName 0) eN<|bY<|aC (fOp ixF (aD 0)<|fC (.int 0))<|aC (fOp ixF (aD 0)<|fC (.int 1)) aG)
def hZ:SF:=(aS (sIf (gOr (gB<|fOp gtI (aD 0)<|fC (.int 40))<|iM<|gB<|aK fU<|aC (aD 1)<|aC (fOp LY (aD 0)<|fC (.int 1)) aG)
 (bQ<|fC (.bool false))
 bX)
 (aS (sIf (iM<|gB<|aK DU<|aC sA aG)
  (bQ<|fC (.bool false))
  bX)
 (bQ (qN (aK iA (aC rN aG)) (fOp (eqX false) (aK fQ (aC (aK dE (aC (aD 1) (aC (fC (.int 0)) aG))) aG)) (fOp LY (aD 0) (fC (.int 1))))))))
def dG:FN:=fnF 2 2 hZ
abbrev iS:Stmt:=top 22
noncomputable abbrev oP:Tb:=["tree"]
noncomputable abbrev jK:Tb:=["tree"]
def wY:aR oP jK (aH iS):=by sleep 990
def eG:SFX:=(VP (gOr (iM<|gB<|aK oS<|aC (aD 0) aG)<|iM<|gB<|aK dG<|aC (fOp cS (aK fQ<|aC (aD 0) aG)<|fC (.int 1))<|aC (aD 0) aG)
 (uJ "NoTree")
 (liS bX))
def cB:FX:=fnX 1 1 eG
abbrev sW:Stmt:=top 17
noncomputable abbrev BX:Tb:=["one","other"]
noncomputable abbrev vG:Tb:=["one","other"]
def KG:aR BX vG (aH sW):=by sleep 990
def uT:SF:=(bQ<|fOp ltI (fOp vP (fOp ixF (aD 0)<|fC (.int 0))<|fOp ixF (aD 1)<|fC (.int 1))<|fOp vP (fOp ixF (aD 1)<|fC (.int 0))<|fOp ixF (aD 0)<|fC (.int 1))
def mM:FN:=fnF 2 2 uT
abbrev nX:Stmt:=top 30
noncomputable abbrev wA:Tb:=["tree","start","least","here","there","at","amount"]
noncomputable abbrev pH:Tb:=["tree","start"]
def sc_least_from:aR wA pH (aH nX):=by sleep 990
def iI:SF:=(aS (bC (aK bO<|aC (fOp ixF (fOp ixF (aD 0)<|aD 5)<|fC (.int 2)) aG)<|hName 6)
 (hG (aD 2) (dS (aD 4)) (fIf (gOr (gB (fOp (eqX false) (aD 3) (aD 1))) (gB (aK mM (aC (aD 6) (aC (gI (aD 2) (dS (aD 3))) aG))))) (aD 6) (gI (aD 2) (dS (aD 3))))))
def pA:SF:=(aS (bC xK<|hName 2)
 (aS (mP (cQ<|nF<|aK dE<|aC (aD 0)<|aC (aD 1) aG) (iB 3<|bD (hName 3)<|bD (hName 4)<|bD (hName 5) iV) iI)
 (bQ (aD 2))))
def lK:FN:=fnF 2 7 pA
abbrev lS:Stmt:=top 29
noncomputable abbrev tY:Tb:=["tree","rows","place","least"]
noncomputable abbrev oJ:Tb:=["tree"]
def sc_all_between:aR tY oJ (aH lS):=by sleep 990
def kQ:EF:=(KM [Z 2,Z 3,Y] (lY<|aC (fOp cS (aD 2)<|fC (.int 1))<|aC (fOp cS (aK fQ<|aC (aD 0) aG)<|fC (.int 1)) aG) (hName 2) eN<|bY<|aC (aD 0)<|aC (aD 2)<|aC (gI (aD 1)<|dS<|aD 2) aG)
def gU:SF:=(aS (bC (aK lK<|aC (aD 0)<|aC (aD 2) aG)<|hName 3)
 (mD (bL "list" tI (aD 1) (aC kQ aG))))
def jQ:SFX:=(iY (iR<|kP cB<|liA<|aC (aD 0) aG)
 (liS (aS (bC (lM aG)<|hName 1)
 (aS (mP (dA<|aC (fOp cS (aK fQ<|aC (aD 0) aG)<|fC (.int 1)) aG) (hName 2) gU)
 (bQ (aK bO (aC (aD 1) aG)))))))
def bA:FX:=fnX 1 4 jQ
abbrev mO:Stmt:=top 26
noncomputable abbrev tX:Tb:=["tree","indexes","least","at"]
noncomputable abbrev nT:Tb:=["tree","indexes"]
def sc_first_least:aR tX nT (aH mO):=by sleep 990
def fA:SF:=(sIf (gB<|aK mM<|aC (fOp ixF (fOp ixF (aD 0)<|aD 3)<|fC (.int 2))<|aC (fOp ixF (fOp ixF (aD 0)<|aD 2)<|fC (.int 2)) aG)
 (bC (aD 3)<|hName 2)
 bX)
def nV:SF:=(aS (bC (fOp ixF (aD 1)<|fC (.int 0))<|hName 2)
 (aS (mP (cQ<|aD 1) (hName 3) fA)
 (bQ (aD 2))))
def jT:FN:=fnF 2 4 nV
abbrev eK:Stmt:=top 10
noncomputable abbrev iJ:Tb:=["many","i","j"]
noncomputable abbrev eV:Tb:=["many","i","j"]
def oY:aR iJ eV (aH eK):=by sleep 990
def dC:SFX:=(VP (iM<|gB<|aK bF<|aC (aD 0)<|aC (aD 1)<|aC (aD 2) aG)
 (uJ "NoPlace")
 (liS bX))
def cF:FX:=fnX 3 3 dC
abbrev rO:Stmt:=top 21
noncomputable abbrev BC:Tb:=["tree","i","j","came","way","place","at"]
noncomputable abbrev uY:Tb:=["tree","i","j"]
def sc_tree_way:aR BC uY (aH rO):=by sleep 990
def lN:EF:=(fDc (.dk []) [Y,Y,Y] (cQ<|nF<|aK dE<|aC (aD 0)<|aC (aD 2) aG) (iB 3<|bD (hName 0)<|bD (hName 1)<|bD (hName 2) iV) eN (dS<|aD 1)<|bY<|aC (aD 0)<|aC (aD 2) aG)
def oZ:SF:=(sS (gB<|fOp (eqX true) (aD 5)<|aD 2) (aS (bC (gI (aD 3)<|dS<|aD 5)<|iB 2<|bD (hName 5)<|bD (hName 6) iV)
 (mD (bL "list" cO (aD 4) (aC (aD 6) aG)))))
def pM:SFX:=(iY (iR<|kP cB<|liA<|aC (aD 0) aG)
 (iY (iR<|kP cF<|liA<|aC (fOp cS (aK fQ<|aC (aD 0) aG)<|fC (.int 1))<|aC (aD 1)<|aC (aD 2) aG)
 (liS (aS (bC lN<|hName 3)
 (aS (bC (lM aG)<|hName 4)
 (aS (bC (aD 1)<|hName 5)
 (aS oZ
 (bQ (aK bO (aC (aD 4) aG))))))))))
def jP:FX:=fnX 3 7 pM
abbrev mC:Stmt:=top 23
noncomputable abbrev tU:Tb:=["tree","k","behind","here","there","at"]
noncomputable abbrev oK:Tb:=["tree","k"]
def sc_side_behind:aR tU oK (aH mC):=by sleep 990
def dO:SF:=(sIf (gOr (gB<|fOp (eqX false) (aD 5)<|aD 1)<|gB<|qP false (dS<|aD 3)<|aD 2)
 (hG (aD 2) (dS<|aD 4)<|fC (.bool true))
 bX)
def oA:SF:=(aS (bC xK<|hName 2)
 (aS (mP (cQ<|nF<|aK dE<|aC (aD 0)<|aC (fC (.int 0)) aG) (iB 3<|bD (hName 3)<|bD (hName 4)<|bD (hName 5) iV) dO)
 (bQ (aK bO (aC (aK tM (aC (aD 2) aG)) aG)))))
def jU:FN:=fnF 2 6 oA
abbrev jF:Stmt:=top 28
noncomputable abbrev qK:Tb:=["tree","i","j","k"]
noncomputable abbrev kS:Tb:=["tree","i","j"]
def sc_least_between:aR qK kS (aH jF):=by sleep 990
def gV:SFX:=(iY (yZ (xCB jT<|wI (liE<|aD 0)<|wI (kP jP<|liA<|aC (aD 0)<|aC (aD 1)<|aC (aD 2) aG)<|liA aG)<|hName 3)
 (liS (bQ (bY (aC (aK bO (aC (fOp ixF (fOp ixF (aD 0) (aD 3)) (fC (.int 2))) aG)) (aC (aK jU (aC (aD 0) (aC (aD 3) aG))) aG))))))
def aU:FX:=fnX 3 4 gV
abbrev mI:Stmt:=top 34
noncomputable abbrev uD:Tb:=["_law_draw","_law_some"]
noncomputable abbrev nS:Tb:=["_law_draw"]
def sc__law_amount:aR uD nS (aH mI):=by sleep 990
def kT:EF:=(iQ<|aC (bY<|aC (fC (.int 0))<|aC (fC (.int 1)) aG)<|aC (bY<|aC (fC (.int 1))<|aC (fC (.int 1)) aG)<|aC (bY<|aC (fC (.int 1))<|aC (fC (.int 1)) aG)<|aC (bY<|aC (fC (.int 2))<|aC (fC (.int 1)) aG)<|aC (bY<|aC (fC (.int 1))<|aC (fC (.int 2)) aG)<|aC (bY<|aC (fC (.int 3))<|aC (fC (.int 4)) aG)<|aC (bY<|aC (fOp KP (fC (.int 10))<|fC (.int 30))<|aC (fC (.int 7)) aG)<|aC (bY<|aC (fC (.int 5))<|aC (fOp cS (fOp KP (fC (.int 10))<|fC (.int 20))<|fC (.int 39)) aG) aG)
def xO(γ:Ga)(M:Sto):kT γ M=Z (.d (.list [(.tuple [(.int 0),(.int 1)]),(.tuple [(.int 1),(.int 1)]),(.tuple [(.int 1),(.int 1)]),(.tuple [(.int 2),(.int 1)]),(.tuple [(.int 1),(.int 2)]),(.tuple [(.int 3),(.int 4)]),(.tuple [(.int 1000000000000000000000000000000),(.int 7)]),(.tuple [(.int 5),(.int 100000000000000000039)])]),M):=rfl
def nP:SF:=(aS (bC kT<|hName 1)
 (bQ (fOp ixF (aD 1) (fOp fG (aD 0) (fC (.int 8))))))
def jY:FN:=fnF 1 2 nP
abbrev nY:Stmt:=top 35
noncomputable abbrev wH:Tb:=["_law_deck_here","_law_many","_law_rows","_law_k","_law_draw"]
noncomputable abbrev pU:Tb:=["_law_deck_here","_law_many"]
def sc__law_drawn:aR wH pU (aH nY):=by sleep 990
def iO:SF:=(aS (bC (bL "list" eY (aD 0) aG)<|hName 4)
 (mD (bL "list" cO (aD 2) (aC (bY (aC (fOp fG (aD 4) (aD 3)) (aC (aD 3) (aC (aK jY (aC (fOp qH (aD 4) (fC (.int 64))) aG)) aG)))) aG))))
def qD:SF:=(aS (bC (lM aG)<|hName 2)
 (aS (mP (lY<|aC (fC (.int 1))<|aC (aD 1) aG) (hName 3) iO)
 (bQ (aK bO (aC (aK xU (aC (aD 2) aG)) aG)))))
def eQ:FN:=fnF 2 5 qD
abbrev oF:Stmt:=top 33
noncomputable abbrev pE:Tb:=["_law_thing"]
noncomputable abbrev lJ:Tb:=["_law_thing"]
def tZ:aR pE lJ (aH oF):=by sleep 990
def lZ(self:FN):EF:=(fLc [Y] (cQ<|aD 0) (hName 0) eN<|aK self<|aC (aD 0) aG)
def lO(self:FN):SF:=(aS (sIf (iM<|gB<|EC "tuple"<|aD 0)
 (bQ<|aD 0)
 bX)
 (bQ (lZ self)))
def bB:Nat->FN
 |0=>fun _ _=>Y
 |n+1=>fnF 1 1<|lO<|bB n
abbrev pZ:Stmt:=top 36
noncomputable abbrev zF:Tb:=["_law_tree","_law_first","_law_found","_law_turn","_law_k","_law_i","_law_j"]
noncomputable abbrev rE:Tb:=["_law_tree","_law_first"]
def sc__law_ways:aR zF rE (aH pZ):=by sleep 990
def dY:SF:=(aS (bC (fSl (fOp ixF (aD 0)<|aD 4) iX<|rV<|fC (.int 2))<|iB 2<|bD (hName 5)<|bD (hName 6) iV)
 (sIf (DT (gB<|qP false (dS<|aD 5)<|aD 2)<|gB<|qP true (dS<|aD 6)<|aD 2)
  (hG (aD 2) (dS<|aD 6)<|fOp cS (gI (aD 2)<|dS<|aD 5)<|bY<|aC (aD 4) aG)
  (sIf (DT (gB<|qP false (dS<|aD 6)<|aD 2)<|gB<|qP true (dS<|aD 5)<|aD 2)
  (hG (aD 2) (dS<|aD 5)<|fOp cS (gI (aD 2)<|dS<|aD 6)<|bY<|aC (aD 4) aG)
  bX)))
def jV:SF:=(mP (dA<|aC (aK fQ<|aC (aD 0) aG) aG) (hName 4) dY)
def sM:SF:=(aS (bC (qS [((aD 1),(bY aG))])<|hName 2)
 (aS (mP (dA<|aC (aK fQ<|aC (aD 0) aG) aG) (hName 3) jV)
 (bQ (aD 2))))
def fT:FN:=fnF 2 7 sM
abbrev rP:Stmt:=top 37
noncomputable abbrev AO:Tb:=["_law_tree","_law_many","_law_i","_law_j","_law_way","_law_best","_law_k","_law_ways_here"]
noncomputable abbrev uO:Tb:=["_law_tree","_law_many","_law_i","_law_j"]
def sc__law_due:aR AO uO (aH rP):=by sleep 990
def iL:SF:=(sIf (gB<|fOp ltI (fOp vP (fOp ixF (fOp ixF (fOp ixF (aD 0)<|aD 6)<|fC (.int 2))<|fC (.int 0))<|fOp ixF (fOp ixF (fOp ixF (aD 0)<|aD 5)<|fC (.int 2))<|fC (.int 1))<|fOp vP (fOp ixF (fOp ixF (fOp ixF (aD 0)<|aD 5)<|fC (.int 2))<|fC (.int 0))<|fOp ixF (fOp ixF (fOp ixF (aD 0)<|aD 6)<|fC (.int 2))<|fC (.int 1))
 (bC (aD 6)<|hName 5)
 bX)
def lH:EF:=(fLc [Z 5,Z 7,Y] (dA<|aC (aD 1) aG) (hName 2) (gB<|fOp (inD false) (aD 0)<|gI (aD 1)<|dS<|aD 2)<|aD 2)
def vE:SF:=(aS (bC (gI (aK fT<|aC (aD 0)<|aC (aD 2) aG)<|dS<|aD 3)<|hName 4)
 (aS (bC (fOp ixF (aD 4)<|fC (.int 0))<|hName 5)
 (aS (mP (cQ<|aD 4) (hName 6) iL)
 (aS (bC (aK fT<|aC (aD 0)<|aC (fC (.int 0)) aG)<|hName 7)
 (bQ (bY (aC (fOp ixF (fOp ixF (aD 0) (aD 5)) (fC (.int 2))) (aC (aK bO (aC lH aG)) aG))))))))
def dJ:FN:=fnF 4 8 vE
abbrev kX:Stmt:=top 38
noncomputable abbrev rL:Tb:=["_law_tree","_law_i","_law_j","error"]
noncomputable abbrev mU:Tb:=["_law_tree","_law_i","_law_j"]
def sc__law_refused:aR rL mU (aH kX):=by sleep 990
def jC:SF:=(bQ<|fC (.int 2))
def jM:SF:=(bQ<|fOp cS (fC (.int 1))<|fOp vP (fC (.int 2))<|aK UY<|aC (NF gY (Z false)<|aD 3) aG)
def gF:SFX:=(iR<|kP aU<|liA<|aC (aD 0)<|aC (aD 1)<|aC (aD 2) aG)
def lU:SF:=(aS (HN gF [⟨[("NoPlace",false),("NoTree",true)],(Z 3),jM⟩,⟨[("NoPlace",true),("NoTree",false)],Y,jC⟩])
 (bQ (fC (.int 0))))
def bJ:FN:=fnF 3 4 lU
abbrev oI:Stmt:=top 40
noncomputable abbrev vY:Tb:=["_law_tree","_law_many","_law_draw","_law_lists_here","_law_i","_law_j","_law_due_here"]
noncomputable abbrev pS:Tb:=["_law_tree","_law_many","_law_draw"]
def sc__law_right:aR vY pS (aH oI):=by sleep 990
def dH:SF:=(sIf (gB<|fOp (eqX true) (aD 4)<|aD 5)
 (aS (bC (aK dJ<|aC (aD 0)<|aC (aD 1)<|aC (aD 4)<|aC (aD 5) aG)<|hName 6)
 (sIf (gOr (gB<|fOp (eqX true) (fX aU<|aC (aD 0)<|aC (aD 4)<|aC (aD 5) aG)<|aD 6)<|gB<|fOp (eqX true) (fX aU<|aC (aD 3)<|aC (aD 4)<|aC (aD 5) aG)<|aD 6)
  (bQ<|fC (.bool false))
  bX))
  (sIf (gB<|fOp (eqX true) (aK bJ<|aC (aD 0)<|aC (aD 4)<|aC (aD 5) aG)<|fC (.int 2))
  (bQ<|fC (.bool false))
  bX))
def pG:SF:=(aS (bC (aK (bB 6)<|aC (aD 0) aG)<|hName 3)
 (aS (mP (cQ<|iQ<|aC (bY<|aC (fOp fG (aD 2)<|aD 1)<|aC (fOp fG (fOp qH (aD 2)<|fC (.int 64))<|aD 1) aG)<|aC (bY<|aC (fOp fG (fOp qH (aD 2)<|fC (.int 64))<|aD 1)<|aC (fOp fG (aD 2)<|aD 1) aG)<|aC (bY<|aC (fC (.int 0))<|aC (fOp LY (aD 1)<|fC (.int 1)) aG) aG) (iB 2<|bD (hName 4)<|bD (hName 5) iV) dH)
 (bQ (fOp (eqX false) (aD 3) (aK (bB 6) (aC (aD 0) aG))))))
def gG:FN:=fnF 3 7 pG
abbrev gZ:Stmt:=top 41
noncomputable abbrev nL:Tb:=["_law_tree","_law_draws","_law_found","_law_pairs","_law_i","_law_draw","_law_j","_law_amount_here"]
noncomputable abbrev iD:Tb:=["_law_tree","_law_draws"]
def sc__law_long_right:aR nL iD (aH gZ):=by sleep 990
def lD:EF:=(fLc [Z 4,Y] (lY<|aC (fOp cS (aD 4)<|fC (.int 1))<|aC (fC (.int 40)) aG) (hName 1) eN<|bY<|aC (aD 0)<|aC (aD 1) aG)
def eB:SF:=(bC (fOp cS (aD 3) lD)<|hName 3)
def eD:EF:=(fLc [Y] (cQ<|aD 2) (hName 0) eN<|fSl (aD 0) iX<|rV<|fC (.int 2))
def cY:SF:=(aS (bC (fOp ixF (aD 2)<|fOp fG (aD 5)<|fC (.int 780))<|iB 3<|bD (hName 4)<|bD (hName 6)<|bD (hName 7) iV)
 (sIf (gB<|fOp (eqX true) (aD 7)<|fOp ixF (aK dJ<|aC (aD 0)<|aC (fC (.int 40))<|aC (aD 4)<|aC (aD 6) aG)<|fC (.int 0))
  (bQ<|fC (.bool false))
  bX))
def iF:SF:=(aS (bC (fX bA<|aC (aD 0) aG)<|hName 2)
 (aS (bC (iQ aG)<|hName 3)
 (aS (mP (dA<|aC (fC (.int 40)) aG) (hName 4) eB)
 (aS (sIf (gOr (iM<|gB<|EC "tuple"<|aD 2)<|gB<|fOp (eqX true) eD<|aD 3)
  (bQ<|fC (.bool false))
  bX)
 (aS (mP (cQ<|aD 1) (hName 5) cY)
 (bQ (fC (.bool true))))))))
def dR:FN:=fnF 2 8 iF
abbrev DR:Stmt:=top 20
noncomputable abbrev wM:Tb:=["many","tree"]
noncomputable abbrev pL:Tb:=["many","tree"]
def DS:aR wM pL (aH DR):=by sleep 990
def sT:EF:=(fLc [Z 0,Y] (cQ<|aD 1) (hName 1) eN<|qN (aK aY<|aC (aD 0)<|aC (aD 1) aG)<|aK dP<|aC (fOp ixF (aD 1)<|fC (.int 2)) aG)
def qY:EF:=(fLc [Y] (cQ<|aD 1) (hName 0) eN<|bY<|aC (fOp ixF (aD 0)<|fC (.int 0))<|aC (fOp ixF (aD 0)<|fC (.int 1)) aG)
def iH:SF:=(aS (sIf (gOr (gB<|fOp gtI (aD 0)<|fC (.int 40))<|iM<|gB<|aK fU<|aC (aD 1)<|aC (fOp LY (aD 0)<|fC (.int 1)) aG)
 (bQ<|fC (.bool false))
 bX)
 (aS (sIf (iM<|gB<|aK DU<|aC sT aG)
  (bQ<|fC (.bool false))
  bX)
 (bQ (qN (aK iA (aC qY aG)) aAB))))
def eX:FN:=fnF 2 2 iH
abbrev sX:Stmt:=top 22
noncomputable abbrev lC:Tb:=["tree"]
noncomputable abbrev gM:Tb:=["tree"]
def qR:aR lC gM (aH sX):=by sleep 990
def eC:SFX:=(VP (gOr (iM<|gB<|aK oS<|aC (aD 0) aG)<|iM<|gB<|aK eX<|aC (fOp cS (aK fQ<|aC (aD 0) aG)<|fC (.int 1))<|aC (aD 0) aG)
 (uJ "NoTree")
 (liS bX))
def cH:FX:=fnX 1 1 eC
abbrev DE:Stmt:=top 21
noncomputable abbrev uE:Tb:=["tree","i","j","came","way","place","at"]
noncomputable abbrev nU:Tb:=["tree","i","j"]
def DG:aR uE nU (aH DE):=by sleep 990
def nO:SFX:=(iY (iR<|kP cH<|liA<|aC (aD 0) aG)
 (liS (aS rQ (aS rQ (aS rQ (aS rQ (aS rQ rQ)))))))
def nQ:FX:=fnX 3 7 nO
abbrev tP:Stmt:=top 28
noncomputable abbrev mG:Tb:=["tree","i","j","k"]
noncomputable abbrev gX:Tb:=["tree","i","j"]
def sc_least_between__h:aR mG gX (aH tP):=by sleep 990
def hW:SFX:=(iY (yZ (xCB (fun _ _=>Y)<|wI (liE<|aD 0)<|wI (kP nQ<|liA<|aC (aD 0)<|aC (aD 1)<|aC (aD 2) aG)<|liA aG)<|hName 3)
 (liS rQ))
def eW:FX:=fnX 3 4 hW
abbrev uU:Stmt:=top 38
noncomputable abbrev nM:Tb:=["_law_tree","_law_i","_law_j","error"]
noncomputable abbrev iE:Tb:=["_law_tree","_law_i","_law_j"]
def sc__law_refused__h:aR nM iE (aH uU):=by sleep 990
def tN:SF:=(bQ<|fC (.int 2))
def tQ:SF:=(bQ<|fOp cS (fC (.int 1))<|fOp vP (fC (.int 2))<|aK UY<|aC (NF gY (Z false)<|aD 3) aG)
def eF:SFX:=(iR<|kP eW<|liA<|aC (aD 0)<|aC (aD 1)<|aC (aD 2) aG)
def iW:SF:=(aS (HN eF [⟨[("NoPlace",false),("NoTree",true)],(Z 3),tQ⟩,⟨[("NoPlace",true),("NoTree",false)],Y,tN⟩])
 (bQ (fC (.int 0))))
def fL:FN:=fnF 3 4 iW
abbrev lA:Stmt:=top 39
noncomputable abbrev sR:Tb:=["_law_tree"]
noncomputable abbrev mH:Tb:=["_law_tree"]
def zN:aR sR mH (aH lA):=by sleep 990
def jJ:SFX:=(iR<|kP bA<|liA<|aC (aD 0) aG)
def oR:SF:=(bQ<|qN (fOp (eqX false) (aK fL<|aC (aD 0)<|aC (fC (.int 0))<|aC (fC (.int 1)) aG)<|fC (.int 1))<|fOp (eqX false) (aK fL<|aC (aD 0)<|aC (fC .none)<|aC (fC .none) aG)<|fC (.int 1))
def mT:SF:=(aS (QR jJ [("NoPlace",false),("NoTree",true)] oR)
 (bQ (fC (.bool false))))
def cE:FN:=fnF 1 1 mT
abbrev NS:Stmt:=top 42
noncomputable abbrev aGB:Tb:=["_law_script","_law_deck_here","_law_alone","_law_k","_law_many","_law_tree","_law_rows","_law_i","_law_odd","_law_none"]
noncomputable abbrev aFN:Tb:=["_law_script"]
def sc_law:aR aGB aFN (aH NS):=by sleep 990
def GX:EF:=(iQ<|aC (bY<|aC (fC (.int 0))<|aC (fC (.int 1))<|aC (bY<|aC (fC (.int 1))<|aC (fC (.int 2)) aG) aG) aG)
def aBx(γ:Ga)(M:Sto):GX γ M=Z (.d (.list [(.tuple [(.int 0),(.int 1),(.tuple [(.int 1),(.int 2)])])]),M):=rfl
def HI:EF:=(bY<|aC (bY<|aC (fC (.int 1))<|aC (fC (.int 2)) aG)<|aC (bY<|aC (fC (.int 1)) aG) aG)
def ZO(γ:Ga)(M:Sto):HI γ M=Z (.d (.tuple [(.tuple [(.int 1),(.int 2)]),(.tuple [(.int 1)])]),M):=rfl
def UI:EF:=(fLc [Z 7,Z 5,Z 4,Y] (lY<|aC (fOp cS (aD 7)<|fC (.int 1))<|aC (aD 4) aG) (hName 3) eN<|bY<|aC (aD 0)<|aC (aD 3)<|aC (fOp ixF (aK dJ<|aC (aD 1)<|aC (aD 2)<|aC (aD 0)<|aC (aD 3) aG)<|fC (.int 0)) aG)
def wN:SF:=(bC (fOp cS (aD 6) UI)<|hName 6)
def IF:EF:=(bY<|aC (fC (.int 0)) aG)
def HX:EF:=(bY<|aC (fC (.int 0)) aG)
def YC(γ:Ga)(M:Sto):HX γ M=Z (.d (.tuple [(.int 0)]),M):=rfl
def JE:EF:=(bY<|aC (bY<|aC (fC (.int 0))<|aC (fC (.int 1))<|aC (bY<|aC (fC (.int 2))<|aC (fC (.int 2)) aG) aG) aG)
def aBD(γ:Ga)(M:Sto):JE γ M=Z (.d (.tuple [(.tuple [(.int 0),(.int 1),(.tuple [(.int 2),(.int 2)])])]),M):=rfl
def IG:EF:=(bY<|aC (bY<|aC (fC (.int 0))<|aC (fC (.int 2))<|aC (bY<|aC (fC (.int 1))<|aC (fC (.int 1)) aG) aG) aG)
def YA(γ:Ga)(M:Sto):IG γ M=Z (.d (.tuple [(.tuple [(.int 0),(.int 2),(.tuple [(.int 1),(.int 1)])])]),M):=rfl
def wK:EF:=(bY<|aC (bY<|aC (fC (.int 0))<|aC (fC (.int 1))<|aC (bY<|aC (fC (.int 1))<|aC (fC (.int 1)) aG) aG) aG)
def AA:SF:=(aS (bC (fOp ixF (iQ<|aC (fC (.int 1))<|aC (fOp cS (fC (.int 2))<|fOp fG (bL "list" eY (aD 1) aG)<|fC (.int 8))<|aC (fC (.int 40)) aG)<|aD 3)<|hName 4)
 (aS (bC (aK eQ<|aC (aD 1)<|aC (aD 4) aG)<|hName 5)
 (aS (sIf (DT (gB<|fOp gtI (aD 4)<|fC (.int 1))<|iM<|gB<|aK gG<|aC (aD 5)<|aC (aD 4)<|aC (bL "list" eY (aD 1) aG) aG)
  (bQ<|fC (.bool false))
  bX)
 (aS (sIf (DT (gB<|fOp gtI (aD 4)<|fC (.int 1))<|iM<|gB<|aK gG<|aC (aD 5)<|aC (aD 4)<|aC (bL "list" eY (aD 1) aG) aG)
  (bQ<|fC (.bool false))
  bX)
 (aS (bC (bY aG)<|hName 6)
 (aS (sIf (gB<|fOp ltI (aD 4)<|fC (.int 10))
  (aS (bC (iQ aG)<|hName 6)
 (aS (mP (dA<|aC (aD 4) aG) (hName 7) wN)
 (sIf (gOr (gB<|fOp (eqX true) (fX bA<|aC (aD 5) aG)<|aK bO<|aC (aD 6) aG)<|gB<|fOp (eqX true) (fX bA<|aC (aK (bB 6)<|aC (aD 5) aG) aG)<|aK bO<|aC (aD 6) aG)
  (bQ<|fC (.bool false))
  bX)))
  bX)
 (aS (sIf (DT (gB<|fOp (eqX false) (aD 4)<|fC (.int 40))<|iM<|gB<|aK dR<|aC (aD 5)<|aC (iQ<|aC (bL "list" eY (aD 1) aG)<|aC (bL "list" eY (aD 1) aG)<|aC (bL "list" eY (aD 1) aG) aG) aG)
  (bQ<|fC (.bool false))
  bX)
 (aS (bC (fOp ixF (iQ<|aC (fC (.bool true))<|aC (fC .none)<|aC (fC (.str "0"))<|aC (fUn XJ<|fC (.int 1))<|aC (aD 4)<|aC (fOp KP (fC (.int 10))<|fC (.int 30))<|aC IF aG)<|fOp fG (bL "list" eY (aD 1) aG)<|fC (.int 7))<|hName 8)
 (aS (sIf (gOr (gB<|fOp (eqX true) (aK bJ<|aC (aD 5)<|aC (aD 8)<|aC (fC (.int 0)) aG)<|fC (.int 2))<|gB<|fOp (eqX true) (aK bJ<|aC (aD 5)<|aC (fC (.int 0))<|aC (aD 4) aG)<|fC (.int 2))
  (bQ<|fC (.bool false))
  bX)
 (aS (bC (iQ<|aC (fC .none)<|aC (fC (.int 0))<|aC (fC (.str ""))<|aC BZ<|aC (fOp cS (fOp JV wK<|fC (.int 2))<|aD 5)<|aC IG<|aC JE<|aC HX<|aC (fC (.bool true)) aG)<|hName 9)
 (sIf (gOr (iM<|gB<|aK cE<|aC (fOp ixF (aD 9)<|fOp fG (bL "list" eY (aD 1) aG)<|fC (.int 9)) aG)<|iM<|gB<|aK cE<|aC (fOp ixF (aD 9)<|fOp fG (bL "list" eY (aD 1) aG)<|fC (.int 3)) aG)
  (bQ<|fC (.bool false))
  bX)))))))))))
def IM:EF:=(bY<|aC (fC (.int 1))<|aC (fC (.int 1)) aG)
def HB:EF:=(fLc [Y] (dA<|aC (fC (.int 40)) aG) (hName 0) eN<|bY<|aC (aD 0)<|aC (fOp cS (aD 0)<|fC (.int 1))<|aC IM aG)
def aCp:SF:=(aS (bC (aK nB<|aC (aD 0)<|aC (fC (.int 90)) aG)<|hName 1)
 (aS (bC GX<|hName 2)
 (aS (sIf (gOr (gB<|fOp (eqX true) (fX aU<|aC (aK xA<|aC (aD 2) aG)<|aC (fC (.int 0))<|aC (fC (.int 1)) aG) HI)<|gB<|fOp (eqX true) (fX bA<|aC (aK xA<|aC (aD 2) aG) aG)<|aK bO<|aC (aD 2) aG)
  (bQ<|fC (.bool false))
  bX)
 (aS (mP (dA<|aC (fC (.int 3)) aG) (hName 3) AA)
 (bQ (aK cE (aC (aK bO (aC HB aG)) aG)))))))
def F_law:FN:=fnF 1 10 aCp
structure Txt(K:Fg)(mg:Str->Tf):Prop where
 hB:VG mg ["all","bool","enumerate","int","isinstance","len","list","range","sorted","tuple","zip"]
 v77:∃t:Tok,mg "MOST_PLACES"=Z (.int 40 t)
 v73:mg "NoPlace"=Z (.ref (bZ K "NoPlace"))
 v13:W.excIn K (bZ K "NoPlace") bmV "ValueError.__new__"=true
 v74:mg "NoTree"=Z (.ref (bZ K "NoTree"))
 v15:W.excIn K (bZ K "NoTree") bmV "ValueError.__new__"=true
 v16:W.exmOne K (.ref (bZ K "NoTree")) (.ref (bZ K "NoPlace"))=Z false
 v17:W.exmOne K (.ref (bZ K "NoPlace")) (.ref (bZ K "NoPlace"))=Z true
 v18:W.exmOne K (.ref (bZ K "NoTree")) (.ref (bZ K "NoTree"))=Z true
 v19:W.exmOne K (.ref (bZ K "NoPlace")) (.ref (bZ K "NoTree"))=Z false
 v75:XC K (bZ K "NoPlace")
 v76:XC K (bZ K "NoTree")
 v36:ZL K (.ref (bZ K "NoPlace")) gY=true
 v37:W.kitOne K (.type "NoneType") (.ref (bZ K "NoPlace"))=Z false
 v38:W.keepIn K (.ref (bZ K "NoTree"))=true
 v39:DN (.ref (bZ K "NoTree"))=false
 v40:Def K mg "_law_deck" pW
 v41:Def K mg "is_row" yD
 v42:Def K mg "is_row_of" qA
 v43:Def K mg "common" xG
 v44:Def K mg "is_whole" rZ
 v45:Def K mg "has_amount_numbers" fI
 v46:Def K mg "is_amount" qC
 v47:Def K mg "is_place" rM
 v48:Def K mg "are_unlike_places" fY
 v49:Def K mg "is_between_places" fZ
 v50:Def K mg "rows_beside" mB
 v51:Def K mg "steps_from" oE
 v52:Def K mg "is_rising" pR
 v53:Def K mg "is_tree" uQ
 v54:Def K mg "refuse_no_tree" iS
 v55:Def K mg "is_below" sW
 v56:Def K mg "least_from" nX
 v57:Def K mg "all_between" lS
 v58:Def K mg "first_least" mO
 v59:Def K mg "refuse_no_two_places" eK
 v60:Def K mg "tree_way" rO
 v61:Def K mg "side_behind" mC
 v62:Def K mg "least_between" jF
 v63:Def K mg "_law_amount" mI
 v64:Def K mg "_law_drawn" nY
 v65:Def K mg "_law_lists" oF
 v66:Def K mg "_law_ways" pZ
 v67:Def K mg "_law_due" rP
 v68:Def K mg "_law_refused" kX
 v69:Def K mg "_law_right" oI
 v70:Def K mg "_law_long_right" gZ
 v71:Def K mg "_law_no_tree" lA
 v72:Def K mg "law" NS
section
variable{P:Ud}{w:World}{K:Fg}{mg:Str->Tf}{base:Heap}
def RT(T:Txt K mg):∀nm∈(["NoPlace","NoTree"]:Tb),XC K (bZ K nm):=(JZ T.v75<|JZ T.v76 aDH)
def GV(T:Txt K mg):Callee P w K mg base 1 "_law_deck" sE (spM K nB):=
 T.v40.okG (N:=zE) (ps:=sE) (k:=0) (b:=nJ) sc__law_deck (by sleep 992) fun f cdv A outer s H E a=>
  (aJ (bH 2 (fun _=>sc__law_deck.nd)<|cW (aEd fun _=>rfl) (by sleep 988) boot_list<|aA (aB 0) aE)
   (aJ (dZ (cV (aLz (fun _=>rfl) fun _=>a.units) (aB 2)<|lP aE)
    (aL<|bH 2 (fun _=>sc__law_deck.nd)<|rY<|aA aF aE)
    cN)
   (aJ (bH 3 (fun _=>sc__law_deck.nd)<|bE iP (aX bM (aB 2) aF) aF)
   (aJ (AS (bE CK (aX bM (aB 2) aF) aF)<|aAH aFO (aB 2) aF)
   (aJ (bH 4 (fun _=>sc__law_deck.nd)<|rY aE)
   (aJ (hX (fun _=>E6) (fun _=>rfl) (jZ (by sleep 988)<|aA (aB 1) aE) (aV 5 fun _=>sc__law_deck.nd)
    (aJ (bH 6 (fun _=>sc__law_deck.nd)<|bE iP (aB 5)<|cU qI (by sleep 988) A0p<|aA (aB 2) aE)
   (aJ (bH 7 (fun _=>sc__law_deck.nd)<|bE iP (aX bM (aB 2)<|aB 6) aF)
   (aJ (dZ (cV (DH (fun _=>rfl) fun _=>a.units) (aB 3) aF)
    (aJ (bH 7 (fun _=>sc__law_deck.nd)<|bE iP (bE gL (bE gL (aX bM (aB 2)<|aB 6)<|bE sI (bE sI (aB 5)<|aB 5) aF)<|bE sI aF<|aB 5) aF)
   (aJ (bH 7 (fun _=>sc__law_deck.nd)<|bE iP (bE gL (bE sI (aB 7)<|aX bM (lP<|aA aF<|aA aF<|aA aF<|aA aF aE)<|bE iP (aB 5) aF) aF) aF)
   (aL (bH 7 (fun _=>sc__law_deck.nd) (bE iP (bE sI (aB 7) (aB 7)) aF)))))
    (aL (AS (bE CK (aX bM (aB 2) (aB 6)) aF) (aAH aFO (aB 2) (aB 6)))))
   (aL (lI (jB (fun _=>rfl) (aB 4) (aA (aB 7) aE))))))))
   (aJ (lI<|NX (fun _=>rfl)<|aB 4)
   (aL (aT (aB 4))))))))))
def FV(T:Txt K mg):Callee P w K mg base 1 "is_row" qV (spM K oS):=
 T.v41.okG (N:=AQ) (ps:=qV) (k:=0) (b:=BP) GH (by sleep 991) fun f cdv A outer s H E a=>
  (aL<|aT<|TZ (T:="list") (U:="tuple") (fun _=>rfl) (by decide) (by decide) (aB 0) (fun _=>cJ) (by sleep 988) (by sleep 988) (by sleep 988) boot_list U6)
def CW(T:Txt K mg):Callee P w K mg base 1 "is_row" qV (spM K oS) false:=
 T.v41.okG (q:=false) (N:=AQ) (ps:=qV) (k:=0) (b:=BP) GH (by sleep 991) fun f cdv A outer s H E a=>
  (aL<|aT<|TZ (T:="list") (U:="tuple") (fun _=>rfl) (by decide) (by decide) (aB 0) (fun _=>cJ) (by sleep 988) (by sleep 988) (by sleep 988) boot_list U6)
def pJ(T:Txt K mg):Callee P w K mg base 2 "is_row_of" kL (spM K fU):=
 T.v42.okG (N:=sF) (ps:=kL) (k:=1) (b:=rT) vK (by sleep 992) fun f cdv A outer s H E a=>
  (aL<|aT<|dN (aP (fun _=>FV T) a.le<|aA (aB 0) aE)<|fK<|gA (DH (fun _=>rfl) fun _=>a.units) (cU qI (by sleep 988) A0p<|aA (aB 0) aE)<|aB 1)
def oH(T:Txt K mg):Callee P w K mg base 2 "is_row_of" kL (spM K fU) false:=
 T.v42.okG (q:=false) (N:=sF) (ps:=kL) (k:=1) (b:=rT) vK (by sleep 992) fun f cdv A outer s H E a=>
  (aL<|aT<|dN (aP (fun _=>CW T) a.le<|aA (aB 0) aE)<|fK<|gA (DH (fun _=>rfl) fun _=>a.units) (cU qI (by sleep 988) A0p<|aA (aB 0) aE)<|aB 1)
def NO(T:Txt K mg):eR P w K mg base CX0 1 "common" AY (spM K CI):=
 T.v43.okW (N:=NI) (ps:=AY) (k:=0) (b:=LZ) sc_common (by sleep 992) fun f cdv A outer s H E c a=>
  (aJ (BO (fun _=>E6) (ZZ (fun _=>rfl)<|aB 1)<|aL<|aDN (q:=false) 0 1 (fun _=>a) (fun _=>sc_common.nd)<|aA (aB 1)<|aA (bE iP (aB 0)<|aB 1) aE)
   (aL (aT (aB 0))))
def sV(T:Txt K mg):Callee P w K mg base 1 "is_whole" mE (spM K jH):=
 T.v44.okG (N:=uF) (ps:=mE) (k:=0) (b:=vA) yX (by sleep 991) fun f cdv A outer s H E a=>
  (aL<|aT<|dN (xM (T:="int") (fun _=>rfl) (by decide) (aB 0) (fun _=>cJ) (by sleep 988) (by sleep 988) boot_int)<|fK<|aBs<|xM (T:="bool") (fun _=>rfl) (by decide) (aB 0) (fun _=>cJ) (by sleep 988) (by sleep 988) boot_bool)
def pQ(T:Txt K mg):Callee P w K mg base 1 "is_whole" mE (spM K jH) false:=
 T.v44.okG (q:=false) (N:=uF) (ps:=mE) (k:=0) (b:=vA) yX (by sleep 991) fun f cdv A outer s H E a=>
  (aL<|aT<|dN (xM (T:="int") (fun _=>rfl) (by decide) (aB 0) (fun _=>cJ) (by sleep 988) (by sleep 988) boot_int)<|fK<|aBs<|xM (T:="bool") (fun _=>rfl) (by decide) (aB 0) (fun _=>cJ) (by sleep 988) (by sleep 988) boot_bool)
def ok_has_amount_numbers(T:Txt K mg):Callee P w K mg base 3 "has_amount_numbers" cR (spM K bP):=
 T.v45.okG (N:=fS) (ps:=cR) (k:=2) (b:=cA) iZ (by sleep 991) fun f cdv A outer s H E a=>
  (aJ (dZ (pX<|lF (dM<|dB<|aP (fun _=>pJ T) a.le<|aA (aB 0)<|aA aF aE)<|lF (dM<|dB<|aP (fun _=>sV T) a.le<|aA (aX bM (aB 0) aF) aE)<|iN<|dM<|dB<|aP (fun _=>sV T) a.le<|aA (aX bM (aB 0) aF) aE)
   (aL<|aT fN)
   cN)
   (aL (aT (dN (gA aFg (aX bM (aB 0) aF) aF) (fK (gA aFg (aX bM (aB 0) aF) aF))))))
def pB(T:Txt K mg):Callee P w K mg base 3 "has_amount_numbers" cR (spM K bP) false:=
 T.v45.okG (q:=false) (N:=fS) (ps:=cR) (k:=2) (b:=cA) iZ (by sleep 991) fun f cdv A outer s H E a=>
  (aJ (dZ (pX<|lF (dM<|dB<|aP (fun _=>oH T) a.le<|aA (aB 0)<|aA aF aE)<|lF (dM<|dB<|aP (fun _=>pQ T) a.le<|aA (aX bM (aB 0) aF) aE)<|iN<|dM<|dB<|aP (fun _=>pQ T) a.le<|aA (aX bM (aB 0) aF) aE)
   (aL<|aT fN)
   cN)
   (aL (aT (dN (gA aFg (aX bM (aB 0) aF) aF) (fK (gA aFg (aX bM (aB 0) aF) aF))))))
def uA(T:Txt K mg):eR P w K mg base CX0 4 "is_amount" mW (spM K dP):=
 T.v46.okW (N:=zC) (ps:=mW) (k:=3) (b:=kF) HZ (by sleep 991) fun f cdv A outer s H E a c=>
  (aL<|aT<|dN (aP (fun _=>pB T) a.le<|aA (aB 0) aE)<|fK<|gA (DH (fun _=>rfl) fun _=>a.units) (oW (fun _=>NO T) a.le (fun _=>c)<|aA (aX bM (aB 0) aF)<|aA (aX bM (aB 0) aF) aE) aF)
def ID(T:Txt K mg):Callee P w K mg base 4 "is_amount" mW (spM K dP):=(uA T).calm
def zD(T:Txt K mg):Callee P w K mg base 2 "is_place" mS (spM K hV):=
 T.v47.okG (N:=uW) (ps:=mS) (k:=1) (b:=lX) yM (by sleep 992) fun f cdv A outer s H E a=>
  (aL<|aT<|dN (aP (fun _=>sV T) a.le<|aA (aB 1) aE)<|fK<|NC aLP OY aF (aB 1)<|aB 0)
def vX(T:Txt K mg):Callee P w K mg base 2 "is_place" mS (spM K hV) false:=
 T.v47.okG (q:=false) (N:=uW) (ps:=mS) (k:=1) (b:=lX) yM (by sleep 992) fun f cdv A outer s H E a=>
  (aL<|aT<|dN (aP (fun _=>pQ T) a.le<|aA (aB 1) aE)<|fK<|NC aLP OY aF (aB 1)<|aB 0)
def kE(T:Txt K mg):Callee P w K mg base 3 "are_unlike_places" cZ (spM K bF):=
 T.v48.okG (N:=gN) (ps:=cZ) (k:=2) (b:=cK) kK (by sleep 993) fun f cdv A outer s H E a=>
  (aL<|aT<|dN (aP (fun _=>zD T) a.le<|aA (aB 0)<|aA (aB 1) aE)<|dN (aP (fun _=>zD T) a.le<|aA (aB 0)<|aA (aB 2) aE)<|fK<|gA (uL (fun _=>rfl) fun _=>a.units) (aB 1)<|aB 2)
def qM(T:Txt K mg):Callee P w K mg base 3 "are_unlike_places" cZ (spM K bF) false:=
 T.v48.okG (q:=false) (N:=gN) (ps:=cZ) (k:=2) (b:=cK) kK (by sleep 993) fun f cdv A outer s H E a=>
  (aL<|aT<|dN (aP (fun _=>vX T) a.le<|aA (aB 0)<|aA (aB 1) aE)<|dN (aP (fun _=>vX T) a.le<|aA (aB 0)<|aA (aB 2) aE)<|fK<|gA (uL (fun _=>rfl) fun _=>a.units) (aB 1)<|aB 2)
def qW(T:Txt K mg):Callee P w K mg base 4 "is_between_places" cX (spM K aY):=
 T.v49.okG (N:=gO) (ps:=cX) (k:=3) (b:=bU) kG (by sleep 992) fun f cdv A outer s H E a=>
  (aL<|aT<|dN (aP (fun _=>pJ T) a.le<|aA (aB 1)<|aA aF aE)<|dN (aP (fun _=>kE T) a.le<|aA (aB 0)<|aA (aX bM (aB 1) aF)<|aA (aX bM (aB 1) aF) aE)<|fK<|gA OY (aX bM (aB 1) aF)<|aX bM (aB 1) aF)
def qQ(T:Txt K mg):Callee P w K mg base 4 "is_between_places" cX (spM K aY) false:=
 T.v49.okG (q:=false) (N:=gO) (ps:=cX) (k:=3) (b:=bU) kG (by sleep 992) fun f cdv A outer s H E a=>
  (aL<|aT<|dN (aP (fun _=>oH T) a.le<|aA (aB 1)<|aA aF aE)<|dN (aP (fun _=>qM T) a.le<|aA (aB 0)<|aA (aX bM (aB 1) aF)<|aA (aX bM (aB 1) aF) aE)<|fK<|gA OY (aX bM (aB 1) aF)<|aX bM (aB 1) aF)
def BY(T:Txt K mg):Callee P w K mg base 1 "rows_beside" nW (spM K jR):=
 T.v50.okG (N:=tW) (ps:=nW) (k:=0) (b:=nR) sc_rows_beside (by sleep 991) fun f cdv A outer s H E a=>
  (aJ (QC 1 (fun _=>sc_rows_beside.nd) (N':=(["place"]:Tb)) (cap:=[Y]) (fun _=>rfl) (by sleep 987) (jZ (by sleep 988)<|aA (bE gL (cU qI (by sleep 988) A0p<|aA (aB 0) aE) aF) aE) (aV 0 (by sleep 989)) jL<|rY aE)
   (aJ (hX (fun _=>E6) (fun _=>rfl) (aDu (fun _=>rfl) (by sleep 988)<|aA (aB 0) aE) (pK (fun _=>rfl) (fun _=>rfl)<|bN (aV 2 fun _=>sc_rows_beside.nd)<|bN (aV 3 fun _=>sc_rows_beside.nd) jS)
    (aJ (lI<|jB (fun _=>rfl) (aX bM (aB 1)<|aX bM (aB 3) aF)<|aA (bI<|aA (aX bM (aB 3) aF)<|aA (aB 2) aE) aE)
   (aL (lI (jB (fun _=>rfl) (aX bM (aB 1) (aX bM (aB 3) aF)) (aA (bI (aA (aX bM (aB 3) aF) (aA (aB 2) aE))) aE))))))
   (aL (aT (aB 1)))))
def kB(T:Txt K mg):Callee P w K mg base 2 "steps_from" qG (spM K dE):=
 T.v51.okG (N:=wF) (ps:=qG) (k:=1) (b:=pT) sc_steps_from (by sleep 992) fun f cdv A outer s H E a=>
  (aJ (bH 2 (fun _=>sc_steps_from.nd)<|aP (fun _=>BY T) a.le<|aA (aB 0) aE)
   (aJ (bH 3 (fun _=>sc_steps_from.nd)<|JM<|QX (aB 1) fN aCj)
   (aJ (bH 4 (fun _=>sc_steps_from.nd)<|rY<|aA (aB 1) aE)
   (aJ (bH 5 (fun _=>sc_steps_from.nd)<|rY aE)
   (aJ (BO (fun _=>E6) (ZZ (fun _=>rfl)<|aB 4) (aJ (bH 6 (fun _=>sc_steps_from.nd)<|lV (fun _=>rfl)<|aB 4)
   (aL (aDA (fun _=>E6) (fun _=>rfl) (fun _=>rfl) (aX bM (aB 2)<|aB 6) (pK (fun _=>rfl) (fun _=>rfl)<|bN (aV 7 fun _=>sc_steps_from.nd)<|bN (aV 8 fun _=>sc_steps_from.nd) jS)
    (aL (dZ (yI (fun _=>a.u1) (mk_one<|aB 7)<|aB 3)
    (aJ (vV (fun _=>a.u1) (aB 3) (mk_one<|aB 7) fN)
   (aJ (lI<|jB (fun _=>rfl) (aB 4)<|aA (aB 7) aE)
   (aL (lI (jB (fun _=>rfl) (aB 5) (aA (bI (aA (aB 6) (aA (aB 7) (aA (aB 8) aE)))) aE))))))
    cN))))))
   (aL (aT (aB 5))))))))
def tT(T:Txt K mg):eR P w K mg base CX0 1 "is_rising" mZ (spM K iA):=
 T.v52.okW (N:=yU) (ps:=mZ) (k:=0) (b:=rA) JK (by sleep 991) fun f cdv A outer s H E c a=>
  (aL<|aT<|cU (aAI (q:=false) (fun _=>rfl) fun _=>a) (by sleep 988) boot_all<|aA (PL (q:=false) (N':=(["one","other"]:Tb)) (cap:=[Y,Y]) (fun _=>a) (by sleep 987) (aDi (q:=false) (fun _=>rfl) (by sleep 988)<|aA (aB 0)<|aA (ZF (fun _=>rfl) (aB 0) (JB aF) HG) aE) (aCY (q:=false) (fun _=>rfl) (fun j=>j.2)<|bN (aV 0 (by sleep 989))<|bN (aV 1 (by sleep 989)) jS) jL<|gA (aKs (fun _=>rfl) fun _=>c.units1q) (aB 0)<|aB 1) aE)
def JJ(T:Txt K mg):Callee P w K mg base 1 "is_rising" mZ (spM K iA):=(tT T).calm
def OX(T:Txt K mg):Callee P w K mg base 5 "is_tree" yA (spM K dG):=
 T.v53.okG (N:=FI) (ps:=yA) (k:=4) (b:=hZ) NW (by sleep 992) fun f cdv A outer s H E a=>
  (aJ (dZ (pX<|lF (cV aEM (aB 0)<|LW fun _=>T.v77)<|iN<|dM<|dB<|aP (fun _=>pJ T) a.le<|aA (aB 1)<|aA (bE RN (aB 0) aF) aE)
   (aL<|aT fN)
   cN)
   (aJ (dZ (dM<|dB<|cU (aLN (fun _=>rfl) fun _=>rfl) (by sleep 988) boot_all<|aA (rB (N':=(["many","row"]:Tb)) (cap:=[Z 0,Y]) (fun _=>rfl) (by sleep 987) (mQ (fun _=>rfl)<|aB 1) (aV 1 (by sleep 989)) jL<|dN (aP (fun _=>qW T) a.le<|aA (aB 0)<|aA (aB 1) aE)<|fK<|aP (fun _=>ID T) a.le<|aA (aX bM (aB 1) aF) aE) aE)
    (aL<|aT fN)
    cN)
   (aL (aT (dN (aP (fun _=>JJ T) a.le (aA (rB (N':=(["row"]:Tb)) (cap:=[Y]) (fun _=>rfl) (by sleep 987) (mQ (fun _=>rfl) (aB 1)) (aV 0 (by sleep 989)) jL (bI (aA (aX bM (aB 0) aF) (aA (aX bM (aB 0) aF) aE)))) aE)) (fK (gA (DH (fun _=>rfl) (fun _=>a.units)) (cU qI (by sleep 988) A0p (aA (aP (fun _=>kB T) a.le (aA (aB 1) (aA aF aE))) aE)) (bE RN (aB 0) aF))))))))
def nE(T:Txt K mg):jX P w K mg base 6 "refuse_no_tree" jK (spX K cB):=
 T.v54.okX (N:=oP) (ps:=jK) (k:=5) (b:=eG) wY (by sleep 991) fun f cdv A outer s H E a=>
  (lL (PJ (pX<|lF (dM<|dB<|aP (fun _=>FV T) a.le<|aA (aB 0) aE)<|iN<|dM<|dB<|aP (fun _=>OX T) a.le<|aA (bE gL (cU qI (by sleep 988) A0p<|aA (aB 0) aE) aF)<|aA (aB 0) aE)
   (lL<|BL (fun i=>yR i) (fun _=>rfl) (fun _=>rfl) (fun _=>T.v74) T.v15)
   (qU cN)))
def zB(T:Txt K mg):Callee P w K mg base 1 "is_below" vG (spM K mM):=
 T.v55.okG (N:=BX) (ps:=vG) (k:=0) (b:=uT) KG (by sleep 992) fun f cdv A outer s H E a=>
  (aL<|aT<|gA OY (bE sI (aX bM (aB 0) aF)<|aX bM (aB 1) aF)<|bE sI (aX bM (aB 1) aF)<|aX bM (aB 0) aF)
def DY(T:Txt K mg):Callee P w K mg base 3 "least_from" pH (spM K lK):=
 T.v56.okG (N:=wA) (ps:=pH) (k:=2) (b:=pA) sc_least_from (by sleep 992) fun f cdv A outer s H E a=>
  (aJ (bH 2 (fun _=>sc_least_from.nd) LM)
   (aJ (hX (fun _=>E6) (fun _=>rfl) (mQ (fun _=>rfl)<|xF<|aP (fun _=>kB T) a.le<|aA (aB 0)<|aA (aB 1) aE) (pK (fun _=>rfl) (fun _=>rfl)<|bN (aV 3 fun _=>sc_least_from.nd)<|bN (aV 4 fun _=>sc_least_from.nd)<|bN (aV 5 fun _=>sc_least_from.nd) jS)
    (aJ (bH 6 (fun _=>sc_least_from.nd)<|cW (iG fun _=>rfl) (by sleep 988) U6<|aA (aX bM (aX bM (aB 0)<|aB 5) aF) aE)
   (aL (vV (fun _=>a.u1) (aB 2) (mk_one (aB 4)) (aKQ (pX (lF (cV (DH (fun _=>rfl) (fun _=>a.units)) (aB 3) (aB 1)) (iN (dB (aP (fun _=>zB T) a.le (aA (aB 6) (aA (nA (fun _=>a.u1) (aB 2) (mk_one (aB 3))) aE))))))) (aB 6) (nA (fun _=>a.u1) (aB 2) (mk_one (aB 3))))))))
   (aL (aT (aB 2)))))
def gC(T:Txt K mg):jX P w K mg base 7 "all_between" oJ (spX K bA):=
 T.v57.okX (N:=tY) (ps:=oJ) (k:=6) (b:=jQ) sc_all_between (by sleep 991) fun f cdv A outer s H E a=>
  (oU (lT<|tD (fun i=>yR i) (fun _=>nE T) a.le<|mR<|aA (aB 0) aE)
   (qU (aJ (bH 1 (fun _=>sc_all_between.nd)<|rY aE)
   (aJ (hX (fun i=>((fun i=>yR i) i).own) (fun _=>rfl) (jZ (by sleep 988)<|aA (bE gL (cU qI (by sleep 988) A0p<|aA (aB 0) aE) aF) aE) (aV 2 fun _=>sc_all_between.nd)
    (aJ (bH 3 (fun _=>sc_all_between.nd)<|aP (fun _=>DY T) a.le<|aA (aB 0)<|aA (aB 2) aE)
   (aL (lI (VF (fun _=>rfl) (aB 1) (aA (aJb (N':=(["place","least","other"]:Tb)) (cap:=[Z 2,Z 3,Y]) (fun _=>rfl) (by sleep 987) (zX (by sleep 988) (aA (bE gL (aB 2) aF) (aA (bE gL (cU qI (by sleep 988) A0p (aA (aB 0) aE)) aF) aE))) (aV 2 (by sleep 989)) jL (bI (aA (aB 0) (aA (aB 2) (aA (nA (fun _=>a.u1) (aB 1) (mk_one (aB 2))) aE))))) aE))))))
   (aL (aT (cW (iG (fun _=>rfl)) (by sleep 988) U6 (aA (aB 1) aE))))))))
def CZ(T:Txt K mg):Callee P w K mg base 2 "first_least" nT (spM K jT):=
 T.v58.okG (N:=tX) (ps:=nT) (k:=1) (b:=nV) sc_first_least (by sleep 992) fun f cdv A outer s H E a=>
  (aJ (bH 2 (fun _=>sc_first_least.nd)<|aX bM (aB 1) aF)
   (aJ (hX (fun _=>E6) (fun _=>rfl) (mQ (fun _=>rfl)<|aB 1) (aV 3 fun _=>sc_first_least.nd)
    (aL (dZ (dB<|aP (fun _=>zB T) a.le<|aA (aX bM (aX bM (aB 0)<|aB 3) aF)<|aA (aX bM (aX bM (aB 0)<|aB 2) aF) aE)
    (aL<|bH 2 (fun _=>sc_first_least.nd)<|aB 3)
    cN)))
   (aL (aT (aB 2)))))
def oQ(T:Txt K mg):jX P w K mg base 4 "refuse_no_two_places" eV (spX K cF):=
 T.v59.okX (N:=iJ) (ps:=eV) (k:=3) (b:=dC) oY (by sleep 993) fun f cdv A outer s H E a=>
  (lL (PJ (dM<|dB<|aP (fun _=>kE T) a.le<|aA (aB 0)<|aA (aB 1)<|aA (aB 2) aE)
   (lL<|BL (fun i=>yR i) (fun _=>rfl) (fun _=>rfl) (fun _=>T.v73) T.v13)
   (qU cN)))
def KU(T:Txt K mg):jX P w K mg base 7 "tree_way" uY (spX K jP):=
 T.v60.okX (N:=BC) (ps:=uY) (k:=6) (b:=pM) sc_tree_way (by sleep 993) fun f cdv A outer s H E a=>
  (oU (lT<|tD (fun i=>yR i) (fun _=>nE T) a.le<|mR<|aA (aB 0) aE)
   (oU (lT<|tD (fun i=>yR i) (fun _=>oQ T) a.le<|mR<|aA (bE gL (cU qI (by sleep 988) A0p<|aA (aB 0) aE) aF)<|aA (aB 1)<|aA (aB 2) aE)
   (qU (aJ (WL 3 (fun _=>sc_tree_way.nd) (N':=(["here","there","at"]:Tb)) (cap:=[Y,Y,Y]) (fun _=>a.u0) (fun _=>rfl) (by sleep 987) (mQ (fun _=>rfl)<|xF<|aP (fun _=>kB T) a.le<|aA (aB 0)<|aA (aB 2) aE) (pK (fun _=>rfl) (fun _=>rfl)<|bN (aV 0 (by sleep 989))<|bN (aV 1 (by sleep 989))<|bN (aV 2 (by sleep 989)) jS) jL (mk_one<|aB 1)<|bI<|aA (aB 0)<|aA (aB 2) aE)
   (aJ (bH 4 (fun _=>sc_tree_way.nd)<|rY aE)
   (aJ (bH 5 (fun _=>sc_tree_way.nd)<|aB 1)
   (aJ (BO (fun i=>((fun i=>yR i) i).own) (cV (uL (fun _=>rfl) fun _=>a.units) (aB 5)<|aB 2) (aJ (AS (nA (fun _=>a.u1) (aB 3)<|mk_one<|aB 5)<|pK (fun _=>rfl) (fun _=>rfl)<|bN (aV 5 fun _=>sc_tree_way.nd)<|bN (aV 6 fun _=>sc_tree_way.nd) jS)
   (aL (lI (jB (fun _=>rfl) (aB 4) (aA (aB 6) aE))))))
   (aL (aT (cW (iG (fun _=>rfl)) (by sleep 988) U6 (aA (aB 4) aE)))))))))))
def AH(T:Txt K mg):Callee P w K mg base 3 "side_behind" oK (spM K jU):=
 T.v61.okG (N:=tU) (ps:=oK) (k:=2) (b:=oA) sc_side_behind (by sleep 992) fun f cdv A outer s H E a=>
  (aJ (bH 2 (fun _=>sc_side_behind.nd) LM)
   (aJ (hX (fun _=>E6) (fun _=>rfl) (mQ (fun _=>rfl)<|xF<|aP (fun _=>kB T) a.le<|aA (aB 0)<|aA aF aE) (pK (fun _=>rfl) (fun _=>rfl)<|bN (aV 3 fun _=>sc_side_behind.nd)<|bN (aV 4 fun _=>sc_side_behind.nd)<|bN (aV 5 fun _=>sc_side_behind.nd) jS)
    (aL (dZ (pX<|lF (cV (DH (fun _=>rfl) fun _=>a.units) (aB 5)<|aB 1)<|iN<|PY (fun _=>a.u1) (mk_one<|aB 3)<|aB 2)
    (aL<|vV (fun _=>a.u1) (aB 2) (mk_one<|aB 4) fN)
    cN)))
   (aL (aT (cW (iG (fun _=>rfl)) (by sleep 988) U6 (aA (cU (aAA (fun _=>rfl)) (by sleep 988) boot_sorted (aA (aB 2) aE)) aE))))))
def gH(T:Txt K mg):jX P w K mg base 8 "least_between" kS (spX K aU):=
 T.v62.okX (N:=qK) (ps:=kS) (k:=7) (b:=gV) sc_least_between (by sleep 993) fun f cdv A outer s H E a=>
  (oU (QL 3 (fun _=>sc_least_between.nd)<|KZ (fun _=>CZ T) a.le<|max_cons (aFT<|aB 0)<|max_cons (tD (fun i=>yR i) (fun _=>KU T) a.le<|mR<|aA (aB 0)<|aA (aB 1)<|aA (aB 2) aE)<|mR aE)
   (qU (aL (aT (bI (aA (cW (iG (fun _=>rfl)) (by sleep 988) U6 (aA (aX bM (aX bM (aB 0) (aB 3)) aF) aE)) (aA (aP (fun _=>AH T) a.le (aA (aB 0) (aA (aB 3) aE))) aE)))))))
def CJ(T:Txt K mg):Callee P w K mg base 1 "_law_amount" nS (spM K jY):=
 T.v63.okG (N:=uD) (ps:=nS) (k:=0) (b:=nP) sc__law_amount (by sleep 991) fun f cdv A outer s H E a=>
  (aJ (bH 1 (fun _=>sc__law_amount.nd)<|lP<|aA (bI<|aA aF<|aA aF aE)<|aA (bI<|aA aF<|aA aF aE)<|aA (bI<|aA aF<|aA aF aE)<|aA (bI<|aA aF<|aA aF aE)<|aA (bI<|aA aF<|aA aF aE)<|aA (bI<|aA aF<|aA aF aE)<|aA (bI<|aA (bE YO aF aF)<|aA aF aE)<|aA (bI<|aA aF<|aA (bE gL (bE YO aF aF) aF) aE) aE)
   (aL (aT (aX bM (aB 1) (bE iP (aB 0) aF)))))
def EG(T:Txt K mg):Callee P w K mg base 2 "_law_drawn" pU (spM K eQ):=
 T.v64.okG (N:=wH) (ps:=pU) (k:=1) (b:=qD) sc__law_drawn (by sleep 992) fun f cdv A outer s H E a=>
  (aJ (bH 2 (fun _=>sc__law_drawn.nd)<|rY aE)
   (aJ (hX (fun _=>E6) (fun _=>rfl) (zX (by sleep 988)<|aA aF<|aA (aB 1) aE) (aV 3 fun _=>sc__law_drawn.nd)
    (aJ (bH 4 (fun _=>sc__law_drawn.nd)<|lV (fun _=>rfl)<|aB 0)
   (aL (lI (jB (fun _=>rfl) (aB 2) (aA (bI (aA (bE iP (aB 4) (aB 3)) (aA (aB 3) (aA (aP (fun _=>CJ T) a.le (aA (bE CK (aB 4) aF) aE)) aE)))) aE))))))
   (aL (aT (cW (iG (fun _=>rfl)) (by sleep 988) U6 (aA (cU (aFc (fun _=>rfl) (fun _=>a.units2)) (by sleep 988) boot_sorted (aA (aB 2) aE)) aE))))))
theorem kD(T:Txt K mg):∀n:Nat,Callee P w K mg base (n+1) "_law_lists" lJ (spM K<|bB n)
 |0=>(T.v65.okNone (N:=pE) (ps:=lJ) (k:=0) tZ (by intro _ _ _ _ _ _ _ a;apply ar1 a;intros;rfl)).mono (by decide)
 |n+1=>(T.v65.okG (N:=pE) (ps:=lJ) (k:=n+1) (b:=lO<|bB n) tZ (by sleep 991) fun f cdv A outer s H E c=>
  (aJ (dZ (dM<|dB<|xM (T:="tuple") (fun _=>rfl) (by decide) (aB 0) (fun _=>cJ) (by sleep 988) (by sleep 988) U6)
   (aL<|aT<|aB 0)
   cN)
   (aL (aT (rB (N':=(["_law_part"]:Tb)) (cap:=[Y]) (fun _=>rfl) (by sleep 987) (mQ (fun _=>rfl) (aB 0)) (aV 0 (by sleep 989)) jL (aP (fun _=>kD T n) (fun _=>c.mono (by omega)) (aA (aB 0) aE))))))).mono (by omega)
def wU(T:Txt K mg):Callee P w K mg base 1 "_law_ways" rE (spM K fT):=
 T.v66.okG (N:=zF) (ps:=rE) (k:=0) (b:=sM) sc__law_ways (by sleep 992) fun f cdv A outer s H E a=>
  (aJ (bH 2 (fun _=>sc__law_ways.nd)<|JM<|QX (aB 1) (bI aE) aCj)
   (aJ (hX (fun _=>E6) (fun _=>rfl) (jZ (by sleep 988)<|aA (cU qI (by sleep 988) A0p<|aA (aB 0) aE) aE) (aV 3 fun _=>sc__law_ways.nd)
    (aL (hX (fun _=>E6) (fun _=>rfl) (jZ (by sleep 988)<|aA (cU qI (by sleep 988) A0p<|aA (aB 0) aE) aE) (aV 4 fun _=>sc__law_ways.nd)
    (aJ (AS (ZF (fun _=>rfl) (aX bM (aB 0)<|aB 4) HG<|JB aF)<|pK (fun _=>rfl) (fun _=>rfl)<|bN (aV 5 fun _=>sc__law_ways.nd)<|bN (aV 6 fun _=>sc__law_ways.nd) jS)
   (aL (dZ (pX<|AJ (PY (fun _=>a.u1) (mk_one<|aB 5)<|aB 2)<|wZ<|yI (fun _=>a.u1) (mk_one<|aB 6)<|aB 2)
    (aL<|vV (fun _=>a.u1) (aB 2) (mk_one<|aB 6)<|bE gL (nA (fun _=>a.u1) (aB 2)<|mk_one<|aB 5)<|bI<|aA (aB 4) aE)
    (aL (dZ (pX<|AJ (PY (fun _=>a.u1) (mk_one<|aB 6)<|aB 2)<|wZ<|yI (fun _=>a.u1) (mk_one<|aB 5)<|aB 2)
    (aL<|vV (fun _=>a.u1) (aB 2) (mk_one<|aB 5)<|bE gL (nA (fun _=>a.u1) (aB 2)<|mk_one<|aB 6)<|bI<|aA (aB 4) aE)
    cN))))))))
   (aL (aT (aB 2)))))
def qX(T:Txt K mg):Callee P w K mg base 2 "_law_due" uO (spM K dJ):=
 T.v67.okG (N:=AO) (ps:=uO) (k:=1) (b:=vE) sc__law_due (by sleep 994) fun f cdv A outer s H E a=>
  (aJ (bH 4 (fun _=>sc__law_due.nd)<|nA (fun _=>a.u1) (aP (fun _=>wU T) a.le<|aA (aB 0)<|aA (aB 2) aE)<|mk_one<|aB 3)
   (aJ (bH 5 (fun _=>sc__law_due.nd)<|aX bM (aB 4) aF)
   (aJ (hX (fun _=>E6) (fun _=>rfl) (mQ (fun _=>rfl)<|aB 4) (aV 6 fun _=>sc__law_due.nd)
    (aL (dZ (cV OY (bE sI (aX bM (aX bM (aX bM (aB 0)<|aB 6) aF) aF)<|aX bM (aX bM (aX bM (aB 0)<|aB 5) aF) aF)<|bE sI (aX bM (aX bM (aX bM (aB 0)<|aB 5) aF) aF)<|aX bM (aX bM (aX bM (aB 0)<|aB 6) aF) aF)
    (aL<|bH 5 (fun _=>sc__law_due.nd)<|aB 6)
    cN)))
   (aJ (bH 7 (fun _=>sc__law_due.nd)<|aP (fun _=>wU T) a.le<|aA (aB 0)<|aA aF aE)
   (aL (aT (bI (aA (aX bM (aX bM (aB 0) (aB 5)) aF) (aA (cW (iG (fun _=>rfl)) (by sleep 988) U6 (aA (rB (N':=(["_law_best","_law_ways_here","_law_place"]:Tb)) (cap:=[Z 5,Z 7,Y]) (fun _=>rfl) (by sleep 987) (jZ (by sleep 988) (aA (aB 1) aE)) (aV 2 (by sleep 989)) (aJi (cV (aLV (fun _=>rfl) (fun _=>a.units1)) (aB 0) (nA (fun _=>a.u1) (aB 1) (mk_one (aB 2))))) (aB 2)) aE)) aE)))))))))
def kU(T:Txt K mg):Callee P w K mg base 9 "_law_refused" mU (spM K bJ):=
 T.v68.okG (N:=rL) (ps:=mU) (k:=8) (b:=lU) sc__law_refused (by sleep 993) fun f cdv A outer s H E a=>
  (aJ (aBU (fun _=>⟨rfl,rfl,rfl⟩) (fun _=>rfl) (lL<|lT<|tD (fun i=>aCE (fun _=>⟨rfl,rfl,rfl⟩) i) (fun _=>gH T) a.le<|mR<|aA (aB 0)<|aA (aB 1)<|aA (aB 2) aE) (zR (tab:=[("NoPlace",false),("NoTree",true)]) (n:=(Z 3)) (.ref (bZ K "NoTree")) (fun _=>⟨rfl,rfl,rfl⟩) (fun _=>.inl T.v74) (fun _=>⟨sc__law_refused.nd,rfl,rfl⟩) (fF T.v19<|fF T.v18 rG) (aL<|aT<|bE gL aF<|bE sI aF<|cW aFJ (by sleep 988) boot_int<|aA (UR (tab:=gY) (nn:=Z false) (c:=(.ref (bZ K "NoPlace"))) (fun _=>rfl) (.own _) (aAD fun _=>T.v73) (TJ (RT T) T.v36 rfl) (TU T.v37) (aB 3) (fun _=>cJ) (by sleep 988)) aE)
   (zR (tab:=[("NoPlace",true),("NoTree",false)]) (n:=Y) (.ref (bZ K "NoPlace")) (fun _=>⟨rfl,rfl,rfl⟩) (fun _=>.inl T.v73) (fun _=>True.intro) (fF T.v17<|fF T.v16 rG) (aL<|aT aF)
   aAx)))
   (aL (aT aF)))
def tR(T:Txt K mg):Callee P w K mg base 10 "_law_right" pS (spM K gG):=
 T.v69.okG (N:=vY) (ps:=pS) (k:=9) (b:=pG) sc__law_right (by sleep 993) fun f cdv A outer s H E a=>
  (aJ (bH 3 (fun _=>sc__law_right.nd)<|aP (fun _=>kD T 6) a.le<|aA (aB 0) aE)
   (aJ (hX (fun _=>E6) (fun _=>rfl) (mQ (fun _=>rfl)<|lP<|aA (bI<|aA (bE iP (aB 2)<|aB 1)<|aA (bE iP (bE CK (aB 2) aF)<|aB 1) aE)<|aA (bI<|aA (bE iP (bE CK (aB 2) aF)<|aB 1)<|aA (bE iP (aB 2)<|aB 1) aE)<|aA (bI<|aA aF<|aA (bE RN (aB 1) aF) aE) aE) (pK (fun _=>rfl) (fun _=>rfl)<|bN (aV 4 fun _=>sc__law_right.nd)<|bN (aV 5 fun _=>sc__law_right.nd) jS)
    (aL (dZ (cV (uL (fun _=>rfl) fun _=>a.units) (aB 4)<|aB 5)
    (aJ (bH 6 (fun _=>sc__law_right.nd)<|aP (fun _=>qX T) a.le<|aA (aB 0)<|aA (aB 1)<|aA (aB 4)<|aA (aB 5) aE)
   (aL (dZ (pX<|lF (cV (uL (fun _=>rfl) fun _=>a.units) (jO (fun _=>gH T) a.le<|aA (aB 0)<|aA (aB 4)<|aA (aB 5) aE)<|aB 6)<|iN<|cV (uL (fun _=>rfl) fun _=>a.units) (jO (fun _=>gH T) a.le<|aA (aB 3)<|aA (aB 4)<|aA (aB 5) aE)<|aB 6)
    (aL<|aT fN)
    cN)))
    (aL (dZ (cV (uL (fun _=>rfl) fun _=>a.units) (aP (fun _=>kU T) a.le<|aA (aB 0)<|aA (aB 4)<|aA (aB 5) aE) aF)
    (aL<|aT fN)
    cN)))))
   (aL (aT (gA (DH (fun _=>rfl) (fun _=>a.units)) (aB 3) (aP (fun _=>kD T 6) a.le (aA (aB 0) aE)))))))
def uX(T:Txt K mg):Callee P w K mg base 8 "_law_long_right" iD (spM K dR):=
 T.v70.okG (N:=nL) (ps:=iD) (k:=7) (b:=iF) sc__law_long_right (by sleep 992) fun f cdv A outer s H E a=>
  (aJ (bH 2 (fun _=>sc__law_long_right.nd)<|jO (fun _=>gC T) a.le<|aA (aB 0) aE)
   (aJ (bH 3 (fun _=>sc__law_long_right.nd)<|lP aE)
   (aJ (hX (fun _=>E6) (fun _=>rfl) (jZ (by sleep 988)<|aA aF aE) (aV 4 fun _=>sc__law_long_right.nd)
    (aL (bH 3 (fun _=>sc__law_long_right.nd) (bE gL (aB 3) (rB (N':=(["_law_i","_law_j"]:Tb)) (cap:=[Z 4,Y]) (fun _=>rfl) (by sleep 987) (zX (by sleep 988) (aA (bE gL (aB 4) aF) (aA aF aE))) (aV 1 (by sleep 989)) jL (bI (aA (aB 0) (aA (aB 1) aE))))))))
   (aJ (dZ (pX<|lF (dM<|dB<|xM (T:="tuple") (fun _=>rfl) (by decide) (aB 2) (fun _=>cJ) (by sleep 988) (by sleep 988) U6)<|iN<|cV (uL (fun _=>rfl) fun _=>a.units) (rB (N':=(["_law_row"]:Tb)) (cap:=[Y]) (fun _=>rfl) (by sleep 987) (mQ (fun _=>rfl)<|aB 2) (aV 0 (by sleep 989)) jL<|ZF (fun _=>rfl) (aB 0) HG<|JB aF)<|aB 3)
    (aL<|aT fN)
    cN)
   (aJ (hX (fun _=>E6) (fun _=>rfl) (mQ (fun _=>rfl)<|aB 1) (aV 5 fun _=>sc__law_long_right.nd)
    (aJ (AS (aX bM (aB 2)<|bE iP (aB 5) aF)<|pK (fun _=>rfl) (fun _=>rfl)<|bN (aV 4 fun _=>sc__law_long_right.nd)<|bN (aV 6 fun _=>sc__law_long_right.nd)<|bN (aV 7 fun _=>sc__law_long_right.nd) jS)
   (aL (dZ (cV (uL (fun _=>rfl) fun _=>a.units) (aB 7)<|aX bM (aP (fun _=>qX T) a.le<|aA (aB 0)<|aA aF<|aA (aB 4)<|aA (aB 6) aE) aF)
    (aL<|aT fN)
    cN))))
   (aL (aT fN)))))))
def CA(T:Txt K mg):eR P w K mg base CX0 5 "is_tree" pL (spM K eX):=
 T.v53.okW (N:=wM) (ps:=pL) (k:=4) (b:=iH) DS (by sleep 992) fun f cdv A outer s H E a c=>
  (aJ (dZ (pX<|lF (cV aEM (aB 0)<|LW fun _=>T.v77)<|iN<|dM<|dB<|aP (fun _=>oH T) a.le<|aA (aB 1)<|aA (bE RN (aB 0) aF) aE)
   (aL<|aT fN)
   cN)
   (aJ (dZ (dM<|dB<|cU (aAI (q:=false) (fun _=>rfl) fun _=>c) (by sleep 988) boot_all<|aA (PL (q:=false) (N':=(["many","row"]:Tb)) (cap:=[Z 0,Y]) (fun _=>c) (by sleep 987) (RD (q:=false) (fun _=>rfl)<|aB 1) (aV 1 (by sleep 989)) jL<|dN (aP (fun _=>qQ T) a.le<|aA (aB 0)<|aA (aB 1) aE)<|fK<|oW (fun _=>uA T) a.le (fun j=>j.2)<|aA (aX bM (aB 1) aF) aE) aE)
    (aL<|aT fN)
    cN)
   (aL (aT (dN (oW (fun _=>tT T) a.le (fun _=>c) (aA (PL (q:=false) (N':=(["row"]:Tb)) (cap:=[Y]) (fun _=>c) (by sleep 987) (RD (q:=false) (fun _=>rfl) (aB 1)) (aV 0 (by sleep 989)) jL (bI (aA (aX bM (aB 0) aF) (aA (aX bM (aB 0) aF) aE)))) aE)) (fK aAt))))))
def qO(T:Txt K mg):eR P w K mg base (CX1 P w false) 6 "refuse_no_tree" gM (spX K cH):=
 T.v54.okWX (N:=lC) (ps:=gM) (k:=5) (b:=eC) qR (by sleep 991) fun f cdv A outer s H E a d=>
  (lL (PJ (pX<|lF (dM<|dB<|aP (fun _=>CW T) a.le<|aA (aB 0) aE)<|iN<|dM<|dB<|oW (fun _=>CA T) a.le d<|aA (bE gL (cU qI (by sleep 988) A0p<|aA (aB 0) aE) aF)<|aA (aB 0) aE)
   (lL<|MZ (fun i=>OQ i) (fun _=>rfl) d (fun _=>rfl) T.v39 (fun _=>T.v74) T.v15 T.v38 T.v76.c.be)
   (qU cN)))
def zL(T:Txt K mg):eR P w K mg base (CX1 P w false) 7 "tree_way" nU (spX K nQ):=
 T.v60.okWX (N:=uE) (ps:=nU) (k:=6) (b:=nO) DG (by sleep 993) fun f cdv A outer s H E a c=>
  (oU (lT<|DF (fun i=>OQ i) (fun _=>rfl) (fun _=>qO T) a.le c<|mR<|aA (aB 0) aE)
   (qU (aJ mK (aJ mK (aJ mK (aJ mK (aJ mK (aL mK))))))))
def sQ(T:Txt K mg):eR P w K mg base (CX1 P w false) 8 "least_between" gX (spX K eW):=
 T.v62.okWX (N:=mG) (ps:=gX) (k:=7) (b:=hW) sc_least_between__h (by sleep 993) fun f cdv A outer s H E a c=>
  (oU (QL 3 (fun _=>sc_least_between__h.nd)<|KZ (F:=fun _ _=>Y) (q:=false) (fun _=>T.v58.noneQ (k:=0) sc_first_least (by intro _ _ _ _ _ _ _ d;apply ar2 d;intros;rfl)) a.le<|max_cons (aFT<|aB 0)<|max_cons (DF (fun i=>OQ i) (fun _=>rfl) (fun _=>zL T) a.le c<|mR<|aA (aB 0)<|aA (aB 1)<|aA (aB 2) aE)<|mR aE)
   (qU (aL mK)))
def lE(T:Txt K mg):eR P w K mg base CX0 9 "_law_refused" iE (spM K fL):=
 T.v68.okW (N:=nM) (ps:=iE) (k:=8) (b:=iW) sc__law_refused__h (by sleep 993) fun f cdv A outer s H E a d=>
  (aJ (aBU (fun _=>⟨rfl,rfl,rfl⟩) (fun _=>rfl) (lL<|lT<|DF (fun i=>aCE (fun _=>⟨rfl,rfl,rfl⟩) i) (fun _=>rfl) (fun _=>sQ T) a.le (fun j=>HdX.try<|(fun _=>d) j.1)<|mR<|aA (aB 0)<|aA (aB 1)<|aA (aB 2) aE) (zR (tab:=[("NoPlace",false),("NoTree",true)]) (n:=(Z 3)) (.ref (bZ K "NoTree")) (fun _=>⟨rfl,rfl,rfl⟩) (fun _=>.inl T.v74) (fun _=>⟨sc__law_refused__h.nd,rfl,rfl⟩) (fF T.v19<|fF T.v18 rG) (aL<|aT<|bE gL aF<|bE sI aF<|cW aFJ (by sleep 988) boot_int<|aA (UR (tab:=gY) (nn:=Z false) (c:=(.ref (bZ K "NoPlace"))) (fun _=>rfl) (.own _) (aAD fun _=>T.v73) (TJ (RT T) T.v36 rfl) (TU T.v37) (aB 3) (fun _=>cJ) (by sleep 988)) aE)
   (zR (tab:=[("NoPlace",true),("NoTree",false)]) (n:=Y) (.ref (bZ K "NoPlace")) (fun _=>⟨rfl,rfl,rfl⟩) (fun _=>.inl T.v73) (fun _=>True.intro) (fF T.v17<|fF T.v16 rG) (aL<|aT aF)
   aAx)))
   (aL (aT aF)))
def kY(T:Txt K mg):Callee P w K mg base 10 "_law_no_tree" mH (spM K cE):=
 T.v71.okG (N:=sR) (ps:=mH) (k:=9) (b:=mT) zN (by sleep 991) fun f cdv A outer s H E a=>
  (aJ (aFw [("NoPlace",false),("NoTree",true)] (.ref (bZ K "NoTree")) (fun _=>⟨rfl,rfl,rfl⟩) (fun _=>rfl) (fun _=>rfl) (lL<|lT<|tD (fun i=>aCE (fun _=>⟨rfl,rfl,rfl⟩) i) (fun _=>gC T) a.le<|mR<|aA (aB 0) aE) (fun _=>.inl T.v74) (fF T.v19<|fF T.v18 rG)<|aL<|aT<|dN (gA (DH (fun _=>rfl) fun _=>a.units) (oW (fun _=>lE T) (fun _=>a.mark (by decide)) aAW<|aA (aB 0)<|aA aF<|aA aF aE) aF)<|fK<|gA (DH (fun _=>rfl) fun _=>a.units) (oW (fun _=>lE T) (fun _=>a.mark (by decide)) aAW<|aA (aB 0)<|aA HU<|aA HU aE) aF)
   (aL (aT fN)))
def fn_law(T:Txt K mg):∃f fd,mg "law"=Z (.ref f)/\(∀(s:Ua)(u:Tx),BindsTo s fd ⟨[u],[]⟩ [("_law_script",u)])/\∀base,pO P w K mg base CX0 11 f fd aFN (spM K F_law):=
 T.v72.okLG (N:=aGB) (k:=10) (b:=aCp) sc_law rfl (by sleep 991) fun base f cdv A outer s H E a=>
  (aJ (bH 1 (fun _=>sc_law.nd)<|aP (fun _=>GV T) a.le<|aA (aB 0)<|aA aF aE)
   (aJ (bH 2 (fun _=>sc_law.nd)<|lP<|aA (bI<|aA aF<|aA aF<|aA (bI<|aA aF<|aA aF aE) aE) aE)
   (aJ (dZ (pX<|lF (cV (uL (fun _=>rfl) fun _=>a.units) (jO (fun _=>gH T) a.le<|aA (cW (aBv fun _=>rfl) (by sleep 988) boot_list<|aA (aB 2) aE)<|aA aF<|aA aF aE)<|bI<|aA (bI<|aA aF<|aA aF aE)<|aA (bI<|aA aF aE) aE)<|iN<|cV (uL (fun _=>rfl) fun _=>a.units) (jO (fun _=>gC T) a.le<|aA (cW (aBv fun _=>rfl) (by sleep 988) boot_list<|aA (aB 2) aE) aE)<|cW (iG fun _=>rfl) (by sleep 988) U6<|aA (aB 2) aE)
    (aL<|aT fN)
    cN)
   (aJ (hX (fun _=>E6) (fun _=>rfl) (jZ (by sleep 988)<|aA aF aE) (aV 3 fun _=>sc_law.nd)
    (aJ (bH 4 (fun _=>sc_law.nd)<|aX bM (lP<|aA aF<|aA (bE gL aF<|bE iP (lV (fun _=>rfl)<|aB 1) aF)<|aA aF aE)<|aB 3)
   (aJ (bH 5 (fun _=>sc_law.nd)<|aP (fun _=>EG T) a.le<|aA (aB 1)<|aA (aB 4) aE)
   (aJ (dZ (pX<|AJ (cV aEM (aB 4) aF)<|wZ<|dM<|dB<|aP (fun _=>tR T) a.le<|aA (aB 5)<|aA (aB 4)<|aA (lV (fun _=>rfl)<|aB 1) aE)
    (aL<|aT fN)
    cN)
   (aJ (dZ (pX<|AJ (cV aEM (aB 4) aF)<|wZ<|dM<|dB<|aP (fun _=>tR T) a.le<|aA (aB 5)<|aA (aB 4)<|aA (lV (fun _=>rfl)<|aB 1) aE)
    (aL<|aT fN)
    cN)
   (aJ (bH 6 (fun _=>sc_law.nd)<|bI aE)
   (aJ (dZ (cV OY (aB 4) aF)
    (aJ (bH 6 (fun _=>sc_law.nd)<|lP aE)
   (aJ (hX (fun _=>E6) (fun _=>rfl) (jZ (by sleep 988)<|aA (aB 4) aE) (aV 7 fun _=>sc_law.nd)
    (aL (bH 6 (fun _=>sc_law.nd) (bE gL (aB 6) (rB (N':=(["_law_i","_law_tree","_law_many","_law_j"]:Tb)) (cap:=[Z 7,Z 5,Z 4,Y]) (fun _=>rfl) (by sleep 987) (zX (by sleep 988) (aA (bE gL (aB 7) aF) (aA (aB 4) aE))) (aV 3 (by sleep 989)) jL (bI (aA (aB 0) (aA (aB 3) (aA (aX bM (aP (fun _=>qX T) a.le (aA (aB 1) (aA (aB 2) (aA (aB 0) (aA (aB 3) aE))))) aF) aE)))))))))
   (aL (dZ (pX<|lF (cV (uL (fun _=>rfl) fun _=>a.units) (jO (fun _=>gC T) a.le<|aA (aB 5) aE)<|cW (iG fun _=>rfl) (by sleep 988) U6<|aA (aB 6) aE)<|iN<|cV (uL (fun _=>rfl) fun _=>a.units) (jO (fun _=>gC T) a.le<|aA (aP (fun _=>kD T 6) a.le<|aA (aB 5) aE) aE)<|cW (iG fun _=>rfl) (by sleep 988) U6<|aA (aB 6) aE)
    (aL<|aT fN)
    cN))))
    cN)
   (aJ (dZ (pX<|AJ (cV (DH (fun _=>rfl) fun _=>a.units) (aB 4) aF)<|wZ<|dM<|dB<|aP (fun _=>uX T) a.le<|aA (aB 5)<|aA (lP<|aA (lV (fun _=>rfl)<|aB 1)<|aA (lV (fun _=>rfl)<|aB 1)<|aA (lV (fun _=>rfl)<|aB 1) aE) aE)
    (aL<|aT fN)
    cN)
   (aJ (bH 8 (fun _=>sc_law.nd)<|aX bM (lP<|aA fN<|aA HU<|aA aBp<|aA (aLx aKA aF)<|aA (aB 4)<|aA (bE YO aF aF)<|aA (bI<|aA aF aE) aE)<|bE iP (lV (fun _=>rfl)<|aB 1) aF)
   (aJ (dZ (pX<|lF (cV (uL (fun _=>rfl) fun _=>a.units) (aP (fun _=>kU T) a.le<|aA (aB 5)<|aA (aB 8)<|aA aF aE) aF)<|iN<|cV (uL (fun _=>rfl) fun _=>a.units) (aP (fun _=>kU T) a.le<|aA (aB 5)<|aA aF<|aA (aB 4) aE) aF)
    (aL<|aT fN)
    cN)
   (aJ (bH 9 (fun _=>sc_law.nd)<|lP<|aA HU<|aA aF<|aA aBp<|aA aCo<|aA (bE gL (bE (aHA fun _=>rfl) (bI<|aA (bI<|aA aF<|aA aF<|aA (bI<|aA aF<|aA aF aE) aE) aE) aF)<|aB 5)<|aA (bI<|aA (bI<|aA aF<|aA aF<|aA (bI<|aA aF<|aA aF aE) aE) aE)<|aA (bI<|aA (bI<|aA aF<|aA aF<|aA (bI<|aA aF<|aA aF aE) aE) aE)<|aA (bI<|aA aF aE)<|aA fN aE)
   (aL (dZ (pX<|lF (dM<|dB<|aP (fun _=>kY T) a.le<|aA (aX bM (aB 9)<|bE iP (lV (fun _=>rfl)<|aB 1) aF) aE)<|iN<|dM<|dB<|aP (fun _=>kY T) a.le<|aA (aX bM (aB 9)<|bE iP (lV (fun _=>rfl)<|aB 1) aF) aE)
    (aL<|aT fN)
    cN)))))))))))))
   (aL (aT (aP (fun _=>kY T) a.le (aA (cW (iG (fun _=>rfl)) (by sleep 988) U6 (aA (rB (N':=(["_law_place"]:Tb)) (cap:=[Y]) (fun _=>rfl) (by sleep 987) (jZ (by sleep 988) (aA aF aE)) (aV 0 (by sleep 989)) jL (bI (aA (aB 0) (aA (bE gL (aB 0) aF) (aA (bI (aA aF (aA aF aE))) aE))))) aE)) aE))))))))
def txt_mk(X:K.In h)(G:h.Ns mainGlobals mg)(z:W.nsIn K mainGlobals "all"=Z Y)(A:W.nsIn K mainGlobals "bool"=Z Y)(B:W.nsIn K mainGlobals "enumerate"=Z Y)(C:W.nsIn K mainGlobals "int"=Z Y)(D:W.nsIn K mainGlobals "isinstance"=Z Y)(E:W.nsIn K mainGlobals "len"=Z Y)(F:W.nsIn K mainGlobals "list"=Z Y)(H:W.nsIn K mainGlobals "range"=Z Y)(I:W.nsIn K mainGlobals "sorted"=Z Y)(J:W.nsIn K mainGlobals "tuple"=Z Y)(f:W.nsIn K mainGlobals "zip"=Z Y)(g:W.nsIn K mainGlobals "MOST_PLACES"=Z (Z (.int 40 e)))(c:W.nsIn K mainGlobals "NoPlace"=Z (Z (.ref a)))(v13:W.excIn K a bmV "ValueError.__new__"=true)(d:W.nsIn K mainGlobals "NoTree"=Z (Z (.ref b)))(v15:W.excIn K b bmV "ValueError.__new__"=true)(v16:W.exmOne K (.ref b) (.ref a)=Z false)(v17:W.exmOne K (.ref a) (.ref a)=Z true)(v18:W.exmOne K (.ref b) (.ref b)=Z true)(v19:W.exmOne K (.ref a) (.ref b)=Z false)(i:W.findIn K (.ref a) "__getattribute__"=Z (Z (.builtin "BaseException.__getattribute__")))(j:W.findIn K (.ref a) "__getattr__"=Z Y)(k:W.subIn K (.ref a) (.type "BaseException")=Z true)(l:(W.clsIn K a).isSome=true)(m:W.findIn K (.ref a) "__class__"=Z (Z (.builtin "object.__class__")))(n:W.specialIn K (.builtin "object.__class__") "__get__"=Z (Z (.builtin "getset_descriptor.__get__")))(o:W.takesIn K (.builtin "object.__class__")=Z true)(p:W.mroIn K a (.type "object")=Z true)(q:W.findIn K (.ref b) "__getattribute__"=Z (Z (.builtin "BaseException.__getattribute__")))(r:W.findIn K (.ref b) "__getattr__"=Z Y)(s:W.subIn K (.ref b) (.type "BaseException")=Z true)(t:(W.clsIn K b).isSome=true)(u:W.findIn K (.ref b) "__class__"=Z (Z (.builtin "object.__class__")))(v:W.specialIn K (.builtin "object.__class__") "__get__"=Z (Z (.builtin "getset_descriptor.__get__")))(x:W.takesIn K (.builtin "object.__class__")=Z true)(y:W.mroIn K b (.type "object")=Z true)(v36:ZL K (.ref a) gY=true)(v37:W.kitOne K (.type "NoneType") (.ref a)=Z false)(v38:W.keepIn K (.ref b)=true)(v39:DN (.ref b)=false)(v40:Def K mg "_law_deck" pW)(v41:Def K mg "is_row" yD)(v42:Def K mg "is_row_of" qA)(v43:Def K mg "common" xG)(v44:Def K mg "is_whole" rZ)(v45:Def K mg "has_amount_numbers" fI)(v46:Def K mg "is_amount" qC)(v47:Def K mg "is_place" rM)(v48:Def K mg "are_unlike_places" fY)(v49:Def K mg "is_between_places" fZ)(v50:Def K mg "rows_beside" mB)(v51:Def K mg "steps_from" oE)(v52:Def K mg "is_rising" pR)(v53:Def K mg "is_tree" uQ)(v54:Def K mg "refuse_no_tree" iS)(v55:Def K mg "is_below" sW)(v56:Def K mg "least_from" nX)(v57:Def K mg "all_between" lS)(v58:Def K mg "first_least" mO)(v59:Def K mg "refuse_no_two_places" eK)(v60:Def K mg "tree_way" rO)(v61:Def K mg "side_behind" mC)(v62:Def K mg "least_between" jF)(v63:Def K mg "_law_amount" mI)(v64:Def K mg "_law_drawn" nY)(v65:Def K mg "_law_lists" oF)(v66:Def K mg "_law_ways" pZ)(v67:Def K mg "_law_due" rP)(v68:Def K mg "_law_refused" kX)(v69:Def K mg "_law_right" oI)(v70:Def K mg "_law_long_right" gZ)(v71:Def K mg "_law_no_tree" lA)(v72:Def K mg "law" NS):Txt K mg:=by
 cases SR c;cases SR d;exact⟨(eJ (J8 X G z)<|eJ (J8 X G A)<|eJ (J8 X G B)<|eJ (J8 X G C)<|eJ (J8 X G D)<|eJ (J8 X G E)<|eJ (J8 X G F)<|eJ (J8 X G H)<|eJ (J8 X G I)<|eJ (J8 X G J)<|eJ (J8 X G f) aCv),⟨_,W.mg_of X G g⟩,W.mg_of X G c,v13,W.mg_of X G d,v15,v16,v17,v18,v19,⟨⟨i,j,k,l⟩,m,n,o,p⟩,⟨⟨q,r,s,t⟩,u,v,x,y⟩,v36,v37,v38,v39,v40,v41,v42,v43,v44,v45,v46,v47,v48,v49,v50,v51,v52,v53,v54,v55,v56,v57,v58,v59,v60,v61,v62,v63,v64,v65,v66,v67,v68,v69,v70,v71,v72⟩
end
end Q25
end
end
section
namespace Q25
variable{M M' M3 M4:Sto}{d x y z:Tz}{N c m n ps:Nat}{J K a b f h i j p q r u z1 z2:Int}{γ γ':Ga}{ds ys:T4}{us vs:Tv Tie}{L S U l ts ws xs:T7}{g:GF}{ee:EF}{s:Tie}{fa:AF}{draw found g6:Te}{w:CD}
open PySem PySem.Spec PyProof.Rows L2
local macro_rules | `(tactic| simp! [$a,*]) => `(tactic| simp only [fnF, fnX, iY, VP, aKE, iR, yZ, kP, MP, aLv, liA, liE, liS, uJ, HN, zP, aLL, aBr, setG, NF, fX, aS, sIf, bQ, aLo, bX, bC, mD, hName, iB, bD, iV, hSub, gOr, DT, iM, gB, DO, aDj, aK, aC, aG, aD, fC, fOp, fUn, qN, fOr, aEN, fIf, IY, asB, bY, iQ, lM, mV, EC, QM, pI, ifS, aJj, LY, vP, qH, fG, KP, ltI, leI, gtI, geI, Option.bind_some, Option.bind_none, Option.map_some, List.getElem?_cons_zero, List.getElem?_cons_succ, List.length_cons, List.length_nil, List.set_cons_zero, List.set_cons_succ, List.map_cons, List.map_nil, List.replicate_zero, List.replicate_succ, List.cons_append, List.nil_append, List.append_nil, if_true, ite_true, ite_false, Nat.reduceAdd, Nat.reduceSub, reduceIte, Bool.not_true, Bool.not_false, Bool.false_eq_true, $a,*])
noncomputable def qZ:Tz->Bool
 |.int _=>true
 |_=>false
noncomputable def uR:Tz->Bool
 |.list _=>true
 |.tuple _=>true
 |_=>false
def qE(x:Tz)(M:Sto):jH [.d x] M=Z (.d (.bool (qZ x)),M):=by cases x<;>rfl
def rS(x:Tz)(M:Sto):oS [.d x] M=Z (.d (.bool (uR x)),M):=by cases x<;>rfl
def dU(d:Tz)(n:Int):Bool:=match aQ d with
 |some ds=>((ds.length:Int)==n)
 |none=>false
def bV(x:Tz)(n:Int)(M:Sto):fU [.d x,.d (.int n)] M=Z (.d (.bool (dU x n)),M):=by cases x<;>rfl
def aAG(x y:Int):Int.gcd y (x % y)=Int.gcd x y:=by
 rw[Int.gcd_comm x y];have:x % y=x-y*(x / y):=by have:=Int.emod_add_mul_ediv x y;omega
 rw[this];simp
noncomputable abbrev I(n:Int):CD:=.d (.int n)
def eE{x y:Int}(h:0<y):jA x y=true:=by simp[jA,h]
theorem yS(M:Sto):∀(n:Nat)(x y:Int),0<=x->0<=y->y.toNat<n->
 fJ (DO<|aD 1) (aCy 0 1<|aC (aD 1)<|aC (fOp fG (aD 0)<|aD 1) aG) n [Z (I x),Z<|I y] M=Z (.nx [Z (I<|Int.gcd x y),Z<|I 0],M)
 |0=>fun _ _ _ _ h=>by omega
 |n+1=>fun x y hx hy h=>by
  by_cases e:y=0
  .subst e;have:(Int.gcd x 0:Int)=x:=by rw[Int.gcd_zero_right];omega
   rw[this];rfl
  .have k:0<y:=by omega
   have ih:=yS M n y (x % y) hy (U1 _ e) (by have:=S0 x k;omega);rw[aAG]at ih;rw[<- ih];have o:(y != 0)=true:=by simp[e]
   simp only[fJ,DO,aD,aDj,aCy,aC,fOp,aG,fG,pI,ifS,eE k,o,Option.bind,List.getElem?_cons_succ,List.getElem?_cons_zero,if_true,List.set]
def ZJ(M:Sto)(ha:0<=a)(e:0<=b):CI [I a,I b] M=Z (I<|Int.gcd a b,M):=by
 have h:uP [Z (I a),Z<|I b] M=_:=BG<|yS M (b.toNat+1) a b ha e<|O6 _;show((aS uP _ [Z (I a),Z<|I b] M).bind _)=_;unfold aS;rw[h];rfl
noncomputable abbrev B(b:Bool):CD:=.d (.bool b)
def yP(d:Tz):Bool:=match aQ d with
 |some [.int a,.int b]=>decide (0<=a)&&decide (1<=b)
 |_=>false
def aJt(h:dU x 2=true):∃a b,x=.list [a,b]\/x=.tuple [a,b]:=by
 unfold dU at h;cases x with
 |list ds=>
  have h:((ds.length:Int)==2)=true:=h;rcases ds with _|⟨a,_|⟨b,_|⟨c,r⟩⟩⟩
  .simp at h
  .simp at h
  .exact⟨a,b,.inl rfl⟩
  .simp at h;omega
 |tuple ds=>
  have h:((ds.length:Int)==2)=true:=h;rcases ds with _|⟨a,_|⟨b,_|⟨c,r⟩⟩⟩
  .simp at h
  .simp at h
  .exact⟨a,b,.inr rfl⟩
  .simp at h;omega
 |_=>simp[aQ]at h
def aCJ(h:dU x 2=false):yP x=false:=by
 unfold yP;unfold dU at h;cases q:aQ x with
 |none=>rfl
 |some ds=>
  rw[q]at h;rcases ds with _|⟨a,_|⟨b,_|⟨c,r⟩⟩⟩
  .rfl
  .cases a<;>rfl
  .simp at h
  .cases a<;>cases b<;>rfl
def aLc{a b:Tz}:ixF (.d (.list [a,b])) (I 0) M=Z (.d a,M):=rfl
def aKu{a b:Tz}:ixF (.d (.list [a,b])) (I 1) M=Z (.d b,M):=rfl
def aLJ{a b:Tz}:ixF (.d (.tuple [a,b])) (I 0) M=Z (.d a,M):=rfl
def aLQ{a b:Tz}:ixF (.d (.tuple [a,b])) (I 1) M=Z (.d b,M):=rfl
def aLp{p q:Bool}:(if p=true then Z (B q,M)else Z (B false,M))=Z (B (p&&q),M):=by cases p<;>rfl
def fW(x:Tz)(M:Sto):bP [.d x] M=Z (B<|yP x,M):=by
 cases h:dU x 2 with
 |false=>
  rw[aCJ h];simp![bP,cA,bV,h]
 |true=>
  obtain⟨a,b,rfl|rfl⟩:=aJt h
  .cases a<;>cases b<;>first|rfl|(rename_i a b;simp![bP,cA,bV,h,qE,aLc,aKu,qZ,aLp];rfl)
  .cases a<;>cases b<;>first|rfl|(rename_i a b;simp![bP,cA,bV,h,qE,aLJ,aLQ,qZ,aLp];rfl)
def wO:eqX false (I i) (I j) M=Z (B (i==j),M):=rfl
def XE:eqX true (I i) (I j) M=Z (B (!(i==j)),M):=rfl
def aKC(n m:Nat):((n:Int)==(m:Int))=(n==m):=by
 rw[Y8];simp;omega
noncomputable def DA(a b:Int):Bool:=decide (0<=a)&&decide (1<=b)&&(Int.gcd a b==1)
def oG(d:Tz):Bool:=match aQ d with
 |some [.int a,.int b]=>DA a b
 |_=>false
def aLR(h:yP x=true):∃a b,(x=.list [.int a,.int b]\/x=.tuple [.int a,.int b])/\0<=a/\1<=b:=by
 unfold yP at h;split at h
 .rename_i a b e;rw[B8,F8,F8]at h;refine⟨a,b,?_,h⟩;cases x with
  |list ds=>left;exact L5 PyData.list<|D3 e
  |tuple ds=>right;exact L5 PyData.tuple<|D3 e
  |_=>cases e
 .cases h
def aAp(h:yP x=false):oG x=false:=by
 unfold yP at h;unfold oG;split
 .rename_i a b e;rw[e]at h;unfold DA;rw[show(decide (0<=a)&&decide (1<=b))=false from h];rfl
 .rfl
def LK(x:Tz)(M:Sto):dP [.d x] M=Z (B<|oG x,M):=by
 cases h:yP x with
 |false=>
  rw[aAp h];simp![dP,kF,fW,h]
 |true=>
  obtain⟨a,b,hx,ha,k⟩:=aLR h;have e:DA a b=(Int.gcd a b==1):=by unfold DA;rw[B9 ha,B9 k];rfl
  have c:=fun M=>ZJ M ha<|Int.le_trans (by decide) k;rcases hx with rfl|rfl
  .rw[show oG (.list [.int a,.int b])=DA a b from rfl,e];simp![dP,kF,fW,h,aLc,aKu,c,wO];rw[show(1:Int)=((1:Nat):Int)from rfl,aKC]
  .rw[show oG (.tuple [.int a,.int b])=DA a b from rfl,e];simp![dP,kF,fW,h,aLJ,aLQ,c,wO];rw[show(1:Int)=((1:Nat):Int)from rfl,aKC]
def wsm{y:Int}(h:0<=y)(k:y<2 ^ 200):y.natAbs<dQ:=by
 have e:y.natAbs<2 ^ 200:=by omega
 exact B6 e<|Nat.pow_le_pow_right (by decide) (by decide)
def zQ{x y:Int}(h:0<y)(e:y.natAbs<dQ):yQ x y=true:=by simp[yQ,h,e]
noncomputable abbrev E60:Int:=1000000000000000000000000000000000000000000000000000000000000
def aLd:Tz->Tz->Bool
 |.int a,.int b=>DA a b
 |_,_=>false
def SV{a b:Tz}(h:aQ x=Z [a,b]):oG x=aLd a b:=by
 unfold oG;rw[h];cases a<;>first|rfl|(cases b<;>rfl)
def gE(h:aQ x=Z ds):fQ [.d x] M=Z (I ds.length,M):=by
 cases x with
 |list l=>cases h;rfl
 |tuple l=>cases h;rfl
 |_=>cases h
def tK:uR x=(aQ x).isSome:=by cases x<;>rfl
def ES(h:aQ x=Z ds):bO [.d x] M=Z (.d (.tuple ds),M):=by
 cases x with
 |list l=>cases h;rfl
 |tuple l=>cases h;rfl
 |_=>cases h
def eI(h:aQ x=Z ds):ixF (.d x) (I i) M=(atI ds i).bind fun e=>Z (.d e,M):=by
 show(aQ x).bind _=_;rw[h];rfl
def aMj(ds:T4)(h:((ds.length:Int)==2)=true):∃a b,ds=[a,b]:=by
 rcases ds with _|⟨a,_|⟨b,_|⟨c,r⟩⟩⟩
 .simp at h
 .simp at h
 .exact⟨a,b,rfl⟩
 .simp at h;omega
def RR(h:aQ x=Z ds)(e:((ds.length:Int)==2)=false):oG x=false:=by
 unfold oG;rw[h];rcases ds with _|⟨a,_|⟨b,_|⟨c,r⟩⟩⟩
 .rfl
 .cases a<;>rfl
 .simp at e
 .cases a<;>cases b<;>rfl
noncomputable def plB(n:Int):Tz->Bool
 |.int i=>decide (0<=i)&&decide (i<n)
 |_=>false
def vC(n:Int)(x:Tz)(M:Sto):hV [I n,.d x] M=Z (B<|plB n x,M):=by
 cases x with
 |int i=>
  cases h:decide (0<=i)with
  |true=>
   rw[show plB n (.int i)=(decide (0<=i)&&decide (i<n))from rfl,h,L9];simp![hV,lX,qE,qZ,h]
  |false=>
   rw[show plB n (.int i)=(decide (0<=i)&&decide (i<n))from rfl,h,S9];simp![hV,lX,qE,qZ,h]
 |_=>rfl
def bK(n:Int)(d:Tz):Tw (Int×Int):=match aQ d with
 |some [.int i,.int j,a]=>if (decide (0<=i)&&decide (i<j)&&decide (j<n)&&oG a)=true then Z (i,j)else Y
 |_=>Y
noncomputable def XT(n:Int):Tz->Tz->Bool
 |.int i,.int j=>decide (0<=i)&&decide (i<j)&&decide (j<n)
 |_,_=>false
def AK(n i j:Int)(M:Sto):bF [I n,I i,I j] M=Z (B (plB n (.int i)&&(plB n (.int j)&&!(i==j))),M):=by
 cases e:plB n (.int i)<;>cases k:plB n (.int j)<;>simp![bF,cK,vC,e,k,XE,Bool.true_and,Bool.false_and]
def rJ(n:Int)(x y:Tz)(M:Sto)(h:plB n x=false\/plB n y=false):bF [I n,.d x,.d y] M=Z (B false,M):=by
 cases e:plB n x with
 |false=>simp![bF,cK,vC,e]
 |true=>
  have k:plB n y=false:=h.resolve_left (by rw[e];decide);simp![bF,cK,vC,e,k]
def aLS(ds:T4)(h:((ds.length:Int)==3)=true):∃a b c,ds=[a,b,c]:=by
 rcases ds with _|⟨a,_|⟨b,_|⟨c,_|⟨d,r⟩⟩⟩⟩
 .simp at h
 .simp at h
 .simp at h
 .exact⟨a,b,c,rfl⟩
 .simp at h;omega
def AM{n:Int}(h:aQ x=Z ds)(e:((ds.length:Int)==3)=false):bK n x=Y:=by
 unfold bK;rw[h];rcases ds with _|⟨a,_|⟨b,_|⟨c,_|⟨d,r⟩⟩⟩⟩
 .rfl
 .cases a<;>rfl
 .cases a<;>first|rfl|(cases b<;>rfl)
 .simp at e
 .cases a<;>first|rfl|(cases b<;>rfl)
def OG{n:Int}{a b c:Tz}(h:aQ x=Z [a,b,c]):(bK n x).isSome=(XT n a b&&oG c):=by
 unfold bK;rw[h];cases a with
 |int i=>
  cases b with
  |int j=>
   show(if (decide (0<=i)&&decide (i<j)&&decide (j<n)&&oG c)=true then Z (i,j)else Y).isSome=(decide (0<=i)&&decide (i<j)&&decide (j<n)&&oG c);cases (decide (0<=i)&&decide (i<j)&&decide (j<n)&&oG c)<;>rfl
  |_=>rfl
 |_=>cases b<;>rfl
def aHz(n i j:Int):(plB n (.int i)&&(plB n (.int j)&&!(i==j))&&decide (i<j))=(decide (0<=i)&&decide (i<j)&&decide (j<n)):=by
 unfold plB;by_cases e:0<=i
 .by_cases k:i<j
  .by_cases o:j<n
   .have a:i<n:=by omega
    have b:0<=j:=by omega
    have c:(i==j)=false:=by rw[A0i];omega
    simp[e,k,o,a,b,c]
   .simp[o]
  .simp[k]
 .simp[e]
def YW(n i j:Int)(M:Sto){c:Tz}(h:aQ x=Z [.int i,.int j,c]):aY [I n,.d x] M=Z (B<|XT n (.int i) (.int j),M):=by
 have r:dU x 3=true:=by unfold dU;rw[h];rfl
 have e:∀M,ixF (.d x) (I 0) M=Z (I i,M):=fun M=>eI h;have i1:∀M,ixF (.d x) (I 1) M=Z (I j,M):=fun M=>eI h;rw[show XT n (.int i) (.int j)=(decide (0<=i)&&decide (i<j)&&decide (j<n))from rfl,<- aHz];cases u:(plB n (.int i)&&(plB n (.int j)&&!(i==j)))with
 |false=>simp![aY,bU,bV,r,e,i1,AK,u,Bool.false_and]
 |true=>simp![aY,bU,bV,r,e,i1,AK,u,Bool.true_and]
def VS(n:Int)(M:Sto){a b c:Tz}(h:aQ x=Z [a,b,c])(q:plB n a=false\/plB n b=false):aY [I n,.d x] M=Z (B false,M):=by
 have r:dU x 3=true:=by unfold dU;rw[h];rfl
 have e:∀M,ixF (.d x) (I 0) M=Z (.d a,M):=fun M=>eI h;have i1:∀M,ixF (.d x) (I 1) M=Z (.d b,M):=fun M=>eI h;simp![aY,bU,bV,r,e,i1,rJ n a b _ q]
def aAP(n:Int)(M:Sto)(r:dU x 3=false):aY [I n,.d x] M=Z (B false,M):=by
 simp![aY,bU,bV,r]
noncomputable abbrev HJ:EF:=(qN (aK aY<|aC (aD 0)<|aC (aD 1) aG)<|aK dP<|aC (fOp ixF (aD 1)<|fC (.int 2)) aG)
def aJZ(n:Int)(x:Tz)(M:Sto):HJ [Z (I n),Z (.d x)] M=Z (B (bK n x).isSome,M):=by
 cases hi:aQ x with
 |none=>
  have e:bK n x=Y:=by unfold bK;rw[hi]
  have b:=aAP n M (x:=x) (by unfold dU;rw[hi]);rw[e];simp![HJ,b];rfl
 |some ds=>
  cases o:((ds.length:Int)==3)with
  |false=>
   have b:=aAP n M (x:=x) (by unfold dU;rw[hi];exact o);rw[AM hi o];simp![HJ,b];rfl
  |true=>
   obtain⟨a,b,c,rfl⟩:=aLS ds o;have i2:∀M,ixF (.d x) (I 2) M=Z (.d c,M):=fun M=>eI hi;rw[OG hi]
   have t:∀(q:plB n a=false\/plB n b=false),XT n a b=false->HJ [Z (I n),Z (.d x)] M=Z (B (XT n a b&&oG c),M):=fun q e=>by
    have k:=VS n M hi q;rw[e,S9];simp![HJ,k]
   cases a with
   |int i=>
    cases b with
    |int j=>
     have k:=YW n i j M hi;cases w:XT n (.int i) (.int j)with
     |false=>rw[w]at k;simp![HJ,k,Bool.false_and]
     |true=>rw[w]at k;simp![HJ,k,i2,LK,Bool.true_and]
    |_=>exact t (.inr rfl) rfl
   |_=>exact t (.inl rfl) rfl
def sz{k:Nat}(h:k<=1000):k<=sizeLine:=by rw[E9];omega
def ER(bs:Tv Bool):boolsOf (bs.map .bool)=Z bs:=by
 induction bs with
 |nil=>rfl
 |cons b bs ih=>
  show(boolsOf<|bs.map .bool).bind _=_;rw[ih];rfl
theorem gQ:∀ds:T4,mV (ds.map .d)=Z ds
 |[]=>rfl
 |d::ds=>by
  show(mV<|ds.map .d).map (d::·)=_;rw[gQ ds];rfl
theorem TX(n:Int)(M:Sto):∀(ds:T4)(g:Te),lcF (hName 1) eN HJ (ds.map .d) [Z (I n),g] M=Z ((ds.map fun d=>PyData.bool (bK n d).isSome).map .d,M)
 |[]=>fun g=>rfl
 |d::ds=>fun g=>by
  have ih:=TX n M ds<|Z (.d d);rw[C0,C0,C0];unfold lcF;rw[show hName 1 (.d d) [Z (I n),g] M=Z ([Z (I n),Z (.d d)],M)from rfl,A1];dsimp only;rw[show eN [Z (I n),Z (.d d)] M=Z (true,M)from rfl,A1];dsimp only;rw[A4 rfl,aJZ,A1];dsimp only;rw[ih];rfl
def qT{f:AF}{c:TF}{xs:T6}(it:f γ M=Z (xs,M))(e:xs.length<=sizeLine)(k:lcF g c ee xs (DX cap γ) M=Z (ys.map .d,M))(hy:ys.length<=sizeLine):fLc cap f g c ee γ M=Z (.d (.list ys),M):=by
 unfold fLc iQ yO;rw[it,A1];dsimp only;rw[A4 e,k,A1];dsimp only;rw[gQ,A1,A4 hy]
def CT{f:EF}(h:aQ x=Z ds)(e:f γ M=Z (.d x,M)):cQ f γ M=Z (ds.map .d,M):=by
 unfold cQ;rw[e,A1];dsimp only;rw[h];rfl
def aKt{n:Int}(h:aQ x=Z ds)(e:ds.length<=1000):sA [Z (I n),Z (.d x)] M=Z (.d (.list (ds.map fun d=>PyData.bool (bK n d).isSome)),M):=
 qT (CT h rfl) (sz (by rw[A3];exact e)) (TX n M ds Y) (sz (by rw[A3];exact e))
def aBk(ds:T4)(p:Tz->Bool)(M:Sto):DU [.d (.list (ds.map fun d=>PyData.bool<|p d))] M=Z (B<|ds.all p,M):=by
 have:=ER<|ds.map p;rw[U3]at this;show(boolsOf<|ds.map (PyData.bool ∘ p)).bind _=_;rw[this,A1,List.all_map];rfl
noncomputable abbrev Ed:=Int×Int
noncomputable abbrev at0(l:T7)(p:Int):Int:=l.getD p.toNat 0
def gJ(l:T7)(t:Ed):T7:=l.map (fun z=>if z=at0 l t.2 then at0 l t.1 else z)
noncomputable def zs(n:Nat):T7:=(List.range n).map Int.ofNat
abbrev Inn(n:Nat)(p:Int):Prop:=0<=p/\p<n
def xI(l:T7)(t:Ed):(gJ l t).length=l.length:=by simp[gJ]
def yF(n:Nat):(zs n).length=n:=by simp[zs]
def EY(h:Inn n p):at0 (zs n) p=p:=by
 have:p.toNat<n:=by omega
 simp only[at0,zs,List.getD_eq_getElem?_getD,List.getElem?_map,List.getElem?_range this,Option.map_some,Option.getD_some];show((p.toNat:Nat):Int)=p;omega
def zs_mem:q∈zs n↔Inn n q:=by
 unfold zs;rw[List.mem_map];constructor
 .rintro⟨k,e,rfl⟩;have:=List.mem_range.mp e;exact⟨Int.natCast_nonneg k,by show((k:Nat):Int)<n;omega⟩
 .intro h;exact⟨q.toNat,List.mem_range.mpr (by omega),by show((q.toNat:Nat):Int)=q;omega⟩
def aAc(n:Nat):(zs n).Nodup:=by
 unfold zs;rw[S6,A0q];exact(List.nodup_iff_pairwise_ne.mp List.nodup_range).imp fun h e=>h (by have:((_:Nat):Int)=((_:Nat):Int):=e;omega)
def fB(k:l.length=n)(hp:Inn n p):at0 (gJ l t) p=if at0 l p=at0 l t.2 then at0 l t.1 else at0 l p:=by
 have e:p.toNat<l.length:=by omega
 unfold gJ;simp only[at0,List.getD_eq_getElem?_getD,List.getElem?_map,List.getElem?_eq_getElem e,Option.map_some,Option.getD_some]
abbrev Oks(n:Nat)(us:Tv Ed):Prop:=∀t∈us,Inn n t.1/\Inn n t.2
theorem JW{n:Nat}:∀(us:Tv Ed)(l:T7),l.length=n->Oks n us->∀p q,Inn n p->Inn n q->((p,q)∈us\/at0 l p=at0 l q)->at0 (us.foldl gJ l) p=at0 (us.foldl gJ l) q
 |[]=>fun l _ _ p q _ _ h=>by
  rcases h with h|h
  .cases h
  .exact h
 |u::us=>fun l k ok p q o v h=>by
  rw[Y1];refine JW us (gJ l u) (by rw[xI,k]) (fun t ht=>ok t<|A8 _ ht) p q o v ?_;rcases h with h|h
  .rcases List.mem_cons.mp h with e|ht
   .right
    subst e;rw[fB k o,fB k v,A4 rfl];split<;>rfl
   .exact .inl ht
  .right
   rw[fB k o,fB k v,h]
theorem BE{n:Nat}{S:Int->Prop}:∀(us:Tv Ed)(l:T7),l.length=n->Oks n us->(∀t∈us,(S t.1↔S t.2))->(∀p q,Inn n p->Inn n q->at0 l p=at0 l q->(S p↔S q))->
 ∀p q,Inn n p->Inn n q->at0 (us.foldl gJ l) p=at0 (us.foldl gJ l) q->(S p↔S q)
 |[]=>fun l _ _ _ h=>h
 |u::us=>fun l B ok cl h=>by
  rw[Y1];refine BE us (gJ l u) (by rw[xI,B]) (fun t ht=>ok t<|A8 _ ht) (fun t ht=>cl t<|A8 _ ht) ?_;intro p q o v e;obtain⟨C,D⟩:=ok u<|A9 ..;rw[fB B o,fB B v]at e;have c:=cl u<|A9 ..;by_cases A:at0 l p=at0 l u.2
  .rw[A4 A]at e;by_cases k:at0 l q=at0 l u.2
   .exact h p q o v<|A.trans k.symm
   .rw[B0 k]at e;exact(h p u.2 o D A).trans (c.symm.trans<|h u.1 q C v e)
  .rw[B0 A]at e;by_cases k:at0 l q=at0 l u.2
   .rw[A4 k]at e;exact(h p u.1 o C e).trans (c.trans<|h u.2 q D v k.symm)
   .rw[B0 k]at e;exact h p q o v e
def gP(n:Nat)(us:Tv Ed):T7:=us.foldl gJ<|zs n
def yT{us:Tv Ed}{S:Int->Prop}(ok:Oks n us)(cl:∀t∈us,(S t.1↔S t.2))(hp:Inn n p)(k:Inn n q)(e:at0 (gP n us) p=at0 (gP n us) q):S p↔S q:=
 BE us (zs n) (yF n) ok cl (fun p q hp k e=>by rw[EY hp,EY k]at e;rw[e]) p q hp k e
def xE{us:Tv Ed}(ok:Oks n us){t:Ed}(ht:t∈us):at0 (gP n us) t.1=at0 (gP n us) t.2:=
 JW us (zs n) (yF n) ok t.1 t.2 (ok t ht).1 (ok t ht).2 (.inl ht)
structure Lb(n:Nat)(l:T7):Prop where
 len:l.length=n
 inn:∀p,Inn n p->Inn n (at0 l p)
 own:∀p,Inn n p->at0 l (at0 l p)=at0 l p
def Lb.start(n:Nat):Lb n (zs n):=⟨yF n,fun p e=>by rw[EY e];exact e,fun p e=>by rw[EY e,EY e]⟩
def Lb.next{t:Ed}(h:Lb n l)(o:Inn n t.1)(v:Inn n t.2):Lb n (gJ l t):=by
 refine⟨by rw[xI,h.len],fun p k=>?_,fun p k=>?_⟩
 .rw[fB h.len k];split
  .exact h.inn _ o
  .exact h.inn _ k
 .rw[fB h.len k];by_cases e:at0 l p=at0 l t.2
  .rw[A4 e,fB h.len<|h.inn _ o,h.own _ o];split<;>rfl
  .rw[B0 e,fB h.len<|h.inn _ k,h.own _ k,B0 e]
def roots(n:Nat)(l:T7):Nat:=(zs n).countP fun p=>at0 l p==p
theorem GC{r:Int}{f g:Int->Bool}:∀xs:T7,xs.Nodup->r∈xs->(∀p∈xs,p≠r->f p=g p)->g r=true->f r=false->xs.countP f+1=xs.countP g
 |[]=>fun _ h _ _ _=>by cases h
 |x::xs=>fun nd h e o fr=>by
  rw[List.nodup_cons]at nd;have same:∀ys:T7,(∀p∈ys,f p=g p)->ys.countP f=ys.countP g:=fun ys hy=>List.countP_congr fun p k=>by rw[hy p k]
  by_cases q:x=r
  .subst q;rw[List.countP_cons,List.countP_cons,o,fr,same xs fun p k=>e p (A8 _ k) fun z=>nd.1 (z▸k)];simp
  .have t:r∈xs:=(List.mem_cons.mp h).resolve_left fun z=>q z.symm;have ih:=GC xs nd.2 t (fun p k=>e p<|A8 _ k) o fr;rw[List.countP_cons,List.countP_cons,e x (A9 ..) q];omega
def AI{t:Ed}(h:Lb n l)(A:Inn n t.1)(k:Inn n t.2)(v:at0 l t.1≠at0 l t.2):roots n (gJ l t)+1=roots n l:=by
 refine GC (r:=at0 l t.2) _ (aAc n) (zs_mem.mpr<|h.inn _ k) (fun p o q=>?_) ?_ ?_
 .have o:=zs_mem.mp o;rw[fB h.len o];by_cases e:at0 l p=at0 l t.2
  .rw[A4 e,e];have a:(at0 l t.2==p)=false:=by rw[A0i];exact fun z=>q z.symm
   have b:(at0 l t.1==p)=false:=by
    rw[A0i];intro z;have:=h.own _ A;rw[z,e,<- z]at this;exact v this.symm
   rw[a,b]
  .rw[B0 e]
 .rw[h.own _ k,A0j]
 .rw[fB h.len (h.inn _ k),h.own _ k,A4 rfl,A0i];exact v
def CL{t:Ed}(e:at0 l t.1=at0 l t.2):gJ l t=l:=by
 unfold gJ;rw[e]
 conv=>rhs;rw[<- List.map_id l]
 refine A0x fun z _=>?_;split
 .rename_i h;exact h.symm
 .rfl
def yY:T7->Tv Ed->Bool
 |_,[]=>true
 |l,t::us=>!(at0 l t.1==at0 l t.2)&&yY (gJ l t) us
theorem NH{n:Nat}:∀(us:Tv Ed)(l:T7),Lb n l->Oks n us->Lb n (us.foldl gJ l)/\roots n l<=roots n (us.foldl gJ l)+us.length/\(yY l us=true↔roots n l=roots n (us.foldl gJ l)+us.length)
 |[]=>fun l h _=>⟨h,A6 _,by simp[yY]⟩
 |t::us=>fun l h ok=>by
  obtain⟨k,o⟩:=ok t<|A9 ..;rw[Y1];obtain⟨a,b,c⟩:=NH us (gJ l t) (h.next k o) fun u v=>ok u<|A8 _ v;refine⟨a,?_,?_⟩
  .by_cases e:at0 l t.1=at0 l t.2
   .rw[CL e]at b ⊢;rw[C9];omega
   .have:=AI h k o e;rw[C9];omega
  .unfold yY;by_cases e:at0 l t.1=at0 l t.2
   .rw[show(at0 l t.1==at0 l t.2)=true from beq_iff_eq.mpr e];rw[CL e]at b ⊢;rw[C9];constructor
    .intro z;simp at z
    .intro z;omega
   .have:=AI h k o e;rw[show(at0 l t.1==at0 l t.2)=false from beq_eq_false_iff_ne.mpr e,C9];rw[Bool.not_false,L9,c];omega
def aBF(n:Nat):roots n (zs n)=n:=by
 unfold roots
 have:(zs n).countP (fun p=>at0 (zs n) p==p)=(zs n).length:=List.countP_eq_length.mpr fun p e=>by
  rw[EY (zs_mem.mp e),A0j]
 rw[this,yF]
def WQ(h:Lb n l)(v:0<n):roots n l=1↔∀p,Inn n p->at0 l p=at0 l 0:=by
 have o:Inn n 0:=⟨by omega,by omega⟩
 have rt:∀p,Inn n p->at0 l p∈(zs n).filter fun p=>at0 l p==p:=fun p k=>by
  rw[List.mem_filter,zs_mem,A0j];exact⟨h.inn p k,h.own p k⟩
 constructor
 .intro e p k;unfold roots at e;rw[List.countP_eq_length_filter]at e;obtain⟨c,t⟩:=List.length_eq_one_iff.mp e;have a:=rt p k;have b:=rt 0 o;rw[t,D4]at a b;rw[a,b]
 .intro e;unfold roots;rw[List.countP_eq_length_filter]
  have:(zs n).filter (fun p=>at0 l p==p)=[at0 l 0]:=by
   have nd:((zs n).filter fun p=>at0 l p==p).Nodup:=(aAc n).filter fun p=>at0 l p==p
   have all:∀x∈(zs n).filter fun p=>at0 l p==p,x=at0 l 0:=fun x hx=>by
    rw[List.mem_filter,zs_mem,A0j]at hx;rw[<- e x hx.1];exact hx.2.symm
   have mem:=rt 0 o;generalize (zs n).filter (fun p=>at0 l p==p)=xs at nd all mem;rcases xs with _|⟨x,_|⟨y,ys⟩⟩
   .cases mem
   .rw[all x (A9 ..)]
   .rw[List.nodup_cons]at nd;exact absurd (List.mem_cons.mpr (.inl ((all x<|A9 ..).trans (all y (by simp)).symm))) nd.1
  rw[this];rfl
def xZ{us:Tv Ed}(e:0<n)(k:us.length+1=n)(ok:Oks n us):yY (zs n) us=true↔∀p,Inn n p->at0 (gP n us) p=at0 (gP n us) 0:=by
 obtain⟨a,b,c⟩:=NH us (zs n) (Lb.start n) ok;rw[aBF]at b c;rw[c];show _↔∀p,Inn n p->at0 (us.foldl gJ<|zs n) p=at0 (us.foldl gJ<|zs n) 0;rw[<- WQ a e];omega
noncomputable abbrev Adj:=Tv<|Tv (Int×Int)
noncomputable def DZ(A:Adj)(p:Int)(q:Int×Int):Adj:=A.set p.toNat (A.getD p.toNat []++[q])
def MB(A:Adj)(t:Ed)(k:Int):Adj:=DZ (DZ A t.1 (t.2,k)) t.2 (t.1,k)
def kW:Adj->Nat->Tv Ed->Adj
 |A,_,[]=>A
 |A,k,t::us=>kW (MB A t (k:Nat)) (k+1) us
def tO(n:Nat)(us:Tv Ed):Adj:=kW (List.replicate n []) 0 us
def BA(A:Adj)(p:Int)(q:Int×Int):(DZ A p q).length=A.length:=by simp[DZ]
def BM(A:Adj)(t:Ed)(k:Int):(MB A t k).length=A.length:=by simp[MB,BA]
theorem BN:∀(us:Tv Ed)(A:Adj)(k:Nat),(kW A k us).length=A.length
 |[]=>fun _ _=>rfl
 |t::us=>fun A k=>by unfold kW;rw[BN us,BM]
def RA{A:Adj}{q:Int×Int}(o:A.length=n)(hp:Inn n p)(t:Inn n r)(x:Int×Int):x∈(DZ A p q).getD r.toNat []↔(x∈A.getD r.toNat []\/(p=r/\x=q)):=by
 have k:r.toNat<A.length:=by omega
 unfold DZ;rw[C3,List.getElem?_set];by_cases h:p.toNat=r.toNat
 .have e:p=r:=by omega
  subst e;rw[A4 rfl,A4 k,Option.getD_some,List.mem_append,D4];simp
 .have e:p≠r:=fun e=>h (by rw[e]);rw[B0 h,<- C3];simp[e]
def Lies(us:Tv Ed)(k:Nat)(r x m:Int):Prop:=∃(j:Nat)(t:Ed),us[j]?=Z t/\m=((k+j:Nat):Int)/\((t.1=r/\t.2=x)\/(t.2=r/\t.1=x))
def VH{t:Ed}{us:Tv Ed}{k:Nat}{x m:Int}:Lies (t::us) k r x m↔(m=(k:Nat)/\((t.1=r/\t.2=x)\/(t.2=r/\t.1=x)))\/Lies us (k+1) r x m:=by
 constructor
 .rintro⟨j,u,e,o,v⟩;cases j with
  |zero=>
   rw[List.getElem?_cons_zero]at e;cases e;exact .inl ⟨by simpa using o,v⟩
  |succ j=>
   rw[List.getElem?_cons_succ]at e;exact .inr ⟨j,u,e,by rw[o];congr 1;omega,v⟩
 .rintro(⟨e,o⟩|⟨j,u,e,o,v⟩)
  .exact⟨0,t,rfl,by simpa using e,o⟩
  .exact⟨j+1,u,by rw[List.getElem?_cons_succ];exact e,by rw[o];congr 1;omega,v⟩
theorem TR{n:Nat}:∀(us:Tv Ed)(A:Adj)(k:Nat),A.length=n->Oks n us->∀r x m,Inn n r->((x,m)∈(kW A k us).getD r.toNat []↔((x,m)∈A.getD r.toNat []\/Lies us k r x m))
 |[]=>fun A k _ _ r x m _=>by
  unfold kW Lies;simp
 |t::us=>fun A k B ok r x m C=>by
  obtain⟨D,E⟩:=ok t<|A9 ..;unfold kW;rw[TR us (MB A t (k:Nat)) (k+1) (by rw[BM,B]) (fun s hs=>ok s<|A8 _ hs) r x m C,VH];unfold MB;rw[RA (by rw[BA,B]) E C,RA B D C];simp only[Prod.mk.injEq];constructor
  .rintro(((h|⟨v,e,o⟩)|⟨v,e,o⟩)|h)
   .exact .inl h
   .exact .inr (.inl ⟨o,.inl ⟨v,e.symm⟩⟩)
   .exact .inr (.inl ⟨o,.inr ⟨v,e.symm⟩⟩)
   .exact .inr (.inr h)
  .rintro(h|⟨v,⟨e,o⟩|⟨e,o⟩⟩|h)
   .exact .inl (.inl (.inl h))
   .exact .inl (.inl (.inr ⟨e,o.symm,v⟩))
   .exact .inl (.inr ⟨e,o.symm,v⟩)
   .exact .inr h
def wW{us:Tv Ed}(ok:Oks n us){x m:Int}(e:Inn n r):(x,m)∈(tO n us).getD r.toNat []↔Lies us 0 r x m:=by
 unfold tO;rw[TR us _ 0 (by simp) ok r x m e]
 have:(List.replicate n ([]:Tv (Int×Int))).getD r.toNat []=[]:=by
  rw[C3,A0k];split<;>rfl
 rw[this];simp
structure Sc where
 fs:T7
 ws:T7
 ss:Tv (Int×Int×Int)
def see(u:Int)(s:Sc)(x:Int×Int):Sc:=if x.1∈s.fs then s else⟨s.fs++[x.1],s.ws++[x.1],s.ss++[(u,x.1,x.2)]⟩
theorem IR{n:Nat}{P:Int->Prop}{u:Int}:∀(xs:Tv (Int×Int))(s:Sc),(∀x∈xs,Inn n x.1/\P x.1)->s.fs.Nodup->(∀x∈s.fs,Inn n x/\P x)->
 ∃new:Tv (Int×Int),xs.foldl (see u) s=⟨s.fs++new.map (·.1),s.ws++new.map (·.1),s.ss++new.map fun y=>(u,y.1,y.2)⟩/\(s.fs++new.map (·.1)).Nodup/\(∀y∈new,y∈xs)/\(∀x∈xs,x.1∈s.fs++new.map (·.1))
 |[]=>fun s _ nd _=>⟨[],by simp,by simpa using nd,(by intro x hx;cases hx),(by intro x hx;cases hx)⟩
 |x::xs=>fun s hx nd D=>by
  rw[Y1];have k:∀y∈xs,Inn n y.1/\P y.1:=fun y hy=>hx y<|A8 _ hy;by_cases h:x.1∈s.fs
  .have e:see u s x=s:=by unfold see;rw[A4 h]
   rw[e];obtain⟨new,o,t,v,A⟩:=IR (u:=u) xs s k nd D;refine⟨new,o,t,fun y hy=>A8 _<|v y hy,fun y hy=>?_⟩;rcases List.mem_cons.mp hy with rfl|hy
   .exact C1 _ h
   .exact A y hy
  .have e:see u s x=⟨s.fs++[x.1],s.ws++[x.1],s.ss++[(u,x.1,x.2)]⟩:=by unfold see;rw[B0 h]
   rw[e]
   have B:(s.fs++[x.1]).Nodup:=by
    rw[Z5];exact⟨nd,by simp,fun a ha b E=>by rw[D4]at E;rw[E];exact fun q=>h (q▸ha)⟩
   have C:∀y∈s.fs++[x.1],Inn n y/\P y:=fun y hy=>by
    rcases List.mem_append.mp hy with hy|hy
    .exact D y hy
    .rw[D4]at hy;rw[hy];exact hx x<|A9 ..
   obtain⟨new,o,t,v,A⟩:=IR (u:=u) xs ⟨s.fs++[x.1],s.ws++[x.1],s.ss++[(u,x.1,x.2)]⟩ k B C;refine⟨x::new,?_,?_,?_,?_⟩
   .rw[o];simp
   .simpa using t
   .intro y hy;rcases List.mem_cons.mp hy with rfl|hy
    .exact A9 ..
    .exact A8 _<|v y hy
   .intro y hy;have r:s.fs++[x.1]++new.map (·.1)=s.fs++(x::new).map (·.1):=by simp
    rw[<- r];rcases List.mem_cons.mp hy with rfl|hy
    .exact C1 _<|A7 _<|List.mem_singleton.mpr rfl
    .exact A y hy
structure zJ(n:Nat)(A:Adj)(P:Int->Prop)(p:Int)(s:Sc):Prop where
 nd:s.fs.Nodup
 ok:∀x∈s.fs,Inn n x/\P x
 has:p∈s.fs
 sub:∀x∈s.ws,x∈s.fs
 cl:∀u∈s.fs,u∈s.ws\/∀v∈A.getD u.toNat [],v.1∈s.fs
 st:s.fs=p::s.ss.map (·.2.1)
 od:∀(q:Nat)(h t a:Int),s.ss[q]?=Z (h,t,a)->h∈p::(s.ss.take q).map (·.2.1)/\(t,a)∈A.getD h.toNat []
def zJ.start{P:Int->Prop}(hp:Inn n p)(h:P p):zJ n A P p ⟨[p],[p],[]⟩:=
 ⟨by simp,fun x hx=>by rw[D4]at hx;rw[hx];exact⟨hp,h⟩,List.mem_singleton.mpr rfl,fun x hx=>hx,fun u k=>.inl k,rfl,fun q h t a e=>by cases e⟩
def zJ.step{A:Adj}{P:Int->Prop}{fs:T7}{ss:Tv (Int×Int×Int)}(h:zJ n A P p ⟨fs,ws++[u],ss⟩)(C:∀x y,Inn n x->P x->y∈A.getD x.toNat []->Inn n y.1/\P y.1):
 ∃new:Tv (Int×Int),(A.getD u.toNat []).foldl (see u) ⟨fs,ws,ss⟩=⟨fs++new.map (·.1),ws++new.map (·.1),ss++new.map fun y=>(u,y.1,y.2)⟩/\(∀y∈new,y∈A.getD u.toNat [])/\zJ n A P p ⟨fs++new.map (·.1),ws++new.map (·.1),ss++new.map fun y=>(u,y.1,y.2)⟩:=by
 have o:=h.ok u<|h.sub u<|A7 _<|List.mem_singleton.mpr rfl;obtain⟨new,D,E,B,F⟩:=IR (n:=n) (P:=P) (u:=u) (A.getD u.toNat []) ⟨fs,ws,ss⟩ (fun x hx=>C u x o.1 o.2 hx) h.nd h.ok;refine⟨new,D,B,E,fun x hx=>?_,C1 _ h.has,fun x hx=>?_,fun v hv=>?_,?_,fun q g t a e=>?_⟩
 .rcases List.mem_append.mp hx with hx|hx
  .exact h.ok x hx
  .obtain⟨y,hy,rfl⟩:=List.mem_map.mp hx;exact C u y o.1 o.2<|B y hy
 .rcases List.mem_append.mp hx with hx|hx
  .exact C1 _<|h.sub x<|C1 _ hx
  .exact A7 _ hx
 .rcases List.mem_append.mp hv with hv|hv
  .rcases h.cl v hv with w|w
   .rcases List.mem_append.mp w with w|w
    .exact .inl (C1 _ w)
    .rw[D4]at w;rw[w];exact .inr F
   .exact .inr fun y hy=>C1 _<|w y hy
  .exact .inl (A7 _ hv)
 .have:=h.st;dsimp only at this ⊢;rw[this,C7,U3,List.cons_append];rfl
 .dsimp only at e ⊢;by_cases lt:q<ss.length
  .rw[E5 lt]at e;rw[List.take_append_of_le_length (A0z lt)];exact h.od q g t a e
  .rw[B4 (by omega),D0]at e;obtain⟨y,hy,e⟩:=Option.map_eq_some_iff.mp e;cases e;refine⟨?_,B y<|L8 hy⟩;have k:=h.sub u<|A7 _<|List.mem_singleton.mpr rfl;have st:=h.st;dsimp only at k st;rw[st]at k;rcases List.mem_cons.mp k with z|z
   .rw[z];exact A9 ..
   .refine A8 _ ?_;rw[List.take_append];rw[List.take_of_length_le (by omega),C7];exact C1 _ z
def uV{fs:T7}(nd:fs.Nodup)(ok:∀x∈fs,Inn n x):fs.length<=n:=by
 have e:=List.Nodup.length_le_of_subset nd (l₂:=zs n) fun x hx=>zs_mem.mpr<|ok x hx
 rwa [yF]at e
def xD{fs:T7}(nd:fs.Nodup)(ok:∀x∈fs,Inn n x):fs.length=n↔∀p,Inn n p->p∈fs:=by
 constructor
 .intro e p k;refine Classical.byContradiction fun h=>?_
  have:=uV (n:=n) (fs:=p::fs) (List.nodup_cons.mpr ⟨h,nd⟩) (fun x hx=>by
   rcases List.mem_cons.mp hx with rfl|hx
   .exact k
   .exact ok x hx)
  rw[C9]at this;omega
 .intro e;have t:=uV nd ok;have o:=List.Nodup.length_le_of_subset (aAc n) (l₂:=fs) fun x hx=>e x<|zs_mem.mp hx;rw[yF]at o;omega
def KI{us:Tv Ed}{x m:Int}(h:Lies us k r x m):(r,x)∈us\/(x,r)∈us:=by
 obtain⟨j,t,e,_,o⟩:=h;have ht:=L8 e;rcases o with⟨rfl,rfl⟩|⟨rfl,rfl⟩
 .exact .inl ht
 .exact .inr ht
def aIy{us:Tv Ed}(ok:Oks n us)(x:Int)(y:Int×Int)(hx:Inn n x)(e:at0 (gP n us) x=at0 (gP n us) p)(hy:y∈(tO n us).getD x.toNat []):Inn n y.1/\at0 (gP n us) y.1=at0 (gP n us) p:=by
 rcases KI ((wW ok hx).mp (show(y.1,y.2)∈_ from hy))with h|h
 .exact⟨(ok _ h).2,by rw[<- e];exact(xE ok h).symm⟩
 .exact⟨(ok _ h).1,by rw[<- e];exact xE ok h⟩
def zJ.done{us:Tv Ed}{fs:T7}{ss:Tv (Int×Int×Int)}(ok:Oks n us)(hp:Inn n p)
 (h:zJ n (tO n us) (fun q=>at0 (gP n us) q=at0 (gP n us) p) p ⟨fs,[],ss⟩):fs.length=n↔∀q,Inn n q->at0 (gP n us) q=at0 (gP n us) p:=by
 have cl:∀u∈fs,∀v∈(tO n us).getD u.toNat [],v.1∈fs:=fun u A v B=>by
  rcases h.cl u A with w|w
  .cases w
  .exact w v B
 have S:∀t∈us,(t.1∈fs↔t.2∈fs):=fun t ht=>by
  obtain⟨j,o⟩:=S5 ht;exact⟨fun hi=>cl t.1 hi (t.2,((0+j:Nat):Int))<|(wW ok (ok t ht).1).mpr ⟨j,t,o,rfl,.inl ⟨rfl,rfl⟩⟩,fun hi=>cl t.2 hi (t.1,((0+j:Nat):Int))<|(wW ok (ok t ht).2).mpr ⟨j,t,o,rfl,.inr ⟨rfl,rfl⟩⟩⟩
 rw[xD h.nd fun x hx=>(h.ok x hx).1];exact⟨fun e q k=>(h.ok q<|e q k).2,fun e q k=>(yT (S:=(·∈fs)) ok S k hp<|e q k).mpr h.has⟩
noncomputable abbrev pD(p:Int×Int):CD:=.d (.tuple [.int p.1,.int p.2])
def xR(l:Tv (Int×Int)):Cell:=.lst (l.map pD)
abbrev StA(M:Sto)(A:Adj)(c:Cell):Sto:=M++(A.map xR++[c])
def QB{A:Adj}{c:Cell}{k:Nat}(h:k<A.length):(StA M A c)[M.length+k]?=Z (xR<|A.getD k []):=by
 unfold StA;rw[B4 (J9 ..),J0,E5 (by rw[A3];exact h),D0,C3,C5 h];rfl
def RV{c:Cell}:(StA M A c)[M.length+A.length]?=Z c:=by
 unfold StA;rw[B4 (J9 ..),J0,B4 (by rw[A3];exact A6 _),A3,D8];rfl
def aEf{A:Adj}{c:Cell}{k:Nat}{l:Tv (Int×Int)}(h:k<A.length):(StA M A c).set (M.length+k) (xR l)=StA M (A.set k l) c:=by
 unfold StA;rw[E4 _ _ (J9 ..),J0,List.set_append_left _ _ (by rw[A3];exact h),List.map_set]
noncomputable def bW(b n:Nat):T6:=(List.range n).map fun k=>.c (b+k)
def pY{e:Type}{xs:Tv e}{k:Nat}{x:e}(h:xs[k]?=Z x):atI xs (k:Int)=Z x:=by
 have o:=(List.getElem?_eq_some_iff.mp h).1;unfold atI ixN;rw[A4 (Int.natCast_nonneg k),A4 (by omega),A1,Z6,h]
def LI{b:Nat}(h:Inn n p):atI (bW b n) p=Z (.c (b+p.toNat)):=by
 have:p.toNat<n:=by omega
 have e:p=((p.toNat:Nat):Int):=by omega
 rw[e];refine pY ?_;rw[Z6];unfold bW;rw[D0,List.getElem?_range this];rfl
def JQ{A:Adj}(k:A.length=n)(h:Inn n p):ixF (.c (M.length+n)) (I p) (StA M A (.lst (bW M.length n)))=Z (.c (M.length+p.toNat),StA M A (.lst (bW M.length n))):=by
 have e:=RV (M:=M) (A:=A) (c:=.lst (bW M.length n));rw[k]at e;simp only[ixF,e,LI h,Option.bind_some]
def UM{A:Adj}{c:Cell}{q:Int×Int}(t:A.length=n)(h:Inn n p)(o:(A.getD p.toNat []).length<1000):cO (.c (M.length+p.toNat)) [.d (.tuple [.int q.1,.int q.2])] (StA M A c)=Z (.d .none,StA M (DZ A p q) c):=by
 have k:p.toNat<A.length:=by omega
 have e:=QB (M:=M) (c:=c) k;have l:((A.getD p.toNat []).map pD).length<sizeLine:=by rw[A3,E9];exact B6 o (by decide)
 have s:=aEf (M:=M) (c:=c) (l:=A.getD p.toNat []++[q]) k;unfold xR at e s;rw[C7,F0]at s;simp only[cO,e,if_pos l,s];rfl
def aAQ{A:Adj}{c:Cell}(k:A.length=n)(h:Inn n p):tyB "list" (StA M A c) (.c (M.length+p.toNat))=true:=by
 have e:=QB (M:=M) (c:=c) (show p.toNat<A.length by omega);unfold xR at e;simp only[tyB,e];decide
theorem FY:∀(n:Nat)(xs:T6)(g:Te)(M:Sto),xs.length=n->lcF (hName 0) eN (lM aG) xs [g] M=Z (bW M.length n,M++(List.replicate n ([]:Tv (Int×Int))).map xR)
 |0,[],g,M,_=>by simp[lcF,bW]
 |n+1,x::xs,g,M,h=>by
  have ih:=FY n xs (Z x) (M++[.lst []]) (by simpa using h);simp only[lcF,hName,eN,lM,aG,Option.bind_some,if_true,List.length_nil,Nat.zero_le,List.set_cons_zero,ih,List.length_append,List.length_singleton];refine L5 Z<|Prod.ext ?_ ?_
  .unfold bW;rw[List.range_succ_eq_map,C0,U3];refine L5 (List.cons _) (A0x fun k _=>?_);exact L5 CD.c (by show M.length+1+k=M.length+(k+1);omega)
  .rw[B7,Y6,C0];rfl
def pC(lo:Int)(n:Nat):(eA lo n).length=n:=by simp[eA]
def vS{A:Adj}{q:Int×Int}{k:Nat}(h:∀r,(A.getD r []).length<=k):∀r,((DZ A p q).getD r []).length<=k+1:=by
 intro r;unfold DZ;rw[C3,List.getElem?_set];split
 .split
  .rw[Option.getD_some,B1,D5];exact Nat.add_le_add_right (h _) 1
  .exact E7 _
 .rw[<- C3];exact Nat.le_succ_of_le<|h r
def JA{n:Int}{t:Ed}(h:bK n d=Z t):∃a,aQ d=Z [.int t.1,.int t.2,a]/\oG a=true/\0<=t.1/\t.1<t.2/\t.2<n:=by
 unfold bK at h;split at h
 .rename_i i j a e;split at h
  .rename_i c;cases h;simp only[Bool.and_eq_true,decide_eq_true_eq]at c;exact⟨a,e,c.2,c.1.1.1,c.1.1.2,c.1.2⟩
  .cases h
 .cases h
def KH{t:Ed}(h:bK n d=Z t):Inn n t.1/\Inn n t.2:=by
 obtain⟨_,_,_,e,k,o⟩:=JA h;exact⟨⟨by omega,by omega⟩,⟨by omega,by omega⟩⟩
def ND{M:Sto}{A:Adj}{t:Ed}{m:Int}{x0:CD}(o:A.length=n)(hd:bK n d=Z t){k:Nat}(C:∀r,(A.getD r []).length<=k)(k1:k<500):
 gW [Z x0,Z (.c (M.length+n)),Z<|I m,Z (.d d)] (StA M A (.lst (bW M.length n)))=Z (.nx [Z x0,Z (.c (M.length+n)),Z<|I m,Z (.d d)],StA M (MB A t m) (.lst (bW M.length n))):=by
 obtain⟨a,hi,_⟩:=JA hd;obtain⟨v,B⟩:=KH hd;have D:∀M,ixF (.d d) (I 0) M=Z (I t.1,M):=fun M=>eI hi;have i1:∀M,ixF (.d d) (I 1) M=Z (I t.2,M):=fun M=>eI hi;have e:(DZ A t.1 (t.2,m)).length=n:=by rw[BA,o]
 have E:=UM (M:=M) (c:=.lst (bW M.length n)) (q:=(t.2,m)) o v (by have:=C t.1.toNat;omega);have F:=UM (M:=M) (c:=.lst (bW M.length n)) (q:=(t.1,m)) e B (by have:=vS (p:=t.1) (q:=(t.2,m)) C t.2.toNat;omega);have s2:(2:Nat)<=sizeLine:=by decide
 simp![gW,bL,D,i1,JQ o v,aAQ o v,E,JQ e B,aAQ e B,F,s2];rfl
def WK(d:Tz)(ds:T4)(k:Nat):((d::ds).zipIdx k).map (fun p=>CD.d (.tuple [.int (p.2:Nat),p.1]))=.d (.tuple [.int (k:Nat),d])::(ds.zipIdx (k+1)).map (fun p=>CD.d (.tuple [.int (p.2:Nat),p.1])):=rfl
theorem yV{M:Sto}{n:Nat}{x0:CD}:∀(ds:T4)(us:Tv Ed)(A:Adj)(k c:Nat)(e g3:Te),A.length=n->ds.mapM (bK n)=Z us->(∀r,(A.getD r []).length<=k)->k+2*ds.length<500->
 ∃o v,kZ (iB 2<|bD (hName 2)<|bD (hName 3) iV) gW ((ds.zipIdx c).map fun p=>CD.d (.tuple [.int (p.2:Nat),p.1])) [Z x0,Z (.c (M.length+n)),e,g3] (StA M A (.lst (bW M.length n)))=Z (.nx [Z x0,Z (.c (M.length+n)),o,v],StA M (kW A c us) (.lst (bW M.length n)))
 |[]=>fun us A k c e g3 _ hm _ _=>by
  cases hm;exact⟨e,g3,rfl⟩
 |d::ds=>fun us A k c e g3 D hm E F=>by
  rw[U8]at hm;obtain⟨t,hd,hm⟩:=aI hm;obtain⟨B,C,hm⟩:=aI hm;cases hm;rw[C9]at F;have tn:=ND (M:=M) (x0:=x0) (m:=(c:Nat)) D hd E (by omega);obtain⟨a,b,h⟩:=yV (M:=M) (x0:=x0) ds B (MB A t (c:Nat)) (k+2) (c+1) (Z<|I (c:Nat)) (Z (.d d)) (by rw[BM,D]) C (fun r=>vS (vS E) r) (by omega);refine⟨a,b,?_⟩;unfold kW;rw[<- h,WK]
  conv=>lhs;unfold kZ
  simp![tn]
def fV(e:0<=J)(k:J<=1000):bS J=true:=by
 simp only[bS,Bool.and_eq_true,decide_eq_true_eq];omega
def aEs{f:AF}{c:TF}{M1 M2:Sto}{xs ys:T6}(it:f γ M=Z (xs,M1))(e:xs.length<=sizeLine)(k:lcF g c ee xs (DX cap γ) M1=Z (ys,M2))(hy:ys.length<=sizeLine):KM cap f g c ee γ M=Z (.c M2.length,M2++[.lst ys]):=by
 unfold KM lM yO;rw[it,A1];dsimp only;rw[A4 e,k,A1];dsimp only;rw[A4 hy]
def aHu{x:CD}(e:fQ [x] M=Z (I J,M))(sm:bS (J+1)=true):dA (aC (fOp cS (aK fQ<|aC (aD 0) aG)<|fC (.int 1)) aG) (Z x::γ) M=Z (eA 0 (J+1).toNat,M):=by
 have ad:cS (I J) (I 1) M=Z (I (J+1),M):=rfl;simp![dA,e,ad,sm]
def YK{us:Tv Ed}{M:Sto}(hi:aQ x=Z ds)(hn:ds.length+1=n)(n40:n<=40)(hm:ds.mapM (bK n)=Z us):
 jR [.d x] M=Z (.c (M.length+n),StA M (tO n us) (.lst (bW M.length n))):=by
 have sm:bS ((ds.length:Int)+1)=true:=fV (by omega) (by omega);have e:(eA 0 n).length<=sizeLine:=by rw[pC];exact sz (by omega)
 have cl:(bW M.length n).length<=sizeLine:=by unfold bW;rw[A3,List.length_range];exact sz (by omega)
 have k:=FY n (eA 0 n) Y M<|pC 0 n
 have o:dA (aC (fOp cS (aK fQ<|aC (aD 0) aG)<|fC (.int 1)) aG) [Z (.d x),Y,Y,Y] M=Z (eA 0 n,M):=by
  have:=aHu (γ:=[Y,Y,Y]) (M:=M) (gE hi) sm;rw[show((ds.length:Int)+1).toNat=n by omega]at this;exact this
 have t:kR [Z (.d x),Y,Y,Y] M=Z (.c (M.length+n),StA M (List.replicate n []) (.lst (bW M.length n))):=by
  unfold kR;rw[aEs o e k cl,B7];refine L5 Z<|Prod.ext (L5 CD.c ?_) rfl;show(M++(List.replicate n ([]:Tv (Int×Int))).map xR).length=M.length+n;rw[B1,A3,List.length_replicate]
 obtain⟨A,B,v⟩:=yV (M:=M) (n:=n) (x0:=.d x) ds us (List.replicate n []) 0 0 Y Y (by simp) hm (fun r=>by rw[C3,A0k];split<;>simp) (by omega)
 have it:JX (aC (aD 0) aG) [Z (.d x),Z (.c (M.length+n)),Y,Y] (StA M (List.replicate n []) (.lst (bW M.length n)))=Z ((ds.zipIdx 0).map fun p=>CD.d (.tuple [.int (p.2:Nat),p.1]),StA M (List.replicate n []) (.lst (bW M.length n))):=by
  unfold JX;show((aQ x).bind _)=_;rw[hi];rfl
 simp![jR,nR,t,mP,it,v,tO]
noncomputable abbrev T1:CD:=.d (.bool true)
def kvs(fs:T7):Tv (Key×CD):=fs.map fun x=>((.inl x:Key),T1)
def aBw(fs:T7)(x:Int):(lkC (kvs fs) (.inl x:Key)).isSome=decide (x∈fs):=by
 unfold lkC kvs;rw[Option.isSome_map]
 induction fs with
 |nil=>rfl
 |cons y fs ih=>
  rw[C0,List.find?_cons];by_cases h:y=x
  .subst h;simp
  .have k:¬((Sum.inl y:Key)=Sum.inl x):=fun e=>h<|A0m e;rw[C4 k];dsimp only;rw[ih];have:(x∈y::fs)↔x∈fs:=by rw[List.mem_cons];exact⟨fun q=>q.resolve_left fun e=>h e.symm,.inr⟩
   exact decide_eq_decide.mpr this.symm
def TH{fs:T7}{x:Int}(h:x∉fs):putD (kvs fs) (.inl x:Key) T1=kvs (fs++[x]):=by
 unfold putD
 have:((kvs fs).any fun o=>decide (o.1=(Sum.inl x:Key)))=false:=by
  rw[List.any_eq_false];intro o k;obtain⟨y,hy,rfl⟩:=List.mem_map.mp k;rw[F8];exact fun e=>h (A0m e▸hy)
 rw[this,B0 (by decide)];unfold kvs;rw[C7,F0]
noncomputable abbrev sD(t:Int×Int×Int):CD:=.d (.tuple [.int t.1,.int t.2.1,.int t.2.2])
def wC(ws:T7):Cell:=.lst (ws.map fun i=>I i)
def sC(ss:Tv (Int×Int×Int)):Cell:=.lst (ss.map sD)
abbrev Sts(N:Sto)(s:Sc):Sto:=N++[.dk (kvs s.fs),wC s.ws,sC s.ss]
section
variable{N:Sto}{s:Sc}
def aFZ:(Sts N s)[N.length]?=Z (.dk (kvs s.fs)):=by
 unfold Sts;rw[B4 (A6 _),D8];rfl
def RG:(Sts N s)[N.length+1]?=Z (wC s.ws):=by
 unfold Sts;rw[B4 (J9 ..),J0];rfl
def YV:(Sts N s)[N.length+2]?=Z (sC s.ss):=by
 unfold Sts;rw[B4 (J9 ..),J0];rfl
def aBt:(Sts N s).set N.length (.dk (kvs e))=Sts N { s with fs:=e }:=by
 unfold Sts;rw[E4 _ _ (A6 _),D8];rfl
def LP:(Sts N s).set (N.length+1) (wC ws')=Sts N { s with ws:=ws' }:=by
 unfold Sts;rw[E4 _ _ (J9 ..),J0];rfl
def aAh:(Sts N s).set (N.length+2) (sC ss')=Sts N { s with ss:=ss' }:=by
 unfold Sts;rw[E4 _ _ (J9 ..),J0];rfl
def NR{k:Nat}{c:Cell}(h:N[k]?=Z c):(Sts N s)[k]?=Z c:=by
 unfold Sts;rw[E5 (List.getElem?_eq_some_iff.mp h).1];exact h
def aJS{x:Int}(k:s.ws.length<1000):cO (.c (N.length+1)) [I x] (Sts N s)=Z (.d .none,Sts N { s with ws:=s.ws++[x] }):=by
 have e:(s.ws.map fun i=>I i).length<sizeLine:=by rw[A3,E9];omega
 have w:=RG (N:=N) (s:=s);have z:=LP (N:=N) (s:=s) (ws':=s.ws++[x]);unfold wC at w z;rw[C7,F0]at z;simp only[cO,w,if_pos e];exact L5 (fun y=>Z (CD.d .none,y)) z
def aLr:tyB "list" (Sts N s) (.c (N.length+1))=true:=by
 have w:=RG (N:=N) (s:=s);unfold wC at w;simp only[tyB,w];decide
def aKM{c:Int}(k:s.ss.length<1000):cO (.c (N.length+2)) [.d (.tuple [.int a,.int b,.int c])] (Sts N s)=Z (.d .none,Sts N { s with ss:=s.ss++[(a,b,c)] }):=by
 have e:(s.ss.map sD).length<sizeLine:=by rw[A3,E9];omega
 have w:=YV (N:=N) (s:=s);have z:=aAh (N:=N) (s:=s) (ss':=s.ss++[(a,b,c)]);unfold sC at w z;rw[C7,F0]at z;simp only[cO,w,if_pos e];exact L5 (fun y=>Z (CD.d .none,y)) z
def aMn:tyB "list" (Sts N s) (.c (N.length+2))=true:=by
 have w:=YV (N:=N) (s:=s);unfold sC at w;simp only[tyB,w];decide
end
abbrev GR(x st b:CD)(D:Nat)(g6 g7 g8:Te):Ga:=[Z x,Z st,Z b,Z (.c D),Z (.c (D+1)),Z (.c (D+2)),g6,g7,g8]
def ZI{N:Sto}{s:Sc}{u:Int}{y:Int×Int}{st b:CD}(D:s.fs.length<1000)(v:s.ws.length<1000)(hs:s.ss.length<1000):
 dI (GR x0 st b N.length (Z<|I u) (Z<|I y.1)<|Z<|I y.2) (Sts N s)=Z (.nx (GR x0 st b N.length (Z<|I u) (Z<|I y.1)<|Z<|I y.2),Sts N<|see u s y):=by
 have A:(kvs s.fs).length<sizeLine:=by unfold kvs;rw[A3,E9];omega
 have o:atD (Sts N s) (.c N.length) (.inl (.inl y.1))=Z (lkC (kvs s.fs) (.inl y.1:Key)):=by simp only[atD,aFZ]
 have t:keyOf (I y.1)=Z (.inl y.1):=rfl;have k:=aBw s.fs y.1;by_cases h:y.1∈s.fs
 .rw[B9 h]at k;have e:see u s y=s:=by unfold see;rw[A4 h]
  rw[e];simp![dI,qP,dS,t,o,k]
 .rw[C4 h]at k;have e:see u s y=⟨s.fs++[y.1],s.ws++[y.1],s.ss++[(u,y.1,y.2)]⟩:=by unfold see;rw[B0 h]
  rw[e]
  have s1:wX (Sts N s) (.c N.length) (.inl (.inl y.1)) (.d (.bool true))=Z (Sts N { s with fs:=s.fs++[y.1] }):=by
   simp only[wX,aFZ,if_pos A,TH h,aBt]
  have B:=aJS (N:=N) (s:={ s with fs:=s.fs++[y.1] }) (x:=y.1) v;have t1:=aLr (N:=N) (s:={ s with fs:=s.fs++[y.1] });have C:=aKM (N:=N) (s:={ s with fs:=s.fs++[y.1],ws:=s.ws++[y.1] }) (a:=u) (b:=y.1) (c:=y.2) hs;have t2:=aMn (N:=N) (s:={ s with fs:=s.fs++[y.1],ws:=s.ws++[y.1] });have s3:(3:Nat)<=sizeLine:=by decide
  simp![dI,qP,dS,t,o,k,hG,s1,bL,t1,B,t2,C,s3]
def aDo(u:Int)(s:Sc)(x:Int×Int):(see u s x).fs.length<=s.fs.length+1/\(see u s x).ws.length<=s.ws.length+1/\(see u s x).ss.length<=s.ss.length+1:=by
 unfold see;split
 .exact⟨A0c _,A0c _,A0c _⟩
 .simp
theorem LG{N:Sto}{P:Sto->Prop}{st b:CD}{u:Int}(o:∀s,P<|Sts N s):∀(xs:Tv (Int×Int))(s:Sc)(g7 g8:Te),s.fs.length+xs.length<1000->s.ws.length+xs.length<1000->s.ss.length+xs.length<1000->
 ∃e k,zI P (iB 2<|bD (hName 7)<|bD (hName 8) iV) dI (xs.map pD) (GR x0 st b N.length (Z<|I u) g7 g8) (Sts N s)=Z (.nx (GR x0 st b N.length (Z<|I u) e k),Sts N<|xs.foldl (see u) s)
 |[]=>fun s g7 g8 _ _ _=>⟨g7,g8,by unfold zI;rw[List.map_nil];exact A4<|o s⟩
 |x::xs=>fun s g7 g8 t v hs=>by
  rw[C9]at t v hs;have tn:=ZI (N:=N) (s:=s) (u:=u) (y:=x) (x0:=x0) (st:=st) (b:=b) (by omega) (by omega) (by omega);obtain⟨A,B,C⟩:=aDo u s x;obtain⟨e,k,h⟩:=LG (x0:=x0) (st:=st) (b:=b) o xs (see u s x) (Z<|I x.1) (Z<|I x.2) (by omega) (by omega) (by omega);refine⟨e,k,?_⟩;rw[Y1,<- h,C0]
  conv=>lhs;unfold zI
  rw[A4 (o s)];show(iB 2 (bD (hName 7)<|bD (hName 8) iV) (pD x) (GR x0 st b N.length (Z<|I u) g7 g8)<|Sts N s).bind _=_;rw[show iB 2 (bD (hName 7)<|bD (hName 8) iV) (pD x) (GR x0 st b N.length (Z<|I u) g7 g8) (Sts N s)=Z (GR x0 st b N.length (Z<|I u) (Z<|I x.1)<|Z<|I x.2,Sts N s)from rfl,A1];dsimp only;rw[tn,A1]
structure xJ(N:Sto)(b n:Nat)(A:Adj):Prop where
 row:N[b+n]?=Z (.lst (bW b n))
 at_:∀p:Int,Inn n p->N[b+p.toNat]?=Z (xR<|A.getD p.toNat [])
def xJ.new{A:Adj}(h:A.length=n):xJ (StA M A (.lst (bW M.length n))) M.length n A:=
 ⟨by have:=RV (M:=M) (A:=A) (c:=.lst (bW M.length n));rw[h]at this;exact this,fun p e=>QB (by omega)⟩
theorem SD:∀(us:Tv Ed)(A:Adj)(k c:Nat),(∀r,(A.getD r []).length<=k)->∀r,((kW A c us).getD r []).length<=k+2*us.length
 |[]=>fun A k c h r=>by simpa[kW]using h r
 |t::us=>fun A k c h r=>by
  unfold kW;have:=SD us (MB A t (c:Nat)) (k+2) (c+1) (fun r=>vS (vS h) r) r;rw[C9];omega
def aAC{us:Tv Ed}(e:us.length<64)(r:Nat):((tO n us).getD r []).length<130:=by
 have:=SD us (List.replicate n []) 0 0 (fun r=>by rw[C3,A0k];split<;>simp) r;unfold tO;omega
noncomputable abbrev wB:SF:=(aS (bC (bL "list" eY (aD 4) aG)<|hName 6)<|FS (tG<|fOp ixF (aD 2)<|aD 6) (iB 2<|bD (hName 7)<|bD (hName 8) iV) dI)
section
variable{N:Sto}{b n:Nat}{A:Adj}{x0 st:CD}
def aDF{fs:T7}{ss:Tv (Int×Int×Int)}{g6:Te}(o:xJ N b n A)(t:Inn n u)(H:(A.getD u.toNat []).length<130)(O:fs.length<=100)(Q:ws.length<=100)(hs:ss.length<=100):
 ∃v e k,wB (GR x0 st (.c (b+n)) N.length g6 g7 g8) (Sts N ⟨fs,ws++[u],ss⟩)=Z (.nx (GR x0 st (.c (b+n)) N.length v e k),Sts N<|(A.getD u.toNat []).foldl (see u) ⟨fs,ws,ss⟩):=by
 have w:=RG (N:=N) (s:=⟨fs,ws++[u],ss⟩);have s:=LP (N:=N) (s:=⟨fs,ws++[u],ss⟩) (ws':=ws);unfold wC at w s;have ty:=aLr (N:=N) (s:=⟨fs,ws++[u],ss⟩)
 have B:eY (.c (N.length+1)) [] (Sts N ⟨fs,ws++[u],ss⟩)=Z (I u,Sts N ⟨fs,ws,ss⟩):=by
  have C:((ws++[u]).map fun i=>I i)[((ws++[u]).map fun i=>I i).length-1]?=Z (I u):=by
   rw[A3,B1,D5,Nat.add_sub_cancel,D0,B4<|A6 _,D8];rfl
  have D:((ws++[u]).map fun i=>I i).dropLast=ws.map fun i=>I i:=by
   rw[C7,F0,List.dropLast_concat]
  simp only[eY,w,C,D,Option.bind_some];exact L5 (fun y=>Z (I u,y)) s
 have ix:ixF (.c (b+n)) (I u) (Sts N ⟨fs,ws,ss⟩)=Z (.c (b+u.toNat),Sts N ⟨fs,ws,ss⟩):=by
  have:=NR (s:=⟨fs,ws,ss⟩) o.row;simp only[ixF,this,LI t,Option.bind_some]
 have E:walked (Sts N ⟨fs,ws,ss⟩) (.c (b+u.toNat))=Z ((A.getD u.toNat []).map pD,fun M'=>M'[b+u.toNat]?=Z (xR<|A.getD u.toNat [])):=by
  have:=NR (s:=⟨fs,ws,ss⟩)<|o.at_ u t;unfold xR at this ⊢;simp only[walked,this]
 obtain⟨e,k,F⟩:=LG (N:=N) (P:=fun M'=>M'[b+u.toNat]?=Z (xR<|A.getD u.toNat [])) (x0:=x0) (st:=st) (b:=.c (b+n)) (u:=u) (fun s=>NR<|o.at_ u t) (A.getD u.toNat []) ⟨fs,ws,ss⟩ g7 g8 (by show fs.length+_<_;omega) (by show ws.length+_<_;omega) (by show ss.length+_<_;omega);refine⟨Z<|I u,e,k,?_⟩
 have G:FS (tG<|fOp ixF (aD 2)<|aD 6) (iB 2<|bD (hName 7)<|bD (hName 8) iV) dI (GR x0 st (.c (b+n)) N.length (Z<|I u) g7 g8) (Sts N ⟨fs,ws,ss⟩)=Z (.nx (GR x0 st (.c (b+n)) N.length (Z<|I u) e k),Sts N<|(A.getD u.toNat []).foldl (see u) ⟨fs,ws,ss⟩):=by
  have i1:fOp ixF (aD 2) (aD 6) (GR x0 st (.c (b+n)) N.length (Z<|I u) g7 g8) (Sts N ⟨fs,ws,ss⟩)=Z (.c (b+u.toNat),Sts N ⟨fs,ws,ss⟩):=by
   simp![ix]
  unfold FS tG;rw[i1,A1];dsimp only;rw[E,A1,A1];exact F
 unfold wB aS bC;simp![bL,ty,B,G]
def aLf{s:Sc}:DO (aD 4) (GR x0 st (.c (b+n)) N.length g6 g7 g8) (Sts N s)=Z (!s.ws.isEmpty,Sts N s):=by
 have w:=RG (N:=N) (s:=s);unfold wC at w;simp![w];rw[List.isEmpty_map]
theorem RH{P:Int->Prop}{p:Int}(F:xJ N b n A)(n40:n<=40)(G:∀x y,Inn n x->P x->y∈A.getD x.toNat []->Inn n y.1/\P y.1)(H:∀r,(A.getD r []).length<130):∀(m:Nat)(s:Sc)(g6 g7 g8:Te),zJ n A P p s->s.ws.length<=s.fs.length->2*(n-s.fs.length)+s.ws.length<m->
 ∃k ss' B C D,zJ n A P p ⟨k,[],ss'⟩/\fJ (DO<|aD 4) wB m (GR x0 st (.c (b+n)) N.length g6 g7 g8) (Sts N s)=Z (.nx (GR x0 st (.c (b+n)) N.length B C D),Sts N ⟨k,[],ss'⟩)
 |0,_=>fun _ _ _ _ _ h=>by omega
 |m+1,⟨fs,ws,ss⟩=>fun g6 g7 g8 h E hm=>by
  have few:=uV h.nd fun x hx=>(h.ok x hx).1;have sl:ss.length+1=fs.length:=by have:=L5 List.length h.st;simpa using this.symm
  dsimp only at few E hm;unfold fJ;rw[aLf,A1];rcases List.eq_nil_or_concat ws with rfl|⟨v,u,rfl⟩
  .exact⟨fs,ss,g6,g7,g8,h,by simp⟩
  .rw[List.concat_eq_append]at h E hm ⊢;rw[B1,D5]at E hm;have I:=(h.ok u<|h.sub u<|A7 _<|List.mem_singleton.mpr rfl).1;obtain⟨new,e,_,h'⟩:=h.step G;have o:=uV h'.nd fun x hx=>(h'.ok x hx).1;obtain⟨O,Q,R,t⟩:=aDF (x0:=x0) (st:=st) (fs:=fs) (ws:=v) (ss:=ss) (g6:=g6) (g7:=g7) (g8:=g8) F I (H _) (by omega) (by omega) (by omega);rw[e]at t;dsimp only at o;rw[B1]at o;obtain⟨k,ss',T,V,W,d,r⟩:=RH F n40 G H m _ O Q R h' (by dsimp only;rw[B1,B1];omega) (by dsimp only;rw[B1,B1];omega);refine⟨k,ss',T,V,W,d,?_⟩;have X:(!(v++[u]).isEmpty)=true:=by simp
   dsimp only;rw[X,A4 rfl,t,A1];exact r
end
def RF{us:Tv Ed}{M:Sto}(hi:aQ x=Z ds)(hn:ds.length+1=n)(n40:n<=40)(hm:ds.mapM (bK n)=Z us)(ok:Oks n us)(hp:Inn n p)(o:us.length<64):
 ∃fs ss L c,dE [.d x,I p] M=Z (.c c,M++L)/\M.length<=c/\(M++L)[c]?=Z (sC ss)/\zJ n (tO n us) (fun q=>at0 (gP n us) q=at0 (gP n us) p) p ⟨fs,[],ss⟩:=by
 have bs:=YK (M:=M) hi hn n40 hm;generalize k:StA M (tO n us) (.lst (bW M.length n))=N at bs
 have v:xJ N M.length n (tO n us):=by
  rw[<- k];exact xJ.new (by unfold tO;rw[BN,List.length_replicate])
 obtain⟨fs,ss,g6,A,B,d,C⟩:=RH (x0:=.d x) (st:=I p) (P:=fun q=>at0 (gP n us) q=at0 (gP n us) p) (p:=p) v n40 (aIy ok) (aAC o) (2*(n-1)+2) ⟨[p],[p],[]⟩ Y Y Y (zJ.start hp rfl) (A6 _) (by show 2*(n-1)+1<_;omega);have t:sH (GR (.d x) (I p) (.c (M.length+n)) N.length Y Y Y) (Sts N ⟨[p],[p],[]⟩)=Z (.nx (GR (.d x) (I p) (.c (M.length+n)) N.length g6 A B),Sts N ⟨fs,[],ss⟩):=BG C
 have D:qS [((aD 1),(fC (.bool true)))] [Z (.d x),Z<|I p,Z (.c (M.length+n)),Y,Y,Y,Y,Y,Y] N=Z (.c N.length,N++[.dk (kvs [p])]):=by
  unfold qS;rw[show BS [((aD 1),(fC (.bool true)))] [Z (.d x),Z<|I p,Z (.c (M.length+n)),Y,Y,Y,Y,Y,Y] (N++[.dk []])=Z ([(I p,.d (.bool true))],N++[.dk []])from rfl,A1];dsimp only;rw[B4 (A6 _),D8];show(Z [((.inl p:Key),CD.d (.bool true))]).bind _=_;rw[A1,A4 (by simp),E4 _ _<|A6 _,D8];rfl
 have s1:(1:Nat)<=sizeLine:=by decide
 have E:(0:Nat)<=sizeLine:=by decide
 have F:(N++[Cell.dk (kvs [p])]).length=N.length+1:=by rw[B1];rfl
 have G:N++[Cell.dk (kvs [p])]++[Cell.lst [I p]]=N++[Cell.dk (kvs [p]),wC [p]]:=by rw[B7];rfl
 have H:(N++[Cell.dk (kvs [p]),wC [p]]).length=N.length+2:=by rw[B1];rfl
 have O:N++[Cell.dk (kvs [p]),wC [p]]++[Cell.lst []]=Sts N ⟨[p],[p],[]⟩:=by rw[B7];rfl
 have e:N=M++((tO n us).map xR++[.lst (bW M.length n)]):=k.symm;refine⟨fs,ss,((tO n us).map xR++[.lst (bW M.length n)])++[.dk (kvs fs),wC [],sC ss],N.length+2,?_,by rw[e,B1];omega,?_,d⟩
 .rw[<- B7,<- e];simp![dE,pT,bs,D,s1,E,F,G,H,O,t]
 .rw[<- B7,<- e];exact YV (N:=N) (s:=⟨fs,[],ss⟩)
noncomputable def OR(p q:Ed):Bool:=if p.1=q.1 then decide (p.2<q.2)else decide (p.1<q.1)
def aAv(p q:Ed):dF [.int p.1,.int p.2] [.int q.1,.int q.2]=Z (OR p q):=by
 unfold OR;show(if (p.1==q.1)=true then(if (p.2==q.2)=true then Z (decide (0<0))else Z<|decide (p.2<q.2))else Z<|decide (p.1<q.1))=_;by_cases e:p.1=q.1
 .rw[A4 (beq_iff_eq.mpr e),A4 e];by_cases k:p.2=q.2
  .rw[A4 (beq_iff_eq.mpr k),k];simp
  .rw[B0 fun z=>k<|beq_iff_eq.mp z]
 .rw[B0 fun z=>e<|beq_iff_eq.mp z,B0 e]
def WD(p q:Ed)(M:Sto):ltX (pD p) (pD q) M=Z (B<|OR p q,M):=by
 show(dF [.int p.1,.int p.2] [.int q.1,.int q.2]).bind _=_;rw[aAv];rfl
noncomputable abbrev pP(p:Ed):Tz:=.tuple [.int p.1,.int p.2]
def zl:Tv Ed->Tv Bool
 |a::b::r=>OR a b::zl (b::r)
 |_=>[]
def ris(us:Tv Ed):Bool:=(zl us).all id
theorem aAR:∀us:Tv Ed,(zl us).length<=us.length
 |[]=>A6 _
 |[_]=>E7 _
 |a::b::r=>Nat.succ_le_succ<|aAR (b::r)
theorem aBo(M:Sto):∀(us:Tv Ed)(e k:Te),lcF (iB 2<|bD (hName 0)<|bD (hName 1) iV) eN (fOp ltX (aD 0)<|aD 1) (rK (us.map pP)<|(us.map pP).drop 1) [e,k] M=Z (((zl us).map PyData.bool).map .d,M)
 |[]=>fun _ _=>rfl
 |[_]=>fun _ _=>rfl
 |a::b::r=>fun e k=>by
  have ih:=aBo M (b::r) (Z<|pD a)<|Z<|pD b;rw[show rK ((a::b::r).map pP) (((a::b::r).map pP).drop 1)=.d (.tuple [pP a,pP b])::rK ((b::r).map pP) (((b::r).map pP).drop 1)from rfl];unfold lcF;rw[show iB 2 (bD (hName 0)<|bD (hName 1) iV) (.d (.tuple [pP a,pP b])) [e,k] M=Z ([Z (pD a),Z<|pD b],M)from rfl,A1];dsimp only;rw[show eN [Z (pD a),Z<|pD b] M=Z (true,M)from rfl,A1];dsimp only;rw[A4 rfl,show fOp ltX (aD 0) (aD 1) [Z (pD a),Z<|pD b] M=ltX (pD a) (pD b) M from rfl,WD,A1];dsimp only;rw[ih];rfl
def aMq(ds:T4):zM ds (Z 1) Y=ds.drop 1:=by
 unfold zM;rw[HT.sIx_none,show(1:Int)=((1:Nat):Int)from rfl,HT.sIx_nat];cases ds with
 |nil=>rfl
 |cons d ds=>
  rw[show min 1 (d::ds).length=1 by rw[C9];omega];rw[List.take_of_length_le];simp
theorem vJ:∀(xs ys:T4),(rK xs ys).length<=xs.length
 |[],_=>E7 _
 |_::_,[]=>E7 _
 |_::xs,_::ys=>Nat.succ_le_succ<|vJ xs ys
def MR(us:Tv Ed)(M:Sto)(e:us.length<=1000):iA [.d (.list (us.map pP))] M=Z (B<|ris us,M):=by
 have z:aMk (aC (aD 0)<|aC (fSl (aD 0) (rV<|fC (.int 1)) iX) aG) [Z (.d (.list (us.map pP)))] M=Z (rK (us.map pP)<|(us.map pP).drop 1,M):=by
  rw[<- aMq];rfl
 have c:nZ [Z (.d (.list (us.map pP)))] M=Z (.d (.list ((zl us).map PyData.bool)),M):=by
  unfold nZ;exact qT z (sz<|F5 (vJ _ _) (by rw[A3];exact e)) (aBo M us Y Y)<|sz (by rw[A3];exact F5 (aAR us) e)
 have a:DU [.d (.list ((zl us).map PyData.bool))] M=Z (B<|ris us,M):=by
  show(boolsOf<|(zl us).map PyData.bool).bind _=_;rw[ER];rfl
 simp![iA,rA,c,a]
def lW{n:Int}{us:Tv Ed}(h:(d::ds).mapM (bK n)=Z us):∃t e,bK n d=Z t/\ds.mapM (bK n)=Z e/\us=t::e:=by
 rw[U8]at h;obtain⟨t,hd,h⟩:=aI h;obtain⟨e,h',h⟩:=aI h;cases h;exact⟨t,e,hd,h',rfl⟩
theorem oM{n:Int}:∀{ds:T4}{us:Tv Ed},ds.mapM (bK n)=Z us->us.length=ds.length
 |[],us=>fun h=>by cases h;rfl
 |d::ds,us=>fun h=>by
  obtain⟨t,e,_,h',rfl⟩:=lW h;rw[C9,C9,oM h']
theorem AD(n:Int):∀ds:T4,(ds.all fun d=>(bK n d).isSome)=(ds.mapM<|bK n).isSome
 |[]=>rfl
 |d::ds=>by
  rw[Z1,AD n ds,U8];cases bK n d with
  |none=>rfl
  |some t=>cases ds.mapM (bK n)<;>rfl
theorem rH{n:Nat}:∀{ds:T4}{us:Tv Ed},ds.mapM (bK n)=Z us->Oks n us
 |[],us=>fun h=>by cases h;intro t ht;cases ht
 |d::ds,us=>fun h=>by
  obtain⟨t,e,hd,h',rfl⟩:=lW h;intro s hs;rcases List.mem_cons.mp hs with rfl|hs
  .exact KH hd
  .exact rH h' s hs
theorem LA{n:Int}(M:Sto):∀(ds:T4)(us:Tv Ed)(g:Te),ds.mapM (bK n)=Z us->lcF (hName 0) eN (bY<|aC (fOp ixF (aD 0)<|fC (.int 0))<|aC (fOp ixF (aD 0)<|fC (.int 1)) aG) (ds.map .d) [g] M=Z ((us.map pP).map .d,M)
 |[]=>fun us g h=>by cases h;rfl
 |d::ds=>fun us g h=>by
  obtain⟨t,e,hd,h',rfl⟩:=lW h;have ih:=LA M ds e (Z (.d d)) h';obtain⟨a,hi,_⟩:=JA hd;have k:∀M,ixF (.d d) (I 0) M=Z (I t.1,M):=fun M=>eI hi;have i1:∀M,ixF (.d d) (I 1) M=Z (I t.2,M):=fun M=>eI hi;have s2:(2:Nat)<=sizeLine:=by decide
  rw[C0,C0,C0];unfold lcF;simp![eN,k,i1,s2,ih]
def aLe{n:Int}{us:Tv Ed}{x0:CD}(h:aQ x=Z ds)(hm:ds.mapM (bK n)=Z us)(e:ds.length<=1000):rN [Z x0,Z (.d x)] M=Z (.d (.list (us.map pP)),M):=
 qT (CT h rfl) (sz (by rw[A3];exact e)) (LA M ds us Y hm) (sz (by rw[A3,oM hm];exact e))
def gR(n:Nat)(x:Tz):Bool:=match aQ x with
 |some ds=>decide (ds.length+1=n)&&(match ds.mapM (bK n)with
  |some us=>ris us&&yY (zs n) us
  |none=>false)
 |none=>false
def XZ(D:0<n)(n40:n<=40)(x:Tz)(M:Sto):∃L,dG [I n,.d x] M=Z (B<|gR n x,M++L):=by
 have g:decide ((40:Int)<n)=false:=C4 (by omega);have o:∀{b:Bool},b=false->(∃L,dG [I n,.d x] M=Z (B false,M++L))->∃L,dG [I n,.d x] M=Z (B b,M++L):=fun e h=>by rw[e];exact h
 cases hi:aQ x with
 |none=>
  have e:gR n x=false:=by unfold gR;rw[hi]
  have r:dU x ((n:Int)-1)=false:=by unfold dU;rw[hi]
  refine o e ⟨[],?_⟩;rw[C8];simp![dG,hZ,g,bV,r]
 |some ds=>
  by_cases hn:ds.length+1=n
  .have r:dU x ((n:Int)-1)=true:=by unfold dU;rw[hi];show((ds.length:Int)==n-1)=true;rw[A0j];omega
   have t:=aKt (n:=(n:Int)) (M:=M) hi (by omega);have k:=aBk ds (fun d=>(bK n d).isSome) M;rw[AD]at k;cases hm:ds.mapM (bK n)with
   |none=>
    have e:gR n x=false:=by unfold gR;rw[hi];dsimp only;rw[hm,A0b]
    rw[hm]at k;refine o e ⟨[],?_⟩;rw[C8];simp![dG,hZ,g,bV,r,t,k,Option.isSome_none]
   |some us=>
    rw[hm]at k;have E:=oM hm;have ok:=rH hm;have e:gR n x=(ris us&&yY (zs n) us):=by unfold gR;rw[hi];dsimp only;rw[hm,B9 hn,L9]
    have v:=aLe (x0:=I n) (M:=M) hi hm (by omega);have rs:=MR us M (by omega);rw[e];cases A:ris us with
    |false=>
     rw[A]at rs;refine⟨[],?_⟩;rw[C8,S9];simp![dG,hZ,g,bV,r,t,k,Option.isSome_some,v,rs]
    |true=>
     rw[A]at rs;obtain⟨fs,ss,L,c,st,_,C,d⟩:=RF (M:=M) (p:=0) hi hn n40 hm ok ⟨by omega,by omega⟩ (by omega)
     have ln:fQ [.c c] (M++L)=Z (I ss.length,M++L):=by
      unfold sC at C;simp only[fQ,C];rw[A3]
     have sl:ss.length+1=fs.length:=by have:=L5 List.length d.st;simpa using this.symm
     have lst:((ss.length:Int)==(n:Int)-1)=yY (zs n) us:=by
      have a:=d.done ok ⟨by omega,by omega⟩;have b:=xZ D (by omega) ok;rw[Y8,A0j,b,<- a];omega
     refine⟨L,?_⟩;rw[L9];simp![dG,hZ,g,bV,r,t,k,Option.isSome_some,v,rs,st,ln,wO,lst]
  .have e:gR n x=false:=by unfold gR;rw[hi];dsimp only;rw[C4 hn,S9]
   have r:dU x ((n:Int)-1)=false:=by unfold dU;rw[hi];show((ds.length:Int)==n-1)=false;rw[A0i];omega
   refine o e ⟨[],?_⟩;rw[C8];simp![dG,hZ,g,bV,r]
noncomputable def lsN:Nat->Tz->Tz
 |0,d=>d
 |n+1,.tuple xs=>.list (xs.map<|lsN n)
 |_+1,d=>d
noncomputable def dpB:Nat->Tz->Bool
 |0,_=>false
 |n+1,.tuple xs=>decide (xs.length<=90)&&xs.all (dpB n)
 |_+1,_=>true
theorem UG(M:Sto):∀(n:Nat)(d:Tz),dpB n d=true->bB n [.d d] M=Z (.d (lsN n d),M)
 |0,d=>fun h=>by cases h
 |n+1,.tuple xs=>fun h=>by
  have h:(decide (xs.length<=90)&&xs.all (dpB n))=true:=h;rw[B8,F8]at h
  have e:∀(ys:T4)(g:Te),(∀y∈ys,dpB n y=true)->lcF (hName 0) eN (aK (bB n)<|aC (aD 0) aG) (ys.map .d) [g] M=Z ((ys.map<|lsN n).map .d,M):=by
   intro ys
   induction ys with
   |nil=>intro g _;rfl
   |cons y ys ih=>
    intro g hy;have ih:=ih (Z (.d y)) fun z k=>hy z<|A8 _ k;have one:=UG M n y<|hy y<|A9 ..;rw[C0,C0,C0];unfold lcF;rw[show hName 0 (.d y) [g] M=Z ([Z (.d y)],M)from rfl,A1];dsimp only;rw[show eN [Z (.d y)] M=Z (true,M)from rfl,A1];dsimp only;rw[A4 rfl,show aK (bB n) (aC (aD 0) aG) [Z (.d y)] M=bB n [.d y] M from rfl,one,A1];dsimp only;rw[ih];rfl
  have c:lZ (bB n) [Z (.d (.tuple xs))] M=Z (.d (.list (xs.map<|lsN n)),M):=by
   unfold lZ;exact qT (CT rfl rfl) (sz (by rw[A3];exact F5 h.1 (by decide))) (e xs Y<|List.all_eq_true.mp h.2)<|sz (by rw[A3];exact F5 h.1 (by decide))
  have t:EC "tuple" (aD 0) [Z (.d (.tuple xs))] M=Z (B true,M):=rfl;show fnF 1 1 (lO<|bB n) [.d (.tuple xs)] M=_;unfold fnF lO aS sIf iM gB bQ bX;simp only[List.length_cons,List.length_nil,Nat.reduceAdd,Nat.reduceSub,reduceIte,List.map_cons,List.map_nil,List.replicate_zero,List.append_nil,t,c,Option.bind_some,asB,Bool.not_true,Bool.false_eq_true];rfl
 |_+1,.none=>fun _=>rfl
 |_+1,.bool _=>fun _=>rfl
 |_+1,.int _=>fun _=>rfl
 |_+1,.str _=>fun _=>rfl
 |_+1,.list _=>fun _=>rfl
 |_+1,.dict _=>fun _=>rfl
def wJ(k:Nat)(d:Tz):aQ (lsN k d)=aQ d\/∃m xs,aQ d=Z xs/\aQ (lsN k d)=Z (xs.map<|lsN m):=by
 cases k with
 |zero=>exact .inl rfl
 |succ k=>
  cases d with
  |tuple xs=>exact .inr ⟨k,xs,rfl,rfl⟩
  |_=>exact .inl rfl
def isInt:Tz->Tk
 |.int i=>Z i
 |_=>Y
def IL(k:Nat)(d:Tz):isInt (lsN k d)=isInt d:=by
 cases k with
 |zero=>rfl
 |succ k=>cases d<;>rfl
def RW(a b:Tz):aLd a b=(match isInt a,isInt b with|some i,some j=>DA i j|_,_=>false):=by
 cases a<;>first|rfl|(cases b<;>rfl)
def aJf(k:Nat)(c:Tz):oG (lsN k c)=oG c:=by
 rcases wJ k c with h|⟨m,xs,o,t⟩
 .unfold oG;rw[h]
 .cases e:((xs.length:Int)==2)with
  |false=>rw[RR o e,RR t (by rw[A3];exact e)]
  |true=>
   obtain⟨a,b,rfl⟩:=aMj xs e;rw[SV o,SV (show aQ (lsN k c)=Z [lsN m a,lsN m b]from t),RW,RW,IL,IL]
def MU(n:Int)(a b c:Tz):Tw (Int×Int):=match isInt a,isInt b with
 |some i,some j=>if (decide (0<=i)&&decide (i<j)&&decide (j<n)&&oG c)=true then Z (i,j)else Y
 |_,_=>Y
def HD{n:Int}{a b c:Tz}(h:aQ d=Z [a,b,c]):bK n d=MU n a b c:=by
 unfold bK MU;rw[h];cases a<;>first|rfl|(cases b<;>rfl)
def aEc(n:Int)(k:Nat)(d:Tz):bK n (lsN k d)=bK n d:=by
 rcases wJ k d with h|⟨m,xs,o,t⟩
 .unfold bK;rw[h]
 .cases e:((xs.length:Int)==3)with
  |false=>rw[AM o e,AM t (by rw[A3];exact e)]
  |true=>
   obtain⟨a,b,c,rfl⟩:=aLS xs e;rw[HD o,HD (show aQ (lsN k d)=Z [lsN m a,lsN m b,lsN m c]from t)];unfold MU;rw[IL,IL,aJf]
theorem IE(n:Int)(k:Nat):∀ds:T4,(ds.map<|lsN k).mapM (bK n)=ds.mapM (bK n)
 |[]=>rfl
 |d::ds=>by rw[C0,U8,U8,aEc,IE n k ds]
def aDy(n k:Nat)(x:Tz):gR n (lsN k x)=gR n x:=by
 rcases wJ k x with h|⟨m,xs,e,o⟩
 .unfold gR;rw[h]
 .unfold gR;rw[e,o];dsimp only;rw[A3,IE]
def aZ{f g:SF}(h:f γ M=Z (.nx γ',M')):aS f g γ M=g γ' M':=by
 unfold aS;rw[h,A1]
def iU{f:EF}{i:Nat}{x:CD}(h:f γ M=Z (x,M')):bC f (hName i) γ M=Z (.nx (γ.set i<|Z x),M'):=by
 unfold bC;rw[h,A1];rfl
def nG{b:SF}{xs:T6}{x:CD}(h:xs.length=ps)(e:b (xs.map Z++List.replicate (N-xs.length) Y) M=Z (.rt x,M')):fnF ps N b xs M=Z (x,M'):=by
 unfold fnF;rw[A4 h,e,A1]
def iT{f:AF}{b:SF}{M1:Sto}{xs:T6}{r:Tw (Out×Sto)}(h:f γ M=Z (xs,M1))(e:kZ g b xs γ M1=r):mP f g b γ M=r:=by
 unfold mP;rw[h,A1];exact e
def cC{b:SF}{x:CD}{xs:T6}{e:Ga}{M1 M2:Sto}(h:g x γ M=Z (e,M1))(o:b e M1=Z (.nx k,M2)):kZ g b (x::xs) γ M=kZ g b xs k M2:=by
 conv=>lhs;unfold kZ
 rw[h,A1];dsimp only;rw[o,A1]
structure Tie where
 i:Int
 j:Int
 a:Int
 b:Int
noncomputable abbrev Tie.key(t:Tie):Ed:=(t.i,t.j)
def Tie.lt(s t:Tie):Prop:=s.i<t.i\/(s.i=t.i/\s.j<t.j)
noncomputable instance(s t:Tie):Decidable (Tie.lt s t):=by unfold Tie.lt;infer_instance
def key_ne{t:Tie}(h:s.key≠t.key):¬(s.i=t.i/\s.j=t.j):=fun⟨a,b⟩=>h (by unfold Tie.key;rw[a,b])
def Tie.lt_tot{t:Tie}(h:s.key≠t.key)(n:¬Tie.lt t s):Tie.lt s t:=by
 have:=key_ne h;unfold Tie.lt at n ⊢;omega
noncomputable def f2(t:Tie):T4:=[.int t.i,.int t.j,.tuple [.int t.a,.int t.b]]
abbrev rD(t:Tie):Tz:=.tuple (f2 t)
def aJV{t:Tie}(h:s.key≠t.key):dF (f2 s) (f2 t)=Z (decide<|Tie.lt s t):=by
 have k:=key_ne h;show(if (s.i==t.i)=true then(if (s.j==t.j)=true then _ else Z<|decide (s.j<t.j))else Z<|decide (s.i<t.i))=_;by_cases q:s.i=t.i
 .have e:¬s.j=t.j:=fun z=>k ⟨q,z⟩;rw[A4 (beq_iff_eq.mpr q),B0 fun z=>e<|beq_iff_eq.mp z];simp[Tie.lt,q]
 .rw[B0 fun z=>q<|beq_iff_eq.mp z];simp[Tie.lt,q]
def aDT(s t:Tie):(dF (f2 s)<|f2 t).isSome=true:=by
 show(if (s.i==t.i)=true then(if (s.j==t.j)=true then(if PyData.eqv (.tuple [.int s.a,.int s.b]) (.tuple [.int t.a,.int t.b])=true then dF [] []else Z<|HT.lexLt [s.a,s.b] [t.a,t.b])else Z<|decide (s.j<t.j))else Z<|decide (s.i<t.i)).isSome=true;split
 .split
  .split
   .rfl
   .rfl
  .rfl
 .rfl
def BB{i:Nat}(h:i<us.length):(us.map f2).getD i []=f2 us[i]:=by
 rw[C3,D0,C5 h];rfl
def aLE(nd:(us.map Tie.key).Nodup){i j:Nat}(hi:i<us.length)(e:j<us.length)(h:i≠j):us[i].key≠us[j].key:=fun q=>by
 have:=(A0e (h₀:=by rw[A3];exact hi) (h₁:=by rw[A3];exact e) nd).mp (by rw[U7,U7];exact q);exact h this
def aMh(k:2<=us.length)(e:us.length<64):sortable (us.map f2)=true:=by
 have hd:(oO (us.map f2) || vO (us.map f2))=true:=by
  rw[Bool.or_eq_true];exact .inl (by unfold oO;rw[List.all_map];exact List.all_eq_true.mpr fun t _=>rfl)
 unfold sortable;rw[A3,B9 k,B9 e,hd,L9,L9,Bool.and_true,B8];refine⟨List.all_eq_true.mpr fun r o=>?_,List.all_eq_true.mpr fun i hi=>List.all_eq_true.mpr fun j v=>?_⟩
 .obtain⟨t,_,rfl⟩:=List.mem_map.mp o;rfl
 .rw[BB (List.mem_range.mp hi),BB<|List.mem_range.mp v];exact aDT _ _
def aDR{i j:Nat}(hi:i<us.length)(e:j<us.length)(k:us[i].key≠us[j].key):iC (us.map f2) i j=decide (Tie.lt us[i] us[j]):=by
 unfold iC;rw[BB hi,BB e,aJV k];rfl
noncomputable def t0:Tie:=⟨0,0,0,0⟩
def WZ(us:Tv Tie):(List.range us.length).map (fun i=>us.getD i t0)=us:=by
 refine List.ext_getElem? fun i=>?_;rw[D0];by_cases h:i<us.length
 .rw[List.getElem?_range h,C5 h];show Z (us.getD i t0)=_;rw[C3,C5 h];rfl
 .rw[Z2 (by grind),Z2 (by omega)];rfl
def NU{i:Nat}(h:i<us.length):us.getD i t0=us[i]:=by grind
def WY(k:us.length<64):∃vs:Tv Tie,vs.Perm us/\((us.map Tie.key).Nodup->vs.Pairwise Tie.lt)/\CV (us.map f2)=Z (vs.map rD)/\(2<=us.length->sortable (us.map f2)=true/\GS (us.map f2)=vs.map rD)/\(us.length<2->vs=us):=by
 by_cases o:2<=us.length
 .have v:=aMh o k;have pm:=rW (n:=(us.map f2).length) (iC<|us.map f2) (by rw[A3];omega);have D:=DP v;rw[A3]at pm D;have mem:∀i∈fH (iC<|us.map f2) us.length,i<us.length:=fun i hi=>List.mem_range.mp (pm.mem_iff.mp hi)
  have E:GS (us.map f2)=((fH (iC<|us.map f2) us.length).map fun i=>us.getD i t0).map rD:=by
   unfold GS;rw[A3,U3];refine A0x fun i hi=>?_;show PyData.tuple ((us.map f2).getD i [])=.tuple (f2<|us.getD i t0);rw[BB (mem i hi),NU<|mem i hi]
  refine⟨(fH (iC<|us.map f2) us.length).map fun i=>us.getD i t0,?_,fun nd=>?_,?_,fun _=>⟨v,E⟩,fun q=>by omega⟩
  .have:=pm.map fun i=>us.getD i t0
   rwa [WZ]at this
  .rw[A0q];have A:(fH (iC<|us.map f2) us.length).Nodup:=pm.nodup_iff.mpr List.nodup_range;have len:(fH (iC<|us.map f2) us.length).length=us.length:=by rw[pm.length_eq,List.length_range]
   rw[List.pairwise_iff_getElem];intro a b ha B C;have hx:=mem _<|A0f ha;have hy:=mem _<|A0f B
   have g:∀c (e:c<(fH (iC<|us.map f2) us.length).length),(WW (iC<|us.map f2)<|W.kas_sort us.length).getD c 0=(fH (iC<|us.map f2) us.length)[c]:=fun c e=>by
    unfold fH at e ⊢;rw[Array.length_toList]at e;simp[Array.getD,e]
   have s1:=D a b C (by rw[<- len];exact B);rw[g a ha,g b B]at s1
   have H:(fH (iC<|us.map f2) us.length)[b]≠(fH (iC<|us.map f2) us.length)[a]:=fun q=>by
    have:=(A0e A).mp q;omega
   have F:=aLE nd hy hx H;rw[aDR hy hx F]at s1;rw[NU hx,NU hy];exact Tie.lt_tot (O0 F)<|O9 s1
  .unfold CV;rw[v,A4 rfl,E]
 .have G:us.length<2:=by omega
  refine⟨us,.refl _,fun _=>?_,?_,fun q=>absurd q o,fun _=>rfl⟩
  .match us,G with
   |[],_=>exact .nil
   |[t],_=>exact List.pairwise_singleton _ _
  .unfold CV
   have:sortable (us.map f2)=false:=by
    unfold sortable;rw[A3,C4 o];rfl
   rw[this,B0 B5,A3,A4 G,U3];rfl
def aFA(us:Tv Tie):rowsOf (us.map rD)=Z (us.map f2):=by
 induction us with
 |nil=>rfl
 |cons t us ih=>
  show(rowsOf<|us.map rD).bind _=_;rw[ih];rfl
def XY(e:M[c]?=Z (.lst ((us.map rD).map .d)))(k:us.length<64):∃vs:Tv Tie,vs.Perm us/\((us.map Tie.key).Nodup->vs.Pairwise Tie.lt)/\xU [.c c] M=Z (.d (.list (vs.map rD)),M):=by
 obtain⟨vs,t,v,_,A,B⟩:=WY k;refine⟨vs,t,v,?_⟩;unfold xU;by_cases o:us.length<2
 .have:uG [.c c] M=Z (.d (.list (vs.map rD)),M):=by
   simp only[uG,e,gQ,Option.bind_some,List.length_map,if_pos o];rw[B o]
  rw[this]
 .have:uG [.c c] M=Y:=by
   simp only[uG,e,gQ,Option.bind_some,List.length_map,if_neg o]
  rw[this];obtain⟨C,D⟩:=A (by omega);simp only[zU,e,gQ,Option.bind_some,aFA,if_pos C,D]
def smB(d:Tz):Bool:=match aQ d with
 |some [.int a,.int b]=>decide (a<=E60)&&decide (b<=E60)
 |_=>true
def aHs(d:Tz):Bool:=match aQ d with
 |some [_,_,c]=>smB c
 |_=>true
def aMe(d:Tz):Bool:=match aQ d with
 |some ds=>ds.all aHs
 |none=>true
def okR(d:Tz):Bool:=dpB 5 d&&aHs d
def lnB(d:Tz):Bool:=match aQ d with
 |some ds=>decide (ds.length<=90)
 |none=>true
def okX(d:Tz):Bool:=dpB 6 d&&aMe d&&lnB d
def aFf{ds:T4}(h:∀d∈ds,okR d=true)(e:ds.length<=90):okX (.tuple ds)=true:=by
 show((decide (ds.length<=90)&&ds.all (dpB 5))&&ds.all aHs&&decide (ds.length<=90))=true;rw[B9 e,L9,Bool.and_true,B8,List.all_eq_true,List.all_eq_true];exact⟨fun d hd=>by have:=h d hd;unfold okR at this;rw[B8]at this;exact this.1,fun d hd=>by have:=h d hd;unfold okR at this;rw[B8]at this;exact this.2⟩
noncomputable abbrev E30:Int:=1000000000000000000000000000000
noncomputable abbrev E21:Int:=1000000000000000000000
structure Am(a b:Int):Prop where
 am:DA a b=true
 a30:a<=E30
 b21:b<=E21
def aEP(ha:a<=E60)(e:b<=E60):okR (.tuple [.int i,.int j,.tuple [.int a,.int b]])=true:=by
 show(true&&(decide (a<=E60)&&decide (b<=E60)))=true;rw[B9 ha,B9 e];rfl
def Am.ok(h:Am a b):okR (.tuple [.int i,.int j,.tuple [.int a,.int b]])=true:=aEP (Int.le_trans h.a30 (by decide))<|Int.le_trans h.b21 (by decide)
def sl_tup{lo:Tk}:slF (.d (.tuple ds)) lo hi M=Z (.d (.tuple (zM ds lo hi)),M):=rfl
def RE{xs:T4}(e:xs.length+ys.length<=1000):cS (.d (.tuple xs)) (.d (.tuple ys)) M=Z (.d (.tuple (xs++ys)),M):=by
 cases xs with
 |nil=>rfl
 |cons x xs=>
  have h:(x::xs:T4)≠[]/\(x::xs).length+ys.length<=sizeLine:=⟨by simp,sz e⟩;show(if (x::xs:T4)≠[]/\(x::xs).length+ys.length<=sizeLine then Z (CD.d (.tuple (x::xs++ys)),M)else Y)=_;rw[A4 h]
def vW{o:Type}{ds:Tv o}{k m:Int}(hm:0<m)(v:(ds.length:Int)=m):∃d,atI ds (k % m)=Z d/\d∈ds:=by
 have A:=U1 k (show m≠0 by omega);have B:=S0 k hm;have e:(k % m).toNat<ds.length:=by omega
 obtain⟨q,t⟩:∃q:Nat,k % m=(q:Nat):=⟨(k % m).toNat,by omega⟩;rw[t]at e ⊢;exact⟨ds[q],pY<|C5 e,A0f e⟩
section
variable{rs:Tv Tie}{k n:Int}{M:Sto}
abbrev tr(rs:Tv Tie):CD:=.d (.tuple (rs.map rD))
end
abbrev cI(xs:T7):Cell:=.lst (xs.map fun i=>I i)
def Li(M:Sto)(c:Nat)(xs:T7):Prop:=M[c]?=Z (cI xs)
structure Oth(c:Nat)(M M':Sto):Prop where
 len:M'.length=M.length
 at_:∀i,i≠c->M'[i]?=M[i]?
def Li.lt(h:Li M c xs):c<M.length:=(List.getElem?_eq_some_iff.mp h).1
def Li.set{ys:T7}(h:Li M c xs):Li (M.set c<|cI ys) c ys/\Oth c M (M.set c<|cI ys):=
 ⟨by unfold Li;rw[O1 h.lt],by rw[Y9],fun i hi=>by rw[S4 (O0 hi)]⟩
def Li.oth{d:Nat}(h:Li M c xs)(o:Oth d M M')(e:c≠d):Li M' c xs:=by unfold Li;rw[o.at_ c e];exact h
def Li.app{L:Sto}(h:Li M c xs):Li (M++L) c xs:=by unfold Li;rw[E5 h.lt];exact h
def Li.ty(h:Li M c xs):tyB "list" M (.c c)=true:=by
 unfold Li at h;simp only[tyB,h];decide
def Li.ln(h:Li M c xs):fQ [.c c] M=Z (I xs.length,M):=by
 unfold Li at h;simp only[fQ,h,List.length_map]
def aGv{k:Type}{xs:Tv k}(h:Inn xs.length p):∃z,atI xs p=Z z/\z∈xs:=by
 obtain⟨q,rfl⟩:∃q:Nat,p=(q:Nat):=⟨p.toNat,by omega⟩;have e:q<xs.length:=by omega
 exact⟨xs[q],pY<|C5 e,A0f e⟩
def Li.ix(h:Li M c xs)(hp:Inn xs.length p):∃z,ixF (.c c) (I p) M=Z (I z,M):=by
 obtain⟨z,e,k⟩:=aGv (xs:=xs.map fun i=>I i) (by simp;omega);obtain⟨y,_,rfl⟩:=List.mem_map.mp k;refine⟨y,?_⟩;unfold Li at h;simp only[ixF,h,e,Option.bind_some]
def Li.put{z:Int}(h:Li M c xs)(hp:Inn xs.length p):∃ys,ys.length=xs.length/\HP (.c c) (I p) (I z) M=Z (M.set c<|cI ys):=by
 obtain⟨q,rfl⟩:∃q:Nat,p=(q:Nat):=⟨p.toNat,by omega⟩;refine⟨xs.set q z,by rw[Y9],?_⟩
 have hn:ixN (xs.map fun i=>I i).length (q:Int)=Z q:=by
  unfold ixN;rw[A4 (Int.natCast_nonneg q),A4 (by grind),Z6]
 unfold Li at h;simp only[HP,h,hn,Option.bind_some,cI,List.map_set]
def Li.push{z:Int}(h:Li M c xs)(e:xs.length<1000):cO (.c c) [I z] M=Z (.d .none,M.set c<|cI (xs++[z])):=by
 have l:(xs.map fun i=>I i).length<sizeLine:=by rw[A3,E9];omega
 unfold Li at h;simp only[cO,h,if_pos l,cI,List.map_append,List.map_singleton]
def Li.pop{z:Int}(h:Li M c (xs++[z])):eY (.c c) [] M=Z (I z,M.set c<|cI xs):=by
 have e:((xs++[z]).map fun i=>I i)[((xs++[z]).map fun i=>I i).length-1]?=Z (I z):=by
  rw[A3,B1,D5,Nat.add_sub_cancel,D0,B4<|A6 _,D8];rfl
 have k:((xs++[z]).map fun i=>I i).dropLast=xs.map fun i=>I i:=by
  rw[C7,F0,List.dropLast_concat]
 unfold Li at h;simp only[eY,h,e,k,Option.bind_some]
def Dk(M:Sto)(c m:Nat):Prop:=∃xs,Li M c xs/\xs.length=m
def Dk.app{L:Sto}(h:Dk M c m):Dk (M++L) c m:=let⟨xs,a,b⟩:=h;⟨xs,a.app,b⟩
def Dk.pop(h:Dk M c (m+1)):∃z M',eY (.c c) [] M=Z (I z,M')/\Dk M' c m/\Oth c M M':=by
 obtain⟨xs,a,b⟩:=h;rcases List.eq_nil_or_concat xs with rfl|⟨ys,z,rfl⟩
 .cases b
 .rw[List.concat_eq_append]at a b;rw[B1,D5]at b;exact⟨z,_,a.pop,⟨ys,(a.set).1,by omega⟩,(a.set).2⟩
def Dk.ty(h:Dk M c m):tyB "list" M (.c c)=true:=let⟨_,a,_⟩:=h;a.ty
def Dk.oth{d:Nat}(h:Dk M c m)(o:Oth d M M')(e:c≠d):Dk M' c m:=let⟨xs,a,b⟩:=h;⟨xs,a.oth o e,b⟩
def eZ(lo:Int)(n:Nat):eA lo (n+1)=I lo::eA (lo+1) n:=by
 unfold eA;rw[List.range_succ_eq_map,C0,U3];refine congr (L5 List.cons ?_) (A0x fun k _=>?_)
 .show CD.d (.int (lo+((0:Nat):Int)))=I lo;rw[show lo+((0:Nat):Int)=lo by omega]
 .show CD.d (.int (lo+((k+1:Nat):Int)))=.d (.int (lo+1+(k:Nat)));rw[show lo+((k+1:Nat):Int)=lo+1+(k:Nat)by omega]
def aCL(h:i.natAbs<2 ^ 64):kH i j=true:=by unfold kH;rw[B9 h];rfl
def mul_r(h:j.natAbs<2 ^ 64):kH i j=true:=by unfold kH;rw[B9 h,Bool.or_true];rfl
def nab{z:Int}(e:0<=z)(k:z<b)(o:b<=2 ^ 62):z.natAbs<2 ^ 64:=by omega
abbrev GD(s many:CD)(r d:Nat)(o:Int)(k at_ one:Te):Ga:=[Z s,Z many,Z (.c r),Z<|I o,Z (.c d),k,at_,one]
def WA{s:CD}{r d:Nat}{k:Int}{ds:T7}{g6:Te}(A:Li M r xs)(hd:Li M d ds)(G:r≠d)(x0:0<xs.length)(W:ds.length<1000)(k0:0<=k)(k1:k<1000):
 ∃B C H O M',fE (GD s many r d o (Z<|I k) g6 g7) M=Z (.nx (GD s many r d o (Z<|I k) H O),M')/\Li M' r B/\Li M' d C/\B.length=xs.length/\C.length=ds.length+1:=by
 have ln:=A.ln;have P:=U1 k (show(xs.length:Int)≠0 by omega);have Q:=S0 k (show(0:Int)<xs.length by omega);obtain⟨z,ix⟩:=A.ix (p:=k % xs.length) ⟨P,Q⟩;have R:jA k xs.length=true:=eE (by omega);have X:∀y,jA y 1000000=true:=fun y=>eE (by decide);have m3:∀y,jA y 2147483629=true:=fun y=>eE (by decide);have m4:∀y,jA y 2147483647=true:=fun y=>eE (by decide);have m5:∀y,jA y 4=true:=fun y=>eE (by decide);have dv:∀y,yQ y 1000000=true:=fun y=>zQ (by decide)<|wsm (by decide) (by decide);obtain⟨ys,yl,st⟩:=A.put (p:=k % xs.length) (z:=z / 1000000) ⟨P,Q⟩;generalize (xs.length:Int)=J at ln P Q ix R st;cases h:(o==0)with
 |true=>
  obtain⟨c,hc,D⟩:=vW (ds:=([.int 48271,.int 69621,.int 39373,.int 40692]:T4)) (k:=k) (m:=4) (by decide) rfl
  obtain⟨t,rfl,T⟩:∃v:Int,c=.int v/\v.natAbs<2 ^ 64:=by
   simp only[List.mem_cons,List.not_mem_nil,or_false]at D;rcases D with rfl|rfl|rfl|rfl<;>exact⟨_,rfl,by decide⟩
  have xk:ixF (.d (.list [.int 48271,.int 69621,.int 39373,.int 40692])) (I (k % 4)) M=Z (I t,M):=by
   show(atI [PyData.int 48271,.int 69621,.int 39373,.int 40692] (k % 4)).bind _=_;rw[hc];rfl
  have q1:kH k k=true:=aCL<|nab k0 (b:=1000) k1 (by decide);have q2:kH (k*k) 16807=true:=mul_r (by decide);have q3:kH 3 k=true:=aCL (by decide);have q4:∀y,kH y t=true:=fun y=>mul_r T;have a1:∀i j:Int,cS (I i) (I j) M=Z (I (i+j),M):=fun i j=>rfl;have q5:∀y,kH (y % 2147483647) (y % 2147483647)=true:=fun y=>aCL<|nab (U1 _ (by decide)) (S0 _ (by decide)) (by decide);generalize hv:(z+k*k*16807+3*k) % 2147483629=F;have V:=fun y=>hd.push (z:=y) W;refine⟨xs,ds++[(F*t+7) % 2147483647*((F*t+7) % 2147483647) % 2147483629],Z<|I (k % J),Z<|I ((F*t+7) % 2147483647*((F*t+7) % 2147483647) % 2147483629),_,?_,A.oth (hd.set).2 G,(hd.set).1,rfl,by rw[B1,D5]⟩;simp![fE,ln,R,X,ix,wO,h,q1,q2,q3,a1,m3,hv,AC,m5,xk,q4,m4,q5,bL,hd.ty,V]
 |false=>
  have E:=A.set (ys:=ys);have e:=hd.oth E.2<|O0 G;have V:=e.push (z:=z % 1000000) W;refine⟨ys,ds++[z % 1000000],Z<|I (k % J),Z<|I (z % 1000000),_,?_,E.1.oth (e.set).2 G,(e.set).1,yl,by rw[B1,D5]⟩;simp![fE,ln,R,X,ix,wO,h,dv,st,bL,e.ty,V]
theorem EM{s:CD}{r d:Nat}:∀(m:Nat)(k:Int)(M:Sto)(xs ds:T7)(g5 g6 g7:Te),Li M r xs->Li M d ds->r≠d->0<xs.length->0<=k->k+m<500->ds.length+m<500->
 ∃e v A B M',kZ (hName 5) fE (eA k m) (GD s many r d o g5 g6 g7) M=Z (.nx (GD s many r d o v A B),M')/\Li M' d e/\e.length=ds.length+m
 |0=>fun k M xs ds g5 g6 g7 F hd C G H _ _=>⟨ds,g5,g6,g7,M,rfl,hd,rfl⟩
 |m+1=>fun k M xs ds g5 g6 g7 F hd C G H hk hl=>by
  obtain⟨D,E,O,P,M1,t,Q,R,h3,h4⟩:=WA (s:=s) (many:=many) (o:=o) (g6:=g6) (g7:=g7) F hd C G (by omega) H (show k<1000 by omega);obtain⟨e,T,V,W,M',l,X,h6⟩:=EM (s:=s) (many:=many) (o:=o) m (k+1) M1 D E (Z<|I k) O P Q R C (by omega) (by omega) (by omega) (by omega);refine⟨e,T,V,W,M',?_,X,by omega⟩;rw[eZ,cC (show hName 5 (I k) (GD s many r d o g5 g6 g7) M=Z (GD s many r d o (Z<|I k) g6 g7,M)from rfl) t];exact l
theorem CU(n:Nat)(M:Sto):∀e:T7,sO n M (e.map fun i=>I i)=Z (e.map .int)
 |[]=>by unfold sO;rfl
 |i::e=>by
  rw[C0];unfold sO;rw[ZA,A1,CU n M e];rfl
theorem nK:∀e:T7,PyData.canLayAll0 (e.map .int)=true
 |[]=>rfl
 |n::e=>by show(true&&PyData.canLayAll0 (e.map .int))=true;rw[nK e];rfl
theorem pF:∀e:T7,PyData.depthAll (e.map .int)=0
 |[]=>rfl
 |n::e=>by show max 0 (PyData.depthAll<|e.map .int)=0;rw[pF e];rfl
def shaped_ints(e:T7):SeqAt.shaped (.list (e.map .int))=true:=by
 unfold SeqAt.shaped;have k:PyData.canLay0 (.list (e.map .int))=true:=nK e;have o:PyData.depth (.list (e.map .int))=1:=by show PyData.depthAll (e.map .int)+1=1;rw[pF]
 rw[k,o];rfl
def aEh(h:Li M c e):eqY false (.c c) (.d (.list [])) M=Z (B e.isEmpty,M):=by
 have s1:snap 5 M (.c c)=Z (.list (e.map .int)):=by
  unfold Li at h;unfold snap;rw[h];show(sO 4 M (e.map fun i=>I i)).bind _=_;rw[CU];rfl
 have s2:snap 5 M (.d (.list []))=Z (.list []):=by rw[ZA]
 show eqC false (.c c) (.d (.list [])) M=_;unfold eqC;rw[s1,A1,s2,A1,shaped_ints,show SeqAt.shaped (.list [])=true from rfl];cases e<;>rfl
def aLm{x:CD}(sm:bS J=true):dA (aC (aD 1) aG) (x::Z (I J)::γ) M=Z (eA 0 J.toNat,M):=by
 simp![dA,sm]
def aGV(e:T7):∃c M,nB [.d (.list (e.map .int)),I 90] []=Z (.c c,M)/\Dk M c 90:=by
 have A:(0:Nat)<=sizeLine:=E7 _;have s1:(1:Nat)<=sizeLine:=by decide
 have st:∀(r:Nat)(M:Sto)(xs:T7),Li M r xs->0<xs.length->∃c M',(aS (bC (fOp fG (fOp ixF (aD 2)<|fC (.int 0))<|fC (.int 2))<|hName 3)
 (aS (bC (fOp qH (fOp ixF (aD 2)<|fC (.int 0))<|fC (.int 2))<|hSub (aD 2) (fC (.int 0)) HP)
 (aS (bC (lM aG)<|hName 4)
 (aS (mP (dA<|aC (aD 1) aG) (hName 5) fE)
 (aS (mD<|bL "list" lQ (aD 4) aG)
 (bQ (aD 4))))))) [Z (.d (.list (e.map .int))),Z (I 90),Z (.c r),Y,Y,Y,Y,Y] M=Z (.rt (.c c),M')/\Dk M' c 90:=by
  intro r M xs t x0;obtain⟨z,ix⟩:=t.ix (p:=0) ⟨by decide,by omega⟩;have P:∀y,jA y 2=true:=fun y=>eE (by decide);have Q:∀y,yQ y 2=true:=fun y=>zQ (by decide)<|wsm (by decide) (by decide);obtain⟨ys,yl,pt⟩:=t.put (p:=0) (z:=z / 2) ⟨by decide,by omega⟩;have B:=(t.set (ys:=ys)).1;have C:=B.app (L:=[Cell.lst []]);have H:(M.set r<|cI ys).length=M.length:=by rw[Y9]
  have hd:Li (M.set r (cI ys)++[Cell.lst []]) M.length []:=by
   unfold Li;rw[<- H,B4<|A6 _,D8];rfl
  have rl:=t.lt;obtain⟨ds,a5,a6,a7,M',R,k,T⟩:=EM (s:=.d (.list (e.map .int))) (many:=I 90) (o:=z % 2) 90 0 _ ys [] Y Y Y C hd (by omega) (by omega) (by decide) (by decide) (by decide);have V:dA (aC (aD 1) aG) (GD (.d (.list (e.map .int))) (I 90) r M.length (z % 2) Y Y Y) (M.set r (cI ys)++[Cell.lst []])=Z (eA 0 90,M.set r (cI ys)++[Cell.lst []]):=aLm (J:=90) (by decide);have W:=iT V R
  have X:lQ (.c M.length) [] M'=Z (.d .none,M'.set M.length<|cI ds.reverse):=by
   have:=k;unfold Li at this;simp only[lQ,this];rw[cI,List.map_reverse]
  refine⟨M.length,M'.set M.length<|cI ds.reverse,?_,ds.reverse,(k.set).1,by rw[List.length_reverse,T];rfl⟩
  have a1:bC (fOp fG (fOp ixF (aD 2)<|fC (.int 0))<|fC (.int 2)) (hName 3) [Z (.d (.list (e.map .int))),Z<|I 90,Z (.c r),Y,Y,Y,Y,Y] M=Z (.nx [Z (.d (.list (e.map .int))),Z<|I 90,Z (.c r),Z<|I (z % 2),Y,Y,Y,Y],M):=by
   simp![ix,P]
  have a2:bC (fOp qH (fOp ixF (aD 2)<|fC (.int 0))<|fC (.int 2)) (hSub (aD 2) (fC (.int 0)) HP) [Z (.d (.list (e.map .int))),Z<|I 90,Z (.c r),Z<|I (z % 2),Y,Y,Y,Y] M=Z (.nx [Z (.d (.list (e.map .int))),Z<|I 90,Z (.c r),Z<|I (z % 2),Y,Y,Y,Y],M.set r<|cI ys):=by
   simp![ix,Q,pt]
  have a3:bC (lM aG) (hName 4) [Z (.d (.list (e.map .int))),Z<|I 90,Z (.c r),Z<|I (z % 2),Y,Y,Y,Y] (M.set r<|cI ys)=Z (.nx (GD (.d (.list (e.map .int))) (I 90) r M.length (z % 2) Y Y Y),M.set r (cI ys)++[Cell.lst []]):=by
   simp![A,H]
  rw[aZ a1,aZ a2,aZ a3,aZ W];simp![bL,k.ty,X]
 have l0:EL [.d (.list (e.map .int))] []=Z (.c 0,[cI e]):=by
  show Z (CD.c 0,[]++[Cell.lst ((e.map PyData.int).map .d)])=_;rw[U3];rfl
 have h0:Li [cI e] 0 e:=rfl;have v:=aEh h0
 have O:bC (aK EL<|aC (aD 0) aG) (hName 2) [Z (.d (.list (e.map .int))),Z<|I 90,Y,Y,Y,Y,Y,Y] []=Z (.nx [Z (.d (.list (e.map .int))),Z<|I 90,Z (.c 0),Y,Y,Y,Y,Y],[cI e]):=by
  simp![l0]
 cases D:e.isEmpty with
 |true=>
  rw[D]at v;obtain⟨c,M',E,F⟩:=st 1 ([cI e]++[cI [4]]) [4] rfl (by decide);refine⟨c,M',nG rfl ?_,F⟩
  have G:sIf (gB<|fOp (eqY false) (aD 2)<|iQ aG) (bC (lM<|aC (fC (.int 4)) aG)<|hName 2) bX [Z (.d (.list (e.map .int))),Z<|I 90,Z (.c 0),Y,Y,Y,Y,Y] [cI e]=Z (.nx [Z (.d (.list (e.map .int))),Z<|I 90,Z (.c 1),Y,Y,Y,Y,Y],[cI e]++[cI [4]]):=by
   simp![A,s1,v];rfl
  unfold nJ;show aS _ _ [Z (.d (.list (e.map .int))),Z<|I 90,Y,Y,Y,Y,Y,Y] []=_;rw[aZ O,aZ G];exact E
 |false=>
  rw[D]at v;obtain⟨c,M',E,F⟩:=st 0 [cI e] e rfl (by cases e with|nil=>cases D|cons _ _=>simp);refine⟨c,M',nG rfl ?_,F⟩
  have G:sIf (gB<|fOp (eqY false) (aD 2)<|iQ aG) (bC (lM<|aC (fC (.int 4)) aG)<|hName 2) bX [Z (.d (.list (e.map .int))),Z<|I 90,Z (.c 0),Y,Y,Y,Y,Y] [cI e]=Z (.nx [Z (.d (.list (e.map .int))),Z<|I 90,Z (.c 0),Y,Y,Y,Y,Y],[cI e]):=by
   simp![A,s1,v]
  unfold nJ;show aS _ _ [Z (.d (.list (e.map .int))),Z<|I 90,Y,Y,Y,Y,Y,Y] []=_;rw[aZ O,aZ G];exact E
noncomputable def EV:T4:=[(.tuple [(.int 0),(.int 1)]),(.tuple [(.int 1),(.int 1)]),(.tuple [(.int 1),(.int 1)]),(.tuple [(.int 2),(.int 1)]),(.tuple [(.int 1),(.int 2)]),(.tuple [(.int 3),(.int 4)]),(.tuple [(.int 1000000000000000000000000000000),(.int 7)]),(.tuple [(.int 5),(.int 100000000000000000039)])]
def ZE:∀d∈EV,∃a b,d=.tuple [.int a,.int b]/\Am a b:=by
 intro d hd;unfold EV at hd;simp only[List.mem_cons,List.not_mem_nil,or_false]at hd;rcases hd with rfl|rfl|rfl|rfl|rfl|rfl|rfl|rfl<;>exact⟨_,_,rfl,by decide +kernel,by decide,by decide⟩
def YR(k:Int)(M:Sto):∃a b,jY [I k] M=Z (.d (.tuple [.int a,.int b]),M)/\Am a b:=by
 obtain⟨d,e,o⟩:=vW (ds:=EV) (k:=k) (m:=8) (by decide) rfl;obtain⟨a,b,rfl,am⟩:=ZE d o;refine⟨a,b,?_,am⟩;have t:∀γ,kT γ M=Z (.d (.list EV),M):=fun γ=>xO γ M;have mk:jA k 8=true:=eE (by decide)
 have ix:ixF (.d (.list EV)) (I (k % 8)) M=Z (.d (.tuple [.int a,.int b]),M):=by
  show(atI EV (k % 8)).bind _=_;rw[e];rfl
 simp![jY,nP,t,mk,ix]
structure Rows(us:Tv Tie):Prop where
 js:us.map Tie.j=(List.range us.length).map fun q=>((q+1:Nat):Int)
 is:∀t∈us,0<=t.i/\t.i<t.j
 am:∀t∈us,Am t.a t.b
def Rows.nil:Rows []:=⟨rfl,(by intro t ht;cases ht),(by intro t ht;cases ht)⟩
def Rows.snoc{t:Tie}(h:Rows us)(e:t.j=((us.length+1:Nat):Int))(hi:0<=t.i/\t.i<t.j)(ha:Am t.a t.b):Rows (us++[t]):=by
 refine⟨?_,fun s hs=>?_,fun s hs=>?_⟩
 .rw[C7,h.js,B1,D5,List.range_succ,C7,F0,F0,e]
 .rcases List.mem_append.mp hs with hs|hs
  .exact h.is s hs
  .rw[D4]at hs;rw[hs];exact hi
 .rcases List.mem_append.mp hs with hs|hs
  .exact h.am s hs
  .rw[D4]at hs;rw[hs];exact ha
abbrev rC(us:Tv Tie):Cell:=.lst ((us.map rD).map .d)
abbrev GW(c:Nat)(n:CD)(r:Nat)(k d:Te):Ga:=[Z (.c c),Z n,Z (.c r),k,d]
def WJ{r:Nat}{n:CD}{k:Int}{g4:Te}(hd:Dk M c (m+1))(A:M[r]?=Z (rC us))(v:r≠c)(k0:0<k)(Q:us.length<500):
 ∃t o M',iO (GW c n r (Z<|I k) g4) M=Z (.nx (GW c n r (Z<|I k) o),M')/\Dk M' c m/\M'[r]?=Z (rC (us++[t]))/\t.j=k/\(0<=t.i/\t.i<t.j)/\Am t.a t.b:=by
 obtain⟨z,M1,B,C,D⟩:=hd.pop;obtain⟨a,b,E,am⟩:=YR (z / 64) M1;have e:M1[r]?=Z (rC us):=by rw[D.at_ r v];exact A
 have F:=(List.getElem?_eq_some_iff.mp e).1;have G:=U1 z (show k≠0 by omega);have H:=S0 z k0;have mk:jA z k=true:=eE k0;have O:yQ z 64=true:=zQ (by decide)<|wsm (by decide) (by decide);have s3:(3:Nat)<=sizeLine:=by decide
 have ty:tyB "list" M1 (.c r)=true:=by simp only[tyB,e];decide
 have l:((us.map rD).map CD.d).length<sizeLine:=by rw[A3,A3,E9];omega
 have P:cO (.c r) [.d (.tuple [.int (z % k),.int k,.tuple [.int a,.int b]])] M1=Z (.d .none,M1.set r<|rC (us++[⟨z % k,k,a,b⟩])):=by
  simp only[cO,e,if_pos l,rC,List.map_append,List.map_singleton];rfl
 refine⟨⟨z % k,k,a,b⟩,Z<|I z,M1.set r<|rC (us++[⟨z % k,k,a,b⟩]),?_,?_,by rw[O1 F],rfl,⟨G,H⟩,am⟩
 .simp![iO,bL,hd.ty,B,mk,O,E,s3,ty,P]
 .exact C.oth (d:=r) ⟨by rw[Y9],fun i hi=>by rw[S4 (O0 hi)]⟩<|O0 v
theorem GK{c r:Nat}{n:CD}:∀(q m:Nat)(us:Tv Tie)(M:Sto)(g3 g4:Te),Dk M c (q+m)->M[r]?=Z (rC us)->r≠c->us.length+q<500->Rows us->
 ∃e o v M',kZ (hName 3) iO (eA ((us.length+1:Nat):Int) q) (GW c n r g3 g4) M=Z (.nx (GW c n r o v),M')/\Dk M' c m/\M'[r]?=Z (rC e)/\e.length=us.length+q/\Rows e
 |0=>fun m us M g3 g4 hd A B _ C=>⟨us,g3,g4,M,rfl,by rw[Nat.zero_add]at hd;exact hd,A,rfl,C⟩
 |q+1=>fun m us M g3 g4 hd A B hl C=>by
  rw[show q+1+m=q+m+1 by omega]at hd;obtain⟨t,D,M1,tn,E,F,G,H,O⟩:=WJ (n:=n) (k:=((us.length+1:Nat):Int)) (g4:=g4) hd A B (by omega) (by omega);have P:=C.snoc G H O;have ln:(us++[t]).length=us.length+1:=by rw[B1,D5]
  obtain⟨e,Q,R,M',T,V,W,e3,X⟩:=GK (n:=n) q m (us++[t]) M1 (Z<|I ((us.length+1:Nat):Int)) D E F B (by omega) P;refine⟨e,Q,R,M',?_,V,W,by omega,X⟩;rw[eZ,cC (show hName 3 (I ((us.length+1:Nat):Int)) (GW c n r g3 g4) M=Z (GW c n r (Z<|I ((us.length+1:Nat):Int)) g4,M)from rfl) tn,<- T,ln];rfl
def aEW(h:Rows us):(us.map Tie.key).Nodup:=by
 have e:(us.map Tie.j).Nodup:=by
  rw[h.js,S6,A0q];exact(List.nodup_iff_pairwise_ne.mp List.nodup_range).imp fun a b=>a (by omega)
 rw[S6,A0q]at e ⊢;exact e.imp fun a b=>a<|L5 Prod.snd b
def aIK{x:CD}(sm:bS J=true):lY (aC (fC (.int 1))<|aC (aD 1) aG) (Z x::Z (I J)::γ) M=Z (eA 1 (J-1).toNat,M):=by
 have s1:bS 1=true:=by decide
 have h:bS 1=true/\bS J=true:=⟨s1,sm⟩;unfold lY;rw[show aC (fC (.int 1)) (aC (aD 1) aG) (Z x::Z (I J)::γ) M=Z ([I 1,I J],M)from rfl,A1];dsimp only;rw[A4 h]
def aDz(hd:Dk M c (n-1+m))(Q:0<n)(t:n<=40):∃(us vs:Tv Tie)(M':Sto),eQ [.c c,I n] M=Z (.d (.tuple (vs.map rD)),M')/\Dk M' c m/\us.length=n-1/\Rows us/\vs.Perm us/\vs.Pairwise Tie.lt:=by
 have cl:c<M.length:=let⟨_,a,_⟩:=hd;a.lt;have v:(M++[rC []])[M.length]?=Z (rC []):=by rw[B4 (A6 _),D8];rfl
 obtain⟨us,R,T,M',A,B,C,e,k⟩:=GK (r:=M.length) (n:=I n) (n-1) m [] (M++[rC []]) Y Y hd.app v (by omega) (by show 0+(n-1)<500;omega) Rows.nil;have e:us.length=n-1:=by rw[e];exact Nat.zero_add _
 obtain⟨vs,D,E,F⟩:=XY C (by omega)
 have G:lY (aC (fC (.int 1))<|aC (aD 1) aG) (GW c (I n) M.length Y Y) (M++[rC []])=Z (eA 1 (n-1),M++[rC []]):=by
  have:=aIK (J:=(n:Int)) (x:=.c c) (γ:=[Z (.c M.length),Y,Y]) (M:=M++[rC []])<|fV (by omega) (by omega);rw[show((n:Int)-1).toNat=n-1 by omega]at this;exact this
 have o:=iT G A;have H:(0:Nat)<=sizeLine:=E7 _;refine⟨us,vs,M',nG rfl ?_,B,e,k,D,E<|aEW k⟩;generalize (n:Int)=J at o ⊢
 have O:bC (lM aG) (hName 2) [Z (.c c),Z<|I J,Y,Y,Y] M=Z (.nx (GW c (I J) M.length Y Y),M++[rC []]):=by
  simp![H];rfl
 have P:bO [.d (.list (vs.map rD))] M'=Z (.d (.tuple (vs.map rD)),M'):=rfl;unfold qD;show aS _ _ [Z (.c c),Z<|I J,Y,Y,Y] M=_;rw[aZ O,aZ o];simp![F,P]
def aFo{t:Tie}(hi:0<=t.i/\t.i<t.j)(e:t.j<n)(ha:Am t.a t.b):bK n (rD t)=Z t.key:=by
 rw[HD (show aQ (rD t)=Z [.int t.i,.int t.j,.tuple [.int t.a,.int t.b]]from rfl)];unfold MU;show(if (decide (0<=t.i)&&decide (t.i<t.j)&&decide (t.j<(n:Int))&&DA t.a t.b)=true then Z (t.i,t.j)else Y)=_;rw[B9 hi.1,B9 hi.2,B9 e,ha.am];rfl
theorem vU{n:Nat}:∀{vs:Tv Tie},(∀t∈vs,(0<=t.i/\t.i<t.j)/\t.j<n/\Am t.a t.b)->(vs.map rD).mapM (bK n)=Z (vs.map Tie.key)
 |[]=>fun _=>rfl
 |t::vs=>fun h=>by
  obtain⟨a,b,c⟩:=h t<|A9 ..;rw[C0,U8,aFo a b c,vU fun s hs=>h s<|A8 _ hs];rfl
theorem aAz:∀{vs:Tv Tie},vs.Pairwise Tie.lt->ris (vs.map Tie.key)=true
 |[]=>fun _=>rfl
 |[_]=>fun _=>rfl
 |a::b::r=>fun h=>by
  obtain⟨k,o⟩:=List.pairwise_cons.mp h;have ih:=aAz o;have t:=k b<|A9 ..
  have e:OR a.key b.key=true:=by
   unfold OR Tie.key;unfold Tie.lt at t;split
   .exact B9 (by dsimp only at *;omega)
   .exact B9 (by dsimp only at *;omega)
  show(OR a.key b.key&&ris ((b::r).map Tie.key))=true;rw[e,ih];rfl
def PP(A:0<n)(F:us.length=n-1)(k:Rows us)(hp:vs.Perm us)(B:vs.Pairwise Tie.lt):gR n (.tuple (vs.map rD))=true:=by
 have C:∀t∈us,0<t.j/\t.j<n:=fun t ht=>by
  have:t.j∈us.map Tie.j:=List.mem_map.mpr ⟨t,ht,rfl⟩;rw[k.js]at this;obtain⟨q,o,e⟩:=List.mem_map.mp this;have:=List.mem_range.mp o;omega
 have all:∀t∈vs,(0<=t.i/\t.i<t.j)/\t.j<n/\Am t.a t.b:=fun t ht=>by
  have ht:=hp.mem_iff.mp ht;exact⟨k.is t ht,(C t ht).2,k.am t ht⟩
 have vl:(vs.map rD).length+1=n:=by rw[A3,hp.length_eq];omega
 have ok:Oks n (vs.map Tie.key):=rH<|vU all;unfold gR;rw[show aQ (.tuple (vs.map rD))=Z (vs.map rD)from rfl];dsimp only;rw[B9 vl,vU all];dsimp only;rw[aAz B,L9,L9,xZ A (by rw[A3,hp.length_eq];omega) ok]
 have go:∀q:Nat,(q:Int)<n->at0 (gP n<|vs.map Tie.key) q=at0 (gP n<|vs.map Tie.key) 0:=by
  intro q
  induction q using Nat.strongRecOn with
  |ind q ih=>
   intro o;by_cases D:q=0
   .rw[D];rfl
   .have:(q:Int)∈us.map Tie.j:=by
     rw[k.js];exact List.mem_map.mpr ⟨q-1,List.mem_range.mpr (by omega),by omega⟩
    obtain⟨t,ht,e⟩:=List.mem_map.mp this;have G:=k.is t ht;have v:=xE ok (t:=t.key)<|List.mem_map.mpr ⟨t,hp.mem_iff.mpr ht,rfl⟩;dsimp only at v;rw[<- e,<- v];have:=ih t.i.toNat (by omega) (by omega);rw[show((t.i.toNat:Nat):Int)=t.i by omega]at this;exact this
 intro p E;have:=go p.toNat (by omega);rw[show((p.toNat:Nat):Int)=p by omega]at this;exact this
def xC{us:Tv Ed}{c d:Int}(h:Lies us 0 a b k)(g:Lies us 0 c d k):(c=a/\d=b)\/(c=b/\d=a):=by
 obtain⟨i,t,o,B,v⟩:=h;obtain⟨j,s,e,C,A⟩:=g;have:i=j:=by omega
 subst this;rw[o]at e;cases e;rcases v with⟨rfl,rfl⟩|⟨rfl,rfl⟩<;>rcases A with⟨rfl,rfl⟩|⟨rfl,rfl⟩<;>simp
def BF{us:Tv Ed}(h:Lies us 0 a b k):Lies us 0 b a k:=by
 obtain⟨i,t,e,o,v⟩:=h;exact⟨i,t,e,o,v.elim (fun x=>.inr ⟨x.2,x.1⟩) fun x=>.inl ⟨x.2,x.1⟩⟩
def zW{us:Tv Ed}(h:Lies us 0 a b k):Inn us.length k:=by
 obtain⟨i,t,e,o,v⟩:=h;have:=(List.getElem?_eq_some_iff.mp e).1;exact⟨by omega,by omega⟩
def aCf{us:Tv Ed}(ok:Oks n us)(h:Lies us 0 a b k):Inn n a/\Inn n b:=by
 rcases KI h with h|h
 .exact ok _ h
 .exact(ok _ h).symm
def Walk(us:Tv Ed):Int->T7->Int->Prop
 |a,[],b=>a=b
 |a,k::L,b=>∃c,Lies us 0 a c k/\Walk us c L b
theorem xW{us:Tv Ed}:∀{L:T7}{a b c k:Int},Walk us a L b->Lies us 0 b c k->Walk us a (L++[k]) c
 |[],a,b,c,k,h=>fun g=>by
  have h:a=b:=h;subst h;exact⟨c,g,rfl⟩
 |q::L,a,b,c,k,⟨d,e,o⟩=>fun g=>⟨d,e,xW o g⟩
theorem sL{us:Tv Ed}:∀{L:T7}{a b:Int},Walk us a L b->Walk us b L.reverse a
 |[],a,b,h=>(show a=b from h).symm
 |k::L,a,b,⟨c,e,o⟩=>by
  rw[Z3];exact xW (sL o)<|BF e
theorem vM{us:Tv Ed}:∀{L:T7}{a b:Int},Walk us a L b->∀k∈L,Inn us.length k
 |[],_,_,_=>fun k hk=>by cases hk
 |q::L,a,b,⟨c,e,o⟩=>fun k hk=>by
  rcases List.mem_cons.mp hk with rfl|hk
  .exact zW e
  .exact vM o k hk
structure fP(n:Nat)(us:Tv Ed)(r:Int)(ss:Tv (Int×Int×Int)):Prop where
 nd:(r::ss.map (·.2.1)).Nodup
 all:∀x,Inn n x↔x∈r::ss.map (·.2.1)
 od:∀(q:Nat)(h t a:Int),ss[q]?=Z (h,t,a)->h∈r::(ss.take q).map (·.2.1)
 li:∀(h t a:Int),(h,t,a)∈ss->Lies us 0 h t a
 ln:us.length+1=n
section
variable{n:Nat}{us:Tv Ed}{r:Int}{ss:Tv (Int×Int×Int)}
def fP.len(R:fP n us r ss):ss.length=us.length:=by
 have:=(xD R.nd fun x hx=>(R.all x).mpr hx).mpr fun p e=>(R.all p).mp e;rw[C9,A3]at this;have:=R.ln;omega
def fP.one(R:fP n us r ss){h' t o:Int}(e:(h,t,a)∈ss)(v:(h',t,o)∈ss):h=h'/\a=o:=by
 have nd:=(List.nodup_cons.mp R.nd).2;obtain⟨i,hi⟩:=S5 e;obtain⟨j,k⟩:=S5 v;have li:=(List.getElem?_eq_some_iff.mp hi).1;have A:=(List.getElem?_eq_some_iff.mp k).1
 have B:i=j:=(A0e (h₀:=by rw[A3];exact li) (h₁:=by rw[A3];exact A) nd).mp (by
  rw[U7,U7,(List.getElem?_eq_some_iff.mp hi).2,(List.getElem?_eq_some_iff.mp k).2])
 subst B;rw[hi]at k;cases k;exact⟨rfl,rfl⟩
def fP.root(R:fP n us r ss)(e:(h,r,a)∈ss):False:=(List.nodup_cons.mp R.nd).1 (List.mem_map.mpr ⟨_,e,rfl⟩)
def fP.ats(R:fP n us r ss):(ss.map (·.2.2)).Nodup:=by
 rw[S6,A0q,List.pairwise_iff_getElem];intro i j hi A C e;obtain⟨o,t⟩:ss[i]?=Z ss[i]/\ss[j]?=Z ss[j]:=⟨C5 hi,C5 A⟩;generalize ss[i]=x at o e;generalize ss[j]=y at t e;obtain⟨H,t1,B⟩:=x;obtain⟨D,t2,E⟩:=y;have e:B=E:=e;subst e;have F:=R.li _ _ _<|L8 o;have G:=R.li _ _ _<|L8 t;have nd:=(List.nodup_cons.mp R.nd).2
 have inj:∀k (hk:ss[k]?=Z (D,t2,B)\/∃h a,ss[k]?=Z (h,t2,a)),k=j:=fun k hk=>by
  obtain⟨h,a,hk⟩:∃h a,ss[k]?=Z (h,t2,a):=by
   rcases hk with hk|hk
   .exact⟨_,_,hk⟩
   .exact hk
  have v:=(List.getElem?_eq_some_iff.mp hk).1
  exact(A0e (h₀:=by rw[A3];exact v) (h₁:=by rw[A3];exact A) nd).mp (by
   rw[U7,U7,(List.getElem?_eq_some_iff.mp hk).2,(List.getElem?_eq_some_iff.mp t).2])
 rcases xC F G with⟨_,q⟩|⟨_,q⟩
 .subst q;have:=inj i (.inr ⟨_,_,o⟩);omega
 .subst q;rcases List.mem_cons.mp (R.od i _ _ _ o)with z|z
  .subst z;exact R.root<|L8 t
  .obtain⟨⟨I,t3,O⟩,m,z⟩:=List.mem_map.mp z;have z:t3=t2:=z;subst z;obtain⟨k,hk⟩:=S5 m;have v:=(List.getElem?_eq_some_iff.mp hk).1;rw[Y7]at v;rw[Y4 (by omega)]at hk;have:=inj k (.inr ⟨_,_,hk⟩);omega
def fP.edge(R:fP n us r ss){c:Int}(h:Lies us 0 a c k):(c,a,k)∈ss\/(a,c,k)∈ss:=by
 have o:=(xD (n:=us.length) R.ats fun x hx=>by
  obtain⟨⟨h,t,a⟩,m,rfl⟩:=List.mem_map.mp hx;exact zW (R.li _ _ _ m)).mp (by rw[A3,R.len])
 obtain⟨⟨A,t1,v⟩,m,e⟩:=List.mem_map.mp<|o k<|zW h;have e:v=k:=e;subst e;rcases xC (R.li _ _ _ m) h with⟨rfl,rfl⟩|⟨rfl,rfl⟩
 .exact .inr m
 .exact .inl m
def fP.down(R:fP n us r ss):∀{L:T7}{a c k:Int},(a,c,k)∈ss->Walk us c L r->(k::L).Nodup->False
 |[],a,c,k,m,w=>fun _=>by
  have w:c=r:=w;subst w;exact R.root m
 |k2::L,a,c,k,m,⟨d,e,o⟩=>fun nd=>by
  have t:k≠k2:=fun z=>(List.nodup_cons.mp nd).1 (z▸A9 ..);rcases R.edge e with m2|m2
  .exact t (R.one m m2).2
  .exact R.down m2 o (List.nodup_cons.mp nd).2
def fP.up(R:fP n us r ss){k:Int}(w:Walk us a (k::L) r)(nd:(k::L).Nodup):∃h,(h,a,k)∈ss/\Walk us h L r:=by
 obtain⟨c,o,e⟩:=w;rcases R.edge o with m|m
 .exact⟨c,m,e⟩
 .exact(R.down m e nd).elim
def fP.uniq(R:fP n us r ss):∀{L K:T7}{a:Int},Walk us a L r->L.Nodup->Walk us a K r->K.Nodup->L=K
 |[],[],_=>fun _ _ _ _=>rfl
 |[],k::K,a=>fun w _ v nd=>by
  obtain⟨h,m,_⟩:=R.up v nd;have w:a=r:=w;subst w;exact(R.root m).elim
 |k::L,[],a=>fun w nd v _=>by
  obtain⟨h,m,_⟩:=R.up w nd;have v:a=r:=v;subst v;exact(R.root m).elim
 |k::L,q::K,a=>fun w nd v e=>by
  obtain⟨h,m,o⟩:=R.up w nd;obtain⟨g,t,A⟩:=R.up v e;obtain⟨B,C⟩:=R.one m t;subst B C;rw[R.uniq o (List.nodup_cons.mp nd).2 A (List.nodup_cons.mp e).2]
end
def fP.of{us:Tv Ed}{fs:T7}{ss:Tv (Int×Int×Int)}(ok:Oks n us)(A:Inn n r)(ln:us.length+1=n)(h:zJ n (tO n us) (fun q=>at0 (gP n us) q=at0 (gP n us) r) r ⟨fs,[],ss⟩)(con:∀p,Inn n p->at0 (gP n us) p=at0 (gP n us) r):fP n us r ss:=by
 have k:=(xD h.nd fun x hx=>(h.ok x hx).1).mp ((h.done ok A).mpr con);have st:fs=r::ss.map (·.2.1):=h.st;have nd:=h.nd;have o:=h.ok;dsimp only at k nd o;rw[st]at k nd o
 have hd:∀(q:Nat)(g t a:Int),ss[q]?=Z (g,t,a)->g∈r::ss.map (·.2.1):=fun q g t a e=>by
  rcases List.mem_cons.mp (h.od q g t a e).1 with z|z
  .rw[z];exact A9 ..
  .obtain⟨y,hy,e⟩:=List.mem_map.mp z;exact A8 _<|List.mem_map.mpr ⟨y,List.mem_of_mem_take hy,e⟩
 refine⟨nd,fun x=>⟨fun hx=>k x hx,fun hx=>(o x hx).1⟩,fun q g t a e=>(h.od q g t a e).1,fun g t a m=>?_,ln⟩;obtain⟨q,v⟩:=S5 m;exact(wW ok (o g<|hd q g t a v).1).mp (h.od q g t a v).2
noncomputable abbrev Wd':=Tv (Int×T7)
noncomputable def look(fd:Wd')(x:Int):Tw (T7):=(fd.find? fun e=>decide (e.1=x)).map (·.2)
noncomputable abbrev kys(fd:Wd'):T7:=fd.map (·.1)
def tH{x:Int}(h:look fd x=Z L):(x,L)∈fd:=by
 unfold look at h;obtain⟨e,k,o⟩:=Option.map_eq_some_iff.mp h;have a:=List.mem_of_find?_eq_some k;have b:e.1=x:=by simpa using List.find?_some k
 obtain⟨y,K⟩:=e;dsimp only at b o;subst b o;exact a
def look_none{x:Int}:look fd x=Y↔x∉kys fd:=by
 unfold look;rw[Option.map_eq_none_iff,List.find?_eq_none];constructor
 .intro h m;obtain⟨e,k,q⟩:=List.mem_map.mp m;exact h e k<|B9 q
 .intro h e k q;exact h<|List.mem_map.mpr ⟨e,k,D7 q⟩
def CN{x:Int}(h:look fd x=Z L):x∈kys fd:=List.mem_map.mpr ⟨_,tH h,rfl⟩
def aEx{x:Int}(h:x∈kys fd):∃L,look fd x=Z L:=by
 cases e:look fd x with
 |none=>exact absurd h<|look_none.mp e
 |some L=>exact⟨L,rfl⟩
def qJ(fd:Wd')(k:Int)(e:Ed):Wd':=match look fd e.1,look fd e.2 with
 |some L,none=>fd++[(e.2,L++[k])]
 |none,some L=>fd++[(e.1,L++[k])]
 |_,_=>fd
structure Wy(us:Tv Ed)(f:Int)(fd:Wd'):Prop where
 nd:(kys fd).Nodup
 has:(f,[])∈fd
 ok:∀p L,(p,L)∈fd->Walk us f L p/\L.Nodup/\∀k∈L,∃a b,Lies us 0 a b k/\a∈kys fd/\b∈kys fd
def Wy.start{us:Tv Ed}:Wy us f [(f,[])]:=⟨by simp,List.mem_singleton.mpr rfl,fun p L h=>by
 rw[D4]at h;cases h;exact⟨rfl,A0o,fun k e=>by cases e⟩⟩
def Wy.add{us:Tv Ed}{fd:Wd'}(h:Wy us f fd)(hi:look fd i=Z L)(D:look fd j=Y)(B:Lies us 0 i j k):Wy us f (fd++[(j,L++[k])]):=by
 have C:=look_none.mp D;have E:=CN hi;obtain⟨w,nd,A⟩:=h.ok i L<|tH hi
 have F:k∉L:=fun m=>by
  obtain⟨a,b,o,t,v⟩:=A k m;rcases xC B o with⟨_,z⟩|⟨z,_⟩
  .exact C (z▸v)
  .exact C (z▸t)
 have up:∀x,x∈kys fd->x∈kys (fd++[(j,L++[k])]):=fun x hx=>by
  unfold kys at hx ⊢;rw[C7];exact C1 _ hx
 have G:j∈kys (fd++[(j,L++[k])]):=by
  unfold kys;rw[C7];exact A7 _<|List.mem_singleton.mpr rfl
 refine⟨?_,C1 _ h.has,fun p K m=>?_⟩
 .unfold kys;rw[C7,Z5]
  exact⟨h.nd,by simp,fun a ha b e q=>by
   rw[F0,D4]at e;have e:b=j:=e;exact C (by rw[<- e,<- q];exact ha)⟩
 .rcases List.mem_append.mp m with m|m
  .obtain⟨w,nd,A⟩:=h.ok p K m;exact⟨w,nd,fun q hq=>let⟨a,b,o,t,v⟩:=A q hq;⟨a,b,o,up a t,up b v⟩⟩
  .rw[D4]at m;cases m;refine⟨xW w B,?_,fun q hq=>?_⟩
   .rw[Z5];exact⟨nd,by simp,fun a ha b e q=>by rw[D4]at e;exact F (by rw[<- e,<- q];exact ha)⟩
   .rcases List.mem_append.mp hq with hq|hq
    .obtain⟨a,b,o,t,v⟩:=A q hq;exact⟨a,b,o,up a t,up b v⟩
    .rw[D4]at hq;exact⟨i,j,by rw[hq];exact B,up i E,G⟩
def Wy.step{us:Tv Ed}{k:Nat}{e:Ed}(h:Wy us f fd)(t:us[k]?=Z e):Wy us f (qJ fd (k:Nat) e):=by
 have o:Lies us 0 e.1 e.2 (k:Nat):=⟨k,e,t,by simp,.inl ⟨rfl,rfl⟩⟩;unfold qJ;cases a:look fd e.1 with
 |none=>
  cases b:look fd e.2 with
  |none=>exact h
  |some L=>exact h.add b a<|BF o
 |some L=>
  cases b:look fd e.2 with
  |none=>exact h.add a b o
  |some K=>exact h
def ZG(fd:Wd')(k:Int)(e:Ed):fd.length<=(qJ fd k e).length/\((qJ fd k e).length=fd.length->qJ fd k e=fd/\(e.1∈kys fd↔e.2∈kys fd)):=by
 unfold qJ;cases a:look fd e.1 with
 |none=>
  cases b:look fd e.2 with
  |none=>exact⟨A6 _,fun _=>⟨rfl,⟨fun z=>absurd z<|look_none.mp a,fun z=>absurd z<|look_none.mp b⟩⟩⟩
  |some L=>simp
 |some L=>
  cases b:look fd e.2 with
  |none=>simp
  |some K=>exact⟨A6 _,fun _=>⟨rfl,⟨fun _=>CN b,fun _=>CN a⟩⟩⟩
def qL:Wd'->Nat->Tv Ed->Wd'
 |fd,_,[]=>fd
 |fd,k,e::es=>qL (qJ fd (k:Nat) e) (k+1) es
theorem Wy.pass{us:Tv Ed}{f:Int}:∀{es:Tv Ed}{fd:Wd'}{k:Nat},Wy us f fd->us.drop k=es->Wy us f (qL fd k es)
 |[],fd,k=>fun h _=>h
 |e::es,fd,k=>fun h hd=>by
  have t:us[k]?=Z e:=by
   have:=L5 (fun l=>l[0]?) hd;simpa[List.getElem?_drop]using this
  have o:us.drop (k+1)=es:=by
   rw[<- List.drop_drop,hd];rfl
  show Wy us f (qL (qJ fd (k:Nat) e) (k+1) es);exact Wy.pass (h.step t) o
theorem CF:∀(es:Tv Ed)(fd:Wd')(k:Nat),fd.length<=(qL fd k es).length/\((qL fd k es).length=fd.length->∀e∈es,(e.1∈kys fd↔e.2∈kys fd))
 |[]=>fun fd k=>⟨A6 _,fun _ e o=>by cases o⟩
 |e::es=>fun fd k=>by
  obtain⟨a,b⟩:=ZG fd (k:Nat) e;obtain⟨c,d⟩:=CF es (qJ fd (k:Nat) e) (k+1);unfold qL;refine⟨F5 a c,fun q g hg=>?_⟩;obtain⟨t,v⟩:=b (by omega);rw[t]at c d q;rcases List.mem_cons.mp hg with rfl|hg
  .exact v
  .exact d q g hg
def Wy.inn{us:Tv Ed}(ok:Oks n us)(o:Inn n f)(h:Wy us f fd):∀x∈kys fd,Inn n x:=fun x hx=>by
 obtain⟨⟨p,L⟩,m,e⟩:=List.mem_map.mp hx;have e:p=x:=e;subst e
 have go:∀{L:T7}{a b:Int},Walk us a L b->Inn n a->Inn n b:=by
  intro L
  induction L with
  |nil=>intro a b w i;have w:a=b:=w;exact w▸i
  |cons k L ih=>intro a b w i;obtain⟨c,t,v⟩:=w;exact ih v (aCf ok t).2
 exact go (h.ok p L m).1 o
def Wy.grow{us:Tv Ed}(ok:Oks n us)(k:Inn n f)(con:∀p,Inn n p->at0 (gP n us) p=at0 (gP n us) f)(h:Wy us f fd):fd.length+1<=(qL fd 0 us).length\/fd.length=n:=by
 obtain⟨a,b⟩:=CF us fd 0;by_cases e:(qL fd 0 us).length=fd.length
 .right
  have cl:=b e;have t:(kys fd).length=fd.length:=by unfold kys;rw[A3]
  rw[<- t];refine(xD h.nd<|h.inn ok k).mpr fun p o=>?_;exact(yT (S:=(·∈kys fd)) ok cl o k<|con p o).mpr (List.mem_map.mpr ⟨_,h.has,rfl⟩)
 .left;omega
def sU(us:Tv Ed):Nat->Wd'->Wd'
 |0,fd=>fd
 |m+1,fd=>sU us m<|qL fd 0 us
theorem Wy.turns{us:Tv Ed}{f:Int}:∀{m:Nat}{fd:Wd'},Wy us f fd->Wy us f (sU us m fd)
 |0,_=>fun h=>h
 |m+1,fd=>fun h=>Wy.turns (m:=m)<|h.pass rfl
def Wy.few{us:Tv Ed}(ok:Oks n us)(e:Inn n f)(h:Wy us f fd):fd.length<=n:=by
 have:=uV h.nd<|h.inn ok e;unfold kys at this
 rwa [A3]at this
theorem FZ{n:Nat}{us:Tv Ed}{f:Int}(ok:Oks n us)(e:Inn n f)(con:∀p,Inn n p->at0 (gP n us) p=at0 (gP n us) f):∀(m:Nat)(fd:Wd'),Wy us f fd->n<=fd.length+m->(sU us m fd).length=n
 |0=>fun fd h hm=>by
  have:=h.few ok e;show fd.length=n;omega
 |m+1=>fun fd h hm=>by
  have o:=h.pass (k:=0) (es:=us) rfl;refine FZ ok e con m _ o ?_;rcases h.grow ok e con with g|g
  .omega
  .have:=(CF us fd 0).1;omega
def MC{us:Tv Ed}(ok:Oks n us)(e:Inn n f)(ln:us.length+1=n)(con:∀p,Inn n p->at0 (gP n us) p=at0 (gP n us) f):∀p,Inn n p->∃L,look (sU us us.length [(f,[])]) p=Z L/\Walk us f L p/\L.Nodup:=fun p o=>by
 have w:=(Wy.start (us:=us) (f:=f)).turns (m:=us.length);have l:=FZ ok e con us.length [(f,[])] Wy.start (by show n<=1+us.length;omega);have t:(kys<|sU us us.length [(f,[])]).length=n:=by unfold kys;rw[A3];exact l
 obtain⟨L,k⟩:=aEx<|(xD w.nd<|w.inn ok e).mp t p o;obtain⟨a,b,_⟩:=w.ok p L<|tH k;exact⟨L,k,a,b⟩
noncomputable abbrev wD(L:T7):Tz:=.tuple (L.map .int)
def kvW(fd:Wd'):Tv (Key×CD):=fd.map fun e=>((.inl e.1:Key),.d (wD e.2))
def aJx(fd:Wd')(x:Int):lkC (kvW fd) (.inl x:Key)=(look fd x).map fun L=>.d (wD L):=by
 unfold lkC kvW look;rw[Option.map_map]
 induction fd with
 |nil=>rfl
 |cons e fd ih=>
  rw[C0,List.find?_cons,List.find?_cons];by_cases h:e.1=x
  .rw[B9 h,show decide ((Sum.inl e.1:Key)=Sum.inl x)=true from B9 (by rw[h])];rfl
  .have k:¬((Sum.inl e.1:Key)=Sum.inl x):=fun q=>h<|A0m q;rw[C4 h,C4 k];exact ih
def aKe{fd:Wd'}{x:Int}(h:look fd x=Y):putD (kvW fd) (.inl x:Key) (.d (wD L))=kvW (fd++[(x,L)]):=by
 unfold putD
 have:((kvW fd).any fun o=>decide (o.1=(Sum.inl x:Key)))=false:=by
  rw[List.any_eq_false];intro o k;obtain⟨y,hy,rfl⟩:=List.mem_map.mp k;rw[F8];exact fun e=>look_none.mp h (A0m e▸List.mem_map.mpr ⟨y,hy,rfl⟩)
 rw[this,B0 (by decide)];unfold kvW;rw[C7,F0]
abbrev StW(M:Sto)(fd:Wd'):Sto:=M++[Cell.dk (kvW fd)]
def OT:(StW M fd)[M.length]?=Z (.dk (kvW fd)):=by
 unfold StW;rw[B4 (A6 _),D8];rfl
def atW(x:Int):atD (StW M fd) (.c M.length) (.inl (.inl x))=Z ((look fd x).map fun L=>.d (wD L)):=by
 simp only[atD,OT,aJx]
def aKa{fd:Wd'}{x:Int}(h:look fd x=Y)(k:fd.length<1000):wX (StW M fd) (.c M.length) (.inl (.inl x)) (.d (wD L))=Z (StW M (fd++[(x,L)])):=by
 have e:(kvW fd).length<sizeLine:=by unfold kvW;rw[A3,E9];omega
 simp only[wX,OT,if_pos e,aKe h];unfold StW;rw[E4 _ _ (A6 _),D8];rfl
structure IsT(x:Tz)(us:Tv Ed):Prop where
 len:∃ds,aQ x=Z ds/\ds.length=us.length
 at_:∀(k:Nat)(e:Ed),us[k]?=Z e->∃d,∀M,ixF (.d x) (I (k:Nat)) M=Z (.d (.tuple [.int e.1,.int e.2,d]),M)
def aIX(vs:Tv Tie):IsT (.tuple (vs.map rD)) (vs.map Tie.key):=by
 refine⟨⟨_,rfl,by rw[A3,A3]⟩,fun k e h=>?_⟩;rw[D0]at h;obtain⟨t,ht,rfl⟩:=Option.map_eq_some_iff.mp h;refine⟨.tuple [.int t.a,.int t.b],fun M=>?_⟩;have:atI (vs.map rD) (k:Int)=Z (rD t):=pY (by rw[D0,ht];rfl);show(atI (vs.map rD) (k:Int)).bind _=_;rw[this];rfl
abbrev GY(x f:CD)(c:Nat)(turn k i j:Te):Ga:=[Z x,Z f,Z (.c c),turn,k,i,j]
def sl2{a b:Tz}:slF (.d (.tuple [a,b,d])) Y (Z 2) M=Z (.d (.tuple [a,b]),M):=rfl
def add_one(e:L.length<900):cS (.d (wD L)) (.d (.tuple [.int k])) M=Z (.d (wD (L++[k])),M):=by
 have:=RE (xs:=L.map .int) (ys:=[.int k]) (M:=M) (by rw[A3,D5];omega);rw[this];unfold wD;rw[C7,F0]
def WO{f:CD}{M:Sto}{fd:Wd'}{us:Tv Ed}{k:Nat}{e:Ed}{g5 g6:Te}(hT:IsT x us)(G:us[k]?=Z e)(E:fd.length<1000)(F:∀p L,look fd p=Z L->L.length<900):
 dY (GY (.d x) f M.length turn (Z<|I (k:Nat)) g5 g6) (StW M fd)=Z (.nx (GY (.d x) f M.length turn (Z<|I (k:Nat)) (Z<|I e.1)<|Z<|I e.2),StW M<|qJ fd (k:Nat) e):=by
 obtain⟨d,ix⟩:=hT.at_ k e G;generalize (k:Int)=J at ix ⊢;have v:=atW (M:=M) (fd:=fd) e.1;have o:=atW (M:=M) (fd:=fd) e.2;have s1:(1:Nat)<=sizeLine:=by decide
 have A:keyOf (I e.1)=Z (.inl e.1):=rfl;have B:keyOf (I e.2)=Z (.inl e.2):=rfl;unfold qJ;cases C:look fd e.1 with
 |none=>
  rw[C]at v;cases t:look fd e.2 with
  |none=>
   rw[t]at o;simp![dY,ix,fSl,rV,iX,asI,sl2,qP,dS,A,B,v,o,Option.map_none,Option.isSome_none]
  |some L=>
   rw[t]at o;have D:=aKa (M:=M) (x:=e.1) (L:=L++[J]) C E;have ad:=fun M=>add_one (L:=L) (k:=J) (M:=M)<|F _ _ t;simp![dY,ix,fSl,rV,iX,asI,sl2,qP,dS,A,B,v,o,Option.map_none,Option.isSome_none,Option.isSome_some,hG,gI,s1,ad,D]
 |some L=>
  rw[C]at v;cases t:look fd e.2 with
  |none=>
   rw[t]at o;have D:=aKa (M:=M) (x:=e.2) (L:=L++[J]) t E;have ad:=fun M=>add_one (L:=L) (k:=J) (M:=M)<|F _ _ C;simp![dY,ix,fSl,rV,iX,asI,sl2,qP,dS,A,B,v,o,Option.map_none,Option.isSome_none,Option.isSome_some,hG,gI,s1,ad,D]
  |some K=>
   rw[t]at o;simp![dY,ix,fSl,rV,iX,asI,sl2,qP,dS,A,B,v,o,Option.map_some,Option.isSome_some]
def Wy.short{n:Nat}{us:Tv Ed}(h:Wy us f fd)(ln:us.length<=39):∀p L,look fd p=Z L->L.length<900:=fun p L e=>by
 obtain⟨w,nd,_⟩:=h.ok p L<|tH e;have:=uV nd<|vM w;omega
theorem FC{n:Nat}{x:Tz}{f:CD}{M:Sto}{us:Tv Ed}(hT:IsT x us)(ok:Oks n us)(C:Inn n ff)(n40:n<=40)(ln:us.length<=39):∀(es:Tv Ed)(k:Nat)(fd:Wd')(g4 g5 g6:Te),us.drop k=es->Wy us ff fd->
 ∃o v A,kZ (hName 4) dY (eA (k:Nat) es.length) (GY (.d x) f M.length turn g4 g5 g6) (StW M fd)=Z (.nx (GY (.d x) f M.length turn o v A),StW M<|qL fd k es)
 |[]=>fun k fd g4 g5 g6 _ _=>⟨g4,g5,g6,rfl⟩
 |e::es=>fun k fd g4 g5 g6 hd h=>by
  have D:us[k]?=Z e:=by
   have:=L5 (fun l=>l[0]?) hd;simpa[List.getElem?_drop]using this
  have B:us.drop (k+1)=es:=by rw[<- List.drop_drop,hd];rfl
  have fl:=h.few ok C;have t:=WO (f:=f) (M:=M) (turn:=turn) (g5:=g5) (g6:=g6) hT D (by omega)<|h.short (n:=n) ln;obtain⟨E,F,G,l⟩:=FC (f:=f) (M:=M) (turn:=turn) hT ok C n40 ln es (k+1) (qJ fd (k:Nat) e) (Z<|I (k:Nat)) (Z<|I e.1) (Z<|I e.2) B<|h.step D;refine⟨E,F,G,?_⟩;rw[C9,eZ,cC (show hName 4 (I (k:Nat)) (GY (.d x) f M.length turn g4 g5 g6) (StW M fd)=Z (GY (.d x) f M.length turn (Z<|I (k:Nat)) g5 g6,StW M fd)from rfl) t];exact l
def aLa{x:CD}(e:fQ [x] M=Z (I J,M))(sm:bS J=true):dA (aC (aK fQ<|aC (aD 0) aG) aG) (Z x::γ) M=Z (eA 0 J.toNat,M):=by
 simp![dA,e,sm]
def aAS{us:Tv Ed}(hT:IsT x us)(ln:us.length<=39):dA (aC (aK fQ<|aC (aD 0) aG) aG) (Z (.d x)::γ) M=Z (eA 0 us.length,M):=by
 obtain⟨ds,e,k⟩:=hT.len;have:=aLa (γ:=γ) (M:=M) (gE e)<|fV (by omega) (by omega);rw[Z6,k]at this;exact this
theorem BQ{n:Nat}{x:Tz}{f:CD}{M:Sto}{us:Tv Ed}(hT:IsT x us)(ok:Oks n us)(A:Inn n ff)(n40:n<=40)(ln:us.length<=39):∀(m:Nat)(lo:Int)(fd:Wd')(g3 g4 g5 g6:Te),Wy us ff fd->
 ∃e k o v,kZ (hName 3) jV (eA lo m) (GY (.d x) f M.length g3 g4 g5 g6) (StW M fd)=Z (.nx (GY (.d x) f M.length e k o v),StW M<|sU us m fd)
 |0=>fun lo fd g3 g4 g5 g6 _=>⟨g3,g4,g5,g6,rfl⟩
 |m+1=>fun lo fd g3 g4 g5 g6 h=>by
  obtain⟨B,C,D,l⟩:=FC (f:=f) (M:=M) (turn:=Z<|I lo) hT ok A n40 ln us 0 fd g4 g5 g6 rfl h;have t:jV (GY (.d x) f M.length (Z<|I lo) g4 g5 g6) (StW M fd)=Z (.nx (GY (.d x) f M.length (Z<|I lo) B C D),StW M<|qL fd 0 us):=iT (aAS hT ln) l;obtain⟨E,F,G,H,O⟩:=BQ (f:=f) (M:=M) hT ok A n40 ln m (lo+1) (qL fd 0 us) (Z<|I lo) B C D<|h.pass rfl;refine⟨E,F,G,H,?_⟩;rw[eZ,cC (show hName 3 (I lo) (GY (.d x) f M.length g3 g4 g5 g6) (StW M fd)=Z (GY (.d x) f M.length (Z<|I lo) g4 g5 g6,StW M fd)from rfl) t];exact O
def aHe{us:Tv Ed}(M:Sto)(hT:IsT x us)(ok:Oks n us)(e:Inn n f)(n40:n<=40)(ln:us.length+1=n):fT [.d x,I f] M=Z (.c M.length,StW M<|sU us us.length [(f,[])]):=by
 have t:(0:Nat)<=sizeLine:=E7 _
 have k:qS [((aD 1),(bY aG))] [Z (.d x),Z<|I f,Y,Y,Y,Y,Y] M=Z (.c M.length,StW M [(f,[])]):=by
  unfold qS;rw[show BS [((aD 1),(bY aG))] [Z (.d x),Z<|I f,Y,Y,Y,Y,Y] (M++[.dk []])=Z ([(I f,.d (.tuple []))],M++[.dk []])from rfl,A1];dsimp only;rw[B4 (A6 _),D8];show(Z [((.inl f:Key),CD.d (.tuple []))]).bind _=_;rw[A1,A4 (by simp),E4 _ _<|A6 _,D8];rfl
 obtain⟨v,A,B,C,l⟩:=BQ (f:=I f) (M:=M) hT ok e n40 (by omega) us.length 0 [(f,[])] Y Y Y Y Wy.start;have o:mP (dA<|aC (aK fQ<|aC (aD 0) aG) aG) (hName 3) jV (GY (.d x) (I f) M.length Y Y Y Y) (StW M [(f,[])])=_:=iT (aAS hT (by omega)) l;refine nG rfl ?_;unfold sM;show aS _ _ [Z (.d x),Z<|I f,Y,Y,Y,Y,Y] M=_;rw[aZ (iU k)];show aS _ _ (GY (.d x) (I f) M.length Y Y Y Y) (StW M [(f,[])])=_;rw[aZ o];rfl
structure Tr(n:Nat)(x:Tz)(us:Tv Ed):Prop where
 it:∃ds,aQ x=Z ds/\ds.length+1=n/\ds.mapM (bK n)=Z us
 n40:n<=40
 con:∀p q,Inn n p->Inn n q->at0 (gP n us) p=at0 (gP n us) q
def Tr.ok{us:Tv Ed}(h:Tr n x us):Oks n us:=let⟨_,_,_,c⟩:=h.it;rH c
def Tr.ln{us:Tv Ed}(h:Tr n x us):us.length+1=n:=let⟨_,_,b,c⟩:=h.it;by rw[oM c];exact b
def Tr.of(e:0<n)(n40:n<=40)(h:gR n x=true):∃us,Tr n x us:=by
 unfold gR at h;cases hi:aQ x with
 |none=>rw[hi]at h;cases h
 |some ds=>
  rw[hi]at h;dsimp only at h;rw[B8,F8]at h;obtain⟨hn,h⟩:=h;cases hm:ds.mapM (bK n)with
  |none=>rw[hm]at h;cases h
  |some us=>
   rw[hm]at h;dsimp only at h;rw[B8]at h;have c:=(xZ e (by rw[oM hm];exact hn)<|rH hm).mp h.2;exact⟨us,⟨ds,hi,hn,hm⟩,n40,fun p q k o=>(c p k).trans (c q o).symm⟩
def lB(x:Tz):Bool:=match aQ x with
 |some ds=>decide (ds.length+1<=40)&&gR (ds.length+1) x
 |none=>false
def tree_big(h:decide (40<J)=true):dG [I J,.d x] M=Z (B false,M):=by
 simp![dG,hZ,h]
noncomputable abbrev xT:Exc:=⟨"NoTree",[]⟩
noncomputable abbrev xP:Exc:=⟨"NoPlace",[]⟩
def yK{b:Bool}{M:Sto}(r:uR x=true)(ln:∀M,fQ [.d x] M=Z (I J,M))(h:dG [I (J+1),.d x] M=Z (B b,M')):cB [.d x] M=Z (if b=true then .v (.d .none)else .x xT,M'):=by
 have e:cS (I J) (I 1) M=Z (I (J+1),M):=rfl;cases b with
 |true=>simp![cB,eG,rS,r,ln,e,h]
 |false=>simp![cB,eG,rS,r,ln,e,h]
def vQ(x:Tz)(M:Sto):∃L,cB [.d x] M=Z (if lB x=true then .v (.d .none)else .x xT,M++L):=by
 cases hi:aQ x with
 |none=>
  have e:lB x=false:=by unfold lB;rw[hi]
  have r:uR x=false:=by rw[tK,hi];rfl
  refine⟨[],?_⟩;rw[e,C8];simp![cB,eG,rS,r]
 |some ds=>
  have r:uR x=true:=by rw[tK,hi];rfl
  by_cases h:ds.length+1<=40
  .have e:lB x=gR (ds.length+1) x:=by unfold lB;rw[hi];dsimp only;rw[B9 h,L9]
   obtain⟨L,t⟩:=XZ (Nat.succ_pos _) h x M;refine⟨L,?_⟩;rw[e];exact yK r (fun M=>gE hi) t
  .have e:lB x=false:=by unfold lB;rw[hi];dsimp only;rw[C4 h,S9]
   refine⟨[],?_⟩;rw[e,C8];exact yK (b:=false) r (fun M=>gE hi)<|tree_big<|B9 (by omega)
def unB(n:Int)(y z:Tz):Bool:=plB n y&&(plB n z&&(match isInt y,isInt z with|some i,some j=>!(i==j)|_,_=>false))
def aCA{n:Int}(h:plB n y=true):∃i,y=.int i/\0<=i/\i<n:=by
 unfold plB at h;split at h
 .rename_i i;rw[B8,F8,F8]at h;exact⟨i,rfl,h⟩
 .cases h
def aKc(n:Int)(y z:Tz)(M:Sto):bF [I n,.d y,.d z] M=Z (B<|unB n y z,M):=by
 unfold unB;cases e:plB n y with
 |false=>rw[S9];exact rJ n y z M (.inl e)
 |true=>
  cases k:plB n z with
  |false=>rw[S9,A0b];exact rJ n y z M (.inr k)
  |true=>
   obtain⟨i,rfl,_⟩:=aCA e;obtain⟨j,rfl,_⟩:=aCA k;rw[AK,e,k];rfl
def GI(n:Int)(y z:Tz)(M:Sto):cF [I n,.d y,.d z] M=Z (if unB n y z=true then .v (.d .none)else .x xP,M):=by
 cases h:unB n y z with
 |true=>simp![cF,dC,aKc,h]
 |false=>simp![cF,dC,aKc,h]
noncomputable abbrev sP(t:Int×Int×Int):Tz:=.tuple [.int t.1,.int t.2.1,.int t.2.2]
def vZ{us:Tv Ed}(h:Tr n x us)(hp:Inn n p)(ha:fa γ M=Z ([.d x,I p],M)):
 ∃ss L,cQ (nF<|aK dE fa) γ M=Z (ss.map fun s=>.d (sP s),M++L)/\fP n us p ss:=by
 obtain⟨ds,hi,hn,hm⟩:=h.it;have ln:=h.ln;have n40:=h.n40;obtain⟨fs,ss,L,c,st,e,hs,d⟩:=RF (M:=M) hi hn h.n40 hm h.ok hp (by omega);refine⟨ss,L.set (c-M.length) .dead,?_,fP.of h.ok hp h.ln d fun q k=>h.con q p k hp⟩
 have f:nF (aK dE fa) γ M=Z (.d (.list (ss.map sP)),M++L.set (c-M.length) .dead):=by
  unfold nF aK;rw[ha,A1];dsimp only;rw[st,A1];dsimp only;rw[hs];unfold sC;dsimp only;rw[show ss.map sD=(ss.map sP).map .d by rw[U3];rfl,gQ,A1,E4 _ _ e]
 unfold cQ;rw[f,A1];show(Z<|ss.map sP).bind _=_;rw[A1,U3];rfl
def kvC(ss:Tv (Int×Int×Int)):Tv (Key×CD):=ss.map fun s=>((.inl s.2.1:Key),.d (.tuple [.int s.1,.int s.2.2]))
def aKX{ss:Tv (Int×Int×Int)}{s:Int×Int×Int}(h:s.2.1∉ss.map (·.2.1)):putD (kvC ss) (.inl s.2.1:Key) (.d (.tuple [.int s.1,.int s.2.2]))=kvC (ss++[s]):=by
 unfold putD
 have:((kvC ss).any fun o=>decide (o.1=(Sum.inl s.2.1:Key)))=false:=by
  rw[List.any_eq_false];intro o k;obtain⟨y,hy,rfl⟩:=List.mem_map.mp k;rw[F8];exact fun e=>h (A0m e▸List.mem_map.mpr ⟨y,hy,rfl⟩)
 rw[this,B0 (by decide)];unfold kvC;rw[C7,F0]
def aMd{us:Tv Ed}(R:fP n us r ss){x:Int}(m:(h,x,a)∈ss):lkC (kvC ss) (.inl x:Key)=Z (.d (.tuple [.int h,.int a])):=by
 unfold lkC;cases e:(kvC ss).find? fun k=>decide (k.1=(Sum.inl x:Key))with
 |none=>
  rw[List.find?_eq_none]at e;exact absurd (B9 rfl)<|e ((.inl x:Key),.d (.tuple [.int h,.int a]))<|List.mem_map.mpr ⟨(h,x,a),m,rfl⟩
 |some k=>
  have t:=List.mem_of_find?_eq_some e;have o:k.1=(Sum.inl x:Key):=by simpa using List.find?_some e
  obtain⟨⟨h',v,B⟩,A,rfl⟩:=List.mem_map.mp t;have o:v=x:=A0m o;subst o;obtain⟨rfl,rfl⟩:=R.one m A;rfl
abbrev aFW:EF:=(bY<|aC (aD 0)<|aC (aD 2) aG)
theorem FT{N:Sto}:∀(xs ss:Tv (Int×Int×Int))(k o t:Te),((ss++xs).map (·.2.1)).Nodup->ss.length+xs.length<1000->
 dcF N.length (iB 3<|bD (hName 0)<|bD (hName 1)<|bD (hName 2) iV) eN (dS<|aD 1) aFW (xs.map fun s=>.d (sP s)) [k,o,t] (N++[.dk (kvC ss)])=Z (N++[.dk (kvC (ss++xs))])
 |[]=>fun ss k o t _ _=>by rw[C8];rfl
 |s::xs=>fun ss k o t nd v=>by
  have e:ss++s::xs=ss++[s]++xs:=by simp
  have nx:s.2.1∉ss.map (·.2.1):=fun h=>by
   rw[C7,Z5]at nd;exact nd.2.2 _ h _ (A9 ..) rfl
  rw[C9]at v;rw[e]at nd ⊢;have ih:=FT (N:=N) xs (ss++[s]) (Z<|I s.1) (Z<|I s.2.1) (Z<|I s.2.2) nd (by rw[B1,D5];omega);have A:(N++[Cell.dk (kvC ss)])[N.length]?=Z (.dk (kvC ss)):=by rw[B4 (A6 _),D8];rfl
  have B:(kvC ss).length<sizeLine:=by unfold kvC;rw[A3,E9];omega
  have st:wX (N++[.dk (kvC ss)]) (.c N.length) (.inl (.inl s.2.1)) (.d (.tuple [.int s.1,.int s.2.2]))=Z (N++[.dk (kvC (ss++[s]))]):=by
   simp only[wX,A,if_pos B,aKX nx];rw[E4 _ _ (A6 _),D8];rfl
  have C:keyOf (I s.2.1)=Z (.inl s.2.1):=rfl;have s2:(2:Nat)<=sizeLine:=by decide
  rw[C0];unfold dcF;simp![aFW,eN,dS,C,s2,st,ih]
abbrev GU(x i j:CD)(N:Sto)(place at_:Te):Ga:=[Z x,Z i,Z j,Z (.c N.length),Z (.c (N.length+1)),place,at_]
abbrev StU(N:Sto)(ss:Tv (Int×Int×Int))(L:T7):Sto:=N++[.dk (kvC ss),cI L]
section
variable{n:Nat}{us:Tv Ed}{r:Int}{ss:Tv (Int×Int×Int)}{N:Sto}
def aKb:(StU N ss L)[N.length]?=Z (.dk (kvC ss)):=by
 unfold StU;rw[B4 (A6 _),D8];rfl
def YQ:Li (StU N ss L) (N.length+1) L:=by
 unfold Li StU;rw[B4 (J9 ..),J0];rfl
def aCZ{K:T7}:(StU N ss L).set (N.length+1) (cI K)=StU N ss K:=by
 unfold StU;rw[E4 _ _ (J9 ..),J0];rfl
noncomputable abbrev uB:SF:=(aS (bC (gI (aD 3)<|dS<|aD 5)<|iB 2<|bD (hName 5)<|bD (hName 6) iV)
 (mD (bL "list" cO (aD 4) (aC (aD 6) aG))))
def aDd{x i j:CD}(R:fP n us r ss)(m:(h,p,a)∈ss)(t:L.length<900):uB (GU x i j N (Z<|I p) g6) (StU N ss L)=Z (.nx (GU x i j N (Z<|I h)<|Z<|I a),StU N ss (L++[a])):=by
 have k:keyOf (I p)=Z (.inl p):=rfl;have o:atD (StU N ss L) (.c N.length) (.inl (.inl p))=Z (Z (.d (.tuple [.int h,.int a]))):=by simp only[atD,aKb,aMd R m]
 have e:=(YQ (N:=N) (ss:=ss) (L:=L)).push (z:=a) (by omega);have ty:=(YQ (N:=N) (ss:=ss) (L:=L)).ty;rw[aCZ]at e;simp![uB,gI,dS,k,o,bL,ty,e]
theorem HQ{x i:CD}(R:fP n us r ss)(n40:n<=40):∀(F m:Nat)(p:Int)(L:T7)(g6:Te),m<F->p∈r::(ss.take m).map (·.2.1)->L.length+m<500->
 ∃U o v,fJ (gB<|fOp (eqX true) (aD 5)<|aD 2) uB F (GU x i (I r) N (Z<|I p) g6) (StU N ss L)=Z (.nx (GU x i (I r) N o v),StU N ss (L++U))/\Walk us p U r/\U.Nodup/\∀k∈U,k∈(ss.take m).map (·.2.2)
 |0=>fun m p L g6 h _ _=>by omega
 |F+1=>fun m p L g6 hF D hl=>by
  unfold fJ;by_cases e:p=r
  .have t:gB (fOp (eqX true) (aD 5)<|aD 2) (GU x i (I r) N (Z<|I p) g6) (StU N ss L)=Z (false,StU N ss L):=by
    have:(!(p==r))=false:=by rw[beq_iff_eq.mpr e];rfl
    simp![XE,this]
   refine⟨[],Z<|I p,g6,?_,e,A0o,fun k B=>by cases B⟩;rw[t,A1,C8];rfl
  .have t:gB (fOp (eqX true) (aD 5)<|aD 2) (GU x i (I r) N (Z<|I p) g6) (StU N ss L)=Z (true,StU N ss L):=by
    have:(!(p==r))=true:=by rw[beq_eq_false_iff_ne.mpr e];rfl
    simp![XE,this]
   have D:=(List.mem_cons.mp D).resolve_left e;obtain⟨⟨h,O,a⟩,P,E⟩:=List.mem_map.mp D;have E:O=p:=E;subst E;obtain⟨q,A⟩:=S5 P;have T:=(List.getElem?_eq_some_iff.mp A).1;rw[Y7]at T;rw[Y4 (by omega)]at A;have Q:=L8 A;have tn:=aDd (N:=N) (x:=x) (i:=i) (j:=I r) (g6:=g6) (L:=L) R Q (by omega);obtain⟨U,o,v,V,w,nd,B⟩:=HQ (x:=x) (i:=i) R n40 F q h (L++[a]) (Z<|I a) (by omega) (R.od q h O a A) (by rw[B1,D5];omega);refine⟨a::U,o,v,?_,⟨h,BF<|R.li _ _ _ Q,w⟩,List.nodup_cons.mpr ⟨fun z=>?_,nd⟩,fun k G=>?_⟩
   .rw[t,A1];dsimp only;rw[A4 rfl,tn,A1];dsimp only;rw[V,B7];rfl
   .have z:=B a z;obtain⟨y,hy,H⟩:=List.mem_map.mp z;obtain⟨w',C⟩:=S5 hy;have W:=(List.getElem?_eq_some_iff.mp C).1;rw[Y7]at W;rw[Y4 (by omega)]at C
    have:=(A0e (h₀:=by rw[A3];exact(List.getElem?_eq_some_iff.mp C).1) (h₁:=by rw[A3];exact(List.getElem?_eq_some_iff.mp A).1) R.ats).mp (by
     rw[U7,U7,(List.getElem?_eq_some_iff.mp C).2,(List.getElem?_eq_some_iff.mp A).2];exact H)
    omega
   .have X:∀y,y∈ss.take q->y∈ss.take m:=fun y hy=>by
     rw[show q=min q m by omega,<- List.take_take]at hy;exact List.mem_of_mem_take hy
    rcases List.mem_cons.mp G with z|z
    .rw[z];exact List.mem_map.mpr ⟨_,P,rfl⟩
    .obtain⟨y,hy,H⟩:=List.mem_map.mp<|B k z;exact List.mem_map.mpr ⟨y,X y hy,H⟩
end
noncomputable abbrev aKr:SF:=(aS (bC lN<|hName 3)
 (aS (bC (lM aG)<|hName 4)
 (aS (bC (aD 1)<|hName 5)
 (aS oZ
 (bQ (aK bO (aC (aD 4) aG)))))))
def aCg{us:Tv Ed}(h:Tr n x us)(hi:Inn n i)(k:Inn n j):∃U L,aKr [Z (.d x),Z<|I i,Z<|I j,Y,Y,Y,Y] M=Z (.rt (.d (wD U)),M++L)/\Walk us i U j/\U.Nodup:=by
 obtain⟨ss,L,fr,R⟩:=vZ (γ:=[Z (.d x),Z<|I i,Z<|I j,Y,Y,Y,Y]) (M:=M) (fa:=aC (aD 0)<|aC (aD 2) aG) h k rfl;have n40:=h.n40;have sl:=R.len;have ln:=h.ln;generalize o:M++L=N at fr;have nd:=(List.nodup_cons.mp R.nd).2;have cl:=FT (N:=N) ss [] Y Y Y (by rw[Y2];exact nd) (by rw[Y0];omega)
 have t:lN [Z (.d x),Z<|I i,Z<|I j,Y,Y,Y,Y] M=Z (.c N.length,N++[.dk (kvC ss)]):=by
  unfold lN fDc;rw[fr,A1];dsimp only;rw[show DX [Y,Y,Y] [Z (.d x),Z<|I i,Z<|I j,Y,Y,Y,Y]=[Y,Y,Y]from rfl];show(dcF N.length _ _ _ _ _ [Y,Y,Y] (N++[.dk (kvC [])])).bind _=_;rw[cl,A1];rfl
 have F:(0:Nat)<=sizeLine:=E7 _
 have v:lM aG [Z (.d x),Z<|I i,Z<|I j,Z (.c N.length),Y,Y,Y] (N++[.dk (kvC ss)])=Z (.c (N.length+1),StU N ss []):=by
  show Z (CD.c (N++[Cell.dk (kvC ss)]).length,N++[Cell.dk (kvC ss)]++[Cell.lst []])=_;rw[B1,B7];rfl
 have A:i∈j::(ss.take ss.length).map (·.2.1):=by rw[List.take_length];exact(R.all i).mp hi
 obtain⟨U,B,g6,C,w,D,_⟩:=HQ (N:=N) (x:=.d x) (i:=I i) R n40 (ss.length+1) ss.length i [] Y (O6 _) A (by rw[Y0];omega);have e:oZ (GU (.d x) (I i) (I j) N (Z<|I i) Y) (StU N ss [])=Z (.nx (GU (.d x) (I i) (I j) N B g6),StU N ss ([]++U)):=BG C;rw[Y2]at e
 have E:bO [.c (N.length+1)] (StU N ss U)=Z (.d (wD U),StU N ss U):=by
  have:=YQ (N:=N) (ss:=ss) (L:=U);unfold Li cI at this
  have ad:mV (U.map fun i=>I i)=Z (U.map .int):=by
   have:=gQ<|U.map .int;rw[U3]at this;exact this
  simp only[bO,this,ad,Option.bind_some]
 refine⟨U,L++[.dk (kvC ss),cI U],?_,w,D⟩;unfold aKr;rw[aZ (iU t)];show aS _ _ [Z (.d x),Z<|I i,Z<|I j,Z (.c N.length),Y,Y,Y] _=_;rw[aZ (iU v)];show aS _ _ [Z (.d x),Z<|I i,Z<|I j,Z (.c N.length),Z (.c (N.length+1)),Y,Y] _=_;rw[aZ (iU (show aD 1 [Z (.d x),Z<|I i,Z<|I j,Z (.c N.length),Z (.c (N.length+1)),Y,Y] (StU N ss [])=Z (I i,StU N ss [])from rfl))];show aS _ _ (GU (.d x) (I i) (I j) N (Z<|I i) Y) _=_;rw[aZ e,<- B7,o];simp![E]
def zZ{h:FX}{xs:T6}(ha:fa γ M=Z (xs,M))(e:h xs M=Z (.v v,M')):iR (kP h<|liA fa) γ M=Z (.o (.nx γ),M'):=by
 unfold iR kP MP liA;rw[ha,A1,A1];dsimp only;rw[e,A1]
def HA{h:FX}{xs:T6}(ha:fa γ M=Z (xs,M))(k:h xs M=Z (.x e,M')):iR (kP h<|liA fa) γ M=Z (.xc γ e,M'):=by
 unfold iR kP MP liA;rw[ha,A1,A1];dsimp only;rw[k,A1]
def AB{f g:SFX}(h:f γ M=Z (.o (.nx γ'),M')):iY f g γ M=g γ' M':=by
 unfold iY;rw[h,A1]
def JC{f g:SFX}(h:f γ M=Z (.xc γ' e,M')):iY f g γ M=Z (.xc γ' e,M'):=by
 unfold iY;rw[h,A1]
def aBP{b:SFX}{xs:T6}{x:CD}(h:xs.length=ps)(e:b (xs.map Z++List.replicate (N-xs.length) Y) M=Z (.o (.rt x),M')):fnX ps N b xs M=Z (.v x,M'):=by
 unfold fnX;rw[A4 h,e,A1]
def PK{b:SFX}{xs:T6}(h:xs.length=ps)(k:b (xs.map Z++List.replicate (N-xs.length) Y) M=Z (.xc γ e,M')):fnX ps N b xs M=Z (.x e,M'):=by
 unfold fnX;rw[A4 h,k,A1]
def YB{f:SF}{x:CD}(h:f γ M=Z (.rt x,M')):liS f γ M=Z (.o (.rt x),M'):=by
 unfold liS;rw[h,A1]
def KC{M:Sto}(ln:∀M,fQ [.d x] M=Z (I J,M)):aC (fOp cS (aK fQ<|aC (aD 0) aG)<|fC (.int 1)) (aC (aD 1)<|aC (aD 2) aG) [Z (.d x),Z (.d y),Z (.d z),Y,Y,Y,Y] M=Z ([I (J+1),.d y,.d z],M):=by
 have e:cS (I J) (I 1) M=Z (I (J+1),M):=rfl;simp![ln,e]
def aEG(h:lB x=true)(hi:aQ x=Z ds)(u:unB ((ds.length:Int)+1) y z=false):∃L,jP [.d x,.d y,.d z] M=Z (.x xP,M++L):=by
 obtain⟨L,r⟩:=vQ x M;rw[h,A4 rfl]at r;have e:=GI ((ds.length:Int)+1) y z (M++L);rw[u,B0 (by decide)]at e;refine⟨L,PK (γ:=[Z (.d x),Z (.d y),Z (.d z),Y,Y,Y,Y]) rfl ?_⟩;unfold pM;show iY _ _ [Z (.d x),Z (.d y),Z (.d z),Y,Y,Y,Y] M=_;rw[AB (zZ rfl r)];exact JC<|HA (KC fun M=>gE hi) e
def aIE{us:Tv Ed}(h:lB x=true)(ht:Tr n x us)(hi:Inn n i)(e:Inn n j)(o:i≠j):∃U L,jP [.d x,I i,I j] M=Z (.v (.d (wD U)),M++L)/\Walk us i U j/\U.Nodup:=by
 obtain⟨ds,hx,hn,hm⟩:=ht.it;obtain⟨L,r⟩:=vQ x M;rw[h,A4 rfl]at r
 have u:unB ((ds.length:Int)+1) (.int i) (.int j)=true:=by
  unfold unB
  have t:plB ((ds.length:Int)+1) (.int i)=true:=by
   show(decide (0<=i)&&decide (i<(ds.length:Int)+1))=true;rw[B9 hi.1,B9 (by omega)];rfl
  have A:plB ((ds.length:Int)+1) (.int j)=true:=by
   show(decide (0<=j)&&decide (j<(ds.length:Int)+1))=true;rw[B9 e.1,B9 (by omega)];rfl
  rw[t,A,L9,L9];show(!(i==j))=true;rw[beq_eq_false_iff_ne.mpr o];rfl
 have k:=GI ((ds.length:Int)+1) (.int i) (.int j) (M++L);rw[u,A4 rfl]at k;obtain⟨U,L2,w,B,nd⟩:=aCg (M:=M++L) ht hi e;refine⟨U,L++L2,aBP rfl ?_,B,nd⟩;unfold pM;show iY _ _ [Z (.d x),Z<|I i,Z<|I j,Y,Y,Y,Y] M=_;rw[AB (zZ rfl r),AB<|zZ (KC fun M=>gE hx) k,<- B7];exact YB w
def Beh(us:Tv Ed)(r k p:Int):Prop:=∃U,Walk us p U r/\U.Nodup/\k∈U
section
variable{n:Nat}{us:Tv Ed}{r k:Int}{ss:Tv (Int×Int×Int)}
def fP.exU(R:fP n us r ss)(n40:n<=40)(hp:Inn n p):∃U,Walk us p U r/\U.Nodup:=by
 have ln:=R.ln;have sl:=R.len;obtain⟨U,_,_,_,w,nd,_⟩:=HQ (N:=[]) (x:=.d .none) (i:=.d .none) R n40 (ss.length+1) ss.length p [] Y (O6 _) (by rw[List.take_length];exact(R.all p).mp hp) (by rw[Y0];omega);exact⟨U,w,nd⟩
def fP.behs(R:fP n us r ss)(n40:n<=40){t:Int}(m:(h,t,a)∈ss):Beh us r k t↔a=k\/Beh us r k h:=by
 have ht:Inn n t:=(R.all t).mpr (A8 _<|List.mem_map.mpr ⟨_,m,rfl⟩)
 have split:∀U,Walk us t U r->U.Nodup->∃e,U=a::e/\Walk us h e r/\e.Nodup:=fun U w nd=>by
  cases U with
  |nil=>
   have w:t=r:=w;subst w;exact(R.root m).elim
  |cons q e=>
   obtain⟨g,B,v⟩:=R.up w nd;obtain⟨C,D⟩:=R.one m B;subst C D;exact⟨e,rfl,v,(List.nodup_cons.mp nd).2⟩
 constructor
 .rintro⟨U,w,nd,E⟩;obtain⟨e,rfl,v,o⟩:=split U w nd;rcases List.mem_cons.mp E with z|z
  .exact .inl z.symm
  .exact .inr ⟨e,v,o,z⟩
 .intro q;obtain⟨U,w,nd⟩:=R.exU n40 ht;obtain⟨e,rfl,v,o⟩:=split U w nd;refine⟨_,w,nd,?_⟩;rcases q with z|⟨V,F,G,A⟩
  .rw[z];exact A9 ..
  .rw[R.uniq F G v o]at A;exact A8 _ A
def fP.beh0(R:fP n us r ss):¬Beh us r k r:=by
 rintro⟨U,w,nd,e⟩;have:U=[]:=R.uniq w nd (show Walk us r [] r from rfl) A0o;subst this;cases e
noncomputable def eO(k:Int)(bs:T7)(s:Int×Int×Int):T7:=if s.2.2=k\/s.1∈bs then bs++[s.2.1]else bs
def fP.beh(R:fP n us r ss)(n40:n<=40):∀(xs pre:Tv (Int×Int×Int))(bs:T7),ss=pre++xs->bs.Nodup->(∀p∈bs,p∈pre.map (·.2.1))->(∀p∈r::pre.map (·.2.1),p∈bs↔Beh us r k p)->
 (xs.foldl (eO k) bs).Nodup/\(∀p,p∈xs.foldl (eO k) bs↔Inn n p/\Beh us r k p)
 |[]=>fun pre bs e nd sub h=>by
  rw[C8]at e;subst e;refine⟨nd,fun p=>⟨fun o=>?_,fun o=>?_⟩⟩
  .have m:=A8 r<|sub p o;exact⟨(R.all p).mpr m,(h p m).mp o⟩
  .exact(h p<|(R.all p).mp o.1).mpr o.2
 |(g,t,a)::xs=>fun pre bs e nd sub h=>by
  have m:(g,t,a)∈ss:=by rw[e];exact A7 _<|A9 ..
  have A:ss[pre.length]?=Z (g,t,a):=by rw[e,B4<|A6 _,D8];rfl
  have B:ss.take pre.length=pre:=by rw[e,List.take_left]
  have C:g∈r::pre.map (·.2.1):=by have:=R.od _ _ _ _ A;rwa [B]at this
  have nt:t∉r::pre.map (·.2.1):=fun z=>by
   have:=R.nd;rw[e,C7]at this;rcases List.mem_cons.mp z with z|z
   .exact R.root (z▸m)
   .have:=(List.nodup_append.mp (List.nodup_cons.mp this).2).2.2 t z t (A9 ..);exact this rfl
  have key:t∈eO k bs (g,t,a)↔Beh us r k t:=by
   rw[R.behs n40 m,<- h g C];unfold eO;dsimp only;split
   .rename_i c;exact⟨fun _=>c,fun _=>A7 _<|List.mem_singleton.mpr rfl⟩
   .rename_i c;exact⟨fun z=>absurd (A8 r<|sub t z) nt,fun z=>absurd z c⟩
  have v:∀p,p≠t->(p∈eO k bs (g,t,a)↔p∈bs):=fun p o=>by
   unfold eO;dsimp only;split
   .rw[List.mem_append,D4];exact⟨fun z=>z.resolve_right o,.inl⟩
   .exact Iff.rfl
  rw[Y1];refine R.beh n40 xs (pre++[(g,t,a)]) (eO k bs (g,t,a)) (by rw[e,B7];rfl) ?_ (fun p o=>?_) fun p o=>?_
  .unfold eO;dsimp only;split
   .rw[Z5];exact⟨nd,by simp,fun x hx y hy q=>by rw[D4]at hy;exact nt<|A8 _ (by rw[<- hy,<- q];exact sub x hx)⟩
   .exact nd
  .rw[C7];by_cases q:p=t
   .rw[q];exact A7 _<|List.mem_singleton.mpr rfl
   .exact C1 _<|sub p<|(v p q).mp o
  .by_cases q:p=t
   .rw[q];exact key
   .rw[v p q];refine h p ?_;rcases List.mem_cons.mp o with z|z
    .rw[z];exact A9 ..
    .rw[C7]at z;rcases List.mem_append.mp z with z|z
     .exact A8 _ z
     .exact absurd (List.mem_singleton.mp z) q
end
abbrev StB(M:Sto)(bs:T7)(L:Sto):Sto:=M++(Cell.dk (kvs bs)::L)
def OA{L:Sto}:(StB M bs L)[M.length]?=Z (.dk (kvs bs)):=by
 unfold StB;rw[B4 (A6 _),D8];rfl
def aDM{L:Sto}:(StB M bs L).set M.length (.dk (kvs e))=StB M e L:=by
 unfold StB;rw[E4 _ _ (A6 _),D8];rfl
abbrev GZ(x:CD)(k:Int)(c:Nat)(g3 g4 g5:Te):Ga:=[Z x,Z<|I k,Z (.c c),g3,g4,g5]
def aBT{x:CD}{L:Sto}{bs:T7}{s:Int×Int×Int}(C:bs.length<500)(nt:s.2.1∉bs):dO (GZ x k M.length (Z<|I s.1) (Z<|I s.2.1)<|Z<|I s.2.2) (StB M bs L)=Z (.nx (GZ x k M.length (Z<|I s.1) (Z<|I s.2.1)<|Z<|I s.2.2),StB M (eO k bs s) L):=by
 have B:(kvs bs).length<sizeLine:=by unfold kvs;rw[A3,E9];omega
 have t:atD (StB M bs L) (.c M.length) (.inl (.inl s.1))=Z (lkC (kvs bs) (.inl s.1:Key)):=by simp only[atD,OA]
 have v:keyOf (I s.1)=Z (.inl s.1):=rfl;have A:keyOf (I s.2.1)=Z (.inl s.2.1):=rfl;have e:=aBw bs s.1
 have s1:wX (StB M bs L) (.c M.length) (.inl (.inl s.2.1)) (.d (.bool true))=Z (StB M (bs++[s.2.1]) L):=by
  simp only[wX,OA,if_pos B,TH nt,aDM]
 unfold eO;cases q:(s.2.2==k)with
 |true=>
  rw[A4 (.inl (beq_iff_eq.mp q))];simp![dO,wO,q,hG,dS,A,s1]
 |false=>
  by_cases o:s.1∈bs
  .rw[B9 o]at e;rw[A4 (.inr o)];simp![dO,wO,q,qP,dS,v,t,e,hG,A,s1]
  .rw[C4 o]at e;rw[B0 fun z=>z.elim (beq_eq_false_iff_ne.mp q) o];simp![dO,wO,q,qP,dS,v,t,e]
theorem KL{x:CD}{M L:Sto}:∀(xs:Tv (Int×Int×Int))(bs:T7)(g3 g4 g5:Te),bs.length+xs.length<500->(bs++xs.map (·.2.1)).Nodup->
 ∃e o v,kZ (iB 3<|bD (hName 3)<|bD (hName 4)<|bD (hName 5) iV) dO (xs.map fun s=>.d (sP s)) (GZ x k M.length g3 g4 g5) (StB M bs L)=Z (.nx (GZ x k M.length e o v),StB M (xs.foldl (eO k) bs) L)
 |[]=>fun bs g3 g4 g5 _ _=>⟨g3,g4,g5,rfl⟩
 |s::xs=>fun bs g3 g4 g5 C nd=>by
  rw[C9]at C;rw[C0]at nd;obtain⟨D,E,B⟩:=List.nodup_append.mp nd;have nt:s.2.1∉bs:=fun z=>B _ z _ (A9 ..) rfl;have t:=aBT (x:=x) (k:=k) (M:=M) (L:=L) (s:=s) (by omega) nt;have bl:(eO k bs s).length<=bs.length+1:=by unfold eO;split<;>simp
  have A:(eO k bs s++xs.map (·.2.1)).Nodup:=by
   unfold eO;split
   .rw[B7];exact nd
   .exact List.nodup_append.mpr ⟨D,(List.nodup_cons.mp E).2,fun a ha b F=>B a ha b<|A8 _ F⟩
  obtain⟨G,H,O,l⟩:=KL (x:=x) (k:=k) (M:=M) (L:=L) xs (eO k bs s) (Z<|I s.1) (Z<|I s.2.1) (Z<|I s.2.2) (by omega) A;refine⟨G,H,O,?_⟩;rw[C0,Y1,cC (show iB 3 (bD (hName 3)<|bD (hName 4)<|bD (hName 5) iV) (.d (sP s)) (GZ x k M.length g3 g4 g5) (StB M bs L)=Z (GZ x k M.length (Z<|I s.1) (Z<|I s.2.1)<|Z<|I s.2.2,StB M bs L)from rfl) t];exact l
theorem FB:∀fs:T7,EN ((kvs fs).map (·.1))=Z fs
 |[]=>rfl
 |x::fs=>by
  show(EN ((kvs fs).map (·.1))).map (x::·)=_;rw[FB fs];rfl
def aHg{us:Tv Ed}(ht:Tr n x us)(E:0<n):∃bs L,jU [.d x,I k] M=Z (.d (wD<|kI bs),M++L)/\bs.Nodup/\∀p,p∈bs↔Inn n p/\Beh us 0 k p:=by
 have n40:=ht.n40;obtain⟨ss,L,fr,R⟩:=vZ (γ:=GZ (.d x) k M.length Y Y Y) (M:=M++[.dk []]) (fa:=aC (aD 0)<|aC (fC (.int 0)) aG) ht ⟨by omega,by omega⟩ rfl;have ln:=R.ln;have sl:=R.len;have o:=(List.nodup_cons.mp R.nd).2;obtain⟨F,G,H,v⟩:=KL (x:=.d x) (k:=k) (M:=M) (L:=L) ss [] Y Y Y (by rw[Y0];omega) (by rw[Y2];exact o)
 obtain⟨t,bm⟩:=R.beh (k:=k) n40 ss [] [] rfl A0o (fun p e=>by cases e) (fun p e=>by
  rcases List.mem_cons.mp e with z|z
  .subst z;exact⟨(fun z=>by cases z),fun z=>absurd z R.beh0⟩
  .cases z)
 have O:(ss.foldl (eO k) []).length<=n:=uV t fun p e=>((bm p).mp e).1;have A:M++[Cell.dk []]++L=StB M [] L:=by rw[B7];rfl
 rw[A]at fr;have B:=iT fr v
 have C:tM [.c M.length] (StB M (ss.foldl (eO k) []) L)=Z (.d (.list ((kI<|ss.foldl (eO k) []).map .int)),StB M (ss.foldl (eO k) []) L):=by
  simp only[tM,OA,FB,Option.bind_some,if_pos (show(ss.foldl (eO k) []).length<64 by omega)]
 have D:bO [.d (.list ((kI<|ss.foldl (eO k) []).map .int))] (StB M (ss.foldl (eO k) []) L)=Z (.d (wD<|kI<|ss.foldl (eO k) []),StB M (ss.foldl (eO k) []) L):=rfl;refine⟨_,Cell.dk (kvs<|ss.foldl (eO k) [])::L,nG rfl ?_,t,bm⟩;unfold oA;show aS _ _ [Z (.d x),Z<|I k,Y,Y,Y,Y] M=_;rw[aZ (show bC xK (hName 2) [Z (.d x),Z<|I k,Y,Y,Y,Y] M=Z (.nx (GZ (.d x) k M.length Y Y Y),M++[.dk []])from rfl),aZ B];simp![C,D]
structure Tm(x:Tz)(as:Tv (Int×Int)):Prop where
 ln:∃ds,aQ x=Z ds/\ds.length=as.length
 at_:∀(k:Nat)(a:Int×Int),as[k]?=Z a->∃d c,(∀M,ixF (.d x) (I (k:Nat)) M=Z (.d d,M))/\(∀M,ixF (.d d) (I 2) M=Z (.d c,M))/\aQ c=Z [.int a.1,.int a.2]
def Bd(as:Tv (Int×Int)):Prop:=∀a∈as,a.1.natAbs<dQ/\a.2.natAbs<dQ
noncomputable def blw(a b:Int×Int):Bool:=decide (a.1*b.2<b.1*a.2)
def UP(h:i.natAbs<dQ)(h':j.natAbs<dQ):kH i j=true:=by
 unfold kH;rw[B9 h,B9 h',A0t,Bool.or_true]
def UL{c:Tz}{a b:Int×Int}(e:aQ c=Z [.int a.1,.int a.2])(hd:aQ d=Z [.int b.1,.int b.2])(ha:a.1.natAbs<dQ/\a.2.natAbs<dQ)(k:b.1.natAbs<dQ/\b.2.natAbs<dQ):mM [.d c,.d d] M=Z (B<|blw a b,M):=by
 have o:∀M,ixF (.d c) (I 0) M=Z (I a.1,M):=fun M=>eI e;have t:∀M,ixF (.d c) (I 1) M=Z (I a.2,M):=fun M=>eI e;have v:∀M,ixF (.d d) (I 0) M=Z (I b.1,M):=fun M=>eI hd;have A:∀M,ixF (.d d) (I 1) M=Z (I b.2,M):=fun M=>eI hd;have C:=UP ha.1 k.2;have D:=UP k.1 ha.2;simp![mM,uT,o,t,v,A,C,D,blw]
def lst(as:Tv (Int×Int)):Td->Nat->Nat
 |[],l=>l
 |k::ks,l=>lst as ks (if blw (as.getD k (0,1)) (as.getD l (0,1))=true then k else l)
theorem aCI(as:Tv (Int×Int)):∀(ks:Td)(l:Nat),l<as.length->(∀k∈ks,k<as.length)->lst as ks l<as.length
 |[]=>fun l h _=>h
 |k::ks=>fun l h e=>by
  unfold lst;refine aCI as ks _ ?_ fun q o=>e q<|A8 _ o;split
  .exact e k<|A9 ..
  .exact h
def getD_at{as:Tv (Int×Int)}{k:Nat}(h:k<as.length):as[k]?=Z (as.getD k (0,1)):=by
 rw[C3,C5 h];rfl
def Bd.at{as:Tv (Int×Int)}(h:Bd as){k:Nat}(e:k<as.length):(as.getD k (0,1)).1.natAbs<dQ/\(as.getD k (0,1)).2.natAbs<dQ:=h _<|L8<|getD_at e
theorem DC{x:Tz}{y:CD}{M:Sto}(T:Tm x as)(v:Bd as):∀(ks:Td)(l:Nat)(g:Te),l<as.length->(∀k∈ks,k<as.length)->∃g',kZ (hName 3) fA (ks.map fun k=>I (k:Nat)) [Z (.d x),Z y,Z<|I (l:Nat),g] M=Z (.nx [Z (.d x),Z y,Z<|I ((lst as ks l:Nat):Int),g'],M)
 |[]=>fun l g _ _=>⟨g,rfl⟩
 |k::ks=>fun l g A B=>by
  have C:=B k<|A9 ..;obtain⟨d,c,i1,i2,E⟩:=T.at_ k _<|getD_at C;obtain⟨e,f,o,D,F⟩:=T.at_ l _<|getD_at A;have bl:=UL (M:=M) E F (v.at C)<|v.at A;have G:(if blw (as.getD k (0,1)) (as.getD l (0,1))=true then k else l)<as.length:=by split<;>assumption
  obtain⟨g',H⟩:=DC (y:=y) (M:=M) T v ks (if blw (as.getD k (0,1)) (as.getD l (0,1))=true then k else l) (Z<|I (k:Nat)) G fun q O=>B q<|A8 _ O;refine⟨g',?_⟩
  have t:fA [Z (.d x),Z y,Z<|I (l:Nat),Z<|I (k:Nat)] M=Z (.nx [Z (.d x),Z y,Z<|I ((if blw (as.getD k (0,1)) (as.getD l (0,1))=true then k else l:Nat):Int),Z<|I (k:Nat)],M):=by
   cases h:blw (as.getD k (0,1)) (as.getD l (0,1))with
   |true=>
    rw[h]at bl;rw[A4 rfl];generalize (k:Int)=J at i1 ⊢;generalize (l:Int)=K at o ⊢;simp![fA,i1,i2,o,D,bl]
   |false=>
    rw[h]at bl;rw[B0 (by decide)];generalize (k:Int)=J at i1 ⊢;generalize (l:Int)=K at o ⊢;simp![fA,i1,i2,o,D,bl]
  rw[C0,cC (show hName 3 (I (k:Nat)) [Z (.d x),Z y,Z<|I (l:Nat),g] M=Z ([Z (.d x),Z y,Z<|I (l:Nat),Z<|I (k:Nat)],M)from rfl) t];exact H
noncomputable abbrev nt(U:T7):Td:=U.map Int.toNat
def bst(as:Tv (Int×Int))(U:T7):Nat:=lst as (nt U)<|(nt U).headD 0
abbrev amt(as:Tv (Int×Int))(U:T7):Int×Int:=as.getD (bst as U) (0,1)
noncomputable abbrev amD(a:Int×Int):Tz:=.tuple [.int a.1,.int a.2]
def GT{as:Tv (Int×Int)}{U:T7}(e:∀k∈U,Inn as.length k):∀k∈nt U,k<as.length:=fun k o=>by
 obtain⟨z,t,rfl⟩:=List.mem_map.mp o;have:=e z t;omega
def OV{as:Tv (Int×Int)}{U:T7}(o:U≠[])(e:∀k∈U,Inn as.length k):bst as U<as.length:=by
 refine aCI as _ _ ?_<|GT e;cases U with
 |nil=>exact absurd rfl o
 |cons u V=>exact GT e _ A9
theorem HC{as:Tv (Int×Int)}:∀{U:T7},(∀k∈U,Inn as.length k)->(U.map PyData.int).map CD.d=(nt U).map fun k=>I (k:Nat)
 |[]=>fun _=>rfl
 |u::V=>fun h=>by
  have e:=h u A9;rw[C0,C0,HC fun k o=>h k<|A8 _ o];show _=I ((u.toNat:Nat):Int)::_;rw[A0y e.1]
def UC{V:T7}:ixF (.d (wD (u::V))) (I 0) M=Z (I u,M):=by
 show(atI ((u::V).map PyData.int) ((0:Nat):Int)).bind _=_;rw[pY (x:=.int u) rfl];rfl
def ZM{U:T7}(T:Tm x as)(o:Bd as)(t:U≠[])(e:∀k∈U,Inn as.length k):jT [.d x,.d (wD U)] M=Z (I ((bst as U:Nat):Int),M):=by
 cases U with
 |nil=>exact absurd rfl t
 |cons u V=>
  have v:=e u A9;have A:((u.toNat:Nat):Int)=u:=A0y v.1
  have it:cQ (aD 1) [Z (.d x),Z (.d (wD (u::V))),Z<|I ((u.toNat:Nat):Int),Y] M=Z ((nt (u::V)).map fun k=>I (k:Nat),M):=by
   refine(CT (ds:=(u::V).map .int) rfl rfl).trans ?_;rw[HC e]
  obtain⟨D,B⟩:=DC (y:=.d (wD (u::V))) (M:=M) T o (nt (u::V)) u.toNat Y (GT e _ A9)<|GT e
  have C:bC (fOp ixF (aD 1)<|fC (.int 0)) (hName 2) [Z (.d x),Z (.d (wD (u::V))),Y,Y] M=Z (.nx [Z (.d x),Z (.d (wD (u::V))),Z<|I ((u.toNat:Nat):Int),Y],M):=by
   rw[A];exact iU UC
  refine nG rfl ?_;unfold nV;show aS _ _ [Z (.d x),Z (.d (wD (u::V))),Y,Y] M=_;rw[aZ C,aZ<|iT it B];rfl
theorem lst_snoc(as:Tv (Int×Int)):∀(ks:Td)(l k:Nat),lst as (ks++[k]) l=if blw (as.getD k (0,1)) (as.getD (lst as ks l) (0,1))=true then k else lst as ks l
 |[]=>fun l k=>rfl
 |q::ks=>fun l k=>lst_snoc as ks _ k
def aCV(as:Tv (Int×Int))(k:Int):bst as [k]=k.toNat:=by
 show(if blw _ _=true then k.toNat else k.toNat)=k.toNat;split<;>rfl
def aBQ{as:Tv (Int×Int)}(h:U≠[])(k:Int):bst as (U++[k])=if blw (as.getD k.toNat (0,1)) (amt as U)=true then k.toNat else bst as U:=by
 cases U with
 |nil=>exact absurd rfl h
 |cons u V=>
  show lst as (nt ((u::V)++[k])) u.toNat=_;rw[show nt ((u::V)++[k])=nt (u::V)++[k.toNat]by simp[nt],lst_snoc];rfl
def aMi{l:Int}{c:Tz}{a:Int×Int}{M M1 M2:Sto}(e:jP [.d x,.d y,.d z] M=Z (.v (.d (wD U)),M1))(fl:jT [.d x,.d (wD U)] M1=Z (I l,M1))(i1:∀M,ixF (.d x) (I l) M=Z (.d d,M))(i2:∀M,ixF (.d d) (I 2) M=Z (.d c,M))(k:aQ c=Z [.int a.1,.int a.2])(o:jU [.d x,I l] M1=Z (.d (wD S),M2)):
 aU [.d x,.d y,.d z] M=Z (.v (.d (.tuple [amD a,wD S])),M2):=by
 have t:∀M,bO [.d c] M=Z (.d (.tuple [.int a.1,.int a.2]),M):=fun M=>ES k;have s2:(2:Nat)<=sizeLine:=by decide
 simp![aU,gV,yZ,xCB,wI,L2.okR,e,fl,i1,i2,t,o,s2]
def aMg{M1:Sto}(k:jP [.d x,.d y,.d z] M=Z (.x e,M1)):aU [.d x,.d y,.d z] M=Z (.x e,M1):=by
 simp![aU,gV,yZ,xCB,wI,L2.okR,k]
def aAT{us:Tv Ed}(h:lB x=true)(ht:Tr n x us)(T:Tm x as)(A:Bd as)(al:as.length=us.length)(B:0<n)(hi:Inn n i)(C:Inn n j)(o:i≠j):∃U bs L,aU [.d x,I i,I j] M=Z (.v (.d (.tuple [amD (amt as U),wD<|kI bs])),M++L)/\Walk us i U j/\U.Nodup/\bs.Nodup/\∀p,p∈bs↔Inn n p/\Beh us 0 ((bst as U:Nat):Int) p:=by
 obtain⟨U,L,D,e,nd⟩:=aIE (M:=M) h ht hi C o;have u0:U≠[]:=fun z=>by subst z;exact o e
 have t:∀k∈U,Inn as.length k:=fun k E=>by rw[al];exact vM e k E
 obtain⟨d,c,i1,i2,F⟩:=T.at_ (bst as U) _<|getD_at<|OV u0 t;obtain⟨bs,L2,G,H,O⟩:=aHg (k:=((bst as U:Nat):Int)) (M:=M++L) ht B;exact⟨U,bs,L++L2,by rw[<- B7];exact aMi D (ZM T A u0 t) i1 i2 F G,e,nd,H,O⟩
def aJk{e:Cell}:(M++[e])[M.length]?=Z e:=by rw[B4 (A6 _),D8];rfl
abbrev GQ(x y z:Tz):Ga:=[Z (.d x),Z (.d y),Z (.d z),Y]
noncomputable abbrev hsQ:Tv HMi:=[⟨[("NoPlace",false),("NoTree",true)],(Z 3),jM⟩,⟨[("NoPlace",true),("NoTree",false)],Y,jC⟩]
def aIJ:zP hsQ (GQ x y z) xT M=Z (.rt (I 1),M++[.exc false "NoTree" []]):=by
 have e:=aJk (M:=M) (e:=.exc false "NoTree" []);have k:List.lookup ("NoTree":Str) [(("NoPlace":Str),false),("NoTree",true)]=Z true:=by decide +kernel
 have o:List.lookup ("NoTree":Str) gY=Z false:=by decide +kernel
 have t:∀M,UY [.d (.bool false)] M=Z (I 0,M):=fun M=>rfl;have v:kH 2 0=true:=by decide
 have A:(2:Int)*0=0:=by decide
 have B:∀M,cS (I 1) (I 0) M=Z (I 1,M):=fun M=>rfl;simp![zP,hsQ,k,jM,e,o,t,v,A,B]
def aDP:zP hsQ (GQ x y z) xP M=Z (.rt (I 2),M++[.exc false "NoPlace" []]):=by
 have e:List.lookup ("NoPlace":Str) [(("NoPlace":Str),false),("NoTree",true)]=Z false:=by decide +kernel
 have k:List.lookup ("NoPlace":Str) [(("NoPlace":Str),true),("NoTree",false)]=Z true:=by decide +kernel
 simp![zP,hsQ,e,k,jC]
def b_x{M1:Sto}(h:aU [.d x,.d y,.d z] M=Z (.x e,M1)):gF (GQ x y z) M=Z (.xc (GQ x y z) e,M1):=by
 simp![gF,h]
def aKq{M1 M2:Sto}(h:aU [.d x,.d y,.d z] M=Z (.x e,M1))(k:zP hsQ (GQ x y z) e M1=Z (.rt (I q),M2)):bJ [.d x,.d y,.d z] M=Z (I q,M2):=by
 refine nG rfl ?_;unfold lU;show aS (HN gF hsQ) _ (GQ x y z) M=_;unfold aS HN;rw[b_x h,A1];show((zP hsQ (GQ x y z) e M1).bind _)=_;rw[k];rfl
def JI(M:Sto)(h:lB x=true)(hi:aQ x=Z ds)(u:unB ((ds.length:Int)+1) y z=false):∃L,bJ [.d x,.d y,.d z] M=Z (I 2,M++L):=by
 obtain⟨L,w⟩:=aEG (M:=M) h hi u;exact⟨L++[.exc false "NoPlace" []],by rw[<- B7];exact aKq (aMg w) aDP⟩
def QJ(h:aQ x=Z ds):∃o,aQ (lsN k x)=Z o/\o.length=ds.length/\∀n,o.mapM (bK n)=ds.mapM (bK n):=by
 rcases wJ k x with e|⟨m,xs,t,v⟩
 .exact⟨ds,by rw[e,h],rfl,fun _=>rfl⟩
 .rw[h]at t;cases t;exact⟨_,v,by rw[A3],fun n=>IE n m ds⟩
def Tr.ls{us:Tv Ed}(h:Tr n x us):Tr n (lsN k x) us:=by
 obtain⟨ds,o,B,t⟩:=h.it;obtain⟨e,v,C,A⟩:=QJ (k:=k) o;exact⟨⟨e,v,by omega,by rw[A];exact t⟩,h.n40,h.con⟩
def aFd(h:lB x=true):lB (lsN k x)=true:=by
 unfold lB at h ⊢;cases hi:aQ x with
 |none=>rw[hi]at h;cases h
 |some ds=>
  obtain⟨e,o,t,v⟩:=QJ (k:=k) hi;rw[hi]at h;rw[o];dsimp only at h ⊢;rw[t,aDy];exact h
def Tr.root{us:Tv Ed}(h:Tr n x us)(hp:Inn n p):∃ss,fP n us p ss:=by
 obtain⟨ss,_,_,R⟩:=vZ (γ:=[Z (.d x),Z<|I p]) (M:=[]) (fa:=aC (aD 0)<|aC (aD 1) aG) h hp rfl;exact⟨ss,R⟩
theorem wV:∀L:T7,PyData.eqvAll (L.map .int) (L.map .int)=true
 |[]=>rfl
 |i::L=>by
  show((i==i)&&PyData.eqvAll (L.map .int) (L.map .int))=true;rw[wV L];simp
def PB(L:T7):SeqAt.shaped (wD L)=true:=by
 unfold SeqAt.shaped;have e:PyData.canLay0 (.tuple (L.map .int))=true:=nK L;have k:PyData.depth (.tuple (L.map .int))=1:=by show PyData.depthAll (L.map .int)+1=1;rw[pF]
 rw[e,k];rfl
def ne_self(L:T7)(M:Sto):eqX true (.d (wD L)) (.d (wD L)) M=Z (B false,M):=by
 show(if (SeqAt.shaped (wD L)&&SeqAt.shaped (wD L))=true then Z (B (!PyData.eqv (wD L) (wD L)),M)else Y)=_;rw[PB,A0t,A4 rfl,show PyData.eqv (wD L) (wD L)=PyData.eqvAll (L.map .int) (L.map .int)from rfl,wV];rfl
def HW(M:Sto)(c:Nat)(us:Tv Ed)(f:Int)(n:Nat):Prop:=∃fd,M[c]?=Z (.dk (kvW fd))/\∀p,Inn n p->∃L,look fd p=Z L/\Walk us f L p/\L.Nodup
def HW.get{us:Tv Ed}(h:HW M c us f n)(hp:Inn n p):∃L,atD M (.c c) (.inl (.inl p))=Z (Z (.d (wD L)))/\Walk us f L p/\L.Nodup:=by
 obtain⟨fd,e,k⟩:=h;obtain⟨L,l,w,nd⟩:=k p hp;exact⟨L,by simp only[atD,e,aJx,l,Option.map_some],w,nd⟩
def RI{us:Tv Ed}(M:Sto)(hT:IsT x us)(ht:Tr n x us)(e:Inn n f):∃L,fT [.d x,I f] M=Z (.c M.length,M++L)/\HW (M++L) M.length us f n:=
 ⟨_,aHe M hT ht.ok e ht.n40 ht.ln,_,OT,MC ht.ok e ht.ln fun p k=>ht.con p f k e⟩
noncomputable def fl(W:Int->Bool):Int->Nat->T7
 |_,0=>[]
 |lo,q+1=>if W lo=true then lo::fl W (lo+1) q else fl W (lo+1) q
theorem fl_mem{W:Int->Bool}:∀{q:Nat}{lo p:Int},p∈fl W lo q↔(lo<=p/\p<lo+q)/\W p=true
 |0,lo,p=>by
  unfold fl;constructor
  .intro h;cases h
  .rintro⟨h,_⟩;omega
 |q+1,lo,p=>by
  have ih:=fl_mem (W:=W) (q:=q) (lo:=lo+1) (p:=p);unfold fl;by_cases e:p=lo
  .subst e;split
   .rename_i h;exact⟨fun _=>⟨⟨by omega,by omega⟩,h⟩,fun _=>A9 ..⟩
   .rename_i h;rw[ih];exact⟨fun z=>absurd z.2 h,fun z=>absurd z.2 h⟩
  .split
   .rw[List.mem_cons,ih];constructor
    .rintro(z|⟨z,y⟩)
     .exact absurd z e
     .exact⟨⟨by omega,by omega⟩,y⟩
    .rintro⟨z,y⟩;exact .inr ⟨⟨by omega,by omega⟩,y⟩
   .rw[ih];constructor
    .rintro⟨z,y⟩;exact⟨⟨by omega,by omega⟩,y⟩
    .rintro⟨z,y⟩;exact⟨⟨by omega,by omega⟩,y⟩
theorem aAL{W:Int->Bool}:∀(q:Nat)(lo:Int),(fl W lo q).Pairwise (·<·)
 |0=>fun lo=>.nil
 |q+1=>fun lo=>by
  unfold fl;split
  .exact List.pairwise_cons.mpr ⟨fun p e=>by have:=(fl_mem.mp e).1.1;omega,aAL q (lo+1)⟩
  .exact aAL q (lo+1)
theorem ZU{W:Int->Bool}:∀(q:Nat)(lo:Int),(fl W lo q).length<=q
 |0=>fun lo=>A6 _
 |q+1=>fun lo=>by
  unfold fl;have:=ZU (W:=W) q (lo+1);split
  .rw[C9];omega
  .omega
def inW(fd:Wd')(k p:Int):Bool:=match look fd p with
 |some L=>decide (k∈L)
 |none=>false
theorem any_ints(k:Int):∀L:T7,((L.map PyData.int).any fun d=>PyData.eqv d (.int k))=decide (k∈L)
 |[]=>rfl
 |i::L=>by
  rw[C0,U5,any_ints k L];show((i==k) || decide (k∈L))=_;by_cases h:i=k
  .subst h;simp
  .have:(i==k)=false:=beq_eq_false_iff_ne.mpr h;rw[this,Bool.false_or];exact decide_eq_decide.mpr ⟨A8 _,fun z=>(List.mem_cons.mp z).resolve_left fun q=>h q.symm⟩
theorem aCa:∀L:T7,(L.map PyData.int).all SeqAt.shaped=true
 |[]=>rfl
 |i::L=>by rw[C0,Z1,aCa L];rfl
def aIk(k:Int)(L:T7)(M:Sto):inD false (I k) (.d (wD L)) M=Z (B<|decide (k∈L),M):=by
 show(if (SeqAt.shaped (.int k)&&(L.map PyData.int).all SeqAt.shaped)=true then Z (B ((L.map PyData.int).any fun d=>PyData.eqv d (.int k)),M)else Y)=_;rw[aCa,any_ints];rfl
noncomputable abbrev inT:TF:=(gB<|fOp (inD false) (aD 0)<|gI (aD 1)<|dS<|aD 2)
theorem UA{n c:Nat}{M:Sto}(o:M[c]?=Z (.dk (kvW fd)))(t:∀p,Inn n p->∃L,look fd p=Z L):∀(q:Nat)(lo:Int)(g:Te),0<=lo->lo+q<=n->
 lcF (hName 2) inT (aD 2) (eA lo q) [Z (I k),Z (.c c),g] M=Z (((fl (inW fd k) lo q).map PyData.int).map .d,M)
 |0=>fun lo g _ _=>rfl
 |q+1=>fun lo g A D=>by
  have ih:=UA (k:=k) o t q (lo+1) (Z<|I lo) (by omega) (by omega);obtain⟨L,v⟩:=t lo ⟨A,by omega⟩;have B:keyOf (I lo)=Z (.inl lo):=rfl;have C:atD M (.c c) (.inl (.inl lo))=Z (Z (.d (wD L))):=by simp only[atD,o,aJx,v,Option.map_some]
  have it:inT [Z (I k),Z (.c c),Z<|I lo] M=Z (inW fd k lo,M):=by
   have e:inW fd k lo=decide (k∈L):=by unfold inW;rw[v]
   rw[e];simp![inT,gI,dS,B,C,aIk]
  rw[eZ];unfold lcF;rw[show hName 2 (I lo) [Z (I k),Z (.c c),g] M=Z ([Z (I k),Z (.c c),Z<|I lo],M)from rfl,A1];dsimp only;rw[it,A1];dsimp only;unfold fl;cases e:inW fd k lo with
  |true=>
   rw[A4 rfl,A4 rfl,show aD 2 [Z (I k),Z (.c c),Z<|I lo] M=Z (I lo,M)from rfl,A1];dsimp only;rw[ih];rfl
  |false=>
   rw[B0 (by decide),B0 (by decide)];exact ih
def aFp{us:Tv Ed}{bs:T7}(R:fP n us 0 ss)(E:∀p,Inn n p->∃L,look fd p=Z L/\Walk us 0 L p/\L.Nodup)(nd:bs.Nodup)(F:∀p,p∈bs↔Inn n p/\Beh us 0 k p):kI bs=fl (inW fd k) 0 n:=by
 have o:=aAL (W:=inW fd k) n 0;refine sZ (qB bs) (o.imp fun h=>Int.le_of_lt h)<|(vF bs).trans ((List.perm_ext_iff_of_nodup nd<|List.nodup_iff_pairwise_ne.mpr (o.imp fun h=>Int.ne_of_lt h)).mpr fun p=>?_);rw[F,fl_mem]
 have key:∀t:Inn n p,Beh us 0 k p↔inW fd k p=true:=fun t=>by
  obtain⟨L,G,w,ld⟩:=E p t;have e:inW fd k p=decide (k∈L):=by unfold inW;rw[G]
  have C:=sL w
  have v:L.reverse.Nodup:=by
   rw[S6,List.pairwise_reverse];exact(List.nodup_iff_pairwise_ne.mp ld).imp fun h e=>h e.symm
  rw[e,F8];constructor
  .rintro⟨U,u1,H,D⟩;rw[R.uniq u1 H C v]at D;exact List.mem_reverse.mp D
  .intro z;exact⟨_,C,v,List.mem_reverse.mpr z⟩
 constructor
 .rintro⟨A,B⟩;exact⟨⟨A.1,by omega⟩,(key A).mp B⟩
 .rintro⟨A,B⟩;have t:Inn n p:=⟨A.1,by omega⟩;exact⟨t,(key t).mpr B⟩
structure TmT(x:Tz)(as:Tv (Int×Int)):Prop where
 at_:∀(k:Nat)(a:Int×Int),as[k]?=Z a->∃d,(∀M,ixF (.d x) (I (k:Nat)) M=Z (.d d,M))/\∀M,ixF (.d d) (I 2) M=Z (.d (amD a),M)
abbrev GE(x n i j w l:CD)(g6:Te):Ga:=[Z x,Z n,Z i,Z j,Z w,Z l,g6,Y]
def YD{a b:Int×Int}{n i j w:CD}(i1:ixF (.d x) (I J) M=Z (.d d,M))(i2:ixF (.d d) (I 2) M=Z (.d (amD a),M))(o:ixF (.d x) (I K) M=Z (.d e,M))(t:ixF (.d e) (I 2) M=Z (.d (amD b),M))(v:kH a.1 b.2=true)(A:kH b.1 a.2=true):
 iL (GE (.d x) n i j w (I K)<|Z<|I J) M=Z (.nx (GE (.d x) n i j w (I (if blw a b=true then J else K))<|Z<|I J),M):=by
 have B:∀c:Int×Int,ixF (.d (amD c)) (I 0) M=Z (I c.1,M):=fun _=>rfl;have C:∀c:Int×Int,ixF (.d (amD c)) (I 1) M=Z (I c.2,M):=fun _=>rfl;by_cases h:a.1*b.2<b.1*a.2
 .have k:blw a b=true:=B9 h;rw[k,A4 rfl];have hd:decide (a.1*b.2<b.1*a.2)=true:=B9 h;simp![iL,i1,i2,o,t,B,C,v,A,hd]
 .have k:blw a b=false:=C4 h;rw[k,B0 (by decide)];have hd:decide (a.1*b.2<b.1*a.2)=false:=C4 h;simp![iL,i1,i2,o,t,B,C,v,A,hd]
theorem LH{x:Tz}{n i j w:CD}{M:Sto}(T:TmT x as)(o:Bd as):∀(ks:Td)(l:Nat)(g:Te),l<as.length->(∀k∈ks,k<as.length)->∃g',kZ (hName 6) iL (ks.map fun k=>I (k:Nat)) (GE (.d x) n i j w (I (l:Nat)) g) M=Z (.nx (GE (.d x) n i j w (I ((lst as ks l:Nat):Int)) g'),M)
 |[]=>fun l g _ _=>⟨g,rfl⟩
 |k::ks=>fun l g v B=>by
  have A:=B k<|A9 ..;obtain⟨d,i1,i2⟩:=T.at_ k _<|getD_at A;obtain⟨e,C,D⟩:=T.at_ l _<|getD_at v;have E:(if blw (as.getD k (0,1)) (as.getD l (0,1))=true then k else l)<as.length:=by split<;>assumption
  obtain⟨g',F⟩:=LH (n:=n) (i:=i) (j:=j) (w:=w) (M:=M) T o ks (if blw (as.getD k (0,1)) (as.getD l (0,1))=true then k else l) (Z<|I (k:Nat)) E fun q G=>B q<|A8 _ G;refine⟨g',?_⟩;have t:=YD (n:=n) (i:=i) (j:=j) (w:=w) (i1 M) (i2 M) (C M) (D M) (UP (o.at A).1 (o.at v).2)<|UP (o.at v).1 (o.at A).2;rw[show(if blw (as.getD k (0,1)) (as.getD l (0,1))=true then((k:Nat):Int)else((l:Nat):Int))=((if blw (as.getD k (0,1)) (as.getD l (0,1))=true then k else l:Nat):Int)by split<;>rfl]at t;rw[C0,cC (show hName 6 (I (k:Nat)) (GE (.d x) n i j w (I (l:Nat)) g) M=Z (GE (.d x) n i j w (I (l:Nat))<|Z<|I (k:Nat),M)from rfl) t];exact F
def aDe{x:CD}(sm:bS J=true):dA (aC (aD 1) aG) (Z x::Z (I J)::γ) M=Z (eA 0 J.toNat,M):=by
 simp![dA,sm]
def YI{x i j:CD}{g:Te}(n40:n<=40)(e:M[c]?=Z (.dk (kvW fd)))(o:∀p,Inn n p->∃L,look fd p=Z L):lH [Z x,Z<|I n,Z i,Z j,Z w,Z<|I k,g,Z (.c c)] M=Z (.d (.list ((fl (inW fd k) 0 n).map .int)),M):=by
 refine qT (ys:=(fl (inW fd k) 0 n).map .int) (xs:=eA 0 n) ?_ (by rw[pC];exact sz (by omega)) ?_ (by rw[A3];exact sz<|F5 (ZU _ _) (by omega))
 .have:=aDe (J:=(n:Int)) (x:=x) (γ:=[Z i,Z j,Z w,Z<|I k,g,Z (.c c)]) (M:=M)<|fV (by omega) (by omega);rw[Z6]at this;exact this
 .exact UA e o n 0 Y (by decide) (by omega)
def aFk{i j:CD}{g:Te}{a:Int×Int}(i1:ixF (.d x) (I k) M=Z (.d d,M))(i2:ixF (.d d) (I 2) M=Z (.d (amD a),M))(e:lH [Z (.d x),Z<|I J,Z i,Z j,Z w,Z<|I k,g,Z (.c c)] M=Z (.d (.list (S.map .int)),M)):
 bQ (bY<|aC (fOp ixF (fOp ixF (aD 0)<|aD 5)<|fC (.int 2))<|aC (aK bO<|aC lH aG) aG) [Z (.d x),Z<|I J,Z i,Z j,Z w,Z<|I k,g,Z (.c c)] M=Z (.rt (.d (.tuple [amD a,wD S])),M):=by
 have o:bO [.d (.list (S.map .int))] M=Z (.d (wD S),M):=rfl;have s2:(2:Nat)<=sizeLine:=by decide
 simp![i1,i2,e,o,s2]
def aLn{us:Tv Ed}(M:Sto)(hT:IsT x us)(ht:Tr n x us)(T:TmT x as)(H:Bd as)(al:as.length=us.length)(h0:0<n)(hi:Inn n i)(O:Inn n j)(P:i≠j):∃U S L,dJ [.d x,I n,I i,I j] M=Z (.d (.tuple [amD (amt as U),wD S]),M++L)/\Walk us i U j/\U.Nodup/\∀bs:T7,bs.Nodup->(∀p,p∈bs↔Inn n p/\Beh us 0 ((bst as U:Nat):Int) p)->kI bs=S:=by
 obtain⟨e,Q,A⟩:=RI (f:=i) M hT ht hi;obtain⟨U,ga,B,nd⟩:=A.get O;have F:Inn n 0:=⟨by decide,by omega⟩;obtain⟨L2,W,C⟩:=RI (f:=0) (M++e) hT ht F;obtain⟨fd,t,o⟩:=C;have u0:U≠[]:=fun z=>by subst z;exact P B
 have v:∀k∈U,Inn as.length k:=fun k X=>by rw[al];exact vM B k X
 have bl:=OV u0 v;obtain⟨d,i1,i2⟩:=T.at_ (bst as U) _<|getD_at bl;obtain⟨ss,R⟩:=ht.root F;refine⟨U,fl (inW fd ((bst as U:Nat):Int)) 0 n,e++L2,?_,B,nd,fun bs b1 b2=>aFp R o b1 b2⟩;have n40:=ht.n40;have G:=YI (x:=.d x) (i:=I i) (j:=I j) (w:=.d (wD U)) (k:=((bst as U:Nat):Int)) (g:=Y) n40 t fun p D=>let⟨L,q,_⟩:=o p D;⟨L,q⟩;cases U with
 |nil=>exact absurd rfl u0
 |cons u V=>
  have hu:=v u A9;have eu:((u.toNat:Nat):Int)=u:=A0y hu.1
  have it:cQ (aD 4) (GE (.d x) (I n) (I i) (I j) (.d (wD (u::V))) (I ((u.toNat:Nat):Int)) Y) (M++e)=Z ((nt (u::V)).map fun k=>I (k:Nat),M++e):=by
   refine(CT (ds:=(u::V).map .int) rfl rfl).trans ?_;rw[HC v]
  obtain⟨E,lp⟩:=LH (n:=I n) (i:=I i) (j:=I j) (w:=.d (wD (u::V))) (M:=M++e) T H (nt (u::V)) u.toNat Y (GT v _ A9)<|GT v;have G:=YI (x:=.d x) (i:=I i) (j:=I j) (w:=.d (wD (u::V))) (k:=((bst as (u::V):Nat):Int)) (g:=E) n40 t fun p D=>let⟨L,q,_⟩:=o p D;⟨L,q⟩
  have a1:bC (gI (aK fT<|aC (aD 0)<|aC (aD 2) aG)<|dS<|aD 3) (hName 4) [Z (.d x),Z<|I n,Z<|I i,Z<|I j,Y,Y,Y,Y] M=Z (.nx [Z (.d x),Z<|I n,Z<|I i,Z<|I j,Z (.d (wD (u::V))),Y,Y,Y],M++e):=by
   have kj:keyOf (I j)=Z (.inl j):=rfl;generalize (n:Int)=J;simp![gI,dS,Q,kj,ga]
  have a2:bC (fOp ixF (aD 4)<|fC (.int 0)) (hName 5) [Z (.d x),Z<|I n,Z<|I i,Z<|I j,Z (.d (wD (u::V))),Y,Y,Y] (M++e)=Z (.nx (GE (.d x) (I n) (I i) (I j) (.d (wD (u::V))) (I ((u.toNat:Nat):Int)) Y),M++e):=by
   rw[eu];exact iU UC
  have a4:bC (aK fT<|aC (aD 0)<|aC (fC (.int 0)) aG) (hName 7) (GE (.d x) (I n) (I i) (I j) (.d (wD (u::V))) (I ((bst as (u::V):Nat):Int)) E) (M++e)=Z (.nx [Z (.d x),Z<|I n,Z<|I i,Z<|I j,Z (.d (wD (u::V))),Z<|I ((bst as (u::V):Nat):Int),E,Z (.c (M++e).length)],M++e++L2):=iU W;refine nG rfl ?_;unfold vE;show aS _ _ [Z (.d x),Z<|I n,Z<|I i,Z<|I j,Y,Y,Y,Y] M=_;rw[aZ a1,aZ a2,aZ<|iT it lp,<- B7];refine(aZ a4).trans ?_;exact aFk (i1 _) (i2 _) G
def aHf{us:Tv Ed}(R:fP n us r ss){LL:Int->T7}(D:∀p,Inn n p->Walk us r (LL p) p/\(LL p).Nodup){t:Int}(m:(h,t,a)∈ss):Inn n h/\Inn n t/\LL t=LL h++[a]/\(h=r↔LL h=[]):=by
 have it:Inn n t:=(R.all t).mpr (A8 _<|List.mem_map.mpr ⟨_,m,rfl⟩)
 have ih:Inn n h:=by
  obtain⟨q,F⟩:=S5 m;have:=R.od q h t a F;refine(R.all h).mpr ?_;rcases List.mem_cons.mp this with z|z
  .rw[z];exact A9
  .obtain⟨y,hy,e⟩:=List.mem_map.mp z;exact A8 _<|List.mem_map.mpr ⟨y,List.mem_of_mem_take hy,e⟩
 have A:∀{L:T7},L.Nodup->L.reverse.Nodup:=fun{L} nd=>by
  rw[S6,List.pairwise_reverse];exact(List.nodup_iff_pairwise_ne.mp nd).imp fun h e=>h e.symm
 obtain⟨G,B⟩:=D t it;obtain⟨o,E⟩:=D h ih;have v:=sL G;have C:=A B;refine⟨ih,it,?_,fun z=>?_,fun z=>?_⟩
 .cases e:(LL t).reverse with
  |nil=>
   rw[e]at v;have:t=r:=v;subst this;exact(R.root m).elim
  |cons k Q=>
   rw[e]at v C;obtain⟨h',H,I⟩:=R.up v C;obtain⟨O,P⟩:=R.one m H;subst O P;have u:=R.uniq I (List.nodup_cons.mp C).2 (sL o) (A E);have e:=L5 List.reverse e;rw[List.reverse_reverse,u,Z3,List.reverse_reverse]at e;exact e
 .subst z;have:=R.uniq (sL o) (A E) (show Walk us h [] h from rfl) A0o;exact List.reverse_eq_nil_iff.mp this
 .rw[z]at o;exact(show r=h from o).symm
def aKD{us:Tv Ed}{as:Tv (Int×Int)}(R:fP n us r ss){LL:Int->T7}(v:∀p,Inn n p->Walk us r (LL p) p/\(LL p).Nodup){t:Int}(m:(h,t,a)∈ss):
 amt as (LL t)=if h=r\/blw (as.getD a.toNat (0,1)) (amt as<|LL h)=true then as.getD a.toNat (0,1)else amt as (LL h):=by
 obtain⟨_,_,e,z⟩:=aHf R v m;rw[e];by_cases k:h=r
 .rw[A4 (.inl k),z.mp k,Y2];show as.getD (bst as [a]) (0,1)=_;rw[aCV]
 .show as.getD (bst as (LL h++[a])) (0,1)=_;rw[aBQ fun q=>k<|z.mpr q];by_cases o:blw (as.getD a.toNat (0,1)) (amt as<|LL h)=true
  .rw[A4 o,A4 (.inr o)]
  .rw[B0 o,B0 fun q=>q.elim k o]
def kvM(W:Int->Int×Int)(ts:T7):Tv (Key×CD):=ts.map fun p=>((.inl p:Key),.d (amD<|W p))
theorem NQ(W:Int->Int×Int){p:Int}:∀{ts:T7},p∈ts->lkC (kvM W ts) (.inl p:Key)=Z (.d (amD<|W p))
 |[]=>fun h=>by cases h
 |t::ts=>fun h=>by
  by_cases e:t=p
  .subst e;simp[kvM,lkC]
  .have h':p∈ts:=(List.mem_cons.mp h).resolve_left fun q=>e q.symm;have ih:=NQ W h';have k:¬((Sum.inl t:Key)=Sum.inl p):=fun q=>e<|A0m q;unfold lkC kvM at ih ⊢;rw[C0,List.find?_cons,C4 k];exact ih
def aDS{W:Int->Int×Int}(h:p∉ts):putD (kvM W ts) (.inl p:Key) (.d (amD<|W p))=kvM W (ts++[p]):=by
 unfold putD
 have:((kvM W ts).any fun o=>decide (o.1=(Sum.inl p:Key)))=false:=by
  rw[List.any_eq_false];intro o k;obtain⟨y,hy,rfl⟩:=List.mem_map.mp k;rw[F8];exact fun e=>h (A0m e▸hy)
 rw[this,B0 (by decide)];unfold kvM;rw[C7,F0]
abbrev StM(M:Sto)(W:Int->Int×Int)(ts:T7)(L:Sto):Sto:=M++(Cell.dk (kvM W ts)::L)
def NY{L:Sto}{W:Int->Int×Int}:(StM M W ts L)[M.length]?=Z (.dk (kvM W ts)):=by
 unfold StM;rw[B4 (A6 _),D8];rfl
def aDp{L:Sto}{W:Int->Int×Int}:(StM M W ts L).set M.length (.dk (kvM W e))=StM M W e L:=by
 unfold StM;rw[E4 _ _ (A6 _),D8];rfl
abbrev GM(x:CD)(r:Int)(c:Nat)(g3 g4 g5 g6:Te):Ga:=[Z x,Z<|I r,Z (.c c),g3,g4,g5,g6]
def aEK{c:Tz}{t:Int}{M L:Sto}{W:Int->Int×Int}{b:Int×Int}{g6:Te}(i1:∀M,ixF (.d x) (I a) M=Z (.d d,M))(i2:∀M,ixF (.d d) (I 2) M=Z (.d c,M))(B:aQ c=Z [.int b.1,.int b.2])(C:b.1.natAbs<dQ/\b.2.natAbs<dQ)(D:(W h).1.natAbs<dQ/\(W h).2.natAbs<dQ)(E:h=r\/h∈ts)(nt:t∉ts)(O:ts.length<500)(e:W t=if h=r\/blw b (W h)=true then b else W h):
 iI (GM (.d x) r M.length (Z<|I h) (Z<|I t) (Z<|I a) g6) (StM M W ts L)=Z (.nx (GM (.d x) r M.length (Z<|I h) (Z<|I t) (Z<|I a)<|Z (.d (amD b))),StM M W (ts++[t]) L):=by
 have F:∀M,bO [.d c] M=Z (.d (amD b),M):=fun M=>ES B;have G:(kvM W ts).length<sizeLine:=by unfold kvM;rw[A3,E9];omega
 have o:keyOf (I h)=Z (.inl h):=rfl;have k:keyOf (I t)=Z (.inl t):=rfl
 have s1:wX (StM M W ts L) (.c M.length) (.inl (.inl t)) (.d (amD<|W t))=Z (StM M W (ts++[t]) L):=by
  simp only[wX,NY,if_pos G,aDS nt,aDp]
 have H:bC (aK bO<|aC (fOp ixF (fOp ixF (aD 0)<|aD 5)<|fC (.int 2)) aG) (hName 6) (GM (.d x) r M.length (Z<|I h) (Z<|I t) (Z<|I a) g6) (StM M W ts L)=Z (.nx (GM (.d x) r M.length (Z<|I h) (Z<|I t) (Z<|I a)<|Z (.d (amD b))),StM M W ts L):=by
  simp![i1,i2,F]
 unfold iI;rw[aZ H];cases q:(h==r)with
 |true=>
  rw[A4 (.inl (beq_iff_eq.mp q))]at e;rw[e]at s1;simp![wO,q,hG,dS,k,s1]
 |false=>
  have v:¬h=r:=beq_eq_false_iff_ne.mp q
  have A:atD (StM M W ts L) (.c M.length) (.inl (.inl h))=Z (Z (.d (amD<|W h))):=by
   simp only[atD,NY,NQ W<|E.resolve_left v]
  have bl:=UL (c:=amD b) (d:=amD<|W h) (M:=StM M W ts L) rfl rfl C D;cases z:blw b (W h)with
  |true=>
   rw[A4 (.inr z)]at e;rw[e]at s1;rw[z]at bl;simp![wO,q,gI,dS,o,A,bl,hG,k,s1]
  |false=>
   rw[B0 (fun y=>y.elim v fun y=>by rw[z]at y;cases y)]at e;rw[e]at s1;rw[z]at bl;simp![wO,q,gI,dS,o,A,bl,hG,k,s1]
theorem UH{n:Nat}{x:Tz}{us:Tv Ed}{as:Tv (Int×Int)}{r:Int}{M L:Sto}{W:Int->Int×Int}(R:fP n us r ss)(n40:n<=40)(T:Tm x as)(E:Bd as)(al:as.length=us.length)(F:∀p,Inn n p->p≠r->(W p).1.natAbs<dQ/\(W p).2.natAbs<dQ)(k:(W r).1.natAbs<dQ/\(W r).2.natAbs<dQ)(G:∀h t a,(h,t,a)∈ss->W t=if h=r\/blw (as.getD a.toNat (0,1)) (W h)=true then as.getD a.toNat (0,1)else W h):
 ∀(xs pre:Tv (Int×Int×Int))(g3 g4 g5 g6:Te),ss=pre++xs->
 ∃v A B C,kZ (iB 3<|bD (hName 3)<|bD (hName 4)<|bD (hName 5) iV) iI (xs.map fun s=>.d (sP s)) (GM (.d x) r M.length g3 g4 g5 g6) (StM M W (pre.map (·.2.1)) L)=Z (.nx (GM (.d x) r M.length v A B C),StM M W (ss.map (·.2.1)) L)
 |[]=>fun pre g3 g4 g5 g6 e=>⟨g3,g4,g5,g6,by rw[e,C8];rfl⟩
 |s::xs=>fun pre g3 g4 g5 g6 e=>by
  have ms:s∈ss:=by rw[e];exact A7 _ A9
  have P:ss[pre.length]?=Z s:=by rw[e,B4<|A6 _,D8];rfl
  have H:=R.od pre.length s.1 s.2.1 s.2.2 P;rw[e,List.take_left' rfl]at H;have o:s.1=r\/s.1∈pre.map (·.2.1):=List.mem_cons.mp H;have li:=zW<|R.li s.1 s.2.1 s.2.2 ms;have Q:((s.2.2.toNat:Nat):Int)=s.2.2:=A0y li.1;have O:s.2.2.toNat<as.length:=by rw[al];omega
  obtain⟨d,c,i1,i2,V⟩:=T.at_ s.2.2.toNat _<|getD_at O;rw[Q]at i1;have nd:=(List.nodup_cons.mp R.nd).2;rw[e,C7,C0]at nd;have nt:s.2.1∉pre.map (·.2.1):=fun z=>(List.nodup_append.mp nd).2.2 _ z _ A9 rfl;have sl:=R.len;have ln:=R.ln;have pl:pre.length<=ss.length:=by rw[e,B1];omega
  have ih:s.1=r\/(Inn n s.1/\s.1≠r):=by
   by_cases z:s.1=r
   .exact .inl z
   .refine .inr ⟨(R.all s.1).mpr ?_,z⟩;rcases o with z|z
    .rw[z];exact A9
    .obtain⟨y,hy,X⟩:=List.mem_map.mp z;exact A8 _<|List.mem_map.mpr ⟨y,by rw[e];exact C1 _ hy,X⟩
  have D:(W s.1).1.natAbs<dQ/\(W s.1).2.natAbs<dQ:=by
   rcases ih with z|⟨z,z'⟩
   .rw[z];exact k
   .exact F _ z z'
  have t:=aEK (L:=L) (M:=M) (g6:=g6) i1 i2 V (E.at O) D o nt (by rw[A3];omega)<|G s.1 s.2.1 s.2.2 ms;obtain⟨a3,a4,a5,a6,l⟩:=UH (M:=M) (L:=L) R n40 T E al F k G xs (pre++[s]) (Z<|I s.1) (Z<|I s.2.1) (Z<|I s.2.2) (Z (.d (amD<|as.getD s.2.2.toNat (0,1)))) (by rw[e,B7];rfl);refine⟨a3,a4,a5,a6,?_⟩;rw[C0,cC (show iB 3 (bD (hName 3)<|bD (hName 4)<|bD (hName 5) iV) (.d (sP s)) (GM (.d x) r M.length g3 g4 g5 g6) (StM M W (pre.map (·.2.1)) L)=Z (GM (.d x) r M.length (Z<|I s.1) (Z<|I s.2.1) (Z<|I s.2.2) g6,StM M W (pre.map (·.2.1)) L)from rfl) t];rw[C7]at l;exact l
def VR(us:Tv Ed)(r p:Int):T7:=(look (sU us us.length [(r,[])]) p).getD []
def aCD{us:Tv Ed}(ht:Tr n x us)(k:Inn n r):∀p,Inn n p->Walk us r (VR us r p) p/\(VR us r p).Nodup:=fun p e=>by
 obtain⟨L,l,w,nd⟩:=MC ht.ok k ht.ln (fun p e=>ht.con p r e k) p e;unfold VR;rw[l];exact⟨w,nd⟩
def lea(us:Tv Ed)(as:Tv (Int×Int))(r p:Int):Int×Int:=if p=r then(0,1)else amt as<|VR us r p
def aAi{us:Tv Ed}(ht:Tr n x us)(o:Bd as)(al:as.length=us.length)(t:Inn n r)(hp:Inn n p):(lea us as r p).1.natAbs<dQ/\(lea us as r p).2.natAbs<dQ:=by
 unfold lea;by_cases e:p=r
 .rw[A4 e];exact⟨wsm (by decide) (by decide),wsm (by decide) (by decide)⟩
 .rw[B0 e];obtain⟨w,nd⟩:=aCD ht t p hp;refine o.at (OV (fun z=>?_) fun k v=>by rw[al];exact vM w k v);rw[z]at w;exact e (show r=p from w).symm
def aMl{us:Tv Ed}(M:Sto)(ht:Tr n x us)(T:Tm x as)(k:Bd as)(al:as.length=us.length)(e:Inn n r):∃ts L,lK [.d x,I r] M=Z (.c M.length,StM M (lea us as r) ts L)/\∀p,Inn n p->p≠r->p∈ts:=by
 obtain⟨ss,L,fr,R⟩:=vZ (γ:=GM (.d x) r M.length Y Y Y Y) (M:=M++[.dk []]) (fa:=aC (aD 0)<|aC (aD 1) aG) ht e rfl;have A:=aCD ht e
 have o:∀h t a,(h,t,a)∈ss->lea us as r t=if h=r\/blw (as.getD a.toNat (0,1)) (lea us as r h)=true then as.getD a.toNat (0,1)else lea us as r h:=fun h t a m=>by
  have tr:t≠r:=fun z=>by subst z;exact(R.root m).elim
  have:=aKD (as:=as) R A m;unfold lea;rw[B0 tr,this];by_cases z:h=r
  .rw[A4 (.inl z),A4 (.inl z)]
  .rw[B0 z]
 obtain⟨F,G,H,O,B⟩:=UH (x:=x) (M:=M) (L:=L) R ht.n40 T k al (fun p v _=>aAi ht k al e v) (aAi ht k al e e) o ss [] Y Y Y Y rfl;have C:M++[Cell.dk []]++L=StM M (lea us as r) [] L:=by rw[B7];rfl
 rw[C]at fr;have D:=iT fr B;refine⟨ss.map (·.2.1),L,nG rfl ?_,fun p v E=>?_⟩
 .unfold pA;show aS _ _ [Z (.d x),Z<|I r,Y,Y,Y,Y,Y] M=_;rw[aZ (show bC xK (hName 2) [Z (.d x),Z<|I r,Y,Y,Y,Y,Y] M=Z (.nx (GM (.d x) r M.length Y Y Y Y),M++[.dk []])from rfl),aZ D];rfl
 .exact(List.mem_cons.mp<|(R.all p).mp v).resolve_left E
def uH(W:Int->Int->Int×Int)(p o:Int):Tz:=.tuple [.int p,.int o,amD<|W p o]
def mF(W:Int->Int->Int×Int)(p:Int):Nat->Int->T4
 |0,_=>[]
 |q+1,lo=>uH W p lo::mF W p q (lo+1)
def gK(W:Int->Int->Int×Int)(n:Int):Nat->Int->T4
 |0,_=>[]
 |q+1,lo=>mF W lo (n-(lo+1)).toNat (lo+1)++gK W n q (lo+1)
theorem kM(W:Int->Int->Int×Int)(p:Int):∀(q:Nat)(lo:Int),(mF W p q lo).length=q
 |0=>fun _=>rfl
 |q+1=>fun lo=>by unfold mF;rw[C9,kM W p q (lo+1)]
def big{k:Nat}(h:k<=100000):k<=sizeLine:=by rw[E9];omega
noncomputable abbrev aHI:EF:=(bY<|aC (aD 0)<|aC (aD 2)<|aC (gI (aD 1)<|dS<|aD 2) aG)
theorem aGA{W:Int->Int->Int×Int}{p:Int}{M:Sto}:∀(q:Nat)(lo:Int)(g:Te),(∀o,lo<=o->o<lo+q->atD M (.c k) (.inl (.inl o))=Z (Z (.d (amD<|W p o))))->
 lcF (hName 2) eN aHI (eA lo q) [Z (I p),Z (.c k),g] M=Z ((mF W p q lo).map .d,M)
 |0=>fun lo g _=>rfl
 |q+1=>fun lo g h=>by
  have ih:=aGA (W:=W) (p:=p) (k:=k) (M:=M) q (lo+1) (Z<|I lo) fun o v A=>h o (by omega) (by omega);have e:=h lo (by omega) (by omega);have t:keyOf (I lo)=Z (.inl lo):=rfl;have s3:(3:Nat)<=sizeLine:=by decide
  have ev:aHI [Z (I p),Z (.c k),Z<|I lo] M=Z (.d (uH W p lo),M):=by
   unfold uH;simp![aHI,gI,dS,t,e,s3]
  rw[eZ];unfold lcF;rw[show hName 2 (I lo) [Z (I p),Z (.c k),g] M=Z ([Z (I p),Z (.c k),Z<|I lo],M)from rfl,A1];dsimp only;rw[show eN [Z (I p),Z (.c k),Z<|I lo] M=Z (true,M)from rfl,A1];dsimp only;rw[A4 rfl,ev,A1];dsimp only;rw[ih];rfl
structure Kc(c:Nat)(M M':Sto):Prop where
 ln:M.length<=M'.length
 at_:∀k,k<M.length->k≠c->M'[k]?=M[k]?
def Kc.refl(c:Nat)(M:Sto):Kc c M M:=⟨A6 _,fun _ _ _=>rfl⟩
def Kc.trans{M1 M2:Sto}(a:Kc c M M1)(b:Kc c M1 M2):Kc c M M2:=⟨F5 a.ln b.ln,fun k e o=>(b.at_ k (B6 e a.ln) o).trans (a.at_ k e o)⟩
def Kc.app(c:Nat)(M L:Sto):Kc c M (M++L):=⟨by rw[B1];omega,fun k h _=>E5 h⟩
def Kc.set(c:Nat)(M:Sto)(x:Cell):Kc c M (M.set c x):=⟨by rw[Y9];exact A6 _,fun k _ h=>S4<|O0 h⟩
def aKL(h:Kc c M M')(t:M.length<=c):∃L,M'=M++L:=by
 refine⟨M'.drop M.length,?_⟩
 have e:M'.take M.length=M:=by
  refine List.ext_getElem? fun k=>?_;by_cases o:k<M.length
  .rw[Y4 o,h.at_ k o (by omega)]
  .rw[Z2 (by rw[Y7];omega),Z2 (by omega)]
 conv=>lhs;rw[<- List.take_append_drop M.length M',e]
abbrev GA(x:CD)(c:Nat)(p l:Te):Ga:=[Z x,Z (.c c),p,l]
def aGX{l:Te}{M:Sto}(ln:∀M,fQ [.d x] M=Z (I J,M))(s1:bS (p+1)=true)(s2:bS (J+1)=true):lY (aC (fOp cS (aD 2)<|fC (.int 1))<|aC (fOp cS (aK fQ<|aC (aD 0) aG)<|fC (.int 1)) aG) (GA (.d x) c (Z<|I p) l) M=Z (eA (p+1) (J+1-(p+1)).toNat,M):=by
 have e:∀(a b:Int)(M:Sto),cS (I a) (I b) M=Z (I (a+b),M):=fun _ _ _=>rfl;simp![lY,ln,e,s1,s2,and_self]
def aLI{W:Int->Int->Int×Int}{c:Nat}{M:Sto}(ln:∀M,fQ [.d x] M=Z (I J,M))(A:0<=p)(B:p<=J)(e:J<=40)(h:∀o,p<o->o<J+1->atD M (.c k) (.inl (.inl o))=Z (Z (.d (amD<|W p o)))):
 kQ (GA (.d x) c (Z<|I p)<|Z (.c k)) M=Z (.c M.length,M++[.lst ((mF W p (J+1-(p+1)).toNat (p+1)).map .d)]):=by
 have t:=aGX (c:=c) (l:=Z (.c k)) (M:=M) ln (fV (J:=p+1) (by omega) (by omega))<|fV (J:=J+1) (by omega) (by omega);have v:=aGA (W:=W) (p:=p) (k:=k) (M:=M) (J+1-(p+1)).toNat (p+1) Y fun o C D=>h o (by omega) (by omega);unfold kQ KM lM yO;rw[t,A1];dsimp only;rw[A4 (by rw[pC];exact big (by omega))];rw[show DX [Z 2,Z 3,Y] (GA (.d x) c (Z<|I p)<|Z (.c k))=[Z (I p),Z (.c k),Y]from rfl,v,A1];dsimp only;rw[A4 (by rw[A3,kM];exact big (by omega))]
def aDQ{us:Tv Ed}{g3:Te}(ht:Tr n x us)(T:Tm x as)(F:Bd as)(al:as.length=us.length)(hp:Inn n p)(e:M[c]?=Z (.lst (ds.map .d)))(P:ds.length<=50000):
 ∃M' t,gU (GA (.d x) c (Z<|I p) g3) M=Z (.nx (GA (.d x) c (Z<|I p) t),M')/\M'[c]?=Z (.lst ((ds++mF (lea us as) p ((n:Int)-(p+1)).toNat (p+1)).map .d))/\Kc c M M':=by
 obtain⟨es,hi,hn,hm⟩:=ht.it;have n40:=ht.n40;obtain⟨ts,L,G,v⟩:=aMl M ht T F al hp;have cl:c<M.length:=(List.getElem?_eq_some_iff.mp e).1;have H:((es.length:Nat):Int)+1=n:=by omega
 have A:=aLI (J:=(es.length:Int)) (p:=p) (x:=x) (W:=lea us as) (c:=c) (k:=M.length) (M:=StM M (lea us as p) ts L) (fun M=>gE hi) hp.1 (by have:=hp.2;omega) (by omega) fun o B C=>by
  have:=v o ⟨by have:=hp.1;omega,by omega⟩ (by omega);simp only[atD,NY,NQ _ this]
 rw[H]at A
 have B:(StM M (lea us as p) ts L++[Cell.lst ((mF (lea us as) p ((n:Int)-(p+1)).toNat (p+1)).map .d)])[c]?=Z (.lst (ds.map .d)):=by
  rw[E5 (by unfold StM;rw[B1];omega)];unfold StM;rw[E5 cl];exact e
 have C:(StM M (lea us as p) ts L++[Cell.lst ((mF (lea us as) p ((n:Int)-(p+1)).toNat (p+1)).map .d)])[(StM M (lea us as p) ts L).length]?=Z (.lst ((mF (lea us as) p ((n:Int)-(p+1)).toNat (p+1)).map .d)):=by
  rw[B4 (A6 _),D8];rfl
 generalize D:StM M (lea us as p) ts L++[Cell.lst ((mF (lea us as) p ((n:Int)-(p+1)).toNat (p+1)).map .d)]=M2 at A B C
 have E:Kc c M M2:=by
  rw[<- D];exact(Kc.app c M _).trans (Kc.app c _ _)
 have O:(StM M (lea us as p) ts L)[c]?=Z (.lst (ds.map .d)):=by
  unfold StM;rw[E5 cl];exact e
 have ty:tyB "list" (StM M (lea us as p) ts L) (.c c)=true:=by
  unfold tyB;simp only[O];rfl
 have ex:tI (.c c) [.c (StM M (lea us as p) ts L).length] M2=Z (.d .none,M2.set c (.lst ((ds++mF (lea us as) p ((n:Int)-(p+1)).toNat (p+1)).map .d))):=by
  unfold tI;simp only[B,C];rw[A4 (by rw[A3,A3,kM];exact big (by omega)),C7]
 refine⟨M2.set c (.lst ((ds++mF (lea us as) p ((n:Int)-(p+1)).toNat (p+1)).map .d)),Z (.c M.length),?_,O1<|B6 cl E.ln,E.trans<|Kc.set c M2 _⟩
 .unfold gU;rw[aZ (iU (show aK lK (aC (aD 0)<|aC (aD 2) aG) (GA (.d x) c (Z<|I p) g3) M=Z (.c M.length,StM M (lea us as p) ts L)from G))];show mD _ (GA (.d x) c (Z<|I p)<|Z (.c M.length)) _=_;simp![bL,A,ty,ex]
theorem UQ{n:Nat}{x:Tz}{us:Tv Ed}{c:Nat}(ht:Tr n x us)(T:Tm x as)(C:Bd as)(al:as.length=us.length):∀(q:Nat)(lo:Int)(ds:T4)(M:Sto)(e g3:Te),M[c]?=Z (.lst (ds.map .d))->ds.length+100*q<=50000->0<=lo->lo+q<=n->
 ∃M' k o,kZ (hName 2) gU (eA lo q) (GA (.d x) c e g3) M=Z (.nx (GA (.d x) c k o),M')/\M'[c]?=Z (.lst ((ds++gK (lea us as) n q lo).map .d))/\Kc c M M'
 |0=>fun lo ds M e g3 v _ _ _=>⟨M,e,g3,rfl,by rw[show gK (lea us as) n 0 lo=[]from rfl,C8];exact v,Kc.refl c M⟩
 |q+1=>fun lo ds M e g3 v P D Q=>by
  have n40:=ht.n40;obtain⟨M1,E,t,A,F⟩:=aDQ (g3:=g3) ht T C al (p:=lo) ⟨D,by omega⟩ v (by omega);obtain⟨M2,G,H,l,B,O⟩:=UQ ht T C al q (lo+1) _ M1 (Z<|I lo) E A (by rw[B1,kM];omega) (by omega) (by omega);refine⟨M2,G,H,?_,?_,F.trans O⟩
  .rw[eZ,cC (show hName 2 (I lo) (GA (.d x) c e g3) M=Z (GA (.d x) c (Z<|I lo) g3,M)from rfl) t];exact l
  .rw[B,B7];rfl
def aLl{p l:Te}{M:Sto}(ln:∀M,fQ [.d x] M=Z (I J,M))(s2:bS (J+1)=true):dA (aC (fOp cS (aK fQ<|aC (aD 0) aG)<|fC (.int 1)) aG) (GA (.d x) c p l) M=Z (eA 0 (J+1).toNat,M):=by
 have e:∀(a b:Int)(M:Sto),cS (I a) (I b) M=Z (I (a+b),M):=fun _ _ _=>rfl;simp![dA,ln,e,s2]
def UK{us:Tv Ed}(M:Sto)(h:lB x=true)(ht:Tr n x us)(T:Tm x as)(t:Bd as)(al:as.length=us.length):∃L,bA [.d x] M=Z (.v (.d (.tuple (gK (lea us as) n n 0))),M++L):=by
 obtain⟨es,hi,hn,hm⟩:=ht.it;have n40:=ht.n40;obtain⟨e,r⟩:=vQ x M;rw[h,A4 rfl]at r
 have A:bC (lM aG) (hName 1) [Z (.d x),Y,Y,Y] (M++e)=Z (.nx (GA (.d x) (M++e).length Y Y),M++e++[.lst []]):=by
  have B:(0:Nat)<=sizeLine:=E7 _;simp![B]
 have C:(M++e++[Cell.lst []])[(M++e).length]?=Z (.lst (([]:T4).map .d)):=by
  rw[B4 (A6 _),D8];rfl
 obtain⟨M2,H,I,l,k,D⟩:=UQ ht T t al n 0 [] (M++e++[Cell.lst []]) Y Y C (by rw[Y0];omega) (by decide) (by omega);have o:=aLl (c:=(M++e).length) (p:=Y) (l:=Y) (M:=M++e++[Cell.lst []]) (J:=(es.length:Int)) (fun M=>gE hi)<|fV (by omega) (by omega);rw[show(((es.length:Nat):Int)+1).toNat=n by omega]at o;have E:=iT o l;obtain⟨L,F⟩:=aKL (M:=M) (((Kc.app _ M e).trans (Kc.app _ _ _)).trans D) (by rw[B1];omega);refine⟨L,aBP rfl ?_⟩;unfold jQ;show iY _ _ [Z (.d x),Y,Y,Y] M=_;rw[AB (zZ rfl r)];refine YB ?_;rw[aZ A,aZ E,<- F]
 have G:bO [.c (M++e).length] M2=Z (.d (.tuple (gK (lea us as) n n 0)),M2):=by
  unfold bO;dsimp only;rw[k,Y2];dsimp only;rw[gQ,A1]
 simp![G]
def aLU(M:Sto)(h:lB x=false):∃L,bA [.d x] M=Z (.x xT,M++L):=by
 obtain⟨L,r⟩:=vQ x M;rw[h,B0 (by decide)]at r;refine⟨L,PK (γ:=[Z (.d x),Y,Y,Y]) rfl ?_⟩;unfold jQ;show iY _ _ [Z (.d x),Y,Y,Y] M=_;exact JC<|HA rfl r
def OE{us:Tv Ed}(ht:Tr n x us)(hi:Inn n i)(o:Inn n j)(t:i≠j)(w:Walk us i U j)(nd:U.Nodup):U=VR us i j/\amt as U=lea us as i j:=by
 obtain⟨ss,R⟩:=ht.root o;obtain⟨v,k⟩:=aCD ht hi j o;have e:=R.uniq w nd v k;refine⟨e,?_⟩;unfold lea;rw[B0 (O0 t),e]
abbrev anD(a:Int×Int)(S:T7):Tz:=.tuple [amD a,wD S]
def ans{us:Tv Ed}(hx:lB x=true)(hT:IsT x us)(ht:Tr n x us)(T:Tm x as)(TT:TmT x as)(B:Bd as)(al:as.length=us.length)(C:0<n)(hi:Inn n i)(k:Inn n j)(o:i≠j):
 ∃S:T7,(∀M,∃L,dJ [.d x,I n,I i,I j] M=Z (.d (anD (lea us as i j) S),M++L))/\∀y,lB y=true->Tr n y us->Tm y as->∀M,∃L,aU [.d y,I i,I j] M=Z (.v (.d (anD (lea us as i j) S)),M++L):=by
 obtain⟨U,bs,X,_,P,D,Q,R⟩:=aAT (M:=[]) hx ht T B al C hi k o;obtain⟨W,_⟩:=OE (as:=as) ht hi k o P D;subst W
 have t:∀M,∃L,dJ [.d x,I n,I i,I j] M=Z (.d (anD (lea us as i j)<|kI bs),M++L)/\∀e:T7,e.Nodup->(∀p,p∈e↔Inn n p/\Beh us 0 ((bst as (VR us i j):Nat):Int) p)->kI e=kI bs:=fun M=>by
  obtain⟨V,S,L,d,w,nd,A⟩:=aLn M hT ht TT B al C hi k o;obtain⟨E,F⟩:=OE (as:=as) ht hi k o w nd;subst E;have es:=A bs Q R;refine⟨L,?_,fun e G H=>(A e G H).trans es.symm⟩;rw[d,F,es]
 refine⟨kI bs,fun M=>let⟨L,d,_⟩:=t M;⟨L,d⟩,fun y hy O Ty M=>?_⟩;obtain⟨V,cs,L,l,w,nd,G,H⟩:=aAT (M:=M) hy O Ty B al C hi k o;obtain⟨E,F⟩:=OE (as:=as) ht hi k o w nd;subst E;obtain⟨_,_,A⟩:=t [];refine⟨L,?_⟩;rw[l,F,A cs G H]
def aHF(a:Int×Int)(S:T7):SeqAt.shaped (anD a S)=true:=by
 unfold SeqAt.shaped
 have e:PyData.canLay0 (anD a S)=true:=by
  show(PyData.canLayAll0 [.int a.1,.int a.2]&&(PyData.canLayAll0 (S.map .int)&&true))=true;rw[nK];rfl
 have k:PyData.depth (anD a S)=2:=by
  show max (PyData.depthAll [.int a.1,.int a.2]+1) (max (PyData.depthAll (S.map .int)+1) 0)+1=2;rw[pF];rfl
 rw[e,k];rfl
def aDa(a:Int×Int)(S:T7):PyData.eqv (anD a S) (anD a S)=true:=by
 show(PyData.eqvAll [.int a.1,.int a.2] [.int a.1,.int a.2]&&(PyData.eqvAll (S.map .int) (S.map .int)&&true))=true;have:=wV [a.1,a.2];rw[wV,show PyData.eqvAll [.int a.1,.int a.2] [.int a.1,.int a.2]=true from this];rfl
def aGH(a:Int×Int)(S:T7)(M:Sto):eqX true (.d (anD a S)) (.d (anD a S)) M=Z (B false,M):=by
 show(if (SeqAt.shaped (anD a S)&&SeqAt.shaped (anD a S))=true then Z (B (!PyData.eqv (anD a S) (anD a S)),M)else Y)=_;rw[aHF,A0t,A4 rfl,aDa];rfl
abbrev GRt(x n z l:CD)(i j d:Te):Ga:=[Z x,Z n,Z z,Z l,i,j,d]
def aKT{l a:Tz}{n z:CD}{g:Te}{M M1 M2:Sto}(q:(i==j)=false)(e:dJ [.d x,n,I i,I j] M=Z (.d a,M1))(k:aU [.d x,I i,I j] M1=Z (.v (.d a),M2))(o:aU [.d l,I i,I j] M2=Z (.v (.d a),M3))(t:∀M,eqX true (.d a) (.d a) M=Z (B false,M)):
 dH (GRt (.d x) n z (.d l) (Z<|I i) (Z<|I j) g) M=Z (.nx (GRt (.d x) n z (.d l) (Z<|I i) (Z<|I j)<|Z (.d a)),M3):=by
 simp![dH,XE,q,e,k,o,t]
def aLG{l n z:CD}{g:Te}{M1:Sto}(q:(i==j)=true)(e:bJ [.d x,I i,I j] M=Z (I 2,M1)):
 dH (GRt (.d x) n z l (Z<|I i) (Z<|I j) g) M=Z (.nx (GRt (.d x) n z l (Z<|I i) (Z<|I j) g),M1):=by
 have k:((2:Int)==2)=true:=rfl;simp![dH,XE,q,e,k]
structure Two(n:Nat)(x y:Tz)(us:Tv Ed)(as:Tv (Int×Int)):Prop where
 hx:lB x=true
 hy:lB y=true
 hT:IsT x us
 tx:Tr n x us
 ty:Tr n y us
 mx:Tm x as
 my:Tm y as
 mt:TmT x as
 bd:Bd as
 al:as.length=us.length
 n0:0<n
def aDZ(J i:Int):unB J (.int i) (.int i)=false:=by
 show(plB J (.int i)&&(plB J (.int i)&&!(i==i)))=false;simp
def uS{us:Tv Ed}{z:CD}{g:Te}(D:Two n x y us as)(hi:Inn n i)(t:Inn n j)(M:Sto):
 ∃L g',dH (GRt (.d x) (I n) z (.d y) (Z<|I i) (Z<|I j) g) M=Z (.nx (GRt (.d x) (I n) z (.d y) (Z<|I i) (Z<|I j) g'),M++L):=by
 by_cases e:i=j
 .subst e;obtain⟨ds,k,_,_⟩:=D.tx.it;obtain⟨L,r⟩:=JI M D.hx k<|aDZ _ i;exact⟨L,g,aLG (beq_self_eq_true i) r⟩
 .obtain⟨S,d,l⟩:=ans D.hx D.hT D.tx D.mx D.mt D.bd D.al D.n0 hi t e;obtain⟨o,v⟩:=d M;obtain⟨L2,A⟩:=l x D.hx D.tx D.mx (M++o);obtain⟨B,C⟩:=l y D.hy D.ty D.my (M++o++L2);exact⟨o++L2++B,_,by rw[<- B7,<- B7];exact aKT (beq_eq_false_iff_ne.mpr e) v A C<|aGH _ _⟩
noncomputable abbrev tgE:GF:=(iB 2<|bD (hName 4)<|bD (hName 5) iV)
def aBg{x n z l:CD}{a b d:Te}:tgE (.d (.tuple [.int i,.int j])) (GRt x n z l a b d) M=Z (GRt x n z l (Z<|I i) (Z<|I j) d,M):=rfl
def aCk{x l:CD}{a b d:Te}(e:jA K J=true)(k:jA (K / 64) J=true)(dv:yQ K 64=true):cQ (iQ<|aC (bY<|aC (fOp fG (aD 2)<|aD 1)<|aC (fOp fG (fOp qH (aD 2)<|fC (.int 64))<|aD 1) aG)<|aC (bY<|aC (fOp fG (fOp qH (aD 2)<|fC (.int 64))<|aD 1)<|aC (fOp fG (aD 2)<|aD 1) aG)<|aC (bY<|aC (fC (.int 0))<|aC (fOp LY (aD 1)<|fC (.int 1)) aG) aG) (GRt x (I J) (I K) l a b d) M =
 Z ([.d (.tuple [.int (K % J),.int (K / 64 % J)]),.d (.tuple [.int (K / 64 % J),.int (K % J)]),.d (.tuple [.int 0,.int (J-1)])],M):=by
 have s2:(2:Nat)<=sizeLine:=by decide
 have s3:(3:Nat)<=sizeLine:=by decide
 simp![cQ,aQ,e,k,dv,s2,s3]
def aFC{us:Tv Ed}(D:Two n x y us as)(Q:2<=n)(ls:∀M,bB 6 [.d x] M=Z (.d y,M))(k:∀M,eqX false (.d y) (.d y) M=Z (B true,M))(M:Sto):∃L,gG [.d x,I n,I K] M=Z (B true,M++L):=by
 have n40:=D.tx.n40;have o:Inn n (K % n):=⟨U1 _ (by omega),S0 _ (by omega)⟩;have t:Inn n (K / 64 % n):=⟨U1 _ (by omega),S0 _ (by omega)⟩;have C:Inn n (0:Int):=⟨by decide,by omega⟩;have E:Inn n ((n:Int)-1):=⟨by omega,by omega⟩;obtain⟨e,F,t1⟩:=uS (z:=I K) (g:=Y) D o t M;obtain⟨L2,G,t2⟩:=uS (z:=I K) (g:=F) D t o (M++e);obtain⟨v,H,t3⟩:=uS (z:=I K) (g:=G) D C E (M++e++L2);have it:=aCk (x:=.d x) (l:=.d y) (a:=Y) (b:=Y) (d:=Y) (M:=M) (J:=(n:Int)) (K:=K) (eE (by omega)) (eE (by omega))<|zQ (by decide)<|wsm (by decide) (by decide)
 have O:kZ tgE dH [.d (.tuple [.int (K % n),.int (K / 64 % n)]),.d (.tuple [.int (K / 64 % n),.int (K % n)]),.d (.tuple [.int 0,.int ((n:Int)-1)])] (GRt (.d x) (I n) (I K) (.d y) Y Y Y) M=Z (.nx (GRt (.d x) (I n) (I K) (.d y) (Z<|I 0) (Z<|I ((n:Int)-1)) H),M++e++L2++v):=by
  rw[cC aBg t1,cC aBg t2,cC aBg t3];rfl
 refine⟨e++L2++v,nG rfl ?_⟩;have A:=iT it O;generalize (n:Int)=J at A ⊢;have P:bC (aK (bB 6)<|aC (aD 0) aG) (hName 3) [Z (.d x),Z<|I J,Z<|I K,Y,Y,Y,Y] M=Z (.nx (GRt (.d x) (I J) (I K) (.d y) Y Y Y),M):=iU<|ls M;unfold pG;show aS _ _ [Z (.d x),Z<|I J,Z<|I K,Y,Y,Y,Y] M=_;rw[aZ P,aZ A,<- B7,<- B7];simp![ls,k]
def noB(x:Tz):Bool:=match aQ x with
 |none=>true
 |some ds=>!decide (ds.length+1<=40) || (match ds.mapM (bK ((ds.length+1:Nat):Int))with
  |some us=>!ris us
  |none=>true)
def aFn(h:noB x=true):lB x=false:=by
 unfold noB at h;unfold lB;cases hi:aQ x with
 |none=>rfl
 |some ds=>
  rw[hi]at h;dsimp only at h ⊢;by_cases e:ds.length+1<=40
  .rw[B9 e,Bool.not_true,Bool.false_or]at h;rw[B9 e,L9];unfold gR;rw[hi];dsimp only;rw[B9 rfl,L9];cases hm:ds.mapM (bK ((ds.length+1:Nat):Int))with
   |none=>rfl
   |some us=>
    rw[hm]at h;dsimp only at h ⊢;rw[Bool.not_eq_true']at h;rw[h,S9]
  .rw[C4 e,S9]
def eC0:sT=sA:=rfl
def eC1:qY=rN:=rfl
def aIp(h:noB x=true)(hi:aQ x=Z ds)(M:Sto):eX [I ((ds.length:Int)+1),.d x] M=Z (B false,M):=by
 have r:dU x ((ds.length:Int)+1-1)=true:=by unfold dU;rw[hi];show((ds.length:Int)==(ds.length:Int)+1-1)=true;rw[A0j];omega
 unfold noB at h;rw[hi]at h;dsimp only at h;by_cases o:ds.length+1<=40
 .have g:decide ((40:Int)<(ds.length:Int)+1)=false:=C4 (by omega);rw[B9 o,Bool.not_true,Bool.false_or]at h;have k:=aKt (n:=(ds.length:Int)+1) (M:=M) hi (by omega);have e:=aBk ds (fun d=>(bK ((ds.length:Int)+1) d).isSome) M;rw[AD]at e;rw[show((ds.length+1:Nat):Int)=(ds.length:Int)+1 by omega]at h;cases hm:ds.mapM (bK ((ds.length:Int)+1))with
  |none=>
   rw[hm]at e;generalize (ds.length:Int)=J at *;simp![eX,iH,eC0,eC1,g,bV,r,k,e,Option.isSome_none]
  |some us=>
   rw[hm]at e h;have v:=oM hm;have t:=aLe (x0:=I ((ds.length:Int)+1)) (M:=M) hi hm (by omega);have rs:=MR us M (by omega);rw[Bool.not_eq_true']at h;rw[h]at rs;generalize (ds.length:Int)=J at *;simp![eX,iH,eC0,eC1,g,bV,r,k,e,Option.isSome_some,t,rs]
 .have g:decide ((40:Int)<(ds.length:Int)+1)=true:=B9 (by omega);generalize (ds.length:Int)=J at g ⊢;simp![eX,iH,g]
def aEb{M:Sto}(r:uR x=true)(ln:∀M,fQ [.d x] M=Z (I J,M))(h:eX [I (J+1),.d x] M=Z (B false,M)):cH [.d x] M=Z (.x xT,M):=by
 have e:cS (I J) (I 1) M=Z (I (J+1),M):=rfl;simp![cH,eC,rS,r,ln,e,h]
def VU(h:noB x=true)(M:Sto):cH [.d x] M=Z (.x xT,M):=by
 cases hi:aQ x with
 |none=>
  have r:uR x=false:=by rw[tK,hi];rfl
  simp![cH,eC,rS,r]
 |some ds=>
  exact aEb (by rw[tK,hi];rfl) (fun M=>gE hi)<|aIp h hi M
def aKh(h:noB x=true)(M:Sto):nQ [.d x,.d y,.d z] M=Z (.x xT,M):=by
 refine PK (γ:=[Z (.d x),Z (.d y),Z (.d z),Y,Y,Y,Y]) rfl ?_;unfold nO;show iY _ _ [Z (.d x),Z (.d y),Z (.d z),Y,Y,Y,Y] M=_;exact JC<|HA rfl<|VU h M
def aMc(h:noB x=true)(M:Sto):eW [.d x,.d y,.d z] M=Z (.x xT,M):=by
 have e:=aKh (y:=y) (z:=z) h M;simp![eW,hW,yZ,xCB,wI,L2.okR,e]
def aGq(h:noB x=true)(M:Sto):fL [.d x,.d y,.d z] M=Z (I 1,M++[.exc false "NoTree" []]):=by
 have l:=aMc (y:=y) (z:=z) h M
 have b:eF (GQ x y z) M=Z (.xc (GQ x y z) xT,M):=by
  simp![eF,l]
 have e:=aIJ (x:=x) (y:=y) (z:=z) (M:=M);refine nG rfl ?_;unfold iW;show aS (HN eF hsQ) _ (GQ x y z) M=_;unfold aS HN;rw[b,A1];show((zP hsQ (GQ x y z) xT M).bind _)=_;rw[e];rfl
def xH(h:noB x=true)(M:Sto):∃L,cE [.d x] M=Z (B true,M++L):=by
 obtain⟨L,a⟩:=aLU M<|aFn h;have e:=aGq (y:=.int 0) (z:=.int 1) h (M++L);have k:=aGq (y:=.none) (z:=.none) h (M++L++[.exc false "NoTree" []])
 have b:jJ [Z (.d x)] M=Z (.xc [Z (.d x)] xT,M++L):=by
  simp![jJ,a]
 have o:List.lookup ("NoTree":Str) [(("NoPlace":Str),false),("NoTree",true)]=Z true:=by decide +kernel
 have t:((1:Int)==1)=true:=rfl;refine⟨L++[.exc false "NoTree" [],.exc false "NoTree" []],nG rfl ?_⟩;unfold mT;show aS _ _ [Z (.d x)] M=_;unfold aS QR;rw[b,A1];dsimp only;rw[o,A4 rfl];simp![oR,e,wO,t,k];rw[B7,B7];rfl
def aEE(d:Tz):Prop:=∃a b c e:Int,d=.tuple [.int a,.int b,.tuple [.int c,.int e]]
def aHS(W:Int->Int->Int×Int)(p o:Int):aEE (uH W p o):=⟨p,o,(W p o).1,(W p o).2,rfl⟩
theorem aBY{W:Int->Int->Int×Int}{p:Int}:∀(q:Nat)(lo:Int),∀d∈mF W p q lo,∃o,lo<=o/\o<lo+q/\d=uH W p o
 |0=>fun _ d h=>by cases h
 |q+1=>fun lo d h=>by
  rcases List.mem_cons.mp (show d∈uH W p lo::mF W p q (lo+1)from h)with rfl|h
  .exact⟨lo,Int.le_refl _,by omega,rfl⟩
  .obtain⟨o,k,t,e⟩:=aBY q (lo+1) d h;exact⟨o,by omega,by omega,e⟩
theorem OI{W:Int->Int->Int×Int}{n:Int}:∀(q:Nat)(lo:Int),∀d∈gK W n q lo,∃p o,lo<=p/\p<lo+q/\p<o/\o<n/\d=uH W p o
 |0=>fun _ d h=>by cases h
 |q+1=>fun lo d h=>by
  rcases List.mem_append.mp (show d∈mF W lo (n-(lo+1)).toNat (lo+1)++gK W n q (lo+1)from h)with h|h
  .obtain⟨o,k,t,e⟩:=aBY _ _ d h;exact⟨lo,o,Int.le_refl _,by omega,by omega,by omega,e⟩
  .obtain⟨p,o,k,t,v,A,e⟩:=OI q (lo+1) d h;exact⟨p,o,by omega,by omega,v,A,e⟩
theorem TV:∀{ds:T4},(∀d∈ds,aEE d)->PyData.canLayAll0 ds=true/\PyData.depthAll ds<=2/\PyData.eqvAll ds ds=true
 |[]=>fun _=>⟨rfl,by decide,rfl⟩
 |d::ds=>fun h=>by
  obtain⟨k,o,t⟩:=TV fun x hx=>h x<|A8 _ hx;obtain⟨a,b,c,e,rfl⟩:=h d A9;refine⟨?_,?_,?_⟩
  .show(true&&PyData.canLayAll0 ds)=true;rw[k];rfl
  .show max 2 (PyData.depthAll ds)<=2;exact Nat.max_le.mpr ⟨A6 _,o⟩
  .show(((a==a)&&((b==b)&&(((c==c)&&((e==e)&&true))&&true)))&&PyData.eqvAll ds ds)=true;rw[t];simp
def aFy{ds:T4}(h:∀d∈ds,aEE d)(M:Sto):eqX true (.d (.tuple ds)) (.d (.tuple ds)) M=Z (B false,M):=by
 obtain⟨e,A,k⟩:=TV h
 have o:SeqAt.shaped (.tuple ds)=true:=by
  unfold SeqAt.shaped;have t:PyData.canLay0 (.tuple ds)=true:=e
  have v:PyData.depth (.tuple ds)<=64:=by
   show PyData.depthAll ds+1<=64;omega
  rw[t,B9 v];rfl
 show(if (SeqAt.shaped (.tuple ds)&&SeqAt.shaped (.tuple ds))=true then Z (B (!PyData.eqv (.tuple ds) (.tuple ds)),M)else Y)=_;rw[o,A0t,A4 rfl,show PyData.eqv (.tuple ds) (.tuple ds)=PyData.eqvAll ds ds from rfl,k];rfl
def aCm(W:Int->Int->Int×Int)(n:Int)(q:Nat)(lo:Int):∀d∈gK W n q lo,aEE d:=fun d h=>by
 obtain⟨p,o,_,_,_,_,rfl⟩:=OI q lo d h;exact aHS W p o
noncomputable def ZY(n:Int):Nat->Int->Nat
 |0,_=>0
 |q+1,lo=>(n-(lo+1)).toNat+ZY n q (lo+1)
theorem yE(W:Int->Int->Int×Int)(n:Int):∀(q:Nat)(lo:Int),(gK W n q lo).length=ZY n q lo
 |0=>fun _=>rfl
 |q+1=>fun lo=>by
  unfold gK ZY;rw[B1,kM,yE W n q (lo+1)]
abbrev GL(s:CD)(c:Nat)(al k many tree rows i odd nn:Te):Ga:=[Z s,Z (.c c),al,k,many,tree,rows,i,odd,nn]
def aKg{f:AF}{c:TF}{xs:T6}(it:f γ M=Z (xs,M))(e:xs.length<=sizeLine)(k:lcF g c ee xs (DX cap γ) M=Z (ys.map .d,M'))(hy:ys.length<=sizeLine):fLc cap f g c ee γ M=Z (.d (.list ys),M'):=by
 unfold fLc iQ yO;rw[it,A1];dsimp only;rw[A4 e,k,A1];dsimp only;rw[gQ,A1,A4 hy]
noncomputable abbrev aIo:EF:=(bY<|aC (aD 0)<|aC (aD 3)<|aC (fOp ixF (aK dJ<|aC (aD 1)<|aC (aD 2)<|aC (aD 0)<|aC (aD 3) aG)<|fC (.int 0)) aG)
def aEA{n:CD}{a:Int×Int}{M1:Sto}(d:dJ [.d x,n,I i,I j] M=Z (.d (anD a S),M1)):aIo [Z (I i),Z (.d x),Z n,Z<|I j] M=Z (.d (.tuple [.int i,.int j,amD a]),M1):=by
 have e:∀M,ixF (.d (anD a S)) (I 0) M=Z (.d (amD a),M):=fun _=>rfl;have s3:(3:Nat)<=sizeLine:=by decide
 simp![aIo,d,e,s3]
theorem aAw{n:Nat}{x y:Tz}{us:Tv Ed}{p:Int}(D:Two n x y us as)(hp:Inn n p):∀(q:Nat)(lo:Int)(g:Te)(M:Sto),p<lo->lo+q<=n->∃L,lcF (hName 3) eN aIo (eA lo q) [Z (I p),Z (.d x),Z<|I n,g] M=Z ((mF (lea us as) p q lo).map .d,M++L)
 |0=>fun lo g M _ _=>⟨[],by rw[C8];rfl⟩
 |q+1=>fun lo g M o t=>by
  obtain⟨S,d,_⟩:=ans D.hx D.hT D.tx D.mx D.mt D.bd D.al D.n0 hp (j:=lo) ⟨by have:=hp.1;omega,by omega⟩ (by omega);obtain⟨e,k⟩:=d M;obtain⟨L2,ih⟩:=aAw D hp q (lo+1) (Z<|I lo) (M++e) (by omega) (by omega);have ev:=aEA k;refine⟨e++L2,?_⟩;rw[eZ];unfold lcF;rw[show hName 3 (I lo) [Z (I p),Z (.d x),Z<|I n,g] M=Z ([Z (I p),Z (.d x),Z<|I n,Z<|I lo],M)from rfl,A1];dsimp only;rw[show eN [Z (I p),Z (.d x),Z<|I n,Z<|I lo] M=Z (true,M)from rfl,A1];dsimp only;rw[A4 rfl,ev,A1];dsimp only;rw[ih,<- B7];rfl
def aJF{s:CD}{tree odd:Te}(s1:bS (p+1)=true)(s2:bS J=true):lY (aC (fOp cS (aD 7)<|fC (.int 1))<|aC (aD 4) aG) (GL s c al k (Z<|I J) tree rows (Z<|I p) odd nn) M=Z (eA (p+1) (J-(p+1)).toNat,M):=by
 have e:∀(a b:Int)(M:Sto),cS (I a) (I b) M=Z (I (a+b),M):=fun _ _ _=>rfl;simp![lY,e,s1,s2,and_self]
def RS{xs:T4}(e:(xs++ys).length<=sizeLine):cS (.d (.list xs)) (.d (.list ys)) M=Z (.d (.list (xs++ys)),M):=by
 have a:aJj (.d (.list xs)) (.d (.list ys)) M=Y:=rfl
 have c:aFz (.d (.list xs)) (.d (.list ys)) M=Z (.d (.list (xs++ys)),M):=by
  unfold aFz;simp only[NB,Option.bind_some];rw[<- C7,gQ,A1,A4 e]
 unfold cS HS;rw[a];dsimp only;rw[c]
def aDO{us:Tv Ed}{s:CD}{c:Nat}{odd:Te}{g7:CD}(D:Two n x y us as)(hp:Inn n p)(A:ds.length<=50000)(M:Sto)(e:g7=I p):
 ∃L,wN (GL s c al k (Z<|I n) (Z (.d x)) (Z (.d (.list ds))) (Z g7) odd nn) M=Z (.nx (GL s c al k (Z<|I n) (Z (.d x)) (Z (.d (.list (ds++mF (lea us as) p ((n:Int)-(p+1)).toNat (p+1))))) (Z g7) odd nn),M++L):=by
 subst e;have n40:=D.tx.n40;obtain⟨L,o⟩:=aAw D hp ((n:Int)-(p+1)).toNat (p+1) Y M (by omega) (by have:=hp.2;omega);have t:=aJF (J:=(n:Int)) (p:=p) (s:=s) (c:=c) (al:=al) (k:=k) (tree:=Z (.d x)) (rows:=Z (.d (.list ds))) (odd:=odd) (nn:=nn) (M:=M) (fV (by have:=hp.1;omega) (by have:=hp.2;omega))<|fV (by omega) (by omega);have v:UI (GL s c al k (Z<|I n) (Z (.d x)) (Z (.d (.list ds))) (Z<|I p) odd nn) M=Z (.d (.list (mF (lea us as) p ((n:Int)-(p+1)).toNat (p+1))),M++L):=aKg t (by rw[pC];exact big (by have:=hp.1;omega)) o (by rw[kM];exact big (by have:=hp.1;omega));have ad:=RS (xs:=ds) (ys:=mF (lea us as) p ((n:Int)-(p+1)).toNat (p+1)) (M:=M++L) (by rw[B1,kM];exact big (by have:=hp.1;omega));refine⟨L,?_⟩;unfold wN;refine iU ?_;unfold fOp;rw[show aD 6 (GL s c al k (Z<|I n) (Z (.d x)) (Z (.d (.list ds))) (Z<|I p) odd nn) M=Z (.d (.list ds),M)from rfl,A1];dsimp only;rw[v,A1];exact ad
theorem QH{n:Nat}{x y:Tz}{us:Tv Ed}{s:CD}{c:Nat}(D:Two n x y us as):∀(q:Nat)(lo:Int)(ds:T4)(g7:Te)(M:Sto),ds.length+100*q<=50000->0<=lo->lo+q<=n->
 ∃L e,kZ (hName 7) wN (eA lo q) (GL s c al k (Z<|I n) (Z (.d x)) (Z (.d (.list ds))) g7 odd nn) M=Z (.nx (GL s c al k (Z<|I n) (Z (.d x)) (Z (.d (.list (ds++gK (lea us as) n q lo)))) e odd nn),M++L)
 |0=>fun lo ds g7 M _ _ _=>⟨[],g7,by rw[C8,show gK (lea us as) n 0 lo=[]from rfl,C8];rfl⟩
 |q+1=>fun lo ds g7 M B v C=>by
  have n40:=D.tx.n40;obtain⟨o,t⟩:=aDO (s:=s) (c:=c) (al:=al) (k:=k) (odd:=odd) (nn:=nn) (ds:=ds) D (p:=lo) ⟨v,by omega⟩ (by omega) M rfl;obtain⟨L2,A,l⟩:=QH (s:=s) (c:=c) (al:=al) (k:=k) (odd:=odd) (nn:=nn) D q (lo+1) (ds++mF (lea us as) lo ((n:Int)-(lo+1)).toNat (lo+1)) (Z<|I lo) (M++o) (by rw[B1,kM];omega) (by omega) (by omega);refine⟨o++L2,A,?_⟩;rw[eZ,cC (show hName 7 (I lo) (GL s c al k (Z<|I n) (Z (.d x)) (Z (.d (.list ds))) g7 odd nn) M=Z (GL s c al k (Z<|I n) (Z (.d x)) (Z (.d (.list ds))) (Z<|I lo) odd nn,M)from rfl) t,l,B7,B7];rfl
noncomputable def prP(p o:Int):Tz:=.tuple [.int p,.int o]
def prF(p:Int):Nat->Int->T4
 |0,_=>[]
 |q+1,lo=>prP p lo::prF p q (lo+1)
def prA(n:Int):Nat->Int->T4
 |0,_=>[]
 |q+1,lo=>prF lo (n-(lo+1)).toNat (lo+1)++prA n q (lo+1)
theorem vN(p:Int):∀(q:Nat)(lo:Int),(prF p q lo).length=q
 |0=>fun _=>rfl
 |q+1=>fun lo=>by unfold prF;rw[C9,vN p q (lo+1)]
theorem SQ(n:Int):∀(q:Nat)(lo:Int),(prA n q lo).length=ZY n q lo
 |0=>fun _=>rfl
 |q+1=>fun lo=>by
  unfold prA ZY;rw[B1,vN,SQ n q (lo+1)]
def aHR:∀(q:Nat)(n lo:Int),∀d∈prA n q lo,∃a b,d=prP a b:=fun q=>by
 have f:∀(q:Nat)(p lo:Int),∀d∈prF p q lo,∃a b,d=prP a b:=fun q=>by
  induction q with
  |zero=>intro p lo d h;cases h
  |succ q ih=>
   intro p lo d h;rcases List.mem_cons.mp (show d∈prP p lo::prF p q (lo+1)from h)with rfl|h
   .exact⟨p,lo,rfl⟩
   .exact ih p (lo+1) d h
 induction q with
 |zero=>intro n lo d h;cases h
 |succ q ih=>
  intro n lo d h;rcases List.mem_append.mp (show d∈prF lo (n-(lo+1)).toNat (lo+1)++prA n q (lo+1)from h)with h|h
  .exact f _ _ _ d h
  .exact ih n (lo+1) d h
theorem YF:∀{ds:T4},(∀d∈ds,∃a b,d=prP a b)->PyData.canLayAll0 ds=true/\PyData.depthAll ds<=1/\PyData.eqvAll ds ds=true
 |[]=>fun _=>⟨rfl,by decide,rfl⟩
 |d::ds=>fun h=>by
  obtain⟨e,k,o⟩:=YF fun x hx=>h x<|A8 _ hx;obtain⟨a,b,rfl⟩:=h d A9;refine⟨?_,?_,?_⟩
  .show(true&&PyData.canLayAll0 ds)=true;rw[e];rfl
  .show max 1 (PyData.depthAll ds)<=1;exact Nat.max_le.mpr ⟨A6 _,k⟩
  .show(((a==a)&&((b==b)&&true))&&PyData.eqvAll ds ds)=true;rw[o];simp
def aHy{ds:T4}(h:∀d∈ds,∃a b,d=prP a b)(M:Sto):eqX true (.d (.list ds)) (.d (.list ds)) M=Z (B false,M):=by
 obtain⟨e,A,k⟩:=YF h
 have o:SeqAt.shaped (.list ds)=true:=by
  unfold SeqAt.shaped;have t:PyData.canLay0 (.list ds)=true:=e
  have v:PyData.depth (.list ds)<=64:=by
   show PyData.depthAll ds+1<=64;omega
  rw[t,B9 v];rfl
 show(if (SeqAt.shaped (.list ds)&&SeqAt.shaped (.list ds))=true then Z (B (!PyData.eqv (.list ds) (.list ds)),M)else Y)=_;rw[o,A0t,A4 rfl,show PyData.eqv (.list ds) (.list ds)=PyData.eqvAll ds ds from rfl,k];rfl
abbrev GJ(x ds:CD)(found pairs i draw j a:Te):Ga:=[Z x,Z ds,found,pairs,i,draw,j,a]
theorem aFX{p:Int}{M:Sto}:∀(q:Nat)(lo:Int)(g:Te),lcF (hName 1) eN (bY<|aC (aD 0)<|aC (aD 1) aG) (eA lo q) [Z (I p),g] M=Z ((prF p q lo).map .d,M)
 |0=>fun lo g=>rfl
 |q+1=>fun lo g=>by
  have s2:(2:Nat)<=sizeLine:=by decide
  have ev:(bY<|aC (aD 0)<|aC (aD 1) aG) [Z (I p),Z<|I lo] M=Z (.d (prP p lo),M):=by
   simp![s2,prP]
  rw[eZ];unfold lcF;rw[show hName 1 (I lo) [Z (I p),g] M=Z ([Z (I p),Z<|I lo],M)from rfl,A1];dsimp only;rw[show eN [Z (I p),Z<|I lo] M=Z (true,M)from rfl,A1];dsimp only;rw[A4 rfl,ev,A1];dsimp only;rw[aFX q (lo+1) (Z<|I lo)];rfl
def aEt{x ds:CD}{j a:Te}(s1:bS (p+1)=true):lY (aC (fOp cS (aD 4)<|fC (.int 1))<|aC (fC (.int 40)) aG) (GJ x ds found pairs (Z<|I p) draw j a) M=Z (eA (p+1) (40-(p+1)).toNat,M):=by
 have e:∀(a b:Int)(M:Sto),cS (I a) (I b) M=Z (I (a+b),M):=fun _ _ _=>rfl;have s2:bS 40=true:=by decide
 simp![lY,e,s1,s2,and_self]
def aDI{x ds:CD}{j a:Te}{ps:T4}(o:0<=p)(t:p<40)(v:ps.length<=5000):eB (GJ x ds found (Z (.d (.list ps))) (Z<|I p) draw j a) M=Z (.nx (GJ x ds found (Z (.d (.list (ps++prF p (40-(p+1)).toNat (p+1))))) (Z<|I p) draw j a),M):=by
 have e:=aEt (x:=x) (ds:=ds) (found:=found) (pairs:=Z (.d (.list ps))) (draw:=draw) (j:=j) (a:=a) (M:=M)<|fV (J:=p+1) (by omega) (by omega);have k:lD (GJ x ds found (Z (.d (.list ps))) (Z<|I p) draw j a) M=Z (.d (.list (prF p (40-(p+1)).toNat (p+1))),M):=qT e (by rw[pC];exact big (by omega)) (aFX _ _ Y) (by rw[vN];exact big (by omega));have ad:=RS (xs:=ps) (ys:=prF p (40-(p+1)).toNat (p+1)) (M:=M) (by rw[B1,vN];exact big (by omega));unfold eB;refine iU ?_;unfold fOp;rw[show aD 3 (GJ x ds found (Z (.d (.list ps))) (Z<|I p) draw j a) M=Z (.d (.list ps),M)from rfl,A1];dsimp only;rw[k,A1];exact ad
theorem SC{x ds:CD}{found draw j a:Te}{M:Sto}:∀(q:Nat)(lo:Int)(ps:T4)(g:Te),ps.length+100*q<=5000->0<=lo->lo+q<=40->∃g',kZ (hName 4) eB (eA lo q) (GJ x ds found (Z (.d (.list ps))) g draw j a) M=Z (.nx (GJ x ds found (Z (.d (.list (ps++prA 40 q lo)))) g' draw j a),M)
 |0=>fun lo ps g _ _ _=>⟨g,by rw[show prA 40 0 lo=[]from rfl,C8];rfl⟩
 |q+1=>fun lo ps g k e o=>by
  have t:=aDI (x:=x) (ds:=ds) (found:=found) (draw:=draw) (j:=j) (a:=a) (ps:=ps) (M:=M) e (by omega) (by omega);obtain⟨g',l⟩:=SC (x:=x) (ds:=ds) (found:=found) (draw:=draw) (j:=j) (a:=a) (M:=M) q (lo+1) (ps++prF lo (40-(lo+1)).toNat (lo+1)) (Z<|I lo) (by rw[B1,vN];omega) (by omega) (by omega);refine⟨g',?_⟩;rw[eZ,cC (show hName 4 (I lo) (GJ x ds found (Z (.d (.list ps))) g draw j a) M=Z (GJ x ds found (Z (.d (.list ps))) (Z<|I lo) draw j a,M)from rfl) t,l,B7];rfl
noncomputable abbrev aBO:EF:=(fSl (aD 0) iX<|rV<|fC (.int 2))
def aIu{W:Int->Int->Int×Int}:aBO [Z (.d (uH W p o))] M=Z (.d (prP p o),M):=rfl
theorem QK{W:Int->Int->Int×Int}{p:Int}{M:Sto}{R:T6}{Q:T6}(e:∀g,lcF (hName 0) eN aBO R [g] M=Z (Q,M)):∀(q:Nat)(lo:Int)(g:Te),lcF (hName 0) eN aBO ((mF W p q lo).map .d++R) [g] M=Z ((prF p q lo).map .d++Q,M)
 |0=>fun lo g=>e g
 |q+1=>fun lo g=>by
  have ih:=QK (W:=W) (p:=p) e q (lo+1)<|Z (.d (uH W p lo));show lcF (hName 0) eN aBO (.d (uH W p lo)::((mF W p q (lo+1)).map .d++R)) [g] M=_;unfold lcF;rw[show hName 0 (.d (uH W p lo)) [g] M=Z ([Z (.d (uH W p lo))],M)from rfl,A1];dsimp only;rw[show eN [Z (.d (uH W p lo))] M=Z (true,M)from rfl,A1];dsimp only;rw[A4 rfl,aIu,A1];dsimp only;rw[ih];rfl
theorem QP{W:Int->Int->Int×Int}{n:Int}{M:Sto}:∀(q:Nat)(lo:Int)(g:Te),lcF (hName 0) eN aBO ((gK W n q lo).map .d) [g] M=Z ((prA n q lo).map .d,M)
 |0=>fun lo g=>rfl
 |q+1=>fun lo g=>by
  have:=QK (W:=W) (p:=lo) (fun g=>QP (W:=W) (n:=n) (M:=M) q (lo+1) g) (n-(lo+1)).toNat (lo+1) g;unfold gK prA;rw[C7,C7];exact this
def aHZ(a:Int×Int)(M:Sto):eqX true (.d (amD a)) (.d (amD a)) M=Z (B false,M):=ne_self [a.1,a.2] M
def aEm{ds:CD}{pairs:Te}{z:Int}{a:Int×Int}{g6:Te}{M1:Sto}(ix:ixF (.d (.tuple rows)) (I (z % 780)) M=Z (.d (.tuple [.int i,.int j,amD a]),M))(d:dJ [.d x,I 40,I i,I j] M=Z (.d (anD a S),M1)):
 cY (GJ (.d x) ds (Z (.d (.tuple rows))) pairs g4 (Z<|I z) g6 g7) M=Z (.nx (GJ (.d x) ds (Z (.d (.tuple rows))) pairs (Z<|I i) (Z<|I z) (Z<|I j)<|Z (.d (amD a))),M1):=by
 have k:jA z 780=true:=eE (by decide);have o:∀M,ixF (.d (anD a S)) (I 0) M=Z (.d (amD a),M):=fun _=>rfl
 have t:bC (fOp ixF (aD 2)<|fOp fG (aD 5)<|fC (.int 780)) (iB 3<|bD (hName 4)<|bD (hName 6)<|bD (hName 7) iV) (GJ (.d x) ds (Z (.d (.tuple rows))) pairs g4 (Z<|I z) g6 g7) M=Z (.nx (GJ (.d x) ds (Z (.d (.tuple rows))) pairs (Z<|I i) (Z<|I z) (Z<|I j)<|Z (.d (amD a))),M):=by
  have e:(fOp ixF (aD 2)<|fOp fG (aD 5)<|fC (.int 780)) (GJ (.d x) ds (Z (.d (.tuple rows))) pairs g4 (Z<|I z) g6 g7) M=Z (.d (.tuple [.int i,.int j,amD a]),M):=by
   simp![k,ix]
  unfold bC;rw[e];rfl
 unfold cY;rw[aZ t];simp![d,o,aHZ]
def HE{us:Tv Ed}{ds:CD}{pairs:Te}{z:Int}{g6:Te}(D:Two 40 x y us as)(M:Sto):
 ∃L e o t,cY (GJ (.d x) ds (Z (.d (.tuple (gK (lea us as) 40 40 0)))) pairs g4 (Z<|I z) g6 g7) M=Z (.nx (GJ (.d x) ds (Z (.d (.tuple (gK (lea us as) 40 40 0)))) pairs e (Z<|I z) o t),M++L):=by
 obtain⟨d,v,A⟩:=vW (ds:=gK (lea us as) 40 40 0) (k:=z) (m:=780) (by decide) (by rw[yE];decide);obtain⟨i,j,B,G,H,C,rfl⟩:=OI _ _ d A;obtain⟨S,E,_⟩:=ans D.hx D.hT D.tx D.mx D.mt D.bd D.al D.n0 (i:=i) (j:=j) ⟨B,by omega⟩ ⟨by omega,C⟩ (by omega);obtain⟨L,F⟩:=E M;refine⟨L,_,_,_,aEm (a:=lea us as i j) (S:=S) (i:=i) (j:=j) ?_ F⟩;show(atI (gK (lea us as) 40 40 0) (z % 780)).bind _=_;rw[v];rfl
def aJD{us:Tv Ed}(D:Two 40 x y us as)(M:Sto):∃L,dR [.d x,.d (.list [.int d1,.int d2,.int d3])] M=Z (B true,M++L):=by
 obtain⟨k,al⟩:=UK M D.hx D.tx D.mx D.bd D.al;have al:bA [.d x] M=Z (.v (.d (.tuple (gK (lea us as) 40 40 0))),M++k):=al;generalize A:gK (lea us as) 40 40 0=e at al
 have P:bC (fX bA<|aC (aD 0) aG) (hName 2) [Z (.d x),Z (.d (.list [.int d1,.int d2,.int d3])),Y,Y,Y,Y,Y,Y] M=Z (.nx (GJ (.d x) (.d (.list [.int d1,.int d2,.int d3])) (Z (.d (.tuple e))) Y Y Y Y Y),M++k):=by
  simp![al]
 have Q:bC (iQ aG) (hName 3) (GJ (.d x) (.d (.list [.int d1,.int d2,.int d3])) (Z (.d (.tuple e))) Y Y Y Y Y) (M++k)=Z (.nx (GJ (.d x) (.d (.list [.int d1,.int d2,.int d3])) (Z (.d (.tuple e))) (Z (.d (.list []))) Y Y Y Y),M++k):=by
  have R:(0:Nat)<=sizeLine:=E7 _;simp![R]
 obtain⟨g4,F⟩:=SC (x:=.d x) (ds:=.d (.list [.int d1,.int d2,.int d3])) (found:=Z (.d (.tuple e))) (draw:=Y) (j:=Y) (a:=Y) (M:=M++k) 40 0 [] Y (by decide) (by decide) (by decide);rw[Y2]at F;have T:dA (aC (fC (.int 40)) aG) (GJ (.d x) (.d (.list [.int d1,.int d2,.int d3])) (Z (.d (.tuple e))) (Z (.d (.list []))) Y Y Y Y) (M++k)=Z (eA 0 40,M++k):=rfl;have V:=iT T F;have W:e.length=780:=by rw[<- A,yE];decide
 have C:cQ (aD 2) (GJ (.d x) (.d (.list [.int d1,.int d2,.int d3])) (Z (.d (.tuple e))) (Z (.d (.list (prA 40 40 0)))) g4 Y Y Y) (M++k)=Z (e.map .d,M++k):=CT rfl rfl
 have G:eD (GJ (.d x) (.d (.list [.int d1,.int d2,.int d3])) (Z (.d (.tuple e))) (Z (.d (.list (prA 40 40 0)))) g4 Y Y Y) (M++k)=Z (.d (.list (prA 40 40 0)),M++k):=by
  refine qT C (by rw[A3,W];exact big (by decide)) ?_ (by rw[SQ];exact big (by decide));rw[<- A];exact QP 40 0 Y
 have o:=aHy (aHR 40 40 0) (M++k)
 have X:sIf (gOr (iM<|gB<|EC "tuple"<|aD 2)<|gB<|fOp (eqX true) eD<|aD 3) (bQ<|fC (.bool false)) bX (GJ (.d x) (.d (.list [.int d1,.int d2,.int d3])) (Z (.d (.tuple e))) (Z (.d (.list (prA 40 40 0)))) g4 Y Y Y) (M++k)=Z (.nx (GJ (.d x) (.d (.list [.int d1,.int d2,.int d3])) (Z (.d (.tuple e))) (Z (.d (.list (prA 40 40 0)))) g4 Y Y Y),M++k):=by
  have H:iM (gB<|EC "tuple"<|aD 2) (GJ (.d x) (.d (.list [.int d1,.int d2,.int d3])) (Z (.d (.tuple e))) (Z (.d (.list (prA 40 40 0)))) g4 Y Y Y) (M++k)=Z (false,M++k):=rfl;generalize hP:prA 40 40 0=ps at G o H ⊢
  have te:gB (fOp (eqX true) eD<|aD 3) (GJ (.d x) (.d (.list [.int d1,.int d2,.int d3])) (Z (.d (.tuple e))) (Z (.d (.list ps))) g4 Y Y Y) (M++k)=Z (false,M++k):=by
   unfold gB fOp;rw[G,A1];dsimp only;rw[show aD 3 (GJ (.d x) (.d (.list [.int d1,.int d2,.int d3])) (Z (.d (.tuple e))) (Z (.d (.list ps))) g4 Y Y Y) (M++k)=Z (.d (.list ps),M++k)from rfl,A1];dsimp only;rw[o];rfl
  unfold sIf gOr;rw[H,A1];dsimp only;rw[B0 (by decide),te];rfl
 obtain⟨t,b4,b6,b7,t1⟩:=HE (ds:=.d (.list [.int d1,.int d2,.int d3])) (pairs:=Z (.d (.list (prA 40 40 0)))) (z:=d1) (g4:=g4) (g6:=Y) (g7:=Y) D (M++k);obtain⟨L2,c4,c6,c7,t2⟩:=HE (ds:=.d (.list [.int d1,.int d2,.int d3])) (pairs:=Z (.d (.list (prA 40 40 0)))) (z:=d2) (g4:=b4) (g6:=b6) (g7:=b7) D (M++k++t);obtain⟨O,e4,e6,e7,t3⟩:=HE (ds:=.d (.list [.int d1,.int d2,.int d3])) (pairs:=Z (.d (.list (prA 40 40 0)))) (z:=d3) (g4:=c4) (g6:=c6) (g7:=c7) D (M++k++t++L2);rw[A]at t1 t2 t3;have st:∀{f p i z j a:Te}{d:Int}{M:Sto},hName 5 (I d) (GJ (.d x) (.d (.list [.int d1,.int d2,.int d3])) f p i z j a) M=Z (GJ (.d x) (.d (.list [.int d1,.int d2,.int d3])) f p i (Z<|I d) j a,M):=rfl;have E:cQ (aD 1) (GJ (.d x) (.d (.list [.int d1,.int d2,.int d3])) (Z (.d (.tuple e))) (Z (.d (.list (prA 40 40 0)))) g4 Y Y Y) (M++k)=Z ([I d1,I d2,I d3],M++k):=CT (ds:=[.int d1,.int d2,.int d3]) rfl rfl
 have lp:kZ (hName 5) cY [I d1,I d2,I d3] (GJ (.d x) (.d (.list [.int d1,.int d2,.int d3])) (Z (.d (.tuple e))) (Z (.d (.list (prA 40 40 0)))) g4 Y Y Y) (M++k)=Z (.nx (GJ (.d x) (.d (.list [.int d1,.int d2,.int d3])) (Z (.d (.tuple e))) (Z (.d (.list (prA 40 40 0)))) e4 (Z<|I d3) e6 e7),M++k++t++L2++O):=by
  rw[cC st t1,cC st t2,cC st t3];rfl
 refine⟨k++t++L2++O,nG rfl ?_⟩;unfold iF;show aS _ _ [Z (.d x),Z (.d (.list [.int d1,.int d2,.int d3])),Y,Y,Y,Y,Y,Y] M=_;rw[aZ P,aZ Q,aZ V,aZ X,aZ<|iT E lp];rw[<- B7,<- B7,<- B7];rfl
noncomputable abbrev aJq(vs:Tv Tie):Tv (Int×Int):=vs.map fun t=>(t.a,t.b)
noncomputable abbrev lR(t:Tie):Tz:=.list [.int t.i,.int t.j,.list [.int t.a,.int t.b]]
def aEz(vs:Tv Tie):lsN 6 (.tuple (vs.map rD))=.list (vs.map lR):=by
 show PyData.list ((vs.map rD).map (lsN 5))=_;rw[U3];rfl
theorem aFK:∀vs:Tv Tie,PyData.canLayAll0 (vs.map lR)=true/\PyData.depthAll (vs.map lR)<=2/\PyData.eqvAll (vs.map lR) (vs.map lR)=true
 |[]=>⟨rfl,by decide,rfl⟩
 |t::vs=>by
  obtain⟨e,k,o⟩:=aFK vs;refine⟨?_,?_,?_⟩
  .show(true&&PyData.canLayAll0 (vs.map lR))=true;rw[e];rfl
  .show max 2 (PyData.depthAll<|vs.map lR)<=2;exact Nat.max_le.mpr ⟨A6 _,k⟩
  .show(((t.i==t.i)&&((t.j==t.j)&&(((t.a==t.a)&&((t.b==t.b)&&true))&&true)))&&PyData.eqvAll (vs.map lR) (vs.map lR))=true;rw[o];simp
def aKZ(vs:Tv Tie)(M:Sto):eqX false (.d (.list (vs.map lR))) (.d (.list (vs.map lR))) M=Z (B true,M):=by
 obtain⟨e,A,k⟩:=aFK vs
 have o:SeqAt.shaped (.list (vs.map lR))=true:=by
  unfold SeqAt.shaped;have t:PyData.canLay0 (.list (vs.map lR))=true:=e
  have v:PyData.depth (.list (vs.map lR))<=64:=by
   show PyData.depthAll (vs.map lR)+1<=64;omega
  rw[t,B9 v];rfl
 show(if (SeqAt.shaped (.list (vs.map lR))&&SeqAt.shaped (.list (vs.map lR)))=true then Z (B<|PyData.eqv (.list (vs.map lR)) (.list (vs.map lR)),M)else Y)=_;rw[o,A0t,A4 rfl,show PyData.eqv (.list (vs.map lR)) (.list (vs.map lR))=PyData.eqvAll (vs.map lR) (vs.map lR)from rfl,k]
def aAq{k:Nat}{a:Int×Int}(h:(aJq vs)[k]?=Z a):∃t,vs[k]?=Z t/\a=(t.a,t.b):=by
 rw[D0]at h;cases e:vs[k]? with
 |none=>rw[e]at h;cases h
 |some t=>rw[e]at h;exact⟨t,rfl,(D3 h).symm⟩
def OW{o:Type}{vs:Tv o}{f:o->Tz}{k:Nat}{t:o}(h:vs[k]?=Z t)(M:Sto):ixF (.d (.tuple (vs.map f))) (I (k:Nat)) M=Z (.d (f t),M)/\ixF (.d (.list (vs.map f))) (I (k:Nat)) M=Z (.d (f t),M):=by
 have e:atI (vs.map f) (k:Int)=Z (f t):=pY (by rw[D0,h];rfl);constructor
 .show(atI (vs.map f) (k:Int)).bind _=_;rw[e];rfl
 .show(atI (vs.map f) (k:Int)).bind _=_;rw[e];rfl
def aIr{M:Sto}(A:0<n)(v:n<=40)(hd:Dk M c (n-1+m)):∃(vs:Tv Tie)(M':Sto),eQ [.c c,I n] M=Z (.d (.tuple (vs.map rD)),M')/\Dk M' c m/\Two n (.tuple (vs.map rD)) (.list (vs.map lR)) (vs.map Tie.key) (aJq vs)/\vs.length=n-1/\(∀t∈vs,Am t.a t.b)/\(∀t∈vs,(0<=t.i/\t.i<t.j)/\t.j<n)/\∀M,bB 6 [.d (.tuple (vs.map rD))] M=Z (.d (.list (vs.map lR)),M):=by
 obtain⟨us,vs,M1,H,O,F,B,C,P⟩:=aDz hd A v;have tb:=PP A F B C P;have am:∀t∈vs,Am t.a t.b:=fun t ht=>B.am t<|C.mem_iff.mp ht;have vl:vs.length=n-1:=by rw[C.length_eq];exact F
 have dl:(vs.map rD).length+1=n:=by rw[A3];omega
 have hx:lB (.tuple (vs.map rD))=true:=by
  unfold lB;show(decide ((vs.map rD).length+1<=40)&&gR ((vs.map rD).length+1) (.tuple (vs.map rD)))=true;rw[dl,tb,B9 v];rfl
 have D:∀t∈vs,(0<=t.i/\t.i<t.j)/\t.j<n:=fun t ht=>by
  have o:=C.mem_iff.mp ht;refine⟨B.is t o,?_⟩;have:t.j∈us.map Tie.j:=List.mem_map.mpr ⟨t,o,rfl⟩;rw[B.js]at this;obtain⟨q,Q,e⟩:=List.mem_map.mp this;have:=List.mem_range.mp Q;omega
 obtain⟨E,o⟩:=Tr.of A v tb
 have R:E=vs.map Tie.key:=by
  obtain⟨ds,i1,i2,G⟩:=o.it;cases i1;rw[vU fun t ht=>⟨(D t ht).1,(D t ht).2,am t ht⟩]at G;exact(D3 G).symm
 subst R
 have dp:dpB 6 (.tuple (vs.map rD))=true:=by
  have:okX (.tuple (vs.map rD))=true:=aFf (fun x hx=>by
   obtain⟨t,ht,rfl⟩:=List.mem_map.mp hx;exact(am t ht).ok) (by rw[A3];omega)
  unfold okX at this;rw[B8,B8]at this;exact this.1.1
 have ls:=aEz vs;have ty:=o.ls (k:=6);have hy:=aFd (k:=6) hx;rw[ls]at ty hy
 have bd:Bd (aJq vs):=fun a ha=>by
  obtain⟨t,ht,rfl⟩:=List.mem_map.mp ha;have:=am t ht;have q:=this.am;unfold DA at q;rw[B8,B8,F8,F8]at q;have a30:=this.a30;have b21:=this.b21;exact⟨wsm q.1.1<|Int.lt_of_le_of_lt a30 (by decide),wsm (by omega)<|Int.lt_of_le_of_lt b21 (by decide)⟩
 refine⟨vs,M1,H,O,⟨hx,hy,aIX vs,o,ty,⟨⟨_,rfl,by rw[A3,A3]⟩,fun k a h=>?_⟩,⟨⟨_,rfl,by rw[A3,A3]⟩,fun k a h=>?_⟩,⟨fun k a h=>?_⟩,bd,by rw[A3,A3],A⟩,vl,am,D,fun M=>by rw[UG M 6 _ dp,ls]⟩
 .obtain⟨t,ht,rfl⟩:=aAq h;exact⟨rD t,.tuple [.int t.a,.int t.b],fun M=>(OW ht M).1,fun M=>rfl,rfl⟩
 .obtain⟨t,ht,rfl⟩:=aAq h;exact⟨lR t,.list [.int t.a,.int t.b],fun M=>(OW ht M).2,fun M=>rfl,rfl⟩
 .obtain⟨t,ht,rfl⟩:=aAq h;exact⟨rD t,fun M=>(OW ht M).1,fun M=>rfl⟩
noncomputable abbrev jN:Tz:=.list [(.tuple [(.int 0),(.int 1),(.tuple [(.int 1),(.int 2)])])]
def NG:lB jN=true:=by decide +kernel
def one_tr:Tr 2 jN [(0,1)]:=by
 obtain⟨us,h⟩:=Tr.of (n:=2) (x:=jN) (by decide) (by decide) (by decide +kernel)
 have:us=[(0,1)]:=by
  obtain⟨ds,o,t,k⟩:=h.it;cases o;have e:bK (2:Nat) (.tuple [(.int 0),(.int 1),(.tuple [(.int 1),(.int 2)])])=Z (0,1):=by decide +kernel
  rw[U8,e]at k;exact(D3 k).symm
 rw[<- this];exact h
def aBN:Tm jN [(1,2)]:=⟨⟨_,rfl,rfl⟩,fun k a h=>by
 cases k with
 |zero=>cases h;exact⟨.tuple [(.int 0),(.int 1),(.tuple [(.int 1),(.int 2)])],.tuple [.int 1,.int 2],fun M=>rfl,fun M=>rfl,rfl⟩
 |succ k=>cases h⟩
def YZ:Bd [(1,2)]:=fun a h=>by
 rw[List.mem_singleton.mp h];exact⟨wsm (by decide) (by decide),wsm (by decide) (by decide)⟩
def aFq:lea [(0,1)] [(1,2)] 0 1=(1,2):=by decide +kernel
def aHm(M:Sto):∃L,aU [.d jN,I 0,I 1] M=Z (.v (.d (.tuple [.tuple [.int 1,.int 2],wD [1]])),M++L):=by
 obtain⟨U,bs,L,e,w,nd,o,k⟩:=aAT (M:=M) NG one_tr aBN YZ rfl (by decide) (i:=0) (j:=1) ⟨by decide,by decide⟩ ⟨by decide,by decide⟩ (by decide);obtain⟨ss,R⟩:=one_tr.root (p:=1) ⟨by decide,by decide⟩;have t:U=[0]:=R.uniq w nd ⟨1,⟨0,(0,1),rfl,rfl,.inl ⟨rfl,rfl⟩⟩,rfl⟩ (by simp);subst t;obtain⟨D,A⟩:=one_tr.root (p:=0) ⟨by decide,by decide⟩;have B:((bst [((1:Int),(2:Int))] [0]:Nat):Int)=0:=by decide +kernel
 have C:amt [(1,2)] [0]=(1,2):=by decide +kernel
 rw[B]at k
 have:kI bs=[1]:=sZ (qB bs) (List.pairwise_singleton _ _) ((vF bs).trans ((List.perm_ext_iff_of_nodup o (by simp)).mpr fun p=>by
  rw[k,D4];constructor
  .rintro⟨⟨E,F⟩,q⟩;by_cases z:p=0
   .subst z;exact absurd q A.beh0
   .omega
  .rintro rfl;exact⟨⟨by decide,by decide⟩,[0],⟨0,⟨0,(0,1),rfl,rfl,.inr ⟨rfl,rfl⟩⟩,rfl⟩,by simp,List.mem_singleton.mpr rfl⟩))
 exact⟨L,by rw[e,this,C]⟩
def aDn(M:Sto):∃L,bA [.d jN] M=Z (.v (.d (.tuple [.tuple [.int 0,.int 1,.tuple [.int 1,.int 2]]])),M++L):=by
 obtain⟨L,e⟩:=UK M NG one_tr aBN YZ rfl;refine⟨L,?_⟩;have:gK (lea [(0,1)] [(1,2)]) ((2:Nat):Int) 2 0=[uH (lea [(0,1)] [(1,2)]) 0 1]:=rfl;rw[this]at e;unfold uH at e;rw[aFq]at e;exact e
def Dg(M:Sto)(c m:Nat):Prop:=∃k,m<=k/\Dk M c k
def Dg.pop(h:Dg M c (m+1)):∃z M',eY (.c c) [] M=Z (I z,M')/\Dg M' c m/\Oth c M M':=by
 obtain⟨k,v,d⟩:=h;obtain⟨q,rfl⟩:∃q,k=q+1:=⟨k-1,by omega⟩;obtain⟨z,M',e,o,t⟩:=d.pop;exact⟨z,M',e,⟨q,by omega,o⟩,t⟩
def Dg.app{L:Sto}(h:Dg M c m):Dg (M++L) c m:=let⟨k,a,b⟩:=h;⟨k,a,b.app⟩
def Dg.ty(h:Dg M c m):tyB "list" M (.c c)=true:=let⟨_,_,b⟩:=h;b.ty
def Dg.less{k:Nat}(h:Dg M c m)(e:k<=m):Dg M c k:=let⟨q,a,b⟩:=h;⟨q,F5 e a,b⟩
abbrev tr'(vs:Tv Tie):Tz:=.tuple (vs.map rD)
section
variable{s:CD}{c:Nat}{al k g4 g5 g6 g7 g8 g9:Te}
def aEn{x:CD}{M1:Sto}(e:eQ [.c c,I J] M=Z (x,M1)):bC (aK eQ<|aC (aD 1)<|aC (aD 4) aG) (hName 5) (GL s c al k (Z<|I J) g5 g6 g7 g8 g9) M=Z (.nx (GL s c al k (Z<|I J) (Z x) g6 g7 g8 g9),M1):=by
 simp![e]
noncomputable abbrev uK:SF:=(sIf (DT (gB<|fOp gtI (aD 4)<|fC (.int 1))<|iM<|gB<|aK gG<|aC (aD 5)<|aC (aD 4)<|aC (bL "list" eY (aD 1) aG) aG) (bQ<|fC (.bool false)) bX)
def aKR(h:decide (1<J)=false):uK (GL s c al k (Z<|I J) g5 g6 g7 g8 g9) M=Z (.nx (GL s c al k (Z<|I J) g5 g6 g7 g8 g9),M):=by
 simp![uK,h]
def aKo{z:Int}{x:CD}{M1 M2:Sto}(h:decide (1<J)=true)(ty:tyB "list" M (.c c)=true)(e:eY (.c c) [] M=Z (I z,M1))(r:gG [x,I J,I z] M1=Z (B true,M2)):uK (GL s c al k (Z<|I J) (Z x) g6 g7 g8 g9) M=Z (.nx (GL s c al k (Z<|I J) (Z x) g6 g7 g8 g9),M2):=by
 simp![uK,h,bL,ty,e,r]
noncomputable abbrev FO:SF:=(sIf (DT (gB<|fOp (eqX false) (aD 4)<|fC (.int 40))<|iM<|gB<|aK dR<|aC (aD 5)<|aC (iQ<|aC (bL "list" eY (aD 1) aG)<|aC (bL "list" eY (aD 1) aG)<|aC (bL "list" eY (aD 1) aG) aG) aG) (bQ<|fC (.bool false)) bX)
def aKi(h:(J==40)=false):FO (GL s c al k (Z<|I J) g5 g6 g7 g8 g9) M=Z (.nx (GL s c al k (Z<|I J) g5 g6 g7 g8 g9),M):=by
 simp![FO,wO,h]
def aKv{x:CD}{M1 M2:Sto}(h:(J==40)=true)(t0:tyB "list" M (.c c)=true)(o:eY (.c c) [] M=Z (I z1,M1))(t1:tyB "list" M1 (.c c)=true)(t:eY (.c c) [] M1=Z (I z2,M2))(t2:tyB "list" M2 (.c c)=true)(v:eY (.c c) [] M2=Z (I e,M3))(r:dR [x,.d (.list [.int z1,.int z2,.int e])] M3=Z (B true,M4)):
 FO (GL s c al k (Z<|I J) (Z x) g6 g7 g8 g9) M=Z (.nx (GL s c al k (Z<|I J) (Z x) g6 g7 g8 g9),M4):=by
 have s3:(3:Nat)<=sizeLine:=by decide
 simp![FO,wO,h,bL,t0,o,t1,t,t2,v,s3,r]
noncomputable abbrev FK:SF:=(sIf (gB<|fOp ltI (aD 4)<|fC (.int 10))
 (aS (bC (iQ aG)<|hName 6)
 (aS (mP (dA<|aC (aD 4) aG) (hName 7) wN)
 (sIf (gOr (gB<|fOp (eqX true) (fX bA<|aC (aD 5) aG)<|aK bO<|aC (aD 6) aG)<|gB<|fOp (eqX true) (fX bA<|aC (aK (bB 6)<|aC (aD 5) aG) aG)<|aK bO<|aC (aD 6) aG)
  (bQ<|fC (.bool false))
  bX)))
  bX)
def aKB(h:decide (J<10)=false):FK (GL s c al k (Z<|I J) g5 g6 g7 g8 g9) M=Z (.nx (GL s c al k (Z<|I J) g5 g6 g7 g8 g9),M):=by
 simp![FK,h]
def aBR{J:CD}{R:T4}{M M1 M2:Sto}(e:bA [.d x] M=Z (.v (.d (.tuple R)),M1))(ls:∀M,bB 6 [.d x] M=Z (.d y,M))(o:bA [.d y] M1=Z (.v (.d (.tuple R)),M2))(t:∀M,eqX true (.d (.tuple R)) (.d (.tuple R)) M=Z (B false,M)):
 (sIf (gOr (gB<|fOp (eqX true) (fX bA<|aC (aD 5) aG)<|aK bO<|aC (aD 6) aG)<|gB<|fOp (eqX true) (fX bA<|aC (aK (bB 6)<|aC (aD 5) aG) aG)<|aK bO<|aC (aD 6) aG) (bQ<|fC (.bool false)) bX) (GL s c al k (Z J) (Z (.d x)) (Z (.d (.list R))) g7 g8 g9) M=Z (.nx (GL s c al k (Z J) (Z (.d x)) (Z (.d (.list R))) g7 g8 g9),M2):=by
 have A:∀M,bO [.d (.list R)] M=Z (.d (.tuple R),M):=fun _=>rfl;simp![e,A,t,ls,o]
def aIS(sm:bS J=true):dA (aC (aD 4) aG) (GL s c al k (Z<|I J) g5 g6 g7 g8 g9) M=Z (eA 0 J.toNat,M):=by
 simp![dA,sm]
def aLw{us:Tv Ed}(D:Two n x y us as)(O:n<10)(ls:∀M,bB 6 [.d x] M=Z (.d y,M))(M:Sto):∃L e o,FK (GL s c al k (Z<|I n) (Z (.d x)) g6 g7 g8 g9) M=Z (.nx (GL s c al k (Z<|I n) (Z (.d x)) e o g8 g9),M++L):=by
 obtain⟨t,v,A⟩:=QH (s:=s) (c:=c) (al:=al) (k:=k) (odd:=g8) (nn:=g9) D n 0 [] g7 M (by rw[Y0];omega) (by decide) (by omega);rw[Y2]at A;obtain⟨L2,C⟩:=UK (M++t) D.hx D.tx D.mx D.bd D.al;obtain⟨E,F⟩:=UK (M++t++L2) D.hy D.ty D.my D.bd D.al;have G:=aBR (s:=s) (c:=c) (al:=al) (k:=k) (g7:=v) (g8:=g8) (g9:=g9) (J:=I n) C ls F<|aFy<|aCm _ _ _ _;have B:=aIS (s:=s) (c:=c) (al:=al) (k:=k) (J:=(n:Int)) (g5:=Z (.d x)) (g6:=Z (.d (.list []))) (g7:=g7) (g8:=g8) (g9:=g9) (M:=M)<|fV (by omega) (by omega);rw[Z6]at B;have H:=iT B A;have lt:decide ((n:Int)<10)=true:=B9 (by omega);refine⟨t++L2++E,Z (.d (.list (gK (lea us as) n n 0))),v,?_⟩;rw[<- B7,<- B7]
 have tg:gB (fOp ltI (aD 4)<|fC (.int 10)) (GL s c al k (Z<|I n) (Z (.d x)) g6 g7 g8 g9) M=Z (true,M):=by
  generalize (n:Int)=J at lt ⊢;simp![lt]
 unfold FK sIf;rw[tg,A1];dsimp only;rw[A4 rfl];rw[aZ (show bC (iQ aG) (hName 6) (GL s c al k (Z<|I n) (Z (.d x)) g6 g7 g8 g9) M=Z (.nx (GL s c al k (Z<|I n) (Z (.d x)) (Z (.d (.list []))) g7 g8 g9),M)from rfl),aZ H];exact G
def EW(J:Int):T4:=[.bool true,.none,.str "0",.int (-1),.int J,.int E30,.tuple [.int 0]]
def aHn(h:d∈EW J)(t:J<=40):unB J d (.int 0)=false:=by
 unfold EW at h;simp only[List.mem_cons,List.not_mem_nil,or_false]at h;have o:∀d,plB J d=false->unB J d (.int 0)=false:=fun d e=>by unfold unB;rw[e];rfl
 rcases h with rfl|rfl|rfl|rfl|rfl|rfl|rfl
 .exact o _ rfl
 .exact o _ rfl
 .exact o _ rfl
 .exact o _ rfl
 .refine o _ ?_;show(decide (0<=J)&&decide (J<J))=false;rw[C4 (Int.lt_irrefl J),A0b]
 .refine o _ ?_;show(decide (0<=E30)&&decide (E30<J))=false;rw[C4 (show ¬E30<J by unfold E30;omega),A0b]
 .exact o _ rfl
def aGS(J:Int):unB J (.int 0) (.int J)=false:=by
 have e:plB J (.int J)=false:=by
  show(decide (0<=J)&&decide (J<J))=false;rw[C4 (Int.lt_irrefl J),A0b]
 unfold unB;rw[e,S9,A0b]
noncomputable abbrev aIv:EF:=(fOp ixF (iQ<|aC (fC (.bool true))<|aC (fC .none)<|aC (fC (.str "0"))<|aC (fUn XJ<|fC (.int 1))<|aC (aD 4)<|aC (fOp KP (fC (.int 10))<|fC (.int 30))<|aC IF aG)<|fOp fG (bL "list" eY (aD 1) aG)<|fC (.int 7))
def aJc(hd:Dg M c (m+1)):∃d M1,aIv (GL s c al k (Z<|I J) g5 g6 g7 g8 g9) M=Z (.d d,M1)/\d∈EW J/\Dg M1 c m:=by
 obtain⟨z,M1,o,t,B⟩:=hd.pop;obtain⟨d,v,A⟩:=vW (ds:=EW J) (k:=z) (m:=7) (by decide) rfl;refine⟨d,M1,?_,A,t⟩;have ls:(iQ<|aC (fC (.bool true))<|aC (fC .none)<|aC (fC (.str "0"))<|aC (fUn XJ<|fC (.int 1))<|aC (aD 4)<|aC (fOp KP (fC (.int 10))<|fC (.int 30))<|aC IF aG) (GL s c al k (Z<|I J) g5 g6 g7 g8 g9) M=Z (.d (.list (EW J)),M):=rfl;have mk:jA z 7=true:=eE (by decide)
 have e:fOp fG (bL "list" eY (aD 1) aG) (fC (.int 7)) (GL s c al k (Z<|I J) g5 g6 g7 g8 g9) M=Z (I (z % 7),M1):=by
  simp![bL,hd.ty,o,mk]
 unfold aIv;show(Option.bind _ _)=_;rw[ls,A1];dsimp only;rw[e,A1];show(atI (EW J) (z % 7)).bind _=_;rw[v];rfl
def aIL{M1 M2:Sto}(e:bJ [.d x,.d d,I 0] M=Z (I 2,M1))(o:bJ [.d x,I 0,I J] M1=Z (I 2,M2)):
 (sIf (gOr (gB<|fOp (eqX true) (aK bJ<|aC (aD 5)<|aC (aD 8)<|aC (fC (.int 0)) aG)<|fC (.int 2))<|gB<|fOp (eqX true) (aK bJ<|aC (aD 5)<|aC (fC (.int 0))<|aC (aD 4) aG)<|fC (.int 2)) (bQ<|fC (.bool false)) bX) (GL s c al k (Z<|I J) (Z (.d x)) g6 g7 (Z (.d d)) g9) M=Z (.nx (GL s c al k (Z<|I J) (Z (.d x)) g6 g7 (Z (.d d)) g9),M2):=by
 have t:((2:Int)==2)=true:=rfl;simp![e,o,XE,t]
noncomputable abbrev mJ:Tz:=.tuple [.int 0,.int 1,.tuple [.int 1,.int 1]]
def EO(vs:Tv Tie):T4:=[.none,.int 0,.str "",.dict [],.tuple ([mJ,mJ]++vs.map rD),.tuple [.tuple [.int 0,.int 2,.tuple [.int 1,.int 1]]],.tuple [.tuple [.int 0,.int 1,.tuple [.int 2,.int 2]]],.tuple [.int 0],.bool true]
def aHJ{n:Int}(h:2<=n):bK n mJ=Z (0,1):=by
 rw[HD (a:=.int 0) (b:=.int 1) (c:=.tuple [.int 1,.int 1]) rfl];have e:oG (.tuple [.int 1,.int 1])=true:=by decide +kernel
 unfold MU;show(if (_:Bool)=true then _ else _)=_;rw[e];simp;omega
def aIn{vs:Tv Tie}(hn:vs.length+1=n)(am:∀t∈vs,Am t.a t.b)(e:∀t∈vs,(0<=t.i/\t.i<t.j)/\t.j<n):noB (.tuple ([mJ,mJ]++vs.map rD))=true:=by
 unfold noB;show(!decide (([mJ,mJ]++vs.map rD).length+1<=40) || (match ([mJ,mJ]++vs.map rD).mapM (bK ((([mJ,mJ]++vs.map rD).length+1:Nat):Int))with|some us=>!ris us|none=>true))=true
 have o:([mJ,mJ]++vs.map rD).length+1=n+2:=by
  rw[B1,A3];show 2+vs.length+1=_;omega
 rw[o];have v:(vs.map rD).mapM (bK ((n+2:Nat):Int))=Z (vs.map Tie.key):=vU fun t ht=>⟨(e t ht).1,by have:=(e t ht).2;omega,am t ht⟩
 have m:([mJ,mJ]++vs.map rD).mapM (bK ((n+2:Nat):Int))=Z ((0,1)::(0,1)::vs.map Tie.key):=by
  show(mJ::mJ::vs.map rD).mapM (bK ((n+2:Nat):Int))=_;rw[U8,U8,aHJ (by omega),v];rfl
 rw[m];have r:ris ((0,1)::(0,1)::vs.map Tie.key)=false:=rfl;dsimp only;rw[r,Bool.not_false,Bool.or_true]
def aBy{vs:Tv Tie}(hn:vs.length+1=n)(am:∀t∈vs,Am t.a t.b)(e:∀t∈vs,(0<=t.i/\t.i<t.j)/\t.j<n):∀d∈EO vs,noB d=true:=fun d h=>by
 unfold EO at h;simp only[List.mem_cons,List.not_mem_nil,or_false]at h;rcases h with rfl|rfl|rfl|rfl|rfl|rfl|rfl|rfl|rfl
 .rfl
 .rfl
 .rfl
 .rfl
 .exact aIn hn am e
 .decide +kernel
 .decide +kernel
 .decide +kernel
 .rfl
noncomputable abbrev QG:EF:=(iQ<|aC (fC .none)<|aC (fC (.int 0))<|aC (fC (.str ""))<|aC BZ<|aC (fOp cS (fOp JV wK<|fC (.int 2))<|aD 5)<|aC IG<|aC JE<|aC HX<|aC (fC (.bool true)) aG)
def aDf(A:vs.length<=39)(M:Sto):QG (GL s c al k g4 (Z (.d (tr' vs))) g6 g7 g8 g9) M=Z (.d (.list (EO vs)),M):=by
 have m:fOp JV wK (fC (.int 2)) (GL s c al k g4 (Z (.d (tr' vs))) g6 g7 g8 g9) M=Z (.d (.tuple [mJ,mJ]),M):=rfl;have a:=RE (xs:=[mJ,mJ]) (ys:=vs.map rD) (M:=M) (by rw[A3];show 2+_<=_;omega)
 have e:fOp cS (fOp JV wK<|fC (.int 2)) (aD 5) (GL s c al k g4 (Z (.d (tr' vs))) g6 g7 g8 g9) M=Z (.d (.tuple ([mJ,mJ]++vs.map rD)),M):=by
  unfold fOp at m ⊢;rw[m,A1];exact a
 have o:∀γ M,BZ γ M=Z (.d (.dict []),M):=fun _ _=>rfl;have t:(9:Nat)<=sizeLine:=by decide
 generalize v:fOp cS (fOp JV wK<|fC (.int 2)) (aD 5)=E at e;unfold QG;rw[v];simp only[iQ,aC,aG,fC,Option.bind_some,o,e,YC,aBD,YA,mV,Option.map_some,List.length_cons,List.length_nil,Nat.reduceAdd,t,if_true,EO]
noncomputable abbrev RM:SF:=(sIf (gOr (iM<|gB<|aK cE<|aC (fOp ixF (aD 9)<|fOp fG (bL "list" eY (aD 1) aG)<|fC (.int 9)) aG)<|iM<|gB<|aK cE<|aC (fOp ixF (aD 9)<|fOp fG (bL "list" eY (aD 1) aG)<|fC (.int 3)) aG) (bQ<|fC (.bool false)) bX)
def XH{d1 d2:Tz}{M1 M2:Sto}(t0:tyB "list" M (.c c)=true)(e:eY (.c c) [] M=Z (I z1,M1))(i1:atI ds (z1 % 9)=Z d1)(o:cE [.d d1] M1=Z (B true,M2))(t2:tyB "list" M2 (.c c)=true)(t:eY (.c c) [] M2=Z (I z2,M3))(i2:atI ds (z2 % 3)=Z d2)(v:cE [.d d2] M3=Z (B true,M4)):
 RM (GL s c al k g4 g5 g6 g7 g8<|Z (.d (.list ds))) M=Z (.nx (GL s c al k g4 g5 g6 g7 g8<|Z (.d (.list ds))),M4):=by
 have A:ixF (.d (.list ds)) (I (z1 % 9)) M1=Z (.d d1,M1):=by show(atI ds (z1 % 9)).bind _=_;rw[i1];rfl
 have C:ixF (.d (.list ds)) (I (z2 % 3)) M3=Z (.d d2,M3):=by show(atI ds (z2 % 3)).bind _=_;rw[i2];rfl
 have D:jA z1 9=true:=eE (by decide);have E:jA z2 3=true:=eE (by decide);simp![RM,bL,t0,e,D,A,o,t2,t,E,C,v]
def aFu{ds:T4}(t:ds.length=9)(hn:∀d∈ds,noB d=true)(hd:Dg M c (m+2)):∃M',RM (GL s c al k g4 g5 g6 g7 g8<|Z (.d (.list ds))) M=Z (.nx (GL s c al k g4 g5 g6 g7 g8<|Z (.d (.list ds))),M')/\Dg M' c m:=by
 obtain⟨z1,M1,v,e,_⟩:=hd.pop;obtain⟨A,i1,B⟩:=vW (ds:=ds) (k:=z1) (m:=9) (by decide) (by rw[t];rfl);obtain⟨o,C⟩:=xH (hn A B) M1;obtain⟨z2,M3,D,E,_⟩:=(e.app (L:=o)).pop;have F:=U1 z2 (show(3:Int)≠0 by decide);have O:=S0 z2 (show(0:Int)<3 by decide);obtain⟨G,i2,H⟩:=aGv (xs:=ds) (p:=z2 % 3) ⟨F,by omega⟩;obtain⟨L2,I⟩:=xH (hn G H) M3;exact⟨M3++L2,XH hd.ty v i1 C (e.app (L:=o)).ty D i2 I,E.app⟩
end
section
variable{s:CD}{c:Nat}{al k g4 g5 g6 g7 g8 g9:Te}
noncomputable abbrev aGk:SF:=(aS (bC (aK eQ<|aC (aD 1)<|aC (aD 4) aG)<|hName 5)
 (aS uK (aS uK (aS (bC (bY aG)<|hName 6) (aS FK (aS FO (aS (bC aIv<|hName 8)
 (aS (sIf (gOr (gB<|fOp (eqX true) (aK bJ<|aC (aD 5)<|aC (aD 8)<|aC (fC (.int 0)) aG)<|fC (.int 2))<|gB<|fOp (eqX true) (aK bJ<|aC (aD 5)<|aC (fC (.int 0))<|aC (aD 4) aG)<|fC (.int 2)) (bQ<|fC (.bool false)) bX)
 (aS (bC QG (hName 9)) RM)))))))))
def LR{us:Tv Ed}{M:Sto}(D:Two n x y us as)(ls:∀M,bB 6 [.d x] M=Z (.d y,M))(e:∀M,eqX false (.d y) (.d y) M=Z (B true,M))(hd:Dg M c (m+1)):∃M',uK (GL s c al k (Z<|I n) (Z (.d x)) g6 g7 g8 g9) M=Z (.nx (GL s c al k (Z<|I n) (Z (.d x)) g6 g7 g8 g9),M')/\Dg M' c m:=by
 by_cases h:1<(n:Int)
 .obtain⟨z,M1,o,t,_⟩:=hd.pop;obtain⟨L,r⟩:=aFC (K:=z) D (by omega) ls e M1;exact⟨M1++L,aKo (B9 h) hd.ty o r,t.app⟩
 .exact⟨M,aKR<|C4 h,hd.less<|A0c m⟩
def aDY{us:Tv Ed}{M:Sto}(D:Two n x y us as)(ls:∀M,bB 6 [.d x] M=Z (.d y,M))(hd:Dg M c m):∃M' o t,FK (GL s c al k (Z<|I n) (Z (.d x)) g6 g7 g8 g9) M=Z (.nx (GL s c al k (Z<|I n) (Z (.d x)) o t g8 g9),M')/\Dg M' c m:=by
 by_cases h:(n:Int)<10
 .obtain⟨L,v,A,e⟩:=aLw (s:=s) (c:=c) (al:=al) (k:=k) (g6:=g6) (g7:=g7) (g8:=g8) (g9:=g9) D (by omega) ls M;exact⟨M++L,v,A,e,hd.app⟩
 .exact⟨M,g6,g7,aKB<|C4 h,hd⟩
def aEo{us:Tv Ed}(D:Two n x y us as)(hd:Dg M c (m+(if n=40 then 3 else 0))):∃M',FO (GL s c al k (Z<|I n) (Z (.d x)) g6 g7 g8 g9) M=Z (.nx (GL s c al k (Z<|I n) (Z (.d x)) g6 g7 g8 g9),M')/\Dg M' c m:=by
 by_cases h:n=40
 .subst h;rw[A4 rfl]at hd;obtain⟨z1,M1,e,d1,_⟩:=hd.pop;obtain⟨z2,M2,o,d2,_⟩:=d1.pop;obtain⟨t,M3,v,d3,_⟩:=d2.pop;obtain⟨L,r⟩:=aJD (d1:=z1) (d2:=z2) (d3:=t) D M3;exact⟨M3++L,aKv (J:=((40:Nat):Int)) rfl hd.ty e d1.ty o d2.ty v r,d3.app⟩
 .rw[B0 h]at hd;exact⟨M,aKi<|beq_eq_false_iff_ne.mpr (by omega),hd⟩
def WT(R:0<n)(A:n<=40)(hd:Dg M c (n-1+(m+5+(if n=40 then 3 else 0)))):
 ∃M' B C E F G,aGk (GL s c al k (Z<|I n) g5 g6 g7 g8 g9) M=Z (.nx (GL s c al k (Z<|I n) B C E F G),M')/\Dg M' c m:=by
 obtain⟨q,hq,T⟩:=hd;obtain⟨H,rfl⟩:∃H,q=n-1+H:=⟨q-(n-1),by omega⟩;obtain⟨vs,M1,V,O,D,vl,am,W,ls⟩:=aIr R A T;have O:Dg M1 c (m+5+(if n=40 then 3 else 0)):=⟨H,by omega,O⟩;have t:=aKZ vs;obtain⟨M2,X,d2⟩:=LR (s:=s) (al:=al) (k:=k) (g6:=g6) (g7:=g7) (g8:=g8) (g9:=g9) (m:=m+4+(if n=40 then 3 else 0)) D ls t<|O.less (by omega);obtain⟨M3,r2,d3⟩:=LR (s:=s) (al:=al) (k:=k) (g6:=g6) (g7:=g7) (g8:=g8) (g9:=g9) (m:=m+3+(if n=40 then 3 else 0)) D ls t<|d2.less (by omega);obtain⟨M4,e,o,r3,d4⟩:=aDY (s:=s) (al:=al) (k:=k) (g6:=Z (.d (.tuple []))) (g7:=g7) (g8:=g8) (g9:=g9) D ls d3;obtain⟨M5,r4,d5⟩:=aEo (s:=s) (al:=al) (k:=k) (g6:=e) (g7:=o) (g8:=g8) (g9:=g9) (m:=m+3) D d4;obtain⟨d,v,r5,od,d6⟩:=aJc (s:=s) (c:=c) (al:=al) (k:=k) (J:=(n:Int)) (g5:=Z (.d (tr' vs))) (g6:=e) (g7:=o) (g8:=g8) (g9:=g9) (m:=m+2) d5;have dl:(((vs.map rD).length:Nat):Int)+1=(n:Int):=by rw[A3];omega
 obtain⟨P,f1⟩:=JI (x:=tr' vs) (y:=d) (z:=.int 0) v D.hx rfl (by rw[dl];exact aHn od (by omega));obtain⟨Q,f2⟩:=JI (x:=tr' vs) (y:=.int 0) (z:=.int n) (v++P) D.hx rfl (by rw[dl];exact aGS _);have r6:=aIL (s:=s) (c:=c) (al:=al) (k:=k) (g6:=e) (g7:=o) (g9:=g9) (J:=(n:Int)) f1 f2;have r7:=aDf (s:=s) (c:=c) (al:=al) (k:=k) (g4:=Z<|I n) (g6:=e) (g7:=o) (g8:=Z (.d d)) (g9:=g9) (vs:=vs) (by omega) (v++P++Q);obtain⟨M8,r8,d8⟩:=aFu (s:=s) (c:=c) (al:=al) (k:=k) (g4:=Z<|I n) (g5:=Z (.d (tr' vs))) (g6:=e) (g7:=o) (g8:=Z (.d d)) (m:=m) (ds:=EO vs) (M:=v++P++Q) rfl (aBy (n:=n) (by omega) am W) d6.app.app;refine⟨M8,Z (.d (tr' vs)),e,o,Z (.d d),Z (.d (.list (EO vs))),?_,d8⟩;unfold aGk;rw[aZ (aEn V),aZ X,aZ r2,aZ (show bC (bY aG) (hName 6) (GL s c al k (Z<|I n) (Z (.d (tr' vs))) g6 g7 g8 g9) M3=Z (.nx (GL s c al k (Z<|I n) (Z (.d (tr' vs))) (Z (.d (.tuple []))) g7 g8 g9),M3)from rfl),aZ r3,aZ r4,aZ<|iU r5];refine(aZ r6).trans ?_;refine(aZ<|iU r7).trans ?_;exact r8
def aDl{z:Int}{m:Nat}{M1:Sto}(ty:tyB "list" M (.c c)=true)(e:eY (.c c) [] M=Z (I z,M1))(o:atI [PyData.int 1,.int (2+z % 8),.int 40] K=Z (.int J)):bC (fOp ixF (iQ<|aC (fC (.int 1))<|aC (fOp cS (fC (.int 2))<|fOp fG (bL "list" eY (aD 1) aG)<|fC (.int 8))<|aC (fC (.int 40)) aG)<|aD 3) (hName 4) (GL s c al (Z<|I K) g4 g5 g6 g7 g8 g9) M=Z (.nx (GL s c al (Z<|I K) (Z<|I J) g5 g6 g7 g8 g9),M1):=by
 have mk:jA z 8=true:=eE (by decide);have t:∀(a b:Int)(M:Sto),cS (I a) (I b) M=Z (I (a+b),M):=fun _ _ _=>rfl;have s3:(3:Nat)<=sizeLine:=by decide
 have ix:∀M,ixF (.d (.list [.int 1,.int (2+z % 8),.int 40])) (I K) M=Z (I J,M):=fun M=>by
  show(atI [PyData.int 1,.int (2+z % 8),.int 40] K).bind _=_;rw[o];rfl
 simp![bL,ty,e,mk,t,s3,ix]
def DB{z:Int}{M1:Sto}(ty:tyB "list" M (.c c)=true)(D:eY (.c c) [] M=Z (I z,M1))(E:atI [PyData.int 1,.int (2+z % 8),.int 40] K=Z (.int n))(F:0<n)(e:n<=40)(hd:Dg M1 c (n-1+(m+5+(if n=40 then 3 else 0)))):
 ∃M' o t v A B C,AA (GL s c al (Z<|I K) g4 g5 g6 g7 g8 g9) M=Z (.nx (GL s c al (Z<|I K) o t v A B C),M')/\Dg M' c m:=by
 obtain⟨M',G,H,O,P,Q,h,d⟩:=WT (s:=s) (al:=al) (k:=Z<|I K) (g5:=g5) (g6:=g6) (g7:=g7) (g8:=g8) (g9:=g9) (M:=M1) F e hd;refine⟨M',Z<|I n,G,H,O,P,Q,?_,d⟩;unfold AA;rw[aZ (aDl (m:=m) ty D E)];exact h
end
theorem SX(M:Sto):∀(q:Nat)(lo:Int)(g:Te),∃ds:T4,ds.length=q/\lcF (hName 0) eN (bY<|aC (aD 0)<|aC (fOp cS (aD 0)<|fC (.int 1))<|aC IM aG) (eA lo q) [g] M=Z (ds.map .d,M)
 |0=>fun lo g=>⟨[],rfl,rfl⟩
 |q+1=>fun lo g=>by
  obtain⟨ds,e,k⟩:=SX M q (lo+1)<|Z<|I lo;refine⟨.tuple [.int lo,.int (lo+1),.tuple [.int 1,.int 1]]::ds,by rw[C9,e],?_⟩;rw[eZ];unfold lcF;rw[show hName 0 (I lo) [g] M=Z ([Z (I lo)],M)from rfl,A1];dsimp only;rw[show eN [Z (I lo)] M=Z (true,M)from rfl,A1];dsimp only;rw[A4 rfl,show(bY<|aC (aD 0)<|aC (fOp cS (aD 0)<|fC (.int 1))<|aC IM aG) [Z (I lo)] M=Z (.d (.tuple [.int lo,.int (lo+1),.tuple [.int 1,.int 1]]),M)from rfl,A1];dsimp only;rw[k];rfl
def aCz(M:Sto):∃ds:T4,ds.length=40/\HB γ M=Z (.d (.list ds),M):=by
 obtain⟨ds,e,k⟩:=SX M 40 0 Y;refine⟨ds,e,?_⟩;unfold HB;exact qT (show dA (aC (fC (.int 40)) aG) γ M=Z (eA 0 40,M)from rfl) (sz (by rw[pC];decide)) k<|sz (by omega)
def aAM{s:CD}{c:Nat}{M1 M2:Sto}(e:aU [.d jN,I 0,I 1] M=Z (.v (.d (.tuple [.tuple [.int 1,.int 2],wD [1]])),M1))(k:bA [.d jN] M1=Z (.v (.d (.tuple [.tuple [.int 0,.int 1,.tuple [.int 1,.int 2]]])),M2)):
 sIf (gOr (gB<|fOp (eqX true) (fX aU<|aC (aK xA<|aC (aD 2) aG)<|aC (fC (.int 0))<|aC (fC (.int 1)) aG) HI)<|gB<|fOp (eqX true) (fX bA<|aC (aK xA<|aC (aD 2) aG) aG)<|aK bO<|aC (aD 2) aG) (bQ<|fC (.bool false)) bX (GL s c (Z (.d jN)) Y Y Y Y Y Y Y) M=Z (.nx (GL s c (Z (.d jN)) Y Y Y Y Y Y Y),M2):=by
 have o:∀M,xA [.d jN] M=Z (.d jN,M):=fun _=>rfl;have t1:∀M,bO [.d jN] M=Z (.d (.tuple [.tuple [.int 0,.int 1,.tuple [.int 1,.int 2]]]),M):=fun _=>rfl;have t:∀M,eqX true (.d (.tuple [.tuple [.int 1,.int 2],wD [1]])) (.d (.tuple [(.tuple [(.int 1),(.int 2)]),(.tuple [(.int 1)])])) M=Z (B false,M):=fun _=>rfl;have A:∀M,eqX true (.d (.tuple [.tuple [.int 0,.int 1,.tuple [.int 1,.int 2]]])) (.d (.tuple [.tuple [.int 0,.int 1,.tuple [.int 1,.int 2]]])) M=Z (B false,M):=fun _=>rfl;simp![o,e,ZO,t,k,t1,A]
def main(o:T7)(hl:o.length<=63):∃M',F_law [.d (.list (o.map .int))] []=Z (.d (.bool true),M'):=by
 obtain⟨c,e,e0,d0⟩:=aGV o;let s:CD:=.d (.list (o.map .int));obtain⟨k,w1⟩:=aHm e;obtain⟨L2,w2⟩:=aDn (e++k);have a3:=aAM (s:=s) (c:=c) w1 w2;have Q:Dg (e++k++L2) c 90:=⟨90,A6 _,d0.app.app⟩;obtain⟨z0,N0,p0,f0,_⟩:=Q.pop;obtain⟨M1,t,v,A,B,C,D,u1,R⟩:=DB (s:=s) (al:=Z (.d jN)) (K:=0) (n:=1) (m:=84) (g4:=Y) (g5:=Y) (g6:=Y) (g7:=Y) (g8:=Y) (g9:=Y) Q.ty p0 rfl (by decide) (by decide)<|f0.less (by decide);obtain⟨z1,N1,p1,h1,_⟩:=R.pop;have r0:=U1 z1 (show(8:Int)≠0 by decide);have r1:=S0 z1 (show(0:Int)<8 by decide);obtain⟨n,n0,n9,en⟩:∃n:Nat,0<n/\n<=9/\2+z1 % 8=(n:Nat):=⟨(2+z1 % 8).toNat,by omega,by omega,by omega⟩;obtain⟨M2,E,F,G,H,O,P,u2,f2⟩:=DB (s:=s) (al:=Z (.d jN)) (K:=1) (n:=n) (m:=60) (g4:=t) (g5:=v) (g6:=A) (g7:=B) (g8:=C) (g9:=D) R.ty p1 (by show Z (PyData.int (2+z1 % 8))=_;rw[en]) n0 (by omega)<|h1.less (by rw[B0 (by omega)];omega);obtain⟨z2,N2,p2,h2,_⟩:=f2.pop;obtain⟨M3,T,V,W,X,v8,v9,u3,f3⟩:=DB (s:=s) (al:=Z (.d jN)) (K:=2) (n:=40) (m:=1) (g4:=E) (g5:=F) (g6:=G) (g7:=H) (g8:=O) (g9:=P) f2.ty p2 rfl (by decide) (by decide)<|h2.less (by decide);obtain⟨ds,dl,el⟩:=aCz (γ:=GL s c (Z (.d jN)) (Z<|I 2) T V W X v8 v9) M3
 have nb:noB (.tuple ds)=true:=by
  unfold noB;show(!decide (ds.length+1<=40) || _)=true;rw[dl];rfl
 obtain⟨L4,nt⟩:=xH nb M3;refine⟨M3++L4,nG rfl ?_⟩
 have a1:bC (aK nB<|aC (aD 0)<|aC (fC (.int 90)) aG) (hName 1) [Z s,Y,Y,Y,Y,Y,Y,Y,Y,Y] []=Z (.nx (GL s c Y Y Y Y Y Y Y Y),e):=by
  simp![s,e0]
 have a2:bC GX (hName 2) (GL s c Y Y Y Y Y Y Y Y) e=Z (.nx (GL s c (Z (.d jN)) Y Y Y Y Y Y Y),e):=iU<|aBx _ _
 have lp:kZ (hName 3) AA [I 0,I 1,I 2] (GL s c (Z (.d jN)) Y Y Y Y Y Y Y) (e++k++L2)=Z (.nx (GL s c (Z (.d jN)) (Z<|I 2) T V W X v8 v9),M3):=by
  rw[cC (show hName 3 (I 0) (GL s c (Z (.d jN)) Y Y Y Y Y Y Y) _=Z (GL s c (Z (.d jN)) (Z<|I 0) Y Y Y Y Y Y,e++k++L2)from rfl) u1];rw[cC (show hName 3 (I 1) (GL s c (Z (.d jN)) (Z<|I 0) t v A B C D) _=Z (GL s c (Z (.d jN)) (Z<|I 1) t v A B C D,M1)from rfl) u2];rw[cC (show hName 3 (I 2) (GL s c (Z (.d jN)) (Z<|I 1) E F G H O P) _=Z (GL s c (Z (.d jN)) (Z<|I 2) E F G H O P,M2)from rfl) u3];rfl
 have rg:dA (aC (fC (.int 3)) aG) (GL s c (Z (.d jN)) Y Y Y Y Y Y Y) (e++k++L2)=Z ([I 0,I 1,I 2],e++k++L2):=rfl;have sf:=iT rg lp;have tv:bO [.d (.list ds)] M3=Z (.d (.tuple ds),M3):=rfl;unfold aCp;show aS _ _ [Z s,Y,Y,Y,Y,Y,Y,Y,Y,Y] []=_;rw[aZ a1,aZ a2,aZ a3,aZ sf];simp![el,tv,nt]
end Q25
end
end
open PySem PySem.W PyProof.Rows
set_option maxRecDepth 100000 in
set_option maxHeartbeats 0 in
theorem PySem.Challenge.cw_cutstree_k25_between_holds : PySem.Challenge.rw_cutstree_k25_between.Holds := by
 refine Q25.k_top ?_
 k_fill
 refine L2.law_walk (l:=PySem.Challenge.rw_cutstree_k25_between) (F:=Q25.F_law) (k:=11) (p:="_law_script") (by decide +kernel) rfl rfl ⟨fun _=>rfl,by decide,by decide,rfl⟩ (fun w h a=>PySem.W.kIn_of a) ?T Q25.main (fun _=>by kernel_rfl)
 case T=>
  intro w mg h KX G;refine Q25.fn_law (K:=_) (mg:=mg) ?TT
  refine' Q25.txt_mk KX G ?v0 ?v1 ?v2 ?v3 ?v4 ?v5 ?v6 ?v7 ?v8 ?v9 ?v10 ?v11 ?v12 ?v13 ?v14 ?v15 ?v16 ?v17 ?v18 ?v19 ?v20 ?v21 ?v22 ?v23 ?v24 ?v25 ?v26 ?v27 ?v28 ?v29 ?v30 ?v31 ?v32 ?v33 ?v34 ?v35 ?v36 ?v37 ?v38 ?v39 ?v40 ?v41 ?v42 ?v43 ?v44 ?v45 ?v46 ?v47 ?v48 ?v49 ?v50 ?v51 ?v52 ?v53 ?v54 ?v55 ?v56 ?v57 ?v58 ?v59 ?v60 ?v61 ?v62 ?v63 ?v64 ?v65 ?v66 ?v67 ?v68 ?v69 ?v70 ?v71 ?v72
  (case v0|v1|v2|v3|v4|v5|v6|v7|v8|v9|v10|v11|v12|v14|v20|v21|v22|v24|v25|v26|v27|v28|v29|v30|v32|v33|v34|v35|v38=>k_is)
  (case v13|v15|v16|v17|v18|v19|v23|v31|v36|v37|v39=>kernel_rfl)
  (case v40|v41|v42|v43|v44|v45|v46|v47|v48|v49|v50|v51|v52|v53|v54|v55|v56|v57|v58|v59|v60|v61|v62|v63|v64|v65|v66|v67|v68|v69|v70|v71|v72=>exact L2.def_mk KX G (by k_is) (by k_is) (by k_is) (by k_is))