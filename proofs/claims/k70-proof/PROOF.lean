import PyProof.Rows.All
import Open.Boot
import OpenK.KLine
import OpenK.KWalk
import OpenK.KMore
import OpenK.KOwn
import OpenK.KRaise
import KE.KSortTup
import PyProof.EqAt
import PyProof.EqKinds
import PyProof.TupleCall
import PyProof.ReprLen
import KE.KIsAll
import PyProof.ExcArgsOwn
import PyProof.NsDelKeeps
import KE.KTryMore
import PyProof.InstStoreFacts
import PyProof.ExcInit
import PyProof.ExcClass2
import PyProof.Rows.ListMul
import PyProof.Draws
import PyProof.EnumMake
import PyProof.Rows.EnumRows
import KE.KItemsList
import PyProof.DictCompW
import PyProof.ListRange
import PyProof.ZipIter
import PyProof.AttrMissHeap
import KE.KDictOf
import KE.KUnpack
import PyProof.SetKind
import PyProof.Rows.SetFrom
import KE.KIntText
import KE.KMinKey
import KE.KLam
import PySem.Challenge.RW_cutstree_k70_no_lines
set_option Elab.async false
section
set_option maxRecDepth 100000
set_option maxHeartbeats 0
namespace Q70
open PySem PySem.W PyProof.Rows
noncomputable def qv:Program:={ PySem.Challenge.rw_cutstree_k70_no_lines.prog with main:={ PySem.Challenge.rw_cutstree_k70_no_lines.prog.main with body:=(((((((PySem.Challenge.rw_cutstree_k70_no_lines.prog.main.body.eraseIdx 42).eraseIdx 33).eraseIdx 25).eraseIdx 20).eraseIdx 12).eraseIdx 5).eraseIdx 0) } }
noncomputable abbrev ran(w:World)(os:OsState):Option Shared:=topFrom treeTable PySem.Challenge.rw_cutstree_k70_no_lines.prog w 6100 { heap:=boot_heap w.params,gens:=#[],drawn:=boot_drawn,toks:=boot_toks,os:=os }
noncomputable abbrev xt(s:Shared):Bool:=xlAt qv [] s&&recOk (RowW.records (OpenRow.toRowW PySem.Challenge.rw_cutstree_k70_no_lines.row)) s
theorem two{c d:Type}{o:Option Shared}{f:Shared->c}{g:Shared->d}{a:c}{b:d}(e:o.map f=some a)(h:o.map g=some b):o.map (fun s=>(f s,g s))=some (a,b):=by
 cases o with
 |none=>cases e
 |some s=>cases e;cases h;rfl
theorem pk{o p γ q r s t u ι:Type}{a j:o}{b k:p}{c c':γ}{d d':q}{e l:r}{f m:s}{g g':t}{h h':u}{i n:ι}(k1:a=j)(k2:b=k)(k3:c=c')(v:(d,e)=(d',l))(k5:(f,g)=(m,g'))(w:(h,i)=(h',n)):(a,b,c,d,e,f,g,h,i)=(j,k,c',d',l,m,g',h',n):=by
 cases k1;cases k2;cases k3;cases v;cases k5;cases w;rfl
theorem t1(w:World)(os:OsState):(ran w os).map (fun s=>seen (List.map (fun x=>x.name) (recsOf qv)) (ownsOf qv) [] { heap:=s.heap,drawn:=s.drawn,toks:=s.toks,os:=s.os })=some (expectedOf qv):=by kernel_rfl
theorem t2(w:World)(os:OsState):(ran w os).map (fun s=>s.heap.bltView)=some bltViewBooted:=by kernel_rfl
theorem t3(w:World)(os:OsState):(ran w os).map (fun s=>s.heap.keysOk (looseW qv []) (List.map (fun x=>x.name) (recsOf qv)) (List.map (fun x=>x.fst) (litsOf qv)) (List.map (fun x=>x.name) (clssOf qv (looseW qv [])))&&s.heap.accountedOkI (importedModules PySem.Challenge.rw_cutstree_k70_no_lines.prog.main.body)&&s.heap.isNs mainGlobals&&s.heap.isNs builtinsNs&&tablesOk qv s.heap&&xt s&&if true=true then s.gens.size==0 else !leftWithCleanup s.gens)=some true:=by kernel_rfl
theorem t4(w:World)(os:OsState):(ran w os).map (fun s=>(tabsOk qv s,pinSeenD qv (drecsOf qv) s))=some (true,pinGoodD (drecsOf qv)):=by kernel_rfl
theorem t5(w:World)(os:OsState):(ran w os).map (fun s=>(plainSeenE qv (looseW qv []) s,plainSeenD qv [] s))=some (plainGoodE qv (looseW qv []),plainGoodD qv []):=by kernel_rfl
theorem t6(w:World)(os:OsState):(ran w os).map (fun s=>(wideSeen qv s,clsSeenW qv [] s))=some (wideGood qv,clsGoodW qv []):=by kernel_rfl
theorem left_boot{l:Type}{Yf:Shared->l}{Ya:World->l}(m:opening PySem.Challenge.rw_cutstree_k70_no_lines.prog=plainProg (PySem.Challenge.rw_cutstree_k70_no_lines.prog).main.scope.names)(n:Nat.ble 600 6100=true)(o:∀s:Shared,fenceModules? PySem.Challenge.rw_cutstree_k70_no_lines.prog s=some s)(h:∀(w:World)(os:OsState),(ran w os).map Yf=some (Ya w)):LeftO PySem.Challenge.rw_cutstree_k70_no_lines.prog qv [] xt Yf Ya 6100 true:=by
 intro w;have b:=boot_open m n o w;unfold openEnds;cases e:fencedOpening treeTable PySem.Challenge.rw_cutstree_k70_no_lines.prog w 6100 with
 |none=>rw[e]at b;cases b
 |some s=>
  rw[e]at b;obtain⟨q,r,t,p,a⟩:=s;simp only[Option.map_some,Option.some.injEq,Prod.mk.injEq]at b;obtain⟨rfl,rfl,rfl,rfl⟩:=b;have d:=t4 w a;have f:=t5 w a;have g:=t6 w a;show(ran w a).map _=_;have c:=t1 w a;have i:=t2 w a;have j:=t3 w a;have k:=h w a;revert c i j d f g k;cases ran w a with
  |none=>intro c;cases c
  |some s=>
   intro d f g c i j k;have c:=Option.some.inj c;have i:=Option.some.inj i;have j:=Option.some.inj j;have d:=Option.some.inj d;have f:=Option.some.inj f;have g:=Option.some.inj g;have k:=Option.some.inj k;refine congrArg some (Prod.ext ?_ k);exact pk c i j d f g
end Q70
open PySem PySem.W PyProof.Rows
local macro_rules | `(tactic| o_head $H) => `(tactic| (
 refine holds_open (r:=PySem.Challenge.rw_cutstree_k70_no_lines.row) (q:=Q70.qv) (loose:=[]) (Xt:=Q70.xt) (XP:=XL Q70.qv []) (Yf:=Hook.obs $H) (Ya:=Hook.val $H) (YP:=Hook.says $H) (N:=6100) ?hl (Hook.of $H) (Hook.keeps $H) (fun s e=>xl_of s (Bool.and_eq_true_iff.mp e).1) XL.keeps (by rfl) (by rfl) (by rfl) (fun s e=>recFacts_of (Bool.and_eq_true_iff.mp e).2) (by rfl) (by first|assumption|decide +kernel) (by decide +kernel) ⟨rfl,rfl,rfl,rfl,rfl,by decide +kernel⟩ ?hw ?hc
 (case hl=>exact Q70.left_boot rfl rfl (fun _=>rfl) (fun w os=>by kernel_rfl))))
open_top Q70.k_top for PySem.Challenge.rw_cutstree_k70_no_lines
end
section
set_option linter.all false
set_option maxRecDepth 100000
set_option maxHeartbeats 4000000
noncomputable abbrev Fg:=PySem.W.Frag
noncomputable section
abbrev T0:=List (List Int)
abbrev T1:=PySem.Value->PySem.Shared->Prop
abbrev T2:=List (PySem.Addr×PySem.Obj)
abbrev T3:=List (Option Nat)
abbrev T5:=List PySem.PyData
abbrev T6:=List PySem.Value
abbrev T8:=List Int
abbrev T9:=List PySem.Expr
abbrev Ta:=List PySem.Stmt
abbrev Tb:=List PySem.Addr
abbrev Tc:=List PySem.Str
abbrev Te:=List Nat
abbrev Tg:=Option PySem.Value
abbrev Th:=Option Nat
abbrev Ti:=Option PySem.Addr
abbrev Tj:=Array PySem.Value
abbrev Tk:=Array Nat
abbrev Tl:=Option Int
abbrev Tn:=PySem.Str×PySem.NameKind
abbrev To:=PySem.Value->PySem.Value->PySem.Sem PySem.Value
abbrev Tq:=Nat->Nat->Bool
abbrev Tt:=PySem.Str->Option PySem.NameKind
abbrev Tu:=List (PySem.Str×PySem.Value)
abbrev Tw:=List
abbrev Tx:=Option
abbrev Tz:=PySem.Value
abbrev Ua:=PySem.PyData
abbrev Ub:=PySem.Shared
abbrev Uc:=PySem.Addr
abbrev Ud:=PySem.Expr
abbrev Ue:=PySem.Program
abbrev Uf:=PySem.Around
noncomputable abbrev Z{α:Type _}(x:α):=some x
noncomputable abbrev Y{α:Type _}:=@none α
abbrev A0:=@PySem.wpAny_bind
abbrev A1:=@Option.bind_some
abbrev A3:=@List.length_map
abbrev A4:=@if_pos
abbrev A5:=@PySem.Heap.get?_push_of_some
abbrev B0:=@if_neg
abbrev B1:=@PySem.wpAny_pure
abbrev B2:=@Bool.false_ne_true
abbrev B3:=@Nat.le_refl
abbrev B4:=@List.map_cons
abbrev B5:=@List.length_cons
abbrev C0:=@List.mem_cons_of_mem
abbrev C2:=@PySem.Heap.lt_size
abbrev C3:=@List.length_append
abbrev C4:=@List.mem_cons_self
abbrev C5:=@Nat.lt_of_lt_of_le
abbrev C6:=@List.mem_append_right
abbrev D0:=@PySem.Heap.get?_push_size
abbrev D1:=@Nat.ne_of_lt
abbrev D2:=@Bool.and_eq_true
abbrev D3:=@List.map_map
abbrev D4:=@Int.emod_lt_of_pos
abbrev D5:=@List.map_append
abbrev D6:=@Int.emod_nonneg
abbrev D7:=@List.getElem?_eq_getElem
abbrev D8:=@of_decide_eq_true
abbrev D9:=@decide_eq_true
abbrev E1:=@Option.some.inj
abbrev E2:=@List.lookup_cons
abbrev E3:=@decide_eq_false
abbrev E4:=@List.mem_append_left
abbrev E5:=@List.append_assoc
abbrev E6:=@List.getD_eq_getElem?_getD
abbrev E7:=@Nat.le_trans
abbrev E8:=@Nat.le_of_ble_eq_true
abbrev E9:=@PySem.W.mg_none_of
abbrev F0:=@PySem.mem_of_lookup
abbrev F6:=@PySem.wpAny_mono
abbrev F7:=@List.getElem?_set_self
abbrev F8:=@List.getElem?_map
abbrev F9:=@List.size_toArray
abbrev I0:=@List.length_singleton
abbrev J0:=@List.append_nil
abbrev J7:=@Array.getD_eq_getD_getElem?
abbrev J8:=@PySem.wpAny_newObj_type
abbrev J9:=@Array.getElem?_setIfInBounds_ne
abbrev L5:=@PySem.wpAny_holding
abbrev L6:=@PySem.Obj.data_mapFields
abbrev L7:=@PySem.W.mg_of
abbrev L8:=@PySem.wpAny_field
abbrev L9:=@PySem.Heap.get?_update_other
abbrev O0:=@List.eq_of_mem_replicate
abbrev O1:=@Ne.symm
abbrev O2:=@Int.eq_ofNat_of_zero_le
abbrev O3:=@PySem.Heap.get?_update_self
abbrev O4:=@Nat.zero_le
abbrev O5:=@of_decide_eq_false
abbrev O6:=@PySem.sizeLine_eq
abbrev O7:=@List.length_filter_le
abbrev O8:=@PySem.wpAny_truthy_bool
abbrev O9:=@List.getElem?_set_ne
abbrev S0:=@congrArg
abbrev S1:=@Nat.lt_succ_self
abbrev S2:=@PySem.PassesOwn.never
abbrev S3:=@Nat.lt_irrefl
abbrev S4:=@List.getElem?_append_right
abbrev S5:=@List.replicate_succ
abbrev S6:=@List.getElem?_append_left
abbrev S7:=@List.mem_of_mem_take
abbrev S8:=@List.flatten_cons
abbrev S9:=@PySem.wpAny_setField
abbrev U0:=@PySem.W.Looks.here
abbrev U1:=@Array.getElem?_toList
abbrev U2:=@PySem.wpAny_call_entry
abbrev U3:=@PySem.Obj.isFreed_of_fields
abbrev U4:=@PySem.StrLaws.glued_eq_join
abbrev U5:=@List.any_cons
abbrev U6:=@PyProof.Rows.slot_tuple_getitem
abbrev U7:=@List.map_congr_left
abbrev U8:=@List.length_take
abbrev U9:=@PySem.W.Looks.ld
abbrev Y0:=@PySem.wpAny_standAt
abbrev Y1:=@PySem.wpAny_callSpecial?_slot
abbrev Y2:=@Int.toNat_natCast
abbrev Y3:=@PySem.wpAny_Call_Name_kw
abbrev Y4:=@PySem.SeqAt.canLay_of_shaped
abbrev Y5:=@PySem.wpAny_passesOwn
abbrev Y6:=@PySem.W.looks_findIn
abbrev Y7:=@List.mem_of_mem_drop
abbrev Y8:=@List.getElem_mem
abbrev Y9:=@PySem.Obj.cls_mapFields
abbrev Z0:=@PySem.Heap.get?_none_of_le
abbrev Z1:=@PySem.F.slot_tuple_iterator_next
abbrev Z2:=@Bool.eq_iff_iff
abbrev Z3:=@List.length_set
abbrev Z4:=@PySem.codeAny_mono
abbrev Z5:=@PySem.W.callWith_K
abbrev Z6:=@List.length_zipIdx
abbrev Z7:=@List.filter_cons_of_pos
abbrev Z8:=@List.filter_cons_of_neg
abbrev Z9:=@Nat.ne_of_gt
abbrev A0a:=@PySem.F.plainAttrs_str
abbrev A0b:=@PySem.F.slot_str_split
abbrev A0c:=@PySem.wpAny_execs_nil
abbrev A0d:=@PySem.wpAny_loadPart'
abbrev A0e:=@List.getElem?_eq_none
abbrev A0f:=@List.length_drop
abbrev A0g:=@beq_self_eq_true
abbrev A0h:=@List.zipIdx_cons
abbrev A0i:=@PySem.Heap.size_push
abbrev A0j:=@Nat.le_succ
abbrev A0k:=@List.mem_of_getElem?
abbrev A0l:=@List.nil_append
abbrev A0m:=@List.filterMap_cons
abbrev A0n:=@Array.length_toList
abbrev A0o:=@List.mem_map_of_mem
abbrev A0p:=@PyProof.Rows.callWith_type1
abbrev A0q:=@PySem.typeIs_str
abbrev A0r:=@Nat.lt_trans
abbrev A0s:=@PySem.PyData.eqvAll.eq_def
abbrev A0t:=@PySem.wpAny_typeNameOfWhole_keyiter
abbrev A0u:=@PySem.Heap.SameBut.update
abbrev A0v:=@PySem.wpAny_loadPart
abbrev A0w:=@PySem.wpAny_call
abbrev A0x:=@PySem.call_meets
abbrev A0y:=@PySem.wpAny_pyIter_tuple
namespace L2
variable{H:Hp}{s:Ub}{A:Uf}{σ:St}{K:Fg}{pos:Pos}
open PySem PySem.Spec PyProof.Rows
noncomputable abbrev Key:=Sum Int Str
noncomputable def CU:Key->Tz->Bool
 |.inl k,v=>Value.isInt k v
 |.inr x,v=>Value.isStrOf x v
noncomputable def aMI(w:World):Key->Int
 |.inl k=>hashInt k
 |.inr x=>hashStr w x
def dI:∀{k:Key}{v:Tz},CU k v=true->(∃i t,k=Sum.inl i/\v=Value.int i t)\/(∃x t,k=Sum.inr x/\v=Value.str x t)
 |.inl i,v=>fun h=>by
  obtain⟨t,e⟩:=Value.isInt_shape h;exact .inl ⟨i,t,rfl,e⟩
 |.inr x,v=>fun h=>by
  obtain⟨t,e⟩:=Value.isStrOf_shape h;exact .inr ⟨x,t,rfl,e⟩
def WX(i:Int)(t:Tok):CU (.inl i) (.int i t)=true:=by simp[CU,Value.isInt]
def ZJ(x:Str)(t:Tok):CU (.inr x) (.str x t)=true:=by simp[CU,Value.isStrOf]
def aJY(a b:Int):decide ((Sum.inl a:Key)=Sum.inl b)=(a==b):=by grind
def aKf(a b:Str):decide ((Sum.inr a:Key)=Sum.inr b)=decide (a=b):=by grind
def aIj(a:Int)(b:Str):decide ((Sum.inl a:Key)=Sum.inr b)=false:=E3 fun q=>nomatch q
def aIo(a:Str)(b:Int):decide ((Sum.inr a:Key)=Sum.inl b)=false:=E3 fun q=>nomatch q
def eG(prog:Ue)(w:World):PySem.KeyKind prog w Key where
 is:=CU
 hash:=aMI w
 inj:=fun v a b ha hb=>by
  rcases dI ha with⟨i,t,rfl,rfl⟩|⟨x,t,rfl,rfl⟩
  .rcases dI hb with⟨j,u,rfl,e⟩|⟨y,u,rfl,e⟩
   .injection e with e1 _;rw[e1]
   .exact nomatch e
  .rcases dI hb with⟨j,u,rfl,e⟩|⟨y,u,rfl,e⟩
   .exact nomatch e
   .injection e with e1 _;rw[e1]
 byValue:=fun k v h=>by
  rcases dI h with⟨i,t,rfl,rfl⟩|⟨x,t,rfl,rfl⟩<;>rfl
 pyHash:=fun hv h=>by
  rcases dI hv with⟨i,t,rfl,rfl⟩|⟨x,t,rfl,rfl⟩
  .exact wpAny_pyHash_int h
  .exact wpAny_pyHash_str h
 eqBool:=fun hu hv h=>by
  rcases dI hu with⟨i,t,rfl,rfl⟩|⟨x,t,rfl,rfl⟩
  .rcases dI hv with⟨j,u,rfl,rfl⟩|⟨y,u,rfl,rfl⟩
   .rw[aJY]at h;exact wpAny_eqBool_int h
   .rw[aIj]at h;exact SeqAt.EqAt.int_str i t y u _ _ _ _ h
  .rcases dI hv with⟨j,u,rfl,rfl⟩|⟨y,u,rfl,rfl⟩
   .rw[aIo]at h;exact SeqAt.EqAt.str_int x t j u _ _ _ _ h
   .rw[aKf]at h;exact wpAny_eqBool_str h
 «strs»:=fun k x t v h=>by
  rcases dI h with⟨i,u,rfl,e⟩|⟨y,u,rfl,e⟩
  .exact nomatch e
  .injection e with e1 _
   subst e1;cases v<;>rfl
def KW(prog:Ue)(w:World)(i:Int)(t:Tok):(eG prog w).is (.inl i) (.int i t)=true:=WX i t
def MP(prog:Ue)(w:World)(x:Str)(t:Tok):(eG prog w).is (.inr x) (.str x t)=true:=ZJ x t
inductive V where
 |non|bl (b:Bool)|int (i:Int)|str (x:Str)|byt (b:Array UInt8)|flt (b:UInt64)|ref (a:Uc)|ty (n:String)
 deriving DecidableEq
abbrev Td:=Tw V
def RelV:V->Tz->Prop
 |.non,u=>u=Value.none
 |.bl b,u=>u=Value.bool b
 |.int i,u=>∃t,u=Value.int i t
 |.str x,u=>∃t,u=Value.str x t
 |.byt b,u=>∃t,u=Value.bytes b t
 |.flt b,u=>∃t,u=Value.float b t
 |.ref a,u=>u=Value.ref a
 |.ty n,u=>u=Value.type n
abbrev bH:Td->T6->Prop:=Paired RelV
def bH.length(r:bH xs us):xs.length=us.length:=Paired.length r
theorem bH.get:∀{xs:Td}{us:T6}{i:Nat}{x:V},bH xs us->xs[i]?=Z x->∃u,us[i]?=Z u/\RelV x u
 |_,_,_,_,.nil=>fun e=>by simp at e
 |_,_,0,_,.cons r _=>fun e=>by simp at e;subst e;exact⟨_,rfl,r⟩
 |_,_,i+1,x,.cons _ t=>fun e=>by
  obtain⟨u,a,b⟩:=bH.get t (by simpa using e);exact⟨u,by simpa using a,b⟩
theorem bH.set(r:RelV x u):∀{xs:Td}{us:T6}(i:Nat),bH xs us->bH (xs.set i x) (us.set i u)
 |_,_,_,.nil=>.nil
 |_,_,0,.cons _ t=>.cons r t
 |_,_,i+1,.cons q t=>.cons q (bH.set r i t)
theorem bH.append:∀{xs ys:Td}{us ws:T6},bH xs us->bH ys ws->bH (xs++ys) (us++ws)
 |_,_,_,_,.nil=>fun s=>s
 |_,_,_,_,.cons r t=>fun s=>.cons r (bH.append t s)
theorem bH.take:∀{xs:Td}{us:T6}(n:Nat),bH xs us->bH (xs.take n) (us.take n)
 |_,_,0,_=>.nil
 |_,_,_+1,.nil=>.nil
 |_,_,n+1,.cons r t=>.cons r (bH.take n t)
theorem bH.drop:∀{xs:Td}{us:T6}(n:Nat),bH xs us->bH (xs.drop n) (us.drop n)
 |_,_,0,r=>r
 |_,_,_+1,.nil=>.nil
 |_,_,n+1,.cons _ t=>bH.drop n t
def xS:Tx V->Tg->Prop
 |some v,some u=>RelV v u
 |none,none=>True
 |_,_=>False
def KV{a:Type}:Tw (a×V)->Tw (a×Tz)->Prop:=Paired fun(p:a×V)(q:a×Tz)=>p.1=q.1/\RelV p.2 q.2
noncomputable def kV:Key->V
 |.inl i=>.int i
 |.inr x=>.str x
inductive HO where
 |lst (xs:Td)
 |tup (xs:Td)
 |dK (kvs:Tw (Key×V))|dT (kvs:Tw (Tw Key×V))
 |set (S:Int->Bool) (n:Nat)
 |ins (C dx:Uc) (fs:Tw (Str×V))
 |own (x:Uc)
 |xd (fs:Tw (Str×V))
 |met (f x:Uc)
 |rng (lo hi:Int)
 |frz (o:Obj) (u:HO)
 |tbl (ps:Tj)
 |ext (φ:Heap->Prop)
noncomputable abbrev Hp:=Uc->Tx HO
def upd(H:Hp)(a:Uc)(o:HO):Hp:=fun b=>if b=a then Z o else H b
def aX:upd H a o a=Z o:=by unfold upd;rw[A4 rfl]
def aK{a b:Uc}(h:b≠a):upd H a o b=H b:=by unfold upd;rw[B0 h]
def nG{o u:HO}(h:H a=Z o)(h':H b=Z u)(d:o≠u):a≠b:=by grind
def aO{o:HO}(h:H a=Z o)(h':H b=Y):a≠b:=by
 intro e;subst e;rw[h]at h';cases h'
section
variable(P:Ue)(w:World)
def eJ(H:Hp)(h:Heap)(a:Uc):HO->Prop
 |.lst xs=>xs.length<=sizeLine/\∃(its:T6)(n:Nat),bH xs its/\h.get? a=Z { cls:=.type "list",data:=.seq its.toArray n }
 |.tup xs=>xs.length<=sizeLine/\∃its:T6,bH xs its/\IsTup h a its.toArray
 |.dK kvs=>kvs.length<=sizeLine/\(a==sysModules)=false/\∃vs,KV kvs vs/\h.DictOf (eG P w) a vs
 |.dT kvs=>kvs.length<=sizeLine/\(a==sysModules)=false/\∃xs:Tw (Tw Key×Uc×Tz),
  Paired (fun(p:Tw Key×V)(q:Tw Key×Uc×Tz)=>p.1=q.1/\H q.2.1=Z (.tup (p.1.map kV))/\RelV p.2 q.2.2) kvs xs /\
  ∃o es ep,h.get? a=Z o/\o.ExactDict/\o.data=.dict es ep/\es.toList=xs.map (entryOfKey<|tupleKind<|eG P w)/\(xs.map (·.1)).Nodup
 |.set S n=>h.SetOf (intKind P w) a S n
 |.ins C dx fs=>H dx=Z (.own a)/\fs.length<=1000/\dx≠a/\h.get? a=Z (W.instObj C dx) /\
  ∃mA,h.Ns1 dx mA/\(∀f,xS (fs.lookup f)<|mA f)/\PySem.Within mA (fs.map (·.1))
 |.own _=>∃o,h.get? a=Z o
 |.xd fs=>∃mA,h.Ns1 a mA/\∀f,xS (fs.lookup f)<|mA f
 |.rng lo hi=>∃t u v,h.get? a=Z { cls:=.type "range",data:=.fields #[.int lo t,.int hi u,.int 1 v] }
 |.frz o u=>h.get? a=Z o/\eJ H h a u
 |.tbl ps=>h.get? a=Z { cls:=.none,data:=.fields ps }
 |.met f x=>h.get? a=Z (W.methodObj (.ref f) (.ref x))
 |.ext b=>b h/\(∃o,h.get? a=Z o)/\∀c d:Heap,b c->(∀o,c.get? a=Z o->d.get? a=Z o)->b d
def HOk(H:Hp)(h:Heap):Prop:=∀a o,H a=Z o->eJ P w H h a o
end
section
variable{P:Ue}{w:World}{H H':Hp}{h h':Heap}{a:Uc}{o:HO}
def eJ.lt(x:eJ P w H h a o):a<h.objs.size:=by
 cases o with
 |lst xs=>obtain⟨_,_,_,_,e⟩:=x;exact C2 e
 |tup xs=>obtain⟨_,_,_,p⟩:=x;exact p.lt
 |dK kvs=>obtain⟨_,_,_,_,o,_,_,e,_⟩:=x;exact C2 e
 |dT kvs=>obtain⟨_,_,_,_,o,_,_,e,_⟩:=x;exact C2 e
 |set S n=>obtain⟨o,_,_,_,e,_⟩:=x;exact C2 e
 |ins C dx fs=>obtain⟨_,_,_,e,_⟩:=x;exact C2 e
 |own y=>obtain⟨_,e⟩:=x;exact C2 e
 |xd fs=>obtain⟨_,⟨_,_,_,e,_⟩,_⟩:=x;exact C2 e
 |rng lo hi=>obtain⟨_,_,_,e⟩:=x;exact C2 e
 |frz ob u=>obtain⟨e,_⟩:=x;exact C2 e
 |tbl ps=>exact C2 x
 |met f y=>exact C2 x
 |ext b=>obtain⟨_,⟨_,e⟩,_⟩:=x;exact C2 e
theorem Paired.mapP{c d:Type}{F G:c->d->Prop}:∀{l₁:Tw c}{l₂:Tw d},Paired F l₁ l₂->(∀a b,F a b->G a b)->Paired G l₁ l₂
 |_,_,.nil=>fun _=>.nil
 |_,_,.cons r t=>fun f=>.cons (f _ _ r) (Paired.mapP t f)
def eJ.stay(x:eJ P w H h a o)(k:∀b u,(b=a\/H b=Z (.own a))->h.get? b=Z u->h'.get? b=Z u)
 (g:∀b,H b=Z (.own a)->H' b=Z (.own a)) (ht:∀b xs,H b=Z (.tup xs)->H' b=Z (.tup xs)):eJ P w H' h' a o:=by
 induction o with
 |lst xs=>obtain⟨z,its,n,r,e⟩:=x;exact⟨z,its,n,r,k _ _ (.inl rfl) e⟩
 |tup xs=>obtain⟨z,its,r,ob,e,c⟩:=x;exact⟨z,its,r,ob,k _ _ (.inl rfl) e,c⟩
 |dK kvs=>obtain⟨z,y,vs,r,ob,es,ep,e,c⟩:=x;exact⟨z,y,vs,r,ob,es,ep,k _ _ (.inl rfl) e,c⟩
 |dT kvs=>
  obtain⟨z,y,xs,r,ob,es,ep,e,c⟩:=x;exact⟨z,y,xs,Paired.mapP r fun p q z=>⟨z.1,ht _ _ z.2.1,z.2.2⟩,ob,es,ep,k _ _ (.inl rfl) e,c⟩
 |set S n=>obtain⟨ob,es,ep,t,e,c⟩:=x;exact⟨ob,es,ep,t,k _ _ (.inl rfl) e,c⟩
 |ins C dx fs=>
  obtain⟨d,z,ne,e,mA,⟨od,es,ep,i,c⟩,r⟩:=x;exact⟨g _ d,z,ne,k _ _ (.inl rfl) e,mA,⟨od,es,ep,k _ _ (.inr d) i,c⟩,r⟩
 |own y=>obtain⟨ob,e⟩:=x;exact⟨ob,k _ _ (.inl rfl) e⟩
 |xd fs=>obtain⟨mA,⟨od,es,ep,e,c⟩,r⟩:=x;exact⟨mA,⟨od,es,ep,k _ _ (.inl rfl) e,c⟩,r⟩
 |rng lo hi=>obtain⟨t,u,v,e⟩:=x;exact⟨t,u,v,k _ _ (.inl rfl) e⟩
 |frz ob u ih=>obtain⟨e,q⟩:=x;exact⟨k _ _ (.inl rfl) e,ih q⟩
 |tbl ps=>
  have e:=x;exact k a _ (.inl rfl) e
 |met f y=>
  have e:=x;exact k a _ (.inl rfl) e
 |ext j=>obtain⟨p,⟨o,e⟩,st⟩:=x;exact⟨st _ _ p fun o q=>k _ _ (.inl rfl) q,⟨o,k _ _ (.inl rfl) e⟩,st⟩
def HOk.lt(x:HOk P w H h)(e:H a=Z o):a<h.objs.size:=(x a o e).lt
def HOk.fresh(x:HOk P w H h)(e:h.objs.size<=a):H a=Y:=by
 cases q:H a with
 |none=>rfl
 |some u=>exact absurd (C5 (x.lt q) e)<|S3 _
def HOk.kept(x:HOk P w H h)(k:∀b u,h.get? b=Z u->h'.get? b=Z u):HOk P w H h':=fun a o e=>
 (x a o e).stay (fun b u _ q=>k b u q) (fun _ q=>q) fun _ _ q=>q
def HOk.laid(x:HOk P w H h)(k:∀b u,h.get? b=Z u->h'.get? b=Z u)(hp:h.objs.size<=a)(new:eJ P w (upd H a o) h' a o):HOk P w (upd H a o) h':=fun b u e=>by
 have hn:=x.fresh hp;by_cases d:b=a
 .subst d;rw[aX]at e;cases e;exact new
 .rw[aK d]at e;exact(x b u e).stay (fun c v _ q=>k c v q) (fun c q=>by rw[aK (aO q hn)];exact q) fun c xs q=>by rw[aK (aO q hn)];exact q
end
def Rd(H:Hp)(a:Uc)(u:HO):Prop:=H a=Z u\/∃o,H a=Z (.frz o u)
def Rd.ok{P:Ue}(r:Rd H a u)(x:HOk P w H h):eJ P w H h a u:=by
 rcases r with r|⟨o,r⟩
 .exact x a u r
 .obtain⟨_,q⟩:=x a _ r;exact q
def Mut:Tx HO->Prop
 |some (.lst _)=>True
 |some (.dK _)=>True
 |some (.dT _)=>True
 |some (.set _ _)=>True
 |some (.ins _ _ _)=>True
 |some (.ext _)=>True
 |_=>False
section
variable{P:Ue}{w:World}{H:Hp}{h h':Heap}{x e:Uc}{o':HO}
def HOk.write(ok:HOk P w H h)(g:Mut (H x))(l:e=x\/H e=Z (.own x))(k:∀b u,b≠e->h.get? b=Z u->h'.get? b=Z u)(j:∃u,h'.get? e=Z u)
 (new:eJ P w (upd H x o') h' x o'):HOk P w (upd H x o') h':=fun b u q=>by
 have d:∀c y,H c=Z (.own y)->c≠x:=fun c y r z=>by subst z;rw[r]at g;exact g
 have f:∀c xs,H c=Z (.tup xs)->c≠x:=fun c xs r z=>by subst z;rw[r]at g;exact g
 by_cases i:b=x
 .subst i;rw[aX]at q;cases q;exact new
 .rw[aK i]at q;by_cases a:b=e
  .have m:H b=Z (.own x):=by
    rcases l with z|z
    .exact absurd (a.trans z) i
    .rw[a];exact z
   rw[q]at m;cases m;obtain⟨v,n⟩:=j;exact⟨v,by rw[a];exact n⟩
  .refine(ok b u q).stay (fun c v hc r=>k c v ?_ r) (fun c r=>by rw[aK (d c b r)];exact r) fun c xs r=>by rw[aK (f c xs r)];exact r
   rcases hc with rfl|hc
   .exact a
   .rintro rfl;rcases l with z|z
    .exact d c b hc z
    .rw[hc]at z;cases z;exact i rfl
end
structure Un(fs ex:Tb)(H H':Hp)(h h':Heap):Prop where
 keep:∀b o,h.get? b=Z o->H b=Y->b∉fs->b∉ex->h'.get? b=Z o
 slot:∀b o,h.get? b=Z o->H b=Y->b∈fs->b∉ex->∃sl,h'.get? b=Z { o with slots:=sl }
 free:∀b o,h.get? b=Z o->H b=Y->b∉ex->H' b=Y
 there:∀b o,h.get? b=Z o->b∉ex->∃o',h'.get? b=Z o'
 tups:∀b xs,H b=Z (.tup xs)->H' b=Z (.tup xs)
 frzs:∀b o u,H b=Z (.frz o u)->H' b=Z (.frz o u)
 tbls:∀b ps,H b=Z (.tbl ps)->∃more,H' b=Z (.tbl (ps++more))
section
variable{fs fs' ex ex':Tb}{H H1 H2:Hp}{h h1 h2 h':Heap}{a x e:Uc}{o:HO}
def Un.any(u:Un fs ex H H1 h h1){b:Uc}{ob:Obj}(q:h.get? b=Z ob)(n:H b=Y)(c:b∉ex):∃sl,h1.get? b=Z { ob with slots:=sl }:=by
 by_cases d:b∈fs
 .exact u.slot b ob q n d c
 .exact⟨ob.slots,u.keep b ob q n d c⟩
def Un.kept(k:∀b u,h.get? b=Z u->h'.get? b=Z u):Un fs ex H H h h':=
 ⟨fun b ob q _ _ _=>k b ob q,fun b ob q _ _ _=>⟨ob.slots,k b ob q⟩,fun _ _ _ n _=>n,fun b ob q _=>⟨ob,k b ob q⟩,fun _ _ q=>q,fun _ _ _ q=>q,fun _ ps q=>⟨#[],by rw[q];simp⟩⟩
def Un.refl:Un fs ex H H h h:=Un.kept fun _ _ q=>q
def Un.laid(k:∀b u,h.get? b=Z u->h'.get? b=Z u)(hp:h.objs.size<=a)(hn:H a=Y):Un fs ex H (upd H a o) h h' where
 keep:=fun b u q _ _ _=>k b u q
 slot:=fun b u q _ _ _=>⟨u.slots,k b u q⟩
 free:=fun b u q n _=>by rw[aK (D1<|C5 (C2 q) hp)];exact n
 there:=fun b u q _=>⟨u,k b u q⟩
 tups:=fun b xs q=>by rw[aK (aO q hn)];exact q
 frzs:=fun b u xs q=>by rw[aK (aO q hn)];exact q
 tbls:=fun b ps q=>⟨#[],by rw[aK (aO q hn),q];simp⟩
def Un.write(d:Mut (H x))(j:e=x\/H e=Z (.own x))(k:∀b u,b≠e->h.get? b=Z u->h'.get? b=Z u)(f:∃u,h'.get? e=Z u):Un fs ex H (upd H x o) h h':=by
 have g:∀b,H b=Y->b≠x:=fun b n z=>by subst z;rw[n]at d;exact d
 have i:∀b,H b=Y->b≠e:=fun b n z=>by
  subst z;rcases j with r|r
  .exact g b n r
  .rw[n]at r;cases r
 have hm:∀b u,H b=Z u->¬Mut (Z u)->b≠x:=fun b u q nm z=>by subst z;rw[q]at d;exact nm d
 refine⟨fun b u q n _ _=>k b u (i b n) q,fun b u q n _ _=>⟨u.slots,k b u (i b n) q⟩,fun b u q n _=>by rw[aK (g b n)];exact n,fun b u q _=>?_,
  fun b xs q=>by rw[aK (hm b _ q fun z=>z)];exact q,fun b u xs q=>by rw[aK (hm b _ q fun z=>z)];exact q,fun b ps q=>⟨#[],by rw[aK (hm b _ q fun z=>z),q];simp⟩⟩
 by_cases c:b=e
 .subst c;exact f
 .exact⟨u,k b u c q⟩
end
noncomputable def trk(h:Heap)(H:Hp):Tb:=(List.range h.objs.size).filter fun a=>(H a).isSome
def NJ(h:Heap)(H:Hp):Heap:=W.hideAll h<|trk h H
def WK(h:Heap)(H:Hp):(NJ h H).objs.size=h.objs.size:=W.hideAll_size _ _
def aBO{h:Heap}{b:Uc}{o:Obj}(e:h.get? b=Z o)(n:H b=Y):(NJ h H).get? b=Z o:=
 W.hideAll_get _ e fun hm=>by
  have q:=(List.mem_filter.mp hm).2;rw[n]at q;simp at q
def aGz{b:Uc}{o:Obj}(e:(NJ h H).get? b=Z o):h.get? b=Z o/\H b=Y:=by
 have a:=W.of_hideAll (trk h H) e;refine⟨a,?_⟩;cases q:H b with
 |none=>rfl
 |some x=>
  have hm:b∈trk h H:=List.mem_filter.mpr ⟨List.mem_range.mpr<|C2 a,by simp[q]⟩;have z:(NJ h H).get? b=Y:=W.hideAll_none (trk h H) hm;rw[z]at e;cases e
def oX(g h:Heap)(L:Uc):T2:=(List.range h.objs.size).filterMap fun a=>if a=L\/(g.get? a).isSome=true then Y else(h.get? a).map fun o=>(a,o)
def qB{g h:Heap}{L a:Uc}{o:Obj}(c:a≠L)(d:g.get? a=Y)(b:h.get? a=Z o):(a,o)∈oX g h L:=
 List.mem_filterMap.mpr ⟨a,List.mem_range.mpr<|C2 b,by simp[c,d,b]⟩
def AV{p:Uc×Obj}(hp:p∈oX g h L):p.1≠L/\g.get? p.1=Y/\h.get? p.1=Z p.2:=by
 obtain⟨b,_,e⟩:=List.mem_filterMap.mp hp;split at e
 .cases e
 .rename_i hn;cases q:h.get? b with
  |none=>rw[q]at e;simp at e
  |some u=>
   rw[q]at e;simp only[Option.map_some,Option.some.injEq]at e;subst e;refine⟨fun z=>hn (.inl z),?_,q⟩;cases r:g.get? b with
   |none=>rfl
   |some v=>exact(hn (.inr (by simp[r]))).elim
def rest(g h:Heap)(L d:Uc):T2:=(oX g h L).filter fun p=>decide (p.1≠d)
def NX:News g L h (oX g h L):=fun p d=>let⟨a,b,c⟩:=AV d;⟨c,a,b⟩
structure Mod(K:Fg)(mg:Str->Tg)(base:Heap):Prop where
 kin:K.In base
 glob:base.Ns mainGlobals mg
 blt:∃mb,base.Ns builtinsNs mb/\∀x:Str,x≠"__name__"->mb x=bootBuiltins x
 nolimit:base.NoLimit
 sysm:∃o es ep,base.get? sysModules=Z o/\o.data=.dict es ep
 bmn:∃bm ob,mg "__builtins__"=Z (.ref bm)/\bm≠builtinsNs/\base.get? bm=Z ob/\ob.cls=.type "module"/\ob.dict=Z builtinsNs/\ob.data=.plain
structure Cx where
 prog:Ue
 w:World
 K:Fg
 mg:Str->Tg
 base:Heap
 A:Uf
 N:Tc
 s₀:Ub
 H₀:Hp
 env:Env
 outer:Tw Env
 stack:Tw Env
 ex:Tb
 fn:Str->Bool
 calm:Bool
 pn:T2
 xe:T1
noncomputable def frs(l:Tw Env):Tb:=l.filterMap (·.frame)
abbrev Cx.fs(X:Cx):List Addr:=frs X.outer
def Vis(sc:Scope)(x:Str):Prop:=sc.names.lookup x=Z .local\/sc.names.lookup x=Z .cell\/sc.names.lookup x=Z .free
def Loc(sc:Scope)(x:Str):Prop:=sc.names.lookup x=Z .local\/sc.names.lookup x=Z .cell
def Look(env:Env)(h:Heap)(m:Str->Tg)(x:Str)(u:Tz):Prop:=
 (env.kindOf x=Z .local/\m x=Z u)\/((env.kindOf x=Z .cell\/env.kindOf x=Z .free)/\∃c,env.cells.lookup x=Z c/\h.IsCell c (Z u))
structure Cx.Ok(X:Cx):Prop where
 mod:Mod X.K X.mg X.base
 kind:X.env.scope.kind=.function
 glob:X.env.globals=mainGlobals
 blt:X.env.builtins=builtinsNs
 above:X.s₀.heap.objs.size<=X.env.locals
 inj:∀x y c,X.env.cells.lookup x=Z c->X.env.cells.lookup y=Z c->x=y
 has:∀x,(X.env.kindOf x=Z .cell\/X.env.kindOf x=Z .free)->∃c,X.env.cells.lookup x=Z c
 cab:∀x c,X.fn x=true->X.env.cells.lookup x=Z c->X.s₀.heap.objs.size<=c
 hd:X.calm=true->X.A.handled=Y
 frames:X.A.frames=Z X.stack
 stk:X.stack=X.outer\/(X.stack=X.env::X.outer/\X.env.frame=Z X.env.locals)
 exf:∀b∈X.ex,b≠X.env.locals/\∀x c,X.env.cells.lookup x=Z c->c≠b
 bs:∀b o,X.base.get? b=Z o->X.s₀.heap.get? b=Z o/\X.H₀ b=Y
 bsz:X.base.objs.size<=X.s₀.heap.objs.size
 noex:∀b o,X.base.get? b=Z o->b∉X.ex
 exfs:∀b∈X.ex,b∉X.fs
 funs:X.s₀.heap.FunFrames X.base X.outer
 frf:∀b∈X.fs,X.H₀ b=Y
structure Inv(X:Cx)(pins:T2)(σ:Tw (Tx V))(H:Hp)(s:Ub):Prop where
 ok:X.Ok
 os:s.os=X.s₀.os
 bare:AllBare s.gens
 base:Un X.fs X.ex X.H₀ H X.s₀.heap s.heap
 loc:∃m,s.heap.Ns X.env.locals m/\∀(i:Nat)(x:Str)(v:V),X.N[i]?=Z x->σ[i]?=Z (Z v)->Vis X.env.scope x->∃u,RelV v u/\Look X.env s.heap m x u
 cell:∀x c,X.env.cells.lookup x=Z c->∃v,s.heap.IsCell c v
 free:H X.env.locals=Y
 freeC:∀x c,X.env.cells.lookup x=Z c->H c=Y
 pin:∀p∈X.pn++pins,s.heap.get? p.1=Z p.2/\H p.1=Y/\p.1≠X.env.locals/\p.1∉X.fs/\∀v,p.2.data≠.cell v
 hok:HOk X.prog X.w H s.heap
 len:σ.length=X.N.length
section
variable{X:Cx}{pins:T2}{σ:Tw (Tx V)}{H H':Hp}{s:Ub}{h':Heap}
def Cx.Ok.nofr(ok:X.Ok){b:Uc}{o:Obj}(e:X.base.get? b=Z o):b∉X.fs:=fun a=>by
 have:=(ok.funs.mem a).1;rw[e]at this;cases this
def Inv.bs(I:Inv X pins σ H s):∀b o,X.base.get? b=Z o->s.heap.get? b=Z o/\H b=Y:=fun b o e=>
 ⟨I.base.keep b o (I.ok.bs b o e).1 (I.ok.bs b o e).2 (I.ok.nofr e) (I.ok.noex b o e),I.base.free b o (I.ok.bs b o e).1 (I.ok.bs b o e).2 (I.ok.noex b o e)⟩
def Inv.bk(I:Inv X pins σ H s):∀b o,X.base.get? b=Z o->s.heap.get? b=Z o:=fun b o e=>(I.bs b o e).1
def Inv.mod(I:Inv X pins σ H s):Mod X.K X.mg X.base:=I.ok.mod
def Inv.kIn(I:Inv X pins σ H s):X.K.In s.heap:=I.ok.mod.kin.keeps I.bk
def Inv.fr(I:Inv X pins σ H s):∃m,Fr X.base X.env.locals s.heap m:=
 let⟨m,hn,_⟩:=I.loc
 ⟨m,hn,I.bk,E7 I.ok.bsz I.ok.above⟩
def Inv.lt(I:Inv X pins σ H s):X.env.locals<s.heap.objs.size:=let⟨_,hn,_⟩:=I.loc;hn.lt
def Inv.sz(I:Inv X pins σ H s):X.s₀.heap.objs.size<=s.heap.objs.size:=E7 I.ok.above<|Nat.le_of_lt I.lt
def Inv.nofs(I:Inv X pins σ H s){a:Uc}(h:s.heap.objs.size<=a):a∉X.fs:=fun b=>by
 obtain⟨_,o,c,_⟩:=I.ok.funs.mem b;exact absurd (C5 (C2 c)<|E7 I.sz h)<|S3 _
def Inv.cne(I:Inv X pins σ H s):∀x c,X.env.cells.lookup x=Z c->c≠X.env.locals:=fun x c e z=>by
 obtain⟨v,o,d,hd⟩:=I.cell x c e;obtain⟨m,⟨o',es,ep,a,b,_⟩,_⟩:=I.loc;rw[z,a]at d;cases d;rw[b]at hd;cases hd
def Inv.funs(I:Inv X pins σ H s):s.heap.FunFrames X.base X.outer:=by
 have all:∀(l:Tw Env),(∀b∈frs l,b∈X.fs)->X.s₀.heap.FunFrames X.base l->s.heap.FunFrames X.base l:=by
  intro l
  induction l with
  |nil=>intro _ _;trivial
  |cons env r ih=>
   intro hs f;obtain⟨g,⟨L,o,a,hn,h,hd⟩,i⟩:=f;have c:=hs L (by unfold frs;rw[A0m,a];exact C4);obtain⟨sl,e⟩:=I.base.slot L o h (I.ok.frf L c) c fun z=>I.ok.exfs L z c;exact⟨g,⟨L,_,a,hn,e,hd⟩,ih (fun b d=>hs b (by unfold frs;rw[A0m,a];exact C0 _ d)) i⟩
 exact all X.outer (fun _ d=>d) I.ok.funs
def Inv.stack(I:Inv X pins σ H s):s.heap.FunFrames X.base X.stack:=by
 rcases I.ok.stk with e|⟨e,a⟩
 .rw[e];exact I.funs
 .rw[e];obtain⟨m,hn,_⟩:=I.loc;refine .cons (by rw[I.ok.kind];decide) a hn ?_ I.funs;exact Z0<|E7 I.ok.bsz I.ok.above
def Inv.stkSub(I:Inv X pins σ H s):∀b∈frs X.stack,b∈X.env.locals::X.fs:=fun b a=>by
 rcases I.ok.stk with e|⟨e,c⟩
 .rw[e]at a;exact C0 _ a
 .rw[e]at a;unfold frs at a;rw[A0m,c]at a;exact a
def Inv.stkFree(I:Inv X pins σ H s):∀b∈frs X.stack,H b=Y:=fun b hb=>by
 rcases List.mem_cons.mp (I.stkSub b hb)with e|hb
 .rw[e];exact I.free
 .obtain⟨_,o,a,_⟩:=I.ok.funs.mem hb;exact I.base.free b o a (I.ok.frf b hb) fun z=>I.ok.exfs b z hb
def Inv.step{t':Nat}{d':Drawn}{ch:Tb}(I:Inv X pins σ H s)
 (f:∀b∈ch,(b∈X.ex\/X.s₀.heap.objs.size<=b)/\b≠X.env.locals/\(∀x c,X.env.cells.lookup x=Z c->c≠b)/\∀p∈X.pn++pins,p.1≠b)
 (keep:∀b o,b≠X.env.locals->b∉X.fs->b∉ch->s.heap.get? b=Z o->H b=Y->h'.get? b=Z o)
 (slot:∀b o,b≠X.env.locals->b∈X.fs->b∉ch->s.heap.get? b=Z o->H b=Y->∃sl,h'.get? b=Z { o with slots:=sl }) (free:∀b o,b∉ch->s.heap.get? b=Z o->H b=Y->H' b=Y)
 (there:∀b o,b∉ch->s.heap.get? b=Z o->∃o',h'.get? b=Z o')
 (tups:∀b xs,H b=Z (.tup xs)->H' b=Z (.tup xs)) (frzs:∀b o u,H b=Z (.frz o u)->H' b=Z (.frz o u)) (tbls:∀b ps,H b=Z (.tbl ps)->∃more,H' b=Z (.tbl (ps++more)))
 (ns:∀m,s.heap.Ns X.env.locals m->h'.Ns X.env.locals m) (hok:HOk X.prog X.w H' h') (L:AllBare g'):
 Inv X pins σ H' { s with heap:=h',gens:=g',drawn:=d',toks:=t' }:=by
 have C:∀b o,X.s₀.heap.get? b=Z o->b≠X.env.locals:=fun b o e=>D1<|C5 (C2 e) I.ok.above
 have j:∀b o,X.s₀.heap.get? b=Z o->b∉X.ex->b∉ch:=fun b o e a y=>by
  rcases (f b y).1 with z|z
  .exact a z
  .exact absurd (C5 (C2 e) z)<|S3 _
 have g:∀x c,X.env.cells.lookup x=Z c->∀v,s.heap.IsCell c v->h'.IsCell c v:=fun x c e v ⟨o,B,hd⟩=>by
  have h:=fun z=>(f c z).2.2.1 x c e rfl;by_cases F:c∈X.fs
  .obtain⟨sl,q⟩:=slot c o (I.cne x c e) F h B<|I.freeC x c e;exact⟨_,q,hd⟩
  .exact⟨o,keep c o (I.cne x c e) F h B<|I.freeC x c e,hd⟩
 refine⟨I.ok,I.os,L,⟨fun b o e n y a=>?_,fun b o e n y a=>?_,fun b o e n a=>?_,fun b o e a=>?_,fun b xs e=>tups b xs<|I.base.tups b xs e,fun b o xs e=>frzs b o xs<|I.base.frzs b o xs e,fun b ps e=>?_⟩,?_,fun x c e=>?_,?_,fun x c e=>?_,fun p G=>?_,hok,I.len⟩
 .exact keep b o (C b o e) y (j b o e a) (I.base.keep b o e n y a)<|I.base.free b o e n a
 .obtain⟨sl,t⟩:=I.base.slot b o e n y a;obtain⟨E,D⟩:=slot b _ (C b o e) y (j b o e a) t<|I.base.free b o e n a;exact⟨E,D⟩
 .obtain⟨o',t⟩:=I.base.there b o e a;exact free b o' (j b o e a) t<|I.base.free b o e n a
 .obtain⟨o',t⟩:=I.base.there b o e a;exact there b o' (j b o e a) t
 .obtain⟨M,t⟩:=I.base.tbls b ps e;obtain⟨N,D⟩:=tbls b _ t;exact⟨M++N,by rw[D,Array.append_assoc]⟩
 .obtain⟨m,hn,O⟩:=I.loc;refine⟨m,ns m hn,fun i x v t D P=>?_⟩;obtain⟨u,r,l⟩:=O i x v t D P;refine⟨u,r,?_⟩;rcases l with l|⟨k,c,e,z⟩
  .exact .inl l
  .exact .inr ⟨k,c,e,g x c e _ z⟩
 .obtain⟨v,z⟩:=I.cell x c e;exact⟨v,g x c e v z⟩
 .obtain⟨m,⟨o,_,_,B,_⟩,_⟩:=I.loc;exact free _ o (fun z=>(f _ z).2.1 rfl) B I.free
 .obtain⟨v,o,B,hd⟩:=I.cell x c e;exact free c o (fun z=>(f c z).2.2.1 x c e rfl) B<|I.freeC x c e
 .obtain⟨e,n,ne,J,d⟩:=I.pin p G;have h:=fun z=>(f p.1 z).2.2.2 p G rfl;exact⟨keep p.1 p.2 ne J h e n,free p.1 p.2 h e n,ne,J,d⟩
def Inv.un{t':Nat}(I:Inv X pins σ H s)(u:Un X.fs [] H H' s.heap h')(hok:HOk X.prog X.w H' h'):Inv X pins σ H' { s with heap:=h',toks:=t' }:=by
 obtain⟨m,⟨o,es,ep,g,r⟩,_⟩:=id I.loc;obtain⟨sl,h⟩:=u.any g I.free (by simp)
 exact I.step (ch:=[]) (fun _ z=>nomatch z) (fun b o _ c _ e n=>u.keep b o e n c (by simp)) (fun b o _ c _ e n=>u.slot b o e n c (by simp)) (fun b o _ e n=>u.free b o e n (by simp)) (fun b o _ e=>u.there b o e (by simp)) u.tups u.frzs u.tbls (fun j hm=>by
  obtain⟨o',d,f,a,i⟩:=hm;rw[g]at a;cases a;exact⟨_,d,f,h,i⟩) hok I.bare
def Inv.call{t':Nat}{d':Drawn}(I:Inv X pins σ H s)(u:Un (frs X.stack) ch H H' s.heap h')(hok:HOk X.prog X.w H' h')(k:AllBare g')
 (d:∀b∈ch,(b∈X.ex\/X.s₀.heap.objs.size<=b)/\b≠X.env.locals/\(∀x c,X.env.cells.lookup x=Z c->c≠b)/\∀p∈X.pn++pins,p.1≠b):
 Inv X pins σ H' { s with heap:=h',gens:=g',drawn:=d',toks:=t' }:=by
 obtain⟨m,⟨o,es,ep,j,r⟩,_⟩:=id I.loc;obtain⟨sl,g⟩:=u.any j I.free fun z=>(d _ z).2.1 rfl
 exact I.step d (fun b o g l a e n=>u.keep b o e n (fun z=>(List.mem_cons.mp<|I.stkSub b z).elim g l) a) (fun b o _ _ a e n=>u.any e n a) (fun b o a e n=>u.free b o e n a) (fun b o a e=>u.there b o e a) u.tups u.frzs u.tbls (fun t hm=>by
  obtain⟨o',h,i,f,q⟩:=hm;rw[j]at f;cases f;exact⟨_,h,i,g,q⟩) hok k
def Inv.turned{t':Nat}{it:Uc}(I:Inv X pins σ H s)(k:∀b o,b≠it->s.heap.get? b=Z o->h'.get? b=Z o)(hn:H it=Y)(f:it≠X.env.locals)
 (g:it∈X.ex\/X.s₀.heap.objs.size<=it) (h:∀x c,X.env.cells.lookup x=Z c->c≠it) (i:∀p∈X.pn++pins,p.1≠it):Inv X pins σ H { s with heap:=h',toks:=t' }:=by
 have d:∀b u,H b=Z u->b≠it:=fun b u e z=>by rw[z,hn]at e;cases e
 refine I.step (ch:=[it]) (fun b l=>?_) (fun b o _ _ a e _=>k b o (fun z=>a (by simp[z])) e) (fun b o _ _ a e _=>⟨o.slots,k b o (fun z=>a (by simp[z])) e⟩) (fun _ _ _ _ n=>n)
  (fun b o a e=>⟨o,k b o (fun z=>a (by simp[z])) e⟩) (fun _ _ e=>e) (fun _ _ _ e=>e) (fun b ps e=>⟨#[],by rw[e];simp⟩) (fun m hm=>?_) (fun b u e=>?_) I.bare
 .have e:b=it:=by grind
  subst e;exact⟨g,f,h,i⟩
 .obtain⟨o,es,ep,j,r⟩:=hm;exact⟨o,es,ep,k _ o (O1 f) j,r⟩
 .refine(I.hok b u e).stay (fun c v a q=>k c v ?_ q) (fun _ q=>q) fun _ _ q=>q;rcases a with z|z
  .rw[z];exact d b u e
  .exact d c _ z
def Inv.tok(I:Inv X pins σ H s)(t:Nat):Inv X pins σ H { s with toks:=t }:=I.un Un.refl I.hok
def Inv.kept{t':Nat}(I:Inv X pins σ H s)(k:∀b u,s.heap.get? b=Z u->h'.get? b=Z u):Inv X pins σ H { s with heap:=h',toks:=t' }:=I.un (Un.kept k)<|I.hok.kept k
def Inv.laid{a:Uc}{t':Nat}(I:Inv X pins σ H s)(k:∀b u,s.heap.get? b=Z u->h'.get? b=Z u)(hp:s.heap.objs.size<=a)(new:eJ X.prog X.w (upd H a o) h' a o):
 Inv X pins σ (upd H a o) { s with heap:=h',toks:=t' }:=I.un (Un.laid k hp<|I.hok.fresh hp)<|I.hok.laid k hp new
def Inv.write{e:Uc}{t':Nat}(I:Inv X pins σ H s)(c:Mut (H x))(d:e=x\/H e=Z (.own x))(k:∀b u,b≠e->s.heap.get? b=Z u->h'.get? b=Z u)(a:∃u,h'.get? e=Z u)
 (new:eJ X.prog X.w (upd H x o) h' x o):Inv X pins σ (upd H x o) { s with heap:=h',toks:=t' }:=I.un (Un.write c d k a)<|I.hok.write c d k a new
def Inv.pins_of{a:T2}(I:Inv X pins σ H s)(h:∀p∈a,s.heap.get? p.1=Z p.2/\H p.1=Y/\p.1≠X.env.locals/\p.1∉X.fs/\∀v,p.2.data≠.cell v):Inv X a σ H s:=
 ⟨I.ok,I.os,I.bare,I.base,I.loc,I.cell,I.free,I.freeC,fun p b=>(List.mem_append.mp b).elim (fun z=>I.pin p<|E4 _ z) (h p),I.hok,I.len⟩
def AO{N:Tc}(c:N.Nodup){i j:Nat}{x:Str}(a:N[i]?=Z x)(b:N[j]?=Z x):i=j:=by
 obtain⟨f,d⟩:=List.getElem?_eq_some_iff.mp a;obtain⟨g,e⟩:=List.getElem?_eq_some_iff.mp b;exact(List.getElem_inj c).mp (d.trans e.symm)
def GS{A:Uf}{i:Nat}{x:Str}{Q:Unit->Ub->Prop}(I:Inv X pins σ H s)(hN:X.N.Nodup)(hi:X.N[i]?=Z x)(l:Loc X.env.scope x)(r:RelV v u)
 (h:∀S,Inv X pins (σ.set i<|Z v) H S->(∃a,Heap.SameBut a s.heap S.heap/\(a=X.env.locals\/X.env.cells.lookup x=Z a))->Q () S) (hf:X.fn x=true\/X.env.scope.names.lookup x=Z .local:=by first|exact .inl rfl|exact .inr rfl|assumption):wpAny M A (storeName X.env x u) Q E s:=by
 obtain⟨m,hn,hl⟩:=id I.loc;have J:(X.env.scope.kind==.class || (X.env.scope.kind==.module&&X.env.locals != X.env.globals))=false:=by rw[I.ok.kind];rfl
 have C:i<σ.length:=by rw[I.len];exact(List.getElem?_eq_some_iff.mp hi).1
 have cne:=I.cne
 have f:∀{a:Uc}{h':Heap},(∃o,s.heap.get? a=Z o/\H a=Y)->Heap.SameBut a s.heap h'->HOk X.prog X.w H h':=fun{a h'} ha hs b ob e=>by
  obtain⟨_,_,t⟩:=ha;refine(I.hok b ob e).stay (fun c R hc q=>(hs.2 c ?_).trans q) (fun _ q=>q) fun _ _ q=>q;rintro rfl;rcases hc with rfl|hc
  .rw[t]at e;cases e
  .rw[t]at hc;cases hc
 rcases l with hk|hk
 .refine wpAny_storeName_local hk hn (fun h' T hs=>?_) J;obtain⟨oL,_,_,U,_⟩:=id hn;refine h _ ⟨I.ok,I.os,I.bare,⟨fun b o e n D l=>?_,fun b o e n D l=>?_,I.base.free,fun b o e l=>?_,I.base.tups,I.base.frzs,I.base.tbls⟩,⟨_,T,fun j y W g B e3=>?_⟩,fun y c e=>?_,I.free,I.freeC,fun p hp=>?_,f ⟨oL,U,I.free⟩ hs,by simpa using I.len⟩ ⟨_,hs,.inl rfl⟩
  .exact(hs.2 b<|D1<|C5 (C2 e) I.ok.above).trans (I.base.keep b o e n D l)
  .obtain⟨sl,g⟩:=I.base.slot b o e n D l;exact⟨sl,(hs.2 b<|D1<|C5 (C2 e) I.ok.above).trans g⟩
  .obtain⟨o',g⟩:=I.base.there b o e l;exact⟨o',(hs.2 b<|D1<|C5 (C2 e) I.ok.above).trans g⟩
  .by_cases F:j=i
   .subst F;rw[hi]at g;cases g;rw[F7 C]at B;cases B;exact⟨u,r,.inl ⟨hk,by simp⟩⟩
   .rw[O9 (O1 F)]at B;obtain⟨u',r',q⟩:=hl j y W g B e3;refine⟨u',r',?_⟩;rcases q with⟨k,e⟩|⟨k,c,e,z⟩
    .refine .inl ⟨k,?_⟩;have:y≠x:=fun e=>F<|AO hN g (e▸hi);simp[this,e]
    .exact .inr ⟨k,c,e,z.sameBut hs<|cne y c e⟩
  .obtain⟨R,z⟩:=I.cell y c e;exact⟨R,z.sameBut hs<|cne y c e⟩
  .obtain⟨e,n,ne,nf,d⟩:=I.pin p hp;exact⟨(hs.2 p.1 ne).trans e,n,ne,nf,d⟩
 .have G:X.fn x=true:=by
   rcases hf with z|z
   .exact z
   .rw[z]at hk;cases hk
  obtain⟨c,hc⟩:=I.ok.has x (.inl hk);obtain⟨R,z⟩:=I.cell x c hc;refine wpAny_storeName_cell I.ok.kind hk hc z (fun h' L hs=>?_);obtain⟨oc,O,a0⟩:=id z;refine h { s with heap:=h' } ⟨I.ok,I.os,I.bare,⟨fun b o e n D l=>?_,fun b o e n D l=>?_,I.base.free,fun b o e l=>?_,I.base.tups,I.base.frzs,I.base.tbls⟩,⟨m,hn.sameBut hs<|O1<|cne x c hc,fun j y W g B e3=>?_⟩,fun y c' e=>?_,I.free,I.freeC,fun p hp=>?_,f ⟨oc,O,I.freeC x c hc⟩ hs,by simpa using I.len⟩ ⟨c,hs,.inr hc⟩
  .exact(hs.2 b<|D1<|C5 (C2 e)<|I.ok.cab x c G hc).trans (I.base.keep b o e n D l)
  .obtain⟨sl,g⟩:=I.base.slot b o e n D l;exact⟨sl,(hs.2 b<|D1<|C5 (C2 e)<|I.ok.cab x c G hc).trans g⟩
  .obtain⟨o',g⟩:=I.base.there b o e l;exact⟨o',(hs.2 b<|D1<|C5 (C2 e)<|I.ok.cab x c G hc).trans g⟩
  .by_cases F:j=i
   .subst F;rw[hi]at g;cases g;rw[F7 C]at B;cases B;exact⟨u,r,.inr ⟨.inl hk,c,hc,L⟩⟩
   .rw[O9 (O1 F)]at B;obtain⟨u',r',q⟩:=hl j y W g B e3;refine⟨u',r',?_⟩;rcases q with q|⟨k,c',e,z'⟩
    .exact .inl q
    .refine .inr ⟨k,c',e,z'.sameBut hs ?_⟩;rintro rfl;exact F<|AO hN g (I.ok.inj _ _ _ e hc▸hi)
  .by_cases P:c'=c
   .subst P;exact⟨_,L⟩
   .obtain⟨w2,z2⟩:=I.cell y c' e;exact⟨w2,z2.sameBut hs P⟩
  .obtain⟨e,n,ne,nf,d⟩:=I.pin p hp;refine⟨(hs.2 p.1 ?_).trans e,n,ne,nf,d⟩;intro q;rw[q,O]at e;have q':=E1 e;exact d R (by grind)
def nS{A:Uf}{i:Nat}{x:Str}{Q:Unit->Ub->Prop}(I:Inv X pins σ H s)(b:X.N.Nodup)(hi:X.N[i]?=Z x)(c:Loc X.env.scope x)(r:RelV v u)
 (h:∀a,Inv X pins (σ.set i<|Z v) H a->Q () a) (d:X.fn x=true\/X.env.scope.names.lookup x=Z .local:=by first|exact .inl rfl|exact .inr rfl|assumption):wpAny M A (storeName X.env x u) Q E s:=
 GS I b hi c r (fun a e _=>h a e) d
def Inv.call'{a:Ub}(I:Inv X pins σ H s)(f:a.os=s.os)(u:Un (frs X.stack) ch H H' s.heap a.heap)(hok:HOk X.prog X.w H' a.heap)(g:AllBare a.gens)
 (d:∀b∈ch,(b∈X.ex\/X.s₀.heap.objs.size<=b)/\b≠X.env.locals/\(∀x c,X.env.cells.lookup x=Z c->c≠b)/\∀p∈X.pn++pins,p.1≠b):Inv X pins σ H' a:=by
 obtain⟨h',h,i,j,o'⟩:=a;have e:=f;subst e;exact I.call u hok g d
end
abbrev XK:=Tz->Ti->Hp->Prop
noncomputable abbrev St:=Tw<|Tx V
abbrev VK:=V->Hp->Prop
abbrev TE:=St->Hp->VK->Prop
abbrev TT:=St->Hp->(Bool->Hp->Prop)->Prop
abbrev TA:=St->Hp->(Td->Hp->Prop)->Prop
structure Ends where
 nx:St->Hp->Prop
 rt:VK
 bk:St->Hp->Prop:=fun _ _=>False
 ct:St->Hp->Prop:=fun _ _=>False
abbrev TS:=Ends->St->Hp->Prop
def EP(X:Cx)(pins:T2)(σ:St)(Q:VK)(u:Tz)(a:Ub):Prop:=∃v H',Inv X pins σ H' a/\RelV v u/\Q v H'
def TP(X:Cx)(pins:T2)(σ:St)(Q:Bool->Hp->Prop)(b:Bool)(a:Ub):Prop:=∃H',Inv X pins σ H' a/\Q b H'
def AP(X:Cx)(pins:T2)(σ:St)(Q:Td->Hp->Prop)(us:T6)(a:Ub):Prop:=∃vs H',Inv X pins σ H' a/\bH vs us/\Q vs H'
def SP(X:Cx)(pins:T2)(D:Ends)(f:Flow)(b:Ub):Prop:=
 match f with
 |.next=>∃a H',Inv X pins a H' b/\D.nx a H'
 |.brk=>∃a H',Inv X pins a H' b/\D.bk a H'
 |.cont=>∃a H',Inv X pins a H' b/\D.ct a H'
 |.ret u=>∃v a H',Inv X pins a H' b/\RelV v u/\D.rt v H'
def PE(X:Cx)(e:Ud)(t:TE):Prop:=
 ∀(pins:T2)(s:Ub)(σ:St)(H:Hp)(Q:VK),Inv X pins σ H s->t σ H Q->wpAny (model X.prog X.w) X.A (eval e X.env) (EP X pins σ Q) X.xe s
def PT(X:Cx)(e:Ud)(t:TT):Prop:=
 ∀(pins:T2)(s:Ub)(σ:St)(H:Hp)(Q:Bool->Hp->Prop),Inv X pins σ H s->t σ H Q->wpAny (model X.prog X.w) X.A (isTrue e X.env<|eval e X.env) (TP X pins σ Q) X.xe s
def PW(X:Cx)(e:Ud)(t:TT):Prop:=
 ∀(a:Sem Tz)(pins:T2)(s:Ub)(σ:St)(H:Hp)(Q:Bool->Hp->Prop),Inv X pins σ H s->t σ H Q->wpAny (model X.prog X.w) X.A (isTrue e X.env a) (TP X pins σ Q) X.xe s
def PW.pt(h:PW X e t):PT X e t:=h _
def PA(X:Cx)(es:T9)(t:TA):Prop:=
 ∀(pos:Pos)(pins:T2)(s:Ub)(σ:St)(H:Hp)(Q:Td->Hp->Prop),Inv X pins σ H s->t σ H Q->wpAny (model X.prog X.w) X.A (spliced<|backTo pos<|starEach es X.env) (AP X pins σ Q) X.xe s
def PS(X:Cx)(st:Stmt)(t:TS):Prop:=
 ∀(pins:T2)(s:Ub)(σ:St)(H:Hp)(D:Ends),Inv X pins σ H s->t D σ H->wpAny (model X.prog X.w) X.A (exec st X.env) (SP X pins D) X.xe s
def PSs(X:Cx)(st:Ta)(t:TS):Prop:=
 ∀(pins:T2)(s:Ub)(σ:St)(H:Hp)(D:Ends),Inv X pins σ H s->t D σ H->wpAny (model X.prog X.w) X.A (execs st X.env) (SP X pins D) X.xe s
def thn{b:Type}{t:Sem b}{Q c:b->Ub->Prop}{M:Model}{E:T1}{s:Ub}(h:wpAny M A t Q E s)(d:∀a s,Q a s->c a s):wpAny M A t c E s:=F6 h d fun _ _ x=>x
section
variable{X:Cx}
def bin{a b:Ud}{i tb:TE}(ha:PE X a i)(k:PE X b tb){pins:T2}{R:V->V->Hp->Prop}(I:Inv X pins σ H s)(h:i σ H fun x g=>tb σ g fun y c=>R x y c)
 {j:Type} {Q:j->Ub->Prop} {f:Tz->Tz->Sem j}
 (l:∀v u s2 x y c,Inv X pins σ c s2->RelV x v->RelV y u->R x y c->wpAny (model X.prog X.w) X.A (f v u) Q X.xe s2):
 wpAny (model X.prog X.w) X.A (eval a X.env) (fun v d=>wpAny (model X.prog X.w) X.A (eval b X.env) (fun u e=>wpAny (model X.prog X.w) X.A (f v u) Q X.xe e) X.xe d) X.xe s:=by
 refine thn (ha pins s σ H _ I h) fun v s1 ⟨x,g,m,n,o⟩=>?_;refine thn (k pins s1 σ g _ m o) fun u s2 ⟨y,c,p,q,r⟩=>?_;exact l v u s2 x y c p n q r
def aLZ(i:Nat):TE:=fun σ H Q=>∃v,σ[i]?=Z (Z v)/\Q v H
noncomputable def tC(v:V):TE:=fun _ H Q=>Q v H
def aIC{i:Nat}{x:Str}(g:X.N[i]?=Z x)(j:Vis X.env.scope x)(hd:(x==("__debug__":Str))=false:=by decide)(d:(x==("__classdict__":Str))=false:=by decide):PE X (.Name x pos) (aLZ i):=by
 intro pins s σ H Q I h;obtain⟨v,e,h⟩:=h;obtain⟨m,hn,k⟩:=I.loc;obtain⟨u,r,l⟩:=k i x v g e j;have b:EP X pins σ Q u s:=⟨v,H,I,r,h⟩;rcases l with⟨hk,hm⟩|⟨hk,c,f,a⟩
 .exact wpAny_Name (wpAny_loadName_local I.ok.kind hk hn hm b) hd
 .rcases hk with hk|hk
  .exact wpAny_Name (wpAny_loadName_cell I.ok.kind hk f a b) hd
  .exact wpAny_Name (wpAny_loadName_free I.ok.kind hk f a b d) hd
def aKg{i j pos}:PE X (.Constant (.int i) j pos) (tC (.int i)):=fun _ _ _ H _ I h=>wpAny_Constant_int ⟨.int i,H,I.tok _,⟨_,rfl⟩,h⟩
def aLu{b j pos}:PE X (.Constant (.bool b) j pos) (tC (.bl b)):=fun _ _ _ H _ I h=>Constant_bool ⟨.bl b,H,I,rfl,h⟩
def aJn{j pos}:PE X (.Constant .none j pos) (tC .non):=fun _ _ _ H _ I h=>Constant_none ⟨.non,H,I,rfl,h⟩
def aIV{x j pos}:PE X (.Constant (.str x) j pos) (tC (.str x)):=fun _ _ _ H _ I h=>Calls.Constant_str ⟨.str x,H,I.tok _,⟨_,rfl⟩,h⟩
def Gl(X:Cx)(x:Str):Prop:=X.env.kindOf x=Z .globalImplicit
def pK{u:Tz}{pos:Pos}{Q:T1}(I:Inv X pins σ H s)(a:Gl X x)(hm:X.mg x=Z u)(h:Q u s)
 (hd:(x==("__debug__":Str))=false:=by decide):wpAny (model X.prog X.w) X.A (eval (.Name x pos) X.env) Q E s:=
 Calls.Name_function_global I.ok.kind a (Calls.loadGlobal_global (by rw[I.ok.glob];exact I.mod.glob.keeps I.bk) hm h) hd
def xP{u:Tz}{pos:Pos}{Q:T1}(I:Inv X pins σ H s)(a:Gl X x)(hm:X.mg x=Y)(b:bootBuiltins x=Z u)(h:Q u s)
 (hn:x≠"__name__":=by decide) (hd:(x==("__debug__":Str))=false:=by decide):wpAny (model X.prog X.w) X.A (eval (.Name x pos) X.env) Q E s:=by
 obtain⟨mb,c,d⟩:=I.mod.blt;exact Calls.Name_function_global I.ok.kind a (Calls.loadGlobal_builtin (by rw[I.ok.glob];exact I.mod.glob.keeps I.bk) hm (by rw[I.ok.blt];exact c.keeps I.bk) ((d x hn).trans b) h) hd
def zU{u:Tz}(a:Gl X x)(hm:X.mg x=Z u)(r:RelV v u)(hd:(x==("__debug__":Str))=false:=by decide):PE X (.Name x pos) (tC v):=
 fun _ _ _ H _ I h=>pK I a hm ⟨v,H,I,r,h⟩ hd
def zQ{u:Tz}(a:Gl X x)(hm:X.mg x=Y)(b:bootBuiltins x=Z u)(r:RelV v u)(hn:x≠"__name__":=by decide)(hd:(x==("__debug__":Str))=false:=by decide):PE X (.Name x pos) (tC v):=
 fun _ _ _ H _ I h=>xP I a hm b ⟨v,H,I,r,h⟩ hn hd
variable{a b:Ud}{ta tb:TE}{pos:Pos}
def PC(X:Cx)(op:CmpOp)(a b:Ud)(t:TE):Prop:=
 ∀(pins:T2)(s:Ub)(σ:St)(H:Hp)(Q:VK),Inv X pins σ H s->t σ H Q->
  wpAny (model X.prog X.w) X.A (eval a X.env) (fun v c=>wpAny (model X.prog X.w) X.A (eval b X.env) (fun u d=>wpAny (model X.prog X.w) X.A (compareOp op v u) (EP X pins σ Q) X.xe d) X.xe c) X.xe s
def aDB(b:Ud){op:CmpOp}(h:op≠.In)(e:op≠.NotIn):behindInMarks op b=false:=by
 have c:(op==CmpOp.In)=false:=by grind
 have d:(op==CmpOp.NotIn)=false:=by grind
 cases b<;>simp[behindInMarks,c,d]
noncomputable def tB(t:TE):TT:=fun σ H Q=>t σ H fun x d=>∃c,x=.bl c/\Q c d
def aJP{op:CmpOp}{t:TE}(h:PC X op a b t)(e:behindInMarks op b=false:=by first|exact aDB _ (by decide) (by decide)|rfl):PT X (.Compare a [op] [b] pos) (tB t):=by
 intro pins s σ H Q I f;refine wpAny_isTrue_Compare1 (thn (h pins s σ H _ I f) fun v s1 e=>thn e fun u s2 g=>thn g fun c s3 ⟨x,i,j,k,l⟩=>?_) e;obtain⟨d,rfl,q⟩:=l;cases k;exact O8 ⟨i,j,q⟩
def aJG{e:Ud}{t:TE}(h:PE X e t)(f:∀c,isTrue e X.env c=(do let v <- c;standAt e.pos;holding [v]<|truthy v):=by intro _;rfl):PT X e (tB t):=by
 intro pins s σ H Q I g;refine isTrue_plain (thn (h pins s σ H _ I g) fun v s1 ⟨x,i,j,k,l⟩=>?_)<|f _;obtain⟨d,rfl,q⟩:=l;cases k;exact O8 ⟨i,j,q⟩
variable{tA tB':TT}{rest:T9}
noncomputable def aKD(t u:TT):TT:=fun σ H Q=>t σ H fun c d=>if c=true then u σ d Q else Q false d
noncomputable def tOr(t u:TT):TT:=fun σ H Q=>t σ H fun c d=>if c=true then Q true d else u σ d Q
noncomputable def aMc(t:TT):TT:=fun σ H Q=>t σ H fun c d=>Q (!c) d
def aFw(ha:PT X a tA):PW X (.BoolOp .And [a] pos) tA:=by
 intro d pins s σ H Q I h;refine isTrue_and (thn (ha pins s σ H Q I h) fun c s1 e=>?_);cases c with
 |true=>exact isTrue_and_nil e
 |false=>exact e
def aIN(ha:PT X a tA):PW X (.BoolOp .Or [a] pos) tA:=by
 intro d pins s σ H Q I h;refine isTrue_or (thn (ha pins s σ H Q I h) fun c s1 e=>?_);cases c with
 |false=>exact isTrue_or_nil e
 |true=>exact e
def aIJ(ha:PT X a tA)(g:PW X (.BoolOp .And (b::rest) pos) tB'):PW X (.BoolOp .And (a::b::rest) pos) (aKD tA tB'):=by
 intro i pins s σ H Q I h;refine isTrue_and (thn (ha pins s σ H _ I h) fun c s1 ⟨d,e,f⟩=>?_);cases c with
 |true=>exact g i pins s1 σ d Q e f
 |false=>exact⟨d,e,f⟩
def aLv(ha:PT X a tA)(g:PW X (.BoolOp .Or (b::rest) pos) tB'):PW X (.BoolOp .Or (a::b::rest) pos) (tOr tA tB'):=by
 intro i pins s σ H Q I h;refine isTrue_or (thn (ha pins s σ H _ I h) fun c s1 ⟨d,e,f⟩=>?_);cases c with
 |true=>exact⟨d,e,f⟩
 |false=>exact g i pins s1 σ d Q e f
def aIe(ha:PT X a tA):PT X (.UnaryOp .Not a pos) (aMc tA):=by
 intro pins s σ H Q I h;exact isTrue_not<|ha pins s σ H (fun c d=>Q (!c) d) I h
noncomputable def aGK(ta tb:TE):TE:=fun σ H Q=>ta σ H fun x d=>∃c,x=.bl c/\if c=true then tb σ d Q else Q (.bl false) d
noncomputable def aGW(ta:TE):TE:=fun σ H Q=>ta σ H fun x d=>∃c,x=.bl c/\Q (.bl (!c)) d
def aIq{op}(h:PE X a t):PE X (.BoolOp op [a] pos) t:=fun pins s σ H Q I c=>BoolOp_one<|h pins s σ H Q I c
def aHr(ha:PE X a ta)(g:PE X (.BoolOp .And (b::rest) pos) tb):PE X (.BoolOp .And (a::b::rest) pos) (aGK ta tb):=by
 intro pins s σ H Q I h;refine BoolOp_and (thn (ha pins s σ H _ I h) fun v s1 ⟨x,e,f,i,d⟩=>?_);obtain⟨c,rfl,d⟩:=d;cases i;refine O8 ?_;cases c with
 |true=>exact g pins s1 σ e Q f d
 |false=>exact⟨.bl false,e,f,rfl,d⟩
def aJN(ha:PE X a ta):PE X (.UnaryOp .Not a pos) (aGW ta):=by
 intro pins s σ H Q I h;refine UnaryOp_ (thn (ha pins s σ H _ I h) fun v s1 ⟨x,e,f,g,d⟩=>?_);obtain⟨c,rfl,d⟩:=d;cases g;exact not_of<|O8 ⟨.bl (!c),e,f,rfl,d⟩
noncomputable def tIf(t:TT)(ta tb:TE):TE:=fun σ H Q=>t σ H fun c d=>if c=true then ta σ d Q else tb σ d Q
def aBI(i:PT X c tA)(ha:PE X a ta)(j:PE X b tb):PE X (.IfExp c a b pos) (tIf tA ta tb):=by
 intro pins s σ H Q I h;refine wpAny_IfExp (thn (i pins s σ H _ I h) fun d s1 ⟨e,f,g⟩=>?_);cases d with
 |true=>exact ha pins s1 σ e Q f g
 |false=>exact j pins s1 σ e Q f g
end
def SqL(K:Fg)(H:Hp)(a:Uc)(xs:Td):Prop:=
 Rd H a (.lst xs) \/
  ∃(o:Obj)(its:Tj)(n:Nat),K.lookup a=Z o/\o.cls=.type "list"/\o.dict=Y/\o.data=.seq its n/\its.size<=sizeLine/\bH xs its.toList
def SqT(K:Fg)(H:Hp)(a:Uc)(xs:Td):Prop:=
 Rd H a (.tup xs) \/
  ∃(o:Obj)(its:Tj)(n:Nat),K.lookup a=Z o/\o.cls=.type "tuple"/\o.data=.seq its n/\its.size<=sizeLine/\bH xs its.toList
def aMJ:Tz->Tx V
 |.none=>Z .non
 |.bool b=>Z (.bl b)
 |.int i _=>Z (.int i)
 |.str x _=>Z (.str x)
 |.bytes b _=>Z (.byt b)
 |.float b _=>Z (.flt b)
 |.ref a=>Z (.ref a)
 |.type n=>Z (.ty n)
 |_=>Y
def RelV.abs(r:RelV x u):aMJ u=Z x:=by
 cases x with
 |non=>cases r;rfl
 |bl _=>cases r;rfl
 |int _=>obtain⟨t,rfl⟩:=r;rfl
 |str _=>obtain⟨t,rfl⟩:=r;rfl
 |byt _=>obtain⟨t,rfl⟩:=r;rfl
 |flt _=>obtain⟨t,rfl⟩:=r;rfl
 |ref _=>cases r;rfl
 |ty _=>cases r;rfl
def RelV.inj(r:RelV x u)(q:RelV y u):x=y:=E1<|r.abs.symm.trans q.abs
theorem bH.inj:∀{xs ys:Td}{us:T6},bH xs us->bH ys us->xs=ys
 |_,_,_,.nil,.nil=>rfl
 |_,_,_,.cons r t,.cons a b=>by rw[r.inj a,bH.inj t b]
section
variable{X:Cx}{pins:T2}{σ:St}{H:Hp}{s:Ub}{a:Uc}{xs ys:Td}
def SqL.of(h:H a=Z (.lst xs)):SqL K H a xs:=.inl (.inl h)
def SqT.of(h:H a=Z (.tup xs)):SqT K H a xs:=.inl (.inl h)
def Inv.list(I:Inv X pins σ H s)(h:SqL X.K H a xs):∃its:T6,bH xs its/\PlainL s.heap a its.toArray/\xs.length<=sizeLine:=by
 rcases h with h|⟨o,its,n,b,c,hd,hs,d,r⟩
 .obtain⟨z,its,n,r,e⟩:=h.ok I.hok;exact⟨its,r,⟨_,n,e,rfl,rfl,rfl⟩,z⟩
 .refine⟨its.toList,r,⟨o,n,I.kIn a o b,c,hd,by simpa using hs⟩,?_⟩;have e:=r.length;simp only[Array.length_toList]at e;omega
def Inv.tuple(I:Inv X pins σ H s)(h:SqT X.K H a xs):∃its:T6,bH xs its/\IsTup s.heap a its.toArray/\xs.length<=sizeLine:=by
 rcases h with h|⟨o,its,n,b,c,hs,d,r⟩
 .obtain⟨z,its,r,p⟩:=h.ok I.hok;exact⟨its,r,p,z⟩
 .refine⟨its.toList,r,⟨o,I.kIn a o b,c,n,by simpa using hs⟩,?_⟩;have e:=r.length;simp only[Array.length_toList]at e;omega
def Inv.list_inj(I:Inv X pins σ H s)(h:SqL X.K H a xs)(h':SqL X.K H a ys):xs=ys:=by
 obtain⟨its,r,⟨o,n,e,_,_,d⟩,_⟩:=I.list h;obtain⟨its',f,⟨o',g,b,_,_,c⟩,_⟩:=I.list h';rw[e]at b;cases b;rw[d]at c;injection c with i _
 have:its=its':=by grind
 subst this;exact r.inj f
def Inv.tuple_inj(I:Inv X pins σ H s)(h:SqT X.K H a xs)(h':SqT X.K H a ys):xs=ys:=by
 obtain⟨its,r,⟨o,e,_,n,d⟩,_⟩:=I.tuple h;obtain⟨its',f,⟨o',b,_,g,c⟩,_⟩:=I.tuple h';rw[e]at b;cases b;rw[d]at c;injection c with i _
 have:its=its':=by grind
 subst this;exact r.inj f
end
noncomputable abbrev Cx.wish(X:Cx)(E:T1):Cx:={ X with xe:=E }
abbrev Cx.nox(X:Cx):Cx:=X.wish fun _ _=>False
def Cx.Ok.wish{X:Cx}(ok:X.Ok)(E:T1):(X.wish E).Ok:=
 ⟨ok.mod,ok.kind,ok.glob,ok.blt,ok.above,ok.inj,ok.has,ok.cab,ok.hd,ok.frames,ok.stk,ok.exf,ok.bs,ok.bsz,ok.noex,ok.exfs,ok.funs,ok.frf⟩
def Cx.Ok.unwish{X:Cx}(ok:(X.wish E).Ok):X.Ok:=
 ⟨ok.mod,ok.kind,ok.glob,ok.blt,ok.above,ok.inj,ok.has,ok.cab,ok.hd,ok.frames,ok.stk,ok.exf,ok.bs,ok.bsz,ok.noex,ok.exfs,ok.funs,ok.frf⟩
section
variable{X:Cx}{pins:T2}{σ:St}{H:Hp}{s:Ub}{E:T1}
def Inv.wish(I:Inv X pins σ H s)(E:T1):Inv (X.wish E) pins σ H s:=⟨I.ok.wish E,I.os,I.bare,I.base,I.loc,I.cell,I.free,I.freeC,I.pin,I.hok,I.len⟩
def Inv.unwish(I:Inv (X.wish E) pins σ H s):Inv X pins σ H s:=⟨I.ok.unwish,I.os,I.bare,I.base,I.loc,I.cell,I.free,I.freeC,I.pin,I.hok,I.len⟩
def SP.unwish(h:SP (X.wish E) pins D f b):SP X pins D f b:=by
 cases f with
 |next=>obtain⟨a,H',I,q⟩:=h;exact⟨a,H',I.unwish,q⟩
 |brk=>obtain⟨a,H',I,q⟩:=h;exact⟨a,H',I.unwish,q⟩
 |cont=>obtain⟨a,H',I,q⟩:=h;exact⟨a,H',I.unwish,q⟩
 |ret u=>obtain⟨v,a,H',I,r,q⟩:=h;exact⟨v,a,H',I.unwish,r,q⟩
def PSs.nox{st:Ta}(h:PSs X.nox st t):PSs X st t:=fun pins s σ H D I a=>
 F6 (h pins s σ H D (I.wish _) a) (fun _ _ q=>q.unwish) fun _ _ z=>False.elim z
end
section
variable{X:Cx}{st:Stmt}{rest:Ta}{t u:TS}{e:Ud}{te:TE}{pos:Pos}
noncomputable def aGS:TS:=fun D σ H=>D.nx σ H
noncomputable def aIa(t u:TS):TS:=fun D σ H=>t { D with nx:=u D } σ H
def aEw:PSs X [] aGS:=fun _ _ σ H _ I h=>A0c ⟨σ,H,I,h⟩
def KZ(b:PS X st t)(c:PSs X rest u):PSs X (st::rest) (aIa t u):=by
 intro pins s σ H D I h;refine wpAny_execs_cons (thn (b pins s σ H { D with nx:=u D } I h) fun f s1 q=>?_);cases f with
 |next=>
  obtain⟨a,H',d,q⟩:=q;exact c pins s1 a H' D d q
 |ret v=>exact q
 |brk=>exact q
 |cont=>exact q
def UD(a:PS X st t):PSs X [st] t:=by
 intro pins s σ H D I h;refine wpAny_execs_cons (thn (a pins s σ H D I h) fun f s1 q=>?_);cases f with
 |next=>exact A0c q
 |ret v=>exact q
 |brk=>exact q
 |cont=>exact q
def Inv.quiet(I:Inv X pins σ H s):interactive X.env=false:=by simp[interactive,I.ok.kind]
noncomputable def aCc(te:TE):TS:=fun D σ H=>te σ H fun _ a=>D.nx σ a
def VG(a:PE X e te)(hs:swapsWith e Y pos.line X.env=pure false:=by rfl):PS X (.Expr e pos) (aCc te):=by
 intro pins s σ H D I h;exact wpAny_Expr_any (thn (a pins s σ H _ I h) fun v s1 ⟨x,b,c,f,d⟩=>⟨σ,b,c,d⟩) I.quiet hs
noncomputable def aJa(te:TE):TS:=fun D σ H=>te σ H D.rt
def aBd(a:PE X e te):PS X (.Return (Z e) pos) (aJa te):=by
 intro pins s σ H D I h;exact wpAny_Return_some (thn (a pins s σ H _ I h) fun v s1 ⟨x,b,c,d,f⟩=>⟨x,σ,b,c,d,f⟩)
noncomputable def aKi(c:TT)(t u:TS):TS:=fun D σ H=>c σ H fun b a=>if b=true then t D σ a else u D σ a
def aHi{c:Ud}{a b:Ta}{f:TT}(k:PT X c f)(ha:PSs X a t)(l:PSs X b u):PS X (.If c a b pos) (aKi f t u):=by
 intro pins s σ H D I h;refine wpAny_If (thn (k pins s σ H _ I h) fun d s1 ⟨g,i,j⟩=>?_);cases d with
 |true=>exact ha pins s1 σ g D i j
 |false=>exact l pins s1 σ g D i j
noncomputable def aAM:TS:=fun _ _ _=>False
def aAG:PS X st aAM:=fun _ _ _ _ _ _ h=>h.elim
end
abbrev TG:=V->St->Hp->(St->Hp->Prop)->Prop
abbrev TGs:=Td->St->Hp->(St->Hp->Prop)->Prop
def PG(X:Cx)(a:Ud)(t:TG):Prop:=
 ∀(pins:T2)(s:Ub)(σ:St)(H:Hp)(v:V)(u:Tz)(Q:St->Hp->Prop),Inv X pins σ H s->RelV v u->t v σ H Q->
  wpAny (model X.prog X.w) X.A (assign a X.env u) (fun _ c=>∃b H',Inv X pins b H' c/\Q b H') X.xe s
def PGs(X:Cx)(ts:T9)(t:TGs):Prop:=
 ∀(pins:T2)(s:Ub)(σ:St)(H:Hp)(vs:Td)(us:T6)(Q:St->Hp->Prop),Inv X pins σ H s->bH vs us->t vs σ H Q->
  wpAny (model X.prog X.w) X.A (assignInOrder ((assignEach ts X.env).map (·.2)) us) (fun _ b=>∃a H',Inv X pins a H' b/\Q a H') X.xe s
abbrev aFE:=V->V->V->Hp->(Hp->Prop)->Prop
def aJw(X:Cx)(t:aFE):Prop:=
 ∀(pins:T2)(s:Ub)(σ:St)(H:Hp)(o i v:V)(ov a u:Tz)(Q:Hp->Prop),Inv X pins σ H s->RelV o ov->RelV i a->RelV v u->t o i v H Q->
  wpAny (model X.prog X.w) X.A (setItem ov a u) (fun _ b=>∃H',Inv X pins σ H' b/\Q H') X.xe s
section
variable{X:Cx}{pos:Pos}
def TH(i:Nat):TG:=fun v σ H Q=>Q (σ.set i<|Z v) H
def aGy{i:Nat}{x:Str}(a:X.N.Nodup)(hi:X.N[i]?=Z x)(b:Loc X.env.scope x)(c:X.fn x=true\/X.env.scope.names.lookup x=Z .local:=by first|exact .inl rfl|exact .inr rfl|assumption):PG X (.Name x pos) (TH i):=by
 intro pins s σ H v u Q I r h;exact wpAny_assign_Name<|nS I a hi b r (fun e d=>⟨_,H,d,h⟩) c
noncomputable def aKZ:TGs:=fun vs σ H Q=>vs=[]/\Q σ H
noncomputable def aGV(t:TG)(u:TGs):TGs:=fun vs σ H Q=>∃v r,vs=v::r/\t v σ H fun a H'=>u r a H' Q
def aFH:PGs X [] aKZ:=by
 intro pins s σ H vs us Q I r h;obtain⟨e,h⟩:=h;subst e;cases r;exact assignInOrder_nil ⟨σ,H,I,h⟩
def aDE{e:Ud}{es:T9}{t:TG}{u:TGs}(b:PG X e t)(c:PGs X es u)
 (hs:(assignEach (e::es) X.env).map (·.2)=assign e X.env::(assignEach es X.env).map (·.2):=by rfl):PGs X (e::es) (aGV t u):=by
 intro pins s σ H vs us Q I r h;obtain⟨v,k,d,h⟩:=h;subst d;cases r with
 |cons r f=>
  rw[hs];refine assignInOrder_cons (thn (b pins s σ H _ _ _ I r h) fun _ s1 ⟨a,g,i,j⟩=>?_);exact c pins s1 a g _ _ Q i f j
noncomputable def aJy(K:Fg)(n:Nat)(t:TGs):TG:=fun v σ H Q=>∃a xs,v=.ref a/\SqT K H a xs/\xs.length=n/\t xs σ H Q
def aJB{n:Nat}(f:X.calm=true)(h:PGs X es t)
 (hn:(assignEach es X.env).length=n:=by rfl) (c:(assignEach es X.env).findIdx? (·.1)=Y:=by rfl):PG X (.Tuple es k pos) (aJy X.K n t):=by
 intro pins s σ H v u Q I r d;obtain⟨a,xs,g,i,j,d⟩:=d;subst g;cases r;obtain⟨its,l,ht,q⟩:=I.tuple i;refine assign_Tuple_tuple (I.ok.hd f) ht (by simp[hn,<- j,l.length]) c fun h' m=>?_;have p:=I.kept (t':=s.toks) fun b o e=>m b o (D1<|C2 e) e;exact h pins _ σ H xs _ Q p (by omega) d
noncomputable def aLV(to a:TE)(t:aFE):TG:=fun v σ H Q=>to σ H fun o b=>a σ b fun i c=>t o i v c fun d=>Q σ d
def aHo{o i:Ud}{to b:TE}{t:aFE}(c:PE X o to)(hi:PE X i b)(hs:aJw X t)
 (ha:∀v,assign (.Subscript o i pos) X.env v=(do
  let ov <- holding [v] (eval o X.env);let a <- holding [v,ov] (eval i X.env)
  standAt pos
  holding [v,ov,a] (setItem ov a v)
  release [v,ov,a] []):=by intro _;rfl):PG X (.Subscript o i pos) (aLV to b t):=by
 intro pins s σ H v u Q I r h;refine A0<|L5 (thn (c pins s σ H _ I h) fun ov s1 ⟨x,d,e,f,g⟩=>?_);refine A0<|L5 (thn (hi pins s1 σ d _ e g) fun a s2 ⟨y,j,k,l,m⟩=>?_);refine A0<|Y0<|A0<|L5 (thn (hs pins s2 σ j x y v ov a u _ k f l r m) fun _ s3 ⟨n,p,q⟩=>?_);exact wpAny_release ⟨σ,n,p,q⟩
noncomputable def aEz(a:TE)(g:TG):TS:=fun D σ H=>a σ H fun x b=>g x σ b D.nx
def aIL{tg e:Ud}{a:TE}{g:TG}(b:PE X e a)(c:PG X tg g)(hs:swapsWithSole [tg] e pos.line X.env=pure false:=by rfl)(d:swappedStores [tg] e X.env=pure Y:=by rfl)
 (f:(assignEach [tg] X.env).map (·.2)=[assign tg X.env]:=by rfl):PS X (.Assign [tg] e pos) (aEz a g):=by
 intro pins s σ H D I h;refine wpAny_Assign_stores (thn (b pins s σ H _ I h) fun v s1 ⟨x,i,j,k,l⟩=>?_) hs d;rw[f];exact thn (c pins s1 σ i x v _ j k l) fun _ s2 q=>q
def aKc{i:Nat}{x:Str}{e:Ud}{b:TE}{a:Pos}(c:X.N.Nodup)(hi:X.N[i]?=Z x)(d:Loc X.env.scope x)(f:PE X e b)(hs:swapsWith e (Z (.Name x a)) pos.line X.env=pure false:=by rfl)(g:X.fn x=true\/X.env.scope.names.lookup x=Z .local:=by first|exact .inl rfl|exact .inr rfl|assumption):
 PS X (.Assign [.Name x a] e pos) (aEz b<|TH i):=by
 intro pins s σ H D I h;refine wpAny_Assign_Name (thn (f pins s σ H _ I h) fun v s1 ⟨y,j,k,l,m⟩=>?_) hs;exact nS k c hi d l (fun s2 n=>⟨_,j,n,m⟩) g
def aKT(i j:Nat)(a:TA):TS:=fun D σ H=>a σ H fun vs b=>∃v w,vs=[v,w]/\D.nx ((σ.set i<|Z v).set j (Z w)) b
def aIR{i j:Nat}{x y:Str}{a b:Ud}{n:TA}{kt k2 pt2}(C:X.calm=true)(r:X.N.Nodup)(hi:X.N[i]?=Z x)(E:X.N[j]?=Z y)(g:i≠j)
 (t:X.env.scope.names.lookup x=Z .local) (u:X.env.scope.names.lookup y=Z .local) (ha:PA X [a,b] n)
 (F:swappedStores [.Tuple [.Name x d,.Name y f] kt pt] (.Tuple [a,b] k2 pt2) X.env=pure (Z [x,y]))
 (hs:swapsWithSole [.Tuple [.Name x d,.Name y f] kt pt] (.Tuple [a,b] k2 pt2) pos.line X.env=pure false:=by rfl):
 PS X (.Assign [.Tuple [.Name x d,.Name y f] kt pt] (.Tuple [a,b] k2 pt2) pos) (aKT i j n):=by
 intro pins s σ H D I h;refine A0<|Y0 ?_;refine A0<|B1 ?_;refine A0<|Tuple_ (thn (ha _ pins s σ H _ I h) fun us s1 ⟨vs,z,G,J,k⟩=>?_);obtain⟨v,w,L,k⟩:=k;subst L
 obtain⟨u1,c,rfl,M,l⟩:∃u1 c,us=[u1,c]/\RelV v u1/\RelV w c:=by
  cases J with
  |cons p q=>
   cases q with
   |cons O P=>
    cases P;exact⟨_,_,rfl,p,O⟩
 refine J8 ?_ (by show 2<=sizeLine;decide);have Q:Inv X pins σ z { s1 with heap:=s1.heap.push { cls:=.type "tuple",data:=.seq [u1,c].toArray } }:=G.kept fun b o e=>A5 _ e;rw[F];refine A0<|B1 ?_;refine A0<|wpAny_rule<|A0 (unpackItems_tuple (items:=#[u1,c]) (I.ok.hd C) (IsTup.new s1.heap _) fun h' m=>?_);have R:=Q.kept (t':=s1.toks) fun b o e=>m b o (D1<|C2 e) e;refine A0<|assignInOrder_cons<|wpAny_bindName<|nS R r E (.inl u) l (fun s2 S=>?_) (.inr u);refine assignInOrder_cons<|wpAny_bindName<|nS S r hi (.inl t) M (fun s3 B=>assignInOrder_nil<|B1 ?_) (.inr t);rw[List.set_comm _ _ (O1 g)]at B;exact⟨_,z,B,k⟩
end
section
variable{X:Cx}{pos:Pos}
def aBk(c:TT)(tb:TS):TS:=fun D σ H=>∃W:Nat->St->Hp->Prop,(∃m,W m σ H)/\∀m σ H,W m σ H->
 c σ H fun b d=>if b=true then ∃N:St->Hp->Prop,(∀a H',N a H'->∃e,e<m/\W e a H')/\tb { D with nx:=N,ct:=N,bk:=D.nx } σ d else D.nx σ d
def aDd(hp:PassesOwn (model X.prog X.w) X.A X.env X.xe)(z:PT X c r)(B:PSs X e tb):PS X (.While c e [] pos) (aBk r tb):=by
 intro pins s σ H D I h;obtain⟨W,⟨C,E⟩,g⟩:=h;refine wpAny_While<|codeAny_whileLoop (fun n F=>∃i H',Inv X pins i H' F/\W n i H') ?_ C ⟨σ,H,I,E⟩;rintro n s1 ⟨d,t,G,J⟩;refine Y5 hp (thn (z pins s1 d t _ G<|g n d t J) fun b s2 ⟨u,x,k⟩=>?_);cases b with
 |true=>
  obtain⟨N,y,k⟩:=k;refine Y5 hp (thn (B pins s2 d u _ x k) fun f s3 l=>?_);cases f with
  |next=>
   obtain⟨a,j,m,o⟩:=l;obtain⟨p,hm,q⟩:=y a j o;exact⟨p,hm,a,j,m,q⟩
  |cont=>
   obtain⟨a,j,m,o⟩:=l;obtain⟨p,hm,q⟩:=y a j o;exact⟨p,hm,a,j,m,q⟩
  |brk=>exact l
  |ret v=>exact l
 |false=>
  exact A0c ⟨d,u,x,k⟩
end
structure It where
 go:Nat->Hp->Prop
 yld:Nat->Hp->V->Hp->Prop
 stop:Nat->Hp->Prop
def sA(X:Cx)(pins:T2)(H:Hp)(b:Uc):Prop:=
 H b=Y/\b≠X.env.locals/\b∉X.fs/\(b∈X.ex\/X.s₀.heap.objs.size<=b)/\(∀x c,X.env.cells.lookup x=Z c->c≠b)/\∀p∈X.pn++pins,p.1≠b
def Inv.fpOk{H':Hp}{b:Uc}(I:Inv X pins σ H s)(a:s.heap.objs.size<=b)(hn:H' b=Y):sA X pins H' b:=by
 refine⟨hn,Z9<|C5 I.lt a,I.nofs a,.inr (E7 I.sz a),fun x c e z=>?_,fun p d z=>?_⟩
 .obtain⟨v,q⟩:=I.cell x c e;exact absurd (C5 q.lt (by grind))<|S3 _
 .exact absurd (C5 (C2 (I.pin p d).1) (by grind))<|S3 _
structure Turn(P:Ue)(w:World)(K:Fg)(tg:Ud)(J:It)(fp:Tb)(it:Uc)(tn:Nat->Heap->Prop):Prop where
 mem:it∈fp
 obj:∀i h,tn i h->∀b∈fp,∃o,h.get? b=Z o/\∀v,o.data≠.cell v
 keep:∀i h h',tn i h->(∀b∈fp,∀o,h.get? b=Z o->h'.get? b=Z o)->tn i h'
 item:∀(X:Cx),X.prog=P->X.w=w->X.K=K->X.calm=true->∀(i:Nat)(pins:T2)(s:Ub)(σ:St)(H:Hp)(E:T1),Inv X pins σ H s->(∀b∈fp,sA X pins H b)->tn i s.heap->J.go i H->
  wpAny (model P w) X.A (pyNext (.ref it)) (fun r s1=>∃u,r=Z u /\
   wpAny (model P w) X.A (letOwnedTupleGo tg (.ref it) u) (fun _ s2=>∃x H',Inv X pins σ H' s2/\RelV x u/\J.yld i H x H'/\tn (i+1) s2.heap/\∀b∈fp,H' b=Y) E s1) E s
 done:∀(X:Cx),X.prog=P->X.w=w->X.K=K->X.calm=true->∀(i:Nat)(pins:T2)(s:Ub)(σ:St)(H:Hp)(E:T1),Inv X pins σ H s->(∀b∈fp,sA X pins H b)->tn i s.heap->J.stop i H->
  wpAny (model P w) X.A (pyNext (.ref it)) (fun r s1=>r=Y/\Inv X pins σ H s1) E s
 self:∀(A:Uf)(i:Nat)(s:Ub)(Q:T1)(E:T1),tn i s.heap->Q (.ref it) s->wpAny (model P w) A (pyIter (.ref it)) Q E s
abbrev TI:=St->Hp->(It->Hp->Prop)->Prop
def PIE(X:Cx)(pins:T2)(σ:St)(tg:Ud)(R:It->Hp->Prop)(a:Tz)(s2:Ub):Prop:=
 ∃(it:Uc)(fp:Tb)(tn:Nat->Heap->Prop)(J:It)(H':Hp),a=.ref it/\Inv X pins σ H' s2/\Turn X.prog X.w X.K tg J fp it tn/\tn 0 s2.heap/\(∀b∈fp,sA X pins H' b)/\R J H'
def PI(X:Cx)(tg iter:Ud)(a:TI):Prop:=
 ∀(pins:T2)(s:Ub)(σ:St)(H:Hp)(R:It->Hp->Prop),Inv X pins σ H s->a σ H R->
  wpAny (model X.prog X.w) X.A (eval iter X.env) (fun v s1=>wpAny (model X.prog X.w) X.A (pyIter v) (PIE X pins σ tg R) X.xe s1) X.xe s
def TC{A:Uf}{it:Uc}{o:Obj}{Q:Unit->Ub->Prop}(b:s.heap.get? it=Z o)(c:o.cls=.type n)(hd:o.data=.fields vs)
 (hn:["enumerate","zip","dict_itemiterator","dict_reverseitemiterator","odict_iterator","itertools.zip_longest","itertools.pairwise"].contains n=false) (a:Q () s):wpAny M A (letOwnedTupleGo tg (.ref it) u) Q E s:=by
 cases tg<;>first
  |exact B1 a
  |(cases u<;>first
   |exact B1 a
   | (refine A0 (wpAny_load b ?_)
      rw[c,hd];show wpAny M A (if (["enumerate","zip","dict_itemiterator","dict_reverseitemiterator","odict_iterator","itertools.zip_longest","itertools.pairwise"].contains n&&vs[0]?==Z (rawInt _))=true then _ else _) Q E s;rw[B0 (by grind)];exact B1 a))
def Itl(K:Fg)(a:Uc):It:=
 ⟨fun i H=>∃xs x,SqL K H a xs/\xs[i]?=Z x,fun i H x H'=>H'=H/\∀xs,SqL K H a xs->xs[i]?=Z x,fun i H=>∃xs,SqL K H a xs/\xs.length<=i⟩
def Itt(K:Fg)(a:Uc):It:=
 ⟨fun i H=>∃xs x,SqT K H a xs/\xs[i]?=Z x,fun i H x H'=>H'=H/\∀xs,SqT K H a xs->xs[i]?=Z x,fun i H=>∃xs,SqT K H a xs/\xs.length<=i⟩
noncomputable def Itr(lo:Int)(n:Nat):It:=⟨fun i _=>i<n,fun i H x H'=>H'=H/\x=.int (lo+i),fun i _=>n<=i⟩
def YK{P:Ue}(a it:Uc):Turn P w K tg (Itl K a) [it] it (fun i h=>h.IsListIter it a i) where
 mem:=by simp
 obj:=fun i h st b hb=>by
  have e:b=it:=by grind
  subst e;obtain⟨o,e,c,d⟩:=st;exact⟨o,e,fun v z=>by rw[d]at z;cases z⟩
 keep:=fun i h h' st k=>st.at fun o e=>k it (by simp) o e
 item:=by
  intro X hP hw hK hc i pins s σ H E I hf st hg;subst hP hw hK;obtain⟨xs,x,hq,hx⟩:=hg;obtain⟨its,rv,p,hz⟩:=I.list hq;obtain⟨u,hu,ru⟩:=rv.get hx;obtain⟨f0,f1,f2,f3,f4,f5⟩:=hf it (by simp);refine wpAny_pyNext_list_item st p.isList (by simp;omega) fun h' st' sb=>?_;have I1:=I.turned (t':=s.toks) (fun b o hb e=>(sb.2 b hb).trans e) f0 f1 f3 f4 f5;obtain⟨o,e,c,d⟩:=id st';exact⟨u,rfl,TC e c d (by decide) ⟨x,H,I1,ru,⟨rfl,fun ys hy=>by rw[I.list_inj hy hq];exact hx⟩,st',fun b hb=>(hf b hb).1⟩⟩
 done:=by
  intro X hP hw hK hc i pins s σ H E I hf st hg;subst hP hw hK;obtain⟨xs,hq,hx⟩:=hg;obtain⟨its,rv,p,hz⟩:=I.list hq;obtain⟨f0,f1,f2,f3,f4,f5⟩:=hf it (by simp);have hl:=rv.length;exact wpAny_pyNext_list_end (I.ok.hd hc) st p.isList (by grind) fun h' eb=>⟨rfl,I.turned (fun b o hb e=>eb b o hb e) f0 f1 f3 f4 f5⟩
 self:=fun _ _ _ _ _ st h=>wpAny_pyIter_listiter st h
def RY{P:Ue}(a it:Uc):Turn P w K tg (Itt K a) [it] it (fun i h=>h.IsTupleIter it a i) where
 mem:=by simp
 obj:=fun i h st b hb=>by
  have e:b=it:=by grind
  subst e;obtain⟨o,e,c,d⟩:=st;exact⟨o,e,fun v z=>by rw[d]at z;cases z⟩
 keep:=fun i h h' st k=>st.at fun o e=>k it (by simp) o e
 item:=by
  intro X hP hw hK hc i pins s σ H E I hf st hg;subst hP hw hK;obtain⟨xs,x,hq,hx⟩:=hg;obtain⟨its,rv,p,hz⟩:=I.tuple hq;obtain⟨u,hu,ru⟩:=rv.get hx;obtain⟨f0,f1,f2,f3,f4,f5⟩:=hf it (by simp);refine wpAny_pyNext_tuple_item st p (by simp;omega) fun h' st' sb=>?_;have I1:=I.turned (t':=s.toks) (fun b o hb e=>(sb.2 b hb).trans e) f0 f1 f3 f4 f5;obtain⟨o,e,c,d⟩:=id st';exact⟨u,rfl,TC e c d (by decide) ⟨x,H,I1,ru,⟨rfl,fun ys hy=>by rw[I.tuple_inj hy hq];exact hx⟩,st',fun b hb=>(hf b hb).1⟩⟩
 done:=by
  intro X hP hw hK hc i pins s σ H E I hf st hg;subst hP hw hK;obtain⟨xs,hq,hx⟩:=hg;obtain⟨its,rv,p,hz⟩:=I.tuple hq;obtain⟨f0,f1,f2,f3,f4,f5⟩:=hf it (by simp);have hl:=rv.length;exact wpAny_pyNext_tuple_end (I.ok.hd hc) st p (by grind) fun h' eb=>⟨rfl,I.turned (fun b o hb e=>eb b o hb e) f0 f1 f3 f4 f5⟩
 self:=fun _ _ _ _ _ st h=>wpAny_pyIter_tupleiter st h
def RA{P:Ue}(it:Uc)(lo:Int)(n:Nat):Turn P w K tg (Itr lo n) [it] it (fun i h=>IsRangeIter h it (lo+(i:Nat)*1) ((n:Int)-(i:Nat)) 1) where
 mem:=by simp
 obj:=fun i h st b hb=>by
  have e:b=it:=by grind
  subst e
  exact⟨_,st,fun v z=>by
   have z':=z;cases z'⟩
 keep:=fun i h h' st k=>k it (by simp) _ st
 item:=by
  intro X hP hw hK hc i pins s σ H E I hf st hg;subst hP hw hK;obtain⟨f0,f1,f2,f3,f4,f5⟩:=hf it (by simp);have W:=Walks.range (prog:=X.prog) (w:=X.w) (I.ok.hd hc) it lo 1 n;refine W.item i s _ _ hg st fun v h' tk hv st' kk=>?_;obtain⟨t,rfl⟩:=hv;have I1:Inv X pins σ H { s with heap:=h',toks:=tk }:=I.turned (fun b o hb e=>kk b o (by grind) e) f0 f1 f3 f4 f5;refine⟨_,rfl,TC st' rfl rfl (by decide) ⟨.int (lo+i),H,I1,⟨t,?_⟩,⟨rfl,rfl⟩,st',fun b hb=>(hf b hb).1⟩⟩;rw[Int.mul_one]
 done:=by
  intro X hP hw hK hc i pins s σ H E I hf st hg;subst hP hw hK;obtain⟨f0,f1,f2,f3,f4,f5⟩:=hf it (by simp);exact wpAny_pyNext_range_end (I.ok.hd hc) st (by have:n<=i:=hg;omega) fun h' eb=>⟨rfl,I.turned (fun b o hb e=>eb b o hb e) f0 f1 f3 f4 f5⟩
 self:=fun _ _ _ _ _ st h=>wpAny_pyIter_rangeiter st h
section
variable{X:Cx}{tg:Ud}
def aAt{R:It->Hp->Prop}{E:T1}{lo hi:Int}{t u v:Tok}{tk:Nat}(I:Inv X pins σ H s)(c:-(2 ^ 62)<=lo)(d:lo<2 ^ 62)(f:-(2 ^ 62)<=hi)(g:hi<2 ^ 62)
 (q:R (Itr lo (hi-lo).toNat) H):wpAny (model X.prog X.w) X.A (pyIter (.ref s.heap.objs.size)) (PIE X pins σ tg R) E { s with heap:=s.heap.push { cls:=.type "range",data:=.fields #[.int lo t,.int hi u,.int 1 v] },toks:=tk }:=by
 refine wpAny_pyIter_range (IsRange.new ..) (small_one c d f g) ?_;have a:Inv X pins σ H { s with heap:=s.heap.push { cls:=.type "range",data:=.fields #[.int lo t,.int hi u,.int 1 v] },toks:=tk }:=I.kept fun b o e=>A5 _ e
 refine⟨(s.heap.push { cls:=.type "range",data:=.fields #[.int lo t,.int hi u,.int 1 v] }).objs.size,[(s.heap.push { cls:=.type "range",data:=.fields #[.int lo t,.int hi u,.int 1 v] }).objs.size],_,_,H,rfl,
  a.kept fun b o e=>A5 _ e,RA _ lo (hi-lo).toNat,?_,fun b j=>?_,q⟩
 .have h:lo+((0:Nat):Int)*1=lo:=by simp
  have i:(((hi-lo).toNat:Nat):Int)-((0:Nat):Int)=Builtin.Range.rangeSize lo hi 1:=by rw[rangeSize_one];split<;>omega
  rw[h,i];exact D0 _ rfl
 .have e:b=(s.heap.push { cls:=.type "range",data:=.fields #[.int lo t,.int hi u,.int 1 v] }).objs.size:=by grind
  subst e;exact a.fpOk (B3 _)<|a.hok.fresh<|B3 _
def aGI(a:TA):TI:=fun σ H R=>a σ H fun vs b=>∃j:Int,vs=[.int j]/\-(2 ^ 62)<=j/\j<2 ^ 62/\R (Itr 0 j.toNat) b
def aAc{a:Ud}{c:TA}{p:Pos}(d:Gl X "range")(hm:X.mg "range"=Y)(ha:PA X [a] c)(hs:starEach [a] X.env=[(false,eval a X.env)]:=by rfl):PI X tg (.Call (.Name "range" p) [a] [] pos) (aGI c):=by
 intro pins s σ H R I h;refine Call_<|xP I d hm boot_range<|A0p (thn (ha pos pins s σ H _ I h) fun us s1 ⟨vs,l,f,g,b⟩=>?_) hs rfl;obtain⟨j,e,b,i,q⟩:=b;subst e;cases g with
 |cons r k=>
  cases k;obtain⟨t,rfl⟩:=r;exact call_range_1<|aAt f (by omega) (by omega) b i (by grind)
def aJL(d:TI)(g:TG)(tb:TS):TS:=fun D σ H=>d σ H fun J e=>∃W:Nat->Nat->St->Hp->Prop,(∃m,W 0 m σ e)/\∀i m σ H,W i m σ H->
 (J.stop i H/\D.nx σ H)\/(J.go i H/\∃N:St->Hp->Prop,(∀a H',N a H'->∃c,c<m/\W (i+1) c a H')/\∀x H',J.yld i H x H'->g x σ H' fun b f=>tb { D with nx:=N,ct:=N,bk:=D.nx } b f)
noncomputable def uP(fp:Tb)(h:Heap):T2:=fp.filterMap fun b=>(h.get? b).map fun o=>(b,o)
def fN{fp:Tb}{h:Heap}{b:Uc}{o:Obj}(a:b∈fp)(e:h.get? b=Z o):(b,o)∈uP fp h:=List.mem_filterMap.mpr ⟨b,a,by rw[e];rfl⟩
def FV{p:Uc×Obj}(hp:p∈uP fp h):p.1∈fp/\h.get? p.1=Z p.2:=by
 obtain⟨b,a,e⟩:=List.mem_filterMap.mp hp;cases q:h.get? b with
 |none=>rw[q]at e;cases e
 |some o=>
  rw[q]at e;have c:=E1 e;subst c;exact⟨a,q⟩
def Inv.pinned{fp:Tb}(I:Inv X pins σ H s)(f:∀b∈fp,sA X pins H b)(g:∀b∈fp,∃o,s.heap.get? b=Z o/\∀v,o.data≠.cell v):Inv X (pins++uP fp s.heap) σ H s:=
 I.pins_of fun p h=>(List.mem_append.mp h).elim (fun z=>I.pin p<|C6 _ z) fun z=>by
  obtain⟨a,e⟩:=FV z;obtain⟨f0,f1,f2,_⟩:=f p.1 a;obtain⟨o,c,d⟩:=g p.1 a;rw[e]at c;cases c;exact⟨e,f0,f1,f2,d⟩
def Inv.unpinned{pins pl:T2}(I:Inv X (pins++pl) σ H s):Inv X pins σ H s:=I.pins_of fun p a=>I.pin p<|C6 _<|E4 _ a
def aBV{iter:Ud}{t:Ta}{R:TI}{g:TG}{tb:TS}{pos:Pos}(hp:PassesOwn (model X.prog X.w) X.A X.env X.xe)(S:X.calm=true)(hi:PI X tg iter R)(hg:PG X tg g)(c:PSs X t tb)
 (hs:∀x,foldedSetIterable iter X.env x=pure x:=by intro _;rfl):PS X (.For tg iter t [] pos) (aJL R g tb):=by
 intro pins s σ H D I h;refine wpAny_For (thn (hi pins s σ H _ I h) fun v s1 h1=>thn h1 fun a0 s2 h2=>?_) hs;obtain⟨it,fp,tn,J,H2,e,I2,T,L,f2,W,⟨m0,w0⟩,B⟩:=h2;subst e;have j:∀{H':Hp},(∀b∈fp,H' b=Y)->∀b∈fp,sA X pins H' b:=fun hn b c=>⟨hn b c,(f2 b c).2⟩;refine codeAny_forLoop_any (fun n U=>∃i k H',Inv X pins k H' U/\tn i U.heap/\(∀b∈fp,H' b=Y)/\W i n k H') ?_ m0 ⟨0,σ,H2,I2,L,fun b c=>(f2 b c).1,w0⟩;rintro n s3 ⟨i,l,G,V,C,E,w3⟩;rcases B i n l G w3 with⟨stop,qn⟩|⟨go,N,hN,step⟩
 .refine Y5 hp (thn (T.done X rfl rfl rfl S i pins s3 l G X.xe V (j E) C stop) fun r s4 ⟨M,I4⟩=>?_);subst M;exact A0c ⟨l,G,I4,qn⟩
 .refine Y5 hp (thn (T.item X rfl rfl rfl S i pins s3 l G X.xe V (j E) C go) fun r s4 ⟨u,M,h4⟩=>?_);subst M;refine Y5 hp (thn h4 fun _ s5 ⟨x,H5,I5,r5,y5,z,O⟩=>?_);have P:=I5.pinned (j O)<|T.obj _ _ z;refine Y5 hp (thn (hg _ s5 l H5 x u _ P r5<|step x H5 y5) fun _ s6 ⟨Q,H6,I6,q6⟩=>?_);refine Y5 hp (thn (c _ s6 Q H6 _ I6 q6) fun f s7 y=>?_)
  have again:∀{a:St}{p:Hp},Inv X (pins++uP fp s5.heap) a p s7->N a p->∃m,m<n/\∃i k H',Inv X pins k H' s7/\tn i s7.heap/\(∀b∈fp,H' b=Y)/\W i m k H':=fun{a p} q F=>by
   obtain⟨m',hm,w7⟩:=hN a p F;refine⟨m',hm,i+1,a,p,q.unpinned,T.keep _ _ _ z fun b c o e=>(q.pin (b,o)<|C6 _<|C6 _<|fN c e).1,fun b c=>?_,w7⟩;obtain⟨o,e,d⟩:=T.obj _ _ z b c;exact(q.pin (b,o)<|C6 _<|C6 _<|fN c e).2.1
  cases f with
  |next=>obtain⟨a,p,q,F⟩:=y;exact again q F
  |cont=>obtain⟨a,p,q,F⟩:=y;exact again q F
  |brk=>obtain⟨a,p,q,y⟩:=y;exact⟨a,p,q.unpinned,y⟩
  |ret v=>obtain⟨x7,a,p,q,r7,y⟩:=y;exact⟨x7,a,p,q.unpinned,r7,y⟩
end
abbrev R2:=V->V->Hp->VK->Prop
def OpR(X:Cx)(f:To)(r:R2):Prop:=
 ∀(pins:T2)(s:Ub)(σ:St)(H:Hp)(x y:V)(v u:Tz)(Q:VK),Inv X pins σ H s->RelV x v->RelV y u->r x y H Q->
  wpAny (model X.prog X.w) X.A (f v u) (EP X pins σ Q) X.xe s
def UnR(X:Cx)(f:Tz->Sem Tz)(r:V->Hp->VK->Prop):Prop:=
 ∀(pins:T2)(s:Ub)(σ:St)(H:Hp)(x:V)(v:Tz)(Q:VK),Inv X pins σ H s->RelV x v->r x H Q->
  wpAny (model X.prog X.w) X.A (f v) (EP X pins σ Q) X.xe s
def eX(X:Cx)(f:Tz)(r:Td->Hp->VK->Prop):Prop:=
 ∀(pins:T2)(s:Ub)(σ:St)(H:Hp)(xs:Td)(us:T6)(Q:VK),Inv X pins σ H s->bH xs us->r xs H Q->
  wpAny (model X.prog X.w) X.A (call f us) (EP X pins σ Q) X.xe s
def aMF(X:Cx)(r:V->Hp->(Bool->Hp->Prop)->Prop):Prop:=
 ∀(pins:T2)(s:Ub)(σ:St)(H:Hp)(x:V)(v:Tz)(Q:Bool->Hp->Prop),Inv X pins σ H s->RelV x v->r x H Q->
  wpAny (model X.prog X.w) X.A (truthy v) (TP X pins σ Q) X.xe s
noncomputable def tOp(r:R2)(a tb:TE):TE:=fun σ H Q=>a σ H fun x b=>tb σ b fun y c=>r x y c Q
noncomputable def tUn(r:V->Hp->VK->Prop)(a:TE):TE:=fun σ H Q=>a σ H fun x b=>r x b Q
noncomputable def rI(C:Int->Int->Prop)(g:Int->Int->V):R2:=fun x y H Q=>∃i j,x=.int i/\y=.int j/\C i j/\Q (g i j) H
noncomputable def rI0(g:Int->Int->V):R2:=fun x y H Q=>∃i j,x=.int i/\y=.int j/\Q (g i j) H
def rU(g:Int->V):V->Hp->VK->Prop:=fun x H Q=>∃i,x=.int i/\Q (g i) H
section
variable{X:Cx}{a b c:Ud}{ta tb tc:TE}{pos:Pos}
def aJW(ha:PE X a ta)(j:PE X b tb){pins:T2}{R:V->V->Hp->Prop}(I:Inv X pins σ H s)
 (h:ta σ H fun x i=>tb σ i fun y d=>R x y d) {Q:T1} {f:To}
 (k:∀v u s2 x y d,Inv X pins σ d s2->RelV x v->RelV y u->R x y d->wpAny (model X.prog X.w) X.A (f v u) Q X.xe s2):
 wpAny (model X.prog X.w) X.A (eval a X.env) (fun v e=>wpAny (model X.prog X.w) X.A (eval b X.env) (fun u g=>wpAny (model X.prog X.w) X.A (f v u) Q X.xe g) X.xe e) X.xe s:=by
 refine thn (ha pins s σ H _ I h) fun v s1 ⟨x,i,l,m,n⟩=>?_;refine thn (j pins s1 σ i _ l n) fun u s2 ⟨y,d,o,p,q⟩=>?_;exact k v u s2 x y d o m p q
def aKC(d:OpR X (binaryOp op) r)(ha:PE X a ta)(e:PE X b tb):PE X (.BinOp a op b pos) (tOp r ta tb):=by
 intro pins s σ H Q I h;exact wpAny_BinOp (aJW ha e I h fun v u s2 x y f g i j q=>d pins s2 σ f x y v u Q g i j q)
def aLR{op:UnaryOp}{r:V->Hp->VK->Prop}(d:UnR X (unaryOp op) r)(ha:PE X a ta):PE X (.UnaryOp op a pos) (tUn r ta):=by
 intro pins s σ H Q I h;exact UnaryOp_ (thn (ha pins s σ H _ I h) fun v s1 ⟨x,e,f,g,i⟩=>d pins s1 σ e x v Q f g i)
def opI{f:To}{C:Int->Int->Prop}{g:Int->Int->Int}
 (rule:∀(i j:Int)(t u:Tok)(s:Ub)(Q:T1)(E:T1),C i j->Q (.int (g i j) s.toks) { s with toks:=s.toks+1 }->wpAny (model X.prog X.w) X.A (f (.int i t) (.int j u)) Q E s):
 OpR X f (rI C fun i j=>.int (g i j)):=by
 intro pins s σ H x y v u Q I d e h;obtain⟨i,j,rfl,rfl,k,q⟩:=h;obtain⟨t,rfl⟩:=d;obtain⟨l,rfl⟩:=e;exact rule i j t l s _ _ k ⟨.int (g i j),H,I.tok _,⟨_,rfl⟩,q⟩
def aLp{f:To}{g:Int->Int->Int}
 (rule:∀(i j:Int)(t u:Tok)(s:Ub)(Q:T1)(E:T1),Q (.int (g i j) s.toks) { s with toks:=s.toks+1 }->wpAny (model X.prog X.w) X.A (f (.int i t) (.int j u)) Q E s):
 OpR X f (rI0 fun i j=>.int (g i j)):=by
 intro pins s σ H x y v u Q I d e h;obtain⟨i,j,rfl,rfl,q⟩:=h;obtain⟨t,rfl⟩:=d;obtain⟨k,rfl⟩:=e;exact rule i j t k s _ _ ⟨.int (g i j),H,I.tok _,⟨_,rfl⟩,q⟩
def aGA{f:To}{g:Int->Int->Bool}
 (rule:∀(i j:Int)(t u:Tok)(s:Ub)(Q:T1)(E:T1),Q (.bool (g i j)) s->wpAny (model X.prog X.w) X.A (f (.int i t) (.int j u)) Q E s):
 OpR X f (rI0 fun i j=>.bl (g i j)):=by
 intro pins s σ H x y v u Q I d e h;obtain⟨i,j,rfl,rfl,q⟩:=h;obtain⟨t,rfl⟩:=d;obtain⟨k,rfl⟩:=e;exact rule i j t k s _ _ ⟨.bl (g i j),H,I,rfl,q⟩
def aLb(i j:Int):Prop:=0<=j/\j<=1000000/\i.natAbs<2 ^ 64
def aJq(i j:Int):Prop:=(-(2 ^ 64)<i/\i<2 ^ 64)\/(-(2 ^ 64)<j/\j<2 ^ 64)
def aJq.ok(h:aJq i j):IntMulOk i j:=by
 rcases h with⟨d,e⟩|⟨d,e⟩
 .exact .of_left (intBits_le_64 d e)
 .exact .of_right (intBits_le_64 d e)
def op_add:OpR X (binaryOp .Add) (rI0 fun i j=>.int (i+j)):=aLp fun _ _ _ _ _ _ _ q=>add_int q
def aHC:OpR X (binaryOp .Sub) (rI0 fun i j=>.int (i-j)):=aLp fun _ _ _ _ _ _ _ q=>sub_int q
def aHW:OpR X (binaryOp .Mod) (rI (fun _ j=>0<j) fun i j=>.int (i % j)):=opI fun i j _ _ _ _ _ d q=>by
 exact mod_int' (by omega) (by grind)
def aJM:OpR X (binaryOp .Pow) (rI aLb fun i j=>.int (i ^ j.toNat)):=opI fun _ _ _ _ _ _ _ d q=>pow_int_small d.1 d.2.1 d.2.2 q
def unI{f:Tz->Sem Tz}{g:Int->Int}
 (rule:∀(i:Int)(t:Tok)(s:Ub)(Q:T1)(E:T1),Q (.int (g i) s.toks) { s with toks:=s.toks+1 }->wpAny (model X.prog X.w) X.A (f (.int i t)) Q E s):
 UnR X f (rU fun i=>.int (g i)):=by
 intro pins s σ H x v Q I d h;obtain⟨i,rfl,q⟩:=h;obtain⟨t,rfl⟩:=d;exact rule i t s _ _ ⟨.int (g i),H,I.tok _,⟨_,rfl⟩,q⟩
def aIs:UnR X (unaryOp .USub) (rU fun i=>.int (-i)):=unI fun _ _ _ _ _ q=>neg_int q
end
noncomputable def aLy:V->V->Bool
 |.non,.non=>true|.non,.int _=>true|.int _,.non=>true|.non,.bl _=>true|.bl _,.non=>true|.non,.str _=>true|.str _,.non=>true
 |.int _,.int _=>true|.bl _,.bl _=>true|.str _,.str _=>true|.byt _,.byt _=>true
 |.int _,.str _=>true|.str _,.int _=>true|.bl _,.str _=>true|.str _,.bl _=>true
 |_,_=>false
def rEq:R2:=fun x y H Q=>aLy x y=true/\Q (.bl (decide (x=y))) H
def rNe:R2:=fun x y H Q=>aLy x y=true/\Q (.bl (!decide (x=y))) H
def VA:decide (V.int i=V.int j)=(i==j):=by
 rw[Z2];simp
def aBF:decide (V.bl i=V.bl j)=(i==j):=by
 rw[Z2];simp
def UI:decide (V.str i=V.str j)=(i==j):=by
 rw[Z2];simp
def WC:decide (V.byt i=V.byt j)=(i.toList==j.toList):=by
 rw[Z2];cases i;cases j;simp
section
variable{X:Cx}{a b c:Ud}{ta tb tc:TE}{pos:Pos}
def bZ{Q:VK}{k':Bool}(I:Inv X pins σ H s)(q:Q (.bl k) H)(e:k=k'):EP X pins σ Q (.bool k') s:=by
 subst e;exact⟨.bl k,H,I,rfl,q⟩
def op_eq:OpR X (compareOp .Eq) rEq:=by
 intro pins s σ H x y v u Q I f d h;obtain⟨hs,q⟩:=h;cases x with
 |non=>
  cases f;cases y with
  |non=>cases d;exact PySem.EqNone.eq_none_none<|bZ I q (by simp)
  |bl j=>cases d;exact PySem.EqNone.eq_none_bool<|bZ I q (by simp)
  |int j=>obtain⟨e,rfl⟩:=d;exact PySem.EqNone.eq_none_int<|bZ I q (by simp)
  |str j=>obtain⟨e,rfl⟩:=d;exact PySem.EqNone.eq_none_str<|bZ I q (by simp)
  |_=>exact absurd hs B2
 |bl i=>
  cases f;cases y with
  |non=>cases d;exact PySem.EqNone.eq_bool_none<|bZ I q (by simp)
  |bl j=>cases d;exact eq_bool<|bZ I q aBF
  |str j=>obtain⟨e,rfl⟩:=d;exact PySem.EqMixed.eq_bool_str<|bZ I q (by simp)
  |_=>exact absurd hs B2
 |int i=>
  obtain⟨t,rfl⟩:=f;cases y with
  |non=>cases d;exact PySem.EqNone.eq_int_none<|bZ I q (by simp)
  |int j=>obtain⟨e,rfl⟩:=d;exact eq_int<|bZ I q VA
  |str j=>obtain⟨e,rfl⟩:=d;exact PySem.EqMixed.eq_int_str<|bZ I q (by simp)
  |_=>exact absurd hs B2
 |str i=>
  obtain⟨t,rfl⟩:=f;cases y with
  |non=>cases d;exact PySem.EqNone.eq_str_none<|bZ I q (by simp)
  |bl j=>cases d;exact PySem.EqMixed.eq_str_bool<|bZ I q (by simp)
  |int j=>obtain⟨e,rfl⟩:=d;exact PySem.EqMixed.eq_str_int<|bZ I q (by simp)
  |str j=>obtain⟨e,rfl⟩:=d;exact eq_str<|bZ I q UI
  |_=>exact absurd hs B2
 |byt i=>
  obtain⟨t,rfl⟩:=f;cases y with
  |byt j=>obtain⟨e,rfl⟩:=d;exact W.eq_bytes<|bZ I q WC
  |_=>exact absurd hs B2
 |_=>cases y<;>exact absurd hs B2
def op_ne:OpR X (compareOp .NotEq) rNe:=by
 intro pins s σ H x y v u Q I f d h;obtain⟨hs,q⟩:=h;cases x with
 |non=>
  cases f;cases y with
  |non=>cases d;exact PySem.EqNone.ne_none_none<|bZ I q (by simp)
  |bl j=>cases d;exact PySem.EqNone.ne_none_bool<|bZ I q (by simp)
  |int j=>obtain⟨e,rfl⟩:=d;exact PySem.EqNone.ne_none_int<|bZ I q (by simp)
  |str j=>obtain⟨e,rfl⟩:=d;exact PySem.EqNone.ne_none_str<|bZ I q (by simp)
  |_=>exact absurd hs B2
 |bl i=>
  cases f;cases y with
  |non=>cases d;exact PySem.EqNone.ne_bool_none<|bZ I q (by simp)
  |bl j=>cases d;exact ne_bool<|bZ I q<|S0 not aBF
  |str j=>obtain⟨e,rfl⟩:=d;exact PySem.EqMixed.ne_bool_str<|bZ I q (by simp)
  |_=>exact absurd hs B2
 |int i=>
  obtain⟨t,rfl⟩:=f;cases y with
  |non=>cases d;exact PySem.EqNone.ne_int_none<|bZ I q (by simp)
  |int j=>obtain⟨e,rfl⟩:=d;exact ne_int<|bZ I q<|S0 not VA
  |str j=>obtain⟨e,rfl⟩:=d;exact PySem.EqMixed.ne_int_str<|bZ I q (by simp)
  |_=>exact absurd hs B2
 |str i=>
  obtain⟨t,rfl⟩:=f;cases y with
  |non=>cases d;exact PySem.EqNone.ne_str_none<|bZ I q (by simp)
  |bl j=>cases d;exact PySem.EqMixed.ne_str_bool<|bZ I q (by simp)
  |int j=>obtain⟨e,rfl⟩:=d;exact PySem.EqMixed.ne_str_int<|bZ I q (by simp)
  |str j=>obtain⟨e,rfl⟩:=d;exact ne_str<|bZ I q<|S0 not UI
  |_=>exact absurd hs B2
 |byt i=>
  obtain⟨t,rfl⟩:=f;cases y with
  |byt j=>obtain⟨e,rfl⟩:=d;exact W.ne_bytes<|bZ I q<|S0 not WC
  |_=>exact absurd hs B2
 |_=>cases y<;>exact absurd hs B2
def aLS:OpR X (compareOp .Lt) (rI0 fun i j=>.bl (decide (i<j))):=aGA fun _ _ _ _ _ _ _ q=>lt_int q
def aKE:OpR X (compareOp .LtE) (rI0 fun i j=>.bl (decide (i<=j))):=aGA fun _ _ _ _ _ _ _ q=>le_int q
def aLf:OpR X (compareOp .Gt) (rI0 fun i j=>.bl (decide (j<i))):=aGA fun _ _ _ _ _ _ _ q=>gt_int q
def aLn:OpR X (compareOp .GtE) (rI0 fun i j=>.bl (decide (j<=i))):=aGA fun _ _ _ _ _ _ _ q=>ge_int q
def XB:OpR X (compareOp .In) (fun x y H Q=>∃i j,x=.str i/\y=.str j/\Q (.bl (!(Builtin.Str.occurrences j i 0 j.length 1).isEmpty)) H):=by
 intro pins s σ H x y v u Q I d e h;obtain⟨i,j,rfl,rfl,q⟩:=h;obtain⟨t,rfl⟩:=d;obtain⟨f,rfl⟩:=e;exact in_str<|bZ I q rfl
def aHq:OpR X (compareOp .Is) (fun x y H Q=>y=.non/\Q (.bl (decide (x=.non))) H):=by
 intro pins s σ H x y v u Q I d e h;obtain⟨rfl,q⟩:=h;cases e;refine is_none_gen<|bZ I q ?_
 cases x<;>first
  |(cases d;rfl)
  |(obtain⟨t,rfl⟩:=d;rfl)
def aET:OpR X (compareOp .IsNot) (fun x y H Q=>y=.non/\Q (.bl (!decide (x=.non))) H):=by
 intro pins s σ H x y v u Q I d e h;obtain⟨rfl,q⟩:=h;cases e;refine isnot_none_gen<|bZ I q ?_
 cases x<;>first
  |(cases d;rfl)
  |(obtain⟨t,rfl⟩:=d;rfl)
def OpR.or(h:OpR X f r)(h':OpR X f d):OpR X f (fun x y H Q=>r x y H Q\/d x y H Q):=by
 intro pins s σ H x y v u Q I e g q;rcases q with q|q
 .exact h pins s σ H x y v u Q I e g q
 .exact h' pins s σ H x y v u Q I e g q
def aFQ(d:OpR X (compareOp op) r)(ha:PE X a ta)(e:PE X b tb)(hm:behindInMarks op b=false):PE X (.Compare a [op] [b] pos) (tOp r ta tb):=by
 intro pins s σ H Q I h;exact wpAny_Compare1 (aJW ha e I h fun v u s2 x y f g i j q=>d pins s2 σ f x y v u Q g i j q) hm
noncomputable def aBJ(t:TE):TT:=fun σ H Q=>t σ H fun x H'=>∃k,x=.bl k/\Q k H'
def aEQ{op:CmpOp}{r:R2}(d:OpR X (compareOp op) r)(ha:PE X a ta)(f:PE X b tb)(hm:behindInMarks op b=false):PT X (.Compare a [op] [b] pos) (aBJ<|tOp r ta tb):=by
 intro pins s σ H Q I h
 refine wpAny_isTrue_Compare1 (thn (ha pins s σ H _ I h) fun v s1 ⟨x,g,i,j,l⟩=>thn (f pins s1 σ g _ i l) fun u s2 ⟨y,m,n,o,p⟩=>
  thn (d pins s2 σ m x y v u _ n j o p) fun c s3 ⟨z,q,t,w,k,e,B⟩=>?_) hm
 subst e;cases w;exact O8 ⟨q,t,B⟩
noncomputable def QD(r e:R2)(ta tb tc:TE):TE:=fun σ H Q=>ta σ H fun x f=>tb σ f fun y g=>r x y g fun z d=>∃k,z=.bl k /\
 (if k=true then tc σ d fun h i=>e y h i Q else Q (.bl false) d)
def aCr{op f:CmpOp}{r i:R2}(o:OpR X (compareOp op) r)(g:OpR X (compareOp f) i)(ha:PE X a ta)(p:PE X b tb)(q:PE X c tc)
 (hm:lastMarks [op,f] [b,c]=false:=by with_unfolding_all rfl):PE X (.Compare a [op,f] [b,c] pos) (QD r i ta tb tc):=by
 intro pins s σ H Q I h
 refine Compare_chain (thn (ha pins s σ H _ I h) fun v s1 ⟨x,t,w,B,C⟩=>chain_link (thn (p pins s1 σ t _ w C) fun u s2 ⟨y,D,E,j,F⟩=>
  thn (o pins s2 σ D x y v u _ E B j F) fun d s3 ⟨z,l,m,G,k,e,n⟩=>?_)) hm
 subst e;cases G;refine O8 ?_;cases k with
 |false=>exact ite_ff ⟨.bl false,l,m,rfl,n⟩
 |true=>exact ite_tt<|chain_last (thn (q pins s3 σ l _ m n) fun J s4 ⟨L,M,N,O,P⟩=>g pins s4 σ M y L u J Q N j O P)
def aCF(o:OpR X (compareOp op) r)(g:OpR X (compareOp f) i)(ha:PE X a ta)(p:PE X b tb)(q:PE X c tc)
 (hm:lastMarks [op,f] [b,c]=false:=by with_unfolding_all rfl):PT X (.Compare a [op,f] [b,c] pos) (aBJ<|QD r i ta tb tc):=by
 intro pins s σ H Q I h
 refine isTrue_chain (thn (ha pins s σ H _ I h) fun v s1 ⟨x,t,w,B,C⟩=>test_link (thn (p pins s1 σ t _ w C) fun u s2 ⟨y,D,E,j,F⟩=>
  thn (o pins s2 σ D x y v u _ E B j F) fun d s3 ⟨z,l,m,G,k,e,n⟩=>?_)) hm
 subst e;cases G;refine O8 ?_;cases k with
 |false=>
  obtain⟨k',J,L⟩:=n;cases J;exact ite_ff ⟨l,m,L⟩
 |true=>
  refine ite_tt<|test_last (thn (q pins s3 σ l _ m n) fun M s4 ⟨N,O,P,R,S⟩=>thn (g pins s4 σ O y N u M _ P j R S) fun d' s5 ⟨z2,T,U,V,k2,W,q5⟩=>?_);subst W;cases V;exact O8 ⟨T,U,q5⟩
def aCX(K:Fg)(x:V)(H:Hp)(k:Bool):Prop:=
 match x with
 |.non=>k=false
 |.bl b=>k=b
 |.int i=>k=(i != 0)
 |.str y=>y.length<=sizeLine/\k=((y.length:Int) != 0)
 |.byt y=>y.size<=sizeLine/\k=((y.size:Int) != 0)
 |.ref p=>(∃xs,SqL K H p xs/\k=!xs.isEmpty)\/(∃xs,SqT K H p xs/\k=!xs.isEmpty)\/∃kvs,H p=Z (.dK kvs)/\k=!kvs.isEmpty
 |_=>False
def RW{d:Type}{kvs:Tw (d×V)}{vs:Tw (d×Tz)}(r:KV kvs vs):(!vs.isEmpty)=!kvs.isEmpty:=by
 cases r<;>rfl
def AE(r:bH xs its):(!its.toArray.isEmpty)=!xs.isEmpty:=by
 cases r<;>simp
def xA:(sizeLine:Nat)<2 ^ 63:=by rw[O6];decide
def aIt:aMF X (fun x H Q=>∃k,aCX X.K x H k/\Q k H):=by
 intro pins s σ H x v Q I g h;obtain⟨k,e,q⟩:=h;have hs:=O6;cases x with
 |non=>
  cases g;have d:=e;subst d;exact truthy_none ⟨H,I,q⟩
 |bl b=>
  cases g;have d:=e;subst d;exact O8 ⟨H,I,q⟩
 |int i=>
  obtain⟨t,rfl⟩:=g;have d:=e;subst d;exact PySem.P.truthy_int ⟨H,I,q⟩
 |str y=>
  obtain⟨t,rfl⟩:=g;obtain⟨n,d⟩:=e;subst d;exact PySem.P.truthy_str (by omega) ⟨H,I.tok _,q⟩
 |byt y=>
  obtain⟨t,rfl⟩:=g;obtain⟨n,d⟩:=e;subst d;exact W.truthy_bytes (by omega) ⟨H,I.tok _,q⟩
 |ref p=>
  cases g;have d:=e;rcases d with⟨xs,j,d⟩|⟨xs,j,d⟩|⟨kvs,j,d⟩
  .subst d;obtain⟨its,r,pl,l⟩:=I.list j;have f:=r.length;exact wpAny_truthy_list pl.isList (by grind) ⟨H,I.tok _,by rw[AE r];exact q⟩
  .subst d;obtain⟨its,r,pl,l⟩:=I.tuple j;have f:=r.length;exact truthy_tuple pl (by grind) ⟨H,I.tok _,by rw[AE r];exact q⟩
  .subst d;obtain⟨l,hS,vs,r,m⟩:=I.hok p _ j;have f:=Paired.length r;exact wpAny_truthy_dict hS m (by omega) ⟨H,I.tok _,by rw[RW r];exact q⟩
 |_=>exact e.elim
def aBy(ha:PE X a ta)(e:∀d,isTrue a X.env d=(do let v <- d;standAt a.pos;holding [v]<|truthy v)):
 PT X a (fun σ H Q=>ta σ H fun x H'=>∃k,aCX X.K x H' k/\Q k H'):=by
 intro pins s σ H Q I h;exact isTrue_plain (thn (ha pins s σ H _ I h) fun v s1 ⟨x,f,g,i,j⟩=>aIt pins s1 σ f x v Q g i j)<|e _
def QR:OpR X (binaryOp .Add) (fun x y H Q=>∃i j,x=.str i/\y=.str j/\i.length+j.length<=sizeLine/\Q (.str (i++j)) H):=by
 intro pins s σ H x y v u Q I d e h;obtain⟨i,j,rfl,rfl,f,q⟩:=h;obtain⟨t,rfl⟩:=d;obtain⟨g,rfl⟩:=e;exact add_str (fun g tk=>⟨.str (i++j),H,I.tok _,⟨_,rfl⟩,q⟩) f
def vals1{x:V}{us:T6}(r:bH [x] us):∃u,us=[u]/\RelV x u:=by
 cases r with
 |cons d e=>cases e;exact⟨_,rfl,d⟩
def vals2{x y:V}{us:T6}(r:bH [x,y] us):∃u d,us=[u,d]/\RelV x u/\RelV y d:=by
 cases r with
 |cons e f=>
  cases f with
  |cons g h=>cases h;exact⟨_,_,rfl,e,g⟩
def YL(e:X.calm=true):eX X (.builtin "max") (fun xs H Q=>∃i j,xs=[.int i,.int j]/\Q (.int (if j > i then j else i)) H):=by
 intro pins s σ H xs us Q I r h;obtain⟨i,j,rfl,q⟩:=h;obtain⟨u,f,rfl,⟨t,rfl⟩,⟨g,rfl⟩⟩:=vals2 r;refine max_two_ints (I.ok.hd e) fun h' tk k=>⟨_,H,I.kept k,?_,q⟩;by_cases d:j > i
 .rw[A4 d,A4 d];exact⟨_,rfl⟩
 .rw[B0 d,B0 d];exact⟨_,rfl⟩
def WQ(e:X.calm=true):eX X (.builtin "min") (fun xs H Q=>∃i j,xs=[.int i,.int j]/\Q (.int (if j<i then j else i)) H):=by
 intro pins s σ H xs us Q I r h;obtain⟨i,j,rfl,q⟩:=h;obtain⟨u,f,rfl,⟨t,rfl⟩,⟨g,rfl⟩⟩:=vals2 r;refine min_two_ints (I.ok.hd e) fun h' tk k=>⟨_,H,I.kept k,?_,q⟩;by_cases d:j<i
 .rw[A4 d,A4 d];exact⟨_,rfl⟩
 .rw[B0 d,B0 d];exact⟨_,rfl⟩
def JQ:eX X (.type "str") (fun xs H Q=>∃i,xs=[.int i]/\i.natAbs.log2<1920/\Q (.str (toString i)) H):=by
 intro pins s σ H xs us Q I r h;obtain⟨i,rfl,d,q⟩:=h;obtain⟨u,rfl,t,rfl⟩:=vals1 r;exact PySem.P.str_of_int d ⟨.str _,H,I.tok _,⟨_,rfl⟩,q⟩
def aKU(K:Fg)(x:V)(H:Hp)(n:Nat):Prop:=
 match x with
 |.str y=>y.length<=sizeLine/\n=y.length
 |.byt y=>y.size<=sizeLine/\n=y.size
 |.ref p=>(∃xs,SqL K H p xs/\n=xs.length)\/∃xs,SqT K H p xs/\n=xs.length
 |_=>False
def aCK:eX X (.builtin "len") (fun xs H Q=>∃x n,xs=[x]/\aKU X.K x H n/\Q (.int n) H):=by
 intro pins s σ H xs us Q I r h;obtain⟨x,n,rfl,e,q⟩:=h;obtain⟨u,rfl,g⟩:=vals1 r;have m:=xA;have hs:sizeLine=16777216:=O6;cases x with
 |str y=>
  obtain⟨t,rfl⟩:=g;obtain⟨k,f⟩:y.length<=sizeLine/\n=y.length:=e;subst f;exact len_str (by omega) ⟨.int _,H,I.tok _,⟨_,rfl⟩,q⟩
 |byt y=>
  obtain⟨t,rfl⟩:=g;obtain⟨k,f⟩:y.size<=sizeLine/\n=y.size:=e;subst f;exact W.len_bytes (by omega) ⟨.int _,H,I.tok _,⟨_,rfl⟩,q⟩
 |ref p=>
  cases g;have f:(∃xs,SqL X.K H p xs/\n=xs.length)\/∃xs,SqT X.K H p xs/\n=xs.length:=e;rcases f with⟨xs,i,f⟩|⟨xs,i,f⟩
  .subst f;obtain⟨its,j,pl,l⟩:=I.list i;have d:=j.length;exact Calls.call_len_list pl.isList (by simp only[List.size_toArray];omega) ⟨.int xs.length,H,I.tok _,⟨_,by simp only[List.size_toArray];rw[d]⟩,q⟩
  .subst f;obtain⟨its,j,pl,l⟩:=I.tuple i;have d:=j.length;exact len_tuple pl (by simp only[List.size_toArray];omega) ⟨.int xs.length,H,I.tok _,⟨_,by simp only[List.size_toArray];rw[d]⟩,q⟩
 |_=>exact(show False from e).elim
end
structure aDF(h:Heap)(x dx C:Uc)(mA:Str->Tg):Prop where
 obj:h.get? x=Z (W.instObj C dx)
 ns:h.Ns1 dx mA
 ne:dx≠x
def GP{h:Heap}(n:h.Ns1 dx mA):∃od,h.get? dx=Z od/\∀b,W.lookIn b od=Z (mA b):=by
 obtain⟨o,es,ep,d,hd,f,_,hm⟩:=n;refine⟨o,d,fun b=>?_⟩;have e:=hm b;unfold nsFind findBy at e;rw[<- Array.find?_toList]at e;unfold W.lookIn;rw[hd];dsimp only;split
 .rename_i y q;rw[q]at e;exact S0 Z e
 .rename_i q;rw[q]at e
  have a:es.toList.any (·.refKey)=false:=by
   rw[List.any_eq_false];intro y g;obtain⟨z,t,c⟩:=f y<|Array.mem_toList_iff.mp g;simp[DictEntry.refKey,c]
  have i:¬es.toList.any (·.refKey)=true:=by grind
  rw[B0 i];exact S0 Z e
def aDF.look(I:aDF h x dx C mA):∃od,W.InstAt h x (W.instObj C dx) C (Z od)/\∀a,W.lookIn a od=Z (mA a):=
 let⟨od,b,c⟩:=GP I.ns
 ⟨od,⟨I.obj,rfl,rfl,b⟩,c⟩
section
variable{prog:Ue}{w:World}{A:Uf}{E:T1}{s:Ub}{K:Fg}{x dx C f:Uc}{mA:Str->Tg}{name:Str}{v:Tz}
def aFv{Q:Unit->Ub->Prop}(X:K.In s.heap)(I:aDF s.heap x dx C mA)
 (hs:W.findIn K (.ref C) "__setattr__"=Z (Z (.builtin "object.__setattr__"))) (hp:W.plainOver K C=true) (ht:W.takerIn K C name=Z Y) (j:W.hasDictIn K C=true)
 (k:PySem.Within mA ns) (l:ns.length<=sizeLine)
 (h:∀h',aDF h' x dx C (fun y=>if y=name then Z v else mA y)->Heap.SameBut dx s.heap h'->Q () { s with heap:=h',toks:=s.toks+2 }):
 wpAny (model prog w) A (setAttr (.ref x) name v) Q E s:=by
 obtain⟨od,J,q⟩:=I.look;refine W.set_plain X J hs (W.osa_open X J hp ht fun b=>?_);obtain⟨r,m,d⟩:=W.any_some j;have n:=I.obj;refine A0<|B1<|A0<|A0<|A0v n<|A0<|U0 (W.looks_clsIn X m) ?_;rw[d];refine B1<|A0<|B1<|A0 ?_;refine wpAny_nsSet1 I.ns fun h' a c=>?_;obtain⟨t,o,p,e,g,i⟩:=a.count<|PySem.Within.cons name v k;refine A0<|wpAny_lookBehind e (by rw[g];exact pastItsLine_dict<|E7 i (by grind)) ?_;exact B1<|h _ ⟨(c.2 _<|O1 I.ne).trans I.obj,a,I.ne⟩ c
def aDj{R:Result->Ub->Prop}{vs:T6}{a:Tu}(X:K.In s.heap)(hm:W.makesIn K C=true)
 (hi:W.findIn K (.ref C) "__init__"=Z (Z (.ref f))) (b:W.typeIn K (.ref f)=Z (.type "function"))
 (h:codeAny (model prog w) (A.under (.builtin "type.__call__" ⟨.ref C::vs,a⟩)) (.call (.ref f) ⟨.ref (s.heap.objs.size+1)::vs,a⟩) (W.InitBack (s.heap.objs.size+1) R)
  { s with heap:=(s.heap.push W.emptyDict).push (W.instObj C s.heap.objs.size) }):
 codeAny (model prog w) A (.call (.ref C) ⟨vs,a⟩) R s:=by
 obtain⟨c,g,d,t,os⟩:=s;exact W.make_core (W.makes_of X hm) (Y6 X hi) (fun self=>W.bind_fn X self b) (.inl rfl) h
end
noncomputable def nP(f:Str)(v:V):Tw (Str×V)->Tw (Str×V)
 |[]=>[(f,v)]
 |(g,x)::r=>if g=f then(g,v)::r else(g,x)::nP f v r
theorem xU(f g:Str)(v:V):∀fs:Tw (Str×V),(nP f v fs).lookup g=if g=f then Z v else fs.lookup g
 |[]=>by
  show List.lookup g [(f,v)]=_;by_cases h:g=f
  .have a:=beq_iff_eq.mpr h;simp only[List.lookup,a,if_pos h]
  .have a:=beq_eq_false_iff_ne.mpr h;simp only[List.lookup,a,if_neg h]
 |(k,x)::r=>by
  have ih:=xU f g v r;rw[show nP f v ((k,x)::r)=(if k=f then(k,v)::r else(k,x)::nP f v r)from rfl];by_cases b:k=f
  .rw[A4 b];by_cases h:g=k
   .have a:=beq_iff_eq.mpr h;simp only[List.lookup,a,if_pos<|h.trans b]
   .have a:=beq_eq_false_iff_ne.mpr h;simp only[List.lookup,a,if_neg (fun e:g=f=>h<|e.trans b.symm)]
  .rw[B0 b];by_cases h:g=k
   .have a:=beq_iff_eq.mpr h;simp only[List.lookup,a,if_neg (fun e:g=f=>b<|h.symm.trans e)]
   .have a:=beq_eq_false_iff_ne.mpr h;simp only[List.lookup,a];exact ih
theorem wR(f:Str)(v:V):∀fs:Tw (Str×V),f∈(nP f v fs).map (·.1)/\∀g,g∈fs.map (·.1)->g∈(nP f v fs).map (·.1)
 |[]=>⟨by simp[nP],fun g h=>by simp at h⟩
 |(k,x)::r=>by
  obtain⟨b,c⟩:=wR f v r;rw[show nP f v ((k,x)::r)=(if k=f then(k,v)::r else(k,x)::nP f v r)from rfl];by_cases a:k=f
  .rw[A4 a];subst a;exact⟨by simp,fun g h=>by simpa using h⟩
  .rw[B0 a];refine⟨?_,fun g h=>?_⟩
   .rw[B4];exact C0 _ b
   .rw[B4]at h ⊢;rcases List.mem_cons.mp h with e|e
    .exact List.mem_cons.mpr (.inl e)
    .exact C0 _<|c g e
theorem yI(f:Str)(v:V):∀fs:Tw (Str×V),(nP f v fs).length<=fs.length+1
 |[]=>by simp[nP]
 |(k,x)::r=>by
  have ih:=yI f v r;rw[show nP f v ((k,x)::r)=(if k=f then(k,v)::r else(k,x)::nP f v r)from rfl];by_cases a:k=f
  .rw[A4 a,B5,B5];omega
  .rw[B0 a,B5,B5];omega
def xS.some_of{v:V}(r:xS (Z v) o):∃u,o=Z u/\RelV v u:=by
 cases o with
 |none=>exact r.elim
 |some u=>exact⟨u,rfl,r⟩
def ZY(r:RelV v u):W.handedIn u=true:=by
 cases v with
 |non=>cases r;rfl
 |bl b=>cases r;rfl
 |int i=>obtain⟨t,e⟩:=r;cases e;rfl
 |str x=>obtain⟨t,e⟩:=r;cases e;rfl
 |byt b=>obtain⟨t,e⟩:=r;cases e;rfl
 |flt b=>obtain⟨t,e⟩:=r;cases e;rfl
 |ref a=>cases r;rfl
 |ty n=>cases r;rfl
section
variable{P:Ue}{w:World}{H H':Hp}{h h':Heap}{a C dx:Uc}{fs fs':Tw (Str×V)}
def aFi(hok:HOk P w H h)(e:H a=Z (.ins C dx fs)):∃mA,aDF h a dx C mA/\(∀f,xS (fs.lookup f)<|mA f)/\PySem.Within mA (fs.map (·.1))/\fs.length<=1000/\H dx=Z (.own a):=by
 obtain⟨d,z,ne,ob,mA,n,r,q⟩:=(hok a _ e);exact⟨mA,⟨ob,n,ne⟩,r,q,z,d⟩
end
structure Cls(K:Fg)(C:Uc):Prop where
 pg:W.plainGet K C Str.empty=true
 hd:W.hasDictIn K C=true
 po:W.plainOver K C=true
 sa:W.findIn K (.ref C) "__setattr__"=Z (Z (.builtin "object.__setattr__"))
def lH(K:Fg)(C:Uc)(f:Str):Prop:=W.findIn K (.ref C) f=Z Y
def lH.taker(n:lH K C f):W.takerIn K C f=Z Y:=by
 unfold W.takerIn;rw[show W.findIn K (.ref C) f=Z Y from n];rfl
section
variable{X:Cx}{pins:T2}{σ:St}{H:Hp}{s:Ub}{a C dx:Uc}{fs:Tw (Str×V)}{f:Str}{v:V}{A:Uf}{E:T1}
def RP{Q:Unit->Ub->Prop}(I:Inv X pins σ H s)(e:H a=Z (.ins C dx fs))(c:Cls X.K C)(n:lH X.K C f)(D:fs.length<1000)(l:RelV y u)
 (h:∀i,Inv X pins σ (upd H a (.ins C dx (nP f y fs))) i->Q () i):wpAny (model X.prog X.w) A (setAttr (.ref a) f u) Q E s:=by
 obtain⟨mA,O,r,j,_,k⟩:=aFi I.hok e;have m:(fs.map (·.1)).length<=sizeLine:=by rw[A3,O6];omega
 refine aFv I.kIn O c.sa c.po n.taker c.hd j m fun h' d p=>h _ ?_;have hd:∃o,h'.get? dx=Z o:=let⟨o,_,_,t,_⟩:=d.ns;⟨o,t⟩;refine I.write (by rw[e];exact True.intro) (.inr k) (fun b q x z=>(p.2 b x).trans z) hd ?_;refine⟨by rw[aK O.ne];exact k,?_,O.ne,d.obj,_,d.ns,fun g=>?_,fun g B=>?_⟩
 .have:=yI f y fs;omega
 .show xS ((nP f y fs).lookup g) (if g=f then Z u else mA g);rw[xU];by_cases q:g=f
  .rw[A4 q,A4 q];exact l
  .rw[B0 q,B0 q];exact r g
 .by_cases q:g=f
  .rw[q];exact(wR f y fs).1
  .refine(wR f y fs).2 g (j g fun z=>B ?_);show(if g=f then Z u else mA g)=Y;rw[B0 q];exact z
def Inv.made(I:Inv X pins σ H s):Inv X pins σ (upd (upd H s.heap.objs.size (.own (s.heap.objs.size+1))) (s.heap.objs.size+1) (.ins C s.heap.objs.size []))
 { s with heap:=(s.heap.push W.emptyDict).push (W.instObj C s.heap.objs.size) }:=by
 have c:(s.heap.push W.emptyDict).get? s.heap.objs.size=Z W.emptyDict:=D0 s.heap rfl
 have d:((s.heap.push W.emptyDict).push (W.instObj C s.heap.objs.size)).get? (s.heap.objs.size+1)=Z (W.instObj C s.heap.objs.size):=by
  have:=D0 (s.heap.push W.emptyDict) (o:=W.instObj C s.heap.objs.size) rfl
  rwa [A0i]at this
 have g:(s.heap.push W.emptyDict).Ns s.heap.objs.size (fun _=>Y):=⟨W.emptyDict,#[],_,c,rfl,(fun e h=>absurd h (by simp)),fun _=>rfl⟩;have i:=I.laid (o:=.own (s.heap.objs.size+1)) (t':=s.toks) (fun b u q=>A5 _ q) (B3 _) ⟨_,c⟩;refine i.laid (fun b u q=>A5 _ q) (Nat.le_of_eq<|A0i _ _) ?_;have ne:s.heap.objs.size≠s.heap.objs.size+1:=D1<|S1 _;refine⟨by rw[aK ne,aX],O4 _,ne,d,fun _=>Y,(Heap.Ns1.of_empty g).at fun o q=>A5 _ q,fun _=>True.intro,fun y j=>absurd rfl j⟩
def aGc{f:Str}{pos:Pos}{s:Ub}(c:attributeBase e f env (eval e env)=eval e env)
 (h:wpAny (model prog w) A (eval e env) (fun o b=>wpAny (model prog w) A (getAttr o f true) Q E b) E s):wpAny (model prog w) A (eval (.Attribute e f pos) env) Q E s:=
 Attribute_any_ h (by rw[arm_eval_Attribute,c])
end
def aEq(K:Fg)(c d:TE)(f:Str):TS:=fun D σ H=>d σ H fun y e=>c σ e fun x b=>∃a C dx fs,x=.ref a/\b a=Z (.ins C dx fs)/\Cls K C/\lH K C f/\fs.length<1000 /\
 D.nx σ (upd b a (.ins C dx (nP f y fs)))
section
variable{X:Cx}{o e value:Ud}{f:Str}{pos pos' tpos:Pos}{ta tv:TE}
def aAR(ha:PE X o ta)(b:PE X value tv)(hs:swapsWith value (Z (.Attribute o f pos')) pos.line X.env=pure false):PS X (.Assign [.Attribute o f pos'] value pos) (aEq X.K ta tv f):=by
 intro pins s σ H D I h;refine plainObj_wpAny_Assign_Attribute (thn (b pins s σ H _ I h) fun u s1 ⟨y,d,g,i,q⟩=>thn (ha pins s1 σ d _ g q) fun ov s2 j=>?_) hs;obtain⟨x,v,k,m,a,C,dx,fs,ex,p,c,n,l,r⟩:=j;subst ex;obtain rfl:=m;exact RP k p c n l i fun s3 t=>⟨σ,_,t,r⟩
end
structure cK(k:Nat)(A:Uf)(q:Bool:=true):Prop where
 hd:q=true->A.handled=Y
 dp:A.depth+3*k+5<recursionLimit
 un:A.units+16*k+200<cLine
 gd:A.guards=Z []
def cK.mono{j:Nat}(r:cK k A q)(h:j<=k):cK j A q:=⟨r.hd,by have:=r.dp;omega,by have:=r.un;omega,r.gd⟩
def cK.deeper{k:Nat}(r:cK (k+1) A q)(env:Env):cK k (A.deeper env) q:=
 ⟨r.hd,by have:=r.dp;show A.depth+1+3*k+5<_;omega,by have:=r.un;show A.units+3+16*k+200<_;omega,r.gd⟩
def SN{C:Uc}{us:T6}{a:Tu}:(A.under (.builtin "type.__call__" ⟨.ref C::us,a⟩)).depth=A.depth+1:=rfl
def SJ{C:Uc}{us:T6}{a:Tu}:(A.under (.builtin "type.__call__" ⟨.ref C::us,a⟩)).units=A.units+1:=rfl
def MZ{C:Uc}{us:T6}{a:Tu}:(A.under (.builtin "type.__call__" ⟨.ref C::us,a⟩)).guards=A.guards:=rfl
def cK.make{k:Nat}(r:cK (k+1) A q)(C:Uc)(us:T6)(a:Tu):cK k (A.under (.builtin "type.__call__" ⟨.ref C::us,a⟩)) q:=
 ⟨r.hd,by have:=r.dp;rw[SN];omega,by have:=r.un;rw[SJ];omega,by rw[MZ];exact r.gd⟩
def cK.depth(r:cK k A q):A.depth<recursionLimit:=by have:=r.dp;omega
def cK.units(r:cK k A q):A.units+64<cLine:=by have:=r.un;omega
noncomputable def XX:TA:=fun _ H Q=>Q [] H
noncomputable def tG(a:TE)(tr:TA):TA:=fun σ H Q=>a σ H fun x b=>tr σ b fun xs c=>Q (x::xs) c
section
variable{X:Cx}{e:Ud}{es:T9}{te:TE}{t:TA}{pos:Pos}
def CK:PA X [] XX:=fun _ _ _ _ H Q I h=>Calls.spliced_nil ⟨[],H,I,.nil,h⟩
def kH(ha:PE X e te)(a:PA X es t)(hs:starEach (e::es) X.env=(false,eval e X.env)::starEach es X.env:=by rfl):PA X (e::es) (tG te t):=by
 intro pos pins s σ H Q I h;rw[hs];refine Calls.spliced_cons (thn (ha pins s σ H _ I h) fun u s1 ⟨x,b,c,d,f⟩=>?_);exact thn (a pos pins s1 σ b _ c f) fun us s2 ⟨xs,g,i,j,k⟩=>⟨x::xs,g,i,.cons d j,k⟩
def aFj(t:TA):TE:=fun σ H Q=>t σ H fun xs a=>xs.length<=sizeLine/\∀p,a p=Y->Q (.ref p) (upd a p (.tup xs))
def aHF(t:TA):TE:=fun σ H Q=>t σ H fun xs a=>xs.length<=sizeLine/\∀p,a p=Y->Q (.ref p) (upd a p (.lst xs))
def QC{x1}(h:PA X es t):PE X (.Tuple es x1 pos) (aFj t):=by
 intro pins s σ H Q I c;refine wpAny_Tuple_spliced (thn (h pos pins s σ H _ I c) fun us s1 ⟨xs,d,a,r,z,q⟩=>⟨by rw[<- r.length];exact z,?_⟩);have f:=a.hok.fresh<|B3 _;refine⟨.ref s1.heap.objs.size,upd d s1.heap.objs.size (.tup xs),a.laid (fun b u e=>A5 _ e) (B3 _) ?_,rfl,q _ f⟩;exact⟨z,us,r,⟨_,D0 _ rfl,rfl,_,rfl⟩⟩
def aDn(h:PA X es t):PE X (.List es pos) (aHF t):=by
 intro pins s σ H Q I c;refine wpAny_List_spliced (thn (h pos pins s σ H _ I c) fun us s1 ⟨xs,d,a,r,z,q⟩=>⟨by rw[<- r.length];exact z,?_⟩);have f:=a.hok.fresh<|B3 _;refine⟨.ref s1.heap.objs.size,upd d s1.heap.objs.size (.lst xs),a.laid (fun b u e=>A5 _ e) (B3 _) ?_,rfl,q _ f⟩;exact⟨z,us,0,r,D0 _ rfl⟩
end
abbrev Sp:=Td->Hp->VK->XK->Prop
abbrev CXT:=List Env->Hp->Shared->XK->Value->Shared->Prop
structure QV(P:Ue)(w:World)(K:Fg)(mg:Str->Tg)(base:Heap)(A:Uf)(outer:Tw Env)(s:Ub)(H:Hp):Prop where
 frames:A.frames=Z outer
 mod:Mod K mg base
 bs:∀b o,base.get? b=Z o->s.heap.get? b=Z o/\H b=Y
 bsz:base.objs.size<=s.heap.objs.size
 funs:s.heap.FunFrames base outer
 frf:∀b∈frs outer,H b=Y
 hok:HOk P w H s.heap
 bare:AllBare s.gens
def CE(outer:Tw Env)(P:Ue)(w:World)(H:Hp)(s:Ub)(Q:VK)(u:Tz)(a:Ub):Prop:=
 ∃v H',a.os=s.os/\AllBare a.gens/\Un (frs outer) [] H H' s.heap a.heap/\HOk P w H' a.heap/\RelV v u/\Q v H'
def CR(CX:CXT)(outer:Tw Env)(P:Ue)(w:World)(H:Hp)(s:Ub)(Q:VK)(E:XK)(r:Result)(a:Ub):Prop:=
 match r with
 |.ok (.ret u)=>CE outer P w H s Q u a
 |.ok _=>False
 |.error e=>CX outer H s E e a
structure iI(P:Ue)(w:World)(K:Fg)(mg:Str->Tg)(base:Heap)(CX:CXT)(k:Nat)(f:Uc)(fd:FuncData)(ps:Tc)(sp:Sp)(q:Bool:=true):Prop where
 len:∀vs H Q E,sp vs H Q E->vs.length=ps.length
 run:∀(A:Uf)(outer:Tw Env)(s:Ub)(H:Hp)(args:Args)(us:T6)(vs:Td)(Q:VK)(E:XK),cK k A q->QV P w K mg base A outer s H->BindsTo s fd args (ps.zip us)->bH vs us->sp vs H Q E->
  codeAny (model P w) A (.call (.ref f) args) (CR CX outer P w H s Q E) s
def iI.mono{P:Ue}{k:Nat}(F:iI P w K mg base CX j f fd ps sp q)(h:j<=k):
 iI P w K mg base CX k f fd ps sp q:=⟨F.len,fun A outer s H args us vs Q E a=>F.run A outer s H args us vs Q E<|a.mono h⟩
def QV.make{P:Ue}(e:QV P w K mg base A outer s H)(C:Uc)(us:T6)(a:Tu):
 QV P w K mg base (A.under (.builtin "type.__call__" ⟨.ref C::us,a⟩)) outer s H:=⟨by first|exact e.frames|(simpa[Around.under,Code.envs,Code.isFrame,pushEnvs]using e.frames),e.mod,e.bs,e.bsz,e.funs,e.frf,e.hok,e.bare⟩
section
variable{X:Cx}{pins:T2}{σ:St}{H:Hp}{s s':Ub}
def Inv.env0(I:Inv X pins σ H s):QV X.prog X.w X.K X.mg X.base X.A X.stack s H:=
 ⟨I.ok.frames,I.ok.mod,I.bs,E7 I.ok.bsz I.sz,I.stack,I.stkFree,I.hok,I.bare⟩
def Inv.after(I:Inv X pins σ H s)(h:CE X.stack X.prog X.w H s Q u s'):EP X pins σ Q u s':=by
 obtain⟨v,H',os,bare,un,hok,r,q⟩:=h;obtain⟨c,g,d,t,a⟩:=s';obtain rfl:=os;exact⟨v,H',I.call un hok bare (fun b z=>absurd z (by simp)),r,q⟩
end
noncomputable def aBf(sp:Sp)(a:Td)(E:XK)(t:TA):TE:=fun σ H Q=>t σ H fun vs b=>sp (vs++a) b Q E
def aLG(C:Uc)(sp:Sp)(a:Td)(E:XK)(t:TA):TE:=fun σ H Q=>t σ H fun vs b=>∀x dx,b x=Y->b dx=Y->dx≠x->
 sp (.ref x::(vs++a)) (upd (upd b dx (.own x)) x (.ins C dx [])) (fun v c=>v=.non/\Q (.ref x) c) E
def Binds(K:Fg)(fd:FuncData)(ps:Tc)(ds:T6):Prop:=
 ∀(s:Ub)(us:T6),K.In s.heap->(us++ds).length=ps.length->BindsTo s fd ⟨us,[]⟩ (ps.zip (us++ds))
def Binds.all{ps:Tc}(h:∀us:T6,us.length=ps.length->bindArgs fd ⟨us,[]⟩=pure (ps.zip us)):Binds K fd ps []:=fun s us _ a=>by
 rw[J0]at a ⊢;exact .of_eq (h us a)
def RF(CX:CXT)(X:Cx)(E:XK):Prop:=∀(pins:T2)(σ:St)(H:Hp)(s:Ub)(e:Tz)(a:Ub),Inv X pins σ H s->CX X.stack H s E e a->X.xe e a
section
variable{X:Cx}{CX:CXT}{k:Nat}{f C:Uc}{fd:FuncData}{ps:Tc}{sp:Sp}{dvs:Td}{ds:T6}{E:XK}{x m:Str}{p pos apos:Pos}{e o:Ud}{es:T9}{ta:TE}{t:TA}
def aKz{σ:St}{H:Hp}{s:Ub}{vs:Td}(F:iI X.prog X.w X.K X.mg X.base CX k f fd ps sp q)(c:cK k X.A q)(d:Binds X.K fd ps ds)(hd:bH dvs ds)(g:RF CX X E)
 (I:Inv X pins σ H s) (r:bH vs us) (h:sp (vs++dvs) H Q E):wpAny (model X.prog X.w) X.A (call (.ref f) us) (EP X pins σ Q) X.xe s:=by
 have b:=r.append hd;have i:(us++ds).length=ps.length:=by rw[<- b.length];exact F.len _ _ _ _ h
 refine A0w (Z4 (F.run X.A X.stack s H ⟨us,[]⟩ (us++ds) (vs++dvs) Q E c I.env0 (d s us I.kIn i) b h) fun r j a=>?_);cases r with
 |error e=>exact g pins σ H s e j I a
 |ok l=>
  cases l with
  |ret u=>exact I.after a
  |next=>exact False.elim a
  |brk=>exact False.elim a
  |cont=>exact False.elim a
def aEK{q:Bool}(F:iI X.prog X.w X.K X.mg X.base CX k f fd ps sp q)(d:cK k X.A q)(g:Gl X x)(hm:X.mg x=Z (.ref f))(i:W.keepIn X.K (.ref f)=true)(j:Binds X.K fd ps ds)(hd:bH dvs ds)(l:RF CX X E)
 (ha:PA X (e::es) t) (a:(x==("__debug__":Str))=false:=by decide) (n:starEach (e::es) X.env=(false,eval e X.env)::starEach es X.env:=by rfl) (b:(backTo pos<|starEach es X.env).any (·.1)=false:=by rfl):
 PE X (.Call (.Name x p) (e::es) [] pos) (aBf sp dvs E t):=by
 intro pins s σ H Q I h;refine Y3<|pK I g hm ?_ a;refine Z5 I.ok.mod.kin i (thn (ha pos pins s σ H _ I h) fun us s1 ⟨vs,u,c,r,q⟩=>⟨c.kIn,?_⟩) n b;exact aKz F d j hd l c r q
structure Mk(K:Fg)(C f:Uc):Prop where
 makes:W.makesIn K C=true
 init:W.findIn K (.ref C) "__init__"=Z (Z (.ref f))
 fn:W.isFn K (.ref f)=true
 kp:W.keepIn K (.ref C)=true
def aAD{σ:St}{H:Hp}{s:Ub}{Q:VK}(M:Mk X.K C f)(F:iI X.prog X.w X.K X.mg X.base CX k f fd ps sp)(i:cK (k+1) X.A)(j:Binds X.K fd ps ds)(hd:bH dvs ds)
 (l:∀H s e b,Inv X pins σ H s->CX X.stack H s E e b->X.xe e b) (I:Inv X pins σ H s) (r:bH vs us)
 (h:∀x dx,H x=Y->H dx=Y->dx≠x->sp (.ref x::(vs++dvs)) (upd (upd H dx (.own x)) x (.ins C dx [])) (fun v n=>v=.non/\Q (.ref x) n) E):
 wpAny (model X.prog X.w) X.A (call (.ref C) us) (EP X pins σ Q) X.xe s:=by
 have d:=h (s.heap.objs.size+1) s.heap.objs.size (I.hok.fresh<|A0j _) (I.hok.fresh<|B3 _)<|D1<|S1 _;have c:=Inv.made (C:=C) I;have g:bH (V.ref (s.heap.objs.size+1)::(vs++dvs)) (Value.ref (s.heap.objs.size+1)::(us++ds)):=.cons rfl (r.append hd)
 have q:(Value.ref (s.heap.objs.size+1)::us++ds).length=ps.length:=by
  have e:=g.length;rw[F.len _ _ _ _ d]at e;exact e.symm
 refine A0w (aDj I.kIn M.makes M.init (beq_iff_eq.mp M.fn) (Z4 (F.run _ X.stack _ _ ⟨Value.ref (s.heap.objs.size+1)::us,[]⟩ (Value.ref (s.heap.objs.size+1)::(us++ds)) _ _ E (i.make C us [])
  (c.env0.make C us []) (j _ (Value.ref (s.heap.objs.size+1)::us) c.kIn q) g d) fun r b a=>?_))
 cases r with
 |error e=>exact l _ _ e b c a
 |ok y=>
  cases y with
  |ret u=>
   obtain⟨v,H',z,B,ev,D⟩:=c.after a;subst ev;exact⟨B,⟨V.ref (s.heap.objs.size+1),H',z,rfl,D⟩⟩
  |next=>exact False.elim a
  |brk=>exact False.elim a
  |cont=>exact False.elim a
end
structure aV(N P:Tc)(sc:Scope):Prop where
 kind:sc.kind=.function
 co:sc.isCoroutine=false
 gen:sc.isGenerator=false
 nd:N.Nodup
 pre:N.take P.length=P
 par:∀x∈P,sc.names.lookup x=Z .local\/sc.names.lookup x=Z .cell
 nofree:∀y∈sc.names,y.2≠.free
theorem GH{kindOf:Tt}{x:Str}:∀{binds:Tu}{m:Str->Tg},(∀v,(x,v)∉binds)->bindL kindOf binds m x=m x
 |[],_=>fun _=>rfl
 |(n,v)::r,m=>fun h=>by
  unfold bindL;rw[GH fun w a=>h w<|C0 _ a];split
  .have:x≠n:=by grind
   simp[this]
  .rfl
theorem HA{kindOf:Tt}{x:Str}:∀{binds:Tu}{m:Str->Tg},(∀v,(x,v)∉binds)->bindC kindOf binds m x=m x
 |[],_=>fun _=>rfl
 |(n,v)::r,m=>fun h=>by
  unfold bindC;rw[HA fun w a=>h w<|C0 _ a];split
  .rfl
  .have:x≠n:=by grind
   simp[this]
theorem FL{kindOf:Tt}{x:Str}{v:Tz}:∀{P:Tc}{vs:T6}{i:Nat}{m:Str->Tg},P.Nodup->P[i]?=Z x->vs[i]?=Z v->kindOf x=Z .local->
 bindL kindOf (P.zip vs) m x=Z v
 |[],_,_,_=>fun _ h _ _=>by simp at h
 |_::_,[],_,_=>fun _ _ h _=>by simp at h
 |p::P,w::vs,0,m=>fun nd a b c=>by
  simp at a b;subst a;subst b;show bindL kindOf ((p,w)::P.zip vs) m p=_;unfold bindL;rw[GH fun v d=>(List.nodup_cons.mp nd).1 (List.of_mem_zip d).1,A4 c];simp
 |p::P,w::vs,i+1,m=>fun nd a b c=>by
  unfold bindL;exact FL (List.nodup_cons.mp nd).2 (by assumption) (by grind) c
theorem GY{kindOf:Tt}{x:Str}{v:Tz}:∀{P:Tc}{vs:T6}{i:Nat}{m:Str->Tg},P.Nodup->P[i]?=Z x->vs[i]?=Z v->kindOf x≠Z .local->
 bindC kindOf (P.zip vs) m x=Z v
 |[],_,_,_=>fun _ h _ _=>by simp at h
 |_::_,[],_,_=>fun _ _ h _=>by simp at h
 |p::P,w::vs,0,m=>fun nd a b c=>by
  simp at a b;subst a;subst b;show bindC kindOf ((p,w)::P.zip vs) m p=_;unfold bindC;rw[HA fun v d=>(List.nodup_cons.mp nd).1 (List.of_mem_zip d).1,B0 c];simp
 |p::P,w::vs,i+1,m=>fun nd a b c=>by
  unfold bindC;exact GY (List.nodup_cons.mp nd).2 (by assumption) (by grind) c
def start(N:Tc)(vs:Td):St:=vs.map Z++List.replicate (N.length-vs.length) Y
noncomputable def mP(CX:CXT)(P:Ue)(w:World)(K:Fg)(mg:Str->Tg)(base:Heap)(N:Tc)(qual:Str)(scope:Scope)(f:Uc)(cd:Tz)(A:Uf)(outer:Tw Env)(s:Ub)(H:Hp)(E:XK)(q:Bool:=true):Cx where
 prog:=P
 w:=w
 K:=K
 mg:=mg
 base:=base
 A:=A.deeper<|envOfC qual scope s.heap.objs.size f cd
 N:=N
 s₀:=s
 H₀:=H
 env:=envOfC qual scope s.heap.objs.size f cd
 outer:=outer
 stack:=envOfC qual scope s.heap.objs.size f cd::outer
 ex:=[]
 calm:=q
 fn:=fun _=>true
 pn:=[]
 xe:=fun e s'=>wpAny (model P w) (A.deeper<|envOfC qual scope s.heap.objs.size f cd) (leaving (envOfC qual scope s.heap.objs.size f cd) e) (fun _ s''=>CX outer H s E e s'') (fun e' s''=>CX outer H s E e' s'') s'
def LY{sc:Scope}(h:sc.names.lookup x=Z .cell):∃c,(cellsFrom n sc.names []).lookup x=Z c:=by
 have q:=W.cellsFrom_some sc.names n [] (.inl h);exact Option.isSome_iff_exists.mp q
def YE{P:Ue}{K:Fg}{A:Uf}{s s1:Ub}{H:Hp}{vs:Td}{q:Bool}
 (S:aV N ps scope) (hd:q=true->A.handled=Y) (g:QV P w K mg base A outer s H) (F:vs.length=ps.length) (r:bH vs us)
 (x:InCallC s s.heap.objs.size (bindL (envOfC qual scope s.heap.objs.size f n).kindOf (ps.zip us) fun _=>Y) (cellsFrom (s.heap.objs.size+1) scope.names []) (bindC (envOfC qual scope s.heap.objs.size f n).kindOf (ps.zip us) fun _=>Y) s1):
 Inv (mP CX P w K mg base N qual scope f n A outer s H E q) [] (start N vs) H s1:=by
 have C:ps.length<=N.length:=by have:=S0 List.length S.pre;rw[U8]at this;omega
 obtain⟨o,tk,rfl,t⟩:=x.done;have j:∀b:Uc,b∉(mP CX P w K mg base N qual scope f n A outer s H E q).ex:=fun b z=>absurd (show b∈([]:Tb)from z) (by simp)
 refine⟨⟨g.mod,S.kind,rfl,rfl,B3 _,fun y z c o d=>?_,fun y hy=>?_,fun y c _ h=>?_,hd,Around.frames_deeper g.frames,.inr ⟨rfl,rfl⟩,fun b z=>absurd z<|j b,g.bs,g.bsz,fun b _ _=>j b,fun b z=>absurd z<|j b,g.funs,g.frf⟩,
  rfl,g.bare,Un.kept t,⟨_,x.toInCall.ns,fun i y v o d G=>?_⟩,fun y c h=>⟨_,x.cell y c h⟩,g.hok.fresh (B3 _),fun y c h=>?_,fun p l=>absurd (show p∈([]:T2)from l) (by simp),g.hok.kept t,?_⟩
 .exact name_of_addr x.apart (F0 o)<|F0 d
 .have hy:=hy;rcases hy with hy|hy
  .exact LY hy
  .exact absurd rfl<|S.nofree _<|F0 hy
 .exact Nat.le_of_lt<|x.above y c<|F0 h
 .have hi:i<vs.length:=by
   unfold start at d;by_cases hi:i<vs.length
   .exact hi
   .rw[S4 (by grind)]at d;rw[List.getElem?_replicate]at d;split at d<;>cases d
  have ha:vs[i]?=Z v:=by
   unfold start at d;rw[S6 (by grind),F8]at d;cases e:vs[i]? with
   |none=>rw[e]at d;cases d
   |some a=>rw[e]at d;cases d;rfl
  obtain⟨u,B,D⟩:=r.get ha
  have l:ps[i]?=Z y:=by
   rw[<- S.pre,List.getElem?_take_of_lt (by omega)];exact o
  have m:ps.Nodup:=by rw[<- S.pre];exact S.nd.sublist<|List.take_sublist _ _
  refine⟨u,D,?_⟩;rcases S.par y (A0k l)with k|k
  .exact .inl ⟨k,FL m l B k⟩
  .obtain⟨c,e⟩:=LY k;refine .inr ⟨.inl k,c,e,?_⟩;have q:=x.cell y c e;rw[GY m l B (by show scope.names.lookup y≠_;rw[k];decide)]at q;exact q
 .exact g.hok.fresh<|Nat.le_of_lt<|x.above y c<|F0 h
 .unfold start;show _=N.length;rw[C3,A3,List.length_replicate];omega
def aGD{P:Ue}{K:Fg}{F kV doc oc:Tz}{od:Ti}
 {osl:Array (Tg)} {sp:Sp} {q:Bool} (G:K.lookup f=Z ⟨oc,od,.func (W.fnOf g qual a c scope F kV doc pm an cdv ct),osl⟩) (p:W.codeIn K cdv qual=true) (S:aV N ps scope)
 (len:∀vs H Q E,sp vs H Q E->vs.length=ps.length)
 (h:∀(A:Uf)(outer:Tw Env)(s:Ub)(H:Hp)(vs:Td)(Q:VK)(E:XK),cK k (A.deeper<|envOfC qual scope s.heap.objs.size f cdv) q->sp vs H Q E->
  ∃t,PSs (mP CX P w K mg base N qual scope f cdv A outer s H E q) c t/\t { nx:=fun _ H'=>Q .non H',rt:=Q } (start N vs) H):
 iI P w K mg base CX (k+1) f (W.fnOf g qual a c scope F kV doc pm an cdv ct) ps sp q:=by
 refine⟨len,fun A outer s H args us vs Q E z j L r l=>?_⟩;have M:=len _ _ _ _ l;have KX:=j.mod.kin.keeps fun b o e=>(j.bs b o e).1;have B:=j.mod.nolimit.keeps fun b o e=>(j.bs b o e).1
 have i:∀y∈ps.zip us,scope.names.lookup y.1=Z .local\/(scope.names.lookup y.1=Z .cell/\((cellsFrom (s.heap.objs.size+1) scope.names []).lookup y.1).isSome=true):=fun⟨n,v⟩ O=>by
  rcases S.par n (List.of_mem_zip O).1 with q|q
  .exact .inl q
  .exact .inr ⟨q,W.cellsFrom_some _ _ _ (.inl q)⟩
 refine codeAny_call_function z.depth (KX _ _ G) rfl S.co S.gen rfl (W.codeRec_of KX p)<|L _ _ _ _ ?_;refine wpAny_newFunctionEnv_cells S.kind i fun env R s1 x=>?_;subst R;refine⟨B.keeps x.toInCall.keep,codeAny_func ?_⟩;obtain⟨t,ht,T⟩:=h A outer s H vs Q E (z.deeper _) l;have I:Inv (mP CX P w K mg base N qual scope f cdv A outer s H E q) [] (start N vs) H s1:=YE S z.hd j M r x;refine F6 (ht [] s1 (start N vs) H _ I T) (fun U C hs=>?_) fun e C hs=>hs
 have m:∀{d:St}{H':Hp}{v:V}{u:Tz},Inv (mP CX P w K mg base N qual scope f cdv A outer s H E q) [] d H' C->RelV v u->Q v H'->CE outer P w H s Q u C:=
  fun{d H' v u} J D q=>⟨v,H',J.os,J.bare,J.base,J.hok,D,q⟩
 cases U with
 |ret u=>
  obtain⟨v,d,H',J,D,q⟩:=hs;exact m J D q
 |next=>
  obtain⟨d,H',J,q⟩:=hs;exact m (v:=V.non) J rfl q
 |brk=>
  obtain⟨_,_,_,q⟩:=hs;exact False.elim q
 |cont=>
  obtain⟨_,_,_,q⟩:=hs;exact False.elim q
section
variable{X:Cx}{x:Str}{p pos:Pos}{e:Ud}{es:T9}{t:TA}{id T:String}{r:Td->Hp->VK->Prop}
noncomputable def tCB(r:Td->Hp->VK->Prop)(t:TA):TE:=fun σ H Q=>t σ H fun vs a=>r vs a Q
def wH(c:eX X (.builtin id) r)(d:Gl X x)(hm:X.mg x=Y)(f:bootBuiltins x=Z (.builtin id))(ha:PA X (e::es) t)(hn:x≠"__name__":=by decide)(a:(x==("__debug__":Str))=false:=by decide)
 (g:starEach (e::es) X.env=(false,eval e X.env)::starEach es X.env:=by rfl) (b:(backTo pos<|starEach es X.env).any (·.1)=false:=by rfl):PE X (.Call (.Name x p) (e::es) [] pos) (tCB r t):=by
 intro pins s σ H Q I h;refine Y3<|xP I d hm f ?_ hn a;exact PyProof.Rows.callWith_builtin1 (thn (ha pos pins s σ H _ I h) fun us s1 ⟨vs,i,j,k,l⟩=>c pins s1 σ i vs us Q j k l) g b
def ZM(c:eX X (.type T) r)(d:Gl X x)(hm:X.mg x=Y)(f:bootBuiltins x=Z (.type T))(ha:PA X (e::es) t)(hn:x≠"__name__":=by decide)(a:(x==("__debug__":Str))=false:=by decide)
 (g:starEach (e::es) X.env=(false,eval e X.env)::starEach es X.env:=by rfl) (b:(backTo pos<|starEach es X.env).any (·.1)=false:=by rfl):PE X (.Call (.Name x p) (e::es) [] pos) (tCB r t):=by
 intro pins s σ H Q I h;refine Y3<|xP I d hm f ?_ hn a;exact A0p (thn (ha pos pins s σ H _ I h) fun us s1 ⟨vs,i,j,k,l⟩=>c pins s1 σ i vs us Q j k l) g b
end
end L2
namespace HT
open PySem PyProof.Rows
noncomputable def lexLt:T8->T8->Bool
 |[],[]=>false
 |[],_::_=>true
 |_::_,[]=>false
 |x::xs,y::a=>if x=y then lexLt xs a else decide (x<y)
def lexLt_cons(x y:Int)(xs ys:T8):lexLt (x::xs) (y::ys)=if x=y then lexLt xs ys else decide (x<y):=rfl
def lexLt_nil_nil:lexLt [] []=false:=rfl
def lexLt_nil_cons(y:Int)(ys:T8):lexLt [] (y::ys)=true:=rfl
def lexLt_cons_nil(x:Int)(xs:T8):lexLt (x::xs) []=false:=rfl
def aBS(A:Uf)(s:Ub)(a:Int)(t:Tok)(c:Int)(u:Tok):∃e,SeqAt.EqAt A s (.int a t) (.int c u) e/\(e=true↔a=c):=
 ⟨(a==c),SeqAt.EqAt.int_int a t c u,by simp⟩
def aAk(A:Uf)(s:Ub)(a:Int)(t:Tok)(c:Int)(u:Tok)(prog:Ue)(w:World)(E:T1)(Q:T1)(h:Q (.bool (decide (a<c))) s):
 wpAny (model prog w) A (richCompare .Lt (.int a t) (.int c u)) Q E s:=
 (PyProof.Rows.lt_int h:wpAny (model prog w) A (compareOp .Lt (.int a t) (.int c u)) Q E s)
section
open PySem.SeqAt
open PySem.AutoSeq1 (wpAny_loadPart')
open PySem.MeetsSeq PySem.MeetsSeq2 PySem.MeetsSeq3
def EU(l b:Uc)(items f:Tj)(n n2:Nat)(dd G:Ti)(sl H:Array (Tg))(ns ms:T8)(hi:IntsAre items.toList ns)(L:IntsAre f.toList ms):
 Meets (Builtin.«tuple.__lt__» ⟨[.ref l,.ref b],[]⟩)
  (fun _ R s=>s.heap.get? l=Z { cls:=.type "tuple",dict:=dd,data:=.seq items n,slots:=sl }/\s.heap.get? b=Z { cls:=.type "tuple",dict:=G,data:=.seq f n2,slots:=H } /\
   R (.ok (.ret (.bool (lexLt ns ms)))) s):=
 .of_wp fun prog w A R s h=>by
  obtain⟨E,g,d,tk,os⟩:=s;obtain⟨N,O,h⟩:=h;have f2:=AutoSeq1.sub_tuple_tuple;have z1:items.size=ns.length:=by rw[<- hi.length];simp
  have U:f.size=ms.length:=by rw[<- L.length];simp
  wp_walk using A0d N,A0d O,wpAny_forIn_list _ (fun rest b I=>b.1=Y/\I=⟨E,g,d,tk,os⟩/\∃(vs F:T6)(j k:T8),rest=vs.zip F /\
   IntsAre vs j/\IntsAre F k/\j.length+f.size=k.length+items.size/\R (.ok (.ret (.bool (lexLt j k)))) ⟨E,g,d,tk,os⟩) _
  case turn=>
   rintro⟨y,x⟩ rest b I ⟨B,rfl,vs,F,j,k,r,v,m,i,o⟩;cases v with
   |nil=>rw[List.zip_nil_left]at r;cases r
   |cons a t C=>
    cases m with
    |nil=>rw[List.zip_nil_right]at r;cases r
    |cons c u D=>
     injection r with J z
     injection J with P Q
     subst P Q;rw[lexLt_cons]at o;simp only[List.length_cons]at i;obtain⟨e,S,p⟩:=aBS A.in1 ⟨E,g,d,tk,os⟩ a t c u;refine A0<|S prog w _ _ ?_;cases e with
     |true=>
      rw[A4 (p.mp rfl)]at o
      wp_walk
      exact⟨rfl,rfl,_,_,_,_,z,C,D,by omega,o⟩
     |false=>
      rw[B0 fun q=>absurd (p.mpr q) B2]at o;have K:=aAk A.in1 ⟨E,g,d,tk,os⟩ a t c u prog w
      wp_walk using K
      exact⟨_,rfl,by simpa using o⟩
  case fin=>
   rintro⟨V,W⟩ I ⟨B,rfl,vs,F,j,k,r,v,m,i,o⟩;subst B
   have M:lexLt j k=decide (items.size<f.size):=by
    cases v with
    |nil=>
     cases m with
     |nil=>
      exact(E3 (by omega)).symm
     |cons c u T=>
      simp only[List.length_nil,List.length_cons]at i;exact(D9 (by omega)).symm
    |cons a t M=>
     cases m with
     |nil=>
      simp only[List.length_nil,List.length_cons]at i;exact(E3 (by omega)).symm
     |cons c u T=>
      cases r
   rw[M]at o
   wp_walk
   exact⟨_,rfl,by simpa[Builtin.Tuple.tupleCompareSizes]using o⟩
  case h=>
   exact⟨rfl,rfl,items.toList,f.toList,ns,ms,rfl,hi,L,by omega,h⟩
end
section
variable{prog:Ue}{w:World}{A:Uf}{E:T1}{s:Ub}
def lt_tupInts{Q:T1}(k:IsTup s.heap l items)(m:IsTup s.heap b a)(hi:IntsAre items.toList ns)(o:IntsAre a.toList ms)
 (p:A.units<cLine) (h:Q (.bool (lexLt ns ms)) s):wpAny (model prog w) A (compareOp .Lt (.ref l) (.ref b)) Q E s:=by
 obtain⟨⟨cls,q,data,sl⟩,i,r,n,hd⟩:=id k;obtain⟨⟨j,d,data2,e⟩,c,f,n2,g⟩:=id m;subst r hd f g
 exact richCompare_meets_room (op:=.Lt) ⟨_,i,rfl⟩ ⟨_,c,rfl⟩ F.slot_tuple_lt F.entry_tuple_lt (F.args_tuple_lt_2 _ _) (EU l b items a n n2 q d sl e ns ms hi o)
  ⟨i,c,show Value.bool (lexLt ns ms)≠Value.notImplemented/\Q (.bool (lexLt ns ms)) s from⟨(fun x=>nomatch x),h⟩⟩ p
def cat_tup{vs ws:T6}{Q:T1}(ht:IsTup s.heap t vs.toArray)(l:IsTup s.heap b ws.toArray)(r:vs≠[])
 (m:ws=[]->Q (.ref t) s) (o:ws≠[]->Q (.ref s.heap.objs.size) { s with heap:=s.heap.push { cls:=.type "tuple",data:=.seq (vs++ws).toArray } })
 (p:vs.length+ws.length<=sizeLine):wpAny (model prog w) A (binaryOp .Add (.ref t) (.ref b)) Q E s:=by
 obtain⟨⟨cls,j,data,sl⟩,f,q,n,hd⟩:=id ht;obtain⟨⟨k,c,data2,d⟩,a,g,n2,h⟩:=id l;subst q hd g h;have e:vs.toArray++ws.toArray=(vs++ws).toArray:=by simp
 by_cases i:ws=[]
 .exact concat_meets ⟨_,f,rfl⟩ ⟨_,a,rfl⟩ noFill_tuple_add seq_tuple_add F.slot_tuple_add F.entry_tuple_add (F.args_tuple_add_2 _ _)
   (tuple_addW1 t b vs.toArray ws.toArray n n2 j c sl d (by grind) (by simp[i])) ⟨f,a,m i⟩
 .refine concat_meets ⟨_,f,rfl⟩ ⟨_,a,rfl⟩ noFill_tuple_add seq_tuple_add F.slot_tuple_add F.entry_tuple_add (F.args_tuple_add_2 _ _)
   (tuple_addW2 t b vs.toArray ws.toArray n n2 j c sl d (by grind) (by grind) (by omega)) ⟨f,a,?_⟩
  rw[e];exact o i
def sIx(n d:Nat):Tl->Nat
 |none=>d
 |some v=>if v<0 then(v+(n:Int)).toNat else min v.toNat n
def sIx_le(n d:Nat)(hd:d<=n)(o:Tl):sIx n d o<=n:=by
 cases o with
 |none=>exact hd
 |some v=>
  show(if v<0 then(v+(n:Int)).toNat else min v.toNat n)<=n;by_cases a:v<0
  .rw[A4 a];omega
  .rw[B0 a];exact Nat.min_le_right _ _
def TZ(v:Int)(n d:Nat):(if v<0 then max (v+(n:Int)) 0 else min v (n:Int))=((sIx n d (Z v):Nat):Int):=by
 show(if v<0 then max (v+(n:Int)) 0 else min v (n:Int))=(((if v<0 then(v+(n:Int)).toNat else min v.toNat n):Nat):Int);by_cases a:v<0
 .simp only[if_pos a];omega
 .simp only[if_neg a];omega
def QU(lo hi:Tl)(n:Nat):Builtin.Slice.sliceAdjust lo hi 1 (n:Int)=(((sIx n 0 lo:Nat):Int),((sIx n n hi:Nat):Int)):=by
 have a:¬((1:Int)<0):=by omega
 unfold Builtin.Slice.sliceAdjust;refine Prod.ext ?_ ?_
 .cases lo with
  |none=>rfl
  |some v=>exact TZ v n 0
 .cases hi with
  |none=>rfl
  |some v=>exact TZ v n n
def RM(i j:Nat):Builtin.Slice.slicePlaces (i:Int) (j:Int) 1=j-i:=by
 unfold Builtin.Slice.slicePlaces;split<;>omega
def DQ{Q:Tl->Ub->Prop}(p:IsPart v o)(h:Q o s):wpAny (model prog w) A (Builtin.Slice.slicePartIndex v) Q E s:=by
 cases p with
 |none=>exact slicePart_none h
 |int i t=>exact slicePart_int h
def nT{lo:Tl}{n:Nat}{Q:Int×Int×Nat->Ub->Prop}(hs:s.heap.IsSliceOf sl vl c .none)(pl:IsPart vl lo)(d:IsPart c hi)
 (h:Q (((sIx n 0 lo:Nat):Int),1,sIx n n hi-sIx n 0 lo) s):wpAny (model prog w) A (Builtin.Slice.sliceApplied (.ref sl)<|pure (n:Int)) Q E s:=by
 obtain⟨os,a,e,b⟩:=id hs;refine A0<|A0<|L8 a b rfl<|A0<|L8 a b rfl<|A0<|L8 a b rfl<|B1 ?_;refine A0<|slicePart_none ?_;refine A0<|DQ pl<|A0<|DQ d<|A0<|B1 ?_;show wpAny _ _ (match Builtin.Slice.sliceAdjust lo hi 1 (n:Int)with|(lo,hi)=>pure (lo,(1:Int),Builtin.Slice.slicePlaces lo hi 1)) _ _ s;rw[QU lo hi n];show wpAny _ _ (pure (((sIx n 0 lo:Nat):Int),(1:Int),Builtin.Slice.slicePlaces ((sIx n 0 lo:Nat):Int) ((sIx n n hi:Nat):Int) 1)) _ _ s;rw[RM];exact B1 h
def aCi(xs:Tj)(i k:Nat):((List.range k).filterMap fun(m:Nat)=>xs[((i:Int)+(m:Int)*1).toNat]?).toArray=((xs.toList.drop i).take k).toArray:=by
 have e:(fun(m:Nat)=>xs[((i:Int)+(m:Int)*1).toNat]?)=fun m=>xs[i+m]?:=by
  funext m;have:((i:Int)+(m:Int)*1).toNat=i+m:=by omega
  rw[this]
 rw[e];have:=pick_run xs i k;rw[List.filterMap_map]at this;have a:((fun x=>xs[x]?) ∘ fun x=>i+x)=fun m=>xs[i+m]?:=rfl;rw[a]at this;rw[this]
def getItem_tuple_cut{lo:Tl}{Q:T1}(ht:IsTup s.heap t items)(hs:s.heap.IsSliceOf sl vl f .none)(pl:IsPart vl lo)(g:IsPart f hi)
 (i:¬(sIx items.size 0 lo=0/\sIx items.size items.size hi=items.size))
 (h:Q (.ref s.heap.objs.size) { s with heap:=s.heap.push { cls:=.type "tuple",data:=.seq ((items.toList.drop<|sIx items.size 0 lo).take (sIx items.size items.size hi-sIx items.size 0 lo)).toArray } })
 (j:items.size<=sizeLine):wpAny (model prog w) A (getItem (.ref t) (.ref sl)) Q E s:=by
 have a:sizeOk (.seq ((items.toList.drop<|sIx items.size 0 lo).take (sIx items.size items.size hi-sIx items.size 0 lo)).toArray):=by
  show((items.toList.drop<|sIx items.size 0 lo).take (sIx items.size items.size hi-sIx items.size 0 lo)).toArray.size<=sizeLine;rw[F9,U8,A0f,A0n];omega
 obtain⟨os,b,c,k⟩:=id hs;have d:s.TypeIs (.ref sl) "slice":=⟨os,b,c⟩;unfold getItem
 try with_reducible refine L5 ?_
 first|refine A0 (B1 ?_)|skip
 refine A0<|wpAny_sequenceKey ht.typeIs (by decide) ?_
 refine A0 (Y1 ht.typeIs U6
  (U2 U6 ht.typeIs entry_tuple_getitem ?_ (args_tuple_getitem _ _)))
 show wpAny _ _ (Builtin.Tuple.tupleItemsOf (.ref t) >>= _) _ _ s;refine A0<|tupleItemsOf_ ht ?_;refine A0<|wpAny_typeOf d ?_;refine A0<|nT hs pl g ?_
 have e:¬((((sIx items.size 0 lo:Nat):Int)==0&&(1:Int)==1&&(sIx items.size items.size hi-sIx items.size 0 lo)==items.size)=true):=by
  intro q;rw[D2,D2]at q;have l:=eq_of_beq q.1.1;have m:=eq_of_beq q.2;exact i ⟨by omega,by omega⟩
 show wpAny _ _ (if (((sIx items.size 0 lo:Nat):Int)==0&&(1:Int)==1&&(sIx items.size items.size hi-sIx items.size 0 lo)==items.size)=true then _ else _) _ _ s;rw[B0 e,aCi]
 first
  |exact A0<|J8 (B1 ⟨_,rfl,B1 h⟩) a
  |exact A0<|J8 (A0<|B1<|B1 ⟨_,rfl,B1 h⟩) a
  |exact A0<|A0<|J8 (B1<|B1 ⟨_,rfl,B1 h⟩) a
  |exact A0<|A0<|J8 (B1 ⟨_,rfl,B1 h⟩) a
end
end HT
namespace L2
variable{H:Hp}{σ:St}{s:Ub}
open PySem PySem.Spec PyProof.Rows
abbrev TO:=St->Hp->(Tl->Hp->Prop)->Prop
def PO(X:Cx)(e:Tx Ud)(t:TO):Prop:=
 ∀(pins:T2)(s:Ub)(σ:St)(H:Hp)(Q:Tl->Hp->Prop),Inv X pins σ H s->t σ H Q->
  wpAny (model X.prog X.w) X.A (evalPart e X.env) (fun u a=>∃o H',Inv X pins σ H' a/\IsPart u o/\Q o H') X.xe s
def VU:TO:=fun _ H Q=>Q Y H
def aGO(t:TE):TO:=fun σ H Q=>t σ H fun x a=>∃i,x=.int i/\Q (Z i) a
section
variable{X:Cx}{e:Ud}{te:TE}{lo hi:Tx Ud}{tl th:TO}{pos p2:Pos}
def aFb:PO X Y VU:=by
 intro pins s σ H Q I h;exact B1 ⟨Y,H,I,.none,h⟩
def aFu(h:PE X e te):PO X (Z e) (aGO te):=by
 intro pins s σ H Q I a;refine thn (h pins s σ H _ I a) fun u s1 ⟨x,b,c,d,f⟩=>?_;obtain⟨i,rfl,q⟩:=f;obtain⟨t,rfl⟩:=d;exact⟨Z i,b,c,.int i t,q⟩
def SlR(X:Cx)(r:V->Tl->Tl->Hp->VK->Prop):Prop:=
 ∀(pins:T2)(s:Ub)(σ:St)(H:Hp)(x:V)(v vl a:Tz)(lo hi:Tl)(sl:Uc)(Q:VK),Inv X pins σ H s->RelV x v->s.heap.IsSliceOf sl vl a .none->IsPart vl lo->IsPart a hi->r x lo hi H Q->
  ∃T id,typeLookup (.type T) "__getitem__"=pure (Z (.builtin id))/\s.TypeIs v T/\wpAny (model X.prog X.w) X.A (getItem v (.ref sl)) (EP X pins σ Q) X.xe s
def SlR.or(h:SlR X r)(h':SlR X a):SlR X (fun x lo hi H Q=>r x lo hi H Q\/a x lo hi H Q):=by
 intro pins s σ H x v vl b lo hi sl Q I c hs pl d q;rcases q with q|q
 .exact h pins s σ H x v vl b lo hi sl Q I c hs pl d q
 .exact h' pins s σ H x v vl b lo hi sl Q I c hs pl d q
noncomputable def tSl(r:V->Tl->Tl->Hp->VK->Prop)(te:TE)(tl th:TO):TE:=fun σ H Q=>te σ H fun x a=>tl σ a fun l b=>th σ b fun u c=>r x l u c Q
def CL{r:V->Tl->Tl->Hp->VK->Prop}(d:SlR X r)(f:PE X e te)(g:PO X lo tl)(i:PO X hi th):PE X (.Subscript e (.Slice lo hi Y p2) pos) (tSl r te tl th):=by
 intro pins s σ H Q I h;refine Subscript_ (thn (f pins s σ H _ I h) fun v s1 ⟨x,j,k,m,n⟩=>?_);refine wpAny_Slice (thn (g pins s1 σ j _ k n) fun vl s2 ⟨l,o,p,pl,t⟩=>thn (i pins s2 σ o _ p t) fun a s3 ⟨u,c,w,y,z⟩=>?_);refine B1 ?_;have A:Inv X pins σ c { s3 with heap:=s3.heap.push { cls:=.type "slice",data:=.fields #[vl,a,.none] } }:=w.kept fun b ob q=>A5 _ q;obtain⟨T,id,hT,ht,B⟩:=d pins { s3 with heap:=s3.heap.push { cls:=.type "slice",data:=.fields #[vl,a,.none] } } σ c x v vl a l u s3.heap.objs.size Q A m (Heap.IsSliceOf.new ..) pl y z;exact tail_any ht hT B rfl
def IA(xs:Td)(lo hi:Tl):Td:=(xs.drop<|HT.sIx xs.length 0 lo).take (HT.sIx xs.length xs.length hi-HT.sIx xs.length 0 lo)
def xY(xs:Td)(lo hi:Tl):(IA xs lo hi).length<=xs.length:=by
 unfold IA;rw[U8,A0f];omega
def aLJ(K:Fg):V->Tl->Tl->Hp->VK->Prop:=fun x lo hi H Q=>∃a xs,x=.ref a/\SqT K H a xs /\
 ¬(HT.sIx xs.length 0 lo=0/\HT.sIx xs.length xs.length hi=xs.length)/\∀p,H p=Y->Q (.ref p) (upd H p (.tup (IA xs lo hi)))
def sl_tup:SlR X (aLJ X.K):=by
 intro pins s σ H x v vl j lo hi sl Q I d hs pl f h;obtain⟨a,xs,rfl,g,k,q⟩:=h;cases d;obtain⟨its,r,ht,i⟩:=I.tuple g;have c:its.toArray.size=xs.length:=by rw[F9];exact r.length.symm
 refine⟨"tuple",_,PyProof.Rows.slot_tuple_getitem.lookup,ht.typeIs,?_⟩;refine HT.getItem_tuple_cut ht hs pl f (by grind) ?_ (by omega);rw[c];refine⟨.ref s.heap.objs.size,_,I.laid (fun b ob q=>A5 _ q) (B3 _) ?_,rfl,q _<|I.hok.fresh<|B3 _⟩;exact⟨E7 (xY xs lo hi) i,_,(r.drop<|HT.sIx xs.length 0 lo).take (HT.sIx xs.length xs.length hi-HT.sIx xs.length 0 lo),IsTup.new _ _⟩
def aBn(K:Fg):R2:=fun x y H Q=>∃a b xs c,x=.ref a/\y=.ref b/\SqT K H a xs/\SqT K H b c/\xs≠[]/\xs.length+c.length<=sizeLine /\
 (c=[]->Q (.ref a) H)/\(c≠[]->∀p,H p=Y->Q (.ref p) (upd H p (.tup (xs++c))))
def bH.nil_iff(r:bH xs us):us=[]↔xs=[]:=by
 cases r with
 |nil=>simp
 |cons _ _=>simp
def aEP:OpR X (binaryOp .Add) (aBn X.K):=by
 intro pins s σ H x y v u Q I i j h;obtain⟨a,b,xs,p,rfl,rfl,ha,k,l,f,m,n⟩:=h;cases i;cases j;obtain⟨its,d,o,_⟩:=I.tuple ha;obtain⟨g,c,p2,_⟩:=I.tuple k;refine HT.cat_tup o p2 (fun z=>l<|d.nil_iff.mp z) (fun z=>⟨.ref a,H,I,rfl,m<|c.nil_iff.mp z⟩) (fun z=>?_) (by rw[<- d.length,<- c.length];exact f);refine⟨.ref s.heap.objs.size,_,I.laid (fun b ob q=>A5 _ q) (B3 _) ?_,rfl,n (fun w=>z<|c.nil_iff.mpr w) _<|I.hok.fresh<|B3 _⟩;exact⟨by rw[C3];exact f,_,d.append c,IsTup.new _ _⟩
end
def ixN(n:Nat)(i:Int):Th:=if 0<=i then(if i<n then Z i.toNat else Y)else if -(n:Int)<=i then Z (i+n).toNat else Y
def atI{a:Type}(xs:Tw a)(i:Int):Tx a:=(ixN xs.length i).bind fun j=>xs[j]?
def UJ{n:Nat}{j:Nat}(h:ixN n i=Z j):seqIndex? i n=Z j/\j<n/\-(n:Int)<=i/\i<n:=by
 unfold ixN at h;by_cases b:0<=i
 .rw[A4 b]at h;by_cases a:i<n
  .rw[A4 a]at h;have e:=E1 h;exact⟨by rw[seqIndex_of b a,e],by omega,by omega,a⟩
  .rw[B0 a]at h;cases h
 .rw[B0 b]at h;by_cases a:-(n:Int)<=i
  .rw[A4 a]at h;have e:=E1 h;exact⟨by rw[seqIndex_neg (by omega) a,e],by omega,a,by omega⟩
  .rw[B0 a]at h;cases h
def HY{a:Type}{xs:Tw a}{v:a}(h:atI xs i=Z v):∃j,seqIndex? i xs.length=Z j/\xs[j]?=Z v/\j<xs.length/\-(xs.length:Int)<=i/\i<xs.length:=by
 unfold atI at h;cases e:ixN xs.length i with
 |none=>rw[e]at h;cases h
 |some j=>
  rw[e]at h;obtain⟨b,c,d,f⟩:=UJ e;exact⟨j,b,h,c,d,f⟩
def pA{a:Type}{xs:Tw a}{j:Nat}{v:a}(h:xs[j]?=Z v):atI xs (j:Int)=Z v:=by
 have b:=(List.getElem?_eq_some_iff.mp h).1
 have e:ixN xs.length (j:Int)=Z j:=by
  unfold ixN;rw[A4 (by omega),A4 (by omega)];simp
 unfold atI;rw[e];exact h
def VF(b:Ud):Prop:=∀o i,subscripted b false o i=operate [o,i] (getItem o i)
def IxR(X:Cx)(r:R2):Prop:=
 ∀(b a:Ud)(pins:T2)(s:Ub)(σ:St)(H:Hp)(x y:V)(v u:Tz)(Q:VK),Inv X pins σ H s->RelV x v->RelV y u->r x y H Q->
  subscripted a false v u=operate [v,u] (getItem v u)->wpAny (model X.prog X.w) X.A (subscriptTail b a v u) (EP X pins σ Q) X.xe s
def MtR(X:Cx)(id:String)(r:V->Td->Hp->VK->Prop):Prop:=
 ∀(pins:T2)(s:Ub)(σ:St)(H:Hp)(x:V)(xs:Td)(v:Tz)(us:T6)(Q:VK),Inv X pins σ H s->RelV x v->bH xs us->r x xs H Q->
  wpAny (model X.prog X.w) X.A (call (.builtin id) (v::us)) (EP X pins σ Q) X.xe s
section
variable{X:Cx}{a b:Ud}{ta tb:TE}{pos:Pos}
def IxR.or(h:IxR X r)(h':IxR X e):IxR X (fun x y H Q=>r x y H Q\/e x y H Q):=by
 intro c d pins s σ H x y v u Q I f g q hs;rcases q with q|q
 .exact h c d pins s σ H x y v u Q I f g q hs
 .exact h' c d pins s σ H x y v u Q I f g q hs
def aLh(c:IxR X r)(ha:PE X a ta)(d:PE X b tb)(hs:VF b):PE X (.Subscript a b pos) (tOp r ta tb):=by
 intro pins s σ H Q I h;exact Subscript_ (aJW ha d I h fun v u s2 x y e f g i q=>c a b pins s2 σ e x y v u Q f g i q<|hs _ _)
def aLx(K:Fg):R2:=fun x y H Q=>∃p xs i v,x=.ref p/\y=.int i/\SqL K H p xs/\atI xs i=Z v/\Q v H
def aKF(K:Fg):R2:=fun x y H Q=>∃p xs i v,x=.ref p/\y=.int i/\SqT K H p xs/\atI xs i=Z v/\Q v H
def aHE:R2:=fun x y H Q=>∃z i c,x=.str z/\y=.int i/\z.length<=sizeLine/\atI z.cps.toList i=Z c/\Q (.str ⟨#[c]⟩) H
def ix_list:IxR X (aLx X.K):=by
 intro e f pins s σ H x y v u Q I l m h hs;obtain⟨p,xs,i,z,rfl,rfl,n,o,q⟩:=h;cases l;obtain⟨t,rfl⟩:=m;obtain⟨its,r,pl,F⟩:=I.list n;obtain⟨j,d,A,G,B,C⟩:=HY o;obtain⟨w,J,g⟩:=r.get A;have D:=r.length;have hn:=xA;have c:EP X pins σ Q w s:=⟨z,H,I,g,q⟩;by_cases k:0<=i
 .have E:i.toNat=j:=by
   rw[seqIndex_of k C]at d;exact E1 d
  exact item_listR pl.isList k (by omega) (by grind) c hs
 .have E:(i+(its.toArray.size:Int)).toNat=j:=by
   rw[seqIndex_neg (by omega) B]at d;rw[F9,<- D];exact E1 d
  exact subscriptTail_builtinR pl.isList.typeIs slot_list_getitem.lookup
   (wpAny_getItem_list_neg pl.isList (by omega) (by grind) (by omega) (by grind) ⟨rfl,c⟩) hs
def ix_tup:IxR X (aKF X.K):=by
 intro c d pins s σ H x y v u Q I g k h hs;obtain⟨p,xs,i,z,rfl,rfl,l,m,q⟩:=h;cases g;obtain⟨t,rfl⟩:=k;obtain⟨its,r,pl,B⟩:=I.tuple l;obtain⟨j,n,o,C,D,E⟩:=HY m;obtain⟨w,F,e⟩:=r.get o;have A:=r.length;have hn:=xA;have f:EP X pins σ Q w s:=⟨z,H,I,e,q⟩
 exact subscriptTail_builtinR pl.typeIs slot_tuple_getitem.lookup
  (getItem_tuple pl (by omega) (by omega) (by rw[F9,<- A];exact n) (by grind) ⟨rfl,f⟩) hs
def aBR:IxR X aHE:=by
 intro d e pins s σ H x y v u Q I f g h hs;obtain⟨z,i,c,rfl,rfl,w,k,q⟩:=h;obtain⟨t,rfl⟩:=f;obtain⟨A,rfl⟩:=g;obtain⟨j,l,B,C,m,n⟩:=HY k;have o:z.cps.toList.length=z.length:=by rfl
 rw[o]at l m n;have hn:=xA
 exact tail_any (A0q s z t) slot_str_getitem.lookup (getItem_str (by
  have p:decide (i < -(2 ^ 63:Int))=false:=E3 (by omega);have r:decide (i>=2 ^ 63)=false:=E3 (by omega);rw[p,r,Bool.or_false]) (by grind) ⟨.str ⟨#[c]⟩,H,I.tok _,⟨_,rfl⟩,q⟩) hs
def rIx(K:Fg):R2:=fun x y H Q=>aLx K x y H Q\/aKF K x y H Q\/aHE x y H Q
def aJR:IxR X (rIx X.K):=ix_list.or<|ix_tup.or aBR
def QJ(its:T6)(n j:Nat)(u:Tz):Obj.mapSeq (·.setIfInBounds j u) { cls:=.type "list",data:=.seq its.toArray n }={ cls:=.type "list",data:=.seq (its.set j u).toArray n }:=by
 simp[Obj.mapSeq]
def Inv.lst(I:Inv X pins σ H s)(h:H p=Z (.lst xs)):
 ∃(its:T6)(n:Nat),bH xs its/\s.heap.get? p=Z { cls:=.type "list",data:=.seq its.toArray n }/\xs.length<=sizeLine:=by
 obtain⟨z,its,n,r,e⟩:=I.hok p _ h;exact⟨its,n,r,e,z⟩
def Inv.lstUpd{its its':T6}{f:Obj->Obj}(I:Inv X pins σ H s)(h:H p=Z (.lst xs))
 (g:s.heap.get? p=Z { cls:=.type "list",data:=.seq its.toArray n }) (d:f { cls:=.type "list",data:=.seq its.toArray n }={ cls:=.type "list",data:=.seq its'.toArray c }) (r:bH ys its') (i:ys.length<=sizeLine) (t:Nat):
 Inv X pins σ (upd H p (.lst ys)) { s with heap:=s.heap.update p f,toks:=t }:=by
 have e:(s.heap.update p f).get? p=Z { cls:=.type "list",data:=.seq its'.toArray c }:=by
  rw[O3 f g (by rw[d]<;>rfl),d]
 refine I.write (by rw[h];trivial) (.inl rfl) (fun b u j q=>(L9 _ _<|O1 j).trans q) ⟨_,e⟩ ?_;exact⟨i,its',c,r,e⟩
def aGJ:V->V->V->Hp->(Hp->Prop)->Prop:=fun o i v H Q=>∃p xs k j,o=.ref p/\i=.int k/\H p=Z (.lst xs)/\ixN xs.length k=Z j/\Q (upd H p (.lst (xs.set j v)))
def set_list:aJw X aGJ:=by
 intro pins s σ H o i v ov B u Q I g l m h;obtain⟨p,xs,k,j,rfl,rfl,e,w,q⟩:=h;cases g;obtain⟨t,rfl⟩:=l;obtain⟨its,n,r,d,C⟩:=I.lst e;obtain⟨c,D,x,y⟩:=UJ w;have z:=r.length;have hn:=xA
 have E:Inv X pins σ (upd H p (.lst (xs.set j v))) { s with heap:=s.heap.update p (Obj.mapSeq (·.setIfInBounds j u)) }:=
  I.lstUpd e d (QJ its n j u) (r.set m j) (by grind) s.toks
 by_cases f:0<=k
 .have A:k.toNat=j:=by
   rw[seqIndex_of f y]at c;exact E1 c
  exact W.ki_setAt d f (by omega) (by grind) (by grind)
 .have A:(k+(its.toArray.size:Int)).toNat=j:=by
   rw[seqIndex_neg (by omega) x]at c;rw[F9,<- z];exact E1 c
  exact W.ki_setBack d (by omega) (by grind) (by omega) (by grind)
def JK(lo hi:Tl)(n:Nat):(sliceBounds lo hi Y n).1=((HT.sIx n 0 lo:Nat):Int)/\(sliceBounds lo hi Y n).2.1=((HT.sIx n n hi:Nat):Int)/\(sliceBounds lo hi Y n).2.2=1:=by
 refine⟨?_,?_,rfl⟩
 .cases lo with
  |none=>simp[sliceBounds,HT.sIx]
  |some i=>
   simp only[sliceBounds,HT.sIx,Option.getD_none];by_cases h:i<0
   .simp only[h,if_true]<;>omega
   .simp only[h,if_false]<;>omega
 .cases hi with
  |none=>simp[sliceBounds,HT.sIx]
  |some i=>
   simp only[sliceBounds,HT.sIx,Option.getD_none];by_cases h:i<0
   .simp only[h,if_true]<;>omega
   .simp only[h,if_false]<;>omega
def EI(its:T6)(lo hi:Tl):slicePick its.toArray lo hi Y=((its.drop<|HT.sIx its.length 0 lo).take (HT.sIx its.length its.length hi-HT.sIx its.length 0 lo)).toArray:=by
 obtain⟨c,d,e⟩:=JK lo hi its.toArray.size;unfold slicePick;rw[c,d,e];simp only[sliceRange_one,pick_run]<;>rfl
def aLg(K:Fg):V->Tl->Tl->Hp->VK->Prop:=fun x lo hi H Q=>∃a xs,x=.ref a/\SqL K H a xs/\∀p,H p=Y->Q (.ref p) (upd H p (.lst (IA xs lo hi)))
def sl_list:SlR X (aLg X.K):=by
 intro pins s σ H x v vl i lo hi sl Q I d hs pl e h;obtain⟨a,xs,rfl,f,q⟩:=h;cases d;obtain⟨its,r,ht,g⟩:=I.list f;have c:=r.length;refine⟨"list",_,slot_list_getitem.lookup,ht.isList.typeIs,?_⟩;refine wpAny_getItem_list_slice ht.isList hs pl e .none (by simp) ?_ (by grind);rw[EI,<- c];refine⟨.ref s.heap.objs.size,_,I.laid (fun b ob q=>A5 _ q) (B3 _) ?_,rfl,q _<|I.hok.fresh<|B3 _⟩;exact⟨E7 (xY xs lo hi) g,_,0,(r.drop<|HT.sIx xs.length 0 lo).take (HT.sIx xs.length xs.length hi-HT.sIx xs.length 0 lo),D0 _ rfl⟩
def IP:eX X (.builtin "len") (fun xs H Q=>∃p ys,xs=[.ref p]/\(SqL X.K H p ys\/SqT X.K H p ys)/\Q (.int ys.length) H):=by
 intro pins s σ H xs us Q I r h;obtain⟨p,ys,rfl,hq,q⟩:=h;obtain⟨u,rfl,e⟩:=vals1 r;cases e;have hn:=xA;rcases hq with hq|hq
 .obtain⟨its,d,pl,f⟩:=I.list hq;have c:=d.length;exact Calls.call_len_list pl.isList (by grind) ⟨.int ys.length,H,I.tok _,⟨s.toks+1,by rw[F9,c]⟩,q⟩
 .obtain⟨its,d,pl,f⟩:=I.tuple hq;have c:=d.length;exact len_tuple pl (by grind) ⟨.int ys.length,H,I.tok _,⟨s.toks+1,by rw[F9,c]⟩,q⟩
def KH:eX X (.type "list") (fun xs H Q=>∃p ys,xs=[.ref p]/\(SqL X.K H p ys\/SqT X.K H p ys)/\∀l,H l=Y->Q (.ref l) (upd H l (.lst ys))):=by
 intro pins s σ H xs us Q I r h;obtain⟨p,ys,rfl,hq,q⟩:=h;obtain⟨u,rfl,k⟩:=vals1 r;cases k
 have d:∀(its:T6),bH ys its->ys.length<=sizeLine->∀(h':Heap)(c':Nat),(∀b o',s.heap.get? b=Z o'->h'.get? b=Z o')->
  h'.get? s.heap.objs.size=Z { cls:=.type "list",dict:=Y,data:=.seq its.toArray c',slots:=#[] }->EP X pins σ Q (.ref s.heap.objs.size) { s with heap:=h' }:=fun its c f h' c' kp e=>
  ⟨.ref s.heap.objs.size,_,I.laid kp (B3 _) (show eJ X.prog X.w _ h' _ (.lst ys)from⟨f,its,c',c,e⟩),rfl,q _<|I.hok.fresh<|B3 _⟩
 rcases hq with hq|hq
 .obtain⟨its,c,pl,f⟩:=I.list hq;have g:=c.length;obtain⟨o,i,j,n,hd⟩:=pl.isList;exact call_list_seq p (.inl rfl) i j hd (fun h' c' kp e=>d its c f h' c' kp e) (by grind)
 .obtain⟨its,c,pl,f⟩:=I.tuple hq;have g:=c.length;obtain⟨o,i,j,n,hd⟩:=pl;exact call_list_seq p (.inr rfl) i j hd (fun h' c' kp e=>d its c f h' c' kp e) (by grind)
def EV:eX X (.type "tuple") (fun xs H Q=>∃p ys,xs=[.ref p]/\((SqL X.K H p ys/\∀l,H l=Y->Q (.ref l) (upd H l (.tup ys)))\/(SqT X.K H p ys/\Q (.ref p) H))):=by
 intro pins s σ H xs us Q I r h;obtain⟨p,ys,rfl,h⟩:=h;obtain⟨u,rfl,j⟩:=vals1 r;cases j;rcases h with⟨c,q⟩|⟨c,q⟩
 .obtain⟨its,d,pl,f⟩:=I.list c;have g:=d.length;refine call_tuple_list pl.isList (fun h' kp=>?_) (by grind);have i:=I.kept (t':=s.toks) kp
  have k:Inv X pins σ (upd H h'.objs.size (.tup ys)) { s with heap:=h'.push { cls:=.type "tuple",data:=.seq its.toArray } }:=
   i.laid (fun b o e=>A5 _ e) (B3 _) (⟨f,its,d,IsTup.new _ _⟩)
  exact⟨.ref h'.objs.size,_,k,rfl,q _<|i.hok.fresh<|B3 _⟩
 .obtain⟨its,d,pl,f⟩:=I.tuple c;exact call_tuple_same pl ⟨.ref p,H,I,rfl,q⟩
def tyV(K:Fg)(T:String)(x:V)(H:Hp):Prop:=match x with
 |.str _=>T="str"
 |.int _=>T="int"
 |.ref p=>(T="list"/\∃xs,SqL K H p xs)\/(T="tuple"/\∃o,K.lookup p=Z o/\o.cls=.type "tuple"/\o.dict=Y) \/
  (T="dict"/\((∃kvs,H p=Z (.dK kvs))\/∃kvs,H p=Z (.dT kvs)))\/(T="set"/\∃S n,H p=Z (.set S n))
 |_=>False
def aBq(I:Inv X pins σ H s)(r:RelV x v)(ty:tyV X.K T x H):
 s.TypeIs v T/\∀a,v=.ref a->∃ob,s.heap.get? a=Z ob/\ob.dict=Y:=by
 cases x with
 |str z=>
  obtain⟨t,rfl⟩:=r;cases ty;exact⟨A0q s z t,fun _ e=>nomatch e⟩
 |int i=>
  obtain⟨t,rfl⟩:=r;cases ty;exact⟨typeIs_int s i t,fun _ e=>nomatch e⟩
 |ref p=>
  cases r;rcases ty with⟨rfl,xs,g⟩|⟨rfl,o,d,h,hd⟩|⟨rfl,d⟩|⟨rfl,S,n,d⟩
  .obtain⟨its,_,pl,_⟩:=I.list g;refine⟨pl.isList.typeIs,fun a e=>?_⟩;cases e;obtain⟨o,n,e,c,hd,_⟩:=pl;exact⟨o,e,hd⟩
  .refine⟨⟨o,I.kIn p o d,h⟩,fun a e=>?_⟩;cases e;exact⟨o,I.kIn _ o d,hd⟩
  .have z:∃o,s.heap.get? p=Z o/\o.ExactDict:=by
    rcases d with⟨kvs,d⟩|⟨kvs,d⟩
    .obtain⟨_,_,_,_,o,_,_,e,ex,_⟩:=I.hok p _ d;exact⟨o,e,ex⟩
    .obtain⟨_,_,_,_,o,_,_,e,ex,_⟩:=I.hok p _ d;exact⟨o,e,ex⟩
   obtain⟨o,e,ex⟩:=z;refine⟨⟨o,e,ex.1⟩,fun a f=>?_⟩;cases f;exact⟨o,e,ex.2.1⟩
  .obtain⟨o,_,_,_,e,ex,_⟩:=I.hok p _ d;refine⟨⟨o,e,ex.1⟩,fun a f=>?_⟩;cases f;exact⟨o,e,ex.2.1⟩
 |_=>exact False.elim ty
noncomputable def aLK(K:Fg)(T:String)(r:V->Td->Hp->VK->Prop)(to:TE):TE:=fun σ H Q=>to σ H fun x c=>tyV K T x c/\r x [] c Q
noncomputable def tBM(K:Fg)(T:String)(r:V->Td->Hp->VK->Prop)(to:TE)(t:TA):TE:=fun σ H Q=>to σ H fun x c=>tyV K T x c/\t σ c fun xs d=>r x xs d Q
variable{o e:Ud}{es:T9}{to:TE}{t:TA}{name:Str}{apos cpos:Pos}{T id:String}{r:V->Td->Hp->VK->Prop}
def aBh(j:PlainAttrs T)(slot:Slot T name id)(f:typeOf (.builtin id)=pure (.type "method_descriptor"))(hm:MtR X id r)(k:PE X o to)
 (c:attributeBase o name X.env (eval o X.env)=eval o X.env:=by rfl) (d:(apos.endLine==cpos.line)=true:=by rfl):PE X (.Call (.Attribute o name apos) [] [] cpos) (aLK X.K T r to):=by
 intro pins s σ H Q I h;refine wpAny_Call_method0_late c d (thn (k pins s σ H _ I h) fun v s1 ⟨x,l,g,i,ty,m⟩=>?_);obtain⟨n,p⟩:=aBq g i ty;exact⟨T,id,j,slot,f,n,p,Calls.callWith_builtin rfl<|PySem.evalArgs_none<|hm pins s1 σ l x [] v [] Q g i .nil m⟩
def ON(m:PlainAttrs T)(slot:Slot T name id)(i:typeOf (.builtin id)=pure (.type "method_descriptor"))(hm:MtR X id r)(n:PE X o to)(ha:PA X (e::es) t)
 (c:attributeBase o name X.env (eval o X.env)=eval o X.env:=by rfl)
 (f:((backTo cpos<|starEach (e::es) X.env).all (fun x=>!x.1)&&(backToKw cpos<|keywordEach [] X.env).all (fun x=>x.1.isSome)
  && decide ((e::es).length+([]:Tw Keyword).length+(if ([]:Tw Keyword).isEmpty then 0 else 1)<30))=true:=by rfl)
 (d:(apos.endLine==cpos.line)=true:=by rfl) (hs:starEach (e::es) X.env=(false,eval e X.env)::starEach es X.env:=by rfl) (g:(backTo cpos<|starEach es X.env).any (·.1)=false:=by rfl):
 PE X (.Call (.Attribute o name apos) (e::es) [] cpos) (tBM X.K T r to t):=by
 intro pins s σ H Q I h;refine wpAny_Call_method_late c f d rfl (thn (n pins s σ H _ I h) fun v s1 ⟨x,p,j,k,ty,q⟩=>?_);obtain⟨u,w⟩:=aBq j k ty;refine⟨T,id,m,slot,i,u,w,?_⟩;have l:=ha cpos pins s1 σ p _ j q;rw[hs]at l ⊢;refine Calls.callWith_builtin (by grind)<|Calls.evalArgs_plain ?_;exact thn l fun us s2 ⟨vs,y,z,A,B⟩=>hm pins s2 σ y x vs v us Q z k A B
end
def MtM(X:Cx)(id:String)(r:V->Td->Hp->VK->Prop):Prop:=
 ∀(pins:T2)(s:Ub)(σ:St)(H:Hp)(x:V)(xs:Td)(v:Tz)(us:T6)(Q:VK),Inv X pins σ H s->RelV x v->bH xs us->r x xs H Q->
  wpAny (model X.prog X.w) X.A (call (.builtin id) (v::us)) (EP X pins σ Q) X.xe s
def bH.one{x:V}{us:T6}(h:bH [x] us):∃u,us=[u]/\RelV x u:=by
 cases h with
 |cons r h=>cases h;exact⟨_,rfl,r⟩
def bH.zero:∀{us:T6},bH [] us->us=[]
 |_,.nil=>rfl
def bH.dropLast(h:bH xs us):bH xs.dropLast us.dropLast:=by
 induction h with
 |nil=>exact .nil
 |cons r t ih=>
  cases t with
  |nil=>exact .nil
  |cons q a=>exact .cons r ih
def bH.reverse(h:bH xs us):bH xs.reverse us.reverse:=by
 induction h with
 |nil=>exact .nil
 |cons r t ih=>rw[List.reverse_cons,List.reverse_cons];exact bH.append ih (.cons r .nil)
def QF{a:Type}(l:Tw a):l.eraseIdx (l.length-1)=l.dropLast:=by grind
section
variable{X:Cx}{pins:T2}{σ:St}{H:Hp}{s:Ub}{l b:Uc}{xs ys zs:Td}
def Inv.lset{its its':T6}{f:Tj->Tj}{t':Nat}(I:Inv X pins σ H s)(a:H l=Z (.lst xs))
 (e:s.heap.get? l=Z { cls:=.type "list",data:=.seq its.toArray n }) (c:f its.toArray=its'.toArray) (d:bH ys its') (g:ys.length<=sizeLine):
 Inv X pins σ (upd H l (.lst ys)) { s with heap:=s.heap.update l<|Obj.mapSeq f,toks:=t' }:=by
 have q:=PySem.IsL.update e f;rw[c]at q;refine I.write (by rw[a];exact trivial) (.inl rfl) (fun j u h i=>(L9 s.heap (Obj.mapSeq f)<|O1 h).trans i) ⟨_,q⟩ ?_;exact⟨g,its',_,d,q⟩
def Inv.lnew{t':Nat}(I:Inv X pins σ H s)(a:bH ys its)(c:ys.length<=sizeLine):
 Inv X pins σ (upd H s.heap.objs.size (.lst ys)) { s with heap:=s.heap.push { cls:=.type "list",data:=.seq its.toArray },toks:=t' }:=
 I.laid (fun _ _ q=>A5 _ q) (B3 _) ⟨c,its,0,a,D0 _ rfl⟩
def Inv.fresh(I:Inv X pins σ H s):H s.heap.objs.size=Y:=I.hok.fresh<|B3 _
def Inv.lstM(I:Inv X pins σ H s)(a:H l=Z (.lst xs)):xs.length<=sizeLine/\∃(its:T6)(n:Nat),bH xs its/\xs.length=its.length/\s.heap.get? l=Z { cls:=.type "list",data:=.seq its.toArray n }:=by
 obtain⟨z,its,n,r,e⟩:=I.hok l _ a;exact⟨z,its,n,r,r.length,e⟩
end
section
variable{X:Cx}
def VE:V->Td->Hp->VK->Prop:=fun x vs H Q=>∃l xs y,x=.ref l/\vs=[y]/\H l=Z (.lst xs)/\xs.length<sizeLine/\Q .non (upd H l (.lst (xs++[y])))
def YN:MtM X "list.append" VE:=by
 intro pins s σ H x vs v us Q I b c h;obtain⟨l,xs,y,rfl,rfl,a,f,q⟩:=h;cases b;obtain⟨u,rfl,d⟩:=c.one;obtain⟨z,its,n,r,g,e⟩:=I.lstM a;refine A0x F.slot_list_append ⟨_,e,rfl⟩ F.entry_list_append (F.args_list_append_2 _ _) (PySem.list_append l its.toArray n u (by grind)) ⟨e,?_⟩;refine⟨.non,_,I.lset a e (by simp) (r.append (.cons d .nil)) ?_,rfl,q⟩;rw[C3,I0];omega
def aLw:V->Td->Hp->VK->Prop:=fun x vs H Q=>∃l xs y,x=.ref l/\vs=[]/\H l=Z (.lst xs)/\xs[xs.length-1]?=Z y/\Q y (upd H l (.lst xs.dropLast))
def aID:MtM X "list.pop" aLw:=by
 intro pins s σ H x vs v us Q I d f h;obtain⟨l,xs,y,rfl,rfl,c,g,q⟩:=h;cases d;have a:=f.zero;subst a;obtain⟨z,its,n,r,i,e⟩:=I.lstM c;obtain⟨u,j,k⟩:=r.get g
 have b:its.toArray[its.toArray.size-1]?=Z u:=by
  show its.toArray[its.length-1]?=Z u;rw[<- U1,<- i];exact j
 refine A0x F.slot_list_pop ⟨_,e,rfl⟩ F.entry_list_pop (F.args_list_pop_1 _) (MeetsSeq.list_pop_last l its.toArray n u b (by grind)) ⟨e,?_⟩;refine⟨y,_,I.lset c e ?_ r.dropLast ?_,k,q⟩
 .show its.toArray.eraseIdxIfInBounds (its.toArray.size-1)=its.dropLast.toArray;rw[F9,List.eraseIdxIfInBounds_toArray,QF]
 .rw[List.length_dropLast];omega
def PP:V->Td->Hp->VK->Prop:=fun x vs H Q=>∃l xs,x=.ref l/\vs=[]/\H l=Z (.lst xs)/\Q .non (upd H l (.lst xs.reverse))
def QW:MtM X "list.reverse" PP:=by
 intro pins s σ H x vs v us Q I c d h;obtain⟨l,xs,rfl,rfl,b,q⟩:=h;cases c;have a:=d.zero;subst a;obtain⟨z,its,n,r,f,e⟩:=I.lstM b;refine A0x F.slot_list_reverse ⟨_,e,rfl⟩ F.entry_list_reverse (F.args_list_reverse_1 _) (AutoSeq1.list_reverse_list_0 l its.toArray n (by grind)) ⟨e,?_⟩;refine⟨.non,_,I.lset b e (by simp) r.reverse ?_,rfl,q⟩;rw[List.length_reverse];omega
def len_rep{a:Type}(xs:Tw a)(k:Nat):(List.replicate k xs).flatten.length=k*xs.length:=by
 induction k with
 |zero=>simp
 |succ k ih=>rw[S5,S8,C3,ih,Nat.succ_mul,Nat.add_comm]
end
section
variable{κ:Type}[DecidableEq κ]
noncomputable def iX(kvs:Tw (κ×V))(k:κ):Tx V:=(kvs.find? fun a=>decide (a.1=k)).map (·.2)
noncomputable def putK(kvs:Tw (κ×V))(k:κ)(v:V):Tw (κ×V):=
 if (kvs.any fun a=>decide (a.1=k))=true then kvs.map (fun a=>if a.1=k then(a.1,v)else a)else kvs++[(k,v)]
def DD{p:κ×V}{r:Tw (κ×V)}{k:κ}(e:p.1=k):iX (p::r) k=Z p.2:=by simp[iX,List.find?_cons,e]
def CC{p:κ×V}{r:Tw (κ×V)}{k:κ}(e:¬p.1=k):iX (p::r) k=iX r k:=by simp[iX,List.find?_cons,e]
theorem MJ(k:κ):∀kvs:Tw (κ×V),(kvs.any fun a=>decide (a.1=k))=(iX kvs k).isSome
 |[]=>rfl
 |p::r=>by
  rw[U5];by_cases e:p.1=k
  .simp only[DD e,decide_eq_true e,Bool.true_or,Option.isSome_some]
  .rw[CC e,E3 e,Bool.false_or];exact MJ k r
def yY(kvs:Tw (κ×V))(k:κ)(v:V):(putK kvs k v).length<=kvs.length+1:=by
 unfold putK;split
 .rw[A3];omega
 .rw[C3,B5,List.length_nil];omega
def xS.isSome_eq(r:xS o u):o.isSome=u.isSome:=by
 cases o with
 |none=>cases u with
  |none=>rfl
  |some _=>exact r.elim
 |some _=>cases u with
  |none=>exact r.elim
  |some _=>rfl
def KV.val(r:KV kvs vs)(k:κ):xS (iX kvs k) (valueAt vs k):=by
 induction r with
 |nil=>exact True.intro
 |@cons p q ps a h t ih=>
  obtain⟨d,f⟩:=h;by_cases e:p.1=k
  .have c:=d.symm.trans e;have b:valueAt (q::a) k=Z q.2:=by simp[valueAt,List.find?_cons,c]
   rw[DD e,b];exact f
  .have c:¬q.1=k:=fun z=>e<|d.trans z;have b:valueAt (q::a) k=valueAt a k:=by simp[valueAt,List.find?_cons,c]
   rw[CC e,b];exact ih
def KV.any(r:KV kvs vs)(k:κ):(kvs.any fun a=>decide (a.1=k))=vs.any fun a=>decide (a.1=k):=by
 induction r with
 |nil=>rfl
 |cons h t ih=>rw[U5,U5,ih,h.1]
def KV.repl(r:KV kvs vs)(k:κ)(c:RelV y u):
 KV (kvs.map fun a=>if a.1=k then(a.1,y)else a) (vs.map fun a=>if a.1=k then(a.1,u)else a):=by
 induction r with
 |nil=>exact .nil
 |@cons p q ps f h t ih=>
  rw[B4,B4];refine .cons ?_ ih;obtain⟨b,d⟩:=h;by_cases e:p.1=k
  .rw[A4 e,A4<|b.symm.trans e];exact⟨b,c⟩
  .rw[B0 e,B0 fun z=>e<|b.trans z];exact⟨b,d⟩
def KV.put(r:KV kvs vs)(k:κ)(a:RelV y u):KV (putK kvs k y) (stored vs k u):=by
 unfold putK stored;rw[r.any k];by_cases e:(vs.any fun b=>decide (b.1=k))=true
 .rw[A4 e,A4 e];exact r.repl k a
 .rw[B0 e,B0 e];exact Paired.snoc r ⟨rfl,a⟩
def KV.length(r:KV kvs vs):kvs.length=vs.length:=Paired.length r
end
def aDL{P:Ue}(r:RelV (kV k) u):(eG P w).is k u=true:=by
 cases k with
 |inl i=>obtain⟨t,e⟩:=r;subst e;exact KW P w i t
 |inr x=>obtain⟨t,e⟩:=r;subst e;exact MP P w x t
theorem wV{P:Ue}:∀{ks:Tw Key}{us:T6},bH (ks.map kV) us->ItemsAre (eG P w) ks us
 |[],_=>fun r=>by rw[List.map_nil]at r;cases r;exact .nil
 |k::ks,_=>fun r=>by
  cases r with
  |cons h t=>exact .cons (aDL h) (wV t)
abbrev KT(H:Hp):Tw (Tw Key×V)->Tw (Tw Key×Uc×Tz)->Prop:=Paired fun p q=>p.1=q.1/\H q.2.1=Z (.tup (p.1.map kV))/\RelV p.2 q.2.2
def KT.val(r:KT H kvs xs)(k:Tw Key):xS (iX kvs k) ((atKey xs k).map (·.2)):=by
 induction r with
 |nil=>exact True.intro
 |@cons p q ps a h t ih=>
  obtain⟨d,_,f⟩:=h;by_cases e:p.1=k
  .have c:=d.symm.trans e;have b:atKey (q::a) k=Z q.2:=by simp[atKey,List.find?_cons,c]
   rw[DD e,b];exact f
  .have c:¬q.1=k:=fun z=>e<|d.trans z;have b:atKey (q::a) k=atKey a k:=by simp[atKey,List.find?_cons,c]
   rw[CC e,b];exact ih
def KT.repl(r:KT H kvs xs)(k:Tw Key)(d:RelV y u):
 KT H (kvs.map fun b=>if b.1=k then(b.1,y)else b) (xs.map<|putAt k u):=by
 induction r with
 |nil=>exact .nil
 |@cons p q ps g h t ih=>
  rw[B4,B4];refine .cons ?_ ih;obtain⟨a,c,f⟩:=h;unfold putAt;by_cases e:p.1=k
  .rw[A4 e,A4<|a.symm.trans e];exact⟨a,c,d⟩
  .rw[B0 e,B0 fun z=>e<|a.trans z];exact⟨a,c,f⟩
def KT.put(r:KT H kvs xs)(k:Tw Key)(c:H b=Z (.tup (k.map kV)))(a:RelV y u):
 KT H (putK kvs k y) (storedH xs k b u):=by
 have e:(kvs.any fun d=>decide (d.1=k))=(atKey xs k).isSome:=by
  rw[MJ,(r.val k).isSome_eq,Option.isSome_map]
 unfold putK storedH;rw[e];by_cases q:(atKey xs k).isSome=true
 .rw[A4 q,A4 q];exact r.repl k a
 .rw[B0 q,B0 q];exact Paired.snoc r ⟨rfl,c,a⟩
def KT.keeps{H':Hp}(r:KT H kvs xs)(ht:∀b ys,H b=Z (.tup ys)->H' b=Z (.tup ys)):KT H' kvs xs:=
 Paired.mapP r fun _ _ z=>⟨z.1,ht _ _ z.2.1,z.2.2⟩
section
variable{P:Ue}{w:World}{H:Hp}{h:Heap}{a:Uc}
def VR(ok:HOk P w H h)(e:Rd H a u):eJ P w H h a u:=e.ok ok
def aHn(ok:HOk P w H h)(e:Rd H a (.dK kvs)):kvs.length<=sizeLine/\(a==sysModules)=false/\∃vs,KV kvs vs/\h.DictOf (eG P w) a vs:=
 show eJ P w H h a (.dK kvs)from VR ok e
def aLz(ok:HOk P w H h)(e:H a=Z (.dK kvs)):kvs.length<=sizeLine/\(a==sysModules)=false/\∃vs,KV kvs vs/\h.DictOf (eG P w) a vs:=aHn ok (.inl e)
def RR{ks:Tw Key}(ok:HOk P w H h)(e:H a=Z (.tup (ks.map kV))):(tupleKind<|eG P w).is h ks a:=by
 obtain⟨_,its,r,o,b,c,n,d⟩:=(ok a _ e);exact⟨o,its.toArray,n,b,c,d,by simpa using wV r⟩
def aDb(ok:HOk P w H h)(e:Rd H a (.dT kvs)):kvs.length<=sizeLine/\(a==sysModules)=false /\
 ∃xs,KT H kvs xs/\h.DictOfH (tupleKind<|eG P w) a xs:=by
 obtain⟨z,y,xs,r,o,es,ep,b,c,d,f,g⟩:=(VR ok e);refine⟨z,y,xs,r,o,es,ep,b,c,d,f,fun x hx=>?_,g⟩
 have all:∀{l:Tw (Tw Key×V)}{m:Tw (Tw Key×Uc×Tz)},KT H l m->∀x∈m,(tupleKind<|eG P w).is h x.1 x.2.1:=by
  intro l m q
  induction q with
  |nil=>intro x hx;exact nomatch hx
  |@cons p q ps i j t ih=>
   intro x hx;rcases List.mem_cons.mp hx with e|hx
   .subst e;exact RR ok (by grind)
   .exact ih x hx
 exact all r x hx
def aKJ(ok:HOk P w H h)(e:H a=Z (.dT kvs)):kvs.length<=sizeLine/\(a==sysModules)=false /\
 ∃xs,KT H kvs xs/\h.DictOfH (tupleKind<|eG P w) a xs:=aDb ok (.inl e)
end
def IF(H:Hp)(a:Uc)(y:V)(r:Tx V):Prop:=
 (∃kvs k,Rd H a (.dK kvs)/\y=kV k/\r=iX kvs k)\/∃kvs k b,Rd H a (.dT kvs)/\y=.ref b/\H b=Z (.tup (k.map kV))/\r=iX kvs k
def KN(H:Hp)(a:Uc)(y v:V)(H':Hp):Prop:=
 (∃kvs k,H a=Z (.dK kvs)/\y=kV k/\kvs.length<sizeLine/\H'=upd H a (.dK (putK kvs k v))) \/
 ∃kvs k b,H a=Z (.dT kvs)/\y=.ref b/\H b=Z (.tup (k.map kV))/\kvs.length<sizeLine/\H'=upd H a (.dT (putK kvs k v))
def IF.k{a:Uc}{kvs:Tw (Key×V)}{k:Key}(e:H a=Z (.dK kvs)):IF H a (kV k) (iX kvs k):=.inl ⟨kvs,k,.inl e,rfl,rfl⟩
def IF.t{k:Tw Key}(e:H a=Z (.dT kvs))(c:H b=Z (.tup (k.map kV))):IF H a (.ref b) (iX kvs k):=.inr ⟨kvs,k,b,.inl e,rfl,c,rfl⟩
def KN.k{a:Uc}{kvs:Tw (Key×V)}{k:Key}{v:V}(e:H a=Z (.dK kvs))(b:kvs.length<sizeLine):KN H a (kV k) v (upd H a (.dK (putK kvs k v))):=.inl ⟨kvs,k,e,rfl,b,rfl⟩
def KN.t{k:Tw Key}(e:H a=Z (.dT kvs))(c:H b=Z (.tup (k.map kV)))(d:kvs.length<sizeLine):
 KN H a (.ref b) v (upd H a (.dT (putK kvs k v))):=.inr ⟨kvs,k,b,e,rfl,c,d,rfl⟩
section
variable{X:Cx}{pins:T2}{σ:St}{H:Hp}{s:Ub}{a:Uc}{y v:V}{u r:Tz}{o:Tx V}{A:Uf}{E:T1}
def Inv.big(I:Inv X pins σ H s):sysModules<s.heap.objs.size:=by
 have h:=(I.mod.glob.keeps I.bk).lt;exact A0r (by decide) h
def aMH{Q:T1}(m:A.units+1<cLine)(I:Inv X pins σ H s)(g:IF H a y o)(i:RelV y u)(h:∀j,Inv X pins σ H j->Q (.bool o.isSome) j):
 wpAny (model X.prog X.w) A (compareOp .In u (.ref a)) Q E s:=by
 rcases g with⟨kvs,k,e,d,l⟩|⟨kvs,k,b,e,d,n,l⟩
 .subst d;obtain⟨z,hd,vs,c,f⟩:=aHn I.hok e;refine wpAny_in_of (aDL i) hd f.mapOf ?_;rw[<- (c.val k).isSome_eq,<- l];exact h _<|I.tok _
 .subst d;cases i;obtain⟨z,hd,xs,c,f⟩:=aDb I.hok e;refine wpAny_in_heap (tupleKind_room_in1 m) (RR I.hok n) hd f ?_;have q:=(c.val k).isSome_eq;rw[Option.isSome_map]at q;rw[<- q,<- l];exact h _<|I.tok _
def TL{t':Nat}(I:Inv X pins σ H s)(c:Mut (H a))(hs:Heap.SameBut a s.heap h')(d:∃q,h'.get? a=Z q)(new:eJ X.prog X.w (upd H a ob) h' a ob):
 Inv X pins σ (upd H a ob) { s with heap:=h',toks:=t' }:=
 I.write c (.inl rfl) (fun b q e z=>(hs.2 b e).trans z) d new
def aHM{P:Ue}{h':Heap}{kvs:Tw (Key×V)}(z:kvs.length<=sizeLine)(hd:(a==sysModules)=false)(b:KV kvs vs)(dd:h'.DictOf (eG P w) a vs):
 eJ P w H' h' a (.dK kvs):=⟨z,hd,vs,b,dd⟩
def XO{Q:Unit->Ub->Prop}(F:A.units+1<cLine)(I:Inv X pins σ H s)(g:KN H a y v H')(t:RelV y u)(x:RelV v r)(h:∀B,Inv X pins σ H' B->Q () B):
 wpAny (model X.prog X.w) A (setItem (.ref a) u r) Q E s:=by
 rcases g with⟨kvs,k,e,j,l,m⟩|⟨kvs,k,b,e,j,C,l,m⟩
 .subst j m;obtain⟨z,hd,vs,d,n⟩:=aLz I.hok e;have G:vs.length<=sizeLine:=by rw[<- d.length];exact z
  have p:(putK kvs k v).length<=sizeLine:=by have:=yY kvs k v;omega
  refine wpAny_setItem_pairs (aDL t) n fun h' f hs=>h _ ?_;have J:∃q,h'.get? a=Z q:=let⟨q,_,_,i,_⟩:=f;⟨q,i⟩;exact TL I (by rw[e];exact True.intro) hs J<|aHM p hd (d.put k x) f
 .subst j m;cases t;obtain⟨z,hd,xs,d,n⟩:=aKJ I.hok e;have G:xs.length<=sizeLine:=by rw[<- Paired.length d];exact z
  have p:(putK kvs k v).length<=sizeLine:=by have:=yY kvs k v;omega
  refine wpAny_setItem_heap (tupleKind_room_in1 F) (RR I.hok C) n fun h' f hs=>h _ ?_;obtain⟨q,es,ep,i,K,L,M,_,N⟩:=f;refine TL I (by rw[e];exact True.intro) hs ⟨q,i⟩ ⟨p,hd,_,(d.put k C x).keeps fun c O D=>?_,q,es,ep,i,K,L,M,N⟩;rw[aK (nG D e fun z=>nomatch z)];exact D
end
def aFq(i:Ud):Prop:=∀ov a,subscripted i false ov a=operate [ov,a] (getItem ov a)
def aGl{s:Ub}{id:String}
 (l:typeLookup (.type T) "__getitem__"=pure (Z (.builtin id))) (hs:aFq a)
 (h:wpAny (model prog w) A (eval b env) (fun o e=>wpAny (model prog w) A (eval a env) (fun i c=>c.TypeIs o T/\wpAny (model prog w) A (getItem o i) Q E c) E e) E s):
 wpAny (model prog w) A (eval (.Subscript b a pos) env) Q E s:=by
 refine Subscript_ (F6 h (fun o e j=>F6 j (fun i c d=>?_) fun _ _ x=>x) fun _ _ x=>x);obtain⟨hT,d⟩:=d;refine A0 ?_;refine A0<|wpAny_specialOf hT l ?_
 have g:wpAny (model prog w) A (subscripted a false o i) (fun r f=>wpAny (model prog w) A (letTemporaryGo b o r >>= fun _=>pure r) Q E f) E c:=by
  rw[hs o i];exact wpAny_operating (F6 d (fun r f k=>A0<|wpAny_letTemporaryGo<|B1 k) fun _ _ x=>x)
 first
  |exact B1<|A0 g
  |exact A0<|B1<|A0 g
  |exact A0 g
noncomputable def aMd(ty c:TE):TE:=fun σ H Q=>ty σ H fun y d=>c σ d fun x b=>∃a o,x=.ref a/\IF b a y o/\Q (.bl o.isSome) b
noncomputable def aGL(c ty d:TE):TS:=fun D σ H=>d σ H fun v e=>c σ e fun x f=>ty σ f fun y g=>∃a b,x=.ref a/\KN g a y v b/\D.nx σ b
section
variable{X:Cx}{o i e value:Ud}{pos pos' tpos:Pos}{td ty tv:TE}
def aIX(b:X.A.units+1<cLine)(hi:PE X i ty)(c:PE X o td):PC X .In i o (aMd ty td):=by
 intro pins s σ H Q I h;refine thn (hi pins s σ H _ I h) fun r s1 ⟨y,d,f,j,k⟩=>thn (c pins s1 σ d _ f k) fun u s2 ⟨x,l,m,n,a,ov,ex,g,p⟩=>?_;subst ex;obtain rfl:=n;exact aMH b m g j fun s3 q=>⟨.bl ov.isSome,l,q,rfl,p⟩
def aEu(b:X.A.units+1<cLine)(c:PE X o td)(hi:PE X i ty)(d:PE X value tv)(hs:swapsWith value (Z (.Subscript o i pos')) pos.line X.env=pure false):
 PS X (.Assign [.Subscript o i pos'] value pos) (aGL td ty tv):=by
 intro pins s σ H D I h;refine wpAny_Assign_Subscript (thn (d pins s σ H _ I h) fun r s1 ⟨v,f,j,k,l⟩=>thn (c pins s1 σ f _ j l) fun u s2 ⟨x,m,n,p,q⟩=>thn (hi pins s2 σ m _ n q) fun F s3 t=>?_) hs;obtain⟨y,G,w,z,a,B,ex,g,C⟩:=t;subst ex;obtain rfl:=p;exact XO b w g z k fun s4 E=>⟨σ,B,E,C⟩
end
def aBY{P:Ue}(h:Heap)(a:sysModules<h.objs.size):eJ P w H (h.push { cls:=.type "dict",data:=.dict #[] }) h.objs.size (.dT []):=
 ⟨O4 _,beq_eq_false_iff_ne.mpr<|O1<|D1 a,[],.nil,_,#[],0,D0 _ rfl,⟨rfl,rfl,rfl⟩,rfl,rfl,List.nodup_nil⟩
def aBE:TE:=fun _ H Q=>∀p,H p=Y->Q (.ref p) (upd H p (.dT []))
section
variable{X:Cx}{pos:Pos}
def aDk:PE X (.Dict [] [] pos) aBE:=fun pins s σ H Q I h=>
 wpAny_Dict_empty ⟨.ref s.heap.objs.size,_,I.laid (fun _ _ q=>A5 _ q) (B3 _)<|aBY s.heap I.big,rfl,h _<|I.hok.fresh<|B3 _⟩
end
structure M1(X:Cx)(o:Ud)(m:Str)(apos:Pos)(e:Ud)(cpos:Pos):Prop where
 base:attributeBase o m X.env (eval o X.env)=eval o X.env
 few:((backTo cpos<|starEach [e] X.env).all (fun x=>!x.1)&&(backToKw cpos<|keywordEach [] X.env).all (fun x=>x.1.isSome)
  && decide (([e]:T9).length+([]:Tw Keyword).length+(if ([]:Tw Keyword).isEmpty then 0 else 1)<30))=true
 line:(apos.endLine==cpos.line)=true
 trees:backTo cpos (starEach [e] X.env)=[(false,eval e X.env)]
structure M2(X:Cx)(o:Ud)(m:Str)(apos:Pos)(e f:Ud)(cpos:Pos):Prop where
 base:attributeBase o m X.env (eval o X.env)=eval o X.env
 few:((backTo cpos<|starEach [e,f] X.env).all (fun x=>!x.1)&&(backToKw cpos<|keywordEach [] X.env).all (fun x=>x.1.isSome)
  && decide (([e,f]:T9).length+([]:Tw Keyword).length+(if ([]:Tw Keyword).isEmpty then 0 else 1)<30))=true
 line:(apos.endLine==cpos.line)=true
 trees:backTo cpos (starEach [e,f] X.env)=[(false,eval e X.env),(false,eval f X.env)]
end L2
namespace Att
open PySem PySem.W PySem.Calls PyProof.Rows
def zH{P:Params}:∀(ns:T8)(vs:T6),WellAll P h vs (ns.map WData.int)->IntsAre vs ns:=by
 intro ns
 induction ns with
 |nil=>
  intro vs w;cases w;exact .nil
 |cons n ns ih=>
  intro vs w;cases w with
  |cons a b=>
   cases a;exact .cons _ _ (ih _ b)
def aAb{l:OpenLaw}{n:Nat}(hn:l.most=Z n){P:Params}
 (c:l.row.toRowW.claim.pre args=true) (i:WellAll P h b args):
 ∃a vs ns,b=[Value.ref a]/\args=[WData.list (ns.map WData.int)]/\h.get? a=Z { cls:=.type "list",data:=.seq vs.toArray }/\IntsAre vs ns/\ns.length<=n:=by
 have j:=(pre_splitW c).1;have m:l.pre.holds [] { args:=args }=true:=(pre_splitW c).2;obtain⟨d,r,rfl,o,p⟩:=hasAllW_cons j;obtain rfl:=hasAllW_nil p;obtain⟨xs,rfl,s⟩:=hasW_list o;obtain⟨ns,rfl⟩:=items_int s
 have e:ns.length<=n:=by
  have g:(WTm.not (.lt (.lit (.int (n:Int))) (.len (.arg 0)))).holds [] { args:=[.list (ns.map .int)] }=true:=by
   have g:=(holds_andW m).1;rw[hn]at g;exact g
  have k:=condW_of g<|w_not<|w_lt w_lit<|w_len_list<|w_arg rfl;refine Nat.le_of_not_lt fun q=>?_
  first
   |(rw[D9 w]at k;exact absurd k (by decide))
   |(simp at k;omega)
 cases i with
 |cons t u=>
  cases u;cases t with
  |list v f=>exact⟨_,_,ns,rfl,rfl,v,zH ns _ f,e⟩
def YQ(l:OpenLaw)(args:Tw WData):l.row.toRowW.claim.post args (.bool true) args=true:=
 postW_of
  rfl
  (w_eq_bool (w_res rfl) w_lit) rfl
def attach_call{l:OpenLaw}{n:Nat}{XP:(Str->Tg)->Heap->Prop}{YP:World->Heap->Prop}{d:DefRec}
 (hn:l.most=Z n) (m:d.params.defaults=[])
 (call:∀(w:World)(s₀ c:Ub)(mg mb:Str->Tg)(fa:Uc)(o:Obj)(pm j doc:Tz)(a:Uc)(vs:T6)(ns:T8),
  Ground q loose [] XP w s₀ mg mb c.heap->YP w c.heap->
  c.heap.get? fa=Z o->o.data=.func (docDef d.name d.params d.body d.scope pm j doc)->c.heap.CodeRec j d.name->mg d.name=Z (.ref fa)->
  c.heap.get? a=Z { cls:=.type "list",data:=.seq vs.toArray }->IntsAre vs ns->ns.length<=n->c.gens=#[]->
  codeAny (model l.prog w) callerA (.call (.ref fa) ⟨[.ref a],[]⟩) (fun r k=>r=.ok (.ret (.bool true))/\OldK c.heap k.heap/\k.os=c.os/\AllBare k.gens) c):
 WalkO q loose XP YP l.row.toRowW d [] (fun f vs=>PySem.call f vs):=by
 intro w s₀ c mg mb G b fa o pm j doc H kV y hd p u s z args v as g x A t B;obtain rfl:=Dflts.none u m;obtain rfl:=Dflts.noKw u;obtain⟨a,vs,ns,rfl,rfl,h,e,i⟩:=aAb hn g t;refine enter_call (Z4 (call w s₀ c mg mb fa o pm j doc a vs ns G b y (fd_plain hd) p s h e i z) fun r k C=>?_);obtain⟨rfl,D,E,F⟩:=C;exact⟨.inl ⟨.bool true,.bool true,[],rfl,fun _=>rfl,.bool true,YQ l _,fun _=>⟨List.Pairwise.nil,fun _ hm=>(nomatch hm)⟩⟩,D,E,F⟩
section
variable{prog:Ue}{w:World}{A:Uf}{E:T1}{s:Ub}{K:Frag}
end
end Att
namespace L2
open PySem PySem.Spec PyProof.Rows
theorem FF:∀{vs:T6}{ns:T8},IntsAre vs ns->bH (ns.map V.int) vs
 |_,_,.nil=>.nil
 |_,_,.cons n t h=>.cons ⟨t,rfl⟩ (FF h)
def aJK(H:Hp):Prop:=∀b,H b=Y\/∃o xs,H b=Z (.frz o (.lst xs))
def aBZ{P:Ue}{K:Fg}{a:Uc}{x:Str}{sp:Sp}{c:Ub}{vs:T6}
 (KX:K.In c.heap) (t:c.heap.Ns mainGlobals mg) (g:c.heap.Ns builtinsNs mb) (G:∀x:Str,x≠"__name__"->mb x=bootBuiltins x) (y:c.heap.NoLimit) (I:∃W,c.heap.Ns sysModules W) (J:∃bm ob,mg "__builtins__"=Z (.ref bm)/\bm≠builtinsNs/\c.heap.get? bm=Z ob/\ob.cls=.type "module"/\ob.dict=Z builtinsNs/\ob.data=.plain) (hg:c.gens=#[])
 (ha:c.heap.get? a=Z { cls:=.type "list",data:=.seq vs.toArray }) (hi:IntsAre vs ns) (X:ns.length<=sizeLine) (hr:cK k callerA)
 (F:∀base:Heap,K.In base->base.Ns mainGlobals mg->iI P w K mg base CX k fa fd [x] sp) (p:∀(s:Ub)(u:Tz),BindsTo s fd ⟨[u],[]⟩ [(x,u)])
 (L:∀H:Hp,aJK H->SqL K H a (ns.map V.int)->sp [.ref a] H (fun v _=>v=.bl true) fun _ _ _=>False)
 (M:∀H e i,CX [] H c (fun _ _ _=>False) e i->False):
 codeAny (model P w) callerA (.call (.ref fa) ⟨[.ref a],[]⟩) (fun r i=>r=.ok (.ret (.bool true))/\OldK c.heap i.heap/\i.os=c.os/\AllBare i.gens) c:=by
 have rv:=FF hi;have A:=hi.length
 have l:∀H:Hp,aJK H->SqL K H a (ns.map V.int)->HOk P w H c.heap->(∀b,H b≠Y->b=a)->(H a≠Y->K.lookup a=Y)->
  codeAny (model P w) callerA (.call (.ref fa) ⟨[.ref a],[]⟩) (fun r i=>r=.ok (.ret (.bool true))/\OldK c.heap i.heap/\i.os=c.os/\AllBare i.gens) c:=by
  intro H hO hS hok N hK;have f:∀{b:Uc}{o:Obj},c.heap.get? b=Z o->H b=Y->(NJ c.heap H).get? b=Z o:=fun e n=>aBO e n
  have O:∀{b:Uc}{o:Obj}{es:Array DictEntry}{ep:Nat},c.heap.get? b=Z o->o.data=.dict es ep->H b=Y:=fun{b o es ep} e d=>by
   cases q:H b with
   |none=>rfl
   |some u=>
    have B:=N b (by grind);subst B;rw[ha]at e;cases e;have d':=d;cases d'
  have j:∀{b:Uc}{m:Str->Tg},c.heap.Ns b m->(NJ c.heap H).Ns b m:=fun{b m} ⟨o,es,ep,e,d,r⟩=>⟨o,es,ep,f e<|O e d,d,r⟩
  have C:=fun b o e=>f (KX b o e) (by
   cases q:H b with
   |none=>rfl
   |some u=>
    have B:=N b (by grind);subst B;rw[hK (by grind)]at e;cases e)
  have hM:Mod K mg (NJ c.heap H):=⟨C,j t,⟨mb,j g,G⟩,(let⟨mc,Q,R⟩:=y;⟨mc,j Q,R⟩),(let⟨W,S⟩:=I;let⟨o,es,ep,Q,R,_⟩:=j S;⟨o,es,ep,Q,R⟩),(let⟨bm,ob,b1,b2,T,b4,b5,b6⟩:=J;⟨bm,ob,b1,b2,f T (by
   cases q:H bm with
   |none=>rfl
   |some u=>
    have B:=N bm (by grind);rw[B,ha]at T;cases T;cases b6),b4,b5,b6⟩)⟩
  have e0:QV P w K mg (NJ c.heap H) callerA [] c H:=⟨rfl,hM,fun b o e=>aGz e,Nat.le_of_eq<|WK _ _,trivial,fun b g=>absurd (show b∈([]:Tb)from g) (by simp),hok,.of_eq hg⟩;refine Z4 ((F _ C<|j t).run callerA [] c H ⟨[.ref a],[]⟩ [.ref a] [.ref a] _ _ hr e0 (p c (.ref a)) (.cons rfl .nil) (L H hO hS)) fun r i h=>?_;cases r with
  |error e=>exact(M H e i h).elim
  |ok fl=>
   cases fl with
   |next=>exact False.elim h
   |brk=>exact False.elim h
   |cont=>exact False.elim h
   |ret u=>
    obtain⟨v,H',os,bare,un,D,r',q⟩:=h;have q':=q;subst q';obtain rfl:=r';refine⟨rfl,OldK.of_keep fun b o e=>?_,os,bare⟩;cases q:H b with
    |none=>exact un.keep b o e q (by intro z;exact absurd (show b∈([]:Tb)from z) (by simp)) (by simp)
    |some u=>
     rcases hO b with z|⟨ob,xs,z⟩
     .rw[q]at z;cases z
     .have z2:=un.frzs b ob _ z;obtain⟨e1,_⟩:=hok b _ z;obtain⟨e2,_⟩:=D b _ z2;rw[e]at e1;cases e1;exact e2
 cases U:K.lookup a with
 |some o=>
  have e:=KX a o U;rw[ha]at e;cases e;refine l (fun _=>Y) (fun _=>.inl rfl) (.inr ⟨_,vs.toArray,_,U,rfl,rfl,rfl,by rw[F9,A];exact X,by simpa using rv⟩) (fun b u z=>by have E:=z;cases E) (fun b z=>absurd rfl z) fun z=>absurd rfl z
 |none=>
  refine l (fun b=>if b=a then Z (.frz { cls:=.type "list",data:=.seq vs.toArray } (.lst (ns.map V.int)))else Y) (fun b=>?_) (.inl (.inr ⟨{ cls:=.type "list",data:=.seq vs.toArray },A4 rfl⟩)) (fun b u z=>?_) (fun b z=>?_) fun _=>U
  .by_cases g:b=a
   .exact .inr ⟨_,_,A4 g⟩
   .exact .inl (B0 g)
  .by_cases g:b=a
   .have E:=(A4 g).symm.trans z;cases E;subst g;exact⟨ha,by rw[A3];exact X,vs,_,rv,ha⟩
   .have E:=(B0 g).symm.trans z;cases E
  .by_cases g:b=a
   .exact g
   .exact absurd (B0 g) z
noncomputable abbrev KOf{K:Fg}{h:Heap}(_:K.In h):Fg:=K
def walk_of{l:W.OpenLaw}{n:Nat}(D:PyProof.Rows.importsNone q=true){YP:World->Heap->Prop}{d:DefRec}{K:Params->Fg}{CX:World->CXT}{sp:World->Sp}{x:Str}
 (hn:l.most=Z n) (r:n<=sizeLine) (t:d.params.defaults=[]) (E:cK k callerA)
 (I:∀(w:World)(h:Heap),YP w h->(K w.params).In h)
 (F:∀(w:World)(mg:Str->Tg)(fa:Uc)(h:Heap),(K w.params).In h->h.Ns mainGlobals mg->mg d.name=Z (.ref fa)->
  ∃fd:FuncData,(∀(s:Ub)(u:Tz),BindsTo s fd ⟨[u],[]⟩ [(x,u)]) /\
   ∀base:Heap,(K w.params).In base->base.Ns mainGlobals mg->iI l.prog w (K w.params) mg base (CX w) k fa fd [x] (sp w))
 (y:∀(w:World)(H:Hp)(a:Uc)(ns:T8),ns.length<=n->aJK H->SqL (K w.params) H a (ns.map V.int)->sp w [.ref a] H (fun v _=>v=.bl true) fun _ _ _=>False)
 (z:∀(w:World)(H:Hp)(s:Ub)(e:Tz)(A:Ub),CX w [] H s (fun _ _ _=>False) e A->False):
 W.WalkO q loose XP YP l.row.toRowW d [] (fun f vs=>PySem.call f vs):=by
 refine Att.attach_call hn t fun w s₀ m mg mb fa o pm Q doc a vs ns G c R hd J B p j i L=>?_;have KX:=I w _ c;obtain⟨fd,M,N⟩:=F w mg fa _ KX G.T.g B;exact aBZ KX G.T.g G.T.b G.T.builtins G.T.nolimit (let⟨O,C,_⟩:=(G.T.seer D).mods;⟨O,C⟩) G.T.bmain L p j (E7 i r) E N M (fun H P hS=>y w H a ns i P hS) fun H e A=>z w H m e A
end L2
namespace L2
variable{F H H':Hp}{W:Wd}{K:Fg}{M:Sto}{γ:Ga}
open PySem PySem.Spec PyProof.Rows
noncomputable def inClass(s:Stmt)(j:Nat):Stmt:=match s with
 |.ClassDef _ _ _ a _ _ _ _ _ _ _=>a.getD j (.Pass ⟨0,0,0,0⟩)
 |_=>.Pass ⟨0,0,0,0⟩
def dQ(s:Stmt):Arguments:=match s with
 |.FunctionDef _ a _ _ _ _ _ _ _ _=>a
 |_=>{ posonlyargs:=[],args:=[],vararg:=Y,kwonlyargs:=[],kw_defaults:=[],kwarg:=Y,defaults:=[] }
noncomputable def bU(s:Stmt):Ta:=match s with
 |.FunctionDef _ _ b _ _ _ _ _ _ _=>b
 |_=>[]
noncomputable def aH(s:Stmt):Scope:=match s with
 |.FunctionDef _ _ _ _ _ _ sc _ _ _=>sc
 |_=>{ kind:=.function,names:=[],isGenerator:=false,isCoroutine:=false }
noncomputable abbrev CX0:CXT:=fun _ _ _ _ _ _=>False
noncomputable abbrev E0:XK:=fun _ _ _=>False
def aLt:RF CX0 X E0:=fun _ _ _ _ _ _ _ h=>h.elim
structure Fun(K:Fg)(x qual:Str)(st:Stmt)(f:Uc)(fd:FuncData):Prop where
 ex:∃(oc:Tz)(od:Ti)(kV doc pm:Tz)(an:Ti)(cdv ct:Tz)(osl:Array (Tg)),
  fd=PySem.W.fnOf x qual (dQ st) (bU st) (aH st) .none kV doc pm an cdv ct/\K.lookup f=Z ⟨oc,od,.func fd,osl⟩/\PySem.W.codeIn K cdv qual=true
 kp:PySem.W.keepIn K (.ref f)=true
section
variable{P:Ue}{w:World}{K:Fg}{mg:Str->Tg}{base:Heap}
def Fun.ok{st:Stmt}{sp:Sp}{q:Bool}(F:Fun K x qual st f fd)(S:aV N ps (aH st))(len:∀vs H Q E,sp vs H Q E->vs.length=ps.length)
 (a:∀(cdv:Tz)(A:Uf)(outer:Tw Env)(s:Ub)(H:Hp)(vs:Td)(Q:VK)(E:XK),cK k (A.deeper<|envOfC qual (aH st) s.heap.objs.size f cdv) q->sp vs H Q E->
  ∃t,PSs (mP CX0 P w K mg base N qual (aH st) f cdv A outer s H E q).nox (bU st) t/\t { nx:=fun _ H'=>Q .non H',rt:=Q } (start N vs) H):iI P w K mg base CX0 (k+1) f fd ps sp q:=by
 obtain⟨oc,od,kV,doc,pm,an,cdv,ct,osl,rfl,d,b⟩:=F.ex;refine aGD d b S len fun A outer s H vs Q E e c=>?_;obtain⟨t,h,z⟩:=a cdv A outer s H vs Q E e c;exact⟨t,h.nox,z⟩
def Fun.binds{x qual:Str}{st:Stmt}{f:Uc}{fd:FuncData}{ps:Tc}(F:Fun K x qual st f fd)
 (h:∀(kV doc pm:Tz)(an:Ti)(cdv ct:Tz)(us:T6),us.length=ps.length->bindArgs (PySem.W.fnOf x qual (dQ st) (bU st) (aH st) .none kV doc pm an cdv ct) ⟨us,[]⟩=pure (ps.zip us)):Binds K fd ps []:=by
 obtain⟨oc,od,kV,doc,pm,an,cdv,ct,osl,rfl,b,a⟩:=F.ex;exact .all (h kV doc pm an cdv ct)
def aCS{x qual:Str}{st:Stmt}{f:Uc}{oc:Tz}{od an:Ti}{osl:Array (Tg)}{kV doc pm cdv ct:Tz}(l:K.lookup f=Z ⟨oc,od,.func (PySem.W.fnOf x qual (dQ st) (bU st) (aH st) .none kV doc pm an cdv ct),osl⟩)
 (c:PySem.W.codeIn K cdv qual=true) (k:PySem.W.keepIn K (.ref f)=true):Fun K x qual st f (PySem.W.fnOf x qual (dQ st) (bU st) (aH st) .none kV doc pm an cdv ct):=⟨⟨oc,od,kV,doc,pm,an,cdv,ct,osl,rfl,l,c⟩,k⟩
end
def jN(H H':Hp):Prop:=∀b o,H b=Z o->H' b=Z o
def jN.refl(H:Hp):jN H H:=fun _ _ h=>h
def jN.trans(a:jN H d)(b:jN d e):jN H e:=fun c o h=>b c o<|a c o h
def jN.free(e:jN H H')(h:H' l=Option.none):H l=Option.none:=by
 cases q:H l with
 |none=>rfl
 |some o=>
  rw[e l o q]at h;cases h
def jN.seq(e:jN H H')(h:SqL K H a xs):SqL K H' a xs:=by
 rcases h with(h|⟨o,h⟩)|h
 .exact .inl (.inl (e _ _ h))
 .exact .inl (.inr ⟨o,e _ _ h⟩)
 .exact .inr h
noncomputable def fT(env:Env):Tw (Tn)->Tw (Str×Uc)->Tw (Str×Uc)
 |[],cs=>cs
 |y::r,cs=>fT env r (if (y.2==NameKind.free)=true then(y.1,(env.cells.lookup y.1).getD 0)::cs else cs)
theorem uA{env:Env}:∀(l:Tw (Tn))(cs:Tw (Str×Uc)),(∀y∈l,y.2=.free->∃c,env.cells.lookup y.1=Z c)->
 (forIn l cs fun(x:Tn)(r:Tw (Str×Uc))=>if (x.2==NameKind.free)=true then(do
  let a <- cellOf env x.1
  pure (ForInStep.yield ((x.1,a)::r)))else pure (ForInStep.yield r))=(pure (fT env l cs):Sem (Tw (Str×Uc)))
 |[]=>fun cs _=>rfl
 |y::l=>fun cs h=>by
  rw[List.forIn_cons];by_cases b:(y.2==NameKind.free)=true
  .obtain⟨c,e⟩:=h y C4 (by grind);have f:cellOf env y.1=pure c:=by unfold cellOf;rw[e]
   rw[A4 b,f];show(forIn l ((y.1,c)::cs) _:Sem _)=_;rw[uA l _ fun z d=>h z<|C0 _ d]
   conv=>rhs;unfold fT
   rw[A4 b,e];rfl
  .rw[B0 b];show(forIn l cs _:Sem _)=_;rw[uA l _ fun z d=>h z<|C0 _ d]
   conv=>rhs;unfold fT
   rw[B0 b]
def DH{scope:Scope}{env:Env}(h:∀y∈scope.names,y.2=.free->∃c,env.cells.lookup y.1=Z c):closureFor scope env=pure (fT env scope.names []):=by
 have e:=uA scope.names [] h
 show((forIn scope.names ([]:Tw (Str×Uc)) fun x (r:Tw (Str×Uc))=>if (x.2==NameKind.free)=true then(do
  let a <- cellOf env x.1
  pure (ForInStep.yield ((x.1,a)::r)))else pure (ForInStep.yield r)) >>= fun z=>pure z:Sem (Tw (Str×Uc)))=_
 rw[e];rfl
theorem FS{env:Env}:∀(l:Tw (Tn))(cs:Tw (Str×Uc)),(∀y∈l,y.2=.free->∃c,env.cells.lookup y.1=Z c)->(∀x c,cs.lookup x=Z c->env.cells.lookup x=Z c)->
 ∀x c,(fT env l cs).lookup x=Z c->env.cells.lookup x=Z c
 |[]=>fun cs _ h x c e=>h x c e
 |y::l=>fun cs i h x c e=>by
  refine FS l _ (fun z g=>i z<|C0 _ g) ?_ x c e;intro z d a;by_cases j:(y.2==NameKind.free)=true
  .rw[A4 j]at a;obtain⟨c',f⟩:=i y C4 (by grind);rw[f]at a;rw[E2]at a;by_cases g:(z==y.1)=true
   .rw[g]at a;have b:z=y.1:=by grind
    rw[b,f];exact a
   .have b:(z==y.1)=false:=by grind
    rw[b]at a;exact h z d a
  .rw[B0 j]at a;exact h z d a
theorem wX:∀(l:Tw (Tn))(cs:Tw (Str×Uc))(x:Str),((x,NameKind.free)∈l\/∃c,cs.lookup x=Z c)->∃c,(fT env l cs).lookup x=Z c
 |[]=>fun cs x h=>by
  rcases h with h|h
  .exact absurd h (by simp)
  .exact h
 |y::l=>fun cs x h=>by
  refine wX l _ x ?_;rcases h with h|⟨c,b⟩
  .rcases List.mem_cons.mp h with e|e
   .subst e;refine .inr ?_;rw[A4 (by rfl)];exact⟨(env.cells.lookup x).getD 0,by rw[E2];simp⟩
   .exact .inl e
  .refine .inr ?_;by_cases d:(y.2==NameKind.free)=true
   .rw[A4 d,E2];by_cases f:(x==y.1)=true
    .rw[f];exact⟨_,rfl⟩
    .have a:(x==y.1)=false:=by grind
     rw[a];exact⟨c,b⟩
   .rw[B0 d];exact⟨c,b⟩
theorem tV{env:Env}:∀{names:Tw (Tn)}{x:Str}{k:NameKind},
 (names.map fun(y:Tn)=>if (y.2==NameKind.free&&env.scope.kind==.function&&env.kindOf y.1==Z .cell)=true then(y.1,NameKind.cell)else(y.1,y.2)).lookup x=Z k->
 (names.lookup x=Z k)\/(names.lookup x=Z .free/\k=.cell)
 |[],x,k=>fun h=>by simp at h
 |y::r,x,k=>fun h=>by
  rw[B4]at h;by_cases c:(x==y.1)=true
  .by_cases b:(y.2==NameKind.free&&env.scope.kind==.function&&env.kindOf y.1==Z .cell)=true
   .rw[A4 b,E2,c]at h;rw[E2,c];have:y.2=.free:=by grind
    refine .inr ⟨by rw[this],?_⟩;cases h;rfl
   .rw[B0 b,E2,c]at h;rw[E2,c];exact .inl h
  .have a:(x==y.1)=false:=by grind
   have h':(r.map fun y=>if (y.2==NameKind.free&&env.scope.kind==.function&&env.kindOf y.1==Z .cell)=true then(y.1,NameKind.cell)else(y.1,y.2)).lookup x=Z k:=by
    by_cases b:(y.2==NameKind.free&&env.scope.kind==.function&&env.kindOf y.1==Z .cell)=true
    .rw[A4 b,E2,a]at h;exact h
    .rw[B0 b,E2,a]at h;exact h
   rw[E2,a];exact tV h'
theorem BQ{env:Env}:∀{names:Tw (Tn)}{x:Str},names.lookup x=Z .free->
 (names.map fun(y:Tn)=>if (y.2==NameKind.free&&env.scope.kind==.function&&env.kindOf y.1==Z .cell)=true then(y.1,NameKind.cell)else(y.1,y.2)).lookup x=Z .cell \/
 (names.map fun(y:Tn)=>if (y.2==NameKind.free&&env.scope.kind==.function&&env.kindOf y.1==Z .cell)=true then(y.1,NameKind.cell)else(y.1,y.2)).lookup x=Z .free
 |[],x=>fun h=>by simp at h
 |y::r,x=>fun h=>by
  rw[B4];by_cases c:(x==y.1)=true
  .rw[E2,c]at h;have d:=E1 h;by_cases b:(y.2==NameKind.free&&env.scope.kind==.function&&env.kindOf y.1==Z .cell)=true
   .rw[A4 b,E2,c];exact .inl rfl
   .rw[B0 b,E2,c];exact .inr (by rw[d])
  .have a:(x==y.1)=false:=by grind
   rw[E2,a]at h;have ih:=BQ (env:=env) h;by_cases b:(y.2==NameKind.free&&env.scope.kind==.function&&env.kindOf y.1==Z .cell)=true
   .rw[A4 b,E2,a];exact ih
   .rw[B0 b,E2,a];exact ih
def LK(X:Cx)(ifs:T9)(t:TT):Prop:=
 ∀(pins:T2)(s:Ub)(a:St)(H:Hp)(Q:Bool->Hp->Prop),Inv X pins a H s->t a H Q->
  wpAny (model X.prog X.w) X.A (forIn ifs true fun c r=>if r=true then(do
   let ok <- isTrue c X.env (eval c X.env)
   pure (ForInStep.yield ok))else pure (ForInStep.yield r)) (TP X pins a Q) X.xe s
noncomputable def aKV:TT:=fun _ H Q=>Q true H
def aCY:LK X [] aKV:=fun _ _ _ H _ I h=>wpAny_tests_nil ⟨H,I,h⟩
def aDJ(h:PT X c t):LK X [c] t:=fun pins s a H Q I b=>wpAny_tests_one<|h pins s a H Q I b
section
variable{prog:Ue}{w:World}{A:Uf}{R:Result->Ub->Prop}{s:Ub}
def TQ{iter:Ud}{scope:Scope}{acc:Tz}(I:Nat->Ub->Prop)
 (b:∀n s,I n s->wpAny (model prog w) A (pyNext it) (fun r s1=>(r=Y/\R (.ok .next) s1)\/∃v,r=Z v /\
  wpAny (model prog w) A (letOwnedTupleGo a it v) (fun _ s2=>wpAny (model prog w) A (assign a env v) (fun _ s3=>
   wpAny (model prog w) A (forIn ifs true fun c r=>if r=true then(do
    let ok <- isTrue c env (eval c env)
    pure (ForInStep.yield ok))else pure (ForInStep.yield r)) (fun ok s4=>
     (ok=true/\wpAny (model prog w) A (eval elt env) (fun x g=>wpAny (model prog w) A (call (.builtin "list.append") [acc,x]) (fun _ i=>∃m,m<n/\I m i) (fun _ _=>False) g) (fun _ _=>False) s4) \/
     (ok=false/\∃m,m<n/\I m s4)) (fun _ _=>False) s3) (fun _ _=>False) s2) (fun _ _=>False) s1) (fun _ _=>False) s)
 (n:Nat) (h:I n s):codeAny (model prog w) A (.compLoop (.ListComp elt [⟨a,iter,ifs,0⟩] scope pos) 0 it acc env) R s:=by
 refine codeAny_loop rfl I (fun n s j=>?_) n h
 show wpAny _ A ((compTurn (.ListComp elt [⟨a,iter,ifs,0⟩] scope pos) 0 it acc env).onRaise fun x=>do
  noteFrame x env
  theTreesLotGoes x) _ _ s
 refine wpAny_noted ?_;refine A0<|Y0<|A0 (F6 (b n s j) (fun r s1 d=>?_) fun _ _ f=>f.elim);rcases d with⟨rfl,d⟩|⟨v,rfl,d⟩
 .exact B1 d
 .refine A0 (F6 d (fun _ s2 k=>?_) fun _ _ f=>f.elim);refine A0 (F6 k (fun _ s3 l=>?_) fun _ _ f=>f.elim);refine A0 (F6 l (fun ok s4 e=>?_) fun _ _ f=>f.elim);rcases e with⟨rfl,e⟩|⟨rfl,e⟩
  .refine A0<|A0 (F6 e (fun x g o=>?_) fun _ _ f=>f.elim);exact A0 (F6 o (fun _ i p=>B1<|B1 ⟨rfl,p⟩) fun _ _ f=>f.elim)
  .exact B1 ⟨rfl,e⟩
end
def eF(X:Cx)(N':Tc)(scope:Scope)(C:Uc)(s2:Ub)(a:Hp)(fp:Tb)(pn:T2):Cx:=
 { X with N:=N',s₀:=s2,H₀:=a,env:=compEnvC scope (fT X.env scope.names []) C X.env,outer:=X.stack,stack:=X.stack,ex:=fp,fn:=fun _=>false,pn:=X.pn++pn,xe:=fun _ _=>False }
noncomputable def zG(cap:T3)(a:St):St:=cap.map fun o=>o.bind fun j=>(a[j]?).join
structure rG(X:Cx)(N':Tc)(cap:T3)(scope:Scope):Prop where
 nocell:∀y∈scope.names,y.2≠.cell
 kind:scope.kind=.function
 names:∀y∈scope.names,y.2=.local->scope.names.lookup y.1=Z .local
 frees:∀y∈scope.names,y.2=.free->X.env.kindOf y.1=Z .cell\/X.env.kindOf y.1=Z .free
 len:cap.length=N'.length
 cap:∀(i j:Nat),cap[i]?=Z (Z j)->∃x,N'[i]?=Z x/\X.N[j]?=Z x/\scope.names.lookup x=Z .free
section
variable{X:Cx}{N':Tc}{cap:T3}{scope:Scope}{pins:T2}{σ:St}{H:Hp}{s:Ub}
def rG.cells(S:rG X N' cap scope)(ok:X.Ok):∀y∈scope.names,y.2=.free->∃c,X.env.cells.lookup y.1=Z c:=fun y a b=>ok.has y.1<|S.frees y a b
def rG.sub(S:rG X N' cap scope)(ok:X.Ok):∀x c,(fT X.env scope.names []).lookup x=Z c->X.env.cells.lookup x=Z c:=
 FS scope.names [] (S.cells ok) fun x c e=>by simp at e
def rG.kinds(S:rG X N' cap scope)(h:(compEnvC scope cl C X.env).kindOf x=Z .cell\/(compEnvC scope cl C X.env).kindOf x=Z .free):scope.names.lookup x=Z .free:=by
 rcases h with h|h
 .rcases tV h with q|⟨q,_⟩
  .exact absurd rfl<|S.nocell _<|F0 q
  .exact q
 .rcases tV h with q|⟨q,_⟩
  .exact q
  .exact q
def Inv.stkAll(I:Inv X pins σ H s){b:Uc}(a:b≠X.env.locals)(c:b∉X.fs):b∉frs X.stack:=fun d=>(List.mem_cons.mp<|I.stkSub b d).elim a c
def NR(S:rG X N' cap scope)(I:Inv X pins σ H s){fp:Tb}{E:Heap}{C:Uc}{tk:Nat}(w:∀b∈fp,sA X pins H b)(G:∀b∈fp,b<s.heap.objs.size)
 (A:s.heap.objs.size<=C) (hn:E.Ns C fun _=>Y) (h:∀b o,s.heap.get? b=Z o->E.get? b=Z o):
 Inv (eF X N' scope C s H fp pins) [] (zG cap σ) H { s with heap:=E,toks:=tk }:=by
 have B:∀x c,X.env.cells.lookup x=Z c->c<s.heap.objs.size:=fun x c e=>by
  obtain⟨v,q⟩:=I.cell x c e;exact q.lt
 have fresh:=I.hok.fresh A
 have ok:(eF X N' scope C s H fp pins).Ok:=by
  refine⟨I.ok.mod,S.kind,I.ok.glob,I.ok.blt,A,fun x y c J L=>?_,fun x N=>?_,fun x c N _=>?_,I.ok.hd,I.ok.frames,.inl rfl,fun b g=>⟨?_,fun x c e=>?_⟩,I.bs,E7 I.ok.bsz I.sz,fun b o e g=>?_,fun b g=>?_,I.stack,I.stkFree⟩
  .exact I.ok.inj x y c (S.sub I.ok x c J)<|S.sub I.ok y c L
  .exact wX scope.names [] x (.inl (F0<|S.kinds N))
  .exact absurd N (by show ¬(false=true);decide)
  .exact D1<|C5 (G b g) A
  .exact(w b g).2.2.2.2.1 x c (S.sub I.ok x c e)
  .rcases (w b g).2.2.2.1 with z|z
   .exact I.ok.noex b o e z
   .exact absurd (C5 (C2 (I.ok.bs b o e).1) z)<|S3 _
  .exact I.stkAll (w b g).2.1 (w b g).2.2.1
 refine⟨ok,rfl,I.bare,Un.kept h,⟨_,hn,fun i x v J L h3=>?_⟩,fun x c e=>?_,fresh,fun x c e=>I.freeC x c<|S.sub I.ok x c e,fun p T=>?_,I.hok.kept h,?_⟩
 .
  have a:(cap[i]?).map (fun o=>o.bind fun j=>(σ[j]?).join)=Z (Z v):=by
   have:(zG cap σ)[i]?=Z (Z v):=L;unfold zG at this;rw[F8]at this;exact this
  cases e:cap[i]? with
  |none=>rw[e]at a;simp at a
  |some o=>
   cases o with
   |none=>rw[e]at a;simp at a
   |some j=>
    rw[e]at a;obtain⟨D,U,V,O⟩:=S.cap i j e
    have ex:D=x:=by
     have:N'[i]?=Z x:=J;rw[U]at this;exact E1 this
    subst ex
    have sv:σ[j]?=Z (Z v):=by
     have q:(σ[j]?).join=Z v:=E1 a;cases f:σ[j]? with
     |none=>rw[f]at q;simp at q
     |some o=>rw[f]at q;cases o with
      |none=>simp at q
      |some v'=>simp at q;rw[q]
    have R:=S.frees _ (F0 O) rfl;obtain⟨m,hm,hl⟩:=I.loc;obtain⟨u,r,l⟩:=hl j D v V sv (R.elim (fun z=>.inr (.inl z)) fun z=>.inr (.inr z));refine⟨u,r,.inr ⟨?_,?_⟩⟩
    .exact BQ O
    .rcases l with⟨k,_⟩|⟨_,c,hc,o,P,hd⟩
     .rcases R with z|z<;>rw[z]at k<;>cases k
     .obtain⟨c',t⟩:=wX scope.names [] D (.inl (F0 O));have:=S.sub I.ok D c' t;rw[hc]at this;cases this;exact⟨c,t,o,h c o P,hd⟩
 .obtain⟨v,o,P,hd⟩:=I.cell x c<|S.sub I.ok x c e;exact⟨v,o,h c o P,hd⟩
 .have Q:p∈X.pn++pins:=by
   rcases List.mem_append.mp T with z|z
   .exact z
   .exact absurd z (by simp)
  obtain⟨e,n,ne,nf,d⟩:=I.pin p Q;exact⟨h _ _ e,n,D1<|C5 (C2 e) A,I.stkAll ne nf,d⟩
 .show(zG cap σ).length=N'.length;unfold zG;rw[A3];exact S.len
end
def tLc(cap:T3)(j:TI)(g:TG)(k:TT)(l:TE):TE:=fun e H Q=>j e H fun J n=>∃W:Nat->Nat->Td->St->Hp->Prop,(∃m,W 0 m [] (zG cap e) n)/\∀i m acc c H',W i m acc c H'->
 (J.stop i H'/\∀p,H' p=Y->Q (.ref p) (upd H' p (.lst acc))) \/
 (J.go i H'/\acc.length<sizeLine/\∃N:Td->St->Hp->Prop,(∀acc' a d,N acc' a d->∃f,f<m/\W (i+1) f acc' a d)/\∀x d,J.yld i H' x d->g x c d fun a o=>k a o fun b h=>(b=true/\l a h fun v q=>N (acc++[v]) a q)\/(b=false/\N acc a h))
section
variable{X:Cx}{N':Tc}{cap:T3}{scope:Scope}
def aBx{elt tg iter:Ud}{ifs:T9}{pos:Pos}{wi:TI}{g:TG}{tc:TT}{te:TE}(hc:X.calm=true)(S:rG X N' cap scope)(hi:PI X tg iter wi)
 (hg:∀C s H fp pn,PG (eF X N' scope C s H fp pn) tg g) (ae:∀C s H fp pn,LK (eF X N' scope C s H fp pn) ifs tc) (he:∀C s H fp pn,PE (eF X N' scope C s H fp pn) elt te)
 (hs:∀x,foldedSetIterable iter X.env x=pure x) {pins:T2} {s:Ub} {σ:St} {H:Hp} {Q:VK} (I:Inv X pins σ H s) (h:tLc cap wi g tc te σ H Q)
 {U:Tx (Tz->Sem Unit)} {QQ:T1}
 (post:∀(D C:Uc)(H':Hp)(acc:Td)(O:Ub),D≠C->(∃m,O.heap.Ns C m)->(∀h',Heap.SameBut C O.heap h'->Inv X pins σ (upd H' D (.lst acc)) { O with heap:=h' })->sA X pins (upd H' D (.lst acc)) C->Q (.ref D) (upd H' D (.lst acc))->compPost (model X.prog X.w) X.A X.xe U QQ (.ref D) C (.ok .next) O):
 wpAny (model X.prog X.w) X.A (comprehension (.ListComp elt [⟨tg,iter,ifs,0⟩] scope pos) scope X.env (firstIterPos [⟨tg,iter,ifs,0⟩] pos) (newList []) false (firstIter [⟨tg,iter,ifs,0⟩] X.env) U) QQ X.xe s:=by
 refine wpAny_comprehension_free rfl hs (DH<|S.cells I.ok) S.kind S.names ?_;refine thn (hi pins s σ H _ I h) fun v s1 h1=>thn h1 fun au s2 h2=>?_;obtain⟨it,fp,tn,J,k,e,G,T,a0,f2,W,⟨m0,w0⟩,a3⟩:=h2;subst e
 have f:∀b∈fp,b<s2.heap.objs.size:=fun b a=>by
  obtain⟨o,e,_⟩:=T.obj _ _ a0 b a;exact C2 e
 refine J8<|wpAny_newFunctionEnv S.nocell (fun y hy=>by simp at hy) (fun a4 a5 a6=>?_) S.kind;generalize hP:s2.heap.push { cls:=.type "list",dict:=Y,data:=.seq ([]:T6).toArray }=P2 at a5 a6 ⊢;have a7:P2.objs.size=s2.heap.objs.size+1:=by rw[<- hP,A0i]
 have j:s2.heap.objs.size≠P2.objs.size:=by rw[a7];exact D1<|S1 _
 have hC:s2.heap.objs.size<=P2.objs.size:=by rw[a7];exact A0j _
 have l:=fun b o e a=>a6.extBut b o a<|A5 _ e;have a1:=fun b o e=>l b o (by rw[<- hP];exact A5 _ e)<|D1<|C5 (C2 e) hC;have af:=l _ _ (by rw[<- hP];exact D0 _ rfl) j
 have I4:Inv (eF X N' scope P2.objs.size s2 k fp pins) [] (zG cap σ) k { s2 with heap:=a4,toks:=s2.toks+([]:Tu).length }:=
  NR S G f2 f hC (by simpa using a5) a1
 have P:∀s4:Ub,s4={ s2 with heap:=a4,toks:=s2.toks+([]:Tu).length }->
  codeAny (model X.prog X.w) X.A (.compLoop (.ListComp elt [⟨tg,iter,ifs,0⟩] scope pos) 0 (.ref it) (.ref s2.heap.objs.size) (compEnvC scope (fT X.env scope.names []) P2.objs.size X.env)) (compPost (model X.prog X.w) X.A X.xe U QQ (.ref s2.heap.objs.size) P2.objs.size) s4:=by
  rintro s4 rfl
  have a8:s2.heap.objs.size∉frs X.stack:=fun a=>by
   obtain⟨_,o,ho,_⟩:=G.stack.mem a;exact absurd (C2 ho)<|S3 _
  have cne:∀x c,(fT X.env scope.names []).lookup x=Z c->c<s2.heap.objs.size:=fun x c e=>by
   obtain⟨v,q⟩:=G.cell x c<|S.sub G.ok x c e;exact q.lt
  have t:∀{Hx:Hp}{ob:Obj},(∀b∈fp,Hx b=Y)->∀b∈fp,sA (eF X N' scope P2.objs.size s2 k fp pins) [(s2.heap.objs.size,ob)] Hx b:=fun{Hx ob} hn b a=>by
   refine⟨hn b a,D1<|C5 (f b a) hC,G.stkAll (f2 b a).2.1 (f2 b a).2.2.1,.inl a,fun x c e=>(f2 b a).2.2.2.2.1 x c (S.sub G.ok x c e),fun p B=>?_⟩;rcases List.mem_append.mp B with z|z
   .exact(f2 b a).2.2.2.2.2 p z
   .rw[List.mem_singleton.mp z];exact Z9<|f b a
  refine TQ (fun n O=>∃(i:Nat)(d:St)(H':Hp)(acc:Td)(its:T6)(nn:Nat),Inv (eF X N' scope P2.objs.size s2 k fp pins) [] d H' O/\tn i O.heap/\(∀b∈fp,H' b=Y)/\H' s2.heap.objs.size=Y /\
   O.heap.get? s2.heap.objs.size=Z { cls:=.type "list",data:=.seq its.toArray nn }/\bH acc its/\acc.length<=sizeLine/\W i n acc d H') ?_ m0
   ⟨0,zG cap σ,k,[],[],0,I4,T.keep _ _ _ a0 fun b _ o e=>a1 b o e,fun b a=>(f2 b a).1,G.hok.fresh<|B3 _,af,.nil,O4 _,w0⟩
  rintro n s5 ⟨i,d,H',acc,its,nn,I5,t5,a9,d5,g5,va,la,w5⟩
  have I5p:Inv (eF X N' scope P2.objs.size s2 k fp pins) [(s2.heap.objs.size,{ cls:=.type "list",data:=.seq its.toArray nn })] d H' s5:=I5.pins_of fun p B=>by
   rw[List.mem_singleton.mp B];exact⟨g5,d5,j,a8,fun v z=>by cases z⟩
  rcases a3 i n acc d H' w5 with⟨stop,q⟩|⟨go,lt,N,hN,step⟩
  .refine thn (T.done (eF X N' scope P2.objs.size s2 k fp pins) rfl rfl rfl hc i _ s5 d H' _ I5p (t a9) t5 stop) fun r s6 ⟨hr,I6⟩=>.inl ⟨hr,?_⟩;have d6:=(I6.pin (s2.heap.objs.size,{ cls:=.type "list",data:=.seq its.toArray nn }) (by simp)).1;have nC:=I6.free;refine post _ _ H' acc s6 j (let⟨m,hn,_⟩:=I6.loc;⟨m,hn⟩) (fun h' a2=>?_) (G.fpOk hC (by rw[aK j.symm];exact nC))<|q _ d5;have up:=fun b o a e=>a2.extBut b o a e;have L:∀b o,s2.heap.get? b=Z o->b≠P2.objs.size/\b≠s2.heap.objs.size:=fun b o e=>⟨D1<|C5 (C2 e) hC,D1<|C2 e⟩;have u6:=I6.base
   have u7:Un (frs X.stack) fp k (upd H' s2.heap.objs.size (.lst acc)) s2.heap h':=by
    refine⟨fun b o e n a hx=>up b o (L b o e).1 (u6.keep b o e n a hx),fun b o e n a hx=>?_,fun b o e n hx=>?_,fun b o e hx=>?_,fun b xs e=>?_,fun b o u e=>?_,fun b ps e=>?_⟩
    .obtain⟨sl,q⟩:=u6.slot b o e n a hx;exact⟨sl,up b _ (L b o e).1 q⟩
    .rw[aK (L b o e).2];exact u6.free b o e n hx
    .obtain⟨o',q⟩:=u6.there b o e hx;exact⟨o',up b o' (L b o e).1 q⟩
    .have z:=u6.tups b xs e;rw[aK (aO z d5)];exact z
    .have z:=u6.frzs b o u e;rw[aK (aO z d5)];exact z
    .obtain⟨more,z⟩:=u6.tbls b ps e;exact⟨more,by rw[aK (aO z d5)];exact z⟩
   have ag:HOk X.prog X.w (upd H' s2.heap.objs.size (.lst acc)) h':=fun b u e=>by
    by_cases a:b=s2.heap.objs.size
    .subst a;rw[aX]at e;cases e;exact⟨la,its,nn,va,up _ _ j d6⟩
    .rw[aK a]at e;refine(I6.hok b u e).stay (fun c v ah z=>up c v ?_ z) (fun c z=>by rw[aK (aO z d5)];exact z) fun c xs z=>by rw[aK (aO z d5)];exact z
     rcases ah with rfl|z
     .exact aO e nC
     .exact aO z nC
   have ai:=I6.os;have aj:=I6.bare;obtain⟨hh,gg,dd,tt,oo⟩:=s6;subst ai;have z7:=G.call (d':=dd) (t':=tt) u7 ag aj fun b a=>⟨(f2 b a).2.2.2.1,(f2 b a).2.1,(f2 b a).2.2.2.2.1,(f2 b a).2.2.2.2.2⟩;exact z7
  .refine thn (T.item (eF X N' scope P2.objs.size s2 k fp pins) rfl rfl rfl hc i _ s5 d H' _ I5p (t a9) t5 go) fun r s6 ⟨u,hr,h6⟩=>.inr ⟨u,hr,?_⟩;refine thn h6 fun _ s7 ⟨x,H7,I7,r7,y7,t7,ak⟩=>?_;have am:=I7.pinned (t ak) (T.obj _ _ t7)
   have R:∀{aa:St}{Hx:Hp}{sx:Ub},Inv (eF X N' scope P2.objs.size s2 k fp pins) ([(s2.heap.objs.size,{ cls:=.type "list",data:=.seq its.toArray nn })]++uP fp s7.heap) aa Hx sx->
    (∀b∈fp,∀o,s7.heap.get? b=Z o->sx.heap.get? b=Z o)/\(∀b∈fp,Hx b=Y)/\sx.heap.get? s2.heap.objs.size=Z { cls:=.type "list",data:=.seq its.toArray nn }/\Hx s2.heap.objs.size=Y:=fun{aa Hx sx} Ix=>by
    refine⟨fun b a o e=>(Ix.pin (b,o)<|C6 _<|C6 _<|fN a e).1,fun b a=>?_,?_,?_⟩
    .obtain⟨o,e,_⟩:=T.obj _ _ t7 b a;exact(Ix.pin (b,o)<|C6 _<|C6 _<|fN a e).2.1
    .exact(Ix.pin (s2.heap.objs.size,_)<|C6 _<|E4 _<|List.mem_singleton.mpr rfl).1
    .exact(Ix.pin (s2.heap.objs.size,{ cls:=.type "list",data:=.seq its.toArray nn })<|C6 _<|E4 _<|List.mem_singleton.mpr rfl).2.1
   refine thn (hg _ _ _ _ _ _ s7 d H7 x u _ am r7<|step x H7 y7) fun _ s8 ⟨E,H8,I8,q8⟩=>?_;refine thn (ae _ _ _ _ _ _ s8 E H8 _ I8 q8) fun b s9 ⟨H9,I9,q9⟩=>?_;rcases q9 with⟨rfl,q9⟩|⟨rfl,n9⟩
   .refine .inl ⟨rfl,thn (he _ _ _ _ _ _ s9 E H9 _ I9 q9) fun uv ao ⟨v,ab,ac,rv,ap⟩=>?_⟩;obtain⟨m',hm,aq⟩:=hN _ _ _ ap;obtain⟨b1,b2,b3,b4⟩:=R ac;refine wpAny_list_append_plain ⟨nn,b3⟩ (fun h' B a2=>?_) (by rw[F9,<- va.length];exact la);obtain⟨n2,e2⟩:=B;have up:=fun b o a e=>a2.extBut b o a e;have I10':Inv (eF X N' scope P2.objs.size s2 k fp pins) [] E ab ao:=ac.pins_of fun p B=>absurd B (by simp);refine⟨m',hm,i+1,E,ab,acc++[v],its++[uv],n2,I10'.turned up b4 j (.inr (B3 _)) (fun x c e=>D1<|cne x c e) fun p B=>?_,T.keep _ _ _ t7 fun b a o e=>up b o (D1<|f b a)<|b1 b a o e,b2,b4,?_,va.append (.cons rv .nil),?_,aq⟩
    .have ar:p∈X.pn++pins:=by
      rcases List.mem_append.mp B with z|z
      .exact z
      .exact absurd z (by simp)
     exact D1<|C2 (G.pin p ar).1
    .rw[e2];simp
    .rw[C3,I0];exact lt
   .obtain⟨m',hm,w9⟩:=hN _ _ _ n9;obtain⟨b1,b2,b3,b4⟩:=R I9;exact .inr ⟨rfl,m',hm,i+1,E,H9,acc,its,nn,I9.pins_of fun p B=>absurd B (by simp),T.keep _ _ _ t7 b1,b2,b4,b3,va,la,w9⟩
 exact codeAny_compStart_list (P _ rfl)<|T.self _ 0 _ _ _ (T.keep _ _ _ a0 fun b _ o e=>a1 b o e)<|P _ rfl
def pe_lc(f:X.calm=true)(S:rG X N' cap scope)(hi:PI X tg iter c)
 (i:∀C s H fp pn,PG (eF X N' scope C s H fp pn) tg g) (a:∀C s H fp pn,LK (eF X N' scope C s H fp pn) ifs d) (j:∀C s H fp pn,PE (eF X N' scope C s H fp pn) elt e)
 (hs:∀x,foldedSetIterable iter X.env x=pure x:=by intro _;rfl):PE X (.ListComp elt [⟨tg,iter,ifs,0⟩] scope pos) (tLc cap c g d e):=by
 intro pins s o H Q I h;refine aBx f S hi i a j hs I h fun D C H' acc p k ⟨m,hn⟩ l _ n=>⟨m,hn,fun h' b=>?_⟩;exact⟨.ref D,_,l h' b,rfl,n⟩
def aAp{i:Nat}{x:Str}{elt tg iter:Ud}{ifs:T9}{pos d c:Pos}{r:TI}{g:TG}{t:TT}{u:TE}(B:X.N.Nodup)(f:X.N[i]?=Z x)(G:X.calm=true)(S:rG X N' cap scope)(hi:PI X tg iter r)
 (J:∀C s H fp pn,PG (eF X N' scope C s H fp pn) tg g) (j:∀C s H fp pn,LK (eF X N' scope C s H fp pn) ifs t) (L:∀C s H fp pn,PE (eF X N' scope C s H fp pn) elt u)
 (k:swapsWith (.ListComp elt [⟨tg,iter,ifs,0⟩] scope pos) (Z (.Name x d)) c.line X.env=pure true:=by rfl) (y:X.env.scope.names.lookup x=Z .local:=by rfl)
 (hs:∀x,foldedSetIterable iter X.env x=pure x:=by intro _;rfl):PS X (.Assign [.Name x d] (.ListComp elt [⟨tg,iter,ifs,0⟩] scope pos) c) (aEz (tLc cap r g t u)<|TH i):=by
 intro pins s σ H D I h;rw[exec_Assign_Name_used _ _ _ _ k];refine A0<|Y0<|A0 ?_;refine A0 (thn (aBx G S hi J j L hs I h fun E C H' acc A O ⟨m,hn⟩ P fC Q=>?_) fun _ A R=>B1<|B1 R);have T:=P A.heap<|Heap.SameBut.refl ..;refine wpAny_assign_Name<|GS T B f (.inl y) (v:=.ref E) rfl (fun s2 U l=>?_) (.inr y);obtain⟨a,n,ha⟩:=l
 have p:C≠a:=by
  rcases ha with z|z
  .rw[z];exact fC.2.1
  .exact fun w=>fC.2.2.2.2.1 x a z w.symm
 refine⟨m,hn.extBut n.extBut p,fun h' q=>?_⟩;exact⟨_,_,U.turned (fun b o V e=>q.extBut b o V e) fC.1 fC.2.1 fC.2.2.2.1 fC.2.2.2.2.1 fC.2.2.2.2.2,Q⟩
end
noncomputable def JS:Key->Ua
 |.inl i=>.int i
 |.inr x=>.str x
mutual
noncomputable def Rep(K:Fg)(H:Hp):Ua->V->Prop
 |.none,v=>v=.non
 |.bool b,v=>v=.bl b
 |.int i,v=>v=.int i
 |.str x,v=>v=.str x
 |.list xs,v=>∃a vs,v=.ref a/\SqL K H a vs/\aQ K H xs vs
 |.tuple xs,v=>∃a vs,v=.ref a/\SqT K H a vs/\aQ K H xs vs
 |.dict kvs,v=>∃a ks,v=.ref a/\H a=Z (.dK ks)/\rV K H kvs ks
noncomputable def aQ(K:Fg)(H:Hp):T5->Td->Prop
 |[],vs=>vs=[]
 |d::e,vs=>∃v r,vs=v::r/\Rep K H d v/\aQ K H e r
noncomputable def rV(K:Fg)(H:Hp):Tw (Ua×Ua)->Tw (Key×V)->Prop
 |[],ks=>ks=[]
 |(k,d)::kvs,ks=>∃c v r,ks=(c,v)::r/\k=JS c/\Rep K H d v/\rV K H kvs r
end
def jN.seqT(e:jN H H')(h:SqT K H a xs):SqT K H' a xs:=by
 rcases h with h|h
 .refine .inl ?_;rcases h with h|⟨o,h⟩
  .exact .inl (e _ _ h)
  .exact .inr ⟨o,e _ _ h⟩
 .exact .inr h
mutual
theorem Rep.same{K:Fg}{H H':Hp}(e:jN H H'):∀(d:Ua)(v:V),Rep K H d v->Rep K H' d v
 |.none=>fun v h=>h
 |.bool b=>fun v h=>h
 |.int i=>fun v h=>h
 |.str x=>fun v h=>h
 |.list xs=>fun v h=>by
  obtain⟨a,vs,c,f,g⟩:=h;exact⟨a,vs,c,e.seq f,aQ.same e xs vs g⟩
 |.tuple xs=>fun v h=>by
  obtain⟨a,vs,c,f,g⟩:=h;exact⟨a,vs,c,e.seqT f,aQ.same e xs vs g⟩
 |.dict kvs=>fun v h=>by
  obtain⟨a,ks,c,f,g⟩:=h;exact⟨a,ks,c,e _ _ f,rV.same e kvs ks g⟩
theorem aQ.same{K:Fg}{H H':Hp}(e:jN H H'):∀(j:T5)(vs:Td),aQ K H j vs->aQ K H' j vs
 |[]=>fun vs h=>h
 |d::j=>fun vs h=>by
  obtain⟨v,r,c,f,g⟩:=h;exact⟨v,r,c,Rep.same e d v f,aQ.same e j r g⟩
theorem rV.same{K:Fg}{H H':Hp}(e:jN H H'):∀(kvs:Tw (Ua×Ua))(ks:Tw (Key×V)),rV K H kvs ks->rV K H' kvs ks
 |[]=>fun ks h=>h
 |(k,d)::kvs=>fun ks h=>by
  obtain⟨l,v,r,c,f,g,m⟩:=h;exact⟨l,v,r,c,f,Rep.same e d v g,rV.same e kvs r m⟩
end
theorem aQ.length{K:Fg}{H:Hp}:∀{ds:T5}{vs:Td},aQ K H ds vs->ds.length=vs.length
 |[],vs=>fun h=>by rw[show vs=[]from h];rfl
 |d::ds,vs=>fun h=>by
  obtain⟨v,r,a,_,b⟩:=h;rw[a,B5,B5,aQ.length b]
theorem aQ.get{K:Fg}{H:Hp}:∀{ds:T5}{vs:Td}{i:Nat}{v:V},aQ K H ds vs->vs[i]?=Z v->∃d,ds[i]?=Z d/\Rep K H d v
 |[],vs,i,v=>fun h e=>by rw[show vs=[]from h]at e;simp at e
 |d::ds,vs,0,v=>fun h e=>by
  obtain⟨w,r,a,b,c⟩:=h;rw[a]at e;simp at e;subst e;exact⟨d,rfl,b⟩
 |d::ds,vs,i+1,v=>fun h e=>by
  obtain⟨w,r,a,b,c⟩:=h;rw[a]at e;exact aQ.get (i:=i) c (by simpa using e)
theorem aQ.app{K:Fg}{H:Hp}:∀{ds es:T5}{vs ws:Td},aQ K H ds vs->aQ K H es ws->aQ K H (ds++es) (vs++ws)
 |[],es,vs,ws=>fun h k=>by rw[show vs=[]from h];exact k
 |d::ds,es,vs,ws=>fun h k=>by
  obtain⟨v,r,a,b,c⟩:=h;exact⟨v,r++ws,by rw[a];rfl,b,aQ.app c k⟩
section
variable{X:Cx}{pins:T2}{σ:St}{H:Hp}{s:Ub}
def Inv.sysN(I:Inv X pins σ H s):H sysModules=Y:=by
 obtain⟨o,es,ep,h,_⟩:=I.mod.sysm;exact(I.bs _ _ h).2
def Inv.sysL(I:Inv X pins σ H s)(h:SqL X.K H a xs):sysModules≠a:=by
 intro e;subst e;have hn:=I.sysN;rcases h with(h|⟨o,h⟩)|⟨o,its,n,c,_,_,hd,_⟩
 .rw[hn]at h;cases h
 .rw[hn]at h;cases h
 .obtain⟨o',es,ep,h',b⟩:=I.mod.sysm;have:=I.mod.kin _ _ c;rw[h']at this;cases this;rw[hd]at b;cases b
mutual
theorem Rep.reads'(I:Inv X pins σ H s):∀(d:Ua)(v:V)(u:Tz),Rep X.K H d v->RelV v u->∃as,Reads s.heap u d as/\sysModules∉as
 |.none=>fun v u r q=>by
  rw[show v=.non from r]at q;rw[show u=Value.none from q];exact⟨_,.none,by simp⟩
 |.bool b=>fun v u r q=>by
  rw[show v=.bl b from r]at q;rw[show u=Value.bool b from q];exact⟨_,.bool b,by simp⟩
 |.int i=>fun v u r q=>by
  rw[show v=.int i from r]at q;obtain⟨t,rfl⟩:=(show ∃t,u=Value.int i t from q);exact⟨_,.int i t,by simp⟩
 |.str x=>fun v u r q=>by
  rw[show v=.str x from r]at q;obtain⟨t,rfl⟩:=(show ∃t,u=Value.str x t from q);exact⟨_,.str x t,by simp⟩
 |.list xs=>fun v u r q=>by
  obtain⟨a,vs,rfl,c,f⟩:=r;rw[show u=Value.ref a from q];obtain⟨its,B,⟨o,n,g,h,_,hd⟩,_⟩:=I.list c;obtain⟨as,ha,hs⟩:=aQ.reads' I xs vs its f B;exact⟨_,.list g h hd (by simpa using ha),fun z=>(List.mem_cons.mp z).elim (I.sysL c) hs⟩
 |.tuple xs=>fun v u r q=>by
  obtain⟨a,vs,rfl,c,f⟩:=r;rw[show u=Value.ref a from q];obtain⟨its,B,⟨o,g,h,n,hd⟩,_⟩:=I.tuple c;obtain⟨as,ha,hs⟩:=aQ.reads' I xs vs its f B;exact⟨_,.tuple g h hd (by simpa using ha),hs⟩
 |.dict kvs=>fun v u r q=>by
  obtain⟨a,ks,rfl,c,f⟩:=r;rw[show u=Value.ref a from q];obtain⟨_,hS,vs,C,o,es,ep,g,D,hd,_,O,_⟩:=(show eJ X.prog X.w H s.heap a (.dK ks)from I.hok a _ c);obtain⟨as,bs,P,Q,j,n2⟩:=rV.reads' I kvs ks vs es.toList f C O;refine⟨_,.dict g D.1 hd P Q,fun z=>?_⟩;rcases List.mem_append.mp z with z|z
  .rcases List.mem_cons.mp z with z|z
   .rw[z]at hS;simp at hS
   .exact j z
  .exact n2 z
theorem aQ.reads'(I:Inv X pins σ H s):∀(y:T5)(vs:Td)(us:T6),aQ X.K H y vs->bH vs us->∃as,ReadsAll s.heap us y as/\sysModules∉as
 |[]=>fun vs us r q=>by
  rw[show vs=[]from r]at q;cases q;exact⟨_,.nil,by simp⟩
 |d::y=>fun vs us r q=>by
  obtain⟨v,t,rfl,c,f⟩:=r;cases q with
  |cons A E=>
   obtain⟨as,ha,j⟩:=Rep.reads' I d v _ c A;obtain⟨bs,G,n2⟩:=aQ.reads' I y t _ f E;exact⟨_,.cons ha G,fun z=>(List.mem_append.mp z).elim j n2⟩
theorem rV.reads'(I:Inv X pins σ H s):∀(kvs:Tw (Ua×Ua))(ks:Tw (Key×V))(vs:Tw (Key×Tz))(es:Tw DictEntry),rV X.K H kvs ks->KV ks vs->Pairs (eG X.prog X.w) es vs->
 ∃as bs,ReadsAll s.heap (es.map (·.key)) (kvs.map (·.1)) as/\ReadsAll s.heap (es.map (·.val)) (kvs.map (·.2)) bs/\sysModules∉as/\sysModules∉bs
 |[]=>fun ks vs es r q p=>by
  rw[show ks=[]from r]at q;cases q;cases p;exact⟨_,_,.nil,.nil,by simp,by simp⟩
 |(k,d)::kvs=>fun ks vs es r q p=>by
  obtain⟨R,v,t,rfl,S,c,f⟩:=r;cases q with
  |@cons _ N _ T A E=>
   cases p with
   |@cons e _ U _ p1 p2 p3=>
    obtain⟨as,bs,ha,G,j,n2⟩:=rV.reads' I kvs t _ _ f E p3;obtain⟨cs,h,n3⟩:=Rep.reads' I d v _ c A.2
    have l:Reads s.heap e.key k []:=by
     rw[S];have m:CU N.1 e.key=true:=p1;rw[<- show R=N.1 from A.1]at m;rcases dI m with⟨i,J,rfl,L⟩|⟨x,J,rfl,L⟩
     .rw[L];exact .int i J
     .rw[L];exact .str x J
    refine⟨_,_,.cons l ha,.cons (show Reads s.heap e.val d cs by rw[p2];exact h) G,by simpa using j,fun z=>(List.mem_append.mp z).elim n3 n2⟩
end
def Rep.reads(I:Inv X pins σ H s)(d:Ua)(v:V)(u:Tz)(r:Rep X.K H d v)(q:RelV v u):∃as,Reads s.heap u d as:=let⟨as,h,_⟩:=Rep.reads' I d v u r q;⟨as,h⟩
def aQ.reads(I:Inv X pins σ H s)(ds:T5)(vs:Td)(us:T6)(r:aQ X.K H ds vs)(q:bH vs us):∃as,ReadsAll s.heap us ds as:=let⟨as,h,_⟩:=aQ.reads' I ds vs us r q;⟨as,h⟩
end
section
variable{X:Cx}
def YI(K:Fg)(neg:Bool):R2:=fun x y H Q=>∃dx a,Rep K H dx x/\Rep K H a y/\SeqAt.shaped dx=true/\SeqAt.shaped a=true/\Q (.bl (if neg then !PyData.eqv dx a else PyData.eqv dx a)) H
def aCI(a:X.A.units+64<cLine):OpR X (compareOp .Eq) (YI X.K false):=by
 intro pins s k H x y v u Q I b c h;obtain⟨dx,d,e,f,g,i,q⟩:=h;obtain⟨as,ha⟩:=Rep.reads I dx x v e b;obtain⟨bs,j⟩:=Rep.reads I d y u f c;exact eq_dataH ha j g i a ⟨.bl _,H,I,rfl,q⟩
def aKr(a:X.A.units+64<cLine):OpR X (compareOp .NotEq) (YI X.K true):=by
 intro pins s k H x y v u Q I b c h;obtain⟨dx,d,e,f,g,i,q⟩:=h;obtain⟨as,ha⟩:=Rep.reads I dx x v e b;obtain⟨bs,j⟩:=Rep.reads I d y u f c;exact ne_dataH ha j g i a ⟨.bl _,H,I,rfl,q⟩
open Classical in
noncomputable def EG(h:Heap)(dv:Ua)(u:Tz):Bool:=if ∃d as,Reads h u d as/\PyData.eqv d dv=true then true else false
def aEy(r:Reads h u d as)(b:d.canLay0=true):EG h dv u=PyData.eqv d dv:=by
 unfold EG;by_cases e:PyData.eqv d dv=true
 .rw[A4 ⟨d,as,r,e⟩,e]
 .rw[B0,Bool.eq_false_iff.mpr e];rintro⟨c,a,f,g⟩;have:=SeqAt.Reads.unique d c u as a b r f;subst this;exact e g
theorem BG{A:Uf}{s:Ub}(b:Reads s.heap v dv h)(c:SeqAt.shaped dv=true)(f:A.units+64<cLine):
 ∀(us:T6)(ds:T5)(as:Tb),ReadsAll s.heap us ds as->ds.all SeqAt.shaped=true->(∀y∈us,SeqAt.EqAt A s y v<|EG s.heap dv y)/\us.any (EG s.heap dv)=ds.any fun d=>PyData.eqv d dv
 |[]=>fun ds as r _=>by
  cases r;exact⟨fun y a=>absurd a (by simp),rfl⟩
 |y::us=>fun ds as r hs=>by
  cases r with
  |@cons _ _ d i j k g l=>
   rw[List.all_cons,D2]at hs;obtain⟨m,n⟩:=BG b c f us _ _ l hs.2;have e:=aEy (dv:=dv) g<|Y4 hs.1;have a:SeqAt.EqAt A s y v (PyData.eqv d dv):=SeqAt.eqAt_reads d dv A s y v _ _ g b (Y4 hs.1) (Y4 c)<|SeqAt.room_of_shaped hs.1 f;refine⟨fun z o=>?_,by rw[U5,U5,e,n]⟩;rcases List.mem_cons.mp o with q|q
   .rw[q,e];exact a
   .exact m z q
def aJI(K:Fg)(neg:Bool):R2:=fun x y H Q=>∃dx a p vs,Rep K H dx x/\y=.ref p/\(SqL K H p vs\/SqT K H p vs)/\aQ K H a vs/\SeqAt.shaped dx=true/\a.all SeqAt.shaped=true /\
 Q (.bl (if neg then !a.any fun d=>PyData.eqv d dx else a.any fun d=>PyData.eqv d dx)) H
def aIG(i:X.A.in1.units+64<cLine):OpR X (compareOp .In) (aJI X.K false):=by
 intro pins s o H x y v u Q I k l h;obtain⟨dx,c,p,vs,m,rfl,hp,a,j,b,q⟩:=h;cases l;obtain⟨as,ha⟩:=Rep.reads I dx x v m k;rcases hp with hp|hp
 .obtain⟨its,r,pl,n⟩:=I.list hp;obtain⟨bs,d⟩:=aQ.reads I c vs its a r;obtain⟨e,f⟩:=BG (A:=X.A.in1) ha j i its c bs d b;refine SeqAt.in_listAt (EG s.heap dx) pl.isList (fun w g=>e w (by simpa using g)) ⟨.bl _,H,I,rfl,?_⟩;rw[show its.toArray.any (EG s.heap dx)=its.any (EG s.heap dx)by simp,f];exact q
 .obtain⟨its,r,pl,n⟩:=I.tuple hp;obtain⟨bs,d⟩:=aQ.reads I c vs its a r;obtain⟨e,f⟩:=BG (A:=X.A.in1) ha j i its c bs d b;refine SeqAt.in_tupleAt (EG s.heap dx) pl (fun w g=>e w (by simpa using g)) ⟨.bl _,H,I,rfl,?_⟩;rw[show its.toArray.any (EG s.heap dx)=its.any (EG s.heap dx)by simp,f];exact q
theorem bH.types:∀{Ts:Tw String}{its:T6},bH (Ts.map V.ty) its->its=Ts.map Value.type
 |[],_=>fun h=>by cases h;rfl
 |t::Ts,its=>fun h=>by
  cases h with
  |cons a b=>rw[show _=Value.type t from a,bH.types b];rfl
theorem bH.bools:∀{bs:Tw Bool}{its:T6},bH (bs.map V.bl) its->its=bs.map Value.bool
 |[],_=>fun h=>by cases h;rfl
 |b::bs,its=>fun h=>by
  cases h with
  |cons a c=>rw[show _=Value.bool b from a,bH.bools c];rfl
def all_range(bs:Tw Bool):(List.range bs.length).all (fun i=>bs.getD i false)=bs.all id:=by
 rw[Z2];simp only[List.all_eq_true,List.mem_range];constructor
 .intro h b a;obtain⟨i,hi,rfl⟩:=List.mem_iff_getElem.mp a;have:=h i hi;rw[E6,D7 hi]at this;exact this
 .intro h i hi;rw[E6,D7 hi];exact h _<|Y8 hi
def LQ{bs:Tw Bool}:TruthOf prog w A (fun i v=>(bs.map Value.bool).toArray[i]?=Z v) (fun i=>bs.getD i false):=by
 intro i v s Q E a d;rw[List.getElem?_toArray,F8]at a;cases e:bs[i]? with
 |none=>rw[e]at a;cases a
 |some b=>
  rw[e]at a;cases a;have f:bs.getD i false=b:=by rw[E6,e];rfl
  have c:Q (bs.getD i false) s:=d;rw[f]at c;exact O8 c
noncomputable def yJ:Nat:=2 ^ 8000
def aCw(i:Int):Prop:=i.natAbs<yJ
def LD(h:aCw j):j.natAbs.log2<9000:=by
 by_cases a:j.natAbs=0
 .rw[a];decide +kernel
 .exact A0r ((Nat.log2_lt a).mpr h) (by decide)
def aLi(i j:Int):Prop:=aCw i/\aCw j
def GA(h:aCw j):Builtin.Int.intBits j<=2 ^ 20:=by
 unfold Builtin.Int.intBits;by_cases a:(j==0)=true
 .rw[A4 a];exact O4 _
 .rw[B0 a];have:=LD h;omega
end
structure Callee(P:Ue)(w:World)(K:Fg)(mg:Str->Tg)(base:Heap)(k:Nat)(x:Str)(ps:Tc)(sp:Sp)(q:Bool:=true):Prop where
 ex:∃f fd,iI P w K mg base CX0 k f fd ps sp q/\mg x=Z (.ref f)/\PySem.W.keepIn K (.ref f)=true/\Binds K fd ps []
structure Def(K:Fg)(mg:Str->Tg)(x:Str)(st:Stmt):Prop where
 ex:∃f fd,Fun K x x st f fd/\mg x=Z (.ref f)
section
variable{P:Ue}{w:World}{K:Fg}{mg:Str->Tg}{base:Heap}{X:Cx}
def Def.ok{st:Stmt}{ps:Tc}{sp:Sp}{q:Bool}(D:Def K mg x st)(S:aV N ps (aH st))
 (b:∀(kV doc pm:Tz)(an:Ti)(cdv ct:Tz)(us:T6),us.length=ps.length->bindArgs (PySem.W.fnOf x x (dQ st) (bU st) (aH st) .none kV doc pm an cdv ct) ⟨us,[]⟩=pure (ps.zip us))
 (len:∀vs H Q E,sp vs H Q E->vs.length=ps.length)
 (a:∀(f:Uc)(cdv:Tz)(A:Uf)(outer:Tw Env)(s:Ub)(H:Hp)(vs:Td)(Q:VK)(E:XK),cK k (A.deeper<|envOfC x (aH st) s.heap.objs.size f cdv) q->sp vs H Q E->
  ∃t,PSs (mP CX0 P w K mg base N x (aH st) f cdv A outer s H E q).nox (bU st) t/\t { nx:=fun _ H'=>Q .non H',rt:=Q } (start N vs) H):Callee P w K mg base (k+1) x ps sp q:=by
 obtain⟨f,fd,F,m⟩:=D.ex;exact⟨f,fd,F.ok S len fun cdv A outer s H vs Q E c h=>a f cdv A outer s H vs Q E c h,m,F.kp,F.binds b⟩
def def_mk{st:Stmt}{oc:Tz}{od:Ti}{osl:Array (Tg)}{kV doc:Tz}(X:K.In h)(G:h.Ns mainGlobals mg)(a:PySem.W.nsIn K mainGlobals x=Z (Z (.ref f)))
 (l:K.lookup f=Z ⟨oc,od,.func (PySem.W.fnOf x x (dQ st) (bU st) (aH st) .none kV doc pm an cdv ct),osl⟩) (c:PySem.W.codeIn K cdv x=true) (k:PySem.W.keepIn K (.ref f)=true):Def K mg x st:=
 ⟨f,_,aCS l c k,L7 X G a⟩
def aKv{e:Ud}{es:T9}(C:Callee X.prog X.w X.K X.mg X.base k x ps sp q)(d:cK k X.A q)(ha:PA X (e::es) t)(g:Gl X x:=by rfl)
 (a:(x==("__debug__":Str))=false:=by decide) (h:starEach (e::es) X.env=(false,eval e X.env)::starEach es X.env:=by rfl) (c:(backTo pos<|starEach es X.env).any (·.1)=false:=by rfl):
 PE X (.Call (.Name x p) (e::es) [] pos) (aBf sp [] E0 t):=by
 obtain⟨f,fd,F,m,kp,b⟩:=C.ex;exact aEK F d g m kp b .nil aLt ha a h c
def cK.units1(r:cK k A):A.in1.units+64<cLine:=by have:=r.un;show A.units+1+64<_;omega
def WY(mg:Str->Tg)(xs:Tc):Prop:=∀x∈xs,mg x=Y
def WY.of(h:WY mg xs)(x:Str)(a:x∈xs:=by decide +kernel):mg x=Y:=h x a
def aDp:WY mg []:=fun _ h=>absurd h (by simp)
def dA{x:Str}(h:mg x=Y)(a:WY mg xs):WY mg (x::xs):=fun y b=>(List.mem_cons.mp b).elim (fun e=>e▸h) (a y)
def OG(i j:Int):Prop:=aJq i j\/aLi i j
def OG.ok(h:OG i j):IntMulOk i j:=by
 rcases h with h|h
 .exact h.ok
 .exact IntMulOk.of_bits (GA h.1)<|GA h.2
def op_mulA:OpR X (binaryOp .Mult) (rI OG fun i j=>.int (i*j)):=opI fun _ _ _ _ _ _ _ a q=>mul_int q a.ok
def aHd(_ j:Int):Prop:=0<j/\aCw j
def aCU:OpR X (binaryOp .FloorDiv) (rI aHd fun i j=>.int (i / j)):=opI fun i j _ _ _ _ _ a q=>by
 refine floordiv_int (Int.ne_of_gt a.1) ?_ (.inl (PyProof.noPylong_of_log2<|LD a.2));rw[Int.fdiv_eq_ediv_of_nonneg _ (Int.le_of_lt a.1)];exact q
end
def aAh(sc0:Scope)(N N':Tc)(cap:T3)(scope:Scope):Bool:=
 scope.names.all (fun y=>y.2 != .cell)&&(scope.kind==.function)&&scope.names.all (fun y=>y.2 != .local || scope.names.lookup y.1==Z .local) &&
 scope.names.all (fun y=>y.2 != .free || (sc0.names.lookup y.1==Z .cell || sc0.names.lookup y.1==Z .free))&&(cap.length==N'.length) &&
 (List.range cap.length).all fun i=>match cap[i]? with
  |some (some j)=>(match N'[i]?,N[j]? with
   |some x,some y=>x==y&&scope.names.lookup x==Z .free
   |_,_=>false)
  |_=>true
def TV{X:Cx}{sc0:Scope}{N:Tc}(n:X.env.scope=sc0)(o:X.N=N)(h:aAh sc0 N N' cap scope=true):rG X N' cap scope:=by
 unfold aAh at h;simp only[Bool.and_eq_true,List.all_eq_true,beq_iff_eq,bne_iff_ne,Bool.or_eq_true,List.mem_range]at h;obtain⟨⟨⟨⟨⟨a,b⟩,c⟩,d⟩,e⟩,f⟩:=h;refine⟨a,b,fun y l m=>?_,fun y l m=>?_,e,fun i j k=>?_⟩
 .rcases c y l with z|z
  .exact absurd m z
  .exact z
 .show X.env.scope.names.lookup y.1=_\/X.env.scope.names.lookup y.1=_;rw[n];rcases d y l with z|z
  .exact absurd m z
  .exact z
 .have hi:=(List.getElem?_eq_some_iff.mp k).1;have g:=f i hi;rw[k]at g;dsimp only at g;rw[o];split at g
  .rename_i x y ex p;rw[D2,beq_iff_eq,beq_iff_eq]at g;exact⟨x,ex,by rw[p,g.1],g.2⟩
  .cases g
noncomputable def tyName:Ua->String
 |.none=>"NoneType"
 |.bool _=>"bool"
 |.int _=>"int"
 |.str _=>"str"
 |.list _=>"list"
 |.tuple _=>"tuple"
 |.dict _=>"dict"
noncomputable def asked:Tw String:=["int","bool","str","list","tuple","dict"]
noncomputable def isT(T S:String):Bool:=T==S || (T=="int"&&S=="bool")
def DF(T:String)(d:Ua):Bool:=isT T<|tyName d
def aKM(S T:String):Tx Bool:=if (Value.type S==Value.type T)=true then Z true else if PySem.W.kitMeta T=true then(PySem.fastBuiltinMro S).map (·.contains (Value.type T))else Y
def aBT:(["NoneType","bool","int","str","list","tuple","dict"].all fun S=>asked.all fun T=>aKM S T==Z (isT T S))=true:=by decide +kernel
def aDS{T:String}(h:T∈asked):PySem.W.kitOne K (.type (tyName d)) (.type T)=Z (DF T d):=by
 have e:PySem.W.kitOne K (.type (tyName d)) (.type T)=aKM (tyName d) T:=rfl;have a:=aBT;rw[List.all_eq_true]at a;have b:=a (tyName d) (by cases d<;>simp[tyName]);rw[List.all_eq_true]at b;exact eq_of_beq<|b T h
theorem UV{K:Fg}:∀{Ts:Tw String},(∀T∈Ts,T∈asked)->PySem.W.kitAny K (.type (tyName d)) (Ts.map Value.type)=Z (Ts.any fun T=>DF T d)
 |[]=>fun _=>rfl
 |T::Ts=>fun h=>by
  rw[B4];unfold PySem.W.kitAny;rw[aDS (h T C4),U5];cases DF T d with
  |true=>rfl
  |false=>rw[Bool.false_or];exact UV fun U a=>h U<|C0 _ a
section
variable{X:Cx}
def UK{H:Hp}(I:Inv X pins g H s):∀{d:Ua}{v:V}{u:Tz},Rep X.K H d v->RelV v u->∃Hc:Heap->Prop,PySem.W.KitX X.K u (.type (tyName d)) Hc/\Hc s.heap/\u≠.builtin "__main__.__loader__#opaque"
 |.none,v,u=>fun h r=>by
  rw[show v=.non from h]at r;cases r;exact⟨_,PySem.W.kitx_none,True.intro,fun z=>nomatch z⟩
 |.bool b,v,u=>fun h r=>by
  rw[show v=.bl b from h]at r;cases r;exact⟨_,PySem.W.kitx_bool,True.intro,fun z=>nomatch z⟩
 |.int i,v,u=>fun h r=>by
  rw[show v=.int i from h]at r;obtain⟨t,q⟩:=r;cases q;exact⟨_,PySem.W.kitx_int,True.intro,fun z=>nomatch z⟩
 |.str x,v,u=>fun h r=>by
  rw[show v=.str x from h]at r;obtain⟨t,q⟩:=r;cases q;exact⟨_,PySem.W.kitx_str,True.intro,fun z=>nomatch z⟩
 |.list xs,v,u=>fun h r=>by
  obtain⟨a,vs,rfl,c,_⟩:=h;cases r;obtain⟨its,j,⟨o,n,e,f,_,hd⟩,_⟩:=I.list c;exact⟨_,PySem.W.kitx_list,⟨o,e,f⟩,fun z=>nomatch z⟩
 |.tuple xs,v,u=>fun h r=>by
  obtain⟨a,vs,rfl,c,_⟩:=h;cases r;obtain⟨its,j,⟨o,e,f,n,hd⟩,_⟩:=I.tuple c;exact⟨_,PySem.W.kitx_tuple,⟨o,e,f⟩,fun z=>nomatch z⟩
 |.dict kvs,v,u=>fun h r=>by
  obtain⟨a,ks,rfl,c,_⟩:=h;cases r;obtain⟨_,_,vs,_,o,es,ep,k,l,_⟩:=(I.hok a _ c);exact⟨_,PySem.W.kitx_dict,⟨o,k,l.1⟩,fun z=>nomatch z⟩
def aIy(K:Fg):Td->Hp->VK->Prop:=fun xs H Q=>∃x T d,xs=[x,.ty T]/\T∈asked/\Rep K H d x/\Q (.bl (DF T d)) H
def WM:eX X (.builtin "isinstance") (aIy X.K):=by
 intro pins s g H xs us Q I r h;obtain⟨x,T,d,rfl,hT,hd,q⟩:=h;obtain⟨u,i,rfl,e,b⟩:=vals2 r;cases b;obtain⟨Hc,a,f,c⟩:=UK I hd e;exact PySem.W.kia_one a I.kIn f (aDS hT) c fun tk=>⟨.bl _,H,I.tok tk,rfl,q⟩
def aBW(K:Fg):Td->Hp->VK->Prop:=fun xs H Q=>∃(x:V)(p:Uc)(Ts:Tw String)(d:Ua),xs=[x,.ref p]/\H p=Z (.tup (Ts.map V.ty))/\(∀T∈Ts,T∈asked)/\Rep K H d x/\Q (.bl (Ts.any fun T=>DF T d)) H
def SC:eX X (.builtin "isinstance") (aBW X.K):=by
 intro pins s v H xs us Q I r h;obtain⟨x,p,Ts,d,rfl,i,hT,hd,q⟩:=h;obtain⟨u,w,rfl,j,c⟩:=vals2 r;cases c;obtain⟨_,its,k,o,l,e,n,f⟩:=(I.hok p _ i);have b:=bH.types k;subst b;obtain⟨oc,od,m,osl⟩:=o;subst e f;obtain⟨Hc,a,t,g⟩:=UK I hd j;exact PySem.W.kia_tup a I.kIn t l (UV hT) g fun tk=>⟨.bl _,H,I.tok tk,rfl,q⟩
end
def jN.upd(h:H p=Y):jN H (upd H p o):=fun b u e=>by rw[aK (aO e h)];exact e
def cT:Ua->Tx (T5)
 |.list xs=>Z xs
 |.tuple xs=>Z xs
 |_=>Y
def pE{K:Fg}{H:Hp}:∀{d:Ua}{v:V}{ds:T5},Rep K H d v->cT d=Z ds->∃a vs,v=.ref a/\(SqL K H a vs\/SqT K H a vs)/\aQ K H ds vs
 |.list xs,v,ds=>fun h e=>by
  obtain⟨a,vs,b,c,f⟩:=h;cases e;exact⟨a,vs,b,.inl c,f⟩
 |.tuple xs,v,ds=>fun h e=>by
  obtain⟨a,vs,b,c,f⟩:=h;cases e;exact⟨a,vs,b,.inr c,f⟩
 |.none,_,_=>fun _ e=>by cases e
 |.bool _,_,_=>fun _ e=>by cases e
 |.int _,_,_=>fun _ e=>by cases e
 |.str _,_,_=>fun _ e=>by cases e
 |.dict _,_,_=>fun _ e=>by cases e
section
variable{X:Cx}{tg:Ud}
def aHy(K:Fg)(c:TE):TI:=fun d H R=>c d H fun x b=>∃a,x=.ref a/\((∃xs,SqL K b a xs/\R (Itl K a) b)\/(∃xs,SqT K b a xs/\R (Itt K a) b))
def aJz{l:Ud}{i:TE}(j:PE X l i):PI X tg l (aHy X.K i):=by
 intro pins s k H R I h;refine thn (j pins s k H _ I h) fun v s1 d=>?_;obtain⟨x,f,c,m,a,e,n⟩:=d;subst e;cases m
 have fp:∀b∈[s1.heap.objs.size],sA X pins f b:=fun b r=>by
  have e:=List.mem_singleton.mp r;subst e;exact c.fpOk (B3 _)<|c.hok.fresh<|B3 _
 rcases n with⟨xs,g,q⟩|⟨xs,g,q⟩
 .obtain⟨its,t,p,d⟩:=c.list g;refine wpAny_pyIter_list p.isList ?_;exact⟨s1.heap.objs.size,[s1.heap.objs.size],_,_,f,rfl,c.kept fun b o e=>A5 _ e,YK a _,⟨_,D0 _ rfl,rfl,rfl⟩,fp,q⟩
 .obtain⟨its,t,p,d⟩:=c.tuple g;refine A0y p ?_;exact⟨s1.heap.objs.size,[s1.heap.objs.size],_,_,f,rfl,c.kept fun b o e=>A5 _ e,RY a _,⟨_,D0 _ rfl,rfl,rfl⟩,fp,q⟩
end
inductive CD where
 |d (x:Ua)
 |c (n:Nat)
 |t (xs:Tw (Ua ⊕ Nat))
 |f (kvs:Tw (Tw Key×Ua))
 |g (nm:Str)
abbrev Tv:=Tw (Str×CD)
abbrev Tf:=Tx CD
abbrev T7:=Tw CD
inductive Cell where
 |lst (xs:T7)
 |dk (kvs:Tw (Key×CD))
 |dt (kvs:Tw (Tw Key×CD))
 |obj (nm:Str) (fs:Tv)
 |exc (fr:Bool) (nm:Str) (fs:Tv)
 |dead
structure Wd where
 F:Hp
 α:Nat->Uc
 n:Nat
structure Wd.Ext(W W':Wd):Prop where
 ff:jN W.F W'.F
 ln:W.n<=W'.n
 al:∀i,i<W.n->W'.α i=W.α i
def Wd.Ext.refl(W:Wd):W.Ext W:=⟨jN.refl _,B3 _,fun _ _=>rfl⟩
def Wd.Ext.trans(a:W.Ext c)(b:c.Ext d):W.Ext d:=⟨a.ff.trans b.ff,E7 a.ln b.ln,fun i h=>(b.al i<|C5 h a.ln).trans (a.al i h)⟩
def WW(K:Fg)(W:Wd):Ua ⊕ Nat->V->Prop
 |.inl x,v=>Rep K W.F x v
 |.inr i,v=>i<W.n/\v=.ref (W.α i)
noncomputable def cdA:Ua ⊕ Nat->CD
 |.inl x=>.d x
 |.inr i=>.c i
def aT(K:Fg)(nm:Str):Uc:=match PySem.W.nsIn K mainGlobals nm with
 |some (some (.ref C))=>C
 |_=>0
def cM(K:Fg)(W:Wd):CD->V->Prop
 |.d x,v=>Rep K W.F x v
 |.c i,v=>i<W.n/\v=.ref (W.α i)
 |.t xs,v=>∃a vs,v=.ref a/\W.F a=Z (.tup vs)/\Paired (WW K W) xs vs
 |.f kvs,v=>∃a o us,v=.ref a/\W.F a=Z (.frz o (.dT us))/\Paired (fun p q=>p.1=q.1/\Rep K W.F p.2 q.2) kvs us
 |.g nm,v=>v=.ref (aT K nm)
abbrev cS(K:Fg)(W:Wd):T7->Td->Prop:=Paired<|cM K W
def QY(K:Fg)(W:Wd):Tf->Tx V->Prop
 |none,none=>True
 |some x,some v=>cM K W x v
 |_,_=>False
abbrev dC(K:Fg)(W:Wd):Tw (Tf)->St->Prop:=Paired<|QY K W
noncomputable def chA:T6:=[.ref 75]
def mH(c:Tz):Bool:=!chA.contains c
def iE(a:Uc)(c:Tz)(dx:Ti)(fr:Bool)(h:Heap):Prop:=∃o vs,h.get? a=Z o/\o.cls=c/\o.dict=dx/\o.data=.fields vs/\(fr=true->4<vs.size/\vs[1]?=Z .none/\vs[2]?=Z .none)/\(mH c=true->vs[2]?=Z .none)
def KU(K:Fg)(W:Wd)(dx:Ti)(fs:Tv):Prop:=match dx with
 |none=>fs=[]
 |some d=>fs≠[]/\∃us,W.F d=Z (.xd us)/\Paired (fun p q=>p.1=q.1/\cM K W p.2 q.2) fs us
def JN(K:Fg)(W:Wd)(a:Uc):Cell->HO->Prop
 |.lst xs,.lst vs=>cS K W xs vs
 |.dk kvs,.dK us=>Paired (fun p q=>p.1=q.1/\cM K W p.2 q.2) kvs us
 |.dt kvs,.dT us=>Paired (fun p q=>p.1=q.1/\cM K W p.2 q.2) kvs us
 |.obj nm fs,.ins C _ us=>C=aT K nm/\Paired (fun p q=>p.1=q.1/\cM K W p.2 q.2) fs us
 |.exc fr nm fs,.ext b=>∃dx,b=iE a (.ref (aT K nm)) dx fr/\KU K W dx fs
 |_,_=>False
noncomputable def aBp:Tc:=["straight_within"]
def tabOf(K:Fg):Tz->Ti
 |.ref c=>match K.lookup c with
  |some o=>(match o.data with
   |.fields vs=>(match (vs[11]?:Tg)with
    |some (Value.ref P)=>Z P
    |_=>Y)
   |_=>Y)
  |none=>Y
 |_=>Y
def aCW(K:Fg):Tw (Uc×Str):=K.filterMap fun p=>match p.2.data with
 |.func fd=>if aBp.contains fd.name=true then(tabOf K fd.code).map fun P=>(P,fd.qualname++".<locals>.<lambda>")else Y
 |_=>Y
def TabAt(H:Hp)(x:Uc×Str):Prop:=∃ps,H x.1=Z (.tbl ps)/\TriplesOk ps.toList/\∀pos a,codeAmong pos ps.toList=Z a->∃c' oc u vs t,a=.ref c'/\H c'=Z (.frz oc u)/\oc.data=.fields vs/\vs[1]?=Z (.str x.2 t)
def TabAt.upd(h:TabAt H x)(b:∀ps,H p≠Z (.tbl ps))(d:∀ob u,H p≠Z (.frz ob u)):TabAt (upd H p o) x:=by
 obtain⟨ps,e,t,k⟩:=h;refine⟨ps,by rw[aK (show x.1≠p from fun z=>b ps (z▸e))];exact e,t,fun pos f c=>?_⟩;obtain⟨c',oc,u,vs,g,i,a,j⟩:=k pos f c;exact⟨c',oc,u,vs,g,i,by rw[aK (show c'≠p from fun z=>d oc u (z▸a))];exact a,j⟩
def TabsOk(K:Fg)(F H:Hp):Prop:=∀x∈aCW K,F x.1=Y/\TabAt H x
def TabsOk.upd(h:TabsOk K F H)(b:∀ps,H p≠Z (.tbl ps))(c:∀ob u,H p≠Z (.frz ob u)):TabsOk K F (upd H p o):=fun x a=>⟨(h x a).1,(h x a).2.upd b c⟩
def TabsOk.fresh(h:TabsOk K F H)(hp:H p=Y):TabsOk K F (L2.upd H p o):=h.upd (fun ps e=>by rw[hp]at e;cases e) fun ob u e=>by rw[hp]at e;cases e
def TabsOk.updF{p:Uc}{o:HO}(h:TabsOk K F H)(b:∀ps,H p≠Z (.tbl ps)):TabsOk K (L2.upd F p o) H:=fun x a=>⟨by
 obtain⟨ps,e,_⟩:=(h x a).2;rw[aK (show x.1≠p from fun z=>b ps (z▸e))];exact(h x a).1,(h x a).2⟩
def JN.nt(r:JN K W a c o):(∀ps,o≠.tbl ps)/\∀ob u,o≠.frz ob u:=by
 cases c<;>cases o<;>first|exact False.elim r|exact⟨fun _ e=>(by cases e),fun _ _ e=>(by cases e)⟩
def TabsOk.cell{o:HO}(h:TabsOk K F H)(e:H a=Z o)(r:JN K W a c o):TabsOk K F (L2.upd H a o'):=
 h.upd (fun ps z=>r.nt.1 ps<|E1<|e.symm.trans z) fun ob u z=>r.nt.2 ob u<|E1<|e.symm.trans z
structure Good(K:Fg)(W:Wd)(M:Tw Cell)(H:Hp):Prop where
 fh:jN W.F H
 n:W.n=M.length
 cs:∀i c,M[i]?=Z c->c≠.dead->W.F (W.α i)=Y/\∃o,H (W.α i)=Z o/\JN K W (W.α i) c o
 inj:∀i j c c',M[i]?=Z c->M[j]?=Z c'->c≠.dead->c'≠.dead->W.α i=W.α j->i=j
 tb:TabsOk K W.F H
section
variable{K:Fg}{W W':Wd}{M M':Tw Cell}{H H':Hp}
def WW.up(h:WW K W x v)(e:W.Ext W'):WW K W' x v:=by
 cases x with
 |inl x=>exact Rep.same e.ff _ _ h
 |inr i=>exact⟨C5 h.1 e.ln,by rw[e.al i h.1];exact h.2⟩
def cM.up(h:cM K W x v)(e:W.Ext W'):cM K W' x v:=by
 cases x with
 |d x=>exact Rep.same e.ff _ _ h
 |c i=>exact⟨C5 h.1 e.ln,by rw[e.al i h.1];exact h.2⟩
 |t xs=>
  obtain⟨a,vs,b,j,k⟩:=h;exact⟨a,vs,b,e.ff _ _ j,Paired.mapP k fun _ _ r=>WW.up r e⟩
 |f kvs=>
  obtain⟨a,o,us,b,j,k⟩:=h;exact⟨a,o,us,b,e.ff _ _ j,Paired.mapP k fun _ _ r=>⟨r.1,Rep.same e.ff _ _ r.2⟩⟩
 |g nm=>exact h
def cS.up(h:cS K W xs vs)(e:W.Ext W'):cS K W' xs vs:=Paired.mapP h fun _ _ r=>cM.up r e
def dC.up{γ:Tw (Tf)}(h:dC K W γ c)(e:W.Ext W'):dC K W' γ c:=Paired.mapP h fun a b r=>by
 cases a<;>cases b
 .exact True.intro
 .exact False.elim r
 .exact False.elim r
 .exact cM.up r e
def KU.up(h:KU K W dx fs)(e:W.Ext W'):KU K W' dx fs:=by
 cases dx with
 |none=>exact h
 |some d=>
  obtain⟨a,us,b,c⟩:=h;exact⟨a,us,e.ff _ _ b,Paired.mapP c fun _ _ r=>⟨r.1,cM.up r.2 e⟩⟩
def JN.up(h:JN K W a c o)(e:W.Ext W'):JN K W' a c o:=by
 cases c<;>cases o<;>first|exact(let⟨dx,b,d⟩:=h;⟨dx,b,d.up e⟩)|exact False.elim h|exact cS.up h e|exact Paired.mapP h fun _ _ r=>⟨r.1,cM.up r.2 e⟩|exact⟨h.1,Paired.mapP h.2 fun _ _ r=>⟨r.1,cM.up r.2 e⟩⟩
def Good.lay(g:Good K W M H){o:HO}(hp:H p=Y):W.Ext { W with F:=upd W.F p o }/\Good K { W with F:=upd W.F p o } M (upd H p o):=by
 have fp:=g.fh.free hp;have e:W.Ext { W with F:=upd W.F p o }:=⟨jN.upd fp,B3 _,fun _ _=>rfl⟩;refine⟨e,?_,g.n,fun i c hi f=>?_,g.inj,(g.tb.updF fun ps e=>by rw[hp]at e;cases e).fresh hp⟩
 .intro b u a;have a:upd W.F p o b=Z u:=a;by_cases q:b=p
  .subst q;rw[aX]at a;rw[aX];exact a
  .rw[aK q]at a;rw[aK q];exact g.fh b u a
 .obtain⟨h,o',d,j⟩:=g.cs i c hi f;have ne:=aO d hp;exact⟨by show upd W.F p o (W.α i)=Y;rw[aK ne];exact h,o',by rw[aK ne];exact d,j.up e⟩
noncomputable def Wd.more(W:Wd)(p:Uc):Wd:={ W with α:=fun i=>if i=W.n then p else W.α i,n:=W.n+1 }
def Wd.ext_more(W:Wd)(p:Uc):W.Ext (W.more p):=⟨jN.refl _,A0j _,fun i h=>B0<|D1 h⟩
def Good.new(g:Good K W M H)(hp:H p=Y)(r:JN K W p c o):Good K (W.more p) (M++[c]) (upd H p o):=by
 have e:=W.ext_more p
 have at_:∀i c',(M++[c])[i]?=Z c'->(i<M.length/\M[i]?=Z c')\/(i=M.length/\c'=c):=fun i c' h=>by
  by_cases q:i<M.length
  .rw[S6 q]at h;exact .inl ⟨q,h⟩
  .rw[S4 (Nat.le_of_not_lt q)]at h
   have h':i-M.length=0:=by
    cases k:i-M.length with
    |zero=>rfl
    |succ m=>rw[k]at h;simp at h
   rw[h']at h;refine .inr ⟨by omega,?_⟩;simpa using h.symm
 have al:=fun i h=>e.al i (by rw[g.n];exact h);have an:(W.more p).α M.length=p:=by show(if M.length=W.n then p else _)=p;rw[A4 g.n.symm]
 have a:∀i c',M[i]?=Z c'->c'≠.dead->W.α i≠p:=fun i c' h f=>by
  obtain⟨_,o',s,_⟩:=g.cs i c' h f;exact aO s hp
 refine⟨?_,?_,fun i c' hi f=>?_,fun i j t l hi w x y d=>?_,g.tb.fresh hp⟩
 .intro b u z;have:=g.fh b u z;rw[aK (aO this hp)];exact this
 .show W.n+1=_;rw[g.n,C3];rfl
 .rcases at_ i c' hi with⟨q,h⟩|⟨rfl,rfl⟩
  .obtain⟨A,o',s,B⟩:=g.cs i c' h f;rw[al i q];exact⟨A,o',by rw[aK (a i c' h f)];exact s,B.up e⟩
  .rw[an];exact⟨g.fh.free hp,o,aX,r.up e⟩
 .rcases at_ i t hi with⟨q,h⟩|⟨rfl,rfl⟩
  .rcases at_ j l w with⟨v,h'⟩|⟨rfl,rfl⟩
   .rw[al i q,al j v]at d;exact g.inj i j t l h h' x y d
   .rw[al i q,an]at d;exact absurd d<|a i t h x
  .rcases at_ j l w with⟨v,h'⟩|⟨rfl,rfl⟩
   .rw[an,al j v]at d;exact absurd d.symm<|a j l h' y
   .rfl
def Good.set(g:Good K W M H){i:Nat}{c:Cell}(hi:M[i]?=Z c)(a:c≠.dead)(r:JN K W (W.α i) c' o'):Good K W (M.set i c') (upd H (W.α i) o'):=by
 obtain⟨p,o,w,x⟩:=g.cs i c hi a;have lt:=(List.getElem?_eq_some_iff.mp hi).1
 have at_:∀j d,(M.set i c')[j]?=Z d->(j=i/\d=c')\/(j≠i/\M[j]?=Z d):=fun j d h=>by
  by_cases q:i=j
  .subst q;rw[F7 lt]at h;exact .inl ⟨rfl,(E1 h).symm⟩
  .rw[O9 q]at h;exact .inr ⟨fun z=>q z.symm,h⟩
 refine⟨?_,by rw[g.n,Z3],fun j d e hd=>?_,fun j k f l e y s t m=>?_,g.tb.cell w x⟩
 .intro b u v;rw[aK (aO v p)];exact g.fh b u v
 .rcases at_ j d e with⟨rfl,rfl⟩|⟨q,h⟩
  .exact⟨p,o',aX,r⟩
  .obtain⟨A,u,B,C⟩:=g.cs j d h hd;have ne:=fun z=>q<|g.inj j i d c h hi hd a z;exact⟨A,u,by rw[aK ne];exact B,C⟩
 .rcases at_ j f e with⟨rfl,rfl⟩|⟨q,h⟩<;>rcases at_ k l y with⟨rfl,rfl⟩|⟨D,h'⟩
  .rfl
  .exact g.inj _ k c l hi h' a t m
  .exact g.inj j _ f c h hi s a m
  .exact g.inj j k f l h h' s t m
end
noncomputable abbrev Ga:=Tw<|Tf
noncomputable abbrev Sto:=Tw Cell
abbrev EF:=Ga->Sto->Option (CD×Sto)
abbrev TF:=Ga->Sto->Tx (Bool×Sto)
abbrev AF:=Ga->Sto->Option (List CD×Sto)
inductive Out where
 |nx (γ:Ga)|bk (γ:Ga)|ct (γ:Ga)|rt (x:CD)
abbrev SF:=Ga->Sto->Tx (Out×Sto)
abbrev GF:=CD->Ga->Sto->Tx (Ga×Sto)
abbrev GsF:=T7->Ga->Sto->Tx (Ga×Sto)
abbrev F1:=CD->Sto->Tx (CD×Sto)
abbrev F2:=CD->CD->Sto->Tx (CD×Sto)
abbrev FN:=T7->Sto->Tx (CD×Sto)
section
variable(K:Fg)
def SE(t:TE)(f:EF):Prop:=∀γ M x M',f γ M=Z (x,M')->∀(W:Wd)(H:Hp)(a:St)(Q:VK),Good K W M H->dC K W γ a->(∀v W' H',W.Ext W'->Good K W' M' H'->cM K W' x v->Q v H')->t a H Q
def STt(t:TT)(f:TF):Prop:=∀γ M b M',f γ M=Z (b,M')->∀(W:Wd)(H:Hp)(a:St)(Q:Bool->Hp->Prop),Good K W M H->dC K W γ a->(∀W' H',W.Ext W'->Good K W' M' H'->Q b H')->t a H Q
def SA(t:TA)(f:AF):Prop:=∀γ M xs M',f γ M=Z (xs,M')->∀(W:Wd)(H:Hp)(a:St)(Q:Td->Hp->Prop),Good K W M H->dC K W γ a->(∀vs W' H',W.Ext W'->Good K W' M' H'->cS K W' xs vs->Q vs H')->t a H Q
def aCZ(D:Ends)(W:Wd)(H:Hp):Out->Prop
 |.nx γ=>∀a,dC K W γ a->D.nx a H
 |.bk γ=>∀a,dC K W γ a->D.bk a H
 |.ct γ=>∀a,dC K W γ a->D.ct a H
 |.rt x=>∀v,cM K W x v->D.rt v H
def SS(t:TS)(f:SF):Prop:=∀γ M o M',f γ M=Z (o,M')->∀(W:Wd)(H:Hp)(a:St)(D:Ends),Good K W M H->dC K W γ a->(∀W' H',W.Ext W'->Good K W' M' H'->aCZ K D W' H' o)->t D a H
def SG(t:TG)(f:GF):Prop:=∀x γ M a M',f x γ M=Z (a,M')->∀(W:Wd)(H:Hp)(c:St)(v:V)(Q:St->Hp->Prop),Good K W M H->dC K W γ c->cM K W x v->(∀b W' H',W.Ext W'->Good K W' M' H'->dC K W' a b->Q b H')->t v c H Q
def SGs(t:TGs)(f:GsF):Prop:=∀xs γ M a M',f xs γ M=Z (a,M')->∀(W:Wd)(H:Hp)(c:St)(vs:Td)(Q:St->Hp->Prop),Good K W M H->dC K W γ c->cS K W xs vs->(∀b W' H',W.Ext W'->Good K W' M' H'->dC K W' a b->Q b H')->t vs c H Q
def P2(r:R2)(f:F2):Prop:=∀x y M z M',f x y M=Z (z,M')->∀(W:Wd)(H:Hp)(v u:V)(Q:VK),Good K W M H->cM K W x v->cM K W y u->(∀w W' H',W.Ext W'->Good K W' M' H'->cM K W' z w->Q w H')->r v u H Q
def P1(r:V->Hp->VK->Prop)(f:F1):Prop:=∀x M z M',f x M=Z (z,M')->∀(W:Wd)(H:Hp)(v:V)(Q:VK),Good K W M H->cM K W x v->(∀w W' H',W.Ext W'->Good K W' M' H'->cM K W' z w->Q w H')->r v H Q
def PN(r:Td->Hp->VK->Prop)(f:FN):Prop:=∀xs M z M',f xs M=Z (z,M')->∀(W:Wd)(H:Hp)(vs:Td)(Q:VK),Good K W M H->cS K W xs vs->(∀w W' H',W.Ext W'->Good K W' M' H'->cM K W' z w->Q w H')->r vs H Q
def spM(f:FN):Sp:=fun vs H Q _=>∃xs M W y M',Good K W M H/\cS K W xs vs/\f xs M=Z (y,M')/\∀v W' H',W.Ext W'->Good K W' M' H'->cM K W' y v->Q v H'
end
def aD(i:Nat):EF:=fun γ M=>match γ[i]? with
 |some (some x)=>Z (x,M)
 |_=>Y
def fC(x:Ua):EF:=fun _ M=>Z (.d x,M)
noncomputable def fOp(h:F2)(f g:EF):EF:=fun γ M=>(f γ M).bind fun r=>(g γ r.2).bind fun q=>h r.1 q.1 q.2
noncomputable def fUn(h:F1)(f:EF):EF:=fun γ M=>(f γ M).bind fun r=>h r.1 r.2
def asB:CD->Tx Bool
 |.d (.bool b)=>Z b
 |_=>Y
def pT(f g:EF):EF:=fun γ M=>(f γ M).bind fun r=>(asB r.1).bind fun b=>if b=true then g γ r.2 else Z (.d (.bool false),r.2)
def fOr(f g:EF):EF:=fun γ M=>(f γ M).bind fun r=>(asB r.1).bind fun b=>if b=true then Z (.d (.bool true),r.2)else g γ r.2
def aFz(f:EF):EF:=fun γ M=>(f γ M).bind fun r=>(asB r.1).bind fun b=>Z (.d (.bool (!b)),r.2)
noncomputable def fIf(t:TF)(f g:EF):EF:=fun γ M=>(t γ M).bind fun r=>if r.1=true then f γ r.2 else g γ r.2
def sV(f g:TF):TF:=fun γ M=>(f γ M).bind fun r=>if r.1=true then g γ r.2 else Z (false,r.2)
def gOr(f g:TF):TF:=fun γ M=>(f γ M).bind fun r=>if r.1=true then Z (true,r.2)else g γ r.2
def kX(f:TF):TF:=fun γ M=>(f γ M).bind fun r=>Z (!r.1,r.2)
def gB(f:EF):TF:=fun γ M=>(f γ M).bind fun r=>(asB r.1).bind fun b=>Z (b,r.2)
def pC(h h':F2)(f g e:EF):EF:=fun γ M=>(f γ M).bind fun r=>(g γ r.2).bind fun q=>(h r.1 q.1 q.2).bind fun z=>(asB z.1).bind fun b=>if b=true then(e γ z.2).bind fun w=>h' q.1 w.1 w.2 else Z (.d (.bool false),z.2)
def aG:AF:=fun _ M=>Z ([],M)
def aB(f:EF)(g:AF):AF:=fun γ M=>(f γ M).bind fun r=>(g γ r.2).bind fun q=>Z (r.1::q.1,q.2)
def iO:T7->Tx (T5)
 |[]=>Z []
 |.d x::r=>(iO r).map (x::·)
 |.c _::_=>Y
 |.t _::_=>Y
 |.f _::_=>Y
 |.g _::_=>Y
def iC(f:AF):EF:=fun γ M=>(f γ M).bind fun r=>(iO r.1).bind fun a=>if a.length<=sizeLine then Z (.d (.tuple a),r.2)else Y
def cA(f:AF):EF:=fun γ M=>(f γ M).bind fun r=>(iO r.1).bind fun a=>if a.length<=sizeLine then Z (.d (.list a),r.2)else Y
def kR(f:AF):EF:=fun γ M=>(f γ M).bind fun r=>if r.1.length<=sizeLine then Z (.c r.2.length,r.2++[.lst r.1])else Y
noncomputable def aL(h:FN)(f:AF):EF:=fun γ M=>(f γ M).bind fun r=>h r.1 r.2
def cN:SF:=fun γ M=>Z (.nx γ,M)
def bC(f g:SF):SF:=fun γ M=>(f γ M).bind fun r=>match r.1 with
 |.nx a=>g a r.2
 |o=>Z (o,r.2)
def lQ(f:EF):SF:=fun γ M=>(f γ M).bind fun r=>Z (.nx γ,r.2)
def bT(f:EF):SF:=fun γ M=>(f γ M).bind fun r=>Z (.rt r.1,r.2)
def aLE:SF:=fun _ M=>Z (.rt (.d .none),M)
noncomputable def sIf(c:TF)(f g:SF):SF:=fun γ M=>(c γ M).bind fun r=>if r.1=true then f γ r.2 else g γ r.2
def aY(f:EF)(g:GF):SF:=fun γ M=>(f γ M).bind fun r=>(g r.1 γ r.2).bind fun q=>Z (.nx q.1,q.2)
def hName(i:Nat):GF:=fun x γ M=>Z (γ.set i<|Z x,M)
def gU:GsF:=fun xs γ M=>match xs with
 |[]=>Z (γ,M)
 |_=>Y
def bK(f:GF)(g:GsF):GsF:=fun xs γ M=>match xs with
 |x::r=>(f x γ M).bind fun q=>g r q.1 q.2
 |[]=>Y
def gS(n:Nat)(g:GsF):GF:=fun x γ M=>match x with
 |.d (.tuple a)=>if a.length=n then g (a.map .d) γ M else Y
 |.t xs=>if xs.length=n then g (xs.map cdA) γ M else Y
 |_=>Y
abbrev F3:=CD->CD->CD->Sto->Tx Sto
def hSub(fo a:EF)(s:F3):GF:=fun x γ M=>(fo γ M).bind fun r=>(a γ r.2).bind fun q=>(s r.1 q.1 x q.2).bind fun M'=>Z (γ,M')
def EZ(i j:Nat)(f:AF):SF:=fun γ M=>(f γ M).bind fun r=>match r.1 with
 |[x,y]=>Z (.nx ((γ.set i<|Z x).set j (Z y)),r.2)
 |_=>Y
def sW(g:GF)(b:SF):T7->Ga->Sto->Tx (Out×Sto)
 |[],γ,M=>Z (.nx γ,M)
 |x::xs,γ,M=>(g x γ M).bind fun r=>(b r.1 r.2).bind fun q=>match q.1 with
  |.nx a=>sW g b xs a q.2
  |.ct a=>sW g b xs a q.2
  |.bk a=>Z (.nx a,q.2)
  |.rt x=>Z (.rt x,q.2)
def rS(f:AF)(g:GF)(b:SF):SF:=fun γ M=>(f γ M).bind fun r=>sW g b r.1 γ r.2
def gA(c:TF)(b:SF):Nat->Ga->Sto->Tx (Out×Sto)
 |0,_,_=>Y
 |n+1,γ,M=>(c γ M).bind fun r=>if r.1=true then(b γ r.2).bind fun q=>match q.1 with
  |.nx a=>gA c b n a q.2
  |.ct a=>gA c b n a q.2
  |.bk a=>Z (.nx a,q.2)
  |.rt x=>Z (.rt x,q.2)else Z (.nx γ,r.2)
open Classical in
noncomputable def uS(c:TF)(b:SF):SF:=fun γ M=>if h:∃n,(gA c b n γ M).isSome=true then gA c b h.choose γ M else Y
def lcF(g:GF)(c:TF)(e:EF):T7->Ga->Sto->Tx (T7×Sto)
 |[],γ,M=>Z ([],M)
 |x::xs,γ,M=>(g x γ M).bind fun a=>(c a.1 a.2).bind fun b=>if b.1=true then(e a.1 b.2).bind fun r=>(lcF g c e xs a.1 r.2).bind fun q=>Z (r.1::q.1,q.2)else lcF g c e xs a.1 b.2
noncomputable def pV(cap:T3)(γ:Ga):Ga:=cap.map fun o=>o.bind fun j=>(γ[j]?).join
def eU:TF:=fun _ M=>Z (true,M)
def LW(cap:T3)(f:AF)(g:GF)(c:TF)(e:EF):AF:=fun γ M=>(f γ M).bind fun r=>if r.1.length<=sizeLine then lcF g c e r.1 (pV cap γ) r.2 else Y
def fLc(cap:T3)(f:AF)(g:GF)(c:TF)(e:EF):EF:=cA<|LW cap f g c e
def fnF(ps N:Nat)(b:SF):FN:=fun xs M=>if xs.length=ps then(b (xs.map Z++List.replicate (N-xs.length) Y) M).bind fun r=>match r.1 with
 |.rt x=>Z (x,r.2)
 |.nx _=>Z (.d .none,r.2)
 |_=>Y else Y
def aJ{b c:Type}{o:Tx b}{k:b->Tx c}{r:c}(h:o.bind k=Z r):∃a,o=Z a/\k a=Z r:=by
 cases o with
 |none=>cases h
 |some a=>exact⟨a,rfl,h⟩
theorem Paired.get{a b:Type}{R:a->b->Prop}:∀{xs:Tw a}{ys:Tw b}{i:Nat}{x:a},Paired R xs ys->xs[i]?=Z x->∃y,ys[i]?=Z y/\R x y
 |_,_,_,_,.nil=>fun e=>by simp at e
 |_,_,0,_,.cons r _=>fun e=>by simp at e;subst e;exact⟨_,rfl,r⟩
 |_,_,i+1,x,.cons _ t=>fun e=>by
  obtain⟨u,c,d⟩:=Paired.get t (by simpa using e);exact⟨u,by simpa using c,d⟩
theorem Paired.set{a b:Type}{R:a->b->Prop}{x:a}{y:b}(r:R x y):∀{xs:Tw a}{ys:Tw b}(i:Nat),Paired R xs ys->Paired R (xs.set i x) (ys.set i y)
 |_,_,_,.nil=>.nil
 |_,_,0,.cons _ t=>.cons r t
 |_,_,i+1,.cons q t=>.cons q (Paired.set r i t)
theorem Paired.app{c d:Type}{R:c->d->Prop}:∀{xs a:Tw c}{ys b:Tw d},Paired R xs ys->Paired R a b->Paired R (xs++a) (ys++b)
 |_,_,_,_,.nil=>fun s=>s
 |_,_,_,_,.cons r t=>fun s=>.cons r (Paired.app t s)
def Paired.len{a b:Type}{R:a->b->Prop}{xs:Tw a}{ys:Tw b}(p:Paired R xs ys):xs.length=ys.length:=Paired.length p
section
variable{K:Fg}
theorem fU{W:Wd}:∀{xs:T7}{ds:T5}{vs:Td},iO xs=Z ds->cS K W xs vs->aQ K W.F ds vs
 |[],ds,vs=>fun e h=>by
  cases e;cases h;rfl
 |.c _::_,ds,vs=>fun e h=>by cases e
 |.t _::_,ds,vs=>fun e h=>by cases e
 |.f _::_,ds,vs=>fun e h=>by cases e
 |.g _::_,ds,vs=>fun e h=>by cases e
 |.d x::r,ds,vs=>fun e h=>by
  cases h with
  |@cons _ v _ a b i=>
   unfold iO at e;cases q:iO r with
   |none=>rw[q]at e;cases e
   |some es=>
    rw[q]at e;cases e;exact⟨v,a,rfl,b,fU q i⟩
def VI(h:Paired (WW K W) xs vs):cS K W (xs.map cdA) vs:=by
 induction h with
 |nil=>exact .nil
 |@cons x v _ _ r _ ih=>exact .cons (by cases x<;>exact r) ih
theorem lB{W:Wd}:∀{ds:T5}{vs:Td},aQ K W.F ds vs->cS K W (ds.map .d) vs
 |[],vs=>fun h=>by rw[show vs=[]from h];exact .nil
 |d::ds,vs=>fun h=>by
  obtain⟨v,r,rfl,a,b⟩:=h;exact .cons a (lB b)
theorem CV:∀{xs:T7}{ds:T5},iO xs=Z ds->ds.length=xs.length
 |[],ds=>fun e=>by cases e;rfl
 |.c _::_,ds=>fun e=>by cases e
 |.t _::_,ds=>fun e=>by cases e
 |.f _::_,ds=>fun e=>by cases e
 |.g _::_,ds=>fun e=>by cases e
 |.d x::r,ds=>fun e=>by
  unfold iO at e;cases q:iO r with
  |none=>rw[q]at e;cases e
  |some es=>
   rw[q]at e;cases e;rw[B5,B5,CV q]
def aIl:SE K (aLZ i) (aD i):=by
 intro γ M x M' h W H c Q g r k;unfold aD at h;cases e:γ[i]? with
 |none=>rw[e]at h;cases h
 |some o=>
  cases o with
  |none=>rw[e]at h;cases h
  |some y=>
   rw[e]at h;cases h;obtain⟨v,b,a⟩:=Paired.get r e;cases v with
   |none=>exact False.elim a
   |some v=>exact⟨v,b,k v W H (.refl _) g a⟩
def aAN:SE K (tC (.int i)) (fC (.int i)):=by
 intro γ M x M' h W H a Q g r k;cases h;exact k _ W H (.refl _) g rfl
def aMl:SE K (tC (.bl b)) (fC (.bool b)):=by
 intro γ M x M' h W H a Q g r k;cases h;exact k _ W H (.refl _) g rfl
def aHJ:SE K (tC .non) (fC .none):=by
 intro γ M x M' h W H a Q g r k;cases h;exact k _ W H (.refl _) g rfl
def aBg:SE K (tC (.str x)) (fC (.str x)):=by
 intro γ M x M' h W H a Q g r k;cases h;exact k _ W H (.refl _) g rfl
variable{ta tb tc:TE}{f g e:EF}{tt uu:TT}{ft gt:TF}{tA:TA}{fa:AF}
def UB{r:R2}{h:F2}(p:P2 K r h)(a:SE K ta f)(b:SE K tb g):SE K (tOp r ta tb) (fOp h f g):=by
 intro γ M x M' c W H d Q G R k;obtain⟨⟨y,M1⟩,l,c⟩:=aJ c;obtain⟨⟨z,M2⟩,m,c⟩:=aJ c;refine a _ _ _ _ l W H d _ G R fun v n o i q s=>?_;refine b _ _ _ _ m n o d _ q (R.up i) fun u t A j G2 B=>?_;exact p _ _ _ _ _ c t A v u Q G2 (s.up j) B fun w C D E I J=>k w C D ((i.trans j).trans E) I J
def aLo{r:V->Hp->VK->Prop}{h:F1}(p:P1 K r h)(a:SE K ta f):SE K (tUn r ta) (fUn h f):=by
 intro γ M x M' b W H c Q G R k;obtain⟨⟨y,M1⟩,d,b⟩:=aJ b;refine a _ _ _ _ d W H c _ G R fun v i j l m n=>?_;exact p _ _ _ _ b i j v Q m n fun w o q s t u=>k w o q (l.trans s) t u
def JC{b:Bool}(h:asB x=Z b):x=.d (.bool b):=by
 cases x with
 |c n=>cases h
 |t n=>cases h
 |f n=>cases h
 |g _=>cases h
 |d x=>cases x<;>first|cases h;rfl|cases h
def aHG(a:SE K ta f)(b:SE K tb g):SE K (aGK ta tb) (pT f g):=by
 intro γ M x M' d W H i Q G R k;obtain⟨⟨y,M1⟩,n,d⟩:=aJ d;obtain⟨c,o,d⟩:=aJ d;refine a _ _ _ _ n W H i _ G R fun v j l h m p=>?_;have q:=JC o;subst q;refine⟨c,p,?_⟩;cases c with
 |true=>rw[A4 rfl];rw[A4 rfl]at d;exact b _ _ _ _ d j l i Q m (R.up h) fun w r s t u z=>k w r s (h.trans t) u z
 |false=>
  cases d;exact k _ j l h m rfl
def aIU(a:SE K ta f):SE K (aGW ta) (aFz f):=by
 intro γ M x M' b W H d Q G R k;obtain⟨⟨y,M1⟩,h,b⟩:=aJ b;obtain⟨c,i,b⟩:=aJ b;refine a _ _ _ _ h W H d _ G R fun v j l m n o=>?_;have p:=JC i;subst p;cases b;exact⟨c,o,k _ j l m n rfl⟩
def aLj(t:STt K tt ft)(a:SE K ta f)(b:SE K tb g):SE K (tIf tt ta tb) (fIf ft f g):=by
 intro γ M x M' d W H i Q G R k;obtain⟨⟨c,M1⟩,s,d⟩:=aJ d;refine t _ _ _ _ s W H i _ G R fun p q h r=>?_;cases c with
 |true=>rw[A4 rfl];rw[A4 rfl]at d;exact a _ _ _ _ d p q i Q r (R.up h) fun w j l m n o=>k w j l (h.trans m) n o
 |false=>rw[B0 B2];rw[B0 B2]at d;exact b _ _ _ _ d p q i Q r (R.up h) fun w j l m n o=>k w j l (h.trans m) n o
def OH{r l:R2}{h h':F2}(p:P2 K r h)(J:P2 K l h')(a:SE K ta f)(b:SE K tb g)(c:SE K tc e):SE K (QD r l ta tb tc) (pC h h' f g e):=by
 intro γ M x M' d W H j Q G R k;obtain⟨⟨y,M1⟩,L,d⟩:=aJ d;obtain⟨⟨z,M2⟩,N,d⟩:=aJ d;obtain⟨⟨w,M3⟩,O,d⟩:=aJ d;obtain⟨q,P,d⟩:=aJ d;refine a _ _ _ _ L W H j _ G R fun v S T n U V=>?_;refine b _ _ _ _ N S T j _ U (R.up n) fun u X H2 s G2 A=>?_;refine p _ _ _ _ _ O X H2 v u _ G2 (V.up s) A fun t B C D E r3=>?_;have hy:=JC P;subst hy;refine⟨q,r3,?_⟩;have i:=(n.trans s).trans D;cases q with
 |true=>
  obtain⟨⟨m,M4⟩,h5,d⟩:=aJ d;refine c _ _ _ _ h5 B C j _ E (R.up i) fun o W4 H4 I G4 r4=>?_;exact J _ _ _ _ _ d W4 H4 u o Q G4 (A.up<|D.trans I) r4 fun w W5 H5 e5 G5 r5=>k w W5 H5 ((i.trans I).trans e5) G5 r5
 |false=>
  cases d;exact k _ B C i E rfl
def aKh(a:STt K tt ft)(b:STt K uu gt):STt K (aKD tt uu) (sV ft gt):=by
 intro γ M x M' d W H i Q G R k;obtain⟨⟨c,M1⟩,n,d⟩:=aJ d;refine a _ _ _ _ n W H i _ G R fun j l h m=>?_;cases c with
 |true=>rw[A4 rfl];rw[A4 rfl]at d;exact b _ _ _ _ d j l i Q m (R.up h) fun o p q r=>k o p (h.trans q) r
 |false=>rw[B0 B2];rw[B0 B2]at d;cases d;exact k j l h m
def aKX(a:STt K tt ft)(b:STt K uu gt):STt K (tOr tt uu) (gOr ft gt):=by
 intro γ M x M' d W H i Q G R k;obtain⟨⟨c,M1⟩,n,d⟩:=aJ d;refine a _ _ _ _ n W H i _ G R fun j l h m=>?_;cases c with
 |true=>rw[A4 rfl];rw[A4 rfl]at d;cases d;exact k j l h m
 |false=>rw[B0 B2];rw[B0 B2]at d;exact b _ _ _ _ d j l i Q m (R.up h) fun o p q r=>k o p (h.trans q) r
def aJr(a:STt K tt ft):STt K (aMc tt) (kX ft):=by
 intro γ M x M' b W H d Q G R k;obtain⟨⟨c,M1⟩,h,b⟩:=aJ b;cases b;exact a _ _ _ _ h W H d _ G R fun i j l m=>k i j l m
def aHA(a:SE K ta f):STt K (tB ta) (gB f):=by
 intro γ M x M' b W H d Q G R k;obtain⟨⟨y,M1⟩,h,b⟩:=aJ b;obtain⟨c,i,b⟩:=aJ b;refine a _ _ _ _ h W H d _ G R fun v j l m n o=>?_;have p:=JC i;subst p;cases b;exact⟨_,o,k j l m n⟩
def UG(a:SE K ta f):STt K (aBJ ta) (gB f):=aHA a
def aHx:SA K XX aG:=by
 intro γ M x M' a W H b Q G R k;cases a;exact k [] W H (.refl _) G .nil
def aFf(a:SE K ta f)(b:SA K tA fa):SA K (tG ta tA) (aB f fa):=by
 intro γ M x M' c W H d Q G R k;obtain⟨⟨y,M1⟩,j,c⟩:=aJ c;obtain⟨⟨t,M2⟩,l,c⟩:=aJ c;cases c;refine a _ _ _ _ j W H d _ G R fun v m n h o p=>?_;exact b _ _ _ _ l m n d _ o (R.up h) fun vs q r i G2 s=>k _ q r (h.trans i) G2 (.cons (p.up i) s)
def aIO(b:SA K tA fa):SE K (aFj tA) (iC fa):=by
 intro γ M x M' a W H i Q G R k;obtain⟨⟨s,M1⟩,j,a⟩:=aJ a;obtain⟨l,m,a⟩:=aJ a;by_cases c:l.length<=sizeLine
 .rw[A4 c]at a;cases a;refine b _ _ _ _ j W H i _ G R fun vs t u n o q=>?_;have d:=fU m q;refine⟨by rw[<- d.length];exact c,fun p r=>?_⟩;obtain⟨h,G2⟩:=o.lay r;exact k _ _ _ (n.trans h) G2 ⟨p,vs,rfl,SqT.of aX,aQ.same h.ff _ _ d⟩
 .rw[B0 c]at a;cases a
def aHu(b:SA K tA fa):SE K (aHF tA) (cA fa):=by
 intro γ M x M' a W H i Q G R k;obtain⟨⟨s,M1⟩,j,a⟩:=aJ a;obtain⟨l,m,a⟩:=aJ a;by_cases c:l.length<=sizeLine
 .rw[A4 c]at a;cases a;refine b _ _ _ _ j W H i _ G R fun vs t u n o q=>?_;have d:=fU m q;refine⟨by rw[<- d.length];exact c,fun p r=>?_⟩;obtain⟨h,G2⟩:=o.lay r;exact k _ _ _ (n.trans h) G2 ⟨p,vs,rfl,SqL.of aX,aQ.same h.ff _ _ d⟩
 .rw[B0 c]at a;cases a
def Good.newV(g:Good K W M H):cM K (W.more p) (.c M.length) (.ref p):=by
 refine⟨?_,?_⟩
 .show M.length<W.n+1;rw[g.n];exact S1 _
 .show V.ref p=.ref (if M.length=W.n then p else W.α M.length);rw[A4 g.n.symm]
def aKa(b:SA K tA fa):SE K (aHF tA) (kR fa):=by
 intro γ M x M' a W H i Q G R k;obtain⟨⟨j,M1⟩,l,a⟩:=aJ a;by_cases c:j.length<=sizeLine
 .have a:=a;rw[A4 c]at a;cases a;refine b _ _ _ _ l W H i _ G R fun vs m q n d h=>?_;refine⟨by rw[<- Paired.len h];exact c,fun p o=>?_⟩;exact k _ _ _ (n.trans<|m.ext_more p) (d.new o h) d.newV
 .have a:=a;rw[B0 c]at a;cases a
def aFG{h:FN}(b:SA K tA fa):SE K (aBf (spM K h) [] E0 tA) (aL h fa):=by
 intro γ M x M' a W H c Q G R k;obtain⟨⟨d,M1⟩,i,a⟩:=aJ a;refine b _ _ _ _ i W H c _ G R fun vs j s l m n=>?_;rw[J0];exact⟨d,M1,j,x,M',m,n,a,fun v o p q G2 r=>k v o p (l.trans q) G2 r⟩
def aHb{r:Td->Hp->VK->Prop}{h:FN}(p:PN K r h)(b:SA K tA fa):SE K (tCB r tA) (aL h fa):=by
 intro γ M x M' a W H c Q G R k;obtain⟨⟨u,M1⟩,d,a⟩:=aJ a;refine b _ _ _ _ d W H c _ G R fun vs i j l m n=>?_;exact p _ _ _ _ a i j vs Q m n fun v o q s G2 t=>k v o q (l.trans s) G2 t
end
section
variable{K:Fg}{ta tb tc:TE}{f g e:EF}{tt uu:TT}{ft gt:TF}{tA:TA}{fa:AF}{t u:TS}{p q:SF}{tg:TG}{hg:GF}{tgs:TGs}{hgs:GsF}
def aDY:SS K aGS cN:=by
 intro γ M o M' a W H b D G R k;cases a;exact k W H (.refl _) G b R
def aJJ(a:SS K t p)(b:SS K u q):SS K (aIa t u) (bC p q):=by
 intro γ M o M' c W H n D G R k;obtain⟨⟨r,M1⟩,s,c⟩:=aJ c;refine a _ _ _ _ s W H n _ G R fun h i j l=>?_;cases r with
 |nx d=>
  intro m v;exact b _ _ _ _ c h i m D l v fun w y z G2=>k w y (j.trans z) G2
 |bk d=>cases c;exact k h i j l
 |ct d=>cases c;exact k h i j l
 |rt x=>cases c;exact k h i j l
def aEi(a:SE K ta f):SS K (aCc ta) (lQ f):=by
 intro γ M o M' b W H c D G R k;obtain⟨⟨y,M1⟩,h,b⟩:=aJ b;cases b;exact a _ _ _ _ h W H c _ G R fun v i j d l m=>k i j d l c<|R.up d
def aHv(a:SE K ta f):SS K (aJa ta) (bT f):=by
 intro γ M o M' b W H c D G R k;obtain⟨⟨y,M1⟩,d,b⟩:=aJ b;cases b;exact a _ _ _ _ d W H c _ G R fun v h i j l m=>k h i j l v m
def aKR(c:STt K tt ft)(a:SS K t p)(b:SS K u q):SS K (aKi tt t u) (sIf ft p q):=by
 intro γ M o M' d W H i D G R k;obtain⟨⟨w,M1⟩,x,d⟩:=aJ d;refine c _ _ _ _ x W H i _ G R fun r s h v=>?_;cases w with
 |true=>rw[A4 rfl];rw[A4 rfl]at d;exact a _ _ _ _ d r s i D v (R.up h) fun j l m n=>k j l (h.trans m) n
 |false=>rw[B0 B2];rw[B0 B2]at d;exact b _ _ _ _ d r s i D v (R.up h) fun j l m n=>k j l (h.trans m) n
def RG(a:SE K ta f)(b:SG K tg hg):SS K (aEz ta tg) (aY f hg):=by
 intro γ M o M' c W H h D G R k;obtain⟨⟨y,M1⟩,j,c⟩:=aJ c;obtain⟨⟨l,M2⟩,m,c⟩:=aJ c;cases c;refine a _ _ _ _ j W H h _ G R fun v n r i s w=>?_;exact b _ _ _ _ _ m n r h v _ s (R.up i) w fun d x z A G2 R2=>k x z (i.trans A) G2 d R2
def dC.set{a:St}{x:CD}{v:V}(R:dC K W γ a)(i:Nat)(r:cM K W x v):dC K W (γ.set i<|Z x) (a.set i<|Z v):=Paired.set (show QY K W (Z x) (Z v)from r) i R
def JF:SG K (TH i) (hName i):=by
 intro x γ M a M' b W H c v Q G R r k;cases b;exact k _ W H (.refl _) G<|dC.set R i r
def aFy:SGs K aKZ gU:=by
 intro xs γ M b M' a W H c vs Q G R r k;cases r with
 |nil=>cases a;exact⟨rfl,k c W H (.refl _) G R⟩
 |cons _ _=>cases a
def aBm(a:SG K tg hg)(b:SGs K tgs hgs):SGs K (aGV tg tgs) (bK hg hgs):=by
 intro xs γ M j M' c W H l vs Q G R r k;cases r with
 |nil=>cases c
 |@cons x v xs vs m n=>
  obtain⟨⟨o,M1⟩,s,c⟩:=aJ c;refine⟨v,vs,rfl,a _ _ _ _ _ s W H l v _ G R m fun d w y i z A=>?_⟩;exact b _ _ _ _ _ c w y d vs _ z A (cS.up n i) fun h B C D G2 R2=>k h B C (i.trans D) G2 R2
def aIi{n:Nat}(b:SGs K tgs hgs):SG K (aJy K n tgs) (gS n hgs):=by
 intro x γ M j M' h W H s v Q G R r k;cases x with
 |c _=>cases h
 |f _=>cases h
 |g _=>cases h
 |t xs=>
  have h:(if xs.length=n then hgs (xs.map cdA) γ M else Y)=Z (j,M'):=h;by_cases i:xs.length=n
  .rw[A4 i]at h;obtain⟨a,vs,rfl,m,l⟩:=r;have w:=VI l;exact⟨a,vs,rfl,SqT.of<|G.fh _ _ m,by rw[<- i];simpa using(Paired.len l).symm,b _ _ _ _ _ h W H s vs Q G R w k⟩
  .rw[B0 i]at h;cases h
 |d x=>
  cases x with
  |tuple o=>
   have h:(if o.length=n then hgs (o.map .d) γ M else Y)=Z (j,M'):=h;by_cases i:o.length=n
   .rw[A4 i]at h;obtain⟨a,vs,rfl,m,l⟩:=r;exact⟨a,vs,rfl,G.fh.seqT m,by rw[<- l.length];exact i,b _ _ _ _ _ h W H s vs Q G R (lB l) k⟩
   .rw[B0 i]at h;cases h
  |_=>cases h
def P3(K:Fg)(r:V->V->V->Hp->(Hp->Prop)->Prop)(f:F3):Prop:=∀x y z M M',f x y z M=Z M'->∀(W:Wd)(H:Hp)(v u w:V)(Q:Hp->Prop),Good K W M H->cM K W x v->cM K W y u->cM K W z w->(∀W' H',W.Ext W'->Good K W' M' H'->Q H')->r v u w H Q
def aJc{r:aFE}{s:F3}(p:P3 K r s)(a:SE K ta f)(b:SE K tb g):SG K (aLV ta tb r) (hSub f g s):=by
 intro x γ M m M' c W H j v Q G R n k;obtain⟨⟨o,M1⟩,w,c⟩:=aJ c;obtain⟨⟨i,M2⟩,y,c⟩:=aJ c;obtain⟨T,z,c⟩:=aJ c;cases c;refine a _ _ _ _ w W H j _ G R fun A B C d D E=>?_;refine b _ _ _ _ y B C j _ D (R.up d) fun I J L h G2 N=>?_;exact p _ _ _ _ _ z J L A I v _ G2 (E.up h) N (n.up<|d.trans h) fun O P l S=>k j O P ((d.trans h).trans l) S<|R.up<|(d.trans h).trans l
def aIb(b:SA K tA fa):SS K (aKT i j tA) (EZ i j fa):=by
 intro γ M o M' a W H d D G R k;obtain⟨⟨w,M1⟩,h,a⟩:=aJ a;refine b _ _ _ _ h W H d _ G R fun vs l m c n r=>?_;rcases r with _|⟨s,_|⟨v,_|_⟩⟩
 .cases a
 .cases a
 .cases a;exact⟨_,_,rfl,k l m c n _<|dC.set (dC.set (R.up c) i s) j v⟩
 .cases a
def HZ(K:Fg)(J:It)(xs:T7)(W:Wd):Prop:=∀W' M' H',W.Ext W'->Good K W' M' H'->
 (∀i x,xs[i]?=Z x->J.go i H'/\∀y b,J.yld i H' y b->∃a,W'.Ext a/\Good K a M' b/\cM K a x y)/\J.stop xs.length H'
def SI(K:Fg)(b:TI)(f:AF):Prop:=∀γ M xs M',f γ M=Z (xs,M')->∀(W:Wd)(H:Hp)(a:St)(R:It->Hp->Prop),Good K W M H->dC K W γ a->(∀J W' H',W.Ext W'->Good K W' M' H'->HZ K J xs W'->R J H')->b a H R
def bD(f:EF):AF:=fun γ M=>(f γ M).bind fun r=>match r.1 with
 |.d x=>(cT x).bind fun a=>Z (a.map .d,r.2)
 |_=>Y
def aIk(a:SE K ta f):SI K (aHy K ta) (bD f):=by
 intro γ M xs M' h W H I R G Rs k;obtain⟨⟨y,M1⟩,J,h⟩:=aJ h;cases y with
 |c _=>cases h
 |t _=>cases h
 |f _=>cases h
 |g _=>cases h
 |d y=>
  obtain⟨B,L,h⟩:=aJ h;cases h;refine a _ _ _ _ J W H I _ G Rs fun v z C D w N=>?_;obtain⟨p,vs,rfl,hs,E⟩:=pE N L;refine⟨p,rfl,?_⟩
  have item:∀(i:Nat)(x:CD)(j:Wd),z.Ext j->(B.map CD.d)[i]?=Z x->∃u,vs[i]?=Z u/\cM K j x u:=fun i x j m o=>by
   obtain⟨u,n,r⟩:=Paired.get (lB E) o;exact⟨u,n,r.up m⟩
  have l:(B.map CD.d).length=vs.length:=by rw[A3];exact E.length
  rcases hs with hs|hs
  .refine .inl ⟨vs,w.fh.seq hs,k _ z C D w fun j M2 O m G2=>?_⟩;have b:=G2.fh.seq<|m.ff.seq hs;refine⟨fun i x o=>?_,?_⟩
   .obtain⟨u,n,r⟩:=item i x j m o;refine⟨⟨vs,u,b,n⟩,fun P A s=>⟨j,.refl _,by rw[s.1];exact G2,?_⟩⟩;have:=s.2 vs b;rw[n]at this;cases this;exact r
   .rw[l];exact⟨vs,b,B3 _⟩
  .refine .inr ⟨vs,w.fh.seqT hs,k _ z C D w fun j M2 O m G2=>?_⟩;have b:=G2.fh.seqT<|m.ff.seqT hs;refine⟨fun i x o=>?_,?_⟩
   .obtain⟨u,n,r⟩:=item i x j m o;refine⟨⟨vs,u,b,n⟩,fun P A s=>⟨j,.refl _,by rw[s.1];exact G2,?_⟩⟩;have:=s.2 vs b;rw[n]at this;cases this;exact r
   .rw[l];exact⟨vs,b,B3 _⟩
noncomputable def mK(lo:Int)(n:Nat):T7:=(List.range n).map fun i=>.d (.int (lo+(i:Nat)))
def MQ{lo:Int}{i:Nat}{x:CD}(h:(mK lo n)[i]?=Z x):i<n/\x=.d (.int (lo+i)):=by
 unfold mK at h;rw[F8]at h;by_cases hi:i<n
 .rw[List.getElem?_range hi]at h;exact⟨hi,(E1 h).symm⟩
 .rw[List.getElem?_eq_none_iff.mpr (by grind)]at h;cases h
noncomputable def kI(i:Int):Bool:=decide (-(2 ^ 62)<=i)&&decide (i<2 ^ 62)
def iU(f:AF):AF:=fun γ M=>(f γ M).bind fun r=>match r.1 with
 |[.d (.int j)]=>if kI j=true then Z (mK 0 j.toNat,r.2)else Y
 |_=>Y
def XF{lo:Int}:HZ K (Itr lo n) (mK lo n) W:=fun W' M' H' e G=>
 ⟨fun i x a=>⟨(MQ a).1,fun y c b=>⟨W',.refl _,by rw[b.1];exact G,by rw[(MQ a).2];exact b.2⟩⟩,by show n<=_;simp[mK]⟩
def BE(h:kI i=true):-(2 ^ 62)<=i/\i<2 ^ 62:=by
 unfold kI at h;rw[D2]at h;exact⟨D8 h.1,D8 h.2⟩
def aEk(b:SA K tA fa):SI K (aGI tA) (iU fa):=by
 intro γ M xs M' a W H c R G Rs k;obtain⟨⟨s,M1⟩,d,a⟩:=aJ a;refine b _ _ _ _ d W H c _ G Rs fun vs h i l m n=>?_;revert a;dsimp only;split
 .rename_i j;intro a;by_cases hs:kI j=true
  .rw[A4 hs]at a;cases a;cases n with
   |cons r o=>
    cases o;exact⟨j,by rw[show _=V.int j from r],(BE hs).1,(BE hs).2,k _ h i l m XF⟩
  .rw[B0 hs]at a;cases a
 .intro a;cases a
def aKm{T:TI}(i:SI K T fa)(a:SG K tg hg)(b:SS K t p):SS K (aJL T tg t) (rS fa hg p):=by
 intro γ M o M' L W H σ D G R k;obtain⟨⟨xs,M1⟩,h1,L⟩:=aJ L;refine i _ _ _ _ h1 W H σ _ G R fun J U H1 B G1 gv=>?_;refine⟨fun j m d H'=>∃r M2 s,j<=xs.length/\m=xs.length-j/\U.Ext s/\Good K s M2 H'/\dC K s r d/\sW hg p (xs.drop j) r M2=Z (o,M'),⟨_,γ,M1,U,O4 _,rfl,.refl _,G1,R.up B,L⟩,?_⟩;rintro j m d H' ⟨r,M2,s,hj,rfl,w,G2,R2,c⟩;obtain⟨N,O⟩:=gv s M2 H' w G2;by_cases v:j<xs.length
 .obtain⟨go,yl⟩:=N j xs[j]<|D7 v;rw[List.drop_eq_getElem_cons v]at c;refine .inr ⟨go,fun z C=>∃h E A,s.Ext A/\Good K A E C/\dC K A h z/\sW hg p (xs.drop (j+1)) h E=Z (o,M'),?_,fun y C hy=>?_⟩
  .rintro z C ⟨h,E,A,e3,G3,R3,h3⟩;exact⟨_,by omega,h,E,A,v,rfl,w.trans e3,G3,R3,h3⟩
  .obtain⟨W8,V,G8,ry⟩:=yl y C hy;obtain⟨⟨a0,M4⟩,h4,c⟩:=aJ c;obtain⟨⟨o5,X⟩,h5,c⟩:=aJ c;refine a _ _ _ _ _ h4 W8 _ d y _ G8 (R2.up V) ry fun P W4 H4 e4 G4 R4=>?_;refine b _ _ _ _ h5 W4 H4 P _ G4 R4 fun W5 H5 e5 I=>?_;have l:=(V.trans e4).trans e5;cases o5 with
   |nx n=>exact fun Q S=>⟨n,X,W5,l,I,S,c⟩
   |ct n=>exact fun Q S=>⟨n,X,W5,l,I,S,c⟩
   |bk n=>cases c;exact k W5 H5 ((B.trans w).trans l) I
   |rt x=>cases c;exact k W5 H5 ((B.trans w).trans l) I
 .have e:j=xs.length:=by omega
  subst e;rw[List.drop_length]at c;cases c;exact .inl ⟨O,k s H' (B.trans w) G2 d R2⟩
def aCa(c:STt K tt ft)(b:SS K t p):SS K (aBk tt t) (uS ft p):=by
 intro γ M o M' v W H σ D G R k;unfold uS at v;by_cases l:∃n,(gA ft p n γ M).isSome=true
 .rw[dif_pos l]at v;generalize l.choose=n at v;refine⟨fun m a H'=>∃r M2 w,W.Ext w/\Good K w M2 H'/\dC K w r a/\gA ft p m r M2=Z (o,M'),⟨n,γ,M,W,.refl _,G,R,v⟩,?_⟩;rintro m a H' ⟨r,M2,w,z,G2,R2,d⟩;cases m with
  |zero=>cases d
  |succ m=>
   obtain⟨⟨Q,M3⟩,S,d⟩:=aJ d;refine c _ _ _ _ S w H' a _ G2 R2 fun J L A N=>?_;cases Q with
   |true=>
    obtain⟨⟨T,s⟩,C,d⟩:=aJ d;refine⟨fun y O=>∃h s W4,w.Ext W4/\Good K W4 s O/\dC K W4 h y/\gA ft p m h s=Z (o,M'),?_,?_⟩
    .rintro y O ⟨h,s,W4,U,V,X,C⟩;exact⟨m,S1 _,h,s,W4,z.trans U,V,X,C⟩
    .refine b _ _ _ _ C J L a _ N (R2.up A) fun W5 P e5 B=>?_;have i:=A.trans e5;cases T with
     |nx j=>exact fun E I=>⟨j,s,W5,i,B,I,d⟩
     |ct j=>exact fun E I=>⟨j,s,W5,i,B,I,d⟩
     |bk j=>cases d;exact k W5 P (z.trans i) B
     |rt x=>cases d;exact k W5 P (z.trans i) B
   |false=>
    cases d;exact k J L (z.trans A) N a<|R2.up A
 .rw[dif_neg l]at v;cases v
theorem mC:∀{n m:Nat}{γ:Ga}{M:Sto}{r:Out×Sto},gA c b n γ M=Z r->n<=m->gA c b m γ M=Z r
 |0,_,_,_,_=>fun h _=>by cases h
 |n+1,0,_,_,_=>fun _ h=>by omega
 |n+1,m+1,γ,M,r=>fun h k=>by
  obtain⟨⟨d,M1⟩,i,h⟩:=aJ h;show(c γ M).bind _=_;rw[i];show(if d=true then _ else _)=_;cases d with
  |false=>exact h
  |true=>
   obtain⟨⟨o,M2⟩,j,h⟩:=aJ h;rw[j];cases o with
   |nx a=>exact mC h (by omega)
   |ct a=>exact mC h (by omega)
   |bk a=>exact h
   |rt x=>exact h
def MC{r:Out×Sto}(h:gA c b n γ M=Z r):uS c b γ M=Z r:=by
 unfold uS;have a:∃n,(gA c b n γ M).isSome=true:=⟨n,by rw[h];rfl⟩;rw[dif_pos a];have hs:=a.choose_spec;cases q:gA c b a.choose γ M with
 |none=>rw[q]at hs;cases hs
 |some d=>
  rcases Nat.le_total n a.choose with z|z
  .rw[mC h z]at q;exact q.symm▸rfl
  .rw[mC q z]at h;exact h
theorem RK{W:Wd}{γ:Ga}{a:St}(R:dC K W γ a):∀cap:T3,dC K W (pV cap γ) (zG cap a)
 |[]=>.nil
 |none::r=>.cons True.intro (RK R r)
 |some j::r=>by
  refine .cons ?_ (RK R r);show QY K W ((γ[j]?).join) ((a[j]?).join);cases e:γ[j]? with
  |none=>
   have:a[j]?=Y:=by
    have d:=Paired.len R;exact List.getElem?_eq_none_iff.mpr (by grind)
   rw[this];exact True.intro
  |some x=>
   obtain⟨y,b,c⟩:=Paired.get R e;rw[b];exact c
def KJ{wi:TI}{cap:T3}{te:TE}{O:EF}(i:SI K wi fa)(a:SG K tg hg)(c:STt K tt ft)(b:SE K te O){xs:T7}{M':Sto}(D:LW cap fa hg ft O γ M=Z (xs,M'))
 {W:Wd} {H:Hp} {X:St} {Q:VK} (G:Good K W M H) (R:dC K W γ X) (k:∀vs W' H',W.Ext W'->Good K W' M' H'->cS K W' xs vs->∀p,H' p=Y->Q (.ref p) (upd H' p (.lst vs))):tLc cap wi tg tt te X H Q:=by
 obtain⟨⟨w,M1⟩,h1,D⟩:=aJ D;by_cases hl:w.length<=sizeLine
 .rw[A4 hl]at D;refine i _ _ _ _ h1 W H X _ G R fun J W1 H1 e1 G1 gv=>?_
  refine⟨fun j m acc A H'=>∃B M2 x pre o,j<=w.length/\m=w.length-j/\acc.length<=j/\W1.Ext x/\Good K x M2 H'/\dC K x B A/\cS K x pre acc/\pre++o=xs/\lcF hg ft O (w.drop j) B M2=Z (o,M'),
   ⟨_,pV cap γ,M1,W1,[],xs,O4 _,rfl,O4 _,.refl _,G1,RK (R.up e1) cap,.nil,rfl,D⟩,?_⟩
  rintro j m acc A H' ⟨B,M2,x,pre,o,hj,rfl,a5,e2,G2,R2,rp,P,l⟩;obtain⟨a0,a1⟩:=gv x M2 H' e2 G2;by_cases C:j<w.length
  .obtain⟨go,yl⟩:=a0 j w[j]<|D7 C;rw[List.drop_eq_getElem_cons C]at l;refine .inr ⟨go,by omega,fun n I S=>∃r T E d h,n.length<=j+1/\x.Ext E/\Good K E T S/\dC K E r I/\cS K E d n/\d++h=xs/\lcF hg ft O (w.drop (j+1)) r T=Z (h,M'),?_,fun y S hy=>?_⟩
   .rintro n I S ⟨r,T,E,d,h,a2,e3,G3,R3,a3,a4,h3⟩;exact⟨_,by omega,r,T,E,d,h,C,rfl,a2,e2.trans e3,G3,R3,a3,a4,h3⟩
   .obtain⟨W8,e8,G8,ry⟩:=yl y S hy;obtain⟨⟨L,M4⟩,h4,l⟩:=aJ l;obtain⟨⟨b5,M5⟩,h5,l⟩:=aJ l;refine a _ _ _ _ _ h4 W8 _ A y _ G8 (R2.up e8) ry fun N W4 H4 e4 G4 U=>?_;refine c _ _ _ _ h5 W4 H4 N _ G4 U fun W5 H5 V G5=>?_;have s:=(e8.trans e4).trans V;cases b5 with
    |true=>
     obtain⟨⟨z,M6⟩,h6,l⟩:=aJ l;obtain⟨⟨zs,M7⟩,h7,l⟩:=aJ l;cases l;refine .inl ⟨rfl,b _ _ _ _ h6 W5 H5 N _ G5 (U.up V) fun v W6 H6 e6 G6 r6=>?_⟩;refine⟨L,M6,W6,pre++[z],zs,by rw[C3];simp only[List.length_singleton];omega,s.trans e6,G6,U.up<|V.trans e6,Paired.app (cS.up rp<|s.trans e6) (.cons r6 .nil),by rw[<- P,E5];rfl,h7⟩
    |false=>
     exact .inr ⟨rfl,L,M5,W5,pre,o,by omega,s,G5,U.up V,cS.up rp s,P,l⟩
  .have e:j=w.length:=by omega
   subst e;rw[List.drop_length]at l;cases l;rw[J0]at P;subst P;exact .inl ⟨a1,k acc x H' (e1.trans e2) G2 rp⟩
 .rw[B0 hl]at D;cases D
def aGC{h:TI}{cap:T3}{j:TE}{l:EF}(i:SI K h fa)(a:SG K tg hg)(c:STt K tt ft)(b:SE K j l):SE K (tLc cap h tg tt j) (fLc cap fa hg ft l):=by
 intro γ M x M' d W H A Q G R k;obtain⟨⟨B,M1⟩,o,d⟩:=aJ d;obtain⟨r,s,d⟩:=aJ d;by_cases m:r.length<=sizeLine
 .rw[A4 m]at d;cases d;refine KJ i a c b o G R fun vs C D v w y p z=>?_;obtain⟨n,G2⟩:=w.lay z;exact k _ _ _ (v.trans n) G2 ⟨p,vs,rfl,SqL.of aX,aQ.same n.ff _ _<|fU s y⟩
 .rw[B0 m]at d;cases d
def aJm:STt K aKV eU:=by
 intro γ M x M' a W H b Q G R k;cases a;exact k W H (.refl _) G
theorem cS.some{W:Wd}:∀{xs:T7}{vs:Td},cS K W xs vs->dC K W (xs.map Z) (vs.map Z)
 |_,_,.nil=>.nil
 |_,_,.cons r t=>.cons r (cS.some t)
theorem rY{W:Wd}:∀n:Nat,dC K W (List.replicate n Y) (List.replicate n Y)
 |0=>.nil
 |n+1=>.cons True.intro (rY n)
def Def.okM{P:Ue}{w:World}{mg:Str->Tg}{base:Heap}{x:Str}{st:Stmt}{N ps:Tc}{k:Nat}{b:SF}{q:Bool}(D:Def K mg x st)(S:aV N ps (aH st))
 (n:∀(kV doc pm:Tz)(an:Ti)(cdv ct:Tz)(us:T6),us.length=ps.length->bindArgs (PySem.W.fnOf x x (dQ st) (bU st) (aH st) .none kV doc pm an cdv ct) ⟨us,[]⟩=pure (ps.zip us))
 (c:∀(f:Uc)(cdv:Tz)(A:Uf)(outer:Tw Env)(s:Ub)(H:Hp)(E:XK),cK k (A.deeper<|envOfC x (aH st) s.heap.objs.size f cdv) q->
  ∃t,PSs (mP CX0 P w K mg base N x (aH st) f cdv A outer s H E q).nox (bU st) t/\SS K t b):Callee P w K mg base (k+1) x ps (spM K (fnF ps.length N.length b)) q:=by
 have len:∀vs H Q E,spM K (fnF ps.length N.length b) vs H Q E->vs.length=ps.length:=fun vs H Q E h=>by
  obtain⟨xs,M,W,y,M',G,R,a,_⟩:=h;by_cases d:xs.length=ps.length
  .rw[<- Paired.len R];exact d
  .unfold fnF at a;rw[B0 d]at a;cases a
 refine D.ok S n len fun f cdv A outer s H vs Q E z h=>?_;obtain⟨t,B,hS⟩:=c f cdv A outer s H E z;refine⟨t,B,?_⟩;obtain⟨xs,M,W,y,M',G,R,a,k⟩:=h;by_cases d:xs.length=ps.length
 .unfold fnF at a;rw[A4 d]at a;obtain⟨⟨o,M1⟩,C,a⟩:=aJ a
  have I:dC K W (xs.map Z++List.replicate (N.length-xs.length) Y) (start N vs):=by
   unfold start;rw[<- Paired.len R];exact Paired.app (cS.some R)<|rY _
  refine hS _ _ _ _ C W H _ _ G I fun i j l m=>?_;cases o with
  |rt x=>cases a;exact fun v r=>k v i j l m r
  |nx γ=>cases a;exact fun J r=>k .non i j l m rfl
  |bk γ=>cases a
  |ct γ=>cases a
 .unfold fnF at a;rw[B0 d]at a;cases a
end
def BP(h h':F2):F2:=fun x y M=>match h x y M with
 |some r=>Z r
 |none=>h' x y M
def pI(g:Int->Int->Tx Ua):F2:=fun x y M=>match x,y with
 |.d (.int i),.d (.int j)=>(g i j).bind fun z=>Z (.d z,M)
 |_,_=>Y
def aBv{g:Int->Int->Tx Ua}{x y:CD}{z:CD}{M':Sto}(h:pI g x y M=Z (z,M')):∃i j w,x=.d (.int i)/\y=.d (.int j)/\g i j=Z w/\z=.d w/\M'=M:=by
 unfold pI at h;split at h
 .rename_i i j;obtain⟨w,a,h⟩:=aJ h;cases h;exact⟨i,j,w,rfl,rfl,a,rfl,rfl⟩
 .cases h
section
variable{X:Cx}{K:Fg}
def aHk{g:Int->Int->Int}:P2 K (rI0 fun i j=>.int (g i j)) (pI fun i j=>Z (.int (g i j))):=by
 intro x y M z M' h W H v u Q G a b k;obtain⟨i,j,w,rfl,rfl,c,rfl,rfl⟩:=aBv h;cases c;exact⟨i,j,a,b,k _ W H (.refl _) G rfl⟩
def VW{g:Int->Int->Bool}:P2 K (rI0 fun i j=>.bl (g i j)) (pI fun i j=>Z (.bool (g i j))):=by
 intro x y M z M' h W H v u Q G a b k;obtain⟨i,j,w,rfl,rfl,c,rfl,rfl⟩:=aBv h;cases c;exact⟨i,j,a,b,k _ W H (.refl _) G rfl⟩
def ifS(c:Bool)(x:Ua):Tx Ua:=if c=true then Z x else Y
def aKs{y:Ua}(h:ifS c x=Z y):c=true/\y=x:=by
 unfold ifS at h;cases c with
 |true=>rw[A4 rfl]at h;cases h;exact⟨rfl,rfl⟩
 |false=>rw[B0 B2]at h;cases h
def aFl{C:Int->Int->Prop}{c:Int->Int->Bool}{g:Int->Int->Int}(a:∀i j,c i j=true->C i j):P2 K (rI C fun i j=>.int (g i j)) (pI fun i j=>ifS (c i j) (.int (g i j))):=by
 intro x y M z M' h W H v u Q G b d k;obtain⟨i,j,w,rfl,rfl,e,rfl,rfl⟩:=aBv h;obtain⟨f,rfl⟩:=aKs e;exact⟨i,j,b,d,a i j f,k _ W H (.refl _) G rfl⟩
def aJU:F2:=pI fun i j=>Z (.int (i+j))
def qZ:F2:=pI fun i j=>Z (.int (i-j))
def nJ(i j:Int):Bool:=decide (i.natAbs<2 ^ 64) || decide (j.natAbs<2 ^ 64) || (decide (i.natAbs<yJ)&&decide (j.natAbs<yJ))
def vC:F2:=pI fun i j=>ifS (nJ i j) (.int (i*j))
def yB(_ j:Int):Bool:=decide (0<j)&&decide (j.natAbs<yJ)
def cD:F2:=pI fun i j=>ifS (yB i j) (.int (i / j))
noncomputable def rZ(_ j:Int):Bool:=decide (0<j)
def bO:F2:=pI fun i j=>ifS (rZ i j) (.int (i % j))
noncomputable def aHj(i j:Int):Bool:=decide (0<=j)&&decide (j<=1000000)&&decide (i.natAbs<2 ^ 64)
def wU:F2:=pI fun i j=>ifS (aHj i j) (.int (i ^ j.toNat))
def mulOk_of(h:nJ i j=true):OG i j:=by
 unfold nJ at h;simp only[Bool.or_eq_true,Bool.and_eq_true,decide_eq_true_eq]at h;rcases h with(h|h)|h
 .exact .inl (.inl ⟨by omega,by omega⟩)
 .exact .inl (.inr ⟨by omega,by omega⟩)
 .exact .inr h
def ltI:F2:=pI fun i j=>Z (.bool (decide (i<j)))
def leI:F2:=pI fun i j=>Z (.bool (decide (i<=j)))
def gtI:F2:=pI fun i j=>Z (.bool (decide (j<i)))
def geI:F2:=pI fun i j=>Z (.bool (decide (j<=i)))
def eqD(neg:Bool):F2:=fun x y M=>match x,y with
 |.d a,.d b=>if (SeqAt.shaped a&&SeqAt.shaped b)=true then Z (.d (.bool (if neg then !PyData.eqv a b else PyData.eqv a b)),M)else Y
 |_,_=>Y
def aGQ:P2 K (YI K neg) (eqD neg):=by
 intro x y M z M' h W H v u Q G c d k;unfold eqD at h;split at h
 .rename_i a b;by_cases hs:(SeqAt.shaped a&&SeqAt.shaped b)=true
  .rw[A4 hs]at h;cases h;rw[D2]at hs;exact⟨a,b,Rep.same G.fh _ _ c,Rep.same G.fh _ _ d,hs.1,hs.2,k _ W H (.refl _) G rfl⟩
  .rw[B0 hs]at h;cases h
 .cases h
def inD(neg:Bool):F2:=fun x y M=>match x,y with
 |.d a,.d b=>(cT b).bind fun c=>if (SeqAt.shaped a&&c.all SeqAt.shaped)=true then Z (.d (.bool (if neg then !c.any fun d=>PyData.eqv d a else c.any fun d=>PyData.eqv d a)),M)else Y
 |_,_=>Y
def aKG{neg:Bool}:P2 K (aJI K neg) (inD neg):=by
 intro x y M z M' h W H v u Q G d e k;unfold inD at h;split at h
 .rename_i a b;obtain⟨c,f,h⟩:=aJ h;by_cases hs:(SeqAt.shaped a&&c.all SeqAt.shaped)=true
  .rw[A4 hs]at h;cases h;rw[D2]at hs;obtain⟨p,vs,rfl,g,i⟩:=pE (Rep.same G.fh _ _ e) f;exact⟨a,c,p,vs,Rep.same G.fh _ _ d,rfl,g,i,hs.1,hs.2,k _ W H (.refl _) G rfl⟩
  .rw[B0 hs]at h;cases h
 .cases h
def aQ.nth{i:Nat}{d:Ua}(h:aQ K H ds vs)(e:ds[i]?=Z d):∃v,vs[i]?=Z v/\Rep K H d v:=by
 have b:i<vs.length:=by rw[<- h.length];exact(List.getElem?_eq_some_iff.mp e).1
 have c:=D7 b;obtain⟨f,a,r⟩:=h.get c;rw[e]at a;cases a;exact⟨_,c,r⟩
def RB{a:Type}{xs:Tw a}{i:Int}{x:a}(h:atI xs i=Z x):∃j,ixN xs.length i=Z j/\xs[j]?=Z x:=by
 exact aJ h
def RX{a:Type}{xs:Tw a}{j:Nat}{x:a}(h:ixN xs.length i=Z j)(e:xs[j]?=Z x):atI xs i=Z x:=by
 unfold atI;rw[h];exact e
def ixF:F2:=fun x y M=>match x,y with
 |.d a,.d (.int n)=>(cT a).bind fun b=>(atI b n).bind fun e=>Z (.d e,M)
 |.c i,.d (.int n)=>match M[i]? with
  |some (.lst xs)=>(atI xs n).bind fun e=>Z (e,M)
  |_=>Y
 |.t xs,.d (.int n)=>(atI xs n).bind fun e=>Z (cdA e,M)
 |_,_=>Y
def Good.lstAt{i:Nat}(G:Good K W M H)(h:M[i]?=Z (.lst xs)):∃vs,H (W.α i)=Z (.lst vs)/\cS K W xs vs:=by
 obtain⟨_,o,b,a⟩:=G.cs i _ h (by simp);cases o with
 |lst vs=>exact⟨vs,b,a⟩
 |_=>exact False.elim a
def aMg:P2 K (rIx K) ixF:=by
 intro x y M z M' h W H v u Q G t A k;unfold ixF at h;split at h
 .rename_i a n;obtain⟨O,D,h⟩:=aJ h;obtain⟨e,r,h⟩:=aJ h;cases h;obtain⟨p,vs,rfl,P,c⟩:=pE (Rep.same G.fh _ _ t) D;obtain⟨j,s,d⟩:=RB r;obtain⟨w,B,I⟩:=c.nth d;obtain⟨R,f,J,hq',g⟩:=pE t D;cases J
  have same:∀o,f[j]?=Z o->Rep K W.F e o:=fun o l=>by
   obtain⟨S,E,L⟩:=g.nth d;rw[l]at E;cases E;exact L
  obtain⟨o,l,q⟩:=g.nth d;have b:=RX (by rw[<- g.length];exact s) l;rcases hq' with hq'|hq'
  .exact .inl ⟨p,f,n,o,rfl,A,G.fh.seq hq',b,k _ W H (.refl _) G q⟩
  .exact .inr (.inl ⟨p,f,n,o,rfl,A,G.fh.seqT hq',b,k _ W H (.refl _) G q⟩)
 .rename_i i n;split at h
  .rename_i xs N;obtain⟨e,r,h⟩:=aJ h;cases h;obtain⟨vs,C,c⟩:=G.lstAt N;obtain⟨j,s,d⟩:=RB r;obtain⟨w,B,q⟩:=Paired.get c d;have m:=RX (by rw[<- Paired.len c];exact s) B;rw[show v=.ref (W.α i)from t.2];exact .inl ⟨_,vs,n,w,rfl,A,SqL.of C,m,k _ W H (.refl _) G q⟩
  .cases h
 .rename_i xs n;obtain⟨e,r,h⟩:=aJ h;cases h;obtain⟨a,vs,rfl,C,c⟩:=t;obtain⟨j,s,d⟩:=RB r;obtain⟨w,B,q⟩:=Paired.get c d;have m:=RX (by rw[<- Paired.len c];exact s) B;exact .inr (.inl ⟨_,vs,n,w,rfl,A,SqT.of<|G.fh _ _ C,m,k _ W H (.refl _) G (by cases e<;>exact q)⟩)
 .cases h
def hV:FN:=fun xs M=>match xs with
 |[.d a]=>(cT a).bind fun b=>Z (.d (.int b.length),M)
 |[.c i]=>match M[i]? with
  |some (.lst e)=>Z (.d (.int e.length),M)
  |_=>Y
 |[.t xs]=>Z (.d (.int xs.length),M)
 |_=>Y
def aIS:PN K (fun xs H Q=>∃p ys,xs=[.ref p]/\(SqL K H p ys\/SqT K H p ys)/\Q (.int ys.length) H) hV:=by
 intro xs M z M' h W H vs Q G r k;unfold hV at h;split at h
 .rename_i a;obtain⟨j,e,h⟩:=aJ h;cases h;rcases r with _|⟨b,_|_⟩;obtain⟨p,us,rfl,f,c⟩:=pE (Rep.same G.fh _ _ b) e;refine⟨p,us,rfl,f,?_⟩;rw[<- c.length];exact k _ W H (.refl _) G rfl
 .rename_i i;split at h
  .rename_i ys g;cases h;rcases r with _|⟨b,_|_⟩;obtain⟨us,d,c⟩:=G.lstAt g;rw[b.2];refine⟨_,us,rfl,.inl (SqL.of d),?_⟩;rw[<- Paired.len c];exact k _ W H (.refl _) G rfl
  .cases h
 .rename_i xs;cases h;rcases r with _|⟨b,_|_⟩;obtain⟨a,us,rfl,d,c⟩:=b;refine⟨_,us,rfl,.inr (SqT.of<|G.fh _ _ d),?_⟩;rw[<- Paired.len c];exact k _ W H (.refl _) G rfl
 .cases h
def listF:FN:=fun xs M=>match xs with
 |[.d a]=>(cT a).bind fun b=>Z (.d (.list b),M)
 |[.c i]=>match M[i]? with
  |some (.lst e)=>(iO e).bind fun b=>Z (.d (.list b),M)
  |_=>Y
 |_=>Y
def jA:FN:=fun xs M=>match xs with
 |[.d (.list a)]=>Z (.d (.tuple a),M)
 |[.d (.tuple a)]=>Z (.d (.tuple a),M)
 |[.c i]=>match M[i]? with
  |some (.lst b)=>(iO b).bind fun a=>Z (.d (.tuple a),M)
  |_=>Y
 |_=>Y
def aDT:PN K (fun xs H Q=>∃p ys,xs=[.ref p]/\((SqL K H p ys/\∀l,H l=Y->Q (.ref l) (upd H l (.tup ys)))\/(SqT K H p ys/\Q (.ref p) H))) jA:=by
 intro xs M z M' h W H vs Q G r k;unfold jA at h;split at h
 .rename_i f;cases h;rcases r with _|⟨a,_|_⟩;obtain⟨p,us,rfl,d,b⟩:=a;refine⟨p,us,rfl,.inl ⟨G.fh.seq d,fun l e=>?_⟩⟩;obtain⟨c,G2⟩:=G.lay e;exact k _ _ _ c G2 ⟨l,us,rfl,SqT.of aX,aQ.same c.ff _ _ b⟩
 .rename_i f;cases h;rcases r with _|⟨a,_|_⟩;obtain⟨p,us,rfl,d,b⟩:=a;exact⟨p,us,rfl,.inr ⟨G.fh.seqT d,k _ W H (.refl _) G ⟨p,us,rfl,d,b⟩⟩⟩
 .rename_i i;split at h
  .rename_i ys g;obtain⟨f,j,h⟩:=aJ h;cases h;rcases r with _|⟨a,_|_⟩;obtain⟨us,m,b⟩:=G.lstAt g;rw[a.2];refine⟨_,us,rfl,.inl ⟨SqL.of m,fun l e=>?_⟩⟩;obtain⟨c,G2⟩:=G.lay e;exact k _ _ _ c G2 ⟨l,us,rfl,SqT.of aX,aQ.same c.ff _ _<|fU j b⟩
  .cases h
 .cases h
def OT(T:String)(f:EF):EF:=fun γ M=>(f γ M).bind fun r=>match r.1 with
 |.d a=>Z (.d (.bool (DF T a)),r.2)
 |_=>Y
def aIZ{T:String}{e:TE}{f:EF}(hT:T∈asked)(a:SE K e f):SE K (tCB (aIy K)<|tG e<|tG (tC (.ty T)) XX) (OT T f):=by
 intro γ M x M' b W H i Q G R k;obtain⟨⟨y,M1⟩,j,b⟩:=aJ b;cases y with
 |c _=>cases b
 |t _=>cases b
 |f _=>cases b
 |g _=>cases b
 |d y=>
  cases b;refine a _ _ _ _ j W H i _ G R fun v l m n h o=>?_;exact⟨v,T,y,rfl,hT,Rep.same h.fh _ _ o,k _ l m n h rfl⟩
def SX(T U:String)(f:EF):EF:=fun γ M=>(f γ M).bind fun r=>match r.1 with
 |.d a=>Z (.d (.bool (DF T a || DF U a)),r.2)
 |_=>Y
def aEZ{T U:String}{h:TE}{f:EF}(hT:T∈asked)(j:U∈asked)(a:SE K h f):SE K (tCB (aBW K)<|tG h<|tG (aFj<|tG (tC (.ty T))<|tG (tC (.ty U)) XX) XX) (SX T U f):=by
 intro γ M x M' b W H l Q G R k;obtain⟨⟨y,M1⟩,m,b⟩:=aJ b;cases y with
 |c _=>cases b
 |t _=>cases b
 |f _=>cases b
 |g _=>cases b
 |d y=>
  cases b;refine a _ _ _ _ m W H l _ G R fun v s u n o q=>?_;refine⟨by show 2<=sizeLine;decide,fun p r=>?_⟩;obtain⟨i,G2⟩:=o.lay r;refine⟨v,p,[T,U],y,rfl,aX,fun S hS=>?_,Rep.same (i.ff.trans G2.fh) _ _ q,?_⟩
  .rcases List.mem_cons.mp hS with rfl|hS
   .exact hT
   .rw[List.mem_singleton.mp hS];exact j
  .have e:([T,U].any fun T=>DF T y)=(DF T y || DF U y):=by simp
   rw[e];exact k _ _ _ (n.trans i) G2 rfl
def aEe(M:Sto):CD->Tx Bool
 |.d .none=>Z false
 |.d (.bool b)=>Z b
 |.d (.int i)=>Z (i != 0)
 |.d (.list a)=>Z (!a.isEmpty)
 |.d (.tuple a)=>Z (!a.isEmpty)
 |.c i=>match M[i]? with
  |some (.lst xs)=>Z (!xs.isEmpty)
  |some (.dk kvs)=>Z (!kvs.isEmpty)
  |_=>Y
 |_=>Y
def HL(f:EF):TF:=fun γ M=>(f γ M).bind fun r=>(aEe r.2 r.1).bind fun b=>Z (b,r.2)
def lV{a b:Type}{xs:Tw a}{ys:Tw b}(h:xs.length=ys.length):xs.isEmpty=ys.isEmpty:=by
 cases xs<;>cases ys<;>simp at h ⊢
def aIT{s:TE}{f:EF}(a:SE K s f):STt K (fun n H Q=>s n H fun x H'=>∃k,aCX K x H' k/\Q k H') (HL f):=by
 intro γ M b M' j W H n Q G R k;obtain⟨⟨y,M1⟩,w,j⟩:=aJ j;obtain⟨I,e,j⟩:=aJ j;cases j;refine a _ _ _ _ w W H n _ G R fun v z A B l h=>⟨_,?_,k z A B l⟩;cases y with
 |d y=>
  cases y with
  |none=>cases e;rw[show v=.non from h];rfl
  |bool c=>cases e;rw[show v=.bl _ from h];rfl
  |int i=>cases e;rw[show v=.int _ from h];rfl
  |str x=>cases e
  |list C=>
   cases e;obtain⟨p,us,rfl,q,m⟩:=h;exact .inl ⟨us,l.fh.seq q,by rw[lV m.length]⟩
  |tuple C=>
   cases e;obtain⟨p,us,rfl,q,m⟩:=h;exact .inr (.inl ⟨us,l.fh.seqT q,by rw[lV m.length]⟩)
  |dict kvs=>cases e
 |t _=>cases e
 |f _=>cases e
 |g _=>cases e
 |c i=>
  rw[h.2];unfold aEe at e;dsimp only at e;split at e
  .rename_i xs r;cases e;obtain⟨us,D,m⟩:=l.lstAt r;exact .inl ⟨us,SqL.of D,by rw[lV (Paired.len m)]⟩
  .rename_i kvs r;cases e;obtain⟨_,o,E,u⟩:=l.cs i _ r (by simp);cases o with
   |dK us=>exact .inr (.inr ⟨us,E,by rw[lV (Paired.len u)]⟩)
   |_=>exact False.elim u
  .cases e
def boolsOf:T5->Tx (Tw Bool)
 |[]=>Z []
 |.bool b::r=>(boolsOf r).bind fun bs=>Z (b::bs)
 |_::_=>Y
def EM:FN:=fun xs M=>match xs with
 |[.d (.list a)]=>(boolsOf a).bind fun bs=>Z (.d (.bool (bs.all id)),M)
 |_=>Y
theorem FY{H:Hp}:∀{ds:T5}{bs:Tw Bool}{vs:Td},boolsOf ds=Z bs->aQ K H ds vs->vs=bs.map V.bl
 |[],bs,vs=>fun e h=>by cases e;exact h
 |.bool b::r,bs,vs=>fun e h=>by
  obtain⟨cs,a,e⟩:=aJ e;cases e;obtain⟨v,us,rfl,c,d⟩:=h;rw[show v=V.bl b from c,FY a d];rfl
 |.none::_,_,_=>fun e _=>by cases e
 |.int _::_,_,_=>fun e _=>by cases e
 |.str _::_,_,_=>fun e _=>by cases e
 |.list _::_,_,_=>fun e _=>by cases e
 |.tuple _::_,_,_=>fun e _=>by cases e
 |.dict _::_,_,_=>fun e _=>by cases e
def YJ(d:X.calm=true):eX X (.builtin "all") (fun xs H Q=>∃(p:Uc)(bs:Tw Bool),xs=[.ref p]/\SqL X.K H p (bs.map V.bl)/\Q (.bl (bs.all id)) H):=by
 intro pins s m H xs us Q I r h;obtain⟨p,bs,rfl,f,q⟩:=h;obtain⟨u,rfl,g⟩:=vals1 r;cases g;obtain⟨its,j,pl,n⟩:=I.list f;have a:=bH.bools j;subst a;refine call_all_walk<|wpAny_pyIter_list pl.isList ?_;have c:=pl.lt;refine⟨_,_,_,_,_,_,(fun i=>bs.getD i false),rfl,Walks.list (A:=X.A.in1) (I.ok.hd d) s.heap.objs.size p (D1 c) (bs.map Value.bool).toArray,⟨⟨_,D0 _ rfl,rfl,rfl⟩,pl.isList.at fun o e=>A5 _ e⟩,LQ,fun h' tk k=>?_⟩;have l:((bs.map Value.bool).toArray).size=bs.length:=by simp
 rw[l,all_range];refine⟨.bl _,H,I.kept fun b o e=>?_,rfl,q⟩;exact k b o (fun z=>by rw[List.mem_singleton]at z;exact absurd (C2 e) (by grind))<|A5 _ e
def aHN:PN K (fun xs H Q=>∃(p:Uc)(bs:Tw Bool),xs=[.ref p]/\SqL K H p (bs.map V.bl)/\Q (.bl (bs.all id)) H) EM:=by
 intro xs M z M' h W H vs Q G r k;unfold EM at h;split at h
 .rename_i f;obtain⟨bs,a,h⟩:=aJ h;cases h;rcases r with _|⟨b,_|_⟩;obtain⟨p,us,rfl,c,d⟩:=b;have e:=FY a d;subst e;exact⟨p,bs,rfl,G.fh.seq c,k _ W H (.refl _) G rfl⟩
 .cases h
def IL:F3:=fun x y z M=>match x,y with
 |.c i,.d (.int k)=>match M[i]? with
  |some (.lst xs)=>(ixN xs.length k).bind fun j=>Z<|M.set i (.lst (xs.set j z))
  |_=>Y
 |_,_=>Y
def aJv:P3 K aGJ IL:=by
 intro x y z M M' h W H v u w Q G c d e k;unfold IL at h;split at h
 .rename_i i n;split at h
  .rename_i xs a;obtain⟨j,f,h⟩:=aJ h;cases h;obtain⟨us,g,b⟩:=G.lstAt a;refine⟨W.α i,us,n,j,c.2,d,g,by rw[<- Paired.len b];exact f,?_⟩;exact k W _ (.refl _)<|G.set a (by simp)<|Paired.set e j b
  .cases h
 .cases h
end
section
variable{X:Cx}{K:Fg}
def VS(K:Fg):R2:=fun x y H Q=>∃l b xs a,x=.ref l/\y=.ref b/\SqL K H l xs/\SqL K H b a/\xs.length+a.length<=sizeLine/\∀p,H p=Y->Q (.ref p) (upd H p (.lst (xs++a)))
def op_catS:OpR X (binaryOp .Add) (VS X.K):=by
 intro pins s C H x y v u Q I o p h;obtain⟨l,b,xs,D,rfl,rfl,t,hB,E,q⟩:=h;cases o;cases p;obtain⟨its,r,⟨⟨cls,w,data,sl⟩,n,i,z,A,hd⟩,_⟩:=I.list t;obtain⟨a,j,⟨⟨k,d,data2,e⟩,n2,c,f,m,g⟩,_⟩:=I.list hB;subst z hd f g;have G:=r.length;have J:=j.length;refine concat_meets ⟨_,i,rfl⟩ ⟨_,c,rfl⟩ noFill_list_add seq_list_add PySem.F.slot_list_add PySem.F.entry_list_add (PySem.F.args_list_add_2 _ _) (list_addW l b its.toArray a.toArray n n2 w d sl e (by grind)) ⟨i,c,?_⟩;have B:its.toArray++a.toArray=(its++a).toArray:=by simp
 rw[B];exact⟨.ref _,_,I.lnew (r.append j) (by grind),rfl,q _ I.fresh⟩
def yQ(M:Sto):CD->Tx (T7)
 |.d (.list a)=>Z<|a.map .d
 |.c i=>match M[i]? with
  |some (.lst xs)=>Z xs
  |_=>Y
 |_=>Y
def nR{xs:T7}(G:Good K W M H)(h:yQ M x=Z xs)(r:cM K W x v):∃p vs,v=.ref p/\SqL K H p vs/\cS K W xs vs:=by
 unfold yQ at h;split at h
 .rename_i e;cases h;obtain⟨p,us,rfl,b,a⟩:=r;exact⟨p,us,rfl,G.fh.seq b,lB a⟩
 .rename_i i;split at h
  .rename_i f c;cases h;obtain⟨us,d,a⟩:=G.lstAt c;exact⟨_,us,r.2,SqL.of d,a⟩
  .cases h
 .cases h
def aKu:F2:=fun x y M=>(yQ M x).bind fun xs=>(yQ M y).bind fun b=>(iO (xs++b)).bind fun a=>if a.length<=sizeLine then Z (.d (.list a),M)else Y
def aGq:P2 K (VS K) aKu:=by
 intro x y M z M' h W H v u Q G e f k;obtain⟨xs,g,h⟩:=aJ h;obtain⟨o,i,h⟩:=aJ h;obtain⟨j,b,h⟩:=aJ h;by_cases a:j.length<=sizeLine
 .rw[A4 a]at h;cases h;obtain⟨p,vs,rfl,m,c⟩:=nR G g e;obtain⟨q,us,rfl,n,hs⟩:=nR G i f;have el:=CV b;rw[C3]at el;refine⟨p,q,vs,us,rfl,rfl,m,n,by rw[<- Paired.len c,<- Paired.len hs];omega,fun l a=>?_⟩;obtain⟨d,G2⟩:=G.lay a;exact k _ _ _ d G2 ⟨l,_,rfl,SqL.of aX,aQ.same d.ff _ _<|fU b<|Paired.app c hs⟩
 .rw[B0 a]at h;cases h
def aJX:F2:=fun x y M=>match x,y with
 |.d (.tuple xs),.d (.tuple a)=>if xs≠[]/\xs.length+a.length<=sizeLine then Z (.d (.tuple (xs++a)),M)else Y
 |_,_=>Y
def aQ.nil_iff(r:aQ K H ds vs):vs=[]↔ds=[]:=by
 have:=r.length;constructor<;>intro h<;>subst h<;>simp at this
 .exact this
 .exact List.eq_nil_of_length_eq_zero this.symm
def aGm:P2 K (aBn K) aJX:=by
 intro x y M z M' h W H v u Q G f g k;unfold aJX at h;split at h
 .rename_i xs c;by_cases a:xs≠[]/\xs.length+c.length<=sizeLine
  .rw[A4 a]at h;cases h;obtain⟨p,vs,rfl,d,b⟩:=f;obtain⟨q,us,rfl,i,hs⟩:=g;refine⟨p,q,vs,us,rfl,rfl,G.fh.seqT d,G.fh.seqT i,fun z=>a.1<|b.nil_iff.mp z,by rw[<- b.length,<- hs.length];exact a.2,fun z=>?_,fun z l j=>?_⟩
   .have:c=[]:=hs.nil_iff.mp z;subst this;rw[J0]at k;exact k _ W H (.refl _) G ⟨p,vs,rfl,d,b⟩
   .obtain⟨e,G2⟩:=G.lay j;exact k _ _ _ e G2 ⟨l,_,rfl,SqT.of aX,aQ.same e.ff _ _<|aQ.app b hs⟩
  .rw[B0 a]at h;cases h
 .cases h
def P2.or(a:P2 K r h)(b:P2 K d h'):P2 K (fun x y H Q=>r x y H Q\/d x y H Q) (BP h h'):=by
 intro x y M z M' c W H v u Q G f g k;unfold BP at c;cases e:h x y M with
 |some q=>
  rw[e]at c;cases c;exact .inl (a _ _ _ _ _ e W H v u Q G f g k)
 |none=>
  rw[e]at c;exact .inr (b _ _ _ _ _ c W H v u Q G f g k)
noncomputable def RE(K:Fg):R2:=fun x y H Q=>∃a b c,x=.ref a/\y=.ref b/\SqT K H a []/\SqT K H b c/\Q (.ref b) H
def op_catT0:OpR X (binaryOp .Add) (RE X.K):=by
 intro pins s w H x y v u Q I l m h;obtain⟨a,b,z,rfl,rfl,ha,o,q⟩:=h;cases l;cases m;obtain⟨its,p,⟨⟨cls,r,data,sl⟩,j,t,n,hd⟩,_⟩:=I.tuple ha;obtain⟨c,A,⟨⟨k,e,data2,f⟩,d,g,n2,i⟩,_⟩:=I.tuple o;subst t hd g i;cases p;exact concat_meets ⟨_,j,rfl⟩ ⟨_,d,rfl⟩ noFill_tuple_add seq_tuple_add PySem.F.slot_tuple_add PySem.F.entry_tuple_add (PySem.F.args_tuple_add_2 _ _) (tuple_addW0 a b #[] c.toArray n n2 r e sl f rfl) ⟨j,d,⟨.ref b,H,I,rfl,q⟩⟩
def aAq:F2:=fun x y M=>match x,y with
 |.d (.tuple []),.d (.tuple a)=>Z (.d (.tuple a),M)
 |_,_=>Y
def aCx:P2 K (RE K) aAq:=by
 intro x y M z M' h W H v u Q G c d k;unfold aAq at h;split at h
 .rename_i f;cases h;obtain⟨p,vs,rfl,a,e⟩:=c;obtain⟨q,us,rfl,b,hs⟩:=d;rw[show vs=[]from e]at a;exact⟨p,q,us,rfl,rfl,G.fh.seqT a,G.fh.seqT b,k _ W H (.refl _) G ⟨q,us,rfl,b,hs⟩⟩
 .cases h
def bV:F2:=BP aJU<|BP aKu<|BP aAq aJX
def aDo(K:Fg):R2:=fun x y H Q=>(rI0 fun i j=>.int (i+j)) x y H Q\/VS K x y H Q\/RE K x y H Q\/aBn K x y H Q
def aFR:OpR X (binaryOp .Add) (aDo X.K):=op_add.or<|op_catS.or<|op_catT0.or aEP
def SV:P2 K (aDo K) bV:=P2.or aHk<|P2.or aGq<|P2.or aCx aGm
def eqS(neg:Bool):F2:=fun x y M=>match x,y with
 |.d (.str a),.d (.str b)=>Z (.d (.bool (if neg then !(a==b)else a==b)),M)
 |_,_=>Y
def eqX(neg:Bool):F2:=BP (eqS neg)<|eqD neg
def aHp(K:Fg):R2:=fun x y H Q=>rEq x y H Q\/YI K false x y H Q
def aJt(K:Fg):R2:=fun x y H Q=>rNe x y H Q\/YI K true x y H Q
def aCn:decide (V.str a=V.str b)=(a==b):=by grind
def aJZ:P2 K rEq (eqS false):=by
 intro x y M z M' h W H v u Q G c d k;unfold eqS at h;split at h
 .rename_i a b;cases h;rw[show v=.str a from c,show u=.str b from d];refine⟨rfl,?_⟩;rw[aCn];exact k _ W H (.refl _) G rfl
 .cases h
def aHw:P2 K rNe (eqS true):=by
 intro x y M z M' h W H v u Q G c d k;unfold eqS at h;split at h
 .rename_i a b;cases h;rw[show v=.str a from c,show u=.str b from d];refine⟨rfl,?_⟩;rw[aCn];exact k _ W H (.refl _) G rfl
 .cases h
def aAJ:P2 K (aHp K) (eqX false):=P2.or aJZ aGQ
def aHB:P2 K (aJt K) (eqX true):=P2.or aHw aGQ
def aIx(a:X.A.units+64<cLine):OpR X (compareOp .Eq) (aHp X.K):=op_eq.or<|aCI a
def aHX(a:X.A.units+64<cLine):OpR X (compareOp .NotEq) (aJt X.K):=op_ne.or<|aKr a
def aHI:P2 K (rI0 fun i j=>.int (i-j)) qZ:=aHk
def aBw:P2 K (rI OG fun i j=>.int (i*j)) vC:=aFl fun _ _ h=>mulOk_of h
def aFk:P2 K (rI aHd fun i j=>.int (i / j)) cD:=aFl fun i j h=>by
 unfold yB at h;rw[D2]at h;exact⟨D8 h.1,D8 (p:=j.natAbs<yJ) h.2⟩
def aKx:P2 K (rI (fun _ j=>0<j) fun i j=>.int (i % j)) bO:=aFl fun i j h=>D8 h
def aKw:P2 K (rI aLb fun i j=>.int (i ^ j.toNat)) wU:=aFl fun i j h=>by
 unfold aHj at h;rw[D2,D2]at h;exact⟨D8 h.1.1,D8 h.1.2,D8 h.2⟩
def aLs:P2 K (rI0 fun i j=>.bl (decide (i<j))) ltI:=VW
def aMo:P2 K (rI0 fun i j=>.bl (decide (i<=j))) leI:=VW
def aMi:P2 K (rI0 fun i j=>.bl (decide (j<i))) gtI:=VW
def aKW:P2 K (rI0 fun i j=>.bl (decide (j<=i))) geI:=VW
def aGg:F1:=fun x M=>match x with
 |.d (.int i)=>Z (.d (.int (-i)),M)
 |_=>Y
def aKb:P1 K (rU fun i=>.int (-i)) aGg:=by
 intro x M z M' h W H v Q G r k;unfold aGg at h;split at h
 .rename_i i;cases h;exact⟨i,r,k _ W H (.refl _) G rfl⟩
 .cases h
end
section
variable{X:Cx}{K:Fg}
def aMq(h:X.K=K):eX X (.builtin "isinstance") (aIy K):=by subst h;exact WM
def aLH(h:X.K=K):eX X (.builtin "isinstance") (aBW K):=by subst h;exact SC
def aKH(K:Fg):R2:=rIx K
def kIx(h:X.K=K):IxR X (aKH K):=by subst h;exact aJR
def aJH:P2 K (aKH K) ixF:=aMg
def aGB(K:Fg):Td->Hp->VK->Prop:=fun xs H Q=>∃p a,xs=[.ref p]/\(SqL K H p a\/SqT K H p a)/\Q (.int a.length) H
def aMu(h:X.K=K):eX X (.builtin "len") (aGB K):=by subst h;exact IP
def aDV:PN K (aGB K) hV:=aIS
def aDA(K:Fg):Td->Hp->VK->Prop:=fun xs H Q=>∃p a,xs=[.ref p]/\(SqL K H p a\/SqT K H p a)/\∀l,H l=Y->Q (.ref l) (upd H l (.lst a))
def aKI(h:X.K=K):eX X (.type "list") (aDA K):=by subst h;exact KH
def VV(K:Fg):Td->Hp->VK->Prop:=fun xs H Q=>∃p a,xs=[.ref p]/\((SqL K H p a/\∀l,H l=Y->Q (.ref l) (upd H l (.tup a)))\/(SqT K H p a/\Q (.ref p) H))
def aHV(h:X.K=K):eX X (.type "tuple") (VV K):=by subst h;exact EV
def YH:PN K (VV K) jA:=aDT
def aHg(K:Fg):Td->Hp->VK->Prop:=fun xs H Q=>∃(p:Uc)(bs:Tw Bool),xs=[.ref p]/\SqL K H p (bs.map V.bl)/\Q (.bl (bs.all id)) H
def aMw(h:X.K=K)(a:X.calm=true):eX X (.builtin "all") (aHg K):=by subst h;exact YJ a
def aFZ:PN K (aHg K) EM:=aHN
def kEq(h:X.K=K)(a:X.A.units+64<cLine):OpR X (compareOp .Eq) (aHp K):=by subst h;exact aIx a
def kNe(h:X.K=K)(a:X.A.units+64<cLine):OpR X (compareOp .NotEq) (aJt K):=by subst h;exact aHX a
def kIn(h:X.K=K)(a:X.A.in1.units+64<cLine):OpR X (compareOp .In) (aJI K false):=by subst h;exact aIG a
def aLl(h:X.K=K):OpR X (binaryOp .Add) (aDo K):=by subst h;exact aFR
def aFT(h:X.K=K)(b:PE X l a):PI X tg l (aHy K a):=by subst h;exact aJz b
def aDZ{n:Nat}(b:X.K=K)(c:X.calm=true)(h:PGs X es t)
 (hn:(assignEach es X.env).length=n:=by rfl) (a:(assignEach es X.env).findIdx? (·.1)=Y:=by rfl):PG X (.Tuple es k pos) (aJy K n t):=by subst b;exact aJB c h hn a
noncomputable def aLr(K:Fg)(a:TE):TT:=fun b H Q=>a b H fun x H'=>∃k,aCX K x H' k/\Q k H'
def VQ(d:X.K=K)(ha:PE X a c)(e:∀b,isTrue a X.env b=(do let v <- b;standAt a.pos;holding [v]<|truthy v)):PT X a (aLr K c):=by subst d;exact aBy ha e
def aFt(a:SE K b f):STt K (aLr K b) (HL f):=aIT a
end
section
variable{es:T9}{env:Env}
def dY{a b}:starEach (.Name a b::es) env=(false,eval (.Name a b) env)::starEach es env:=rfl
def BH{a b c}:starEach (.Tuple a b c::es) env=(false,eval (.Tuple a b c) env)::starEach es env:=rfl
def CP{a b c}:starEach (.Attribute a b c::es) env=(false,eval (.Attribute a b c) env)::starEach es env:=rfl
def xE:(backTo pos<|starEach [] env).any (·.1)=false:=rfl
def oI{e:Ud}(hs:starEach (e::es) env=(false,eval e env)::starEach es env)(h:(backTo pos<|starEach es env).any (·.1)=false):(backTo pos<|starEach (e::es) env).any (·.1)=false:=by
 rw[hs];have a:backTo pos ((false,eval e env)::starEach es env)=(false,(do let v <- eval e env;standAt pos;pure v:Sem Tz))::backTo pos (starEach es env)\/(backTo pos ((false,eval e env)::starEach es env)).any (·.1)=(backTo pos<|starEach es env).any (·.1):=.inr rfl;rcases a with q|q
 .rw[q,U5,h];rfl
 .rw[q];exact h
end
section
variable{P:Ue}{w:World}{K:Fg}{mg:Str->Tg}
def Fun.okM{base:Heap}{x:Str}{st:Stmt}{N ps:Tc}{k:Nat}{b:SF}{f:Uc}{fd:FuncData}(F:Fun K x x st f fd)(S:aV N ps (aH st))
 (c:∀(f:Uc)(cdv:Tz)(A:Uf)(outer:Tw Env)(s:Ub)(H:Hp)(E:XK),cK k (A.deeper<|envOfC x (aH st) s.heap.objs.size f cdv)->
  ∃t,PSs (mP CX0 P w K mg base N x (aH st) f cdv A outer s H E).nox (bU st) t/\SS K t b):iI P w K mg base CX0 (k+1) f fd ps (spM K (fnF ps.length N.length b)):=by
 have len:∀vs H Q E,spM K (fnF ps.length N.length b) vs H Q E->vs.length=ps.length:=fun vs H Q E h=>by
  obtain⟨xs,M,W,y,M',G,R,a,_⟩:=h;by_cases d:xs.length=ps.length
  .rw[<- Paired.len R];exact d
  .unfold fnF at a;rw[B0 d]at a;cases a
 refine F.ok S len fun cdv A outer s H vs Q E l h=>?_;obtain⟨t,m,hS⟩:=c f cdv A outer s H E l;refine⟨t,m,?_⟩;obtain⟨xs,M,W,y,M',G,R,a,k⟩:=h;by_cases d:xs.length=ps.length
 .unfold fnF at a;rw[A4 d]at a;obtain⟨⟨o,M1⟩,n,a⟩:=aJ a
  have p:dC K W (xs.map Z++List.replicate (N.length-xs.length) Y) (start N vs):=by
   unfold start;rw[<- Paired.len R];exact Paired.app (cS.some R)<|rY _
  refine hS _ _ _ _ n W H _ _ G p fun e g i j=>?_;cases o with
  |rt x=>cases a;exact fun v r=>k v e g i j r
  |nx γ=>cases a;exact fun q r=>k .non e g i j rfl
  |bk γ=>cases a
  |ct γ=>cases a
 .unfold fnF at a;rw[B0 d]at a;cases a
def Def.okL{p:Str}{st:Stmt}{F:FN}(D:Def K mg x st)(S:aV N [p] (aH st))(c:F=fnF 1 N.length b)
 (d:∀(kV doc pm:Tz)(an:Ti)(cdv ct:Tz)(us:T6),us.length=[p].length->bindArgs (PySem.W.fnOf x x (dQ st) (bU st) (aH st) .none kV doc pm an cdv ct) ⟨us,[]⟩=pure ([p].zip us))
 (a:∀(base:Heap)(f:Uc)(cdv:Tz)(A:Uf)(outer:Tw Env)(s:Ub)(H:Hp)(E:XK),cK k (A.deeper<|envOfC x (aH st) s.heap.objs.size f cdv)->
  ∃t,PSs (mP CX0 P w K mg base N x (aH st) f cdv A outer s H E).nox (bU st) t/\SS K t b):
 ∃f fd,mg x=Z (.ref f)/\(∀(s:Ub)(u:Tz),BindsTo s fd ⟨[u],[]⟩ [(p,u)])/\∀base,iI P w K mg base CX0 (k+1) f fd [p] (spM K F):=by
 subst c;obtain⟨f,fd,Fu,m⟩:=D.ex;refine⟨f,fd,m,fun s u=>?_,fun base=>Fu.okM S<|a base⟩;obtain⟨oc,od,kV,doc,pm,an,cdv,ct,osl,rfl,g,e⟩:=Fu.ex;exact .of_eq (d kV doc pm an cdv ct [u] rfl)
theorem LN{H:Hp}:∀ns:T8,aQ K H (ns.map .int) (ns.map V.int)
 |[]=>rfl
 |n::ns=>⟨.int n,ns.map V.int,rfl,rfl,LN ns⟩
def aIH{F:FN}(b:∀ns:T8,ns.length<=63->∃M',F [.d (.list (ns.map .int))] []=Z (.d (.bool true),M')){ns:T8}(e:ns.length<=63)(hS:SqL K H a (ns.map V.int))(ht:TabsOk K H H)(E:XK):
 spM K F [.ref a] H (fun v _=>v=.bl true) E:=by
 obtain⟨M',h⟩:=b ns e;refine⟨[.d (.list (ns.map .int))],[],⟨H,fun _=>0,0⟩,_,M',⟨jN.refl H,rfl,fun i c h=>by simp at h,fun i j c c' h=>by simp at h,ht⟩,.cons (⟨a,ns.map V.int,rfl,hS,LN ns⟩) .nil,h,fun v W' H' _ _ r=>r⟩
def law_walk{l:PySem.W.OpenLaw}{YP:World->Heap->Prop}{d:DefRec}{K:Params->Fg}{F:FN}{p:Str}(i:PyProof.Rows.importsNone q=true)(hn:l.most=Z 63)(b:d.params.defaults=[])(j:cK k callerA)
 (n:∀(w:World)(h:Heap),YP w h->(K w.params).In h)
 (hT:∀(w:World)(mg:Str->Tg)(h:Heap),(K w.params).In h->h.Ns mainGlobals mg->∃f fd,mg d.name=Z (.ref f)/\(∀(s:Ub)(u:Tz),BindsTo s fd ⟨[u],[]⟩ [(p,u)])/\∀base,iI l.prog w (K w.params) mg base CX0 k f fd [p]<|spM (K w.params) F)
 (o:∀ns:T8,ns.length<=63->∃M',F [.d (.list (ns.map .int))] []=Z (.d (.bool true),M')) (ht:∀w:World,aCW (K w.params)=[]):
 PySem.W.WalkO q loose XP YP l.row.toRowW d [] (fun f vs=>PySem.call f vs):=
 L2.walk_of i hn (by decide) b j n
  (fun w mg y h KX G c=>by
   obtain⟨f,fd,m,r,t⟩:=hT w mg h KX G;have e:=m.symm.trans c;cases e;exact⟨fd,r,fun base _ _=>t base⟩)
  (fun w H a ns v _ hS=>aIH o v hS (fun x g=>by rw[ht w]at g;cases g) _) fun _ _ _ _ _ z=>z
end
def aCR(e:Ud)(es:T9):Prop:=∀env:Env,starEach (e::es) env=(false,eval e env)::starEach es env
def NL:T9->Prop
 |[]=>True
 |e::es=>aCR e es/\NL es
def NL.plain:∀{es:T9},NL es->∀(env:Env)(pos:Pos),(backTo pos<|starEach es env).any (·.1)=false
 |[]=>fun _ _ _=>rfl
 |_::_=>fun h env pos=>oI (h.1 env)<|h.2.plain env pos
section
variable{ι:Type}
structure ME(K:Fg)(X:ι->Cx)(e:Ud)(f:EF):Prop where
 ex:∃t,(∀i,PE (X i) e t)/\SE K t f
structure MT(K:Fg)(X:ι->Cx)(e:Ud)(f:TF):Prop where
 ex:∃t,(∀i,PT (X i) e t)/\STt K t f
structure MW(K:Fg)(X:ι->Cx)(e:Ud)(f:TF):Prop where
 ex:∃t,(∀i,PW (X i) e t)/\STt K t f
structure MA(K:Fg)(X:ι->Cx)(es:T9)(f:AF):Prop where
 ex:∃t,(∀i,PA (X i) es t)/\SA K t f
 st:NL es
structure MG(K:Fg)(X:ι->Cx)(e:Ud)(f:GF):Prop where
 ex:∃t,(∀i,PG (X i) e t)/\SG K t f
structure MGs(K:Fg)(X:ι->Cx)(es:T9)(f:GsF):Prop where
 ex:∃t,(∀i,PGs (X i) es t)/\SGs K t f
structure MI(K:Fg)(X:ι->Cx)(tg e:Ud)(f:AF):Prop where
 ex:∃t,(∀i,PI (X i) tg e t)/\SI K t f
structure MF(K:Fg)(X:ι->Cx)(es:T9)(f:TF):Prop where
 ex:∃t,(∀i,LK (X i) es t)/\STt K t f
structure MS(K:Fg)(X:ι->Cx)(st:Stmt)(f:SF):Prop where
 ex:∃t,(∀i,PS (X i) st t)/\SS K t f
structure ML(K:Fg)(X:ι->Cx)(st:Ta)(f:SF):Prop where
 ex:∃t,(∀i,PSs (X i) st t)/\SS K t f
structure Q2(K:Fg)(X:ι->Cx)(o:To)(h:F2):Prop where
 ex:∃r,(∀i,OpR (X i) o r)/\P2 K r h
structure Q1(K:Fg)(X:ι->Cx)(o:Tz->Sem Tz)(h:F1):Prop where
 ex:∃r,(∀i,UnR (X i) o r)/\P1 K r h
structure QN(K:Fg)(X:ι->Cx)(f:Tz)(h:FN):Prop where
 ex:∃r,(∀i,eX (X i) f r)/\PN K r h
structure QI(K:Fg)(X:ι->Cx)(h:F2):Prop where
 ex:∃r,(∀i,IxR (X i) r)/\P2 K r h
structure QS(K:Fg)(X:ι->Cx)(h:F3):Prop where
 ex:∃r,(∀i,aJw (X i) r)/\P3 K r h
variable{K:Fg}{X:ι->Cx}{a b c e:Ud}{es:T9}{f g h:EF}{ft gt:TF}{fa:AF}{pos:Pos}
def aC(i:Nat){x:Str}(k:∀j,(X j).N[i]?=Z x:=by intro _;rfl)(l:∀j,Vis (X j).env.scope x:=by intro _;first|exact Or.inl rfl|exact Or.inr (Or.inl rfl)|exact Or.inr<|Or.inr rfl)(hd:(x==("__debug__":Str))=false:=by decide)(d:(x==("__classdict__":Str))=false:=by decide):
 ME K X (.Name x pos) (aD i):=⟨_,fun j=>aIC (k j) (l j) hd d,aIl⟩
def aE:ME K X (.Constant (.int i) j pos) (fC (.int i)):=⟨_,fun _=>aKg,aAN⟩
def vO:ME K X (.Constant (.bool i) j pos) (fC (.bool i)):=⟨_,fun _=>aLu,aMl⟩
def fF:ME K X (.Constant .none j pos) (fC .none):=⟨_,fun _=>aJn,aHJ⟩
def aN:ME K X (.Constant (.str i) j pos) (fC (.str i)):=⟨_,fun _=>aIV,aBg⟩
def kW(hm:∀i,∃t:Tok,(X i).mg x=Z (.int n t))(d:∀i,Gl (X i) x:=by intro _;rfl)(hd:(x==("__debug__":Str))=false:=by decide):ME K X (.Name x pos) (fC (.int n)):=
 ⟨_,fun i=>zU (v:=.int n) (d i) (hm i).choose_spec ⟨_,rfl⟩ hd,aAN⟩
def aP(q:Q2 K X (binaryOp op) k)(x:ME K X a f)(y:ME K X b g):ME K X (.BinOp a op b pos) (fOp k f g):=by
 obtain⟨r,d,j⟩:=q.ex;obtain⟨t,x1,l⟩:=x.ex;obtain⟨u,m,n⟩:=y.ex;exact⟨_,fun i=>aKC (d i) (x1 i)<|m i,UB j l n⟩
def aLQ(q:Q1 K X (unaryOp op) k)(x:ME K X a f):ME K X (.UnaryOp op a pos) (fUn k f):=by
 obtain⟨r,d,j⟩:=q.ex;obtain⟨t,x1,l⟩:=x.ex;exact⟨_,fun i=>aLR (d i)<|x1 i,aLo j l⟩
def iW{rest:T9}(x:ME K X a f)(y:ME K X (.BoolOp .And (b::rest) pos) g):ME K X (.BoolOp .And (a::b::rest) pos) (pT f g):=by
 obtain⟨t,x1,d⟩:=x.ex;obtain⟨u,j,k⟩:=y.ex;exact⟨_,fun i=>aHr (x1 i)<|j i,aHG d k⟩
def nD(x:ME K X a f):ME K X (.BoolOp op [a] pos) f:=by
 obtain⟨t,x1,d⟩:=x.ex;exact⟨_,fun i=>aIq<|x1 i,d⟩
def aJi(x:ME K X a f):ME K X (.UnaryOp .Not a pos) (aFz f):=by
 obtain⟨t,x1,d⟩:=x.ex;exact⟨_,fun i=>aJN<|x1 i,aIU d⟩
def lD(q:Q2 K X (compareOp op) k)(x:ME K X a f)(y:ME K X b g)(hm:behindInMarks op b=false:=by rfl):ME K X (.Compare a [op] [b] pos) (fOp k f g):=by
 obtain⟨r,d,j⟩:=q.ex;obtain⟨t,x1,l⟩:=x.ex;obtain⟨u,m,n⟩:=y.ex;exact⟨_,fun i=>aFQ (d i) (x1 i) (m i) hm,UB j l n⟩
def aDf(q:Q2 K X (compareOp op) k)(m:Q2 K X (compareOp d) k')(x:ME K X a f)(y:ME K X b g)(z:ME K X c h)(hm:lastMarks [op,d] [b,c]=false:=by with_unfolding_all rfl):ME K X (.Compare a [op,d] [b,c] pos) (pC k k' f g h):=by
 obtain⟨r,n,o⟩:=q.ex;obtain⟨B,j,l⟩:=m.ex;obtain⟨t,x1,p⟩:=x.ex;obtain⟨u,s,w⟩:=y.ex;obtain⟨v,z1,A⟩:=z.ex;exact⟨_,fun i=>aCr (n i) (j i) (x1 i) (s i) (z1 i) hm,OH o l p w A⟩
def CJ(x:MT K X c ft)(y:ME K X a f)(z:ME K X b g):ME K X (.IfExp c a b pos) (fIf ft f g):=by
 obtain⟨t,x1,d⟩:=x.ex;obtain⟨u,j,k⟩:=y.ex;obtain⟨v,z1,l⟩:=z.ex;exact⟨_,fun i=>aBI (x1 i) (j i)<|z1 i,aLj d k l⟩
def aF:MA K X [] aG:=⟨⟨_,fun _=>CK,aHx⟩,trivial⟩
def aA(x:ME K X e f)(y:MA K X es fa)(hs:aCR e es:=by intro _;rfl):MA K X (e::es) (aB f fa):=by
 obtain⟨t,x1,d⟩:=x.ex;obtain⟨u,j,k⟩:=y.ex;exact⟨⟨_,fun i=>kH (x1 i) (j i)<|hs _,aFf d k⟩,hs,y.st⟩
def dW(x:MA K X es fa):ME K X (.Tuple es k pos) (iC fa):=by
 obtain⟨t,x1,d⟩:=x.ex;exact⟨_,fun i=>QC<|x1 i,aIO d⟩
def cG(x:MA K X es fa):ME K X (.List es pos) (cA fa):=by
 obtain⟨t,x1,d⟩:=x.ex;exact⟨_,fun i=>aDn<|x1 i,aHu d⟩
def uL(x:MA K X es fa):ME K X (.List es pos) (kR fa):=by
 obtain⟨t,x1,d⟩:=x.ex;exact⟨_,fun i=>aDn<|x1 i,aKa d⟩
def bP(q:QI K X k)(x:ME K X a f)(y:ME K X b g)(hs:VF b:=by intro _ _;rfl):ME K X (.Subscript a b pos) (fOp k f g):=by
 obtain⟨r,d,j⟩:=q.ex;obtain⟨t,x1,l⟩:=x.ex;obtain⟨u,m,n⟩:=y.ex;exact⟨_,fun i=>aLh (d i) (x1 i) (m i) hs,UB j l n⟩
def aR{F:FN}(C:∀i,Callee (X i).prog (X i).w (X i).K (X i).mg (X i).base k x ps (spM K F) q)(d:∀i,cK k (X i).A q)(y:MA K X (e::es) fa)(j:∀i,Gl (X i) x:=by intro _;rfl)(hd:(x==("__debug__":Str))=false:=by decide):
 ME K X (.Call (.Name x p) (e::es) [] pos) (aL F fa):=by
 obtain⟨u,l,m⟩:=y.ex;exact⟨_,fun i=>aKv (C i) (d i) (l i) (j i) hd (y.st.1 _)<|y.st.2.plain _ _,aFG m⟩
def eP{id:String}{F:FN}(q:QN K X (.builtin id) F)(hm:∀i,(X i).mg x=Y)(d:bootBuiltins x=Z (.builtin id))(y:MA K X (e::es) fa)(j:∀i,Gl (X i) x:=by intro _;rfl)(hn:x≠"__name__":=by decide)(hd:(x==("__debug__":Str))=false:=by decide):
 ME K X (.Call (.Name x p) (e::es) [] pos) (aL F fa):=by
 obtain⟨r,k,l⟩:=q.ex;obtain⟨u,m,n⟩:=y.ex;exact⟨_,fun i=>wH (k i) (j i) (hm i) d (m i) hn hd (y.st.1 _)<|y.st.2.plain _ _,aHb l n⟩
def dX{id:String}{F:FN}(q:QN K X (.type id) F)(hm:∀i,(X i).mg x=Y)(d:bootBuiltins x=Z (.type id))(y:MA K X (e::es) fa)(j:∀i,Gl (X i) x:=by intro _;rfl)(hn:x≠"__name__":=by decide)(hd:(x==("__debug__":Str))=false:=by decide):
 ME K X (.Call (.Name x p) (e::es) [] pos) (aL F fa):=by
 obtain⟨r,k,l⟩:=q.ex;obtain⟨u,m,n⟩:=y.ex;exact⟨_,fun i=>ZM (k i) (j i) (hm i) d (m i) hn hd (y.st.1 _)<|y.st.2.plain _ _,aHb l n⟩
def QM{T:String}{p:Pos}(l:∀i,(X i).K=K)(hT:T∈asked)(x:ME K X a f)(hs:aCR a [.Name y k])(hm:∀i,(X i).mg "isinstance"=Y)(d:∀i,(X i).mg y=Y)(m:bootBuiltins y=Z (.type T))(n:∀i,Gl (X i) "isinstance":=by intro _;rfl)(j:∀i,Gl (X i) y:=by intro _;rfl)
 (hn:y≠"__name__":=by decide) (hd:(y==("__debug__":Str))=false:=by decide):ME K X (.Call (.Name "isinstance" p) [a,.Name y k] [] pos) (OT T f):=by
 obtain⟨t,x1,o⟩:=x.ex;refine⟨_,fun i=>wH (aMq<|l i) (n i) (hm i) boot_isinstance (kH (x1 i) (kH (zQ (v:=.ty T) (j i) (d i) m rfl hn hd) CK dY)<|hs _) (by decide) (by decide) (hs _)<|oI dY xE,aIZ hT o⟩
def aFU{T U:String}{p:Pos}{k:Nat}(w:∀i,(X i).K=K)(hT:T∈asked)(A:U∈asked)(x:ME K X a f)(hs:aCR a [.Tuple [.Name y s,.Name z d] k u])(hm:∀i,(X i).mg "isinstance"=Y)(j:∀i,(X i).mg y=Y)(l:∀i,(X i).mg z=Y)
 (B:bootBuiltins y=Z (.type T)) (m:bootBuiltins z=Z (.type U)) (C:∀i,Gl (X i) "isinstance":=by intro _;rfl) (n:∀i,Gl (X i) y:=by intro _;rfl) (o:∀i,Gl (X i) z:=by intro _;rfl)
 (hn:y≠"__name__":=by decide) (hd:(y==("__debug__":Str))=false:=by decide) (q:z≠"__name__":=by decide) (r:(z==("__debug__":Str))=false:=by decide):ME K X (.Call (.Name "isinstance" p) [a,.Tuple [.Name y s,.Name z d] k u] [] pos) (SX T U f):=by
 obtain⟨t,x1,D⟩:=x.ex;refine⟨_,fun i=>wH (aLH<|w i) (C i) (hm i) boot_isinstance (kH (x1 i) (kH (QC<|kH (zQ (v:=.ty T) (n i) (j i) B rfl hn hd) (kH (zQ (v:=.ty U) (o i) (l i) m rfl q r) CK dY) dY) CK BH)<|hs _) (by decide) (by decide) (hs _)<|oI BH xE,aEZ hT A D⟩
def kO(x:MT K X a ft):MT K X (.UnaryOp .Not a pos) (kX ft):=by
 obtain⟨t,x1,d⟩:=x.ex;exact⟨_,fun i=>aIe<|x1 i,aJr d⟩
def AK{rest:T9}(x:MT K X a ft)(y:MW K X (.BoolOp .And (b::rest) pos) gt):MW K X (.BoolOp .And (a::b::rest) pos) (sV ft gt):=by
 obtain⟨t,x1,d⟩:=x.ex;obtain⟨u,j,k⟩:=y.ex;exact⟨_,fun i=>aIJ (x1 i)<|j i,aKh d k⟩
def zZ(x:MT K X a ft):MW K X (.BoolOp .And [a] pos) ft:=by
 obtain⟨t,x1,d⟩:=x.ex;exact⟨_,fun i=>aFw<|x1 i,d⟩
def vV{rest:T9}(x:MT K X a ft)(y:MW K X (.BoolOp .Or (b::rest) pos) gt):MW K X (.BoolOp .Or (a::b::rest) pos) (gOr ft gt):=by
 obtain⟨t,x1,d⟩:=x.ex;obtain⟨u,j,k⟩:=y.ex;exact⟨_,fun i=>aLv (x1 i)<|j i,aKX d k⟩
def uJ(x:MT K X a ft):MW K X (.BoolOp .Or [a] pos) ft:=by
 obtain⟨t,x1,d⟩:=x.ex;exact⟨_,fun i=>aIN<|x1 i,d⟩
def CW(x:MW K X a ft):MT K X a ft:=by
 obtain⟨t,x1,d⟩:=x.ex;exact⟨_,fun i=>(x1 i).pt,d⟩
def cR(q:Q2 K X (compareOp op) k)(x:ME K X a f)(y:ME K X b g)(hm:behindInMarks op b=false:=by rfl):MT K X (.Compare a [op] [b] pos) (gB<|fOp k f g):=by
 obtain⟨r,d,j⟩:=q.ex;obtain⟨t,x1,l⟩:=x.ex;obtain⟨u,m,n⟩:=y.ex;exact⟨_,fun i=>aEQ (d i) (x1 i) (m i) hm,UG<|UB j l n⟩
def NI(q:Q2 K X (compareOp op) k)(m:Q2 K X (compareOp d) k')(x:ME K X a f)(y:ME K X b g)(z:ME K X c h)(hm:lastMarks [op,d] [b,c]=false:=by with_unfolding_all rfl):MT K X (.Compare a [op,d] [b,c] pos) (gB<|pC k k' f g h):=by
 obtain⟨r,n,o⟩:=q.ex;obtain⟨B,j,l⟩:=m.ex;obtain⟨t,x1,p⟩:=x.ex;obtain⟨u,s,w⟩:=y.ex;obtain⟨v,z1,A⟩:=z.ex;exact⟨_,fun i=>aCF (n i) (j i) (x1 i) (s i) (z1 i) hm,UG<|OH o l p w A⟩
def jW(x:ME K X a f)(j:∀(env:Env)(d:Sem Tz),isTrue a env d=(do let v <- d;standAt a.pos;holding [v]<|truthy v):=by intro _ _;rfl):MT K X a (gB f):=by
 obtain⟨t,x1,k⟩:=x.ex;exact⟨_,fun i=>aJG (x1 i)<|j _,aHA k⟩
def QK(j:∀i,(X i).K=K)(x:ME K X a f)(k:∀(env:Env)(d:Sem Tz),isTrue a env d=(do let v <- d;standAt a.pos;holding [v]<|truthy v):=by intro _ _;rfl):MT K X a (HL f):=by
 obtain⟨t,x1,l⟩:=x.ex;exact⟨_,fun i=>VQ (j i) (x1 i)<|k _,aFt l⟩
def wB{p:Pos}(hm:∀i,(X i).mg "range"=Y)(x:MA K X [a] fa)(d:∀i,Gl (X i) "range":=by intro _;rfl):MI K X tg (.Call (.Name "range" p) [a] [] pos) (iU fa):=by
 obtain⟨t,x1,j⟩:=x.ex;exact⟨_,fun i=>aAc (d i) (hm i) (x1 i)<|x.st.1 _,aEk j⟩
def dS(d:∀i,(X i).K=K)(x:ME K X a f):MI K X tg a (bD f):=by
 obtain⟨t,x1,j⟩:=x.ex;exact⟨_,fun i=>aFT (d i)<|x1 i,aIk j⟩
def aZ(i:Nat){x:Str}(d:∀j,(X j).N.Nodup)(hi:∀j,(X j).N[i]?=Z x:=by intro _;rfl)(k:∀j,Loc (X j).env.scope x:=by intro _;first|exact Or.inl rfl|exact Or.inr rfl)(l:∀j,(X j).fn x=true\/(X j).env.scope.names.lookup x=Z .local:=by intro _;first|exact .inl rfl|exact .inr rfl):
 MG K X (.Name x pos) (hName i):=⟨_,fun j=>aGy (d j) (hi j) (k j)<|l j,JF⟩
def eY:MGs K X [] gU:=⟨_,fun _=>aFH,aFy⟩
def bL(x:MG K X e d)(y:MGs K X es gs)(hs:∀env:Env,(assignEach (e::es) env).map (·.2)=assign e env::(assignEach es env).map (·.2):=by intro _;rfl):MGs K X (e::es) (bK d gs):=by
 obtain⟨t,x1,j⟩:=x.ex;obtain⟨u,k,l⟩:=y.ex;exact⟨_,fun i=>aDE (x1 i) (k i)<|hs _,aBm j l⟩
def iF{n:Nat}(j:∀i,(X i).K=K)(l:∀i,(X i).calm=true)(x:MGs K X es gs)(hn:∀env:Env,(assignEach es env).length=n:=by intro _;rfl)(d:∀env:Env,(assignEach es env).findIdx? (·.1)=Y:=by intro _;rfl):MG K X (.Tuple es k pos) (gS n gs):=by
 obtain⟨t,x1,m⟩:=x.ex;exact⟨_,fun i=>aDZ (j i) (l i) (x1 i) (hn _)<|d _,aIi m⟩
def aBC(q:QS K X s)(x:ME K X a f)(y:ME K X b g) (hs:∀(env:Env)(v:Tz),assign (.Subscript a b pos) env v=(do
 let ov <- holding [v] (eval a env);let d <- holding [v,ov] (eval b env)
 standAt pos
 holding [v,ov,d] (setItem ov d v)
 release [v,ov,d] []):=by intro _ _;rfl):MG K X (.Subscript a b pos) (hSub f g s):=by
 obtain⟨r,j,k⟩:=q.ex;obtain⟨t,x1,l⟩:=x.ex;obtain⟨u,m,n⟩:=y.ex;exact⟨_,fun i=>aHo (x1 i) (m i) (j i)<|hs _,aJc k l n⟩
def gT:MF K X [] eU:=⟨_,fun _=>aCY,aJm⟩
def SD(x:MT K X c ft):MF K X [c] ft:=by
 obtain⟨t,x1,d⟩:=x.ex;exact⟨_,fun i=>aDJ<|x1 i,d⟩
abbrev LcI(ι:Type):Type:=ι×Uc×Ub×Hp×Tb×T2
def tT(X:ι->Cx)(N':Tc)(scope:Scope):LcI ι->Cx:=fun j=>eF (X j.1) N' scope j.2.1 j.2.2.1 j.2.2.2.1 j.2.2.2.2.1 j.2.2.2.2.2
variable{N':Tc}{cap:T3}{scope:Scope}{tg iter elt:Ud}{ifs:T9}{gf:GF}
def vW(i:Nat){l:Str}{d:Pos}(p:∀j,(X j).N.Nodup)(q:∀i,(X i).calm=true)(S:∀i,rG (X i) N' cap scope)(x:MI K X tg iter fa)(y:MG K (tT X N' scope) tg gf)(z:MF K (tT X N' scope) ifs ft)(w:ME K (tT X N' scope) elt f)
 (m:∀j,(X j).N[i]?=Z l:=by intro _;rfl) (n:∀j,swapsWith (.ListComp elt [⟨tg,iter,ifs,0⟩] scope pos) (Z (.Name l k)) d.line (X j).env=pure true:=by intro _;rfl) (r:∀j,(X j).env.scope.names.lookup l=Z .local:=by intro _;rfl) (hs:∀(env:Env)(x:Tz),foldedSetIterable iter env x=pure x:=by intro _ _;rfl):
 MS K X (.Assign [.Name l k] (.ListComp elt [⟨tg,iter,ifs,0⟩] scope pos) d) (aY (fLc cap fa gf ft f)<|hName i):=by
 obtain⟨t,x1,A⟩:=x.ex;obtain⟨u,B,D⟩:=y.ex;obtain⟨v,z1,E⟩:=z.ex;obtain⟨o,G,I⟩:=w.ex;exact⟨_,fun j=>aAp (p j) (m j) (q j) (S j) (x1 j) (fun C s H fp pn=>B (j,C,s,H,fp,pn)) (fun C s H fp pn=>z1 (j,C,s,H,fp,pn)) (fun C s H fp pn=>G (j,C,s,H,fp,pn)) (n j) (r j)<|hs _,RG (aGC A D E I) JF⟩
variable{st:Stmt}{sts:Ta}{sf sg:SF}
def dO:ML K X [] cN:=⟨_,fun _=>aEw,aDY⟩
def aW(x:MS K X st sf):ML K X [st] sf:=by
 obtain⟨t,x1,d⟩:=x.ex;exact⟨_,fun i=>UD<|x1 i,d⟩
def aM(x:MS K X st sf)(y:ML K X sts sg):ML K X (st::sts) (bC sf sg):=by
 obtain⟨t,x1,d⟩:=x.ex;obtain⟨u,j,k⟩:=y.ex;exact⟨_,fun i=>KZ (x1 i)<|j i,aJJ d k⟩
def bJ(x:ME K X e f):MS K X (.Return (Z e) pos) (bT f):=by
 obtain⟨t,x1,d⟩:=x.ex;exact⟨_,fun i=>aBd<|x1 i,aHv d⟩
def JG:SF:=fun _ _=>Y
def DA:MS K X st JG:=⟨aAM,fun _=>aAG,fun _ _ _ _ h=>by cases h⟩
def vF(x:ME K X e f)(hs:∀i,swapsWith e Y pos.line (X i).env=pure false:=by intro _;rfl):MS K X (.Expr e pos) (lQ f):=by
 obtain⟨t,x1,d⟩:=x.ex;exact⟨_,fun i=>VG (x1 i)<|hs i,aEi d⟩
def jR(x:MT K X c ft)(y:ML K X sts sf)(z:ML K X d sg):MS K X (.If c sts d pos) (sIf ft sf sg):=by
 obtain⟨t,x1,j⟩:=x.ex;obtain⟨u,k,l⟩:=y.ex;obtain⟨v,z1,m⟩:=z.ex;exact⟨_,fun i=>aHi (x1 i) (k i)<|z1 i,aKR j l m⟩
def MU(hp:∀i,PassesOwn (model (X i).prog (X i).w) (X i).A (X i).env (X i).xe)(x:MT K X c ft)(y:ML K X sts sf):MS K X (.While c sts [] pos) (uS ft sf):=by
 obtain⟨t,x1,d⟩:=x.ex;obtain⟨u,j,k⟩:=y.ex;exact⟨_,fun i=>aDd (hp i) (x1 i)<|j i,aCa d k⟩
def pM(hp:∀i,PassesOwn (model (X i).prog (X i).w) (X i).A (X i).env (X i).xe)(d:∀i,(X i).calm=true)(x:MI K X tg iter fa)(y:MG K X tg gf)(z:ML K X sts sf)(hs:∀(env:Env)(x:Tz),foldedSetIterable iter env x=pure x:=by intro _ _;rfl):MS K X (.For tg iter sts [] pos) (rS fa gf sf):=by
 obtain⟨t,x1,j⟩:=x.ex;obtain⟨u,k,l⟩:=y.ex;obtain⟨v,z1,m⟩:=z.ex;exact⟨_,fun i=>aBV (hp i) (d i) (x1 i) (k i) (z1 i)<|hs _,aKm j l m⟩
def bB(i:Nat){k:Str}(l:∀j,(X j).N.Nodup)(x:ME K X e f)(hi:∀j,(X j).N[i]?=Z k:=by intro _;rfl)(m:∀j,Loc (X j).env.scope k:=by intro _;first|exact Or.inl rfl|exact Or.inr rfl)(hs:∀j,swapsWith e (Z (.Name k d)) pos.line (X j).env=pure false:=by intro _;rfl)
 (n:∀j,(X j).fn k=true\/(X j).env.scope.names.lookup k=Z .local:=by intro _;first|exact .inl rfl|exact .inr rfl):MS K X (.Assign [.Name k d] e pos) (aY f<|hName i):=by
 obtain⟨t,x1,o⟩:=x.ex;exact⟨_,fun j=>aKc (l j) (hi j) (m j) (x1 j) (hs j)<|n j,RG o JF⟩
def RO(i j:Nat){l m:Str}{p k2:Nat}(r:∀j,(X j).calm=true)(s:∀j,(X j).N.Nodup)(x:MA K X [a,b] fa)(q:i≠j:=by decide)(hi:∀k,(X k).N[i]?=Z l:=by intro _;rfl)(u:∀k,(X k).N[j]?=Z m:=by intro _;rfl)(v:∀k,(X k).env.scope.names.lookup l=Z .local:=by intro _;rfl)(w:∀k,(X k).env.scope.names.lookup m=Z .local:=by intro _;rfl)
 (y:∀k,swappedStores [.Tuple [.Name l n,.Name m o] p pt] (.Tuple [a,b] k2 d) (X k).env=pure (Z [l,m]):=by intro _;rfl) (z:∀k,swapsWithSole [.Tuple [.Name l n,.Name m o] p pt] (.Tuple [a,b] k2 d) pos.line (X k).env=pure false:=by intro _;rfl):
 MS K X (.Assign [.Tuple [.Name l n,.Name m o] p pt] (.Tuple [a,b] k2 d) pos) (EZ i j fa):=by
 obtain⟨t,x1,A⟩:=x.ex;exact⟨_,fun k=>aIR (r k) (s k) (hi k) (u k) q (v k) (w k) (x1 k) (y k)<|z k,aIb A⟩
def qF(x:ME K X e f)(y:MG K X tg gf)(d:∀k,swapsWithSole [tg] e pos.line (X k).env=pure false:=by intro _;rfl)(i:∀k,swappedStores [tg] e (X k).env=pure Y:=by intro _;rfl)(j:∀env:Env,(assignEach [tg] env).map (·.2)=[assign tg env]:=by intro _;rfl):MS K X (.Assign [tg] e pos) (aY f gf):=by
 obtain⟨t,x1,l⟩:=x.ex;obtain⟨u,m,n⟩:=y.ex;exact⟨_,fun k=>aIL (x1 k) (m k) (d k) (i k)<|j _,RG l n⟩
def dH(d:∀i,(X i).K=K:=by intro _;rfl):Q2 K X (binaryOp .Add) bV:=⟨_,fun i=>aLl<|d i,SV⟩
def FR:Q2 K X (binaryOp .Sub) qZ:=⟨_,fun _=>aHC,aHI⟩
def GV:Q2 K X (binaryOp .Mult) vC:=⟨_,fun _=>op_mulA,aBw⟩
def fK:Q2 K X (binaryOp .FloorDiv) cD:=⟨_,fun _=>aCU,aFk⟩
def cV:Q2 K X (binaryOp .Mod) bO:=⟨_,fun _=>aHW,aKx⟩
def LH:Q2 K X (binaryOp .Pow) wU:=⟨_,fun _=>aJM,aKw⟩
def aLd:Q1 K X (unaryOp .USub) aGg:=⟨_,fun _=>aIs,aKb⟩
def aCe:Q2 K X (compareOp .Lt) ltI:=⟨_,fun _=>aLS,aLs⟩
def aDI:Q2 K X (compareOp .LtE) leI:=⟨_,fun _=>aKE,aMo⟩
def aLB:Q2 K X (compareOp .Gt) gtI:=⟨_,fun _=>aLf,aMi⟩
def aLW:Q2 K X (compareOp .GtE) geI:=⟨_,fun _=>aLn,aKW⟩
def DW(d:∀i,(X i).K=K)(j:∀i,(X i).A.units+64<cLine):Q2 K X (compareOp .Eq) (eqX false):=⟨_,fun i=>kEq (d i)<|j i,aAJ⟩
def wO(d:∀i,(X i).K=K)(j:∀i,(X i).A.units+64<cLine):Q2 K X (compareOp .NotEq) (eqX true):=⟨_,fun i=>kNe (d i)<|j i,aHB⟩
def aKO(d:∀i,(X i).K=K)(j:∀i,(X i).A.in1.units+64<cLine):Q2 K X (compareOp .In) (inD false):=⟨_,fun i=>kIn (d i)<|j i,aKG⟩
def cX(d:∀i,(X i).K=K:=by intro _;rfl):QI K X ixF:=⟨_,fun i=>kIx<|d i,aJH⟩
def AY(d:∀i,(X i).K=K:=by intro _;rfl):QN K X (.builtin "len") hV:=⟨_,fun i=>aMu<|d i,aDV⟩
def IB(d:∀i,(X i).K=K):QN K X (.type "tuple") jA:=⟨_,fun i=>aHV<|d i,YH⟩
def aMj(d:∀i,(X i).K=K)(j:∀i,(X i).calm=true):QN K X (.builtin "all") EM:=⟨_,fun i=>aMw (d i)<|j i,aFZ⟩
def aGF:QS K X IL:=⟨_,fun _=>set_list,aJv⟩
end
section
variable{P:Ue}{w:World}{K:Fg}{mg:Str->Tg}
def Def.okG{st:Stmt}{ps:Tc}{b:SF}{q:Bool}(D:Def K mg x st)(S:aV N ps (aH st))
 (c:∀(kV doc pm:Tz)(an:Ti)(cdv ct:Tz)(us:T6),us.length=ps.length->bindArgs (PySem.W.fnOf x x (dQ st) (bU st) (aH st) .none kV doc pm an cdv ct) ⟨us,[]⟩=pure (ps.zip us))
 (a:∀(f:Uc)(cdv:Tz)(A:Uf)(outer:Tw Env)(s:Ub)(H:Hp)(E:XK),cK k (A.deeper<|envOfC x (aH st) s.heap.objs.size f cdv) q->
  ML K (fun _:Unit=>(mP CX0 P w K mg base N x (aH st) f cdv A outer s H E q).nox) (bU st) b):Callee P w K mg base (k+1) x ps (spM K (fnF ps.length N.length b)) q:=
 D.okM S c fun f cdv A outer s H E d=>by
  obtain⟨t,e,g⟩:=(a f cdv A outer s H E d).ex;exact⟨t,e (),g⟩
def Def.okLG{p:Str}{st:Stmt}{F:FN}(D:Def K mg x st)(S:aV N [p] (aH st))(c:F=fnF 1 N.length b)
 (d:∀(kV doc pm:Tz)(an:Ti)(cdv ct:Tz)(us:T6),us.length=[p].length->bindArgs (PySem.W.fnOf x x (dQ st) (bU st) (aH st) .none kV doc pm an cdv ct) ⟨us,[]⟩=pure ([p].zip us))
 (a:∀(base:Heap)(f:Uc)(cdv:Tz)(A:Uf)(outer:Tw Env)(s:Ub)(H:Hp)(E:XK),cK k (A.deeper<|envOfC x (aH st) s.heap.objs.size f cdv)->
  ML K (fun _:Unit=>(mP CX0 P w K mg base N x (aH st) f cdv A outer s H E).nox) (bU st) b):
 ∃f fd,mg x=Z (.ref f)/\(∀(s:Ub)(u:Tz),BindsTo s fd ⟨[u],[]⟩ [(p,u)])/\∀base,iI P w K mg base CX0 (k+1) f fd [p] (spM K F):=
 D.okL S c d fun base f cdv A outer s H E e=>by
  obtain⟨t,g,h⟩:=(a base f cdv A outer s H E e).ex;exact⟨t,g (),h⟩
end
end L2
namespace HT
open PySem PyProof.Rows PySem.Spec
section
variable{prog:Ue}{w:World}{A:Uf}{E:T1}{s:Ub}
def getItem_tuple_whole{lo:Tl}{Q:T1}(ht:IsTup s.heap t items)(hs:s.heap.IsSliceOf sl vl e .none)(pl:IsPart vl lo)(g:IsPart e hi)
 (f:sIx items.size 0 lo=0/\sIx items.size items.size hi=items.size) (h:Q (.ref t) s):wpAny (model prog w) A (getItem (.ref t) (.ref sl)) Q E s:=by
 obtain⟨os,b,c,i⟩:=id hs;have d:s.TypeIs (.ref sl) "slice":=⟨os,b,c⟩;unfold getItem
 try with_reducible refine L5 ?_
 first|refine A0 (B1 ?_)|skip
 refine A0<|wpAny_sequenceKey ht.typeIs (by decide) ?_
 refine A0 (Y1 ht.typeIs U6
  (U2 U6 ht.typeIs entry_tuple_getitem ?_ (args_tuple_getitem _ _)))
 show wpAny _ _ (Builtin.Tuple.tupleItemsOf (.ref t) >>= _) _ _ s;refine A0<|tupleItemsOf_ ht ?_;refine A0<|wpAny_typeOf d ?_;refine A0<|nT hs pl g ?_
 have a:(((sIx items.size 0 lo:Nat):Int)==0&&(1:Int)==1&&(sIx items.size items.size hi-sIx items.size 0 lo)==items.size)=true:=by
  rw[f.1,f.2];simp
 show wpAny _ _ (if (((sIx items.size 0 lo:Nat):Int)==0&&(1:Int)==1&&(sIx items.size items.size hi-sIx items.size 0 lo)==items.size)=true then _ else _) _ _ s;rw[A4 a];refine A0 ?_;refine A0<|wpAny_typeOf ht.typeIs<|B1 ?_;exact A0<|wpAny_rule<|B1 ⟨_,rfl,B1 h⟩
end
end HT
namespace L2
variable{W:Wd}{H:Hp}{M:Sto}{apos cpos:Pos}
open PySem PySem.Spec PyProof.Rows
def aLY(K:Fg):V->Tl->Tl->Hp->VK->Prop:=fun x lo hi H Q=>∃a xs,x=.ref a/\SqT K H a xs/\(HT.sIx xs.length 0 lo=0/\HT.sIx xs.length xs.length hi=xs.length)/\Q (.ref a) H
def aBs:SlR X (aLY X.K):=by
 intro pins s f H x v vl g lo hi sl Q I c hs pl d h;obtain⟨a,xs,rfl,e,i,q⟩:=h;cases c;obtain⟨its,r,ht,j⟩:=I.tuple e;have b:its.toArray.size=xs.length:=by rw[F9];exact r.length.symm
 refine⟨"tuple",_,PyProof.Rows.slot_tuple_getitem.lookup,ht.typeIs,?_⟩;exact HT.getItem_tuple_whole ht hs pl d (by grind) ⟨.ref a,H,I,rfl,q⟩
def eN{a:Type}(xs:Tw a)(lo hi:Tl):Tw a:=(xs.drop<|HT.sIx xs.length 0 lo).take (HT.sIx xs.length xs.length hi-HT.sIx xs.length 0 lo)
abbrev OF:=Ga->Sto->Tx (Tl×Sto)
def bF:OF:=fun _ M=>Z (Y,M)
def asI:CD->Tl
 |.d (.int i)=>Z i
 |_=>Y
def bW(f:EF):OF:=fun a M=>(f a M).bind fun r=>(asI r.1).bind fun i=>Z (Z i,r.2)
def slF(x:CD)(lo hi:Tl)(M:Sto):Tx (CD×Sto):=match x with
 |.d (.list a)=>Z (.d (.list (eN a lo hi)),M)
 |.d (.tuple a)=>Z (.d (.tuple (eN a lo hi)),M)
 |.c i=>match M[i]? with
  |some (.lst xs)=>(iO<|eN xs lo hi).bind fun a=>Z (.d (.list a),M)
  |_=>Y
 |_=>Y
def fSl(f:EF)(l u:OF):EF:=fun a M=>(f a M).bind fun r=>(l a r.2).bind fun p=>(u a p.2).bind fun q=>slF r.1 p.1 q.1 q.2
def aCk(K:Fg):V->Tl->Tl->Hp->VK->Prop:=fun x lo hi H Q=>aLg K x lo hi H Q\/aLJ K x lo hi H Q\/aLY K x lo hi H Q
def kSl{X:Cx}{K:Fg}(h:X.K=K):SlR X (aCk K):=by subst h;exact sl_list.or<|sl_tup.or aBs
section
variable{K:Fg}
def SO(K:Fg)(t:TO)(f:OF):Prop:=∀a M b M',f a M=Z (b,M')->∀(W:Wd)(H:Hp)(c:St)(Q:Tl->Hp->Prop),Good K W M H->dC K W a c->(∀W' H',W.Ext W'->Good K W' M' H'->Q b H')->t c H Q
def aEY:SO K VU bF:=by
 intro b M x M' a W H c Q G R k;cases a;exact k W H (.refl _) G
def aKn{i:Int}(h:asI x=Z i):x=.d (.int i):=by
 cases x with
 |c n=>cases h
 |t n=>cases h
 |f n=>cases h
 |g _=>cases h
 |d x=>cases x<;>first|cases h;rfl|cases h
def aEg{c:TE}{f:EF}(a:SE K c f):SO K (aGO c) (bW f):=by
 intro p M x M' b W H d Q G R k;obtain⟨⟨y,M1⟩,e,b⟩:=aJ b;obtain⟨i,g,b⟩:=aJ b;cases b;refine a _ _ _ _ e W H d _ G R fun v h j l m n=>?_;have o:=aKn g;subst o;exact⟨i,n,k h j l m⟩
theorem aQ.drop{H:Hp}:∀{ds:T5}{vs:Td}(n:Nat),aQ K H ds vs->aQ K H (ds.drop n) (vs.drop n)
 |_,_,0=>fun h=>h
 |[],vs,n+1=>fun h=>by rw[show vs=[]from h];rfl
 |d::ds,vs,n+1=>fun h=>by
  obtain⟨v,r,rfl,_,a⟩:=h;exact aQ.drop n a
theorem aQ.take{H:Hp}:∀{ds:T5}{vs:Td}(n:Nat),aQ K H ds vs->aQ K H (ds.take n) (vs.take n)
 |_,_,0=>fun h=>rfl
 |[],vs,n+1=>fun h=>by rw[show vs=[]from h];rfl
 |d::ds,vs,n+1=>fun h=>by
  obtain⟨v,r,rfl,a,b⟩:=h;exact⟨v,r.take n,rfl,a,aQ.take n b⟩
def aQ.cut(h:aQ K H ds vs)(lo hi:Tl):aQ K H (eN ds lo hi) (IA vs lo hi):=by
 unfold eN IA;rw[h.length];exact(h.drop _).take _
theorem BC{a b:Type}{R:a->b->Prop}:∀{xs:Tw a}{ys:Tw b}(n:Nat),Paired R xs ys->Paired R (xs.drop n) (ys.drop n)
 |_,_,0,h=>h
 |_,_,_+1,.nil=>.nil
 |_,_,n+1,.cons _ t=>BC n t
theorem tY{a b:Type}{R:a->b->Prop}:∀{xs:Tw a}{ys:Tw b}(n:Nat),Paired R xs ys->Paired R (xs.take n) (ys.take n)
 |_,_,0,h=>.nil
 |_,_,_+1,.nil=>.nil
 |_,_,n+1,.cons r t=>.cons r (tY n t)
def GZ{xs:T7}{vs:Td}(h:cS K W xs vs)(lo hi:Tl):cS K W (eN xs lo hi) (IA vs lo hi):=by
 unfold eN IA;rw[Paired.len h];exact tY _<|BC _ h
def aBl{x:CD}{lo hi:Tl}{z:CD}{M':Sto}(h:slF x lo hi M=Z (z,M')){v:V}{Q:VK}(G:Good K W M H)(j:cM K W x v)(k:∀w W' H',W.Ext W'->Good K W' M' H'->cM K W' z w->Q w H'):aCk K v lo hi H Q:=by
 unfold slF at h;split at h
 .rename_i f;cases h;obtain⟨p,us,rfl,c,a⟩:=j;refine .inl ⟨p,us,rfl,G.fh.seq c,fun l d=>?_⟩;obtain⟨b,G2⟩:=G.lay d;exact k _ _ _ b G2 ⟨l,_,rfl,SqL.of aX,aQ.same b.ff _ _<|a.cut lo hi⟩
 .rename_i f;cases h;obtain⟨p,us,rfl,c,a⟩:=j;by_cases g:HT.sIx us.length 0 lo=0/\HT.sIx us.length us.length hi=us.length
  .refine .inr (.inr ⟨p,us,rfl,G.fh.seqT c,g,?_⟩)
   have e:eN f lo hi=f:=by
    unfold eN;rw[a.length,g.1,g.2,<- a.length];simp
   rw[e]at k;exact k _ W H (.refl _) G ⟨p,us,rfl,c,a⟩
  .refine .inr (.inl ⟨p,us,rfl,G.fh.seqT c,g,fun l d=>?_⟩);obtain⟨b,G2⟩:=G.lay d;exact k _ _ _ b G2 ⟨l,_,rfl,SqT.of aX,aQ.same b.ff _ _<|a.cut lo hi⟩
 .rename_i i;split at h
  .rename_i xs m;obtain⟨f,n,h⟩:=aJ h;cases h;obtain⟨us,o,a⟩:=G.lstAt m;rw[j.2];refine .inl ⟨_,us,rfl,SqL.of o,fun l d=>?_⟩;obtain⟨b,G2⟩:=G.lay d;exact k _ _ _ b G2 ⟨l,_,rfl,SqL.of aX,aQ.same b.ff _ _<|fU n<|GZ a lo hi⟩
  .cases h
 .cases h
def aLk{i:TE}{f:EF}{j m:TO}{l u:OF}(a:SE K i f)(b:SO K j l)(c:SO K m u):SE K (tSl (aCk K) i j m) (fSl f l u):=by
 intro N M x M' d W H e Q G R k;obtain⟨⟨y,M1⟩,o,d⟩:=aJ d;obtain⟨⟨p,M2⟩,r,d⟩:=aJ d;obtain⟨⟨q,O⟩,s,d⟩:=aJ d;refine a _ _ _ _ o W H e _ G R fun v t z g A B=>?_;refine b _ _ _ _ r t z e _ A (R.up g) fun C D h G2=>?_;refine c _ _ _ _ s C D e _ G2 (R.up<|g.trans h) fun P S n E=>?_;exact aBl d E (B.up<|h.trans n) fun w W4 F I J L=>k w W4 F (((g.trans h).trans n).trans I) J L
def intF:FN:=fun xs M=>match xs with
 |[.d (.int i)]=>Z (.d (.int i),M)
 |[.d (.bool b)]=>Z (.d (.int (if b then 1 else 0)),M)
 |_=>Y
noncomputable def tyB(T:String)(M:Sto):CD->Bool
 |.d (.list _)=>T=="list"
 |.d (.str _)=>T=="str"
 |.c i=>match M[i]? with
  |some (.lst _)=>T=="list"
  |some (.dk _)=>T=="dict"
  |some (.dt _)=>T=="dict"
  |_=>false
 |_=>false
def aAm(h:tyB T M x=true)(G:Good K W M H)(r:cM K W x v):tyV K T v H:=by
 unfold tyB at h;split at h
 .rename_i g;obtain⟨p,us,rfl,d,e⟩:=r;exact .inl ⟨eq_of_beq h,us,G.fh.seq d⟩
 .rename_i x;rw[show v=.str x from r];exact eq_of_beq h
 .rename_i i;rw[r.2];split at h
  .rename_i xs a;obtain⟨us,f,e⟩:=G.lstAt a;exact .inl ⟨eq_of_beq h,us,SqL.of f⟩
  .rename_i kvs a;obtain⟨_,o,b,c⟩:=G.cs i _ a (by simp);cases o with
   |dK us=>exact .inr (.inr (.inl ⟨eq_of_beq h,.inl ⟨us,b⟩⟩))
   |_=>exact False.elim c
  .rename_i kvs a;obtain⟨_,o,b,c⟩:=G.cs i _ a (by simp);cases o with
   |dT us=>exact .inr (.inr (.inl ⟨eq_of_beq h,.inr ⟨us,b⟩⟩))
   |_=>exact False.elim c
  .cases h
 .cases h
abbrev FM:=CD->T7->Sto->Tx (CD×Sto)
def bG(T:String)(h:FM)(f:EF)(fa:AF):EF:=fun a M=>(f a M).bind fun r=>if tyB T r.2 r.1=true then(fa a r.2).bind fun q=>h r.1 q.1 q.2 else Y
def PM(K:Fg)(r:V->Td->Hp->VK->Prop)(f:FM):Prop:=∀x xs M z M',f x xs M=Z (z,M')->∀(W:Wd)(H:Hp)(v:V)(vs:Td)(Q:VK),Good K W M H->cM K W x v->cS K W xs vs->(∀w W' H',W.Ext W'->Good K W' M' H'->cM K W' z w->Q w H')->r v vs H Q
def vY{T:String}{r:V->Td->Hp->VK->Prop}{h:FM}{d:TE}{f:EF}{e:TA}{fa:AF}(p:PM K r h)(a:SE K d f)(b:SA K e fa):SE K (tBM K T r d e) (bG T h f fa):=by
 intro F M x M' c W H g Q G R k;obtain⟨⟨y,M1⟩,n,c⟩:=aJ c;by_cases hT:tyB T M1 y=true
 .have c:=c;rw[A4 hT]at c;obtain⟨⟨I,M2⟩,o,c⟩:=aJ c;refine a _ _ _ _ n W H g _ G R fun v q s i j l=>⟨aAm hT j l,?_⟩;refine b _ _ _ _ o q s g _ j (R.up i) fun vs t u m G2 z=>?_;exact p _ _ _ _ _ c t u v vs Q G2 (l.up m) z fun w A B C D E=>k w A B ((i.trans m).trans C) D E
 .have c:=c;rw[B0 hT]at c;cases c
def OL{T:String}{r:V->Td->Hp->VK->Prop}{h:FM}{c:TE}{f:EF}(p:PM K r h)(a:SE K c f):SE K (aLK K T r c) (bG T h f aG):=by
 intro u M x M' b W H g Q G R k;obtain⟨⟨y,M1⟩,i,b⟩:=aJ b;by_cases hT:tyB T M1 y=true
 .rw[A4 hT]at b;refine a _ _ _ _ i W H g _ G R fun v j l m d e=>⟨aAm hT d e,?_⟩;exact p _ _ _ _ _ b j l v [] Q d e .nil fun w n o q s t=>k w n o (m.trans q) s t
 .rw[B0 hT]at b;cases b
def eD:FM:=fun x a M=>match x,a with
 |.c i,[y]=>match M[i]? with
  |some (.lst xs)=>if xs.length<sizeLine then Z (.d .none,M.set i (.lst (xs++[y])))else Y
  |_=>Y
 |_,_=>Y
def WT:PM K VE eD:=by
 intro x g M z M' h W H v vs Q G d rs k;unfold eD at h;split at h
 .rename_i i y;split at h
  .rename_i xs b;by_cases a:xs.length<sizeLine
   .rw[A4 a]at h;cases h;obtain⟨us,e,c⟩:=G.lstAt b;rcases rs with _|⟨f,_|_⟩;refine⟨W.α i,us,_,d.2,rfl,e,by rw[<- Paired.len c];exact a,?_⟩;exact k _ W _ (.refl _) (G.set b (by simp)<|Paired.app c (.cons f .nil)) rfl
   .rw[B0 a]at h;cases h
  .cases h
 .cases h
def fE:FM:=fun x a M=>match x,a with
 |.c i,[]=>match M[i]? with
  |some (.lst xs)=>(xs[xs.length-1]?).bind fun y=>Z (y,M.set i (.lst xs.dropLast))
  |_=>Y
 |_,_=>Y
def DB{a b:Type}{R:a->b->Prop}{xs:Tw a}{ys:Tw b}(h:Paired R xs ys):Paired R xs.dropLast ys.dropLast:=by
 rw[List.dropLast_eq_take,List.dropLast_eq_take,Paired.len h];exact tY _ h
def aJS:PM K aLw fE:=by
 intro x j M z M' h W H v vs Q G c rs k;unfold fE at h;split at h
 .rename_i i;split at h
  .rename_i xs b;obtain⟨y,d,h⟩:=aJ h;cases h;obtain⟨us,e,a⟩:=G.lstAt b;obtain⟨u,f,g⟩:=Paired.get a d;cases rs;refine⟨W.α i,us,u,c.2,rfl,e,by rw[<- Paired.len a];exact f,?_⟩;exact k _ W _ (.refl _) (G.set b (by simp)<|DB a) g
  .cases h
 .cases h
end
section
variable{ι:Type}{K:Fg}{X:ι->Cx}{a b c e o:Ud}{es:T9}{f g h:EF}{fa:AF}{pos:Pos}
structure MO(K:Fg)(X:ι->Cx)(e:Tx Ud)(f:OF):Prop where
 ex:∃t,(∀i,PO (X i) e t)/\SO K t f
def eE:MO K X Y bF:=⟨_,fun _=>aFb,aEY⟩
def dF(x:ME K X e f):MO K X (Z e) (bW f):=by
 obtain⟨t,x1,d⟩:=x.ex;exact⟨_,fun i=>aFu<|x1 i,aEg d⟩
def xX{lo:Tx Ud}(j:∀i,(X i).K=K)(x:ME K X a f)(y:MO K X lo l)(z:MO K X hi u):ME K X (.Subscript a (.Slice lo hi Y d) pos) (fSl f l u):=by
 obtain⟨t,x1,k⟩:=x.ex;obtain⟨r,m,n⟩:=y.ex;obtain⟨p,z1,q⟩:=z.ex;exact⟨_,fun i=>CL (kSl<|j i) (x1 i) (m i)<|z1 i,aLk k n q⟩
def sF(d:∀i,(X i).K=K)(x:ME K X o f)(y:MA K X [e] fa)(j:∀env:Env,attributeBase o "append" env (eval o env)=eval o env:=by intro _;rfl)(k:(apos.endLine==cpos.line)=true:=by rfl):
 ME K X (.Call (.Attribute o "append" apos) [e] [] cpos) (bG "list" eD f fa):=by
 obtain⟨t,x1,l⟩:=x.ex;obtain⟨u,m,n⟩:=y.ex;refine⟨_,fun i=>?_,vY WT l n⟩;have:=ON F.plainAttrs_list F.slot_list_append F.type_list_append YN (x1 i) (m i) (j _) (by rw[y.st.1];rfl) k (y.st.1 _)<|y.st.2.plain _ _;rw[d i]at this;exact this
def jU(d:∀i,(X i).K=K)(x:ME K X o f)(j:∀env:Env,attributeBase o "pop" env (eval o env)=eval o env:=by intro _;rfl)(k:(apos.endLine==cpos.line)=true:=by rfl):
 ME K X (.Call (.Attribute o "pop" apos) [] [] cpos) (bG "list" fE f aG):=by
 obtain⟨t,x1,l⟩:=x.ex;refine⟨_,fun i=>?_,OL aJS l⟩;have:=aBh F.plainAttrs_list F.slot_list_pop F.type_list_pop aID (x1 i) (j _) k;rw[d i]at this;exact this
end
def keyOf:CD->Tx Key
 |.d (.int i)=>Z (.inl i)
 |.d (.str x)=>Z (.inr x)
 |_=>Y
section
variable{K:Fg}
def YV{k:Key}(h:keyOf x=Z k)(r:cM K W x v):v=kV k:=by
 unfold keyOf at h;split at h
 .cases h;exact r
 .cases h;exact r
 .cases h
end
def WD{i:Int}(h:i.natAbs<2 ^ 1900):i.natAbs.log2<1900:=by
 by_cases a:i.natAbs=0
 .rw[a];decide +kernel
 .exact(Nat.log2_lt a).mpr h
def aFF{i:Int}(h:i.natAbs<2 ^ 1900):((toString i:String):Str).length<=2000:=by
 have a:=int_text_length_le (k:=1900) (by decide)<|WD h;show(Str.ofString<|toString i).length<=2000;rw[PySem.ofString_length];omega
noncomputable def NF(f:Str)(v:CD):Tv->Tv
 |[]=>[(f,v)]
 |(g,x)::r=>if g=f then(g,v)::r else(g,x)::NF f v r
section
variable{K:Fg}
theorem DU{W:Wd}(r:cM K W x v):∀{fs:Tv}{us:Tw (Str×V)},Paired (fun p q=>p.1=q.1/\cM K W p.2 q.2) fs us->Paired (fun p q=>p.1=q.1/\cM K W p.2 q.2) (NF f x fs) (nP f v us)
 |_,_,.nil=>.cons ⟨rfl,r⟩ .nil
 |(g,y)::fs,(c,u)::us,.cons h t=>by
  obtain⟨a,b⟩:=h;subst a;unfold NF nP;by_cases e:g=f
  .rw[A4 e,A4 e];exact .cons ⟨rfl,r⟩ t
  .rw[B0 e,B0 e];exact .cons ⟨rfl,b⟩ (DU r t)
theorem FU{W:Wd}{x:CD}:∀{fs:Tv}{us:Tw (Str×V)},Paired (fun p q=>p.1=q.1/\cM K W p.2 q.2) fs us->fs.lookup f=Z x->∃v,us.lookup f=Z v/\cM K W x v
 |_,_,.nil=>fun h=>by cases h
 |(g,y)::fs,(d,u)::us,.cons h t=>fun e=>by
  obtain⟨a,b⟩:=h;subst a;rw[E2]at e ⊢;by_cases q:(f==g)=true
  .rw[q]at e ⊢;cases e;exact⟨u,rfl,b⟩
  .have c:(f==g)=false:=by grind
   rw[c]at e ⊢;exact FU t e
def Good.objAt{i:Nat}(G:Good K W M H)(h:M[i]?=Z (.obj nm fs)):∃dx us,H (W.α i)=Z (.ins (aT K nm) dx us)/\Paired (fun p q=>p.1=q.1/\cM K W p.2 q.2) fs us:=by
 obtain⟨_,o,b,a⟩:=G.cs i _ h (by simp);cases o with
 |ins C dx us=>
  obtain⟨e,p⟩:=a;subst e;exact⟨dx,us,b,p⟩
 |_=>exact False.elim a
def Good.extra(g:Good K W M H)(hp:H p=Y):Good K W M (upd H p o):=by
 refine⟨fun b u d=>?_,g.n,fun i c hi e=>?_,g.inj,g.tb.fresh hp⟩
 .have:=g.fh b u d;rw[aK (aO this hp)];exact this
 .obtain⟨f,o',a,h⟩:=g.cs i c hi e;exact⟨f,o',by rw[aK (aO a hp)];exact a,h⟩
def objOf(nm:Str)(M:Sto):CD->Tx (Nat×Tv)
 |.c i=>match M[i]? with
  |some (.obj a fs)=>if a=nm then Z (i,fs)else Y
  |_=>Y
 |_=>Y
def OY{i:Nat}{fs:Tv}(h:objOf nm M x=Z (i,fs)):x=.c i/\M[i]?=Z (.obj nm fs):=by
 unfold objOf at h;split at h
 .rename_i j;split at h
  .rename_i a b d;by_cases e:a=nm
   .rw[A4 e]at h;cases h;subst e;exact⟨rfl,d⟩
   .rw[B0 e]at h;cases h
  .cases h
 .cases h
def UE(nm f:Str)(b ev:EF):SF:=fun a M=>(ev a M).bind fun v=>(b a v.2).bind fun o=>(objOf nm o.2 o.1).bind fun p=>if p.2.length<1000 then Z (.nx a,o.2.set p.1 (.obj nm (NF f v.1 p.2)))else Y
def aIA(c:Cls K (aT K nm))(n:lH K (aT K nm) f)(a:SE K l p)(b:SE K m ev):SS K (aEq K l m f) (UE nm f p ev):=by
 intro J M o M' d W H e D G R k;obtain⟨⟨y,M1⟩,t,d⟩:=aJ d;obtain⟨⟨z,M2⟩,w,d⟩:=aJ d;obtain⟨⟨i,fs⟩,x,d⟩:=aJ d;by_cases g:fs.length<1000
 .have d:=d;rw[A4 g]at d;cases d;refine b _ _ _ _ t W H e _ G R fun v A B h C E=>?_;refine a _ _ _ _ w A B e _ C (R.up h) fun u q L j G2 F=>?_;obtain⟨rfl,r⟩:=OY x;obtain⟨dx,us,I,s⟩:=G2.objAt r;refine⟨q.α i,_,dx,us,F.2,I,c,n,by rw[<- Paired.len s];exact g,?_⟩;exact k q _ (h.trans j) (G2.set r (by simp) (o':=.ins (aT K nm) dx (nP f v us)) ⟨rfl,DU (E.up j) s⟩) e<|R.up<|h.trans j
 .have d:=d;rw[B0 g]at d;cases d
noncomputable def jL:CD->Bool
 |.d .none=>true
 |_=>false
def OC(h:jL x=true):x=.d .none:=by
 cases x with
 |c n=>cases h
 |t n=>cases h
 |f n=>cases h
 |g _=>cases h
 |d x=>cases x<;>first|rfl|cases h
end
section
variable{ι:Type}{K:Fg}{X:ι->Cx}{a b c e o:Ud}{es:T9}{f g h:EF}{fa:AF}{pos:Pos}
def aJu(j:∀i,(X i).K=K)(k:Cls K (aT K nm))(hn:lH K (aT K nm) fl)(x:ME K X o f)(y:ME K X e g)(hs:∀i,swapsWith e (Z (.Attribute o fl d)) pos.line (X i).env=pure false:=by intro _;rfl):MS K X (.Assign [.Attribute o fl d] e pos) (UE nm fl f g):=by
 obtain⟨t,x1,l⟩:=x.ex;obtain⟨u,m,n⟩:=y.ex;refine⟨_,fun i=>?_,aIA k hn l n⟩;have:=aAR (x1 i) (m i)<|hs i;rw[j i]at this;exact this
end
structure OJ(K:Fg)(nm m qual:Str)(st:Stmt):Prop where
 ex:∃f fd,Fun K m qual st f fd/\PySem.W.findIn K (.ref (aT K nm)) m=Z (Z (.ref f))/\PySem.W.isFn K (.ref f)=true
section
variable{P:Ue}{w:World}{K:Fg}{mg:Str->Tg}{base:Heap}
def Fun.okQ{st:Stmt}{b:SF}{f:Uc}{qq:Bool}(F:Fun K x qual st f fd)(S:aV N ps (aH st))
 (c:∀(f:Uc)(cdv:Tz)(A:Uf)(outer:Tw Env)(s:Ub)(H:Hp)(E:XK),cK k (A.deeper<|envOfC qual (aH st) s.heap.objs.size f cdv) qq->
  ML K (fun _:Unit=>(mP CX0 P w K mg base N qual (aH st) f cdv A outer s H E qq).nox) (bU st) b):iI P w K mg base CX0 (k+1) f fd ps (spM K (fnF ps.length N.length b)) qq:=by
 have len:∀vs H Q E,spM K (fnF ps.length N.length b) vs H Q E->vs.length=ps.length:=fun vs H Q E h=>by
  obtain⟨xs,M,W,y,M',G,R,a,_⟩:=h;by_cases d:xs.length=ps.length
  .rw[<- Paired.len R];exact d
  .unfold fnF at a;rw[B0 d]at a;cases a
 refine F.ok S len fun cdv A outer s H vs Q E m h=>?_;obtain⟨t,n,hS⟩:=(c f cdv A outer s H E m).ex;refine⟨t,n (),?_⟩;obtain⟨xs,M,W,y,M',G,R,a,k⟩:=h;by_cases d:xs.length=ps.length
 .unfold fnF at a;rw[A4 d]at a;obtain⟨⟨o,M1⟩,p,a⟩:=aJ a
  have q:dC K W (xs.map Z++List.replicate (N.length-xs.length) Y) (start N vs):=by
   unfold start;rw[<- Paired.len R];exact Paired.app (cS.some R)<|rY _
  refine hS _ _ _ _ p W H _ _ G q fun e g i j=>?_;cases o with
  |rt x=>cases a;exact fun v r=>k v e g i j r
  |nx l=>cases a;exact fun u r=>k .non e g i j rfl
  |bk l=>cases a
  |ct l=>cases a
 .unfold fnF at a;rw[B0 d]at a;cases a
end
section
variable{K:Fg}
theorem GC{a b:Type}{R:a->b->Prop}:∀{xs:Tw a}{ys:Tw b},Paired R xs ys->Paired R xs.reverse ys.reverse
 |_,_,.nil=>.nil
 |_,_,.cons h t=>by
  rw[List.reverse_cons,List.reverse_cons];exact Paired.app (GC t) (.cons h .nil)
def kL:FM:=fun x a M=>match x,a with
 |.c i,[]=>match M[i]? with
  |some (.lst xs)=>Z (.d .none,M.set i (.lst xs.reverse))
  |_=>Y
 |_,_=>Y
def RH:PM K PP kL:=by
 intro x e M z M' h W H v vs Q G b rs k;unfold kL at h;split at h
 .rename_i i;split at h
  .rename_i xs a;cases h;obtain⟨us,c,d⟩:=G.lstAt a;cases rs;refine⟨W.α i,us,b.2,rfl,c,?_⟩;exact k _ W _ (.refl _) (G.set a (by simp)<|GC d) rfl
  .cases h
 .cases h
def aLI:Td->Hp->VK->Prop:=fun xs H Q=>∃i j,xs=[.int i,.int j]/\Q (.int (if j > i then j else i)) H
def aKY:Td->Hp->VK->Prop:=fun xs H Q=>∃i j,xs=[.int i,.int j]/\Q (.int (if j<i then j else i)) H
def FK:FN:=fun xs M=>match xs with
 |[.d (.int i),.d (.int j)]=>Z (.d (.int (if j > i then j else i)),M)
 |_=>Y
def GX:FN:=fun xs M=>match xs with
 |[.d (.int i),.d (.int j)]=>Z (.d (.int (if j<i then j else i)),M)
 |_=>Y
def aGf:PN K aLI FK:=by
 intro xs M z M' h W H vs Q G r k;unfold FK at h;split at h
 .rename_i i j;cases h;rcases r with _|⟨a,_|⟨b,_|_⟩⟩;exact⟨i,j,by rw[show _=V.int i from a,show _=V.int j from b],k _ W H (.refl _) G rfl⟩
 .cases h
def aEp:PN K aKY GX:=by
 intro xs M z M' h W H vs Q G r k;unfold GX at h;split at h
 .rename_i i j;cases h;rcases r with _|⟨a,_|⟨b,_|_⟩⟩;exact⟨i,j,by rw[show _=V.int i from a,show _=V.int j from b],k _ W H (.refl _) G rfl⟩
 .cases h
end
section
variable{ι:Type}{K:Fg}{X:ι->Cx}{a b c e o:Ud}{es:T9}{f g h:EF}{fa:AF}{pos:Pos}
def aHR(d:∀i,(X i).calm=true):QN K X (.builtin "max") FK:=⟨_,fun i=>YL<|d i,aGf⟩
def aII(d:∀i,(X i).calm=true):QN K X (.builtin "min") GX:=⟨_,fun i=>WQ<|d i,aEp⟩
def QA(d:∀i,(X i).K=K)(x:ME K X o f)(j:∀env:Env,attributeBase o "reverse" env (eval o env)=eval o env:=by intro _;rfl)(k:(apos.endLine==cpos.line)=true:=by rfl):
 ME K X (.Call (.Attribute o "reverse" apos) [] [] cpos) (bG "list" kL f aG):=by
 obtain⟨t,x1,l⟩:=x.ex;refine⟨_,fun i=>?_,OL RH l⟩;have:=aBh F.plainAttrs_list F.slot_list_reverse F.type_list_reverse QW (x1 i) (j _) k;rw[d i]at this;exact this
end
open PySem PySem.W PyProof.Rows
def KS{b:Type}(lt:Tq)(n:Nat):KasT b->(b->Prop)->Prop
 |.ret a,Q=>Q a
 |.ask i j k,Q=>i<n/\j<n/\KS lt n (k<|lt i j) Q
theorem KS.bind{b c:Type}{lt:Tq}{n:Nat}{f:b->KasT c}{Q:c->Prop}:∀{t:KasT b},KS lt n t (fun a=>KS lt n (f a) Q)->KS lt n (t.bind f) Q
 |.ret _=>fun h=>h
 |.ask _ _ _=>fun h=>⟨h.1,h.2.1,KS.bind h.2.2⟩
theorem KS.mono{b:Type}{Q R:b->Prop}(m:∀a,Q a->R a):∀{t:KasT b},KS lt n t Q->KS lt n t R
 |.ret _=>fun h=>m _ h
 |.ask _ _ _=>fun h=>⟨h.1,h.2.1,KS.mono m h.2.2⟩
theorem KS.wp{c:Type}{lt:Tq}{n:Nat}{Q:c->Prop}{R:c->Ub->Prop}{b:Nat->Nat->(Bool->Ub->Prop)->Ub->Prop}
 (d:∀i j C,i<n->j<n->C (lt i j) s->b i j C s) (m:∀a,Q a->R a s):∀{t:KasT c},KS lt n t Q->KasT.kasWp b t R s
 |.ret _=>fun h=>m _ h
 |.ask _ _ _=>fun h=>d _ _ _ h.1 h.2.1<|KS.wp d m h.2.2
section
variable{lt:Tq}{n:Nat}
structure uV(lt:Tq):Prop where
 as:∀a b,lt a b=true->lt b a=false
 tr:∀a b c,lt b a=false->lt c b=false->lt c a=false
def uV.up(o:uV lt)(h:lt c a=true)(h':lt b a=false):lt c b=true:=by
 cases e:lt c b with
 |true=>rfl
 |false=>rw[o.tr _ _ _ h' e]at h;cases h
def Inv2(n:Nat)(p:Tk):Prop:=p.Perm (List.range n).toArray
def Inv2.sz(h:Inv2 n p):p.size=n:=by
 have:=(Array.perm_iff_toList_perm.mp h).length_eq;simpa using this
def Inv2.ent(h:Inv2 n p)(a:0<n)(k:Nat):p.getD k 0<n:=by
 rw[J7];cases e:p[k]? with
 |none=>exact a
 |some x=>
  have hm:=Array.mem_of_getElem? e;have:=(h.mem_iff).mp hm;simpa using this
def iJ(lt:Tq)(p:Tk)(n:Nat):Prop:=∀i j,i<j->j<n->lt (p.getD j 0) (p.getD i 0)=false
def vD(lt:Tq)(p:Tk)(n:Nat):Prop:=∀i j,i<j->j<n->lt (p.getD i 0) (p.getD j 0)=false
def aCB(lt:Tq)(p:Tk)(n q:Nat):Prop:=∀i j,n<=i+q+1->i<j->j<n->lt (p.getD j 0) (p.getD i 0)=false
def iJ.ext(o:uV lt)(h:iJ lt p m)(d:1<=m)(b:lt (p.getD m 0) (p.getD (m-1) 0)=false):iJ lt p (m+1):=by
 intro i j a f;by_cases e:j=m
 .subst e;by_cases c:i=j-1
  .subst c;exact b
  .exact o.tr _ _ _ (h i (j-1) (by omega) (by omega)) b
 .exact h i j a (by omega)
def vD.ext(o:uV lt)(h:vD lt p m)(d:1<=m)(b:lt (p.getD (m-1) 0) (p.getD m 0)=false):vD lt p (m+1):=by
 intro i j a f;by_cases e:j=m
 .subst e;by_cases c:i=j-1
  .subst c;exact b
  .exact o.tr _ _ _ b<|h i (j-1) (by omega) (by omega)
 .exact h i j a (by omega)
theorem RV(o:uV lt)(hp:Inv2 n p)(g:0<n){Q:Nat->Prop}:∀(f m:Nat),1<=m->iJ lt p m->(∀r,m<=r->r<=m+f->iJ lt p r->(r<m+f->lt (p.getD r 0) (p.getD (r-1) 0)=true)->Q r)->KS lt n (kas_asc p f m) Q
 |0=>fun m i hs k=>by
  rw[kas_asc.eq_def];exact k m (B3 _) (B3 _) hs fun h=>absurd h<|S3 _
 |f+1=>fun m i hs k=>by
  rw[kas_asc.eq_def];refine⟨hp.ent g _,hp.ent g _,?_⟩;cases e:lt (p.getD m 0) (p.getD (m-1) 0)with
  |true=>exact k m (B3 _) (by omega) hs fun _=>e
  |false=>exact RV o hp g f (m+1) (by omega) (hs.ext o i e) fun r a b c d=>k r (by omega) (by omega) c (fun z=>d (by omega))
def gM(hp:Inv2 n p)(i j:Nat):Inv2 n (kas_rev p i j):=(mirror_perm p i j _).trans hp
def sL{p:Tk}{j:Nat}(a:j<=p.size)(k:Nat):(kas_rev p i j).getD k 0=if i<=k/\k<j then p.getD (i+j-1-k) 0 else p.getD k 0:=by
 rw[J7,show(kas_rev p i j)[k]?=_ from getElem?_mirror_all a k];by_cases e:i<=k/\k<j
 .rw[A4 e,A4 e,J7]
 .rw[B0 e,B0 e,J7]
def PK(o:uV lt){p:Tk}{lo hi m:Nat}(hm:m<=p.size)(g:hi<=m)(d:vD lt p m)(e:∀i j,lo<=i->i<j->j<hi->lt (p.getD j 0) (p.getD i 0)=false):vD lt (kas_rev p lo hi) m:=by
 intro i j c f;rw[sL (by omega),sL (by omega)];by_cases a:lo<=i/\i<hi
 .rw[A4 a];by_cases b:lo<=j/\j<hi
  .rw[A4 b];exact e _ _ (by omega) (by omega) (by omega)
  .rw[B0 b];exact d _ _ (by omega) f
 .rw[B0 a];by_cases b:lo<=j/\j<hi
  .rw[A4 b];exact d _ _ (by omega) (by omega)
  .rw[B0 b];exact d _ _ c f
theorem zT(o:uV lt)(t:0<n){Q:Tk×Nat×Nat->Prop}:∀(f:Nat)(p:Tk)(m q:Nat),Inv2 n p->1<=m->m+f<=n->vD lt p m->aCB lt p m q->q+1<=m->
 (∀h l s,Inv2 n h->m<=l->l<=m+f->vD lt h l->aCB lt h l s->s+1<=l->Q (h,l,s))->KS lt n (kas_desc f p m q) Q
 |0=>fun p m q r x A hd u y k=>by
  rw[kas_desc.eq_def];exact k p m q r (B3 _) (B3 _) hd u y
 |f+1=>fun p m q r x A hd u y k=>by
  rw[kas_desc.eq_def];refine⟨r.ent t _,r.ent t _,?_⟩;have B:=r.sz;have z:∀h:Tk,aCB lt h (m+1) 0:=fun h i j a b c=>by omega
  cases c:lt (p.getD m 0) (p.getD (m-1) 0)with
  |true=>
   have v:=hd.ext o x<|o.as _ _ c;dsimp only;rw[A4 rfl];by_cases w:q > 0
   .rw[A4 w];exact zT o t f _ (m+1) 0 (gM r _ _) (by omega) (by omega) (PK o (by omega) (by omega) v (fun i j a b d=>u i j (by omega) b (by omega))) (z _) (by omega) fun h l s a b c' d e g=>k h l s a (by omega) (by omega) d e g
   .rw[B0 w];exact zT o t f _ (m+1) 0 r (by omega) (by omega) v (z _) (by omega) fun h l s a b c' d e g=>k h l s a (by omega) (by omega) d e g
  |false=>
   dsimp only;rw[B0 B2];refine⟨r.ent t _,r.ent t _,?_⟩;cases d:lt (p.getD (m-1) 0) (p.getD m 0)with
   |true=>
    dsimp only;rw[A4 rfl];exact k p m q r (B3 _) (by omega) hd u y
   |false=>
    dsimp only;rw[B0 B2];refine zT o t f p (m+1) (q+1) r (by omega) (by omega) (hd.ext o x d) ?_ (by omega) fun h l s a b c' d e g=>k h l s a (by omega) (by omega) d e g;intro i j a b e;by_cases C:j=m
    .subst C;by_cases D:i=j-1
     .subst D;exact c
     .exact o.tr _ _ _ (u i (j-1) (by omega) (by omega) (by omega)) c
    .exact u i j (by omega) b (by omega)
def Part(lt:Tq)(n:Nat)(r:Nat×Tk):Prop:=Inv2 n r.2/\1<=r.1/\r.1<=n/\iJ lt r.2 r.1
def LJ(o:uV lt)(d:0<n){p:Tk}{m:Nat}(hp:Inv2 n p)(e:1<=m)(h:m<=n)(hd:vD lt p m):KS lt n (kas_tail3 m n p) (Part lt n):=by
 have f:=hp.sz;rw[kas_tail3.eq_def];refine KS.bind (RV o (gM hp 0 m) d _ _ e ?_ fun r a b c _=>⟨gM hp 0 m,by omega,by omega,c⟩);intro i j g k;rw[sL (by omega),sL (by omega),A4 (by omega),A4 (by omega)];exact hd _ _ (by omega) (by omega)
def yO(o:uV lt)(h:0<n){p:Tk}{m:Nat}(hp:Inv2 n p)(s:m+1<=n)(hd:vD lt p (m+1)):KS lt n (kas_descPart m n p) (Part lt n):=by
 rw[kas_descPart.eq_def];refine KS.bind (zT o h _ _ _ _ hp (by omega) (by omega) hd (fun i j a b c=>by omega) (by omega) fun l f k a b c d e g=>?_);have r:=a.sz;show KS lt n (if k > 0 then kas_tail3 f n (kas_rev l (f-(k+1)) f)else kas_tail3 f n l) _;by_cases q:k > 0
 .rw[A4 q];exact LJ o h (gM a _ _) (by omega) (by omega) (PK o (by omega) (B3 _) d fun i j x y z=>e i j (by omega) y z)
 .rw[B0 q];exact LJ o h a (by omega) (by omega) d
def aBz(o:uV lt)(f:0<n){p:Tk}(hp:Inv2 n p):KS lt n (kas_count n p) (Part lt n):=by
 have t:=hp.sz;rw[kas_count.eq_def];refine KS.bind (RV o hp f _ _ (B3 _) (fun i j a b=>by omega) fun r a b c d=>?_);by_cases e:(r==n)=true
 .rw[A4 e];exact⟨hp,a,by omega,c⟩
 .rw[B0 e];have v:r≠n:=by simpa using e
  have s:=d (by omega);by_cases g:r > 1
  .rw[A4 g];refine⟨hp.ent f _,hp.ent f _,?_⟩;cases l:lt (p.getD 0 0) (p.getD (r-1) 0)with
   |true=>dsimp only;rw[A4 rfl];exact⟨hp,a,by omega,c⟩
   |false=>
    dsimp only;rw[B0 B2];have le:∀i j,i<=j->j<r->i<j\/i=j:=fun i j x y=>by omega
    have h:∀x,lt x x=false:=fun x=>by
     cases q:lt x x with
     |false=>rfl
     |true=>rw[o.as _ _ q]at q;cases q
    have up:∀i,i<r->lt (p.getD i 0) (p.getD (r-1) 0)=false:=fun i hi=>by
     have x1:lt (p.getD i 0) (p.getD 0 0)=false:=by
      by_cases z:i=0
      .subst z;exact h _
      .exact c 0 i (by omega) hi
     exact o.tr _ _ _ l x1
    have u:∀i,i<r->lt (p.getD (r-1) 0) (p.getD i 0)=false:=fun i hi=>by
     by_cases z:i=r-1
     .subst z;exact h _
     .exact c i (r-1) (by omega) (by omega)
    have al:∀i j,i<r->j<r->lt (p.getD i 0) (p.getD j 0)=false:=fun i j hi k=>o.tr _ _ _ (u j k)<|up i hi;refine yO o f (gM hp _ _) (by omega) ?_;intro i j m k;rw[sL (by omega),sL (by omega),A4 (by omega)];by_cases z:j<r
    .rw[A4 (by omega)];exact al _ _ (by omega) (by omega)
    .rw[B0 (by omega)];have:j=r:=by omega
     subst this;exact o.tr _ _ _ (o.as _ _ s)<|up _ (by omega)
  .rw[B0 g];have:r=1:=by omega
   subst this;refine yO o f hp (by omega) ?_;intro i j m k;have:i=0:=by omega
   have:j=1:=by omega
   subst i;subst j;exact o.as _ _ s
theorem BX(o:uV lt)(d:0<n)(hp:Inv2 n p)(hs:iJ lt p k){Q:Nat->Prop}(q:∀l,l<=k->(∀i,i<l->lt (p.getD k 0) (p.getD i 0)=false)->(∀i,l<=i->i<k->lt (p.getD k 0) (p.getD i 0)=true)->Q l):
 ∀(f l r:Nat),l<=r->r<=k->r-l<=f->(∀i,i<l->lt (p.getD k 0) (p.getD i 0)=false)->(∀i,r<=i->i<k->lt (p.getD k 0) (p.getD i 0)=true)->KS lt n (kas_place p k f l r) Q
 |0=>fun l r h e j a b=>by
  rw[kas_place.eq_def];have:l=r:=by omega
  subst this;exact q l e a b
 |f+1=>fun l r h e j a b=>by
  rw[kas_place.eq_def];show KS lt n (if l>=r then _ else _) Q;by_cases g:l>=r
  .rw[A4 g];have:l=r:=by omega
   subst this;exact q l e a b
  .rw[B0 g];refine⟨hp.ent d _,hp.ent d _,?_⟩;cases c:lt (p.getD k 0) (p.getD ((l+r) / 2) 0)with
   |true=>
    dsimp only;rw[A4 rfl];refine BX o d hp hs q f _ _ (by omega) (by omega) (by omega) a fun i x y=>?_;by_cases z:i=(l+r) / 2
    .subst z;exact c
    .exact o.up c<|hs _ _ (by omega) y
   |false=>
    dsimp only;rw[B0 B2];refine BX o d hp hs q f _ _ (by omega) (by omega) (by omega) (fun i x=>?_) b;by_cases z:i=(l+r) / 2
    .subst z;exact c
    .exact o.tr _ _ _ (hs i ((l+r) / 2) (by omega) (by omega)) c
def TX{p:Tk}{a d:Nat}(h:a<p.size)(hd:d<=a)(k:Nat):(bubble p a d).getD k 0=if k=a-d then p.getD a 0 else if a-d<k/\k<=a then p.getD (k-1) 0 else p.getD k 0:=by
 rw[J7,getElem?_bubble h d hd k];by_cases e:k=a-d
 .rw[A4 e,A4 e,J7]
 .rw[B0 e,B0 e];by_cases b:a-d<k/\k<=a
  .rw[A4 b,A4 b,J7]
  .rw[B0 b,B0 b,J7]
theorem aAX(o:uV lt)(g:0<n){Q:Tk->Prop}(q:∀p,Inv2 n p->iJ lt p n->Q p):∀(f:Nat)(p:Tk)(k:Nat),Inv2 n p->k+f=n->iJ lt p k->KS lt n (kas_bin f p k) Q
 |0=>fun p k c t hs=>by
  rw[kas_bin.eq_def];have:k=n:=by omega
  subst this;exact q p c hs
 |f+1=>fun p k c t hs=>by
  rw[kas_bin.eq_def];have u:=c.sz;refine KS.bind<|BX o g c hs (fun l v a b=>?_) k 0 k (by omega) (by omega) (by omega) (fun i x=>by omega) (fun i x y=>by omega);refine aAX o g q f _ (k+1) ((bubble_perm p k (k-l)).trans c) (by omega) ?_;intro i j d w;rw[TX (by omega) (by omega),TX (by omega) (by omega)];have e:k-(k-l)=l:=by omega
  rw[e];by_cases h:j=l
  .rw[A4 h,B0 (by omega),B0 (by omega)];exact a i (by omega)
  .rw[B0 h];by_cases m:l<j/\j<=k
   .rw[A4 m];by_cases r:i=l
    .rw[A4 r];exact o.as _ _<|b _ (by omega) (by omega)
    .rw[B0 r];by_cases s:l<i/\i<=k
     .rw[A4 s];exact hs _ _ (by omega) (by omega)
     .rw[B0 s];exact hs _ _ (by omega) (by omega)
   .rw[B0 m,B0 (by omega),B0 (by omega)];exact hs _ _ d (by omega)
def aEO(o:uV lt)(f:0<n):KS lt n (kas_sort n) (fun p=>Inv2 n p/\iJ lt p n):=by
 unfold kas_sort;refine KS.bind<|KS.mono (fun r h=>?_)<|aBz o f (p:=(List.range n).toArray)<|Array.Perm.refl _;obtain⟨a,b,c,d⟩:=h;by_cases e:r.fst<n
 .rw[A4 e];have hm:max r.fst 1=r.fst:=by omega
  rw[hm];exact aAX o f (fun p x y=>⟨x,y⟩) _ _ _ a (by omega) d
 .rw[B0 e];have:r.fst=n:=by omega
  exact⟨a,this▸d⟩
end
end L2
namespace L2
open PySem PySem.Spec PyProof.Rows
def lP:T5->Tx (T8)
 |[]=>Z []
 |.int n::r=>(lP r).bind fun ns=>Z (n::ns)
 |_=>Y
theorem xK:∀{ds:T5}{us:T6}{as:Tb}{ns:T8},ReadsAll h us ds as->lP ds=Z ns->IntsAre us ns
 |[],_,_,_=>fun r e=>by cases r;cases e;exact .nil
 |d::ds,_,_,_=>fun r e=>by
  cases r with
  |cons a b=>
   cases d with
   |int n=>
    obtain⟨ms,c,f⟩:=Option.bind_eq_some_iff.mp e;cases f;cases a;exact .cons _ _ (xK b c)
   |_=>cases e
def fW:Ua->Ua->Tx Bool
 |.int a,.int b=>Z<|decide (a<b)
 |.tuple xs,.tuple c=>(lP xs).bind fun ns=>(lP c).bind fun ms=>Z<|HT.lexLt ns ms
 |_,_=>Y
def eA:T5->T5->Tx Bool
 |[],a=>Z<|decide (0<a.length)
 |_::_,[]=>Z false
 |x::xs,y::a=>if PyData.eqv x y=true then eA xs a else fW x y
noncomputable def isI:Ua->Bool
 |.int _=>true
 |_=>false
section
variable{prog:Ue}{w:World}{A:Uf}{E:T1}{s:Ub}
def aGj{c fl:Bool}{Q:Bool->Ub->Prop}(f:A.units<cLine)(d:Reads s.heap p x as)(e:Reads s.heap q y bs)(h:fW x y=Z c)(g:fl=true->isI x=true/\isI y=true)(k:Q c s):
 wpAny (model prog w) A (oneLt' fl p q) Q E s:=by
 unfold fW at h;split at h
 .rename_i a b;cases d;cases e;cases h;cases fl with
  |true=>exact oneLt_int k
  |false=>exact W.kat_one _ _<|lt_int k
 .rename_i xs B;obtain⟨ns,i,h⟩:=Option.bind_eq_some_iff.mp h;obtain⟨ms,j,h⟩:=Option.bind_eq_some_iff.mp h;cases h;cases fl with
  |true=>exact absurd (g rfl).1 (by intro z;cases z)
  |false=>
   cases d with
   |tuple l m n o=>
    cases e with
    |tuple r t u v=>
     exact W.kat_one _ _<|HT.lt_tupInts ⟨_,l,m,_,n⟩ ⟨_,r,t,_,u⟩ (xK o i) (xK v j) f k
 .cases h
theorem US{b d:Bool}{Q:Bool->Ub->Prop}(l:A.units+64<cLine)(k:Q c s):∀(xs ys:T5)(us ws:T6)(as bs:Tb)(i:Nat),ReadsAll s.heap us xs as->ReadsAll s.heap ws ys bs->xs.all SeqAt.shaped=true->ys.all SeqAt.shaped=true->
 eA xs ys=Z c->d=decide (us.length<ws.length)->((b&&i==0)=true->xs.head?.all isI=true/\ys.head?.all isI=true)->W.KatLex prog w A b d Q (us.zip ws) i s
 |[],ys=>fun us ws as bs i g f s1 s2 h a j=>by
  cases g
  have o:ws.length=ys.length:=by
   clear k h a j s2
   induction f using ReadsAll.rec (motive_1:=fun _ _ _ _=>True)with
   |nil=>rfl
   |cons _ _ _ ih=>simp[ih]
   |_=>trivial
  refine W.kat_nil ?_;cases h;rw[a,o];exact k
 |x::xs,[]=>fun us ws as bs i g f s1 s2 h a j=>by
  cases f;rw[List.zip_nil_right];refine W.kat_nil ?_;cases h;rw[a];simpa using k
 |x::xs,y::ys=>fun us ws as bs i g f s1 s2 h a j=>by
  cases g with
  |cons m p=>
   cases f with
   |cons n q=>
    rw[List.all_cons,D2]at s1 s2;refine W.kat_cons ?_;refine SeqAt.eqAt_reads x y A s _ _ _ _ m n (Y4 s1.1) (Y4 s2.1) (SeqAt.room_of_shaped s1.1 l) _ _ _ _ ?_;have h:(if PyData.eqv x y=true then eA xs ys else fW x y)=Z c:=h;cases e:PyData.eqv x y with
    |true=>
     rw[e,A4 rfl]at h;refine W.kat_yes<|US l k xs ys _ _ _ _ (i+1) p q s1.2 s2.2 h ?_ fun z=>?_
     .rw[a];simp
     .simp at z
    |false=>
     rw[e,B0 B2]at h;refine W.kat_no<|aGj (by omega) m n h (fun z=>?_) k;have:=j z;simpa using this
end
open PySem PySem.W PyProof.Rows
noncomputable def YU{b:Type}(lt:Tq):KasT b->b
 |.ret a=>a
 |.ask i j k=>YU lt<|k<|lt i j
def KA{c:Type}(n:Nat):KasT c->(c->Prop)->Prop
 |.ret a,Q=>Q a
 |.ask i j k,Q=>i<n/\j<n/\∀b,KA n (k b) Q
section
variable{n:Nat}
theorem KA.bind{c d:Type}{f:c->KasT d}{Q:d->Prop}:∀{t:KasT c},KA n t (fun a=>KA n (f a) Q)->KA n (t.bind f) Q
 |.ret _=>fun h=>h
 |.ask _ _ _=>fun h=>⟨h.1,h.2.1,fun b=>KA.bind<|h.2.2 b⟩
theorem KA.ks{b:Type}{lt:Tq}{Q:b->Prop}:∀{t:KasT b},KA n t Q->KS lt n t (fun a=>a=YU lt t/\Q a)
 |.ret _=>fun h=>⟨rfl,h⟩
 |.ask i j _=>fun h=>⟨h.1,h.2.1,KA.ks<|h.2.2<|lt i j⟩
theorem KS.run{a:Type}{lt:Tq}{Q:a->Prop}:∀{t:KasT a},KS lt n t Q->Q (YU lt t)
 |.ret _=>fun h=>h
 |.ask i j k=>fun h=>KS.run (t:=k<|lt i j) h.2.2
theorem RU(hp:Inv2 n p)(a:0<n){Q:Nat->Prop}(q:∀r,Q r):∀(f m:Nat),KA n (kas_asc p f m) Q
 |0=>fun m=>by rw[kas_asc.eq_def];exact q m
 |f+1=>fun m=>by
  refine⟨hp.ent a _,hp.ent a _,fun b=>?_⟩;cases b with
  |true=>exact q m
  |false=>exact RU hp a q f (m+1)
theorem zO(c:0<n){Q:Tk×Nat×Nat->Prop}(k:∀p m q,Inv2 n p->Q (p,m,q)):∀(f:Nat)(p:Tk)(m q:Nat),Inv2 n p->KA n (kas_desc f p m q) Q
 |0=>fun p m q a=>by rw[kas_desc.eq_def];exact k p m q a
 |f+1=>fun p m q a=>by
  refine⟨a.ent c _,a.ent c _,fun b=>?_⟩;cases b with
  |true=>
   by_cases d:q > 0
   .rw[A4 d];exact zO c k f _ _ _<|gM a _ _
   .rw[B0 d];exact zO c k f _ _ _ a
  |false=>
   refine⟨a.ent c _,a.ent c _,fun b=>?_⟩;cases b with
   |true=>exact k p m q a
   |false=>exact zO c k f _ _ _ a
def KO(a:0<n){p:Tk}{m:Nat}(hp:Inv2 n p):KA n (kas_tail3 m n p) (fun r=>Inv2 n r.2):=by
 exact KA.bind<|RU (gM hp 0 m) a (fun r=>gM hp 0 m) _ _
def zC(b:0<n){p:Tk}{m:Nat}(hp:Inv2 n p):KA n (kas_descPart m n p) (fun r=>Inv2 n r.2):=by
 refine KA.bind<|zO b (fun e f d a=>?_) _ _ _ _ hp;by_cases c:d > 0
 .rw[A4 c];exact KO b<|gM a _ _
 .rw[B0 c];exact KO b a
def aBc(a:0<n){p:Tk}(hp:Inv2 n p):KA n (kas_count n p) (fun r=>Inv2 n r.2):=by
 refine KA.bind<|RU hp a (fun r=>?_) _ _;by_cases e:(r==n)=true
 .rw[A4 e];exact hp
 .rw[B0 e];by_cases g:r > 1
  .rw[A4 g];refine⟨hp.ent a _,hp.ent a _,fun b=>?_⟩;cases b with
   |true=>exact hp
   |false=>exact zC a<|gM hp _ _
  .rw[B0 g];exact zC a hp
theorem AC(a:0<n)(hp:Inv2 n p){Q:Nat->Prop}(q:∀l,Q l):∀(f l r:Nat),KA n (kas_place p k f l r) Q
 |0=>fun l r=>by rw[kas_place.eq_def];exact q l
 |f+1=>fun l r=>by
  show KA n (if l>=r then _ else _) Q;by_cases g:l>=r
  .rw[A4 g];exact q l
  .rw[B0 g];refine⟨hp.ent a _,hp.ent a _,fun b=>?_⟩;cases b with
   |true=>exact AC a hp q f _ _
   |false=>exact AC a hp q f _ _
theorem aAx(b:0<n):∀(f:Nat)(p:Tk)(k:Nat),Inv2 n p->KA n (kas_bin f p k) (Inv2 n)
 |0=>fun p k a=>by rw[kas_bin.eq_def];exact a
 |f+1=>fun p k a=>by
  exact KA.bind<|AC b a (fun l=>aAx b f _ (k+1)<|(bubble_perm p k (k-l)).trans a) k 0 k
def WB(d:0<n):KA n (kas_sort n) (Inv2 n):=by
 have:=aBc d<|Array.Perm.refl _;refine KA.bind ?_
 have mono:∀{c:Type}{Q R:c->Prop}(m:∀a,Q a->R a)(t:KasT c),KA n t Q->KA n t R:=by
  intro c Q R m t
  induction t with
  |ret a=>exact m a
  |ask i j k ih=>exact fun h=>⟨h.1,h.2.1,fun b=>ih b<|h.2.2 b⟩
 refine mono (fun r a=>?_) _ this;by_cases e:r.fst<n
 .rw[A4 e];exact aAx d _ _ _ a
 .rw[B0 e];exact a
def fH(lt:Tq)(n:Nat):Te:=(YU lt<|kas_sort n).toList
def rH(lt:Tq)(a:0<n):(fH lt n).Perm (List.range n):=by
 have:=KS.run<|KA.ks (lt:=lt)<|WB a;simpa[fH]using Array.perm_iff_toList_perm.mp this.2
end
end L2
namespace L2
variable{H:Hp}{W:Wd}{σ:St}
open PySem PySem.Spec PyProof.Rows
mutual
noncomputable def eB:Ua->Bool
 |.int _=>true
 |.tuple xs=>dM xs
 |_=>false
noncomputable def dM:T5->Bool
 |[]=>true
 |x::r=>eB x&&dM r
end
mutual
theorem rk{h h':Heap}(k:∀b o vs n,h.get? b=Z o->o.data=.seq vs n->h'.get? b=Z o):∀(d:Ua)(v:Tz)(as:Tb),eB d=true->Reads h v d as->Reads h' v d as
 |.int n=>fun _ _ _ r=>by cases r;exact .int _ _
 |.tuple xs=>fun _ _ e r=>by
  cases r with
  |tuple a b c d=>exact .tuple (k _ _ _ _ a c) b c (aCu k xs _ _ (by unfold eB at e;exact e) d)
 |.none=>fun _ _ e _=>by unfold eB at e;cases e
 |.bool _=>fun _ _ e _=>by unfold eB at e;cases e
 |.str _=>fun _ _ e _=>by unfold eB at e;cases e
 |.list _=>fun _ _ e _=>by unfold eB at e;cases e
 |.dict _=>fun _ _ e _=>by unfold eB at e;cases e
theorem aCu{h h':Heap}(k:∀b o vs n,h.get? b=Z o->o.data=.seq vs n->h'.get? b=Z o):∀(f:T5)(vs:T6)(as:Tb),dM f=true->ReadsAll h vs f as->ReadsAll h' vs f as
 |[]=>fun _ _ _ r=>by cases r;exact .nil
 |d::f=>fun _ _ e r=>by
  cases r with
  |cons a b=>
   unfold dM at e;rw[D2]at e;exact .cons (rk k d _ _ e.1 a) (aCu k f _ _ e.2 b)
end
theorem ReadsAll.at:∀{ds:T5}{vs:T6}{as:Tb}(i:Nat),ReadsAll h vs ds as->i<ds.length->∃bs,Reads h (vs.getD i .none) (ds.getD i .none) bs
 |[],_,_,i=>fun _ hi=>absurd hi<|Nat.not_lt_zero _
 |d::ds,_,_,0=>fun r _=>by cases r with|cons a b=>exact⟨_,a⟩
 |d::ds,_,_,i+1=>fun r hi=>by
  cases r with
  |cons a b=>
   obtain⟨bs,x⟩:=ReadsAll.at i b<|Nat.lt_of_succ_lt_succ hi;exact⟨bs,x⟩
theorem ReadsAll.len:∀{ds:T5}{vs:T6}{as:Tb},ReadsAll h vs ds as->vs.length=ds.length
 |[],_,_=>fun r=>by cases r;rfl
 |d::ds,_,_=>fun r=>by
  cases r with
  |cons a b=>simp[ReadsAll.len b]
section
variable{prog:Ue}{w:World}{A:Uf}{E:T1}{s:Ub}
def aJA{b c:Bool}{Q:Bool->Ub->Prop}(a:A.units+64<cLine)(d:Reads s.heap p (.tuple xs) as)(e:Reads s.heap q (.tuple ys) bs)
 (s1:xs.all SeqAt.shaped=true) (s2:ys.all SeqAt.shaped=true) (h:eA xs ys=Z c) (f:b=true->xs.head?.all isI=true/\ys.head?.all isI=true) (k:Q c s):wpAny (model prog w) A (keyLt' (tuples' b) p q) Q E s:=by
 cases d with
 |tuple g o i j=>
  cases e with
  |tuple l r m n=>
   refine PySem.W.kat_lt g i l m<|US a k xs ys _ _ _ _ 0 j n s1 s2 h (by simp) fun z=>f ?_;simpa using z
noncomputable def nH(a:Tw (T5)):Bool:=a.all fun r=>match r with
 |.int _::_=>true
 |_=>false
noncomputable def tF(a:Tw (T5)):Bool:=a.all fun r=>match r with
 |.tuple _::_=>true
 |_=>false
def aIf(n:Int)(t:Tok):PySem.W.Looks M h (typeOf (.int n t)) (.type "int"):=fun A Q E s _ q=>by
 show wpAny M A (pure _) Q E s;exact B1 q
theorem firstsI:∀{c:Tw (T5)}{vs:T6}{as:Tb},ReadsAll h vs (c.map .tuple) as->nH c=true->∃fs,PySem.W.KatTups h vs fs/\fs.length=c.length/\∀v∈fs,∃n t,v=.int n t
 |[],_,_=>fun r _=>by cases r;exact⟨[],.nil,rfl,fun v g=>nomatch g⟩
 |x::c,_,_=>fun r e=>by
  unfold nH at e;rw[List.all_cons,D2]at e;cases r with
  |cons a b=>
   obtain⟨fs,k,m,p⟩:=firstsI b (by unfold nH;exact e.2);cases x with
   |nil=>exact absurd e.1 (by decide)
   |cons d C=>
    cases d with
    |int n=>
     cases a with
     |tuple q u y j=>
      rename_i o vs D ;generalize g:vs.toList=l at j;cases j with
      |cons B F=>
       cases B with
       |int _ t=>
        refine⟨.int n t::fs,.cons q u y (f:=.int n t) ?_ k,by simp[m],?_⟩
        .rw[<- U1,g];rfl
        .intro v i;rcases List.mem_cons.mp i with z|z
         .exact⟨_,_,z⟩
         .exact p v z
    |_=>exact absurd e.1 (by intro z;cases z)
end
section
variable{prog:Ue}{w:World}{A:Uf}{E:T1}{s:Ub}
def aIm{h:Heap}{a:Uc}{o:Obj}(g:h.get? a=Z o)(c:o.cls=.type "tuple"):PySem.W.Looks M h (typeOf (.ref a)) (.type "tuple"):=fun A Q E s k q=>wpAny_typeOf (⟨o,k _ _ g,c⟩) q
theorem UR:∀{c:Tw (T5)}{vs:T6}{as:Tb},ReadsAll h vs (c.map .tuple) as->tF c=true->∃fs,PySem.W.KatTups h vs fs/\fs.length=c.length/\∀v∈fs,∃a o,v=.ref a/\h.get? a=Z o/\o.cls=.type "tuple"
 |[],_,_=>fun r _=>by cases r;exact⟨[],.nil,rfl,fun v f=>nomatch f⟩
 |x::c,_,_=>fun r e=>by
  unfold tF at e;rw[List.all_cons,D2]at e;cases r with
  |cons a b=>
   obtain⟨fs,j,k,m⟩:=UR b (by unfold tF;exact e.2);cases x with
   |nil=>exact absurd e.1 (by decide)
   |cons d C=>
    cases d with
    |tuple D=>
     cases a with
     |tuple n p q i=>
      rename_i o vs F;generalize f:vs.toList=l at i;cases i with
      |cons t G=>
       cases t with
       |@tuple u _ _ _ _ _ y B I J=>
        refine⟨.ref u::fs,.cons n p q ?_ j,by simp[k],?_⟩
        .rw[<- U1,f];rfl
        .intro v g;rcases List.mem_cons.mp g with z|z
         .exact⟨_,_,z,y,B⟩
         .exact m v z
    |_=>exact absurd e.1 (by simp)
def XI{b:Tw (T5)}{Q:SortKind->Ub->Prop}(r:ReadsAll s.heap vs (b.map .tuple) as)(j:0<b.length)(hk:nH b=true\/tF b=true)(q:Q (tuples'<|nH b) s):wpAny M A (keyKind' vs.toArray) Q E s:=by
 rcases hk with hk|hk
 .obtain⟨fs,f,k,h⟩:=firstsI r hk;rw[hk]at q;refine PySem.W.kat_kind (T:=.type "int") f (by omega) (fun v i=>?_) (by decide) q;obtain⟨n,t,rfl⟩:=h v i;exact aIf n t
 .obtain⟨fs,f,k,h⟩:=UR r hk
  have e:nH b=false:=by
   cases b with
   |nil=>cases j
   |cons x r=>
    unfold tF at hk;rw[List.all_cons,D2]at hk;cases x with
    |nil=>rfl
    |cons d l=>cases d<;>first|rfl|exact absurd hk.1 (by simp)
  rw[e]at q;refine PySem.W.kat_kind (T:=.type "tuple") f (by omega) (fun v i=>?_) (by decide) q;obtain⟨a,o,rfl,g,c⟩:=h v i;exact aIm g c
end
section
variable{X:Cx}{pins:T2}{σ:St}{H:Hp}{s:Ub}{h':Heap}
def eJ.there{P:Ue}(x:eJ P w H h a o):∃u,h.get? a=Z u:=by
 induction o with
 |lst xs=>obtain⟨_,_,_,_,e⟩:=x;exact⟨_,e⟩
 |tup xs=>obtain⟨_,_,_,_,e,_⟩:=x;exact⟨_,e⟩
 |dK kvs=>obtain⟨_,_,_,_,o,_,_,e,_⟩:=x;exact⟨_,e⟩
 |dT kvs=>obtain⟨_,_,_,_,o,_,_,e,_⟩:=x;exact⟨_,e⟩
 |set S n=>obtain⟨o,_,_,_,e,_⟩:=x;exact⟨_,e⟩
 |ins C dx fs=>obtain⟨_,_,_,e,_⟩:=x;exact⟨_,e⟩
 |own y=>exact x
 |xd fs=>obtain⟨_,⟨_,_,_,e,_⟩,_⟩:=x;exact⟨_,e⟩
 |rng lo hi=>obtain⟨_,_,_,e⟩:=x;exact⟨_,e⟩
 |frz o u=>exact⟨_,x.1⟩
 |tbl ps=>exact⟨_,x⟩
 |met f b=>exact⟨_,x⟩
 |ext c=>exact x.2.1
def HOk.none{P:Ue}{a:Uc}(x:HOk P w H h)(e:h.get? a=Y):H a=Y:=by
 cases q:H a with
 |none=>rfl
 |some o=>
  obtain⟨u,z⟩:=(x a o q).there;rw[e]at z;cases z
def Inv.laidL{a:Uc}(I:Inv X pins σ H s)(k:∀b u,b≠X.env.locals->s.heap.get? b=Z u->h'.get? b=Z u)(ns:∀m,s.heap.Ns X.env.locals m->h'.Ns X.env.locals m)(hp:s.heap.get? a=Y)(new:eJ X.prog X.w (upd H a o) h' a o):
 Inv X pins σ (upd H a o) { s with heap:=h' }:=by
 have hn:=I.hok.none hp;have nt:∀b u,H b=Z u->b≠X.env.locals:=fun b u e z=>by rw[z,I.free]at e;cases e
 refine I.step (ch:=[]) (fun _ z=>nomatch z) (fun b o d _ _ e _=>k b o d e) (fun b o d _ _ e _=>⟨o.slots,k b o d e⟩) (fun b o _ e n=>?_) (fun b o _ e=>?_) (fun b xs e=>?_) (fun b o u e=>?_) (fun b ps e=>⟨#[],?_⟩) ns ?_ I.bare
 .rw[aK (fun z=>by subst z;rw[hp]at e;cases e)];exact n
 .by_cases z:b=X.env.locals
  .subst z;obtain⟨m,hm,_⟩:=I.loc;obtain⟨o',_,_,q,_⟩:=ns m hm;exact⟨o',q⟩
  .exact⟨o,k b o z e⟩
 .rw[aK (aO e hn)];exact e
 .rw[aK (aO e hn)];exact e
 .rw[aK (aO e hn)];simpa using e
 .intro b u e;by_cases f:b=a
  .subst f;rw[aX]at e;cases e;exact new
  .rw[aK f]at e;refine(I.hok b u e).stay (fun c v g q=>k c v ?_ q) (fun c q=>by rw[aK (aO q hn)];exact q) fun c xs q=>by rw[aK (aO q hn)];exact q
   rcases g with z|z
   .rw[z];exact nt b _ e
   .exact nt c _ z
def UT{h:Heap}(a:h.Ns L m)(b:h.Ns L c):m=c:=by
 obtain⟨o,es,ep,f,g,_,i⟩:=a;obtain⟨o',j,k,d,e,_,l⟩:=b;rw[f]at d;cases d;rw[g]at e;cases e;funext x;rw[<- i x,l x]
def iQ(a:Tw (T5))(i j:Nat):Bool:=(eA (a.getD i [])<|a.getD j []).getD false
theorem GU(r:bH vs us):∀ps:Te,bH (ps.map fun i=>vs.getD i .non) (ps.map fun i=>us.getD i .none)
 |[]=>.nil
 |p::ps=>by
  refine .cons ?_ (GU r ps)
  have go:∀{vs:Td}{us:T6}(i:Nat),bH vs us->RelV (vs.getD i .non) (us.getD i .none):=by
   intro vs us i r
   induction r generalizing i with
   |nil=>exact rfl
   |cons a b ih=>cases i with
    |zero=>exact a
    |succ i=>exact ih i
  exact go p r
end
def sortable(a:Tw (T5)):Bool:=decide (2<=a.length)&&decide (a.length<64)&&a.all (fun r=>r.all SeqAt.shaped&&dM r)&&(nH a || tF a)&&(List.range a.length).all fun i=>(List.range a.length).all fun j=>(eA (a.getD i [])<|a.getD j []).isSome
def WJ(a:Tw (T5)):T5:=(fH (iQ a) a.length).map fun i=>.tuple (a.getD i [])
def qC(h:sortable a=true):2<=a.length/\a.length<64/\(∀r∈a,r.all SeqAt.shaped=true/\dM r=true)/\(nH a=true\/tF a=true)/\(∀i j,i<a.length->j<a.length->(eA (a.getD i [])<|a.getD j []).isSome=true):=by
 unfold sortable at h;rw[D2,D2,D2,D2,Bool.or_eq_true]at h;obtain⟨⟨⟨⟨b,c⟩,d⟩,e⟩,f⟩:=h;refine⟨D8 b,D8 c,fun r g=>?_,e,fun i j hi k=>?_⟩
 .have:=List.all_eq_true.mp d r g
  rwa [D2]at this
 .exact List.all_eq_true.mp (List.all_eq_true.mp f i<|List.mem_range.mpr hi) j<|List.mem_range.mpr k
section
variable{K:Fg}
theorem aQ.len{H:Hp}:∀{ds:T5}{vs:Td},aQ K H ds vs->vs.length=ds.length
 |[],_=>fun h=>by
  rw[h];rfl
 |d::ds,_=>fun h=>by
  obtain⟨v,r,rfl,_,a⟩:=h;simp[aQ.len a]
theorem PH{H:Hp}{a:Tw (T5)}(r:aQ K H (a.map .tuple) us):∀ps:Te,(∀i∈ps,i<a.length)->aQ K H (ps.map fun i=>.tuple (a.getD i [])) (ps.map fun i=>us.getD i .non)
 |[]=>fun _=>rfl
 |p::ps=>fun b=>by
  refine⟨_,_,rfl,?_,PH r ps fun i hi=>b i<|C0 _ hi⟩;have hi:=b p C4;have f:=aQ.len r;rw[A3]at f
  have g:us[p]?=Z (us.getD p .non):=by
   rw[E6,D7 (by omega)];rfl
  obtain⟨d,c,h⟩:=aQ.get r g;rw[F8,D7 hi]at c;cases c;have e:a.getD p []=a[p]:=by grind
  show Rep K H (.tuple (a.getD p [])) (us.getD p .non);rw[e];exact h
def aLU{lt:Tq}{n:Nat}(a:0<n):∀i∈fH lt n,i<n:=fun i hi=>List.mem_range.mp<|(rH lt a).mem_iff.mp hi
end
def cK.units2(r:cK k A):A.in1.in1.units+64<cLine:=by have:=r.un;show A.units+1+1+64<_;omega
section
variable{prog:Ue}{w:World}{A:Uf}{E:T1}{s:Ub}
def zD{a:Uc}{vs:T6}{P:PySem.Fin->Ub->Prop}(g:s.heap.get? a=Z (seqObj "list" vs.toArray n))(d:vs.length<2)
 (k:P (.done (.ret .none)) { s with heap:=sortedHeap s.heap a vs vs.toArray }):wpAny (model prog w) A (Builtin.«list.sort» ⟨[.ref a],[]⟩) P E s:=by
 rw[list_sort_plain];have e:vs.toArray.size<=sizeLine:=by rw[F9,O6];omega
 refine A0<|listItems_at g rfl ?_;refine A0<|listUpdate_at g rfl ?_ e (by simp);have b:=get?_update_seq g (fun _=>#[]);refine A0<|seqEpoch_at b rfl ?_;refine A0<|wpAny_newTuple ?_ (by omega);refine A0<|wpAny_newList ?_;refine L5 ?_;have hs:vs.toArray.size<2:=by omega
 rw[A4 hs,A4 hs];refine A0<|B1 ?_;refine A0 ?_;refine B1 ?_;have f:=A5 { cls:=.type "tuple",data:=.seq vs.toArray.toList.toArray } b;have c:=A5 { cls:=.type "list",data:=.seq ([]:T6).toArray } f;refine A0<|seqEpoch_at c rfl ?_
 have hm:Array.map (fun x=>x.snd) (arrOf<|SortSt.mk' general' (vs.toArray.zip vs.toArray) #[] 7 Y)=vs.toArray:=by
  show Array.map (fun x=>x.snd) (vs.toArray.zip vs.toArray)=vs.toArray
  apply Array.ext
  .simp
  .intro i h d;simp
 rw[hm];refine A0<|listUpdate_at c rfl ?_ (by simp) (by omega);rw[B0 (by simp)];exact B1 k
end
mutual
theorem II:∀(x y:Ua),eB x=true->eB y=true->(PyData.eqv x y=true↔x=y)
 |.int a,.int b=>fun _ _=>by rw[PyData.eqv.eq_def];simp
 |.int a,.tuple b=>fun _ _=>by rw[PyData.eqv.eq_def];simp
 |.tuple a,.int b=>fun _ _=>by rw[PyData.eqv.eq_def];simp
 |.tuple xs,.tuple c=>fun h k=>by
  unfold eB at h k;rw[PyData.eqv.eq_def];have:=aGP xs c h k;simpa using this
 |.none,_=>fun h _=>by unfold eB at h;cases h
 |.bool _,_=>fun h _=>by unfold eB at h;cases h
 |.str _,_=>fun h _=>by unfold eB at h;cases h
 |.list _,_=>fun h _=>by unfold eB at h;cases h
 |.dict _,_=>fun h _=>by unfold eB at h;cases h
 |.int _,.none=>fun _ h=>by unfold eB at h;cases h
 |.int _,.bool _=>fun _ h=>by unfold eB at h;cases h
 |.int _,.str _=>fun _ h=>by unfold eB at h;cases h
 |.int _,.list _=>fun _ h=>by unfold eB at h;cases h
 |.int _,.dict _=>fun _ h=>by unfold eB at h;cases h
 |.tuple _,.none=>fun _ h=>by unfold eB at h;cases h
 |.tuple _,.bool _=>fun _ h=>by unfold eB at h;cases h
 |.tuple _,.str _=>fun _ h=>by unfold eB at h;cases h
 |.tuple _,.list _=>fun _ h=>by unfold eB at h;cases h
 |.tuple _,.dict _=>fun _ h=>by unfold eB at h;cases h
theorem aGP:∀(xs c:T5),dM xs=true->dM c=true->(PyData.eqvAll xs c=true↔xs=c)
 |[],[]=>fun _ _=>by rw[A0s];simp
 |[],_::_=>fun _ _=>by rw[A0s];simp
 |_::_,[]=>fun _ _=>by rw[A0s];simp
 |x::xs,y::c=>fun h k=>by
  unfold dM at h k;rw[D2]at h k;rw[A0s];show(PyData.eqv x y&&PyData.eqvAll xs c)=true↔_;rw[D2,II x y h.1 k.1,aGP xs c h.2 k.2,List.cons.injEq]
end
theorem aBB:∀a b:T8,HT.lexLt a b=true->HT.lexLt b a=false
 |[],[]=>fun h=>by cases h
 |[],_::_=>fun _=>rfl
 |_::_,[]=>fun h=>by cases h
 |x::xs,y::c=>fun h=>by
  rw[HT.lexLt_cons]at h ⊢;by_cases e:x=y
  .rw[A4 e]at h;rw[A4 e.symm];exact aBB xs c h
  .rw[B0 e]at h;rw[B0 (O1 e)];have:=D8 h;exact E3 (by omega)
theorem aCj:∀a b c:T8,HT.lexLt b a=false->HT.lexLt c b=false->HT.lexLt c a=false
 |[],_,[]=>fun _ _=>rfl
 |[],_,_::_=>fun _ _=>rfl
 |x::xs,[],_=>fun h _=>by cases h
 |x::xs,y::f,[]=>fun _ h=>by cases h
 |x::xs,y::f,z::g=>fun h k=>by
  rw[HT.lexLt_cons]at h k ⊢;by_cases e:y=x
  .rw[A4 e]at h;by_cases d:z=y
   .rw[A4 d]at k;rw[A4 (d.trans e)];exact aCj xs f g h k
   .rw[B0 d]at k;subst e;rw[B0 d];exact k
  .rw[B0 e]at h;have h:=O5 h;by_cases d:z=y
   .subst d;rw[B0 e];exact E3 h
   .rw[B0 d]at k;have k:=O5 k;rw[B0 (by omega)];exact E3 (by omega)
theorem aDm:∀a b:T8,HT.lexLt a b=false->HT.lexLt b a=false->a=b
 |[],[]=>fun _ _=>rfl
 |[],_::_=>fun h _=>by cases h
 |_::_,[]=>fun _ h=>by cases h
 |x::xs,y::c=>fun h k=>by
  rw[HT.lexLt_cons]at h k;by_cases e:x=y
  .rw[A4 e]at h;rw[A4 e.symm]at k;rw[e,aDm xs c h k]
  .rw[B0 e]at h;rw[B0 (O1 e)]at k;have h:=O5 h;have k:=O5 k;omega
def ZT:∀{xs ys:T5}{ns:T8},lP xs=Z ns->lP ys=Z ns->xs=ys:=by
 have go:∀{xs:T5}{ns:T8},lP xs=Z ns->xs=ns.map .int:=by
  intro xs
  induction xs with
  |nil=>intro ns h;cases h;rfl
  |cons d a ih=>
   intro ns h;cases d with
   |int n=>
    have h:(lP a).bind (fun ns=>Z (n::ns))=Z ns:=h;obtain⟨ms,b,c⟩:=Option.bind_eq_some_iff.mp h;cases c;rw[ih b];rfl
   |_=>cases h
 intro xs ys ns h k;rw[go h,go k]
def sQ{c:Bool}(h:fW x y=Z c):(∃a b,x=.int a/\y=.int b/\c=decide (a<b))\/∃xs ys ns ms,x=.tuple xs/\y=.tuple ys/\lP xs=Z ns/\lP ys=Z ms/\c=HT.lexLt ns ms:=by
 unfold fW at h;split at h
 .cases h;exact .inl ⟨_,_,rfl,rfl,rfl⟩
 .obtain⟨ns,d,h⟩:=Option.bind_eq_some_iff.mp h;obtain⟨ms,e,h⟩:=Option.bind_eq_some_iff.mp h;cases h;exact .inr ⟨_,_,_,_,rfl,rfl,d,e,rfl⟩
 .cases h
def KP{c:Bool}(h:fW x y=Z c):∃d,fW y x=Z d/\(c=true->d=false)/\(c=false->d=false->x=y):=by
 rcases sQ h with⟨a,b,rfl,rfl,rfl⟩|⟨xs,i,ns,ms,rfl,rfl,f,g,rfl⟩
 .refine⟨decide (b<a),rfl,fun z=>E3 (by have:=D8 z;omega),fun z e=>?_⟩;have z:=O5 z;have e:=O5 e;rw[show a=b by omega]
 .refine⟨HT.lexLt ms ns,?_,fun z=>aBB _ _ z,fun z e=>?_⟩
  .show(lP i).bind _=_;rw[g];show(lP xs).bind _=_;rw[f];rfl
  .have:=aDm _ _ z e;subst this;rw[ZT f g]
def aEh(h:fW y x=Z false)(k:fW z y=Z false):fW z x=Z false:=by
 rcases sQ h with⟨a,b,rfl,rfl,g⟩|⟨xs,j,ns,ms,rfl,rfl,l,m,g⟩
 .rcases sQ k with⟨c,d,rfl,e,f⟩|⟨_,_,_,_,_,e,_⟩
  .cases e;have g:=O5 g.symm;have f:=O5 f.symm;show Z (decide (c<b))=Z false;rw[E3 (by omega)]
  .cases e
 .rcases sQ k with⟨c,d,rfl,e,f⟩|⟨n,o,p,q,rfl,e,r,i,f⟩
  .cases e
  .cases e;rw[l]at i;cases i;have:=aCj _ _ _ g.symm f.symm;show(lP n).bind _=_;rw[r];show(lP j).bind _=_;rw[m];show Z _=Z false;rw[this]
theorem aCL:∀a b:T5,dM a=true->dM b=true->eA a b=Z true->eA b a=Z false
 |[],[]=>fun _ _ h=>by cases h
 |[],_::_=>fun _ _ _=>rfl
 |_::_,[]=>fun _ _ h=>by cases h
 |x::xs,y::c=>fun p q h=>by
  unfold dM at p q;rw[D2]at p q;have h:(if PyData.eqv x y=true then eA xs c else fW x y)=Z true:=h;show(if PyData.eqv y x=true then eA c xs else fW y x)=Z false;by_cases e:PyData.eqv x y=true
  .rw[A4 e]at h;have f:=(II x y p.1 q.1).mp e;rw[A4 ((II y x q.1 p.1).mpr f.symm)];exact aCL xs c p.2 q.2 h
  .rw[B0 e]at h;rw[B0 fun z=>e<|(II x y p.1 q.1).mpr ((II y x q.1 p.1).mp z).symm];obtain⟨d,g,i,_⟩:=KP h;rw[g,i rfl]
theorem aCh:∀a b c:T5,dM a=true->dM b=true->dM c=true->eA b a=Z false->eA c b=Z false->eA c a=Z false
 |[],_,[]=>fun _ _ _ _ _=>rfl
 |[],_,_::_=>fun _ _ _ _ _=>rfl
 |x::xs,[],_=>fun _ _ _ h _=>by cases h
 |x::xs,y::j,[]=>fun _ _ _ _ h=>by cases h
 |x::xs,y::j,z::l=>fun p q r h k=>by
  unfold dM at p q r;rw[D2]at p q r;have g:(if PyData.eqv y x=true then eA j xs else fW y x)=Z false:=h;clear h;have f:(if PyData.eqv z y=true then eA l j else fW z y)=Z false:=k;clear k;show(if PyData.eqv z x=true then eA l xs else fW z x)=Z false;by_cases e:PyData.eqv y x=true
  .rw[A4 e]at g;have m:=(II y x q.1 p.1).mp e;subst m;by_cases i:PyData.eqv z y=true
   .rw[A4 i]at f ⊢;exact aCh xs j l p.2 q.2 r.2 g f
   .rw[B0 i]at f ⊢;exact f
  .rw[B0 e]at g;by_cases i:PyData.eqv z y=true
   .have m:=(II z y r.1 q.1).mp i;subst m;rw[B0 e];exact g
   .rw[B0 i]at f
    have n:¬PyData.eqv z x=true:=fun w=>by
     have w:=(II z x r.1 p.1).mp w;subst w;obtain⟨d,o,_,s⟩:=KP g;rw[o]at f;cases f;exact e<|(II y z q.1 p.1).mpr (s rfl rfl)
    rw[B0 n];exact aEh g f
def aAQ(h:sortable f=true):uV (iQ f):=by
 obtain⟨q,s,n,t,o⟩:=qC h
 have g:∀i,dM (f.getD i [])=true:=fun i=>by
  rw[E6];cases e:f[i]? with
  |none=>rfl
  |some r=>exact(n r<|A0k e).2
 have k:∀i,¬i<f.length->f.getD i []=[]:=fun i hi=>by
  rw[E6,A0e (by omega)];rfl
 have l:∀i j,∃c,eA (f.getD i []) (f.getD j [])=Z c:=fun i j=>by
  by_cases hi:i<f.length
  .by_cases m:j<f.length
   .exact Option.isSome_iff_exists.mp<|o i j hi m
   .rw[k j m];cases f.getD i []with
    |nil=>exact⟨_,rfl⟩
    |cons _ _=>exact⟨_,rfl⟩
  .rw[k i hi];exact⟨_,rfl⟩
 have is:∀i j c,iQ f i j=c->eA (f.getD i []) (f.getD j [])=Z c:=fun i j c e=>by
  obtain⟨d,hd⟩:=l i j;unfold iQ at e;rw[hd]at e ⊢;exact S0 Z e
 have un:∀i j c,eA (f.getD i []) (f.getD j [])=Z c->iQ f i j=c:=fun i j c e=>by
  unfold iQ;rw[e];rfl
 exact⟨fun a b e=>un _ _ _<|aCL _ _ (g a) (g b)<|is _ _ _ e,fun a b c e p=>un _ _ _<|aCh _ _ _ (g a) (g b) (g c) (is _ _ _ e)<|is _ _ _ p⟩
def EH{a:Tw (T5)}(h:sortable a=true):iJ (iQ a) (YU (iQ a)<|PySem.W.kas_sort a.length) a.length:=
 (KS.run<|aEO (aAQ h) (by have:=(qC h).1;omega)).2
def TrS(h B:Heap)(e:Uc)(vs:Tj):Tg->Prop
 |none=>vs[1]?=Z .none
 |some c=>∃T a b,vs[1]?=Z (.ref T)/\B.get? T=Y/\T≠e/\h.get? T=Z a/\a.data=.fields b/\b[3]?=Z c
def Tr(h B:Heap)(e:Uc)(c:Tz)(dx:Ti)(st:Tg):Prop:=
 ∃a vs,h.get? e=Z a/\(a.cls=c/\a.dict=dx)/\a.data=.fields vs/\(1<vs.size/\(mH c=true->vs[2]?=Z .none))/\TrS h B e vs st
structure Fly(B:Heap)(l:Tw Env)(e:Uc)(c:Tz)(dx:Ti)(st:Tg)(h:Heap):Prop where
 stays:B.StaysIn h
 new:B.get? e=Y
 frames:h.FunFrames B l
 tr:Tr h B e c dx st
def Fly.obj{B:Heap}{st:Tg}(F:Fly B l e c dx st h):∃a vs,h.get? e=Z a/\a.cls=c/\a.dict=dx/\a.data=.fields vs/\(mH c=true->vs[2]?=Z .none):=by
 obtain⟨a,vs,d,b,f,g,_⟩:=F.tr;exact⟨a,vs,d,b.1,b.2,f,g.2⟩
def IS(o:Obj)(f:Tj->Tj):(o.mapFields f).dict=o.dict:=by
 obtain⟨c,d,dt,sl⟩:=o;cases dt<;>rfl
section
variable{M:Model}{A:Uf}{E:T1}{s:Ub}{B:Heap}{env:Env}{outer l:Tw Env}{L e:Uc}{c:Tz}{dx:Ti}{st:Tg}{Q:Unit->Ub->Prop}
def iV{h:Heap}{a b:Uc}{o d:Obj}(ha:h.get? a=Z d)(hd:d.data=.fields vs)(f:h.get? b=Z o)(hn:∀ws,o.data≠.fields ws):b≠a:=by grind
def NQ{h:Obj}(w:A.frames=Z (env::outer))(I:env.frame=Z L)(stays:B.StaysIn s.heap)(new:B.get? e=Y)(fr:s.heap.FunFrames B (env::outer))
 (t:s.heap.get? e=Z h) (D:h.cls=c/\h.dict=dx) (i:h.data=.fields vs) (u:1<vs.size/\(mH c=true->vs[2]?=Z .none))
 (q:∀h',Fly B (env::outer) e c dx (Z<|rawInt L) h'->s.heap.UpToSlots h'->Q () { s with heap:=h' }):
 wpAny M A (do let a <- frameOf env;let pl <- entryPlaceOf L nx;let b <- EntryCells.newEntry hd a .none (rawInt L) .none pl;setField (.ref e) 1 b) Q E s:=by
 have j:e∉(env::outer).filterMap (·.frame):=fun hm=>by
  obtain⟨_,o,J,f⟩:=fr.mem hm;exact iV t i J f rfl
 refine A0 (wpAny_frameOf_fun w fr I fun g v=>A0 (wpAny_entryPlaceOf fun pl x=>?_));unfold EntryCells.newEntry newFields;refine A0<|J8 ?_<|x.sizeOk5 _ _ _ _ _;generalize k:({ cls:=.type "traceback",dict:=Y,data:=.fields ([hd,Value.ref L,.none,rawInt L,.none]++(if pl.isEmpty then List.replicate 6 Value.none else pl)).toArray }:Obj)=m;have y:m.data=.fields ([hd,Value.ref L,.none,rawInt L,.none]++(if pl.isEmpty then List.replicate 6 Value.none else pl)).toArray:=by rw[<- k]
 have F:g.get? e=Z h:=(v.2.1 e j).trans t;have p:B.StaysIn g:=fun b o d=>(v.2.1 b fun hm=>by rw[(fr.mem hm).1]at d;cases d).trans (stays b o d);have G:(g.push m).get? e=Z h:=A5 m F;refine S9 G i u.1<|q _ ?_ ?_
 all_goals
  have r:g.objs.size≠e:=Z9<|C2 F;have K:=O3 (Obj.mapFields (·.setIfInBounds 1 (Value.ref g.objs.size))) G<|U3<|L6 i _
  have kp:∀b o,b≠e->g.get? b=Z o->((g.push m).update e (Obj.mapFields (·.setIfInBounds 1 (Value.ref g.objs.size)))).get? b=Z o:=fun b o C d=>by
   rw[L9 _ _ (O1 C)];exact A5 _ d
 .refine⟨fun b o d=>kp b o (fun z=>by rw[z,new]at d;cases d)<|p b o d,new,fr.of_keeps fun b o d f=>?_,?_⟩
  .obtain⟨sl,hs⟩:=v.2.2 b o d;exact⟨_,kp b _ (iV t i d f) hs,rfl⟩
  .refine⟨_,_,K,⟨(Y9 _ _).trans D.1,(IS _ _).trans D.2⟩,L6 i _,⟨by simpa using u.1,fun n=>by rw[J9 (by decide)];exact u.2 n⟩,g.objs.size,m,_,by simp[u.1],p.fresh,r,?_,y,by simp⟩;rw[L9 _ _ (O1 r)];exact D0 g (by rw[<- k];rfl)
 .intro b o d f;obtain⟨sl,hs⟩:=v.2.2 b o d;exact⟨sl,kp b _ (iV t i d f) hs⟩
def sU(f:A.frames=Z (env::outer))(i:env.frame=Z L)(F:Fly B (env::outer) e c dx st s.heap)(j:st=Y\/st=Z .none\/st=Z (rawInt L))
 (q:∀h',Fly B (env::outer) e c dx (Z<|rawInt L) h'->s.heap.UpToSlots h'->Q () { s with heap:=h' }):wpAny M A (noteFrame (.ref e) env) Q E s:=by
 obtain⟨t,vs,g,k,h,m,ht⟩:=id F.tr;unfold noteFrame;simp only[i];rcases j with rfl|rfl|rfl
 .refine A0<|L8 g h ht ?_;exact NQ f i F.stays F.new F.frames g k h m q
 .obtain⟨T,n,p,t1,t2,t3,t4,t5,t6⟩:=ht;refine A0<|L8 g h t1 ?_;refine A0<|L8 t4 t5 t6 ?_;refine A0<|S9 t4 t5 (Array.getElem?_eq_some_iff.mp t6).1 ?_;have oth:∀b,b≠T->(s.heap.update T (Obj.mapFields (·.setIfInBounds 3 Value.none))).get? b=s.heap.get? b:=fun b a=>L9 _ _ (O1 a)
  refine NQ f i (fun b o a=>(oth b fun z=>by rw[z,t2]at a;cases a).trans (F.stays b o a)) F.new
   (F.frames.of_keeps fun b o a d=>⟨o,(oth b<|iV t4 t5 a d).trans a,rfl⟩) ((oth e<|O1 t3).trans g) k h m fun h' r u=>q h' r fun b o a d=>u b o ((oth b<|iV t4 t5 a d).trans a) d
 .obtain⟨T,n,p,t1,t2,t3,t4,t5,t6⟩:=ht;refine A0<|L8 g h t1 ?_;refine A0<|L8 t4 t5 t6 ?_;rw[A4 (by simp)];exact B1<|q _ F (.refl _)
def mB{fl:Tz}{fo:Ti}(F:Fly B l e c dx (Z fl) s.heap)
 (q:∀h',Fly B l e c dx (Z (fo.elim .none fun f=>rawInt f)) h'->s.heap.UpToSlots h'->Q () { s with heap:=h' }):wpAny M A (setFlight (.ref e) fo) Q E s:=by
 obtain⟨j,vs,g,k,h,m,T,n,p,t1,t2,t3,t4,t5,t6⟩:=id F.tr;have i:=(Array.getElem?_eq_some_iff.mp t6).1;refine A0<|L8 g h t1 ?_;have oth:∀b,b≠T->(s.heap.update T (Obj.mapFields (·.setIfInBounds 3 (fo.elim .none fun f=>rawInt f)))).get? b=s.heap.get? b:=fun b a=>L9 _ _<|O1 a
 refine S9 t4 t5 i (q _ ⟨fun b o a=>(oth b fun z=>by rw[z,t2]at a;cases a).trans (F.stays b o a),F.new,F.frames.of_keeps fun b o a d=>⟨o,(oth b<|iV t4 t5 a d).trans a,rfl⟩,
  j,vs,(oth e (O1 t3)).trans g,k,h,m,T,_,_,t1,t2,t3,O3 _ t4 (U3 (L6 t5 _)),L6 t5 _,by simp[i]⟩
  fun b o a d=>⟨o.slots,(oth b (iV t4 t5 a d)).trans a⟩)
def aDQ(f:A.frames=Z (env::outer))(h:env.frame=Z L)(F:Fly B (env::outer) e c dx st s.heap)(g:st=Y\/st=Z .none\/st=Z (rawInt L))
 (q:∀h',Fly B outer e c dx (Z .none) h'->s.heap.UpToSlots h'->Q () { s with heap:=h' }):wpAny M A (leaving env (.ref e)) Q E s:=by
 refine A0 (sU f h F g fun k F1 u1=>mB F1 fun i F2 j=>?_);obtain⟨a,b,⟨_,_,c'⟩,d⟩:=F2;exact q i ⟨a,b,c',d⟩<|u1.trans j
def aEH{X:T1}(a:A.frames=Z (env::outer))(d:env.frame=Z L)(F:Fly B (env::outer) e c dx st s.heap)(b:st=Y\/st=Z .none\/st=Z (rawInt L))
 (q:∀h',Fly B (env::outer) e c dx (Z<|rawInt L) h'->s.heap.UpToSlots h'->X (.ref e) { s with heap:=h' }):notedBy M A env (cameBackBy M A env X) (.ref e) s:=by
 refine sU a d F b fun j F1 u1=>?_;obtain⟨k,vs,f,m,g,n,T,o,p,t1,t2,t3,t4,t5,t6⟩:=id F1.tr;refine A0<|L8 f g t1 ?_;rw[B0 (by simp),d];exact mB F1 fun h F2 i=>q h F2<|u1.trans i
end
structure Body(X:Cx):Prop where
 stk:X.stack=X.env::X.outer
 fr:X.env.frame=Z X.env.locals
 ex:X.ex=[]
structure Kp(X:Cx)(H:Hp)(B h:Heap):Prop where
 trk:∀b u o,H b=Z u->h.get? b=Z o->B.get? b=Z o
 ent:∀b o,X.s₀.heap.get? b=Z o->b∉X.fs->(∃o',B.get? b=Z o')/\(X.H₀ b=Y->B.get? b=Z o)
 pin:∀p∈X.pn,B.get? p.1=Z p.2
section
variable{X:Cx}{pins:T2}{σ:St}{H:Hp}{s:Ub}{B h':Heap}
def Inv.up(I:Inv X [] σ H s)(b:Body X)(k:Kp X H B s.heap)(stays:B.StaysIn h')(u:s.heap.UpToSlots h'):Inv X [] σ H { s with heap:=h' }/\Kp X H B h':=by
 have tr:=fun a v o e q=>stays a o<|k.trk a v o e q
 have cell:∀c v,s.heap.IsCell c v->h'.IsCell c v:=fun c v ⟨o,E,hd⟩=>by
  obtain⟨sl,q⟩:=u c o E fun vs z=>by rw[hd]at z;cases z
  exact⟨_,q,hd⟩
 have f:∀a∈X.fs,∀o,s.heap.get? a=Z o->∃sl,h'.get? a=Z { o with slots:=sl }:=fun a ha o e=>by
  obtain⟨_,j,C,hn⟩:=I.funs.mem ha;rw[e]at C;cases C;exact u a o e hn
 refine⟨⟨I.ok,I.os,I.bare,⟨fun a o e n ha t=>?_,fun a o e n ha t=>?_,I.base.free,fun a o e t=>?_,I.base.tups,I.base.frzs,I.base.tbls⟩,?_,fun x c e=>?_,I.free,I.freeC,fun p y=>?_,fun a v e=>?_,I.len⟩,⟨fun a v o e q=>?_,k.ent,k.pin⟩⟩
 .exact stays a o<|(k.ent a o e ha).2 n
 .obtain⟨sl,g⟩:=I.base.slot a o e n ha t;obtain⟨A,h⟩:=f a ha _ g;exact⟨A,h⟩
 .by_cases ha:a∈X.fs
  .obtain⟨j,g⟩:=I.base.there a o e t;obtain⟨sl,h⟩:=f a ha j g;exact⟨_,h⟩
  .obtain⟨⟨o',q⟩,_⟩:=k.ent a o e ha;exact⟨o',stays a o' q⟩
 .obtain⟨m,hn,F⟩:=I.loc;refine⟨m,u.ns hn,fun i x v g h G=>?_⟩;obtain⟨J,r,l⟩:=F i x v g h G;refine⟨J,r,?_⟩;rcases l with l|⟨K,c,e,z⟩
  .exact .inl l
  .exact .inr ⟨K,c,e,cell c _ z⟩
 .obtain⟨v,z⟩:=I.cell x c e;exact⟨v,cell c v z⟩
 .rw[J0]at y;obtain⟨_,n,ne,L,d⟩:=I.pin p<|E4 _ y;exact⟨stays _ _<|k.pin p y,n,ne,L,d⟩
 .exact(I.hok a v e).stay (fun c w hc q=>by
   rcases hc with rfl|hc
   .exact tr c v w e q
   .exact tr c _ w hc q) (fun _ q=>q) fun _ _ q=>q
 .obtain⟨j,D⟩:=(I.hok a v e).there;have:=tr a v j e D;rw[q]at this;cases this;exact k.trk a v o e D
def XS(X:Cx)(EE:St->XK)(ev:Tz)(s:Ub):Prop:=
 ∃e c dx st σ H B,ev=.ref e/\Inv X [] σ H s/\Kp X H B s.heap/\Fly B X.stack e c dx st s.heap/\(st=Y\/st=Z .none\/st=Z (rawInt X.env.locals))/\EE σ c dx H
def XS.unwish(h:XS (X.wish E) EE ev s):XS X EE ev s:=by
 obtain⟨e,c,dx,st,σ,H,B,b,I,k,F,a,q⟩:=h;exact⟨e,c,dx,st,σ,H,B,b,I.unwish,⟨k.trk,k.ent,k.pin⟩,F,a,q⟩
def CX1(P:Ue)(w:World):CXT:=fun outer H s E ev a=>∃e c dx H' B,ev=.ref e/\a.os=s.os/\AllBare a.gens/\Un (frs outer) [] H H' s.heap a.heap/\HOk P w H' a.heap/\Fly B outer e c dx (Z .none) a.heap /\
 (∀b u o,H' b=Z u->a.heap.get? b=Z o->B.get? b=Z o)/\(∀b o,s.heap.get? b=Z o->b∉frs outer->(∃o',B.get? b=Z o')/\(H b=Y->B.get? b=Z o))/\E c dx H'
def Inv.entry(I:Inv X pins σ H s)(bd:Body X){b:Uc}{o:Obj}(e:X.s₀.heap.get? b=Z o)(a:b∉X.fs):b∉frs X.stack/\(∃c,s.heap.get? b=Z c)/\(X.H₀ b=Y->s.heap.get? b=Z o/\H b=Y):=by
 have nx:b∉X.ex:=by rw[bd.ex];simp
 refine⟨fun z=>?_,I.base.there b o e nx,fun n=>⟨I.base.keep b o e n a nx,I.base.free b o e n nx⟩⟩;rcases List.mem_cons.mp (I.stkSub b z)with q|q
 .exact absurd (q▸C5 (C2 e) I.ok.above)<|S3 _
 .exact a q
def aAz{EE:St->XK}(bd:Body X)(I:Inv X pins σ H s)(h:CX1 X.prog X.w X.stack H s (EE σ) ev f):XS X EE ev f:=by
 obtain⟨e,c,dx,H',B,rfl,os,bare,un,hok,F,trk,ent,q⟩:=h;have i:=I.call' os un hok bare fun b z=>absurd z (by simp);refine⟨e,c,dx,Z .none,σ,H',B,rfl,i.pins_of fun p d=>absurd d (by simp),⟨trk,fun b o e j=>?_,fun p d=>?_⟩,F,.inr (.inl rfl),q⟩
 .obtain⟨a,⟨k,l⟩,g⟩:=I.entry bd e j;exact⟨(ent b k l a).1,fun n=>(ent b o (g n).1 a).2 (g n).2⟩
 .obtain⟨a,n,ne,m,_⟩:=I.pin p<|E4 _ d;exact(ent p.1 p.2 a fun z=>(List.mem_cons.mp<|I.stkSub p.1 z).elim ne m).2 n
def QB{EE:St->XK}{e:Uc}{d:Obj}(bd:Body X)(I:Inv X pins σ H s)(h:s.heap.get? e=Z d)(hn:H e=Y)(m:X.s₀.heap.get? e=Y)(hp:∀p∈X.pn,p.1≠e)(i:d.data=.fields vs)(r:1<vs.size)(c:vs[1]?=Z .none)(f:mH d.cls=true->vs[2]?=Z .none)
 (q:EE σ d.cls d.dict H):XS X EE (.ref e) s:=by
 have j:e∉frs X.stack:=fun hm=>by
  obtain⟨_,o,t,g⟩:=I.stack.mem hm;exact iV h i t g rfl
 have get:∀b o,b≠e->b∉frs X.stack->s.heap.get? b=Z o->(PySem.W.hideAll s.heap (e::frs X.stack)).get? b=Z o:=fun b o c f v=>PySem.W.hideAll_get _ v fun hm=>(List.mem_cons.mp hm).elim c f;refine⟨e,d.cls,d.dict,Y,σ,H,PySem.W.hideAll s.heap (e::frs X.stack),rfl,I.pins_of fun p hp=>absurd hp (by simp),⟨fun b u o c f=>?_,fun b o c f=>?_,fun p c=>?_⟩,⟨fun b o c=>PySem.W.of_hideAll _ c,PySem.W.hideAll_none _ C4,?_,d,vs,h,⟨rfl,rfl⟩,i,⟨r,f⟩,c⟩,.inl rfl,q⟩
 .exact get b o (aO c hn) (fun z=>by rw[I.stkFree b z]at c;cases c) f
 .obtain⟨k,⟨l,w⟩,x⟩:=I.entry bd c f;have ne:b≠e:=fun z=>by rw[z,m]at c;cases c
  exact⟨⟨l,get b l ne k w⟩,fun n=>get b o ne k (x n).1⟩
 .obtain⟨y,n,ne,j,_⟩:=I.pin p<|E4 _ c;exact get p.1 p.2 (hp p c) (fun z=>(List.mem_cons.mp<|I.stkSub p.1 z).elim ne j) y
 .exact PySem.W.funFrames_hide I.stack fun env hm a ha=>C0 _<|List.mem_filterMap.mpr ⟨env,hm,ha⟩
def aCC(bd:Body X):PassesOwn (model X.prog X.w) X.A X.env (XS X EE):=by
 rintro ev s ⟨e,c,dx,st,σ,H,B,rfl,I,k,F,a,q⟩;have b:=I.ok.frames;rw[bd.stk]at b F;refine aEH b bd.fr F a fun h' d u=>?_;obtain⟨f,g⟩:=I.up bd k d.stays u;exact⟨e,c,dx,_,σ,H,B,rfl,f,g,by rw[bd.stk];exact d,.inr (.inr rfl),q⟩
end
section
variable{P:Ue}{w:World}{K:Fg}{mg:Str->Tg}{base:Heap}{N:Tc}{qual:Str}{scope:Scope}{f:Uc}{cd:Tz}{A:Uf}{outer:Tw Env}{s:Ub}{H:Hp}{E:XK}{CX:CXT}
def TM:Body (mP CX P w K mg base N qual scope f cd A outer s H E):=⟨rfl,rfl,rfl⟩
def Body.wish(b:Body X)(E:T1):Body (X.wish E):=⟨b.stk,b.fr,b.ex⟩
def aDK{ev:Tz}(h:XS (mP (CX1 P w) P w K mg base N qual scope f cd A outer s H E) (fun _=>E) ev d):(mP (CX1 P w) P w K mg base N qual scope f cd A outer s H E).xe ev d:=by
 obtain⟨e,c,dx,st,σ,H',B,rfl,I,k,F,b,q⟩:=h;refine aDQ I.ok.frames rfl F b fun h' g u=>?_;obtain⟨a,i⟩:=I.up TM k g.stays u;exact⟨e,c,dx,H',B,rfl,a.os,a.bare,a.base,a.hok,g,i.trk,i.ent,q⟩
def aJD{kV doc oc:Tz}{od:Ti}
 {osl:Array (Tg)} {sp:Sp} (i:K.lookup f=Z ⟨oc,od,.func (PySem.W.fnOf c qual a b scope g kV doc pm an cdv ct),osl⟩) (e:PySem.W.codeIn K cdv qual=true) (S:aV N ps scope)
 (len:∀vs H Q E,sp vs H Q E->vs.length=ps.length)
 (d:∀(A:Uf)(outer:Tw Env)(s:Ub)(H:Hp)(vs:Td)(Q:VK)(E:XK),cK k (A.deeper<|envOfC qual scope s.heap.objs.size f cdv)->sp vs H Q E->
  ∃t,PSs ((mP (CX1 P w) P w K mg base N qual scope f cdv A outer s H E).wish (XS (mP (CX1 P w) P w K mg base N qual scope f cdv A outer s H E) fun _=>E)) b t/\t { nx:=fun _ H'=>Q .non H',rt:=Q } (start N vs) H):
 iI P w K mg base (CX1 P w) (k+1) f (PySem.W.fnOf c qual a b scope g kV doc pm an cdv ct) ps sp:=
 aGD i e S len fun A outer s H vs Q E j h=>by
  obtain⟨t,ht,l⟩:=d A outer s H vs Q E j h;exact⟨t,fun pins m σ H' D I n=>F6 (ht pins m σ H' D (I.wish _) n) (fun _ _ q=>q.unwish) fun _ _ z=>aDK z,l⟩
end
structure wF(K:Fg)(C:Uc):Prop where
 ga:PySem.W.findIn K (.ref C) "__getattribute__"=Z (Z (.builtin "BaseException.__getattribute__"))
 gh:PySem.W.findIn K (.ref C) "__getattr__"=Z Y
 be:PySem.W.subIn K (.ref C) (.type "BaseException")=Z true
 cl:(PySem.W.clsIn K C).isSome=true
section
variable{prog:Ue}{w:World}{A:Uf}{E:T1}{s:Ub}{K:Fg}{x C:Uc}{ox:Obj}{od:Tx Obj}{name:Str}
def KD{Q:T1}(X:K.In s.heap)(I:PySem.W.InstAt s.heap x ox C od)(c:wF K C)
 (h:wpAny (model prog w) A.in1 (Builtin.«object.__getattribute__» ⟨[.ref x,.str name tk],[]⟩)
  (fun a i=>match a with|.done (.ret v)=>Q v i|.done _=>False|.again c'=>c'.quiet=true/\codeAny (model prog w) A c' (fun r i=>match r with|.ok (.ret v)=>Q v i|.ok _=>False|.error e=>E e i) i) E s):
 wpAny (model prog w) A (call (.builtin "BaseException.__getattribute__") [.ref x,.str name tk]) Q E s:=by
 have k:=F.entry_bexc_ga;generalize Builtin.«object.__getattribute__»=b at k h;refine A0w<|codeAny_call_builtin F.excAttr_ValueError.ga.plain k ?_;have n:builtinKind "BaseException.__getattribute__"=Z .slot:=by rfl
 have j:splitId "BaseException.__getattribute__"=Z ("BaseException","__getattribute__"):=by rfl
 have l:=I.type (M:=model prog w);have m:=PySem.W.looks_subIn (M:=model prog w) X c.be;obtain⟨o,g,d,t,os⟩:=s;refine A0 ?_;refine A0<|l.at<|m.at ?_
 repeat (first|assumption|wp_step)
 refine F6 h (fun a i z=>?_) fun _ _ z=>z;rcases a with(_|_|_|_)|c'
 .exact z
 .exact z
 .exact z
 .exact z
 .exact⟨z.1,Z4 z.2 fun r i q=>by cases r with
   |error e=>exact q
   |ok f=>cases f<;>exact q⟩
def FC{fill:Bool}(X:K.In s.heap)(I:PySem.W.InstAt s.heap x ox C od)(c:wF K C)
 (h:wpAny (model prog w) A.in1 (Builtin.«object.__getattribute__» ⟨[.ref x,.str name tk],[]⟩)
  (fun a b=>match a with|.done (.ret v)=>wpAny (model prog w) A (handedOut v) Q E b|.done _=>False|.again c'=>c'.quiet=true/\codeAny (model prog w) A c' (fun r b=>match r with|.ok (.ret v)=>wpAny (model prog w) A (handedOut v) Q E b|_=>False) b) (fun _ _=>False) s):
 wpAny (model prog w) A (getAttrBy (.ref x) (.str name tk) fill ex) Q E s:=by
 have d:=I.type (M:=model prog w);have g:=Y6 (M:=model prog w) X c.ga;have L2:=Y6 (M:=model prog w) X c.gh;refine L5<|A0<|d.here<|A0<|g.here ?_;have i:(Value.builtin "BaseException.__getattribute__"==Value.builtin "object.__getattribute__")=false:=by rfl
 have j:(onTheHeap (Value.ref C)&&Value.builtin "BaseException.__getattribute__"==Value.builtin "object.__getattribute__")=false:=by rfl
 refine A0<|L2.here<|A0<|wpAny_attempt<|L5 ?_;unfold callGetattribute;rw[B0 (by cases ex<;>exact B2)];refine A0<|B1 ?_;refine F6 (KD (E:=fun _ _=>False) X I c ?_) (fun v b z=>z) fun _ _ z=>z.elim;refine F6 h (fun a b z=>?_) fun _ _ z=>z;rcases a with(_|_|_|_)|c'
 .exact z
 .exact z
 .exact z
 .exact z
 .exact⟨z.1,Z4 z.2 fun r b q=>by cases r with
   |error e=>exact q
   |ok f=>cases f<;>exact q⟩
def aES{Q:T1}(X:K.In s.heap)(I:PySem.W.InstAt s.heap x ox C od)(c:wF K C)(a:PySem.W.findObj K C od name=Z (.value v))(b:PySem.W.handedIn v=true)(h:Q v { s with toks:=s.toks+1 }):
 wpAny (model prog w) A (getAttr (.ref x) name ex) Q E s:=by
 unfold getAttr;refine A0<|wpAny_mkText<|FC (s:={ s with toks:=s.toks+1 }) X I c ?_;obtain⟨i,g,d,t,os⟩:=s;have e:=I.type (M:=model prog w);have f:=PySem.W.looks_find (M:=model prog w) X I a;refine A0<|B1<|A0<|B1<|A0<|e.at<|A0<|f.at ?_;refine B1 ?_;show wpAny _ _ (handedOut v) _ _ _;rw[PySem.W.handedOut_of b];exact B1 h
def ZR{Q:Tg->Ub->Prop}(X:K.In s.heap)(I:PySem.W.InstAt s.heap x ox C od)(c:wF K C)(ha:PySem.W.findIn K (.ref C) "__class__"=Z (Z (.builtin "object.__class__")))
 (hn:PySem.W.specialIn K (.builtin "object.__class__") "__get__"=Z (Z (.builtin "getset_descriptor.__get__"))) (htk:PySem.W.takesIn K (.builtin "object.__class__")=Z true) (hm:PySem.W.mroIn K C (.type "object")=Z true)
 (h:Q (Z (.ref C)) { s with toks:=s.toks+1 }):wpAny (model prog w) A (getAttr? (.ref x) "__class__") Q E s:=by
 have a:PySem.W.findObj K C od "__class__"=Z (.bind (.builtin "getset_descriptor.__get__") (.builtin "object.__class__")):=by
  obtain⟨i,b⟩:=Option.isSome_iff_exists.mp c.cl;unfold PySem.W.findObj;rw[b,A1,ha,A1];simp[hn,htk]
 refine A0<|wpAny_mkText<|A0<|wpAny_attempt<|FC X I c ?_;obtain⟨j,g,d,t,os⟩:=s;have e:=I.type (M:=model prog w);have f:=PySem.W.looks_find (M:=model prog w) X I a;refine A0<|B1<|A0<|B1<|A0<|e.at<|A0<|f.at ?_;refine A0<|L5<|A0w<|PySem.W.class_get X I hm ?_;refine B1 ?_;exact B1<|B1 h
def aBu(c:wF K C)(ha:PySem.W.findIn K (.ref C) "__class__"=Z (Z (.builtin "object.__class__")))
 (hn:PySem.W.specialIn K (.builtin "object.__class__") "__get__"=Z (Z (.builtin "getset_descriptor.__get__"))) (htk:PySem.W.takesIn K (.builtin "object.__class__")=Z true) (hm:PySem.W.mroIn K C (.type "object")=Z true):
 PySem.W.KitX K (.ref x) (.ref C) (fun h=>∃ox od,PySem.W.InstAt h x ox C od) where
 ty:=fun _ _ _ ⟨_,_,I⟩=>I.type
 it:=fun _ _ X _=>by
  have hc:=c.cl;unfold PySem.W.clsIn at hc;split at hc
  .rename_i c' d' cd' sl' ho;intro A' Q' E' s' k q;exact A0<|A0v (k _ _<|X _ _ ho)<|B1 q
  .cases hc
 ne:=fun h tp dd its n sl X htp=>by
  have hc:=c.cl;refine Bool.eq_false_iff.mpr fun q=>?_;have e:=Value.ref.inj<|beq_iff_eq.mp q;subst e;unfold PySem.W.clsIn at hc;split at hc
  .rename_i c' d' cd' sl' ho;have z:=(X _ _ ho).symm.trans htp;cases z
  .cases hc
 ca:=fun X ⟨_,_,I⟩ k=>ZR X I c ha hn htk hm k
end
section
variable{X:Cx}{pins:T2}{σ:St}{H:Hp}{s:Ub}
noncomputable def QP(sp:Sp)(EE:St->XK)(t:TA):TE:=fun σ H Q=>t σ H fun vs a=>sp vs a Q<|EE σ
structure dN(P:Ue)(w:World)(K:Fg)(mg:Str->Tg)(base:Heap)(k:Nat)(x:Str)(ps:Tc)(sp:Sp):Prop where
 ex:∃f fd,iI P w K mg base (CX1 P w) k f fd ps sp/\mg x=Z (.ref f)/\PySem.W.keepIn K (.ref f)=true/\Binds K fd ps []
def dN.mono{P:Ue}{K:Fg}{k:Nat}(C:dN P w K mg base j x ps sp)(h:j<=k):dN P w K mg base k x ps sp:=by
 obtain⟨f,fd,F,r⟩:=C.ex;exact⟨f,fd,F.mono h,r⟩
structure XOk(X:Cx)(EE:St->XK):Prop where
 bd:Body X
 pass:∀ev s,XS X EE ev s->X.xe ev s
 own:PassesOwn (model X.prog X.w) X.A X.env X.xe
def XOk.of{X:Cx}(bd:Body X)(EE:St->XK):XOk (X.wish<|XS X EE) EE:=⟨bd.wish _,fun _ _ h=>h.unwish,aCC bd⟩
def WE{EE:St->XK}(ok:XOk X EE)(F:iI X.prog X.w X.K X.mg X.base (CX1 X.prog X.w) k f fd ps sp)(c:cK k X.A)(d:Binds X.K fd ps [])
 (I:Inv X pins σ H s) (r:bH vs us) (h:sp vs H Q (EE σ)):wpAny (model X.prog X.w) X.A (call (.ref f) us) (EP X pins σ Q) X.xe s:=by
 have i:us.length=ps.length:=by rw[<- r.length];exact F.len _ _ _ _ h
 have b:=d s us I.kIn (by grind);rw[J0]at b;refine A0w (Z4 (F.run X.A X.stack s H ⟨us,[]⟩ us vs Q (EE σ) c I.env0 b r h) fun r j a=>?_);cases r with
 |error e=>exact ok.pass _ _<|aAz ok.bd I a
 |ok g=>
  cases g with
  |ret u=>exact I.after a
  |next=>exact False.elim a
  |brk=>exact False.elim a
  |cont=>exact False.elim a
def aEj{EE:St->XK}{k:Nat}{x:Str}{ps:Tc}{sp:Sp}{p pos:Pos}{e:Ud}{es:T9}{t:TA}(ok:XOk X EE)(C:dN X.prog X.w X.K X.mg X.base k x ps sp)(g:cK k X.A)(ha:PA X (e::es) t)(i:Gl X x)
 (a:(x==("__debug__":Str))=false) (j:starEach (e::es) X.env=(false,eval e X.env)::starEach es X.env) (c:(backTo pos<|starEach es X.env).any (·.1)=false):
 PE X (.Call (.Name x p) (e::es) [] pos) (QP sp EE t):=by
 intro pins s σ H Q I h;obtain⟨f,fd,F,m,kp,b⟩:=C.ex;refine Y3<|pK I i m ?_ a;exact Z5 I.ok.mod.kin kp (thn (ha pos pins s σ H _ I h) fun us s1 ⟨vs,l,d,r,q⟩=>⟨d.kIn,WE ok F g b d r q⟩) j c
noncomputable abbrev bmV:T6:=[.type "ValueError",.type "Exception",.type "BaseException",.type "object"]
def aFe{K:Fg}(X:K.In h)(q:PySem.W.excIn K C a b=true):
 ∃bm N nm c bs hd sn sub ab col dd k0 k1 k2 k3 k5 mN,h.get? C=Z (excClassObj nm c C N bs bm hd sn sub ab col dd k0 k1 k2 k3 k5 b)/\h.Ns N mN/\mN "__init__"=Y/\OwnTail h a bm:=by
 unfold PySem.W.excIn at q;split at q
 case h_2=>cases q
 case h_1 dd e sl f=>
  split at q
  case h_2=>cases q
  case h_1 r bm k0 k1 k2 k3 n k5 hm hs=>
   simp only[Bool.and_eq_true,beq_iff_eq,Bool.not_eq_true']at q;obtain⟨⟨⟨⟨⟨g,i⟩,j⟩,k⟩,d⟩,m⟩:=q;subst g i;cases e with
   |mk nm bs o ns c hd sn sub ab col p=>
    cases hm;cases j
    have es:sl=#[k0,k1,k2,k3,Z (.builtin n),k5]:=by
     cases sl with
     |mk l=>exact S0 Array.mk hs
    cases es;exact⟨bm,ns,nm,c,bs,hd,sn,sub,ab,col,dd,k0,k1,k2,k3,k5,_,X _ _ f,.of_isNs (PySem.W.isNs_of_in X d),PySem.W.nsMap_none_of_in X d m,PySem.W.tail_of_in X k⟩
def JR(EE:St->XK)(C:Uc):TS:=fun _ σ H=>EE σ (.ref C) Y H
def XM{cpos:Pos}(ok:XOk X EE)(d:X.calm=true)(hm:X.mg x=Z (.ref C))(q:PySem.W.excIn X.K C bmV "ValueError.__new__"=true)(f:Gl X x)
 (a:(x==("__debug__":Str))=false):PS X (.Raise (Z (.Call (.Name x np) [] [] cpos)) Y pos) (JR EE C):=by
 intro pins s σ H D I h;obtain⟨bm,N,nm,g,bs,hd,sn,sub,ab,col,dd,k0,k1,k2,k3,k5,mN,i,j,k,b⟩:=aFe I.kIn q
 refine wpAny_Raise_call_subT (C:=C) (nm:=nm) (q:=g) (N:=N) (bs:=bs) (bm:=bm) (hdct:=hd) (sn:=sn) (sub:=sub) (ab:=ab) (col:=col) (dd:=dd) (k0:=k0) (k1:=k1) (k2:=k2) (k3:=k3) (k5:=k5) (mN:=mN)
  F.excBase_ValueError (b.hasType F.excBase_ValueError.hasBase) (I.ok.hd d) rfl k (pK I f hm ⟨rfl,evalArgs_empty ⟨rfl,O4 _,i,j,b,fun h' e mk=>ok.pass _ _ ?_⟩⟩ a)
 obtain⟨t,l,_,_⟩:=mk.there;have m:Inv X pins σ H { s with heap:=h' }:=I.kept mk.keeps
 have hn:H e=Y:=by
  cases z:H e with
  |none=>rfl
  |some u=>
   obtain⟨o,c⟩:=(I.hok e u z).there;rw[mk.new]at c;cases c
 refine QB ok.bd m l hn ?_ (fun p n z=>?_) rfl (show 1<6 by decide) rfl (fun _=>rfl) h
 .cases z:X.s₀.heap.get? e with
  |none=>rfl
  |some o=>
   obtain⟨r,z1⟩:=I.base.there e o z (by rw[ok.bd.ex];simp);rw[mk.new]at z1;cases z1
 .have:=(I.pin p<|E4 _ n).1;rw[z,mk.new]at this;cases this
end
def hCx(X:Cx)(e:Uc):Cx:={ X with A:=X.A.mark<|Z (.ref e),calm:=false,xe:=fun _ _=>False }
noncomputable def sX(X:Cx)(pins:T2):Cx:={ X with pn:=X.pn++pins }
section
variable{X:Cx}{pins:T2}{σ:St}{H:Hp}{s:Ub}
def Inv.toH(I:Inv X pins σ H s)(e:Uc):Inv (hCx X e) pins σ H s:=
 ⟨⟨I.ok.mod,I.ok.kind,I.ok.glob,I.ok.blt,I.ok.above,I.ok.inj,I.ok.has,I.ok.cab,fun z=>(by cases z),I.ok.frames,I.ok.stk,I.ok.exf,I.ok.bs,I.ok.bsz,I.ok.noex,I.ok.exfs,I.ok.funs,I.ok.frf⟩,I.os,I.bare,I.base,I.loc,I.cell,I.free,I.freeC,I.pin,I.hok,I.len⟩
def Inv.ofH(I:Inv (hCx X e) pins σ H s)(ok:X.Ok):Inv X pins σ H s:=⟨ok,I.os,I.bare,I.base,I.loc,I.cell,I.free,I.freeC,I.pin,I.hok,I.len⟩
def Inv.toP(I:Inv X pins σ H s):Inv (sX X pins) [] σ H s:=
 ⟨⟨I.ok.mod,I.ok.kind,I.ok.glob,I.ok.blt,I.ok.above,I.ok.inj,I.ok.has,I.ok.cab,I.ok.hd,I.ok.frames,I.ok.stk,I.ok.exf,I.ok.bs,I.ok.bsz,I.ok.noex,I.ok.exfs,I.ok.funs,I.ok.frf⟩,I.os,I.bare,I.base,I.loc,I.cell,I.free,I.freeC,fun p a=>I.pin p (by rw[J0]at a;exact a),I.hok,I.len⟩
def Inv.ofP(I:Inv (sX X pins) [] σ H s)(ok:X.Ok):Inv X pins σ H s:=⟨ok,I.os,I.bare,I.base,I.loc,I.cell,I.free,I.freeC,fun p a=>I.pin p (by rw[J0];exact a),I.hok,I.len⟩
def Inv.track{e:Uc}{a:Obj}(I:Inv X pins σ H s)(d:s.heap.get? e=Z a)(f:a.data=.fields vs)(hn:H e=Y)(r:X.s₀.heap.get? e=Y)(hp:∀p∈X.pn++pins,p.1≠e)(g:mH a.cls=true->vs[2]?=Z .none):
 Inv X pins σ (upd H e (.ext (iE e a.cls a.dict false))) s:=by
 have ne:∀b u,H b=Z u->b≠e:=fun b u z=>aO z hn;refine⟨I.ok,I.os,I.bare,⟨I.base.keep,I.base.slot,fun b o q n g=>?_,I.base.there,fun b xs q=>?_,fun b o u q=>?_,fun b ps q=>?_⟩,I.loc,I.cell,?_,fun x c q=>?_,fun p h=>?_,fun b u q=>?_,I.len⟩
 .rw[aK (fun z=>by rw[z,r]at q;cases q)];exact I.base.free b o q n g
 .have:=I.base.tups b xs q;rw[aK (ne _ _ this)];exact this
 .have:=I.base.frzs b o u q;rw[aK (ne _ _ this)];exact this
 .obtain⟨more,this⟩:=I.base.tbls b ps q;exact⟨more,by rw[aK (ne _ _ this)];exact this⟩
 .obtain⟨m,⟨o,es,ep,i,hd,_⟩,_⟩:=I.loc;rw[aK (iV d f i fun j z=>by rw[hd]at z;cases z)];exact I.free
 .obtain⟨v,o,i,hd⟩:=I.cell x c q;rw[aK (iV d f i fun j z=>by rw[hd]at z;cases z)];exact I.freeC x c q
 .obtain⟨t,w,y⟩:=I.pin p h;exact⟨t,by rw[aK (hp p h)];exact w,y⟩
 .by_cases l:b=e
  .subst l;rw[aX]at q;cases q;exact⟨⟨a,vs,d,rfl,rfl,f,(fun z=>by cases z),g⟩,⟨a,d⟩,fun B C ⟨o,j,z1,A⟩ k=>⟨o,j,k o z1,A⟩⟩
  .rw[aK l]at q;exact(I.hok b u q).stay (fun _ _ _ z=>z) (fun c z=>by rw[aK (ne _ _ z)];exact z) fun c xs z=>by rw[aK (ne _ _ z)];exact z
def nK{i:Nat}{x:Str}{Q:Unit->Ub->Prop}(I:Inv X pins σ H s)(G:X.N.Nodup)(hi:X.N[i]?=Z x)(J:X.env.scope.names.lookup x=Z .local)
 (h:∀w,Inv X pins (σ.set i Y) H w->Heap.SameBut X.env.locals s.heap w.heap->Q () w):wpAny M A (do bindName X.env x .none;unbindBehindTheSuite X.env x pos) Q E s:=by
 obtain⟨m,hn,K⟩:=id I.loc;have g:(X.env.scope.kind==.class || (X.env.scope.kind==.module&&X.env.locals != X.env.globals))=false:=by rw[I.ok.kind];rfl
 have l:i<σ.length:=by rw[I.len];exact(List.getElem?_eq_some_iff.mp hi).1
 obtain⟨V,_,_,L,_⟩:=id hn;refine wpAny_nameGoes_keeps J hn g fun h' v B hs=>h _ ?_ hs;have a:∀b o,X.s₀.heap.get? b=Z o->b≠X.env.locals:=fun b o q=>D1<|C5 (C2 q) I.ok.above;refine⟨I.ok,I.os,I.bare,⟨fun b o q n C r=>(hs.2 b<|a b o q).trans (I.base.keep b o q n C r),fun b o q n C r=>?_,I.base.free,fun b o q r=>?_,I.base.tups,I.base.frzs,I.base.tbls⟩,⟨_,B,fun j y O f t P=>?_⟩,fun y c q=>?_,I.free,I.freeC,fun p R=>?_,fun b u q=>?_,by simpa using I.len⟩
 .obtain⟨sl,f⟩:=I.base.slot b o q n C r;exact⟨sl,(hs.2 b<|a b o q).trans f⟩
 .obtain⟨o',f⟩:=I.base.there b o q r;exact⟨o',(hs.2 b<|a b o q).trans f⟩
 .have D:j≠i:=fun z=>by
   subst z;rw[F7 l]at t;cases t
  rw[O9 (O1 D)]at t;obtain⟨S,T,z⟩:=K j y O f t P;refine⟨S,T,?_⟩;rcases z with⟨k,e⟩|⟨k,c,e,z⟩
  .have:y≠x:=fun e=>D<|AO G f (e▸hi);exact .inl ⟨k,by simp[this,e]⟩
  .exact .inr ⟨k,c,e,z.sameBut hs<|I.cne y c e⟩
 .obtain⟨F,z⟩:=I.cell y c q;exact⟨F,z.sameBut hs<|I.cne y c q⟩
 .obtain⟨e,n,ne,U,d⟩:=I.pin p R;exact⟨(hs.2 p.1 ne).trans e,n,ne,U,d⟩
 .refine(I.hok b u q).stay (fun c F hc z=>(hs.2 c ?_).trans z) (fun _ z=>z) fun _ _ z=>z;rintro rfl;rcases hc with rfl|hc
  .rw[I.free]at q;cases q
  .rw[I.free]at hc;cases hc
structure HR where
 c:Tz
 n:Th
 t:TS
def unbN:Th->St->St
 |none,σ=>σ
 |some i,σ=>σ.set i Y
def setN:Th->St->V->St
 |none,σ,_=>σ
 |some i,σ,v=>σ.set i<|Z v
def aDi(D:Ends)(n:Th):Ends:={ nx:=fun σ H=>D.nx (unbN n σ) H,rt:=D.rt,bk:=fun σ H=>D.bk (unbN n σ) H,ct:=fun σ H=>D.ct (unbN n σ) H }
def tHs(K:Fg)(D:Ends):Tw HR->St->XK
 |[],_,_,_,_=>False
 |h::r,σ,c,dx,H=>∃b,PySem.W.exmOne K c h.c=Z b/\(if b=true then ∀e,H e=Y->h.t (aDi D h.n) (setN h.n σ (.ref e)) (upd H e (.ext (iE e c dx false)))else tHs K D r σ c dx H)
def aCf(X:Cx)(hs:Tw ExceptHandler)(rs:Tw HR):Prop:=∀(pins:T2)(D:Ends)(e:Uc)(c:Tz)(dx:Ti)(σ:St)(H:Hp)(s:Ub)(B:Heap)(E:T1),X.Ok->Inv (sX X pins) [] σ H s->Kp (sX X pins) H B s.heap->
 Fly B X.stack e c dx (Z .none) s.heap->tHs X.K D rs σ c dx H->wpAny (model X.prog X.w) X.A (handleBy (.ref e) X.env hs) (SP X pins D) E s
def aIp:aCf X [] []:=fun _ _ _ _ _ _ _ _ _ _ _ _ _ _ h=>h.elim
def KQ(X:Cx)(x:Str)(c:Tz):Prop:=X.mg x=Z c\/(X.mg x=Y/\bootBuiltins x=Z c/\x≠"__name__")
def aBe{Q:T1}(n:KQ X x c)(I:Inv X pins σ H s)(a:Gl X x)(hd:(x==("__debug__":Str))=false)(h:Q c s):
 wpAny (model X.prog X.w) X.A (eval (.Name x pos) X.env) Q E s:=by
 rcases n with m|⟨m,b,z⟩
 .exact pK I a m h hd
 .exact xP I a m b h z hd
def Fly.fresh{B h:Heap}{st:_}(bd:Body X)(I:Inv X pins σ H s)(k:Kp X H B s.heap)(F:Fly B X.stack e c dx st s.heap):H e=Y/\X.s₀.heap.get? e=Y/\∀p∈X.pn,p.1≠e:=by
 obtain⟨d,vs,a,_,_,f,_⟩:=F.obj;refine⟨?_,?_,fun p g z=>?_⟩
 .cases z:H e with
  |none=>rfl
  |some u=>
   have:=k.trk e u d z a;rw[F.new]at this;cases this
 .cases z:X.s₀.heap.get? e with
  |none=>rfl
  |some o=>
   by_cases b:e∈X.fs
   .obtain⟨_,i,z1,hn⟩:=I.funs.mem b;exact absurd rfl<|iV a f z1 hn
   .obtain⟨⟨o',q⟩,_⟩:=k.ent e o z b;rw[F.new]at q;cases q
 .have:=k.pin p g;rw[z,F.new]at this;cases this
def aLa(X:Cx):Tx Str->Th->Prop
 |none,none=>True
 |some n,some i=>X.N.Nodup/\X.N[i]?=Z n/\X.env.scope.names.lookup n=Z .local
 |_,_=>False
def aDX{pos:Pos}{l:Stmt}{g:Ta}{h:HR}(bd:Body X)(hc:KQ X x h.c)(hg:Gl X x)(hd:(x==("__debug__":Str))=false)
 (hn:aLa X nm h.n)
 (hS:∀e,PSs (hCx X e) (l::g) h.t) (hR:aCf X hs rs):aCf X (.ExceptHandler (Z (.Name x np)) nm (l::g) pos::hs) (h::rs):=by
 intro pins D e c dx σ H s B E ok I k F y;obtain⟨b,hb,y⟩:=y;have M:Body (sX X pins):=⟨bd.stk,bd.fr,bd.ex⟩;obtain⟨oe,vs,he,N,_,hv,_⟩:=F.obj;have LT:PySem.W.Looks (model X.prog X.w) s.heap (typeOf (.ref e)) c:=N▸(U9 he).andThen .now;have IH:=(I.ofP ok).toH e;have hA:(hCx X e).A=X.A.mark (Z (.ref e)):=rfl;refine wpAny_handleBy_cons (codeAny_handlers_test<|aBe (X:=hCx X e) hc IH hg hd ?_) (by intro z;cases z);refine(PySem.W.exm_one IH.kIn LT hb).here ?_;cases b with
 |false=>exact hR pins D e c dx σ H s B E ok I k F y
 |true=>
  rw[A4 rfl]at y;have U:Fly B (sX X pins).stack e c dx (Z .none) s.heap:=F
  have go:∀(P:Ub->Prop),(∀J,Inv X pins σ (upd H e (.ext (iE e c dx false))) J->P J)->wpAny (model X.prog X.w) (X.A.mark<|Z (.ref e)) (setFlight (.ref e) Y) (fun _ s1=>P s1) (notedBy (model X.prog X.w) (X.A.mark<|Z (.ref e)) X.env fun x J=>cameBackBy (model X.prog X.w) X.A X.env E x J) s:=fun P hP=>by
   refine mB (fo:=Y) U fun V F1 u1=>hP _ ?_;obtain⟨o,k1⟩:=I.up M k F1.stays u1;obtain⟨n1,n2,n3⟩:=Fly.fresh (s:={ s with heap:=V }) (h:=V) M o k1 F1;obtain⟨a0,a1,O,C,Q,R,S⟩:=F1.obj;have K:=Inv.track o O R n1 n2 (fun p hp=>n3 p (by rw[J0]at hp;exact hp)) (by rw[C];exact S);rw[C,Q]at K;exact K.ofP ok
  have T:H e=Y:=(Fly.fresh (h:=s.heap) M I k U).1;have L:=y e T;cases nm with
  |none=>
   cases j:h.n with
   |some i=>rw[j]at hn;exact False.elim hn
   |none=>
    rw[j]at L;refine codeAny_handlers_suite (go _ fun s1 o=>?_);refine F6 (hS e pins s1 σ _ (aDi D Y) (o.toH e) L) (fun f s2 z=>?_) fun _ _ z=>z.elim;cases f with
    |next=>obtain⟨a,H',d,q⟩:=z;exact⟨a,H',d.ofH ok,q⟩
    |brk=>obtain⟨a,H',d,q⟩:=z;exact⟨a,H',d.ofH ok,q⟩
    |cont=>obtain⟨a,H',d,q⟩:=z;exact⟨a,H',d.ofH ok,q⟩
    |ret u=>obtain⟨v,a,H',d,r,q⟩:=z;exact⟨v,a,H',d.ofH ok,r,q⟩
  |some n=>
   cases j:h.n with
   |none=>rw[j]at hn;exact False.elim hn
   |some i=>
    rw[j]at hn L;obtain⟨nd,hi,lo⟩:=hn;refine codeAny_handlers_suite_as (go _ fun s1 o=>?_);refine nS (X:=X) o nd hi (.inl lo) (v:=.ref e) rfl (fun s2 K=>?_) (.inr lo);refine F6 (hS e pins s2 _ _ (aDi D<|Z i) (K.toH e) L) (fun f s3 z=>?_) fun _ _ z=>z.elim;show wpAny _ _ _ (fun _ G=>SP X pins D f G) E s3;cases f with
    |next=>obtain⟨a,H',d,q⟩:=z;exact nK (d.ofH ok) nd hi lo fun s4 m _=>⟨_,H',m,q⟩
    |brk=>obtain⟨a,H',d,q⟩:=z;exact nK (d.ofH ok) nd hi lo fun s4 m _=>⟨_,H',m,q⟩
    |cont=>obtain⟨a,H',d,q⟩:=z;exact nK (d.ofH ok) nd hi lo fun s4 m _=>⟨_,H',m,q⟩
    |ret u=>obtain⟨v,a,H',d,r,q⟩:=z;exact nK (d.ofH ok) nd hi lo fun s4 m _=>⟨v,_,H',m,r,q⟩
def aHU(K:Fg)(tb:(St->XK)->TS)(rs:Tw HR):TS:=fun D σ H=>tb (tHs K D rs) D σ H
def aJb{b:Ta}{h₀:ExceptHandler}{hs:Tw ExceptHandler}{pos:Pos}{tb:(St->XK)->TS}(bd:Body X)
 (n:∀pins EE,PSs ((sX X pins).wish (XS (sX X pins) EE)) b<|tb EE) (o:aCf X (h₀::hs) rs):PS X (.Try b (h₀::hs) [] [] pos) (aHU X.K tb rs):=by
 intro pins s σ H D I h;have i:Body (sX X pins):=⟨bd.stk,bd.fr,bd.ex⟩;refine wpAny_Try_except (F6 (n pins (tHs X.K D rs) [] s σ H D (I.toP.wish _) h) (fun f s1 z=>?_) fun ev s1 z=>?_)
 .cases f with
  |next=>obtain⟨a,H',d,q⟩:=z;exact A0c ⟨a,H',d.unwish.ofP I.ok,q⟩
  |brk=>obtain⟨a,H',d,q⟩:=z;exact⟨a,H',d.unwish.ofP I.ok,q⟩
  |cont=>obtain⟨a,H',d,q⟩:=z;exact⟨a,H',d.unwish.ofP I.ok,q⟩
  |ret u=>obtain⟨v,a,H',d,r,q⟩:=z;exact⟨v,a,H',d.unwish.ofP I.ok,r,q⟩
 .obtain⟨e,c,dx,st,j,p,B,rfl,l,t,F1,k,q⟩:=z;have m:=l.ok.frames;have g:=F1;rw[i.stk]at g m;refine sU m i.fr g k fun F F2 w=>mB F2 fun G F3 x=>?_;obtain⟨y,A⟩:=l.up i t F2.stays w;obtain⟨C,E⟩:=y.up i A F3.stays x;exact o pins D e c dx j p _ B _ I.ok C E (by rw[bd.stk];exact F3) q
end
structure Exc where
 nm:Str
 fs:Tv
inductive Rs where
 |v (x:CD)|x (e:Exc)
inductive RN where
 |o (o:Out)|xc (γ:Ga) (e:Exc)
abbrev EX:=Ga->Sto->Option (Rs×Sto)
abbrev AX:=Ga->Sto->Option ((List CD ⊕ Exc)×Sto)
abbrev SFX:=Ga->Sto->Tx (RN×Sto)
abbrev FX:=T7->Sto->Tx (Rs×Sto)
section
variable(K:Fg)
def ExR(W:Wd)(ex:Exc)(c:Tz)(dx:Ti):Prop:=c=.ref (aT K ex.nm)/\KU K W dx ex.fs
def aHe(E:XK)(Q:VK)(W:Wd)(H:Hp):Rs->Prop
 |.v x=>∀v,cM K W x v->Q v H
 |.x ex=>∀c dx,ExR K W ex c dx->E c dx H
def SEX(EE:St->XK)(t:TE)(f:EX):Prop:=∀a M r M',f a M=Z (r,M')->∀(W:Wd)(H:Hp)(σ:St)(Q:VK),Good K W M H->dC K W a σ->(∀W' H',W.Ext W'->Good K W' M' H'->aHe K (EE σ) Q W' H' r)->t σ H Q
def aLe(E:XK)(Q:Td->Hp->Prop)(W:Wd)(H:Hp):T7 ⊕ Exc->Prop
 |.inl xs=>∀vs,cS K W xs vs->Q vs H
 |.inr ex=>∀c dx,ExR K W ex c dx->E c dx H
def SAX(EE:St->XK)(t:TA)(f:AX):Prop:=∀a M r M',f a M=Z (r,M')->∀(W:Wd)(H:Hp)(σ:St)(Q:Td->Hp->Prop),Good K W M H->dC K W a σ->(∀W' H',W.Ext W'->Good K W' M' H'->aLe K (EE σ) Q W' H' r)->t σ H Q
def aIQ(EE:St->XK)(D:Ends)(W:Wd)(H:Hp):RN->Prop
 |.o o=>aCZ K D W H o
 |.xc a ex=>∀σ c dx,dC K W a σ->ExR K W ex c dx->EE σ c dx H
def SSX(EE:St->XK)(t:TS)(f:SFX):Prop:=∀a M o M',f a M=Z (o,M')->∀(W:Wd)(H:Hp)(σ:St)(D:Ends),Good K W M H->dC K W a σ->(∀W' H',W.Ext W'->Good K W' M' H'->aIQ K EE D W' H' o)->t D σ H
def spX(f:FX):Sp:=fun vs H Q E=>∃xs M W r M',Good K W M H/\cS K W xs vs/\f xs M=Z (r,M')/\∀W' H',W.Ext W'->Good K W' M' H'->aHe K E Q W' H' r
end
def liE(f:EF):EX:=fun a M=>(f a M).bind fun r=>Z (.v r.1,r.2)
def liA(f:AF):AX:=fun a M=>(f a M).bind fun r=>Z (.inl r.1,r.2)
def liS(f:SF):SFX:=fun a M=>(f a M).bind fun r=>Z (.o r.1,r.2)
def xCons(f:EX)(g:AX):AX:=fun a M=>(f a M).bind fun r=>match r.1 with
 |.x e=>Z (.inr e,r.2)
 |.v x=>(g a r.2).bind fun q=>match q.1 with
  |.inr e=>Z (.inr e,q.2)
  |.inl xs=>Z (.inl (x::xs),q.2)
def aLP(f:EX)(k:CD->Sto->Tx (Rs×Sto)):EX:=fun a M=>(f a M).bind fun r=>match r.1 with
 |.x e=>Z (.x e,r.2)
 |.v x=>k x r.2
def VM(f:AX)(k:T7->Sto->Tx (Rs×Sto)):EX:=fun a M=>(f a M).bind fun r=>match r.1 with
 |.inr e=>Z (.x e,r.2)
 |.inl xs=>k xs r.2
def sC(h:FX)(f:AX):EX:=VM f h
def iG(f g:SFX):SFX:=fun b M=>(f b M).bind fun r=>match r.1 with
 |.o (.nx a)=>g a r.2
 |o=>Z (o,r.2)
def tK(f:EX):SFX:=fun a M=>(f a M).bind fun r=>match r.1 with
 |.x e=>Z (.xc a e,r.2)
 |.v x=>Z (.o (.rt x),r.2)
def DK(f:EX):SFX:=fun a M=>(f a M).bind fun r=>match r.1 with
 |.x e=>Z (.xc a e,r.2)
 |.v _=>Z (.o (.nx a),r.2)
def aLO(f:EX)(g:GF):SFX:=fun a M=>(f a M).bind fun r=>match r.1 with
 |.x e=>Z (.xc a e,r.2)
 |.v x=>(g x a r.2).bind fun q=>Z (.o (.nx q.1),q.2)
noncomputable def vM(c:TF)(f g:SFX):SFX:=fun a M=>(c a M).bind fun r=>if r.1=true then f a r.2 else g a r.2
def vL(g:GF)(b:SFX):T7->Ga->Sto->Tx (RN×Sto)
 |[],c,M=>Z (.o (.nx c),M)
 |x::xs,c,M=>(g x c M).bind fun r=>(b r.1 r.2).bind fun q=>match q.1 with
  |.o (.nx a)=>vL g b xs a q.2
  |.o (.ct a)=>vL g b xs a q.2
  |.o (.bk a)=>Z (.o (.nx a),q.2)
  |.o (.rt x)=>Z (.o (.rt x),q.2)
  |.xc a e=>Z (.xc a e,q.2)
def FT(f:AF)(g:GF)(b:SFX):SFX:=fun a M=>(f a M).bind fun r=>vL g b r.1 a r.2
def HQ(nm:Str):SFX:=fun a M=>Z (.xc a ⟨nm,[]⟩,M)
def fnX(ps N:Nat)(b:SFX):FX:=fun xs M=>if xs.length=ps then(b (xs.map Z++List.replicate (N-xs.length) Y) M).bind fun r=>match r.1 with
 |.o (.rt x)=>Z (.v x,r.2)
 |.o (.nx _)=>Z (.v (.d .none),r.2)
 |.xc _ e=>Z (.x e,r.2)
 |_=>Y else Y
def YR:Th->Ga->Ga
 |none,a=>a
 |some i,a=>a.set i Y
def setG:Th->Ga->CD->Ga
 |none,a,_=>a
 |some i,a,x=>a.set i<|Z x
def aMh(n:Th):Out->Out
 |.nx a=>.nx (YR n a)
 |.bk a=>.bk (YR n a)
 |.ct a=>.ct (YR n a)
 |.rt x=>.rt x
structure HMi where
 tab:Tw (Str×Bool)
 n:Th
 f:SF
def aDc:Tw HMi->Ga->Exc->Sto->Tx (Out×Sto)
 |[],_,_,_=>Y
 |h::r,a,ex,M=>match h.tab.lookup ex.nm with
  |some true=>(h.f (setG h.n a (.c M.length)) (M++[.exc false ex.nm ex.fs])).bind fun q=>Z (aMh h.n q.1,q.2)
  |some false=>aDc r a ex M
  |none=>Y
def XJ(b:SFX)(hs:Tw HMi):SF:=fun c M=>(b c M).bind fun r=>match r.1 with
 |.o o=>Z (o,r.2)
 |.xc a ex=>aDc hs a ex r.2
section
variable{K:Fg}{EE:St->XK}{ta tb:TE}{tA:TA}{t u:TS}{f g:EX}{fa:AX}{p q:SFX}{tt:TT}{ft:TF}{tg:TG}{hg:GF}
def aKA{f:AF}(a:SA K tA f):SAX K EE tA (liA f):=by
 intro i M r M' h W H σ Q G R k;obtain⟨⟨x,M1⟩,b,h⟩:=aJ h;cases h;exact a _ _ _ _ b W H σ Q G R fun v W' H' e c d=>k W' H' e c v d
def aBj{f:SF}(a:SS K t f):SSX K EE t (liS f):=by
 intro d M r M' h W H σ D G R k;obtain⟨⟨x,M1⟩,b,h⟩:=aJ h;cases h;exact a _ _ _ _ b W H σ D G R fun W' H' e c=>k W' H' e c
def NG{h:FX}(a:SAX K EE tA fa):SEX K EE (QP (spX K h) EE tA) (sC h fa):=by
 intro s M r M' b W H σ Q G R k;obtain⟨⟨x,M1⟩,j,b⟩:=aJ b;refine a _ _ _ _ j W H σ _ G R fun c l d i=>?_;cases x with
 |inr e=>cases b;exact k c l d i
 |inl xs=>exact fun vs rs=>⟨xs,M1,c,r,M',i,rs,b,fun m n o G2=>k m n (d.trans o) G2⟩
def aGs(a:SSX K EE t p)(b:SSX K EE u q):SSX K EE (aIa t u) (iG p q):=by
 intro y M o M' c W H σ D G R k;obtain⟨⟨x,M1⟩,n,c⟩:=aJ c;refine a _ _ _ _ n W H σ _ G R fun h i j l=>?_;cases x with
 |xc d e=>cases c;exact k h i j l
 |o x=>
  cases x with
  |nx d=>exact fun m r=>b _ _ _ _ c h i m D l r fun s v w G2=>k s v (j.trans w) G2
  |bk d=>cases c;exact k h i j l
  |ct d=>cases c;exact k h i j l
  |rt x=>cases c;exact k h i j l
def aFY(a:SEX K EE ta f):SSX K EE (aJa ta) (tK f):=by
 intro n M o M' b W H σ D G R k;obtain⟨⟨x,M1⟩,l,b⟩:=aJ b;refine a _ _ _ _ l W H σ _ G R fun h i d j=>?_;cases x with
 |x e=>cases b;exact fun c dx z=>k h i d j σ c dx (R.up d) z
 |v x=>cases b;exact fun v m=>k h i d j v m
def aAs(a:SEX K EE ta f):SSX K EE (aCc ta) (DK f):=by
 intro m M o M' b W H σ D G R k;obtain⟨⟨x,M1⟩,l,b⟩:=aJ b;refine a _ _ _ _ l W H σ _ G R fun h i d j=>?_;cases x with
 |x e=>cases b;exact fun c dx z=>k h i d j σ c dx (R.up d) z
 |v x=>cases b;exact fun v n=>k h i d j σ<|R.up d
def aJf(c:STt K tt ft)(a:SSX K EE t p)(b:SSX K EE u q):SSX K EE (aKi tt t u) (vM ft p q):=by
 intro s M o M' d W H σ D G R k;obtain⟨⟨x,M1⟩,r,d⟩:=aJ d;refine c _ _ _ _ r W H σ _ G R fun l m e n=>?_;cases x with
 |true=>rw[A4 rfl];rw[A4 rfl]at d;exact a _ _ _ _ d l m σ D n (R.up e) fun h i j G2=>k h i (e.trans j) G2
 |false=>rw[B0 B2];rw[B0 B2]at d;exact b _ _ _ _ d l m σ D n (R.up e) fun h i j G2=>k h i (e.trans j) G2
def aAa:SSX K EE (JR EE<|aT K nm) (HQ nm):=by
 intro b M o M' a W H σ D G R k;cases a;exact k W H (.refl _) G σ _ Y R ⟨rfl,rfl⟩
def aFA{V:AF}(i:SI K U V)(a:SG K tg hg)(b:SSX K EE t p):SSX K EE (aJL U tg t) (FT V hg p):=by
 intro X M o M' z W H σ D G R k;obtain⟨⟨xs,M1⟩,h1,z⟩:=aJ z;have z:vL hg p xs X M1=Z (o,M'):=z;refine i _ _ _ _ h1 W H σ _ G R fun J W1 H1 A G1 gv=>?_;refine⟨fun j m l H'=>∃n M2 s,j<=xs.length/\m=xs.length-j/\W1.Ext s/\Good K s M2 H'/\dC K s n l/\vL hg p (xs.drop j) n M2=Z (o,M'),⟨_,X,M1,W1,O4 _,rfl,.refl _,G1,R.up A,z⟩,?_⟩;rintro j m l H' ⟨n,M2,s,hj,rfl,w,G2,R2,c⟩;obtain⟨L,N⟩:=gv s M2 H' w G2;by_cases v:j<xs.length
 .obtain⟨go,yl⟩:=L j xs[j]<|D7 v;rw[List.drop_eq_getElem_cons v]at c;refine .inr ⟨go,fun B F=>∃r I C,s.Ext C/\Good K C I F/\dC K C r B/\vL hg p (xs.drop (j+1)) r I=Z (o,M'),?_,fun y F hy=>?_⟩
  .rintro B F ⟨r,I,C,e3,G3,R3,h3⟩;exact⟨_,by omega,r,I,C,v,rfl,w.trans e3,G3,R3,h3⟩
  .obtain⟨W8,e8,G8,ry⟩:=yl y F hy;obtain⟨⟨a0,M4⟩,h4,c⟩:=aJ (show(hg xs[j] n M2).bind _=_ from c);obtain⟨⟨O,M5⟩,h5,c⟩:=aJ c;refine a _ _ _ _ _ h4 W8 _ l y _ G8 (R2.up e8) ry fun P W4 H4 e4 G4 R4=>?_;refine b _ _ _ _ h5 W4 H4 P _ G4 R4 fun W5 Q e5 E=>?_;have d:=(e8.trans e4).trans e5;cases O with
   |xc h e=>cases c;exact k W5 Q ((A.trans w).trans d) E
   |o O=>
    cases O with
    |nx h=>exact fun S T=>⟨h,M5,W5,d,E,T,c⟩
    |ct h=>exact fun S T=>⟨h,M5,W5,d,E,T,c⟩
    |bk h=>cases c;exact k W5 Q ((A.trans w).trans d) E
    |rt x=>cases c;exact k W5 Q ((A.trans w).trans d) E
 .have e:j=xs.length:=by omega
  subst e;rw[List.drop_length]at c;cases c;exact .inl ⟨N,k s H' (A.trans w) G2 l R2⟩
def dC.setN{γ:Ga}{n:Th}{x:CD}{v:V}(R:dC K W γ σ)(r:cM K W x v):dC K W (setG n γ x) (setN n σ v):=by
 cases n with
 |none=>exact R
 |some i=>exact Paired.set (x:=Z x) (y:=Z v) r i R
def dC.unbN{γ:Ga}{n:Th}(R:dC K W γ σ):dC K W (YR n γ) (unbN n σ):=by
 cases n with
 |none=>exact R
 |some i=>exact Paired.set (x:=Y) (y:=Y) True.intro i R
inductive HsM(K:Fg):Tw HR->Tw HMi->Prop
 |nil:HsM K [] []
 |cons {h:HR} {m:HMi} {hs:Tw HR} {ms:Tw HMi} (hn:h.n=m.n) (ht:∀nm b,m.tab.lookup nm=Z b->PySem.W.exmOne K (.ref (aT K nm)) h.c=Z b) (hS:SS K h.t m.f) (r:HsM K hs ms):HsM K (h::hs) (m::ms)
theorem aAS{D:Ends}{W:Wd}{M M':Sto}{H:Hp}{γ:Ga}{σ:St}{ex:Exc}{c:Tz}{dx:Ti}{o:Out}(G:Good K W M H)(R:dC K W γ σ)(E:ExR K W ex c dx):
 ∀{hs:Tw HR}{ms:Tw HMi},HsM K hs ms->aDc ms γ ex M=Z (o,M')->(∀W' H',W.Ext W'->Good K W' M' H'->aCZ K D W' H' o)->tHs K D hs σ c dx H
 |_,_,.nil=>fun h _=>by cases h
 |_,_,@HsM.cons _ h m hs ms hn ht hS r=>fun d k=>by
  obtain⟨rfl,v⟩:=E;unfold aDc at d;cases e:m.tab.lookup ex.nm with
  |none=>rw[e]at d;cases d
  |some b=>
   rw[e]at d;refine⟨b,ht _ _ e,?_⟩;cases b with
   |false=>rw[B0 B2];exact aAS G R ⟨rfl,v⟩ r d k
   |true=>
    intro a ha;obtain⟨⟨y,M1⟩,z,d⟩:=aJ d;have s:=d;cases s;have A:Good K (W.more a) (M++[.exc false ex.nm ex.fs]) (upd H a (.ext (iE a (.ref (aT K ex.nm)) dx false))):=G.new ha ⟨dx,rfl,v⟩;have w:=W.ext_more a;have B:cM K (W.more a) (.c M.length) (.ref a):=⟨by show M.length<W.n+1;rw[G.n];exact S1 _,by show _=V.ref (if M.length=W.n then a else _);rw[A4 G.n.symm]⟩;rw[hn];refine hS _ _ _ _ z (W.more a) _ _ _ A ((R.up w).setN B) fun C F I G2=>?_;have l:=k C F (w.trans I) G2;cases y with
    |nx i=>exact fun j R2=>l _ R2.unbN
    |bk i=>exact fun j R2=>l _ R2.unbN
    |ct i=>exact fun j R2=>l _ R2.unbN
    |rt x=>exact l
def aKy{tb:(St->XK)->TS}{rs:Tw HR}{ms:Tw HMi}(b:∀EE,SSX K EE (tb EE) p)(h:HsM K rs ms):SS K (aHU K tb rs) (XJ p ms):=by
 intro y M o M' a W H σ D G R k;obtain⟨⟨x,M1⟩,i,a⟩:=aJ a;refine b _ _ _ _ _ i W H σ D G R fun j l d e=>?_;cases x with
 |o x=>cases a;exact k j l d e
 |xc m ex=>exact fun n c dx r E=>aAS e r E h a fun s v w G2=>k s v (d.trans w) G2
end
section
variable{ι:Type}
structure MX(K:Fg)(X:ι->Cx)(EE:ι->St->XK)(e:Ud)(f:EX):Prop where
 ex:∃t:ι->TE,(∀i,PE (X i) e<|t i)/\∀i,SEX K (EE i) (t i) f
structure MAX(K:Fg)(X:ι->Cx)(EE:ι->St->XK)(es:T9)(f:AX):Prop where
 ex:∃t:ι->TA,(∀i,PA (X i) es<|t i)/\∀i,SAX K (EE i) (t i) f
 st:NL es
structure MSX(K:Fg)(X:ι->Cx)(EE:ι->St->XK)(st:Stmt)(f:SFX):Prop where
 ex:∃t:ι->TS,(∀i,PS (X i) st<|t i)/\∀i,SSX K (EE i) (t i) f
structure MLX(K:Fg)(X:ι->Cx)(EE:ι->St->XK)(st:Ta)(f:SFX):Prop where
 ex:∃t:ι->TS,(∀i,PSs (X i) st<|t i)/\∀i,SSX K (EE i) (t i) f
variable{K:Fg}{X:ι->Cx}{EE:ι->St->XK}{e a b c tg iter:Ud}{es:T9}{f g:EX}{fa:AX}{p q:SFX}{ft:TF}{gf:GF}{st:Stmt}{sts sts':Ta}{pos:Pos}
def DN{f:AF}(x:MA K X es f):MAX K X EE es (liA f):=by
 obtain⟨t,x1,d⟩:=x.ex;exact⟨⟨fun _=>t,x1,fun _=>aKA d⟩,x.st⟩
def HN{f:SF}(x:MS K X st f):MSX K X EE st (liS f):=by
 obtain⟨t,x1,d⟩:=x.ex;exact⟨fun _=>t,x1,fun _=>aBj d⟩
def mG{f:SF}(x:ML K X sts f):MLX K X EE sts (liS f):=by
 obtain⟨t,x1,d⟩:=x.ex;exact⟨fun _=>t,x1,fun _=>aBj d⟩
def zJ{F:FX}{p:Pos}(ok:∀i,XOk (X i)<|EE i)(C:∀i,dN (X i).prog (X i).w (X i).K (X i).mg (X i).base k x ps (spX K F))(d:∀i,cK k (X i).A)(y:MAX K X EE (e::es) fa)(h:∀i,Gl (X i) x:=by intro _;rfl)(hd:(x==("__debug__":Str))=false:=by decide):
 MX K X EE (.Call (.Name x p) (e::es) [] pos) (sC F fa):=by
 obtain⟨u,j,l⟩:=y.ex;exact⟨_,fun i=>aEj (ok i) (C i) (d i) (j i) (h i) hd (y.st.1 _)<|y.st.2.plain _ _,fun i=>NG<|l i⟩
def fS(x:MSX K X EE st p):MLX K X EE [st] p:=by
 obtain⟨t,x1,d⟩:=x.ex;exact⟨t,fun i=>UD<|x1 i,d⟩
def eO(x:MSX K X EE st p)(y:MLX K X EE sts q):MLX K X EE (st::sts) (iG p q):=by
 obtain⟨t,x1,d⟩:=x.ex;obtain⟨u,h,j⟩:=y.ex;exact⟨_,fun i=>KZ (x1 i)<|h i,fun i=>aGs (d i)<|j i⟩
def zW(x:MX K X EE e f):MSX K X EE (.Return (Z e) pos) (tK f):=by
 obtain⟨t,x1,d⟩:=x.ex;exact⟨_,fun i=>aBd<|x1 i,fun i=>aFY<|d i⟩
def aAL(x:MX K X EE e f)(hs:∀i,swapsWith e Y pos.line (X i).env=pure false:=by intro _;rfl):MSX K X EE (.Expr e pos) (DK f):=by
 obtain⟨t,x1,d⟩:=x.ex;exact⟨_,fun i=>VG (x1 i)<|hs i,fun i=>aAs<|d i⟩
def xI(x:MT K X c ft)(y:MLX K X EE sts p)(z:MLX K X EE sts' q):MSX K X EE (.If c sts sts' pos) (vM ft p q):=by
 obtain⟨t,x1,d⟩:=x.ex;obtain⟨u,h,j⟩:=y.ex;obtain⟨v,z1,k⟩:=z.ex;exact⟨_,fun i=>aHi (x1 i) (h i)<|z1 i,fun i=>aJf d (j i)<|k i⟩
def UM(ok:∀i,XOk (X i)<|EE i)(h:∀i,(X i).calm=true)(x:MI K X tg iter d)(y:MG K X tg gf)(z:MLX K X EE sts p)(hs:∀(env:Env)(x:Tz),foldedSetIterable iter env x=pure x:=by intro _ _;rfl):MSX K X EE (.For tg iter sts [] pos) (FT d gf p):=by
 obtain⟨t,x1,j⟩:=x.ex;obtain⟨u,k,l⟩:=y.ex;obtain⟨v,z1,m⟩:=z.ex;exact⟨_,fun i=>aBV (ok i).own (h i) (x1 i) (k i) (z1 i) (hs _),fun i=>aFA j l<|m i⟩
def QO{cpos:Pos}(ok:∀i,XOk (X i)<|EE i)(j:∀i,(X i).K=K)(d:∀i,(X i).calm=true)(hm:∀i,(X i).mg x=Z (.ref (aT K x)))(q:PySem.W.excIn K (aT K x) bmV "ValueError.__new__"=true)(h:∀i,Gl (X i) x:=by intro _;rfl)(hd:(x==("__debug__":Str))=false:=by decide):
 MSX K X EE (.Raise (Z (.Call (.Name x np) [] [] cpos)) Y pos) (HQ x):=
 ⟨fun i=>JR (EE i)<|aT K x,fun i=>XM (ok i) (d i) (hm i) (by grind) (h i) hd,fun _=>aAa⟩
def aJk(X:ι->Cx):ι×T2×(St->XK)->Cx:=fun j=>(sX (X j.1) j.2.1).wish (XS (sX (X j.1) j.2.1) j.2.2)
noncomputable def aKl:ι×T2×(St->XK)->St->XK:=fun j=>j.2.2
def aMt(X:ι->Cx):ι×Uc->Cx:=fun j=>hCx (X j.1) j.2
def aHl(bd:∀i,Body<|X i)(j:ι×T2×(St->XK)):XOk (aJk X j) (aKl (ι:=ι) j):=
 XOk.of (X:=sX (X j.1) j.2.1) ⟨(bd j.1).stk,(bd j.1).fr,(bd j.1).ex⟩ _
structure MH(K:Fg)(X:ι->Cx)(hs:Tw ExceptHandler)(ms:Tw HMi):Prop where
 ex:∃rs,(∀i,aCf (X i) hs rs)/\HsM K rs ms
def aIw:MH K X [] []:=⟨[],fun _=>aIp,.nil⟩
def aEt{hp:Pos}{h:Stmt}{d:Ta}{tab:Tw (Str×Bool)}{f:SF}(cv:Tz)(bd:∀i,Body<|X i)(j:∀i,KQ (X i) x cv)
 (hn:∀i,aLa (X i) nm n)
 (ht:∀p∈tab,PySem.W.exmOne K (.ref (aT K p.1)) cv=Z p.2) (hS:ML K (aMt X) (h::d) f) (r:MH K X hs ms) (k:∀i,Gl (X i) x:=by intro _;rfl) (hd:(x==("__debug__":Str))=false:=by decide):
 MH K X (.ExceptHandler (Z (.Name x np)) nm (h::d) hp::hs) (⟨tab,n,f⟩::ms):=by
 obtain⟨t,l,m⟩:=hS.ex;obtain⟨rs,o,s⟩:=r.ex;refine⟨⟨cv,n,t⟩::rs,fun i=>aDX (bd i) (j i) (k i) hd (hn i) (fun e=>l (i,e))<|o i,.cons rfl (fun nm b z=>?_) m s⟩;exact ht (nm,b)<|F0 z
def aJF{h₀:ExceptHandler}{hs:Tw ExceptHandler}(bd:∀i,Body<|X i)(d:∀i,(X i).K=K)(x:MLX K (aJk X) (aKl (ι:=ι)) sts p)(h:MH K X (h₀::hs) ms):MS K X (.Try sts (h₀::hs) [] [] pos) (XJ p ms):=by
 obtain⟨rs,j,l⟩:=h.ex;obtain⟨t,x1,m⟩:=x.ex;refine⟨aHU K (fun EE D σ H=>∀i pins,t (i,pins,EE) D σ H) rs,fun i=>?_,aKy (fun EE=>?_) l⟩
 .have:=aJb (tb:=fun EE D σ H=>∀i pins,t (i,pins,EE) D σ H) (pos:=pos) (bd i) (fun pins EE ps s σ H D I h=>x1 (i,pins,EE) ps s σ H D I<|h i pins)<|j i;rw[d i]at this;exact this
 .exact fun n M o M' r W H σ D G R k i pins=>m (i,pins,EE) n M o M' r W H σ D G R k
section
variable{P:Ue}{w:World}{K:Fg}{mg:Str->Tg}{base:Heap}
abbrev aGv(P:Ue)(w:World)(K:Fg)(mg:Str->Tg)(base:Heap)(N:Tc)(x:Str)(st:Stmt)(f:Uc)(cdv:Tz)(A:Uf)(outer:Tw Env)(s:Ub)(H:Hp)(E:XK):Unit->Cx:=fun _=>
 (mP (CX1 P w) P w K mg base N x (aH st) f cdv A outer s H E).wish (XS (mP (CX1 P w) P w K mg base N x (aH st) f cdv A outer s H E) fun _=>E)
def nN{st:Stmt}{f:Uc}(i:Unit):XOk (aGv P w K mg base N x st f cdv A outer s H E i) ((fun _ _=>E:Unit->St->XK) i):=XOk.of TM _
def Fun.okXF{x qual:Str}{st:Stmt}{N ps:Tc}{k:Nat}{b:SFX}{f:Uc}{fd:FuncData}(Fu:Fun K x qual st f fd)(S:aV N ps (aH st))
 (i:∀(f:Uc)(cdv:Tz)(A:Uf)(outer:Tw Env)(s:Ub)(H:Hp)(E:XK),cK k (A.deeper<|envOfC qual (aH st) s.heap.objs.size f cdv)->
  MLX K (aGv P w K mg base N qual st f cdv A outer s H E) (fun _ _=>E) (bU st) b):iI P w K mg base (CX1 P w) (k+1) f fd ps (spX K (fnX ps.length N.length b)):=by
 obtain⟨oc,od,kV,doc,pm,an,cdv,ct,osl,rfl,F,l⟩:=Fu.ex
 have len:∀vs H Q E,spX K (fnX ps.length N.length b) vs H Q E->vs.length=ps.length:=fun vs H Q E h=>by
  obtain⟨xs,M,W,y,M',G,R,d,_⟩:=h;by_cases j:xs.length=ps.length
  .rw[<- Paired.len R];exact j
  .unfold fnX at d;rw[B0 j]at d;cases d
 refine aJD F l S len fun A outer s H vs Q E I h=>?_;obtain⟨t,J,L⟩:=(i f cdv A outer s H E I).ex;refine⟨t (),J (),?_⟩;obtain⟨xs,M,W,r,M',G,R,d,m⟩:=h
 have j:xs.length=ps.length:=by
  by_cases j:xs.length=ps.length
  .exact j
  .unfold fnX at d;rw[B0 j]at d;cases d
 unfold fnX at d;rw[A4 j]at d;obtain⟨⟨o,M1⟩,O,d⟩:=aJ d
 have T:dC K W (xs.map Z++List.replicate (N.length-xs.length) Y) (start N vs):=by
  unfold start;rw[<- Paired.len R];exact Paired.app (cS.some R)<|rY _
 refine L () _ _ _ _ O W H _ _ G T fun n u B C=>?_;cases o with
 |xc D e=>cases d;exact fun σ c dx _ z=>m n u B C c dx z
 |o o=>
  cases o with
  |rt x=>cases d;exact fun v r=>m n u B C v r
  |nx D=>cases d;exact fun σ r=>m n u B C .non rfl
  |bk D=>cases d
  |ct D=>cases d
def Def.okX{st:Stmt}{ps:Tc}{b:SFX}(D:Def K mg x st)(S:aV N ps (aH st))
 (h:∀(kV doc pm:Tz)(an:Ti)(cdv ct:Tz)(us:T6),us.length=ps.length->bindArgs (PySem.W.fnOf x x (dQ st) (bU st) (aH st) .none kV doc pm an cdv ct) ⟨us,[]⟩=pure (ps.zip us))
 (d:∀(f:Uc)(cdv:Tz)(A:Uf)(outer:Tw Env)(s:Ub)(H:Hp)(E:XK),cK k (A.deeper<|envOfC x (aH st) s.heap.objs.size f cdv)->
  MLX K (aGv P w K mg base N x st f cdv A outer s H E) (fun _ _=>E) (bU st) b):dN P w K mg base (k+1) x ps (spX K (fnX ps.length N.length b)):=by
 obtain⟨f,fd,Fu,m⟩:=D.ex;exact⟨f,fd,Fu.okXF S d,m,Fu.kp,Fu.binds h⟩
end
end
structure XC(K:Fg)(C:Uc):Prop where
 c:wF K C
 ha:PySem.W.findIn K (.ref C) "__class__"=Z (Z (.builtin "object.__class__"))
 hn:PySem.W.specialIn K (.builtin "object.__class__") "__get__"=Z (Z (.builtin "getset_descriptor.__get__"))
 htk:PySem.W.takesIn K (.builtin "object.__class__")=Z true
 hm:PySem.W.mroIn K C (.type "object")=Z true
def aHH(H:Hp):Ti->Prop
 |none=>True
 |some d=>∃us,H d=Z (.xd us)
inductive ClV:V->Tz->Prop
 |own (C:Uc):ClV (.ref C) (.ref C)
 |ty (T:String):ClV (.ty T) (.type T)
def ClV.is(h:ClV v c)(r:RelV v u):u=c:=by cases h<;>exact r
def aAr(K:Fg):Td->Hp->VK->Prop:=fun xs H Q=>∃v d c b,xs=[v,d]/\ClV d c/\Q (.bl b) H /\
 ((v=.non/\PySem.W.kitOne K (.type "NoneType") c=Z b)\/∃a C dx fr,v=.ref a/\H a=Z (.ext (iE a (.ref C) dx fr))/\aHH H dx/\XC K C/\PySem.W.kitOne K (.ref C) c=Z b)
section
variable{X:Cx}{K:Fg}
def aAH(I:Inv X pins σ H s)(h:H a=Z (.ext (iE a (.ref C) dx fr)))(d:aHH H dx):∃c od,PySem.W.InstAt s.heap a c C od/\c.dict=dx:=by
 obtain⟨⟨o,vs,e,f,b,i,_⟩,_⟩:=I.hok a _ h
 have g:PySem.W.notCls o=true:=by
  obtain⟨_,_,dt,_⟩:=o;cases i;rfl
 cases dx with
 |none=>exact⟨o,Y,⟨e,f,g,by rw[b];exact True.intro⟩,b⟩
 |some j=>
  obtain⟨us,hd⟩:=d;obtain⟨od,q⟩:=(I.hok j _ hd).there;exact⟨o,Z od,⟨e,f,g,by rw[b];exact q⟩,b⟩
def WN:eX X (.builtin "isinstance") (aAr X.K):=by
 intro pins s σ H vs us Q I r h;obtain⟨v,k,c,b,rfl,i,q,h⟩:=h;obtain⟨u,l,rfl,g,f⟩:=vals2 r;cases i.is f;rcases h with⟨rfl,e⟩|⟨a,C,dx,fr,rfl,ha,d,xc,e⟩
 .cases g;exact PySem.W.kia_one PySem.W.kitx_none I.kIn True.intro e (fun z=>nomatch z) fun tk=>⟨.bl _,H,I.tok tk,rfl,q⟩
 .cases g;obtain⟨j,od,J,_⟩:=aAH I ha d;exact PySem.W.kia_one (aBu xc.c xc.ha xc.hn xc.htk xc.hm) I.kIn ⟨j,od,J⟩ e (fun z=>nomatch z) fun tk=>⟨.bl _,H,I.tok tk,rfl,q⟩
def aLc(h:X.K=K):eX X (.builtin "isinstance") (aAr K):=by subst h;exact WN
def DP(tab:Tw (Str×Bool))(nn:Tx Bool)(f:EF):EF:=fun a M=>(f a M).bind fun r=>match r.1 with
 |.c i=>(match r.2[i]? with
  |some (.exc _ nm _)=>(tab.lookup nm).bind fun b=>Z (.d (.bool b),r.2)
  |_=>Y)
 |.d .none=>nn.bind fun b=>Z (.d (.bool b),r.2)
 |_=>Y
def KU.ok(r:KU K W dx fs)(s:jN W.F H):aHH H dx:=by
 cases dx with
 |none=>exact True.intro
 |some d=>obtain⟨_,us,h,_⟩:=r;exact⟨us,s _ _ h⟩
def Good.excAt{i:Nat}(G:Good K W M H)(h:M[i]?=Z (.exc fr nm fs)):∃dx,H (W.α i)=Z (.ext (iE (W.α i) (.ref (aT K nm)) dx fr))/\KU K W dx fs:=by
 obtain⟨_,o,b,a⟩:=G.cs i _ h (by simp);cases o with
 |ext c=>
  obtain⟨dx,rfl,r⟩:=a;exact⟨dx,b,r⟩
 |_=>exact False.elim a
def aEW{tab:Tw (Str×Bool)}{nn:Tx Bool}{m:TE}{f:EF}{cv:V}{c:Tz}(n:ClV cv c)(ht:∀p∈tab,XC K (aT K p.1)/\PySem.W.kitOne K (.ref (aT K p.1)) c=Z p.2)(hn:∀b,nn=Z b->PySem.W.kitOne K (.type "NoneType") c=Z b)
 (a:SE K m f):SE K (tCB (aAr K)<|tG m<|tG (tC cv) XX) (DP tab nn f):=by
 intro C M x M' h W H σ Q G R k;obtain⟨⟨y,M1⟩,u,h⟩:=aJ h;refine a _ _ _ _ u W H σ _ G R fun v o q r j s=>?_;cases y with
 |t _=>cases h
 |f _=>cases h
 |g _=>cases h
 |c i=>
  dsimp only at h;cases e:M1[i]? with
  |none=>rw[e]at h;cases h
  |some cl=>
   rw[e]at h;cases cl with
   |exc fr nm fs=>
    obtain⟨b,l,h⟩:=aJ h;cases h;obtain⟨w,z⟩:=ht (nm,b)<|F0 l;obtain⟨dx,A,B⟩:=j.excAt e;exact⟨v,cv,c,b,rfl,n,k _ o q r j rfl,.inr ⟨_,_,dx,fr,s.2,A,B.ok j.fh,w,z⟩⟩
   |_=>cases h
 |d y=>
  cases y with
  |none=>
   obtain⟨b,l,h⟩:=aJ h;cases h;exact⟨v,cv,c,b,rfl,n,k _ o q r j rfl,.inl ⟨s,hn b l⟩⟩
  |_=>cases h
end
section
variable{ι:Type}{K:Fg}{X:ι->Cx}{a:Ud}{f:EF}{pos:Pos}
def aIB(hm:∀i,(X i).mg y=Z (.ref C))(b:∀i,Gl (X i) y:=by intro _;rfl)(hd:(y==("__debug__":Str))=false:=by decide):∀i c,PE (X i) (.Name y c) (tC (.ref C)):=fun i _=>zU (b i) (hm i) rfl hd
def aMk(hm:∀i,(X i).mg y=Y)(b:bootBuiltins y=Z (.type T))(c:∀i,Gl (X i) y:=by intro _;rfl)(hn:y≠"__name__":=by decide)(hd:(y==("__debug__":Str))=false:=by decide):∀i d,PE (X i) (.Name y d) (tC (.ty T)):=fun i _=>zQ (c i) (hm i) b rfl hn hd
def WH{p d:Pos}{tab:Tw (Str×Bool)}{nn:Tx Bool}(e:∀i,(X i).K=K)(g:ClV cv c)(h:∀i d,PE (X i) (.Name y d)<|tC cv)(ht:∀p∈tab,XC K (aT K p.1)/\PySem.W.kitOne K (.ref (aT K p.1)) c=Z p.2)(hn:∀b,nn=Z b->PySem.W.kitOne K (.type "NoneType") c=Z b)
 (x:ME K X a f) (hs:aCR a [.Name y d]) (hm:∀i,(X i).mg "isinstance"=Y) (j:∀i,Gl (X i) "isinstance":=by intro _;rfl):ME K X (.Call (.Name "isinstance" p) [a,.Name y d] [] pos) (DP tab nn f):=by
 obtain⟨t,x1,k⟩:=x.ex;exact⟨_,fun i=>wH (aLc<|e i) (j i) (hm i) boot_isinstance (kH (x1 i) (kH (h i _) CK dY)<|hs _) (by decide) (by decide) (hs _)<|oI dY xE,aEW g ht hn k⟩
end
def aJd(h:FX)(f:AF):EF:=fun a M=>(f a M).bind fun r=>(h r.1 r.2).bind fun q=>match q.1 with
 |.v x=>Z (x,q.2)
 |.x _=>Y
def zF:bootBuiltins "ValueError"=Z (.type "ValueError"):=by decide +kernel
section
variable{K:Fg}{cv:Tz}{a:Str}{b:Bool}{l:Tw (Str×Bool)}
def MV:∀p∈([]:Tw (Str×Bool)),PySem.W.exmOne K (.ref (aT K p.1)) cv=Z p.2:=fun _ h=>absurd h (by simp)
def kK(h:PySem.W.exmOne K (.ref (aT K a)) cv=Z b)(r:∀p∈l,PySem.W.exmOne K (.ref (aT K p.1)) cv=Z p.2):∀p∈(a,b)::l,PySem.W.exmOne K (.ref (aT K p.1)) cv=Z p.2:=by grind
def VP{b:Bool}(h:PySem.W.kitOne K (.type "NoneType") cv=Z b):∀c,Z b=Z c->PySem.W.kitOne K (.type "NoneType") cv=Z c:=fun c e=>by cases e;exact h
def kG(h:PySem.W.nsIn K mainGlobals nm=Z (Z (.ref C))):aT K nm=C:=by unfold aT;rw[h]
end
mutual
noncomputable def snap:Nat->Sto->CD->Tx Ua
 |_,_,.d x=>Z x
 |0,_,.c _=>Y
 |n+1,M,.c i=>match M[i]? with
  |some (.lst xs)=>(rW n M xs).bind fun a=>Z (.list a)
  |_=>Y
 |_,_,.f _=>Y
 |_,_,.g _=>Y
 |0,_,.t _=>Y
 |n+1,M,.t xs=>(rW n M<|xs.map cdA).bind fun a=>Z (.tuple a)
noncomputable def rW:Nat->Sto->T7->Tx (T5)
 |_,_,[]=>Z []
 |n,M,x::xs=>(snap n M x).bind fun d=>(rW n M xs).bind fun a=>Z (d::a)
end
section
variable{K:Fg}{W:Wd}{M:Sto}{H:Hp}
def Good.lstAt'(G:Good K W M H){i:Nat}(h:M[i]?=Z (.lst xs)):∃vs,H (W.α i)=Z (.lst vs)/\cS K W xs vs:=by
 obtain⟨_,o,b,a⟩:=G.cs i _ h (by intro z;cases z);cases o with
 |lst vs=>exact⟨vs,b,a⟩
 |_=>exact False.elim a
mutual
theorem AR(G:Good K W M H):∀(n:Nat)(x:CD)(d:Ua)(v:V),snap n M x=Z d->cM K W x v->Rep K H d v
 |0,.d x=>fun d v h r=>by unfold snap at h;cases h;exact Rep.same G.fh _ _ r
 |n+1,.d x=>fun d v h r=>by unfold snap at h;cases h;exact Rep.same G.fh _ _ r
 |0,.c i=>fun d v h r=>by unfold snap at h;cases h
 |n+1,.c i=>fun d v h r=>by
  unfold snap at h;cases e:M[i]? with
  |none=>rw[e]at h;cases h
  |some c=>
   rw[e]at h;cases c with
   |lst xs=>
    obtain⟨b,j,h⟩:=aJ (show(rW n M xs).bind _=_ from h);cases h;obtain⟨vs,k,m⟩:=G.lstAt' e;exact⟨W.α i,vs,r.2,SqL.of k,xR G n xs b vs j m⟩
   |_=>cases h
 |0,.f xs=>fun d v h r=>by unfold snap at h;cases h
 |n+1,.f xs=>fun d v h r=>by unfold snap at h;cases h
 |0,.g xs=>fun d v h r=>by unfold snap at h;cases h
 |n+1,.g xs=>fun d v h r=>by unfold snap at h;cases h
 |0,.t xs=>fun d v h r=>by unfold snap at h;cases h
 |n+1,.t xs=>fun d v h r=>by
  unfold snap at h;obtain⟨b,j,h⟩:=aJ h;cases h;obtain⟨a,vs,rfl,k,m⟩:=r;exact⟨a,vs,rfl,SqT.of<|G.fh _ _ k,xR G n _ b vs j<|VI m⟩
theorem xR(G:Good K W M H):∀(n:Nat)(xs:T7)(b:T5)(vs:Td),rW n M xs=Z b->cS K W xs vs->aQ K H b vs
 |_,[]=>fun b vs h r=>by
  unfold rW at h;cases h;cases r;rfl
 |n,x::xs=>fun b vs h r=>by
  unfold rW at h;obtain⟨d,j,h⟩:=aJ h;obtain⟨es,k,h⟩:=aJ h;cases h;cases r with
  |@cons _ v _ l o p=>exact⟨v,l,rfl,AR G n x d v j o,xR G n xs es l k p⟩
end
end
def aAP:snap n M (.d x)=Z x:=by cases n<;>simp only[snap]
open PySem PySem.Spec PyProof.Rows PySem.Builtin PySem.Builtin.ObjectAttr
def aDs:T6->Bool
 |.ref _::r=>aDs r
 |l=>l==bmV
theorem CY(self:Tz):∀{l:T6},aDs l=true->refuseLoop self "__setattr__" l=pure ()/\l.contains (.type "object")=true/\l.isEmpty=false
 |[]=>fun e=>absurd e (by decide)
 |.ref c::r=>fun e=>by
  obtain⟨a,d,_⟩:=CY self (l:=r) e;exact⟨by rw[refuseLoop_ref];exact a,by rw[List.contains_cons,d,Bool.or_true],rfl⟩
 |.none::r=>fun e=>absurd (beq_iff_eq.mp (show((.none::r:T6)==bmV)=true from e)) (by intro z;cases z)
 |.bool b::r=>fun e=>absurd (beq_iff_eq.mp (show((.bool b::r:T6)==bmV)=true from e)) (by intro z;cases z)
 |.int b t::r=>fun e=>absurd (beq_iff_eq.mp (show((.int b t::r:T6)==bmV)=true from e)) (by intro z;cases z)
 |.type n::r=>fun e=>by
  have q:(.type n::r:T6)=bmV:=beq_iff_eq.mp (show((.type n::r:T6)==bmV)=true from e);rw[q];exact⟨F.store_ValueError.passes self,by decide,rfl⟩
 |v::r=>fun e=>by
  cases v with
  |ref c=>
   obtain⟨a,d,_⟩:=CY self (l:=r) e;exact⟨by rw[refuseLoop_ref];exact a,by rw[List.contains_cons,d,Bool.or_true],rfl⟩
  |type n=>
   have q:(.type n::r:T6)=bmV:=beq_iff_eq.mp (show((.type n::r:T6)==bmV)=true from e);rw[q];exact⟨F.store_ValueError.passes self,by decide,rfl⟩
  |_=>exact absurd (beq_iff_eq.mp e) (by intro z;cases z)
def UA(K:Fg)(C:Uc):Bool:=(PySem.W.clsIn K C).any fun a=>aDs a.mro
section
variable{prog:Ue}{w:World}{A:Uf}{E:T1}{s:Ub}{K:Fg}{x C:Uc}{ox:Obj}{name:Str}{v:Tz}
def aFI{Q:Unit->Ub->Prop}(X:K.In s.heap)(I:PySem.W.InstAt s.heap x ox C Y)(u:ox.data=.fields vs)(hs:PySem.W.findIn K (.ref C) "__setattr__"=Z (Z (.builtin "object.__setattr__")))(hp:UA K C=true)(ht:PySem.W.takerIn K C name=Z Y)(L:PySem.W.hasDictIn K C=true)
 (h:∀h',h'.get? x=Z { ox with dict:=Z s.heap.objs.size }->h'.Ns1 s.heap.objs.size (fun y=>if y=name then Z v else Y)->(∀b o,b≠x->s.heap.get? b=Z o->h'.get? b=Z o)->Q () { s with heap:=h',toks:=s.toks+2 }):
 wpAny (model prog w) A (setAttr (.ref x) name v) Q E s:=by
 refine PySem.W.set_plain X I hs ?_;have SF:=F.store_object;obtain⟨M,B,N⟩:=PySem.W.any_some hp;obtain⟨O,P,R⟩:=CY (.ref x) N;have sub:PySem.W.Looks (model prog w) s.heap (isInstance (.ref x) (.type "object")) true:=I.type.andThen<|PySem.W.looks_mroIn X (by unfold PySem.W.mroIn;rw[B,A1,B0 (by rw[R];decide),P]);refine codeAny_call_builtin SF.slot.plain SF.entry<|@PySem.W.check_slot (model prog w) _ _ { s with toks:=s.toks+1 } "object.__setattr__" "object" "__setattr__" (.ref x) [.str name s.toks,v] [] _ SF.kind SF.split sub (SF.args (.ref x) (.str name s.toks) v) ?_;obtain⟨c,ha,D⟩:=Option.bind_eq_some_iff.mp ht;have hm:PySem.W.Looks (model prog w) s.heap (mroOf (.ref C)) M.mro:=(PySem.W.looks_clsIn X B).andThen .now
 have S:PySem.W.Looks (model prog w) s.heap (storeTaker? c) Y:=by
  cases c with
  |none=>cases D;exact .now
  |some a=>
   obtain⟨b,j,e⟩:=Option.map_eq_some_iff.mp D;refine(PySem.W.looks_takesIn X j).andThen ?_;cases b
   .exact .now
   .cases e
 rw[PySem.W.osa_eq,refuse_eq];have k0:∀b o,s.heap.get? b=Z o->({ s with toks:=s.toks+1 }:Ub).heap.get? b=Z o:=fun _ _ z=>z;refine A0<|A0<|U0 (s:={ s with toks:=s.toks+1 }) I.type<|A0<|U0 (s:={ s with toks:=s.toks+1 }) hm ?_;rw[O];refine B1<|A0<|U0 (s:={ s with toks:=s.toks+1 }) I.type<|A0<|U0 (s:={ s with toks:=s.toks+1 }) (Y6 X ha)<|A0<|U0 (s:={ s with toks:=s.toks+1 }) S ?_;obtain⟨T,k,l⟩:=PySem.W.any_some L
 have G:ox.dict=Y:=by
  have:=I.dict;cases q:ox.dict with
  |none=>rfl
  |some d=>rw[q]at this;exact this.elim
 have m:=I.at_;have f:=I.cls;obtain⟨oc,U,V,osl⟩:=ox;dsimp only at f G u;subst f G u;refine A0<|B1<|A0<|A0<|A0v m<|A0<|U0 (s:={ s with toks:=s.toks+1 }) (PySem.W.looks_clsIn X k) ?_;rw[l];rw[B0 (by decide)];show wpAny _ _ (if (!true || !typeHasDict (.ref C))=true then pure Y else _) _ _ _;rw[B0 (by simp[typeHasDict])];have x1:(s.heap.push { cls:=.type "dict",data:=.dict #[] }).get? x=Z ⟨.ref C,Y,.fields vs,osl⟩:=A5 _ m;have xs:x≠s.heap.objs.size:=D1<|C2 m;refine A0<|wpAny_alloc' ?_;refine A0<|wpAny_update' x1 ?_;refine B1 ?_;generalize n:(s.heap.push { cls:=.type "dict",data:=.dict #[] }).update x (fun o=>{ cls:=o.cls,dict:=Z s.heap.objs.size,data:=o.data,slots:=o.slots })=J
 have gd:J.get? s.heap.objs.size=Z { cls:=.type "dict",data:=.dict #[] }:=by
  rw[<- n];exact(L9 _ _ xs).trans (D0 s.heap rfl)
 have gn:J.Ns s.heap.objs.size (fun _=>Y):=⟨_,#[],_,gd,rfl,fun e he=>absurd he (by simp),fun _=>rfl⟩;show wpAny _ _ (storeInDict s.heap.objs.size (.str name s.toks) name v) _ _ _;unfold storeInDict newKeyGuard;refine A0<|B1<|A0 (wpAny_nsSet1 (Heap.Ns1.of_empty gn) fun h' g i=>?_);obtain⟨oD,a0,a1,p,r,t⟩:=g.count<|PySem.Within.cons name v PySem.Within.nil;refine A0<|wpAny_lookBehind p (by rw[r];exact pastItsLine_dict<|E7 t (by rw[B5,List.length_nil,O6];omega)) ?_;refine B1 ?_;refine h h' ?_ g fun b o j q=>?_
 .rw[i.2 x xs,<- n];exact O3 _ x1 rfl
 .rw[i.2 b (D1<|C2 q),<- n,L9 _ _<|O1 j];exact A5 _ q
end
end L2
namespace L2
variable{H:Hp}{W:Wd}{M:Sto}
open PySem PySem.Spec PyProof.Rows
def BM(K:Fg)(C:Uc):Bool:=match K.lookup C with
 |some ⟨.type "type",_,.cls a,sl⟩=>(match a.mro,sl.toList with
  |.ref b::bm,[_,_,_,_,some (.builtin n),_]=>b==C&&n=="ValueError.__new__"&&!a.hasDel&&PySem.W.tailIn K bmV bm
  |_,_=>false)
 |_=>false
def vQ{K:Fg}(X:K.In h)(q:BM K C=true):
 ∃bm N nm a bs hd sn sub ab col dd k0 k1 k2 k3 k5,h.get? C=Z (excClassObj nm a C N bs bm hd sn sub ab col dd k0 k1 k2 k3 k5 "ValueError.__new__")/\OwnTail h bmV bm:=by
 unfold BM at q;split at q
 case h_2=>cases q
 case h_1 dd b sl c=>
  split at q
  case h_2=>cases q
  case h_1 k bm k0 k1 k2 k3 n k5 hm hs=>
   simp only[Bool.and_eq_true,beq_iff_eq,Bool.not_eq_true']at q;obtain⟨⟨⟨d,e⟩,f⟩,g⟩:=q;subst d e;cases b with
   |mk nm bs i ns a hd sn sub ab col j=>
    cases hm;cases f
    have es:sl=#[k0,k1,k2,k3,Z (.builtin "ValueError.__new__"),k5]:=by
     cases sl with
     |mk l=>exact S0 Array.mk hs
    cases es;exact⟨bm,ns,nm,a,bs,hd,sn,sub,ab,col,dd,k0,k1,k2,k3,k5,X _ _ c,PySem.W.tail_of_in X g⟩
section
variable{prog:Ue}{w:World}{A:Uf}{E:T1}{K:Fg}{C f:Uc}
def aEG{g:Array GenState}{d:Drawn}{t:Nat}{os:OsState}{us:T6}{Q:Fin->Ub->Prop}(X:K.In h)(q:BM K C=true)(hi:PySem.W.findIn K (.ref C) "__init__"=Z (Z (.ref f)))(k:PySem.W.typeIn K (.ref f)=Z (.type "function"))(l:us.length<=sizeLine)
 (m:∀h' e,Heap.MadeExcOf h h' e (.ref C) us->wpAny (model prog w) A (call (.ref f) (.ref e::us)) (fun r i=>r=.none/\Q (.done (.ret (.ref e))) i) E ⟨h',g,d,t,os⟩):
 wpAny (model prog w) A (Builtin.«type.__call__» ⟨.ref C::us,[]⟩) Q E ⟨h,g,d,t,os⟩:=by
 obtain⟨bm,N,nm,u,bs,hd,v,sub,x,n,y,B,D,G,I,J,a,T⟩:=vQ X q;have F:=PySem.F.excBase_ValueError
 repeat (first|(with_reducible refine wpAny_loadPart_at a ?_)|(with_reducible refine wpAny_madeBy_exc a ?_)|wp_step)
 refine codeAny_call_builtin_code (Code.quiet_builtin _ F.quiet)<|wpAny_check_new_subT F T a<|codeAny_exc_new_subT F T a ?_ l;show wpAny _ _ _ _ _ _;have kp:∀b o,h.get? b=Z o->((h.push { cls:=.type "tuple",data:=.seq us.toArray }).push { cls:=.ref C,data:=.fields #[.ref h.objs.size,.none,.none,.none,.bool false,.none] }).get? b=Z o:=fun b o z=>A5 _<|A5 _ z
 have j:((h.push { cls:=.type "tuple",data:=.seq us.toArray }).push { cls:=.ref C,data:=.fields #[.ref h.objs.size,.none,.none,.none,.bool false,.none] }).get? (h.objs.size+1)=Z { cls:=.ref C,data:=.fields #[.ref h.objs.size,.none,.none,.none,.bool false,.none] }:=by
  have:=D0 (h.push { cls:=.type "tuple",data:=.seq us.toArray }) (o:={ cls:=.ref C,data:=.fields #[.ref h.objs.size,.none,.none,.none,.bool false,.none] }) rfl
  rwa [A0i]at this
 have ht:((h.push { cls:=.type "tuple",data:=.seq us.toArray }).push { cls:=.ref C,data:=.fields #[.ref h.objs.size,.none,.none,.none,.bool false,.none] }).get? h.objs.size=Z { cls:=.type "tuple",data:=.seq us.toArray }:=A5 _<|D0 h rfl;have p:(Value.ref C::bm).contains (.ref C)=true:=by simp
 have c:=kp _ _ a;have s:=Y6 (M:=model prog w) (X.keeps kp) hi;have L2:=PySem.W.bind_fn (M:=model prog w) (X.keeps kp) (.ref (h.objs.size+1)) k;unfold isInstance
 repeat (first|(with_reducible refine wpAny_loadPart_at j ?_)|(with_reducible refine wpAny_isSubtype_exc c ?_;rw[p])|wp_step)
 show wpAny _ _ (typeLookup (.ref C) _) _ _ _;refine s.at ?_;refine L5<|A0<|L2.at ?_;refine A0 (F6 (m _ (h.objs.size+1) ⟨kp,Z0<|A0j _,h.objs.size,j,Z0<|B3 _,ht⟩) (fun r i z=>?_) fun _ _ z=>z);obtain⟨rfl,z⟩:=z
 wp_walk
 exact z
def YW{s:Ub}{us:T6}{Q:T1}(X:K.In s.heap)(q:BM K C=true)(hi:PySem.W.findIn K (.ref C) "__init__"=Z (Z (.ref f)))(b:PySem.W.typeIn K (.ref f)=Z (.type "function"))(c:us.length<=sizeLine)
 (i:∀h' e,Heap.MadeExcOf s.heap h' e (.ref C) us->wpAny (model prog w) (A.under (.builtin "type.__call__" ⟨.ref C::us,[]⟩)) (call (.ref f) (.ref e::us)) (fun r j=>r=.none/\Q (.ref e) j) E { s with heap:=h' }):
 wpAny (model prog w) A (call (.ref C) us) Q E s:=by
 obtain⟨bm,N,nm,l,bs,hd,m,sub,n,k,o,p,u,v,x,y,a,T⟩:=vQ X q;obtain⟨h,g,d,t,os⟩:=s;have f1:=tc_lookup;have f2:=tc_bind (.ref C);have hT:(⟨h,g,d,t,os⟩:Ub).TypeIs (.ref C) "type":=⟨_,a,rfl⟩;refine A0w<|codeAny_of_tree ?_;show wpAny _ _ (callAny (.ref C) ⟨us,[]⟩) _ _ _
 repeat (any_goals (first|assumption|(with_reducible refine wpAny_loadPart_at a ?_)|wp_step))
 refine⟨rfl,?_⟩;refine codeAny_call_builtin_at (Code.quiet_builtin _ (by decide +kernel)) entry_typeCall<|wpAny_check_type_call_sub a (aEG (f:=f) X q hi b c fun h' e mk=>?_);exact i h' e mk
end
def unt(H:Hp)(e:Uc):Hp:=fun b=>if b=e then Y else H b
def iY{a b:Uc}(h:b≠a):unt H a b=H b:=by unfold unt;rw[B0 h]
def nQ:unt H a a=Y:=by unfold unt;rw[A4 rfl]
section
variable{X:Cx}{pins:T2}{σ:St}{H:Hp}{s:Ub}
def Inv.untrack(I:Inv X pins σ H s)(d:H e=Z (.ext a)):Inv X pins σ (unt H e) s:=by
 have up:∀b,H b=Y->unt H e b=Y:=fun b q=>by
  by_cases z:b=e
  .rw[z,nQ]
  .rw[iY z];exact q
 have ne:∀b u,H b=Z u->(∀f,u≠.ext f)->b≠e:=fun b u q n z=>by
  rw[z,d]at q;cases q;exact n a rfl
 refine⟨I.ok,I.os,I.bare,⟨I.base.keep,I.base.slot,fun b o q n g=>up b<|I.base.free b o q n g,I.base.there,fun b xs q=>?_,fun b o u q=>?_,fun b ps q=>?_⟩,I.loc,I.cell,up _ I.free,fun x c q=>up _<|I.freeC x c q,fun p h=>?_,fun b u q=>?_,I.len⟩
 .have:=I.base.tups b xs q;rw[iY (ne _ _ this fun _ z=>by cases z)];exact this
 .have:=I.base.frzs b o u q;rw[iY (ne _ _ this fun _ z=>by cases z)];exact this
 .obtain⟨more,this⟩:=I.base.tbls b ps q;exact⟨more,by rw[iY (ne _ _ this fun _ z=>by cases z)];exact this⟩
 .obtain⟨i,j,k⟩:=I.pin p h;exact⟨i,up _ j,k⟩
 .have l:b≠e:=fun z=>by rw[z,nQ]at q;cases q
  rw[iY l]at q;exact(I.hok b u q).stay (fun _ _ _ z=>z) (fun c z=>by rw[iY (ne _ _ z fun _ w=>by cases w)];exact z) fun c xs z=>by rw[iY (ne _ _ z fun _ w=>by cases w)];exact z
structure vZ(K:Fg)(C:Uc)(f:Str):Prop where
 sa:PySem.W.findIn K (.ref C) "__setattr__"=Z (Z (.builtin "object.__setattr__"))
 ov:UA K C=true
 tk:PySem.W.takerIn K C f=Z Y
 hd:PySem.W.hasDictIn K C=true
 na:PySem.W.findIn K (.ref C) f=Z Y
def aGi{f:Str}{Q:Unit->Ub->Prop}(I:Inv X pins σ H s)(e:H a=Z (.ext (iE a (.ref C) Y true)))(c:vZ X.K C f)(F:RelV y u)
 (h:∀d x,H d=Y->d≠a->Inv X pins σ (upd (upd H d (.xd [(f,y)])) a (.ext (iE a (.ref C) (Z d) true))) x->Q () x):wpAny (model X.prog X.w) A (setAttr (.ref a) f u) Q E s:=by
 obtain⟨⟨o,vs,B,D,G,l,m⟩,_⟩:=I.hok a _ e;obtain⟨m,J⟩:=m
 have L:PySem.W.notCls o=true:=by
  obtain⟨_,_,dt,_⟩:=o;cases l;rfl
 have hn:H s.heap.objs.size=Y:=I.hok.fresh<|B3 _;have p:s.heap.objs.size≠a:=Z9<|C2 B;refine aFI I.kIn ⟨B,D,L,by rw[G];exact True.intro⟩ l c.sa c.ov c.tk c.hd fun h' q N j=>h s.heap.objs.size _ hn p ?_;have i:∀b w,H b=Z w->b≠s.heap.objs.size:=fun b w z=>aO z hn;refine I.un (t':=s.toks+2) ⟨fun b ob z n _ _=>?_,fun b ob z n _ _=>?_,fun b ob z n _=>?_,fun b ob z _=>?_,fun b xs z=>?_,fun b ob w z=>?_,fun b ps z=>?_⟩ fun b w z=>?_
 .exact j b ob (fun w=>by rw[w,e]at n;cases n) z
 .exact⟨ob.slots,j b ob (fun w=>by rw[w,e]at n;cases n) z⟩
 .rw[aK (fun w=>by rw[w,e]at n;cases n),aK<|D1<|C2 z];exact n
 .by_cases w:b=a
  .rw[w];exact⟨_,q⟩
  .exact⟨ob,j b ob w z⟩
 .rw[aK (nG z e (by intro w;cases w)),aK<|i _ _ z];exact z
 .rw[aK (nG z e (by intro w;cases w)),aK<|i _ _ z];exact z
 .exact⟨#[],by rw[aK (nG z e (by intro w;cases w)),aK<|i _ _ z,z];simp⟩
 .by_cases t:b=a
  .subst t;rw[aX]at z;cases z;exact⟨⟨_,vs,q,D,rfl,l,m,J⟩,⟨_,q⟩,fun T U ⟨o',O,P,R⟩ S=>⟨o',O,S o' P,R⟩⟩
  .rw[aK t]at z;by_cases hd:b=s.heap.objs.size
   .subst hd;rw[aX]at z;cases z;refine⟨_,N,fun g=>?_⟩;show xS (List.lookup g [(f,y)]) (if g=f then Z u else Y);by_cases k:g=f
    .rw[A4 k,k,E2,A0g];exact F
    .rw[B0 k,E2,beq_eq_false_iff_ne.mpr k];exact True.intro
   .rw[aK hd]at z;refine(I.hok b w z).stay (fun c v hc r=>j c v ?_ r) (fun c r=>?_) fun c xs r=>?_
    .rcases hc with rfl|hc
     .exact t
     .exact nG hc e (by intro w;cases w)
    .rw[aK (nG r e (by intro w;cases w)),aK<|i _ _ r];exact r
    .rw[aK (nG r e (by intro w;cases w)),aK<|i _ _ r];exact r
def aFM{d:Uc}{v:V}{Q:T1}(I:Inv X pins σ H s)(e:H a=Z (.ext (iE a (.ref C) (Z d) fr)))(hd:H d=Z (.xd us))(c:wF X.K C)(cs:vZ X.K C f)(l:us.lookup f=Z v)
 (h:∀u g,Inv X pins σ H g->RelV v u->Q u g):wpAny (model X.prog X.w) A (getAttr (.ref a) f b) Q E s:=by
 obtain⟨⟨o,vs,j,k,m,n,z⟩,_⟩:=I.hok a _ e;obtain⟨mA,p,r⟩:=(show eJ X.prog X.w H s.heap d (.xd us)from I.hok d _ hd);obtain⟨u,q,i⟩:=xS.some_of (v:=v) (o:=mA f) (by rw[<- l];exact r f);obtain⟨od,t,x⟩:=GP p
 have y:PySem.W.notCls o=true:=by
  obtain⟨_,_,dt,_⟩:=o;cases n;rfl
 have J:PySem.W.InstAt s.heap a o C (Z od):=⟨j,k,y,by rw[m];exact t⟩;exact aES I.kIn J c (PySem.W.findObj_own cs.hd cs.na rfl (by rw[x,q])) (ZY i)<|h u _ (I.tok _) i
def Inv.newX(I:Inv X pins σ H s)(mk:Heap.MadeExcOf s.heap h' e (.ref C) us):H e=Y/\Inv X pins σ (upd H e (.ext (iE e (.ref C) Y true))) { s with heap:=h' }:=by
 have hn:H e=Y:=by
  cases z:H e with
  |none=>rfl
  |some u=>
   obtain⟨o,a⟩:=(I.hok e u z).there;rw[mk.new]at a;cases a
 obtain⟨t,d,_,_⟩:=mk.there;refine⟨hn,I.un (t':=s.toks) ⟨fun b o q _ _ _=>mk.keeps b o q,fun b o q _ _ _=>⟨o.slots,mk.keeps b o q⟩,fun b o q n _=>?_,fun b o q _=>⟨o,mk.keeps b o q⟩,fun b xs q=>?_,fun b o u q=>?_,fun b ps q=>?_⟩ fun b u q=>?_⟩
 .rw[aK (fun z=>by rw[z,mk.new]at q;cases q)];exact n
 .rw[aK (aO q hn)];exact q
 .rw[aK (aO q hn)];exact q
 .exact⟨#[],by rw[aK (aO q hn),q];simp⟩
 .by_cases f:b=e
  .subst f;rw[aX]at q;cases q;exact⟨⟨_,_,d,rfl,rfl,rfl,fun _=>⟨by show 4<6;decide,rfl,rfl⟩,fun _=>rfl⟩,⟨_,d⟩,fun k l ⟨o',g,h,i⟩ j=>⟨o',g,j o' h,i⟩⟩
  .rw[aK f]at q;exact(I.hok b u q).stay (fun c v _ r=>mk.keeps c v r) (fun c r=>by rw[aK (aO r hn)];exact r) fun c xs r=>by rw[aK (aO r hn)];exact r
end
section
variable{X:Cx}{C f:Uc}{x:Str}{p pos:Pos}{k:Nat}{fd:FuncData}{ps:Tc}{sp:Sp}{e:Ud}{es:T9}{t:TA}
structure MkX(K:Fg)(C f:Uc):Prop where
 ex:BM K C=true
 init:PySem.W.findIn K (.ref C) "__init__"=Z (Z (.ref f))
 fn:PySem.W.isFn K (.ref f)=true
 kp:PySem.W.keepIn K (.ref C)=true
def JY(C:Uc)(sp:Sp)(t:TA):TE:=fun c H Q=>t c H fun vs b=>vs.length<=sizeLine/\∀a,b a=Y->sp (.ref a::vs) (upd b a (.ext (iE a (.ref C) Y true))) (fun v d=>v=.non/\Q (.ref a) d) E0
def ZN{Q:VK}(M:MkX X.K C f)(F:iI X.prog X.w X.K X.mg X.base CX0 k f fd ps sp qq)(n:cK (k+1) X.A qq)(q:Binds X.K fd ps [])(I:Inv X pins i H s)(r:bH vs us)
 (y:vs.length<=sizeLine) (h:∀a,H a=Y->sp (.ref a::vs) (upd H a (.ext (iE a (.ref C) Y true))) (fun v B=>v=.non/\Q (.ref a) B) E0):
 wpAny (model X.prog X.w) X.A (call (.ref C) us) (fun v j=>∃a H',v=.ref a/\Inv X pins i H' j/\(X.ex=[]->X.s₀.heap.get? a=Y)/\Q (.ref a) H') X.xe s:=by
 refine YW I.kIn M.ex M.init (beq_iff_eq.mp M.fn) (by rw[<- r.length];exact y) fun h' a mk=>?_;obtain⟨D,g⟩:=I.newX mk;have l:=h a D;have m:bH (V.ref a::vs) (Value.ref a::us):=.cons rfl r
 have d:(Value.ref a::us).length=ps.length:=by
  have e:=m.length;rw[F.len _ _ _ _ l]at e;exact e.symm
 have b:=q { s with heap:=h' } (Value.ref a::us) g.kIn (by rw[J0];exact d);rw[J0]at b;refine A0w (Z4 (F.run _ X.stack _ _ ⟨Value.ref a::us,[]⟩ (Value.ref a::us) _ _ E0 (n.make C us []) (g.env0.make C us []) b m l) fun E j c=>?_);cases E with
 |error e=>exact False.elim c
 |ok G=>
  cases G with
  |ret u=>
   obtain⟨v,H',J,L,ev,N⟩:=g.after c;subst ev
   have O:X.ex=[]->X.s₀.heap.get? a=Y:=fun P=>by
    cases z:X.s₀.heap.get? a with
    |none=>rfl
    |some o=>
     obtain⟨R,z1⟩:=I.base.there a o z (by rw[P];simp);rw[mk.new]at z1;cases z1
   exact⟨L,a,H',rfl,J,O,N⟩
  |next=>exact False.elim c
  |brk=>exact False.elim c
  |cont=>exact False.elim c
def GI(M:MkX X.K C f)(F:iI X.prog X.w X.K X.mg X.base CX0 k f fd ps sp qq)(i:cK (k+1) X.A qq)(j:Gl X x)(hm:X.mg x=Z (.ref C))(l:Binds X.K fd ps [])
 (ha:PA X (e::es) t) (c:(x==("__debug__":Str))=false) (m:starEach (e::es) X.env=(false,eval e X.env)::starEach es X.env) (d:(backTo pos<|starEach es X.env).any (·.1)=false) {H:Hp} (I:Inv X pins b H s) (h:JY C sp t b H Q):
 wpAny (model X.prog X.w) X.A (eval (.Call (.Name x p) (e::es) [] pos) X.env) (fun v n=>∃a H',v=.ref a/\Inv X pins b H' n/\(X.ex=[]->X.s₀.heap.get? a=Y)/\Q (.ref a) H') X.xe s:=by
 refine Y3<|pK I j hm ?_ c;exact Z5 (h₀:=X.base) I.ok.mod.kin M.kp (thn (ha pos pins s b H _ I h) fun us s1 ⟨vs,u,g,r,o,q⟩=>⟨g.kIn,ZN M F i l g r o q⟩) m d
end
def aFO{A:Uf}{E:T1}{K:Fg}{Q:Flow->Ub->Prop}(g:A.handled=Y)(q:BM K C=true)(be:PySem.W.subIn K (.ref C) (.type "BaseException")=Z true)
 (h:wpAny (model prog w) A (eval e env) (fun v s1=>∃a b vs,v=.ref a/\K.In s1.heap/\s1.heap.get? a=Z b/\b.cls=.ref C/\b.data=.fields vs/\vs[1]?=Z .none/\E (.ref a) s1) E s):
 wpAny (model prog w) A (exec (.Raise (Z e) Y pos) env) Q E s:=by
 show wpAny (model prog w) A (do standAt pos;raiseStmt env (Z (do let v <- eval e env;standAt pos;pure v)) Y) Q E s;refine A0<|Y0 ?_;unfold raiseStmt;dsimp only;refine A0<|A0 (F6 h (fun v s1 z=>A0<|Y0<|B1 ?_) fun _ _ z=>z);obtain⟨a,b,vs,rfl,X,c,i,f,j,k⟩:=z;have LT:PySem.W.Looks (model prog w) s1.heap (typeOf (.ref a)) (.ref C):=i▸(U9 c).andThen .now;have LS:=PySem.W.looks_subIn (M:=model prog w) X be;obtain⟨bm,N,nm,n,bs,hd,o,sub,p,l,r,t,u,x,y,B,m,_⟩:=vQ X q;have LC:PySem.W.Looks (model prog w) s1.heap (typeOf (.ref C)) (.type "type"):=(U9 m).andThen .now
 have nt:∀{d:Bool->Ub->Prop},d false s1->wpAny (model prog w) A (isType (.ref a)) d E s1:=fun{d} z=>by
  simp only[isType,loadHead];refine A0<|A0v c ?_;rw[f];exact B1 z
 refine A0<|B1 ?_;dsimp only;refine A0<|L5 ?_;unfold excFromValue isExcClass;refine A0<|A0<|nt ?_;simp only[Bool.false_eq_true,if_false];refine B1 ?_;simp only[Bool.false_eq_true,if_false];unfold isInstance;refine A0<|A0<|LT.here<|LS.here ?_;simp only[if_true];refine B1 ?_;refine A0<|nt ?_;simp only[Bool.false_eq_true,if_false];unfold raisedInstance;refine A0<|A0<|LT.here<|A0<|LC.here ?_;rw[A4 (by decide)];refine B1 ?_;unfold setFlight;refine A0<|A0<|L8 c f j ?_;rw[B0 (by decide)];exact B1<|wpAny_raiseNew_none g k
section
variable{X:Cx}{C f:Uc}{x:Str}{p cpos pos:Pos}{k:Nat}{fd:FuncData}{ps:Tc}{sp:Sp}{e:Ud}{es:T9}{t:TA}
def KM(EE:St->XK)(C:Uc)(sp:Sp)(t:TA):TS:=fun _ b H=>JY C sp t b H fun v c=>∃a dx,v=.ref a/\c a=Z (.ext (iE a (.ref C) dx true))/\EE b (.ref C) dx (unt c a)
def YF(ok:XOk X EE)(u:X.calm=true)(M:MkX X.K C f)(be:PySem.W.subIn X.K (.ref C) (.type "BaseException")=Z true)(F:iI X.prog X.w X.K X.mg X.base CX0 k f fd ps sp)(y:cK (k+1) X.A)(B:Gl X x)(hm:X.mg x=Z (.ref C))(E:Binds X.K fd ps [])
 (ha:PA X (e::es) t) (d:(x==("__debug__":Str))=false) (G:starEach (e::es) X.env=(false,eval e X.env)::starEach es X.env) (g:(backTo cpos<|starEach es X.env).any (·.1)=false):
 PS X (.Raise (Z (.Call (.Name x p) (e::es) [] cpos)) Y pos) (KM EE C sp t):=by
 intro pins s J H D I h;refine aFO (I.ok.hd u) M.ex be ?_;refine F6 (GI (X:=X) (p:=p) (pos:=cpos) M F y B hm E ha d G g I h) (fun v s1 ⟨b,L,ev,c,new,a,dx,ex,i,q⟩=>?_) fun _ _ z=>z;obtain rfl:b=a:=V.ref.inj ex;subst ev;obtain⟨⟨o,vs,l,m,N,n,O⟩,_⟩:=c.hok b _ i;obtain⟨z1,r,P⟩:=O.1 rfl;have Q:Inv X [] J (unt L b) s1:=(c.untrack i).pins_of fun p j=>absurd j (by simp);refine⟨b,o,vs,rfl,c.kIn,l,m,n,r,ok.pass _ _<|QB ok.bd Q l nQ (new ok.bd.ex) (fun p j z=>?_) n (Nat.lt_of_le_of_lt (by decide) z1) r (fun _=>P) (by rw[m,N];exact q)⟩
 .have:=(c.pin p<|E4 _ j).2.1;rw[z,i]at this;cases this
end
section
variable{X:Cx}{o value e:Ud}{ta tv:TE}{f:Str}{pos pos':Pos}
def aAu(K:Fg)(ta tv:TE)(f:Str):TS:=fun D b H=>tv b H fun y g=>ta b g fun x c=>∃a C,x=.ref a/\c a=Z (.ext (iE a (.ref C) Y true))/\vZ K C f/\∀d,c d=Y->d≠a->D.nx b (upd (upd c d (.xd [(f,y)])) a (.ext (iE a (.ref C) (Z d) true)))
def aDW(ha:PE X o ta)(i:PE X value tv)(hs:swapsWith value (Z (.Attribute o f pos')) pos.line X.env=pure false):PS X (.Assign [.Attribute o f pos'] value pos) (aAu X.K ta tv f):=by
 intro pins s b H D I h;refine plainObj_wpAny_Assign_Attribute (thn (i pins s b H _ I h) fun u s1 ⟨y,j,k,l,q⟩=>thn (ha pins s1 b j _ k q) fun ov s2 ⟨x,v,m,n,a,C,ex,p,c,r⟩=>?_) hs;subst ex;obtain rfl:ov=Value.ref a:=n;exact aGi m p c l fun d s3 hd g t=>⟨b,_,t,r d hd g⟩
def aHh(K:Fg)(ta:TE)(f:Str):TE:=fun c H Q=>ta c H fun x b=>∃a C d fr us v,x=.ref a/\b a=Z (.ext (iE a (.ref C) (Z d) fr))/\b d=Z (.xd us)/\wF K C/\vZ K C f/\us.lookup f=Z v/\Q v b
def aGt(b:PE X e ta)(g:attributeBase e f X.env (eval e X.env)=eval e X.env):PE X (.Attribute e f pos) (aHh X.K ta f):=by
 intro pins s i H Q I h;refine aGc g (thn (b pins s i H _ I h) fun u s1 ⟨x,j,k,m,a,C,d,fr,us,v,ex,p,hd,c,n,l,q⟩=>?_);subst ex;obtain rfl:u=Value.ref a:=m;exact aFM k p hd c n l fun w s2 r t=>⟨v,j,r,t,q⟩
end
def uU(nm:Str)(h:FN)(fa:AF):EF:=fun a M=>(fa a M).bind fun r=>if r.1.length<=sizeLine then(h (.c r.2.length::r.1) (r.2++[.exc true nm []])).bind fun q=>if jL q.1=true then Z (.c r.2.length,q.2)else Y else Y
def excOf(M:Sto):CD->Tx (Nat×Bool×Str×Tv)
 |.c i=>match M[i]? with
  |some (.exc fr nm fs)=>Z (i,fr,nm,fs)
  |_=>Y
 |_=>Y
def qT{i:Nat}{fr:Bool}{nm:Str}{fs:Tv}(h:excOf M x=Z (i,fr,nm,fs)):x=.c i/\M[i]?=Z (.exc fr nm fs):=by
 unfold excOf at h;split at h
 .rename_i j;split at h
  .rename_i a b c e;cases h;exact⟨rfl,e⟩
  .cases h
 .cases h
def xH(nm f:Str)(b ev:EF):SF:=fun a M=>(ev a M).bind fun v=>(b a v.2).bind fun o=>(excOf o.2 o.1).bind fun p=>if p.2.1=true/\p.2.2.1=nm/\p.2.2.2.isEmpty=true then Z (.nx a,o.2.set p.1 (.exc true nm [(f,v.1)]))else Y
def pO(nms:Tc)(f:Str)(e:EF):EF:=fun a M=>(e a M).bind fun r=>(excOf r.2 r.1).bind fun p=>if p.2.2.1∈nms then(p.2.2.2.lookup f).bind fun v=>Z (v,r.2)else Y
def gP(nm:Str)(h:FN)(fa:AF):SFX:=fun a M=>(uU nm h fa a M).bind fun r=>(excOf r.2 r.1).bind fun p=>if p.2.1=true/\p.2.2.1=nm then Z (.xc a ⟨nm,p.2.2.2⟩,r.2.set p.1 .dead)else Y
section
variable{K:Fg}{EE:St->XK}{ta tv:TE}{tA:TA}
def NB(b:SA K tA fa):SE K (JY (aT K nm) (spM K h) tA) (uU nm h fa):=by
 intro D M x M' e W H s Q G R k;obtain⟨⟨f,M1⟩,t,e⟩:=aJ e
 have j:f.length<=sizeLine:=by
  by_cases z:f.length<=sizeLine
  .exact z
  .rw[B0 z]at e;cases e
 rw[A4 j]at e;obtain⟨⟨z,M2⟩,u,e⟩:=aJ e
 have l:jL z=true:=by
  cases q:jL z with
  |true=>rfl
  |false=>rw[q]at e;cases e
 rw[A4 l]at e;cases e;have g:=OC l;subst g;refine b _ _ _ _ t W H s _ G R fun vs m E w i n=>⟨by rw[<- Paired.len n];exact j,fun a ha=>?_⟩;have Gb:=i.new ha (c:=.exc true nm []) (o:=.ext (iE a (.ref (aT K nm)) Y true)) ⟨Y,rfl,rfl⟩;have p:=m.ext_more a;refine⟨.c M1.length::f,M1++[.exc true nm []],m.more a,.d .none,M2,Gb,.cons i.newV (cS.up n p),u,fun v y A r B C=>⟨C,?_⟩⟩;exact k _ y A ((w.trans p).trans r) B<|i.newV.up r
def aEm(c:vZ K (aT K nm) f)(a:SE K ta m)(b:SE K tv ev):SS K (aAu K ta tv f) (xH nm f m ev):=by
 intro n M o M' e W H j D G R k;obtain⟨⟨y,M1⟩,x,e⟩:=aJ e;obtain⟨⟨z,M2⟩,A,e⟩:=aJ e;obtain⟨⟨i,fr,g,fs⟩,B,e⟩:=aJ e;by_cases l:fr=true/\g=nm/\fs.isEmpty=true
 .have e:(if fr=true/\g=nm/\fs.isEmpty=true then Z (Out.nx n,M2.set i (.exc true nm [(f,y)]))else Y)=Z (o,M'):=e;rw[A4 l]at e;cases e;obtain⟨rfl,rfl,q⟩:=l;have q:fs=[]:=by cases fs with|nil=>rfl|cons _ _=>cases q
  subst q;refine b _ _ _ _ x W H j _ G R fun v C E p F I=>?_;refine a _ _ _ _ A C E j _ F (R.up p) fun u r Q s G2 J=>?_;obtain⟨rfl,t⟩:=qT B;obtain⟨dx,L,N⟩:=G2.excAt t;cases dx with
  |some d=>
   exact absurd rfl N.1
  |none=>
   refine⟨r.α i,_,J.2,L,c,fun d hd O=>?_⟩;obtain⟨w,P⟩:=G2.lay (o:=.xd [(f,v)]) hd;have h:=(p.trans s).trans w;refine k _ _ h (P.set t (by intro q;cases q) (c':=.exc true g [(f,y)]) (o':=.ext (iE (r.α i) (.ref (aT K g)) (Z d) true)) ⟨Z d,rfl,by simp,[(f,v)],aX,.cons ⟨rfl,(I.up s).up w⟩ .nil⟩) j<|R.up h
 .have e:(if fr=true/\g=nm/\fs.isEmpty=true then Z (Out.nx n,M2.set i (.exc true nm [(f,y)]))else Y)=Z (o,M'):=e;rw[B0 l]at e;cases e
def aED{nms:Tc}(c:∀nm∈nms,wF K (aT K nm)/\vZ K (aT K nm) f)(a:SE K ta e):SE K (aHh K ta f) (pO nms f e):=by
 intro D M x M' b W H m Q G R k;obtain⟨⟨y,M1⟩,n,b⟩:=aJ b;obtain⟨⟨i,fr,nm,fs⟩,o,b⟩:=aJ b;by_cases hn:nm∈nms
 .have b:(if nm∈nms then(fs.lookup f).bind fun v=>Z (v,M1)else Y)=Z (x,M'):=b;rw[A4 hn]at b;obtain⟨v,g,b⟩:=aJ b;cases b;refine a _ _ _ _ n W H m _ G R fun u p q r h s=>?_;obtain⟨rfl,t⟩:=qT o;obtain⟨dx,z,l⟩:=h.excAt t;cases dx with
  |none=>rw[show fs=[]from l]at g;cases g
  |some d=>
   obtain⟨_,us,A,B⟩:=l;obtain⟨w,C,j⟩:=FU B g;exact⟨_,_,d,fr,us,w,s.2,z,h.fh _ _ A,(c nm hn).1,(c nm hn).2,C,k w p q r h j⟩
 .have b:(if nm∈nms then(fs.lookup f).bind fun v=>Z (v,M1)else Y)=Z (x,M'):=b;rw[B0 hn]at b;cases b
def TabsOk.unt{F:Hp}(h:TabsOk K F H)(b:∀ps,H p≠Z (.tbl ps))(d:∀ob u,H p≠Z (.frz ob u)):TabsOk K F (L2.unt H p):=fun x f=>by
 obtain⟨f0,ps,e,t,k⟩:=h x f;refine⟨f0,ps,by rw[iY (show x.1≠p from fun z=>b ps (z▸e))];exact e,t,fun pos g c=>?_⟩;obtain⟨c',oc,u,vs,i,j,a,l⟩:=k pos g c;exact⟨c',oc,u,vs,i,j,by rw[iY (show c'≠p from fun z=>d oc u (z▸a))];exact a,l⟩
def Good.kill(g:Good K W M H){i:Nat}{c:Cell}(hi:M[i]?=Z c)(f:c≠.dead):Good K W (M.set i .dead) (unt H<|W.α i):=by
 obtain⟨v,o,l,m⟩:=g.cs i c hi f;have lt:i<M.length:=(List.getElem?_eq_some_iff.mp hi).1
 have at_:∀j d,(M.set i .dead)[j]?=Z d->d≠.dead->j≠i/\M[j]?=Z d:=fun j d h hd=>by
  by_cases q:i=j
  .subst q;rw[F7 lt]at h;exact absurd (E1 h).symm hd
  .rw[O9 q]at h;exact⟨fun z=>q z.symm,h⟩
 refine⟨fun b u a=>?_,by rw[g.n,Z3],fun j d e hd=>?_,fun j k p r e w s t x=>?_,g.tb.unt (fun ps z=>m.nt.1 ps<|E1<|l.symm.trans z) fun ob u z=>m.nt.2 ob u<|E1<|l.symm.trans z⟩
 .rw[iY (fun z=>by rw[z,v]at a;cases a)];exact g.fh b u a
 .obtain⟨q,h⟩:=at_ j d e hd;obtain⟨y,u,A,B⟩:=g.cs j d h hd;exact⟨y,u,by rw[iY fun z=>q<|g.inj j i d c h hi hd f z];exact A,B⟩
 .exact g.inj j k p r (at_ j p e s).2 (at_ k r w t).2 s t x
def SQ(b:SA K tA fa):SSX K EE (KM EE (aT K nm) (spM K h) tA) (gP nm h fa):=by
 intro e M o M' a W H f D G R k;obtain⟨⟨x,M1⟩,m,a⟩:=aJ a;obtain⟨⟨i,fr,c,fs⟩,n,a⟩:=aJ a;by_cases d:fr=true/\c=nm
 .have a:(if fr=true/\c=nm then Z (RN.xc e ⟨nm,fs⟩,M1.set i .dead)else Y)=Z (o,M'):=a;rw[A4 d]at a;cases a;obtain⟨rfl,rfl⟩:=d;refine NB b _ _ _ _ m W H f _ G R fun v p u g j r=>?_;obtain⟨rfl,l⟩:=qT n;obtain⟨dx,s,t⟩:=j.excAt l;exact⟨_,dx,r.2,s,k p _ g (j.kill l (by intro q;cases q)) f _ dx (R.up g) ⟨rfl,t⟩⟩
 .have a:(if fr=true/\c=nm then Z (RN.xc e ⟨nm,fs⟩,M1.set i .dead)else Y)=Z (o,M'):=a;rw[B0 d]at a;cases a
end
structure nL(P:Ue)(w:World)(K:Fg)(mg:Str->Tg)(base:Heap)(k:Nat)(nm:Str)(ps:Tc)(sp:Sp)(qq:Bool:=true):Prop where
 ex:∃f fd,iI P w K mg base CX0 k f fd ps sp qq/\MkX K (aT K nm) f/\Binds K fd ps []
section
variable{P:Ue}{w:World}{K:Fg}{mg:Str->Tg}{base:Heap}
def OJ.okIX{qq:Bool}{qual:Str}{st:Stmt}{ps:Tc}{b:SF}(D:OJ K nm "__init__" qual st)(hm:BM K (aT K nm)=true)(c:PySem.W.keepIn K (.ref (aT K nm))=true)(S:aV N ps (aH st))
 (d:∀(kV doc pm:Tz)(an:Ti)(cdv ct:Tz)(us:T6),us.length=ps.length->bindArgs (PySem.W.fnOf "__init__" qual (dQ st) (bU st) (aH st) .none kV doc pm an cdv ct) ⟨us,[]⟩=pure (ps.zip us))
 (a:∀(f:Uc)(cdv:Tz)(A:Uf)(outer:Tw Env)(s:Ub)(H:Hp)(E:XK),cK k (A.deeper<|envOfC qual (aH st) s.heap.objs.size f cdv) qq->
  ML K (fun _:Unit=>(mP CX0 P w K mg base N qual (aH st) f cdv A outer s H E qq).nox) (bU st) b):nL P w K mg base (k+1) nm ps (spM K (fnF ps.length N.length b)) qq:=by
 obtain⟨f,fd,F,e,g⟩:=D.ex;exact⟨f,fd,F.okQ S a,⟨hm,e,g,c⟩,F.binds d⟩
def JV{st:Stmt}{C:Uc}{oc:Tz}{od:Ti}{osl:Array (Tg)}{kV doc:Tz}(a:aT K nm=C)(b:PySem.W.findIn K (.ref C) m=Z (Z (.ref f)))
 (l:K.lookup f=Z ⟨oc,od,.func (PySem.W.fnOf m qual (dQ st) (bU st) (aH st) .none kV doc pm an cdv ct),osl⟩) (c:PySem.W.codeIn K cdv qual=true) (k:PySem.W.keepIn K (.ref f)=true) (fn:PySem.W.isFn K (.ref f)=true):OJ K nm m qual st:=
 ⟨f,_,aCS l c k,by rw[a];exact b,fn⟩
end
section
variable{ι:Type}{K:Fg}{X:ι->Cx}{EE:ι->St->XK}{e o a b:Ud}{es:T9}{f g:EF}{fa:AF}{pos:Pos}
def kP{k:Nat}{F:FN}{cpos:Pos}(ok:∀i,XOk (X i)<|EE i)(C:∀i,nL (X i).prog (X i).w (X i).K (X i).mg (X i).base k nm ps (spM K F))(c:∀i,(X i).K=K)(h:∀i,(X i).calm=true)(hm:∀i,(X i).mg nm=Z (.ref (aT K nm)))(be:PySem.W.subIn K (.ref (aT K nm)) (.type "BaseException")=Z true)
 (j:∀i,cK (k+1) (X i).A) (y:MA K X (e::es) fa) (l:∀i,Gl (X i) nm:=by intro _;rfl) (hd:(nm==("__debug__":Str))=false:=by decide):
 MSX K X EE (.Raise (Z (.Call (.Name nm p) (e::es) [] cpos)) Y pos) (gP nm F fa):=by
 obtain⟨u,m,n⟩:=y.ex;refine⟨fun i=>KM (EE i) (aT K nm) (spM K F) u,fun i=>?_,fun i=>SQ n⟩;obtain⟨f,fd,q,M,B⟩:=(C i).ex;have d:(X i).mg nm=Z (.ref (aT (X i).K nm)):=by rw[c i];exact hm i
 have:=YF (ok i) (h i) M (by rw[c i];exact be) q (j i) (l i) d B (m i) hd (y.st.1 _) (y.st.2.plain _ _) (p:=p) (cpos:=cpos) (pos:=pos);rw[c i]at this;exact this
def JO(d:∀i,(X i).K=K)(h:vZ K (aT K nm) fl)(x:ME K X o f)(y:ME K X e g)(hs:∀i,swapsWith e (Z (.Attribute o fl c)) pos.line (X i).env=pure false:=by intro _;rfl):MS K X (.Assign [.Attribute o fl c] e pos) (xH nm fl f g):=by
 obtain⟨t,x1,j⟩:=x.ex;obtain⟨u,k,l⟩:=y.ex;refine⟨_,fun i=>?_,aEm h j l⟩;have:=aDW (x1 i) (k i)<|hs i;rw[d i]at this;exact this
def IV{nms:Tc}(c:∀i,(X i).K=K)(d:∀nm∈nms,wF K (aT K nm)/\vZ K (aT K nm) fl)(x:ME K X o f)(h:∀env:Env,attributeBase o fl env (eval o env)=eval o env:=by intro _;rfl):ME K X (.Attribute o fl pos) (pO nms fl f):=by
 obtain⟨t,x1,j⟩:=x.ex;refine⟨_,fun i=>?_,aED d j⟩;have:=aGt (x1 i) (h _) (pos:=pos);rw[c i]at this;exact this
def BR:∀nm∈([]:Tc),wF K (aT K nm)/\vZ K (aT K nm) fl:=fun _ h=>absurd h (by simp)
def kJ{a:Str}{l:Tc}(x:wF K (aT K a))(h:vZ K (aT K a) fl)(r:∀nm∈l,wF K (aT K nm)/\vZ K (aT K nm) fl):∀nm∈a::l,wF K (aT K nm)/\vZ K (aT K nm) fl:=fun p c=>by
 rcases List.mem_cons.mp c with rfl|z
 .exact⟨x,h⟩
 .exact r p z
end
section
variable{K:Fg}
def ZG:F2:=fun x y M=>(yQ M x).bind fun xs=>(yQ M y).bind fun a=>if xs.length+a.length<=sizeLine then Z (.c M.length,M++[.lst (xs++a)])else Y
def aGk:P2 K (VS K) ZG:=by
 intro x y M z M' h W H v u Q G c d k;obtain⟨xs,e,h⟩:=aJ h;obtain⟨f,g,h⟩:=aJ h;by_cases a:xs.length+f.length<=sizeLine
 .rw[A4 a]at h;cases h;obtain⟨p,vs,rfl,i,b⟩:=nR G e c;obtain⟨q,us,rfl,j,hs⟩:=nR G g d;refine⟨p,q,vs,us,rfl,rfl,i,j,by rw[<- Paired.len b,<- Paired.len hs];exact a,fun l a=>?_⟩;exact k _ (W.more l) _ (W.ext_more l) (G.new a<|Paired.app b hs) G.newV
 .rw[B0 a]at h;cases h
noncomputable def aDg(ds:T5)(n:Nat):T5:=(List.replicate n ds).flatten
def aAV(K:Fg):R2:=fun x y H Q=>∃(l:Uc)(vs:Td)(i:Int),x=.ref l/\y=.int i/\H l=Z (.lst vs)/\0<=i/\i<2 ^ 62/\vs.length*i.toNat<=sizeLine/\∀p,H p=Y->Q (.ref p) (upd H p (.lst (List.replicate i.toNat vs).flatten))
theorem FZ{b:Type}:∀(l:Tw (Tw b))(a:Tw b),(l.map List.toArray).foldl (fun x1 c=>x1++c) a.toArray=(a++l.flatten).toArray
 |[]=>fun a=>by simp
 |x::l=>fun a=>by
  rw[B4,List.foldl_cons];have:a.toArray++x.toArray=(a++x).toArray:=by simp
  rw[this,FZ l (a++x),S8,E5]
theorem MB(r:bH vs us):∀n:Nat,bH (List.replicate n vs).flatten (List.replicate n us).flatten
 |0=>.nil
 |n+1=>by rw[S5,S5,S8,S8];exact r.append<|MB r n
def aGo:OpR X (binaryOp .Mult) (aAV X.K):=by
 intro pins s L H x y u v Q I r A h;obtain⟨l,vs,i,rfl,rfl,B,O,P,C,q⟩:=h;cases (show u=Value.ref l from r);obtain⟨t,rfl⟩:=(show ∃t,v=Value.int i t from A);obtain⟨f,its,n,g,D⟩:=(show eJ X.prog X.w H s.heap l (.lst vs)from I.hok l _ B);obtain⟨m,F⟩:=I.fr;have N:News X.base X.env.locals s.heap (oX X.base s.heap X.env.locals):=NX
 have c:its.toArray.size*i.toNat<=2 ^ 24:=by
  rw[F9,<- g.length];have:sizeLine=2 ^ 24:=by rw[O6]
  omega
 refine PyProof.Rows.mul_list F N D (by omega) (by omega) c fun h' j N'=>?_
 have kp:∀b o,b≠X.env.locals->s.heap.get? b=Z o->h'.get? b=Z o:=fun b o E e=>by
  cases z:X.base.get? b with
  |some v=>
   have:=I.bk b v z;rw[e]at this;cases this;exact j.keep b _ z
  |none=>exact(N' (b,o)<|C0 _<|qB E z e).1
 have a:s.heap.get? s.heap.objs.size=Y:=Z0<|B3 _;refine⟨.ref s.heap.objs.size,upd H s.heap.objs.size (.lst (List.replicate i.toNat vs).flatten),?_,rfl,q _<|I.hok.fresh<|B3 _⟩;refine I.laidL kp (fun R d=>?_) a ⟨?_,(List.replicate i.toNat its).flatten,0,MB g _,?_⟩
 .rw[<- UT F.ns d];exact j.ns
 .rw[len_rep,Nat.mul_comm];exact C
 .have G:=(N' _ C4).1;rw[G]
  have e:List.foldl (fun x1 J=>x1++J) #[] (List.replicate (if its.toArray.isEmpty=true then 0 else i.toNat) its.toArray)=((List.replicate i.toNat its).flatten).toArray:=by
   by_cases p:its=[]
   .subst p
    have:(List.replicate i.toNat ([]:T6)).flatten=[]:=by
     generalize i.toNat=k
     induction k with
     |zero=>rfl
     |succ k ih=>rw[S5,S8,ih];rfl
    rw[this];rfl
   .have:its.toArray.isEmpty=false:=by cases its with|nil=>exact absurd rfl p|cons _ _=>rfl
    rw[this,B0 B2];have:=FZ (List.replicate i.toNat its) [];rw[List.map_replicate]at this;simpa using this
  rw[e]
def mulL:F2:=fun x y M=>match x,y with
 |.c j,.d (.int i)=>match M[j]? with
  |some (.lst xs)=>(iO xs).bind fun a=>if 0<=i/\i<2 ^ 62/\a.length*i.toNat<=sizeLine then Z (.d (.list (aDg a i.toNat)),M)else Y
  |_=>Y
 |_,_=>Y
end
section
variable{K:Fg}
theorem BU{H:Hp}(h:aQ K H as vs):∀n:Nat,aQ K H (aDg as n) (List.replicate n vs).flatten
 |0=>by rfl
 |n+1=>by
  unfold aDg;rw[S5,S5,S8,S8];exact aQ.app h<|BU h n
def aFc:P2 K (aAV K) mulL:=by
 intro x y M z M' h W H v u Q G e f k;unfold mulL at h;split at h
 .rename_i j i;split at h
  .rename_i xs g;obtain⟨m,b,h⟩:=aJ h;by_cases a:0<=i/\i<2 ^ 62/\m.length*i.toNat<=sizeLine
   .rw[A4 a]at h;cases h;obtain⟨n,p,q⟩:=a;obtain⟨us,r,c⟩:=G.lstAt g;have el:=CV b;refine⟨_,us,i,e.2,f,r,n,p,by rw[<- Paired.len c,<- el];exact q,fun l s=>?_⟩;obtain⟨d,G2⟩:=G.lay (o:=.lst (List.replicate i.toNat us).flatten) s;exact k _ _ _ d G2 ⟨l,_,rfl,SqL.of aX,aQ.same d.ff _ _<|BU (fU b c) _⟩
   .rw[B0 a]at h;cases h
  .cases h
 .cases h
def YG:F2:=BP vC mulL
def aDH{ι:Type}{X:ι->Cx}(a:∀i,(X i).K=K):Q2 K X (binaryOp .Mult) YG:=⟨_,fun i=>op_mulA.or (show OpR (X i) (binaryOp .Mult) (aAV K)by have:=aGo (X:=X i);rw[a i]at this;exact this),P2.or aBw aFc⟩
def LU(K:Fg)(c:Tz)(tab:Tw (Str×Bool)):Bool:=tab.all fun p=>match PySem.W.kitOne K (.ref (aT K p.1)) c with
 |some b=>b==p.2
 |none=>false
def VJ{ns:Tc}(a:∀nm∈ns,XC K<|aT K nm)(h:LU K c tab=true)(e:tab.map Prod.fst=ns):∀p∈tab,XC K (aT K p.1)/\PySem.W.kitOne K (.ref (aT K p.1)) c=Z p.2:=by
 intro p d;refine⟨a _ (by grind),?_⟩;have:=List.all_eq_true.mp h p d;split at this
 .rename_i b f;rw[f,eq_of_beq this]
 .cases this
def aEE:∀nm∈([]:Tc),XC K (aT K nm):=fun _ h=>absurd h (by simp)
def AM{l:Tc}(x:XC K (aT K a))(r:∀nm∈l,XC K<|aT K nm):∀nm∈a::l,XC K (aT K nm):=by grind
end
abbrev KY:=Key ⊕ Tw Key
abbrev KF:=Ga->Sto->Tx (KY×Sto)
def WR(W:Wd):KY->V->Prop
 |.inl k,v=>v=kV k
 |.inr ks,v=>∃b,v=.ref b/\W.F b=Z (.tup (ks.map kV))
def WR.up(h:WR W k v)(e:W.Ext W'):WR W' k v:=by
 cases k with
 |inl k=>exact h
 |inr ks=>obtain⟨b,a,c⟩:=h;exact⟨b,a,e.ff _ _ c⟩
section
variable{K:Fg}
def SK(K:Fg)(t:TE)(f:KF):Prop:=∀a M k M',f a M=Z (k,M')->∀(W:Wd)(H:Hp)(b:St)(Q:VK),Good K W M H->dC K W a b->(∀v W' H',W.Ext W'->Good K W' M' H'->WR W' k v->Q v H')->t b H Q
def keysOf:T7->Tx (Tw Key)
 |[]=>Z []
 |x::xs=>(keyOf x).bind fun k=>(keysOf xs).bind fun ks=>Z (k::ks)
def IY(fa:AF):KF:=fun a M=>(fa a M).bind fun r=>(keysOf r.1).bind fun ks=>if ks.length<=sizeLine then Z (.inr ks,r.2)else Y
variable{t td ty tx tv:TE}{tA:TA}{f fo fx fv:EF}{fk:KF}{fa:AF}
theorem uM{W:Wd}:∀{xs:T7}{ks:Tw Key}{vs:Td},keysOf xs=Z ks->cS K W xs vs->vs=ks.map kV
 |[],ks,vs=>fun h r=>by cases h;cases r;rfl
 |x::xs,ks,vs=>fun h r=>by
  obtain⟨k,a,h⟩:=aJ h;obtain⟨b,c,h⟩:=aJ h;cases h;cases r with
  |cons d e=>rw[YV a d,uM c e];rfl
def aIn(b:SA K tA fa):SK K (aFj tA) (IY fa):=by
 intro q M k M' a W H e Q G R c;obtain⟨⟨r,M1⟩,g,a⟩:=aJ a;obtain⟨ks,h,a⟩:=aJ a;by_cases d:ks.length<=sizeLine
 .rw[A4 d]at a;cases a;refine b _ _ _ _ g W H e _ G R fun vs i s j l m=>?_;have ev:=uM h m;refine⟨by rw[ev,A3];exact d,fun p n=>?_⟩;obtain⟨o,G2⟩:=l.lay n;exact c _ _ _ (j.trans o) G2 ⟨p,rfl,by show upd i.F p (.tup vs) p=_;rw[aX,ev]⟩
 .rw[B0 d]at a;cases a
section
variable{κ:Type}[DecidableEq κ]
noncomputable def lkC(kvs:Tw (κ×CD))(k:κ):Tf:=(kvs.find? fun a=>decide (a.1=k)).map (·.2)
noncomputable def putD(kvs:Tw (κ×CD))(k:κ)(v:CD):Tw (κ×CD):=
 if (kvs.any fun a=>decide (a.1=k))=true then kvs.map (fun a=>if a.1=k then(a.1,v)else a)else kvs++[(k,v)]
abbrev PKV(K:Fg)(W:Wd)(kvs:Tw (κ×CD))(us:Tw (κ×V)):Prop:=Paired (fun p q=>p.1=q.1/\cM K W p.2 q.2) kvs us
theorem zV{W:Wd}:∀{kvs:Tw (κ×CD)}{us:Tw (κ×V)},PKV K W kvs us->QY K W (lkC kvs k) (iX us k)
 |_,_,.nil=>True.intro
 |_,_,.cons (a:=p) (b:=q) (l₁:=ps) (l₂:=qs) r1 r2=>by
  by_cases h:p.1=k
  .have h':=r1.1▸h;rw[show lkC (p::ps) k=Z p.2 by simp[lkC,List.find?_cons,h],show iX (q::qs) k=Z q.2 by simp[iX,List.find?_cons,h']];exact r1.2
  .have h':=r1.1▸h;rw[show lkC (p::ps) k=lkC ps k by simp[lkC,List.find?_cons,h],show iX (q::qs) k=iX qs k by simp[iX,List.find?_cons,h']];exact zV r2
theorem OM{W:Wd}{k:κ}:∀{kvs:Tw (κ×CD)}{us:Tw (κ×V)},PKV K W kvs us->(kvs.any fun a=>decide (a.1=k))=us.any fun a=>decide (a.1=k)
 |_,_,.nil=>rfl
 |_,_,.cons b c=>by rw[U5,U5,OM c,b.1]
theorem OB{W:Wd}{k:κ}(d:cM K W x v):∀{kvs:Tw (κ×CD)}{us:Tw (κ×V)},PKV K W kvs us->PKV K W (kvs.map fun b=>if b.1=k then(b.1,x)else b) (us.map fun b=>if b.1=k then(b.1,v)else b)
 |_,_,.nil=>.nil
 |_,_,.cons (a:=p) c r2=>by
  rw[B4,B4];refine .cons ?_ (OB d r2);by_cases h:p.1=k
  .rw[A4 h,A4 (c.1▸h)];exact⟨c.1,d⟩
  .rw[B0 h,B0 (c.1▸h)];exact c
def GG{k:κ}{x:CD}{v:V}{kvs:Tw (κ×CD)}{us:Tw (κ×V)}(r:PKV K W kvs us)(a:cM K W x v):PKV K W (putD kvs k x) (putK us k v):=by
 unfold putD putK;rw[OM r];split
 .exact OB a r
 .exact Paired.app r (.cons ⟨rfl,a⟩ .nil)
end
noncomputable def lkP(kvs:Tw (Tw Key×Ua))(k:Tw Key):Tx Ua:=(kvs.find? fun a=>decide (a.1=k)).map (·.2)
theorem AW{W:Wd}:∀{kvs:Tw (Tw Key×Ua)}{us:Tw (Tw Key×V)},Paired (fun p q=>p.1=q.1/\Rep K W.F p.2 q.2) kvs us->QY K W ((lkP kvs k).map .d) (iX us k)
 |_,_,.nil=>True.intro
 |_,_,.cons (a:=p) (b:=q) (l₁:=ps) (l₂:=qs) r1 r2=>by
  by_cases h:p.1=k
  .have h':=r1.1▸h;rw[show lkP (p::ps) k=Z p.2 by simp[lkP,List.find?_cons,h],show iX (q::qs) k=Z q.2 by simp[iX,List.find?_cons,h']];exact r1.2
  .have h':=r1.1▸h;rw[show lkP (p::ps) k=lkP ps k by simp[lkP,List.find?_cons,h],show iX (q::qs) k=iX qs k by simp[iX,List.find?_cons,h']];exact AW r2
def atD(M:Sto):CD->KY->Tx (Tf)
 |.c i,.inl k=>match M[i]? with
  |some (.dk kvs)=>Z<|lkC kvs k
  |_=>Y
 |.c i,.inr ks=>match M[i]? with
  |some (.dt kvs)=>Z<|lkC kvs ks
  |_=>Y
 |.f kvs,.inr ks=>Z<|(lkP kvs ks).map .d
 |_,_=>Y
def PJ(M:Sto):CD->KY->CD->Tx Sto
 |.c i,.inl k,x=>match M[i]? with
  |some (.dk kvs)=>if kvs.length<sizeLine then Z (M.set i (.dk (putD kvs k x)))else Y
  |_=>Y
 |.c i,.inr ks,x=>match M[i]? with
  |some (.dt kvs)=>if kvs.length<sizeLine then Z (M.set i (.dt (putD kvs ks x)))else Y
  |_=>Y
 |_,_,_=>Y
def Good.dkAt{i:Nat}(G:Good K W M H)(h:M[i]?=Z (.dk kvs)):∃us,H (W.α i)=Z (.dK us)/\PKV K W kvs us:=by
 obtain⟨_,o,b,a⟩:=G.cs i _ h (by simp);cases o<;>first|exact⟨_,b,a⟩|exact False.elim a
def Good.dtAt{i:Nat}(G:Good K W M H)(h:M[i]?=Z (.dt kvs)):∃us,H (W.α i)=Z (.dT us)/\PKV K W kvs us:=by
 obtain⟨_,o,b,a⟩:=G.cs i _ h (by simp);cases o<;>first|exact⟨_,b,a⟩|exact False.elim a
def aEv{r:Tf}(G:Good K W M H)(h:atD M x k=Z r)(e:cM K W x v)(g:WR W k y):∃a o,v=.ref a/\IF H a y o/\QY K W r o:=by
 unfold atD at h;split at h
 .rename_i i m;split at h
  .rename_i kvs j;cases h;obtain⟨us,c,d⟩:=G.dkAt j;refine⟨_,_,e.2,?_,zV d⟩;rw[show y=kV m from g];exact IF.k c
  .cases h
 .rename_i i ks;split at h
  .rename_i kvs j;cases h;obtain⟨us,c,d⟩:=G.dtAt j;obtain⟨b,rfl,l⟩:=g;exact⟨_,_,e.2,IF.t c<|G.fh _ _ l,zV d⟩
  .cases h
 .rename_i kvs ks;cases h;obtain⟨a,o,us,rfl,c,d⟩:=e;obtain⟨b,rfl,l⟩:=g;exact⟨_,_,rfl,.inr ⟨us,ks,b,.inr ⟨o,G.fh _ _ c⟩,rfl,G.fh _ _ l,rfl⟩,AW d⟩
 .cases h
def aDO{M':Sto}(G:Good K W M H)(h:PJ M x k z=Z M')(j:cM K W x v)(l:WR W k y)(m:cM K W z u):∃a H',v=.ref a/\KN H a y u H'/\Good K W M' H':=by
 unfold PJ at h;split at h
 .rename_i o i n;split at h
  .rename_i kvs d;by_cases c:kvs.length<sizeLine
   .rw[A4 c]at h;cases h;obtain⟨us,g,e⟩:=G.dkAt d;refine⟨_,_,j.2,?_,G.set d (by simp) (o':=.dK (putK us n u))<|GG e m⟩;rw[show y=kV n from l];exact KN.k g (by rw[<- Paired.len e];exact c)
   .rw[B0 c]at h;cases h
  .cases h
 .rename_i o i ks;split at h
  .rename_i kvs d;by_cases c:kvs.length<sizeLine
   .rw[A4 c]at h;cases h;obtain⟨us,g,e⟩:=G.dtAt d;obtain⟨b,rfl,p⟩:=l;exact⟨_,_,j.2,KN.t g (G.fh _ _ p) (by rw[<- Paired.len e];exact c),G.set d (by simp)<|GG e m⟩
   .rw[B0 c]at h;cases h
  .cases h
 .cases h
def uK:EF:=fun _ M=>Z (.c M.length,M++[.dt []])
def aBt(neg:Bool)(fk:KF)(fo:EF):EF:=fun a M=>(fk a M).bind fun k=>(fo a k.2).bind fun o=>(atD o.2 o.1 k.1).bind fun r=>Z (.d (.bool (if neg then !r.isSome else r.isSome)),o.2)
def uN(fo:EF)(fk:KF)(fv:EF):SF:=fun a M=>(fv a M).bind fun v=>(fo a v.2).bind fun o=>(fk a o.2).bind fun k=>(PJ k.2 o.1 k.1 v.1).bind fun M'=>Z (.nx a,M')
def aCb:SE K aBE uK:=by
 intro c M x M' a W H d Q G R k;cases a;exact fun p b=>k _ (W.more p) _ (W.ext_more p) (G.new b .nil) G.newV
def ZO(h:QY K W r o):o.isSome=r.isSome:=by
 cases r<;>cases o<;>first|rfl|exact False.elim h
def aHQ(b:SK K ty fk)(a:SE K td fo):SE K (aMd ty td) (aBt false fk fo):=by
 intro B M x M' c W H d Q G R k;obtain⟨⟨C,M1⟩,i,c⟩:=aJ c;obtain⟨⟨o,M2⟩,j,c⟩:=aJ c;obtain⟨r,l,c⟩:=aJ c;cases c;refine b _ _ _ _ i W H d _ G R fun y m n e q s=>a _ _ _ _ j m n d _ q (R.up e) fun v u w h G2 z=>?_;obtain⟨p,ov,ev,g,A⟩:=aEv G2 l z<|s.up h;refine⟨p,ov,ev,g,k _ u w (e.trans h) G2 ?_⟩;show _=V.bl r.isSome;rw[ZO A]
def aEf(a:SE K td fo)(b:SK K ty fk)(c:SE K tv fv):SS K (aGL td ty tv) (uN fo fk fv):=by
 intro O M o M' d W H e D G R k;obtain⟨⟨z,M1⟩,m,d⟩:=aJ d;obtain⟨⟨x,M2⟩,n,d⟩:=aJ d;obtain⟨⟨P,Q⟩,q,d⟩:=aJ d;obtain⟨S,r,d⟩:=aJ d;cases d;refine c _ _ _ _ m W H e _ G R fun u s w h A B=>a _ _ _ _ n s w e _ A (R.up h) fun v C E i G2 F=>b _ _ _ _ q C E e _ G2 (R.up<|h.trans i) fun y I T j J L=>?_;obtain⟨p,l,ev,g,N⟩:=aDO J r (F.up j) L<|(B.up i).up j;exact⟨p,l,ev,g,k I l ((h.trans i).trans j) N e<|R.up<|(h.trans i).trans j⟩
end
section
variable{ι:Type}
structure MK(K:Fg)(X:ι->Cx)(e:Ud)(f:KF):Prop where
 ex:∃t,(∀i,PE (X i) e t)/\SK K t f
variable{K:Fg}{X:ι->Cx}{e o i a b:Ud}{es:T9}{f g fx:EF}{fk:KF}{fa:AF}{pos:Pos}
def QL(x:MA K X es fa):MK K X (.Tuple es k pos) (IY fa):=by
 obtain⟨t,x1,c⟩:=x.ex;exact⟨_,fun i=>QC<|x1 i,aIn c⟩
def NU:ME K X (.Dict [] [] pos) uK:=⟨_,fun _=>aDk,aCb⟩
def aKd(c:∀j,(X j).A.units+1<cLine)(y:MK K X i fk)(x:ME K X o f)(hm:behindInMarks .In o=false:=by rfl):MT K X (.Compare i [.In] [o] pos) (gB<|aBt false fk f):=by
 obtain⟨t,x1,d⟩:=x.ex;obtain⟨u,h,k⟩:=y.ex;exact⟨_,fun j=>aJP (aIX (c j) (h j)<|x1 j) hm,aHA<|aHQ k d⟩
def UP(d:∀j,(X j).A.units+1<cLine)(x:ME K X o f)(y:MK K X i fk)(z:ME K X e g)(hs:∀j,swapsWith e (Z (.Subscript o i c)) pos.line (X j).env=pure false:=by intro _;rfl):MS K X (.Assign [.Subscript o i c] e pos) (uN f fk g):=by
 obtain⟨t,x1,h⟩:=x.ex;obtain⟨u,k,l⟩:=y.ex;obtain⟨v,z1,m⟩:=z.ex;exact⟨_,fun j=>aEu (d j) (x1 j) (k j) (z1 j)<|hs j,aEf h l m⟩
end
end L2
namespace PySem
open Sem (wp)
open AutoSeq1 (wpAny_loadPart')
section
variable{prog:Ue}{w:World}{A:Uf}{E:T1}{s:Ub}
def ER{items}{x:Tz}{Q:T1}(a:s.heap.IsTupleIter it l i)(e:s.heap.IsTuple l items)(f:items[i]?=Z x)
 (g:∀h',h'.IsTupleIter it l (i+1)->Heap.SameBut it s.heap h'->Q x { s with heap:=h' }):wpAny (model prog w) A (Builtin.SmallTypes.nextOf (.ref it)) Q E s:=by
 obtain⟨o,b,h,hd⟩:=id a;obtain⟨j,c,_,nl,d⟩:=e;refine A0<|Y1 a.typeIs Z1<|U2 Z1 a.typeIs F.entry_tuple_iterator_next ?_<|F.args_tuple_iterator_next_1 _;show wpAny _ _ (field (.ref it) 0 >>= _) _ _ s;refine A0<|L8 b hd rfl ?_;refine A0<|L8 b hd rfl ?_;refine A0<|wpAny_seqItems c d ?_;simp only[Int.toNat_natCast,f];refine A0<|S9 b hd (by simp)<|B1 ⟨x,rfl,B1<|g _ ?_<|A0u ..⟩;exact⟨_,O3 _ b<|U3<|L6 hd _,(Y9 ..).trans h,by rw[L6 hd];simp[rawInt]⟩
def wZ{items}{Q:T1}(f:A.handled=Y)(a:s.heap.IsTupleIter it l i)(g:s.heap.IsTuple l items)(h:items[i]?=Y)
 (j:∀h' e,Heap.ExtBut it s.heap h'->(∃o,h'.get? e=Z o/\o.cls=.type "StopIteration")->E (.ref e) { s with heap:=h' }):wpAny (model prog w) A (Builtin.SmallTypes.nextOf (.ref it)) Q E s:=by
 obtain⟨o,b,k,hd⟩:=id a;obtain⟨m,c,_,nl,d⟩:=g;refine A0<|Y1 a.typeIs Z1<|U2 Z1 a.typeIs F.entry_tuple_iterator_next ?_<|F.args_tuple_iterator_next_1 _;show wpAny _ _ (field (.ref it) 0 >>= _) _ _ s;refine A0<|L8 b hd rfl ?_;refine A0<|L8 b hd rfl ?_;refine A0<|wpAny_seqItems c d ?_;simp only[Int.toNat_natCast,h];refine A0<|wpAny_rule<|A0<|S9 b hd (by simp) ?_;refine A0 ?_;refine A0<|J8 ?_ (by size_fits);refine A0<|wpAny_of_eq rfl ?_;refine J8 ?_ (by size_fits);refine A0<|wpAny_handled ?_
 first|rw[show A.in1.handled=Y from f]|rw[f]
 refine A0<|B1<|wpAny_throw ?_;exact j _ _ (((A0u ..).extBut.push _).push _) ⟨_,D0 _ rfl,rfl⟩
end
def ZV{A:Uf}(hh:A.handled=Y)(it l:Uc)(hne:l≠it)(items:Tj):
 Draws prog w A it [it,l] items.size (fun i v=>items[i]?=Z v) (fun i h=>h.IsTupleIter it l i/\h.IsTuple l items) where
 live:=fun _ _ st=>let⟨o,ho,_⟩:=st.1;⟨o,ho⟩
 frame:=fun _ _ _ st hk=>⟨st.1.at fun o e=>hk it (by simp) o e,let⟨o,ho,r⟩:=st.2;⟨o,hk l (by simp) o ho,r⟩⟩
 item:=fun i s Q E hi st hQ=>by
  refine ER st.1 st.2 (x:=items[i]) (by simp[hi]) fun h' hit' hs'=>?_;exact hQ _ h' s.toks (by simp[hi]) ⟨hit',let⟨o,ho,r⟩:=st.2;⟨o,(hs'.2 l hne).trans ho,r⟩⟩ hs'
 done:=fun s Q E st hE=>wZ hh st.1 st.2 (by simp) hE
def BY(l:Uc)(items:Tj)(n:Nat)(b:Ti)(sl:Array (Tg)):
 Meets (Builtin.«enumerate.__new__» ⟨[.type "enumerate",.ref l],[]⟩) (fun _ R s=>s.heap.get? l=Z { cls:=.type "tuple",dict:=b,data:=.seq items n,slots:=sl } /\
  R (.ok (.ret (.ref (s.heap.push { cls:=.type "tuple_iterator",data:=.fields #[.ref l,.int 0 0] }).objs.size)))
   { s with heap:=(s.heap.push { cls:=.type "tuple_iterator",data:=.fields #[.ref l,.int 0 0] }).push { cls:=.type "enumerate",data:=.fields #[.none,.bool false,.ref s.heap.objs.size,rawInt 0,.none,.none] } }):=
 .of_wp fun prog w A R s h=>by
  obtain⟨i,g,d,tk,os⟩:=s;obtain⟨a,h⟩:=h;have f:=sub_enumerate;have e:Heap.IsTuple (Shared.heap ⟨i,g,d,tk,os⟩) l items:=⟨_,a,rfl,n,rfl⟩
  wp_walk using A0d a
  refine wpAny_stack_any fun st=>B1 ?_;split
  .rename_i c _ _ _ _ _;cases (c==Value.type "enumerate")
   .wp_walk using A0d a,A0y e
    exact⟨_,rfl,h⟩
   .wp_walk using A0d a,A0y e
    exact⟨_,rfl,h⟩
  .wp_walk using A0d a,A0y e
   exact⟨_,rfl,h⟩
section
variable{prog:Ue}{w:World}{A:Uf}{E:T1}{s:Ub}
def EO{Q:T1}(g:s.heap.IsTuple l items)
 (h:∀h',IsEnum h' (s.heap.objs.size+1) s.heap.objs.size 0 .none->h'.IsTupleIter s.heap.objs.size l 0->h'.objs.size=s.heap.objs.size+2->
  (∀b o,s.heap.get? b=Z o->h'.get? b=Z o)->Q (.ref (s.heap.objs.size+1)) { s with heap:=h' }):
 wpAny (model prog w) A (call (.type "enumerate") [.ref l]) Q E s:=by
 obtain⟨⟨c,a,dt,sl⟩,i,d,n,hd⟩:=g
 replace d:c=.type "tuple":=d
 replace hd:dt=.seq items n:=hd
 subst d hd
 refine callType_new F.called_enumerate (by decide) (F.typeCall_enumerate_1 _) (F.newCall_enumerate_1 _) (fun obj=>F.args_object_init_2 obj _) F.entry_enumerate_new
  (BY l items n a sl) ⟨i,?_⟩
 have e:(s.heap.push { cls:=.type "tuple_iterator",data:=.fields #[.ref l,.int 0 0] }).objs.size=s.heap.objs.size+1:=A0i ..;rw[e]
 have f:IsEnum ((s.heap.push { cls:=.type "tuple_iterator",data:=.fields #[.ref l,.int 0 0] }).push
  { cls:=.type "enumerate",data:=.fields #[.none,.bool false,.ref s.heap.objs.size,rawInt 0,.none,.none] }) (s.heap.objs.size+1) s.heap.objs.size 0 .none:=by
  have:=D0 (s.heap.push { cls:=.type "tuple_iterator",data:=.fields #[.ref l,.int 0 0] })
   (o:={ cls:=.type "enumerate",data:=.fields #[.none,.bool false,.ref s.heap.objs.size,rawInt 0,.none,.none] }) rfl
  rw[e]at this;exact this
 refine⟨⟨_,f,rfl⟩,h _ f ⟨_,A5 _<|D0 _ rfl,rfl,rfl⟩ (by simp) fun b o x=>A5 _<|A5 _ x⟩
end
end PySem
namespace L2
open PySem PySem.Spec PyProof.Rows
section
variable{X:Cx}{pins:T2}{σ:St}{H:Hp}{s:Ub}{h':Heap}
def Inv.turnLay{fp:Tb}{a:Uc}{t':Nat}(I:Inv X pins σ H s)(g:∀b∈fp,sA X pins H b)(k:∀b u,b∉fp->s.heap.get? b=Z u->h'.get? b=Z u)(hp:s.heap.objs.size<=a)(new:eJ X.prog X.w (upd H a o) h' a o):
 Inv X pins σ (upd H a o) { s with heap:=h',toks:=t' }:=by
 have hn:=I.hok.fresh hp;have h:∀b u,H b=Z u->b∉fp:=fun b u e z=>by rw[(g b z).1]at e;cases e
 refine I.step (fun b f=>?_) (fun b o _ _ d e _=>k b o d e) (fun b o _ _ d e _=>⟨o.slots,k b o d e⟩) (fun b o _ e n=>?_) (fun b o d e=>⟨o,k b o d e⟩)
  (fun b xs e=>?_) (fun b o u e=>?_) (fun b ps e=>⟨#[],?_⟩) (fun m hm=>?_) ?_ I.bare
 .obtain⟨_,f1,_,i,j,l⟩:=g b f;exact⟨i,f1,j,l⟩
 .rw[aK (fun z=>by subst z;exact absurd (C2 e)<|Nat.not_lt.mpr hp)];exact n
 .rw[aK (aO e hn)];exact e
 .rw[aK (aO e hn)];exact e
 .rw[aK (aO e hn)];simpa using e
 .obtain⟨o,es,ep,p,r⟩:=hm;exact⟨o,es,ep,k _ o (fun z=>(g _ z).2.1 rfl) p,r⟩
 .intro b u e;by_cases f:b=a
  .subst f;rw[aX]at e;cases e;exact new
  .rw[aK f]at e;refine(I.hok b u e).stay (fun c v d q=>k c v ?_ q) (fun c q=>by rw[aK (aO q hn)];exact q) fun c xs q=>by rw[aK (aO q hn)];exact q
   rcases d with z|z
   .rw[z];exact h b _ e
   .exact h c _ z
def Inv.turnF{fp:Tb}{t':Nat}(I:Inv X pins σ H s)(d:∀b∈fp,sA X pins H b)(k:∀b u,b∉fp->s.heap.get? b=Z u->h'.get? b=Z u):Inv X pins σ H { s with heap:=h',toks:=t' }:=by
 have f:∀b u,H b=Z u->b∉fp:=fun b u e z=>by rw[(d b z).1]at e;cases e
 refine I.step (fun b g=>?_) (fun b o _ _ a e _=>k b o a e) (fun b o _ _ a e _=>⟨o.slots,k b o a e⟩) (fun _ _ _ _ n=>n) (fun b o a e=>⟨o,k b o a e⟩)
  (fun _ _ e=>e) (fun _ _ _ e=>e) (fun b ps e=>⟨#[],by simpa using e⟩) (fun m hm=>?_) (fun b u e=>?_) I.bare
 .obtain⟨_,f1,_,h,i,j⟩:=d b g;exact⟨h,f1,i,j⟩
 .obtain⟨o,es,ep,l,r⟩:=hm;exact⟨o,es,ep,k _ o (fun z=>(d _ z).2.1 rfl) l,r⟩
 .refine(I.hok b u e).stay (fun c v a q=>k c v ?_ q) (fun _ q=>q) fun _ _ q=>q;rcases a with z|z
  .rw[z];exact f b _ e
  .exact f c _ z
end
def Ite(Sq:Hp->Td->Prop):It:=
 ⟨fun i H=>∃xs x,Sq H xs/\xs[i]?=Z x,fun i H v H'=>∃p x,H p=Y/\v=.ref p/\H'=upd H p (.tup [.int i,x])/\∀xs,Sq H xs->xs[i]?=Z x,fun i H=>∃xs,Sq H xs/\xs.length=i⟩
def tnE(e it:Uc)(It:Heap->Nat->Prop)(i:Nat)(h:Heap):Prop:=(∃a,IsEnum h e it i a)/\It h i
section
variable{P:Ue}{w:World}{K:Fg}{elts:T9}{x1:Nat}{tpos:Pos}
def GJ{e it a:Uc}{Sq:Hp->Td->Prop}{It:Heap->Nat->Prop}(hei:e≠it)
 (hobj:∀h i,It h i->∃o vs,h.get? it=Z o/\o.data=.fields vs) (hkeep:∀h h' i,It h i->(∀o,h.get? it=Z o->h'.get? it=Z o)->It h' i)
 (hinj:∀(X:Cx),X.K=K->∀pins σ H s,Inv X pins σ H s->∀xs ys,Sq H xs->Sq H ys->xs=ys)
 (draw:∀(X:Cx),X.prog=P->X.w=w->X.K=K->X.calm=true->∀pins σ H s,Inv X pins σ H s->∀xs,Sq H xs->(∃o vs,s.heap.get? it=Z o/\o.data=.fields vs)->(∃o vs,s.heap.get? e=Z o/\o.data=.fields vs)->∃(its:T6)(fp:Tb)(S:Nat->Heap->Prop),bH xs its/\e∉fp /\
  Draws P w X.A.in1 it fp its.length (fun i v=>its[i]?=Z v) S/\(∀i,It s.heap i->S i s.heap)/\∀i h,S i h->It h i):
 Turn P w K (.Tuple elts x1 tpos) (Ite Sq) [e,it] e (tnE e it It) where
 mem:=by simp
 obj:=fun i h st b hb=>by
  obtain⟨⟨old,h1⟩,h2⟩:=st;rcases List.mem_cons.mp hb with rfl|hb
  .exact⟨_,h1,fun v z=>by cases z⟩
  .obtain⟨o,vs,q1,q2⟩:=hobj _ _ h2;rw[List.mem_singleton.mp hb];exact⟨o,q1,fun v z=>by rw[q2]at z;cases z⟩
 keep:=fun i h h' st k=>by
  obtain⟨⟨old,h1⟩,h2⟩:=st;exact⟨⟨old,k e (by simp) _ h1⟩,hkeep _ _ _ h2 fun o q=>k it (by simp) o q⟩
 item:=by
  intro X hP hw hK hc i pins s σ H E I hf st hg;obtain⟨xs,x,hq,hx⟩:=hg;obtain⟨⟨old,he⟩,hit⟩:=st;obtain⟨its,fp,S,rv,hef,D,s1,s2⟩:=draw X hP hw hK hc pins σ H s I xs hq (hobj _ _ hit) ⟨_,_,he,rfl⟩;subst hP hw hK;obtain⟨u,hu,ru⟩:=rv.get hx;have hlt:=(List.getElem?_eq_some_iff.mp hu).1;refine wpAny_pyNext_enum_itemD D he (s1 _ hit) hlt hei hef fun v h1 tk hv ho st1 ht hsz hk=>⟨_,rfl,?_⟩;rw[hu]at hv;cases hv;refine wpAny_letOwnedTupleGo_enum ho fun h2 he2 sb=>?_;have ne:=Z9<|C2 he;have ht2:=(sb.2 _ ne).trans ht
  have I2:Inv X pins σ (upd H s.heap.objs.size (.tup [.int i,x])) { s with heap:=h2,toks:=tk+1 }:=by
   refine I.turnLay hf (fun b o hb q=>(sb.2 b fun z=>hb (by simp[z])).trans (hk b o (fun z=>hb (by simp[z])) (fun z=>hb (by simp[z])) q)) (B3 _) ⟨by show 2<=sizeLine;rw[O6];decide,[.int i tk,u],.cons ⟨tk,rfl⟩ (.cons ru .nil),⟨_,ht2,rfl,_,rfl⟩⟩
  refine⟨.ref s.heap.objs.size,_,I2,rfl,⟨_,x,I.hok.fresh<|B3 _,rfl,rfl,fun ys hy=>by rw[hinj X rfl _ _ _ _ I ys xs hy hq];exact hx⟩,⟨⟨_,by have:=he2;push_cast;exact this⟩,?_⟩,fun b hb=>?_⟩
  .exact hkeep _ _ _ (s2 _ _ st1) fun o q=>(sb.2 it<|O1 hei).trans q
  .have hb0:=(hf b hb).1;rw[aK fun z=>?_]
   .exact hb0
   .subst z;rcases List.mem_cons.mp hb with q|q
    .exact ne q
    .obtain⟨o,vs,q1,_⟩:=hobj _ _ hit;rw[<- List.mem_singleton.mp q]at q1;exact absurd (C2 q1)<|S3 _
 done:=by
  intro X hP hw hK hc i pins s σ H E I hf st hg;obtain⟨xs,hq,hx⟩:=hg;obtain⟨⟨old,he⟩,hit⟩:=st;obtain⟨its,fp,S,rv,hef,D,s1,s2⟩:=draw X hP hw hK hc pins σ H s I xs hq (hobj _ _ hit) ⟨_,_,he,rfl⟩;subst hP hw hK;have hl:=rv.length;rw[hl]at hx;subst hx;exact wpAny_pyNext_enum_endD D he (s1 _ hit) fun h1 hx=>⟨rfl,I.turnF hf fun b o hb q=>hx b o (fun z=>hb (by simp[z])) q⟩
 self:=fun A i s Q E st h=>by
  obtain⟨⟨old,he⟩,_⟩:=st;exact wpAny_pyIter_enum he h
def QX{e it:Uc}(c:e≠it):Turn P w K (.Tuple elts x1 tpos) (Ite fun H xs=>SqL K H a xs) [e,it] e (tnE e it fun h i=>h.IsListIter it a i):=by
 refine GJ (a:=a) c (fun h i st=>?_) (fun h h' i st k=>st.at k) (fun X f pins l H s I xs C m r=>?_) fun X t u f v pins l H s I xs x hi y=>?_
 .obtain⟨o,q,_,d⟩:=st;exact⟨o,_,q,d⟩
 .subst f;exact I.list_inj m r
 .subst t u f;obtain⟨its,B,p,D⟩:=I.list x
  have ne:∀b,(∃o vs,s.heap.get? b=Z o/\o.data=.fields vs)->a≠b:=fun b ⟨o,vs,q,d⟩ z=>by
   subst z;obtain⟨o',g,_,n,j⟩:=p.isList;rw[q]at g;cases g;rw[d]at j;cases j
  refine⟨its,[it,a],fun i h=>h.IsListIter it a i/\h.IsList a its.toArray,B,?_,?_,fun i st=>⟨st,p.isList⟩,fun i h st=>st.1⟩
  .intro z;rcases List.mem_cons.mp z with z|z
   .exact c z
   .exact ne e y (List.mem_singleton.mp z).symm
  .have:=Draws.list (prog:=X.prog) (w:=X.w) (A:=X.A.in1) (I.ok.hd v) it a (ne it hi) its.toArray;simpa using this
def QZ{e it:Uc}(c:e≠it):Turn P w K (.Tuple elts x1 tpos) (Ite fun H xs=>SqT K H a xs) [e,it] e (tnE e it fun h i=>h.IsTupleIter it a i):=by
 refine GJ (a:=a) c (fun h i st=>?_) (fun h h' i st k=>st.at k) (fun X f pins l H s I xs C m r=>?_) fun X t u f v pins l H s I xs x hi y=>?_
 .obtain⟨o,q,_,d⟩:=st;exact⟨o,_,q,d⟩
 .subst f;exact I.tuple_inj m r
 .subst t u f;obtain⟨its,B,p,D⟩:=I.tuple x;have pt:=p
  have ne:∀b,(∃o vs,s.heap.get? b=Z o/\o.data=.fields vs)->a≠b:=fun b ⟨o,vs,q,d⟩ z=>by
   subst z;obtain⟨o',g,_,n,j⟩:=pt;rw[q]at g;cases g;rw[d]at j;cases j
  refine⟨its,[it,a],fun i h=>h.IsTupleIter it a i/\h.IsTuple a its.toArray,B,?_,?_,fun i st=>⟨st,pt⟩,fun i h st=>st.1⟩
  .intro z;rcases List.mem_cons.mp z with z|z
   .exact c z
   .exact ne e y (List.mem_singleton.mp z).symm
  .have:=ZV (prog:=X.prog) (w:=X.w) (A:=X.A.in1) (I.ok.hd v) it a (ne it hi) its.toArray;simpa using this
end
section
variable{X:Cx}{elts:T9}{x1:Nat}{tpos:Pos}
def aGU(K:Fg)(c:TA):TI:=fun d H R=>c d H fun vs b=>∃a,vs=[.ref a]/\((∃xs,SqL K b a xs/\R (Ite fun H xs=>SqL K H a xs) b)\/(∃xs,SqT K b a xs/\R (Ite fun H xs=>SqT K H a xs) b))
def aEU{a:Ud}{m:TA}{p pos:Pos}(n:Gl X "enumerate")(hm:X.mg "enumerate"=Y)(ha:PA X [a] m)(hs:starEach [a] X.env=[(false,eval a X.env)]:=by rfl):PI X (.Tuple elts x1 tpos) (.Call (.Name "enumerate" p) [a] [] pos) (aGU X.K m):=by
 intro pins s o H R I h;refine Call_<|xP I n hm boot_enumerate<|A0p (thn (ha pos pins s o H _ I h) fun us s1 ⟨vs,g,c,t,u⟩=>?_) hs rfl;obtain⟨l,e,q⟩:=u;subst e;cases t with
 |cons r v=>
  cases v;cases r
  have fp:∀b∈[s1.heap.objs.size+1,s1.heap.objs.size],sA X pins g b:=fun b hb=>by
   rcases List.mem_cons.mp hb with rfl|hb
   .exact c.fpOk (A0j _)<|c.hok.fresh<|A0j _
   .rw[List.mem_singleton.mp hb];exact c.fpOk (B3 _)<|c.hok.fresh<|B3 _
  rcases q with⟨xs,i,q⟩|⟨xs,i,q⟩
  .obtain⟨its,w,p,x⟩:=c.list i;refine call_enumerate_list p.isList fun h' f d j k=>?_;refine wpAny_pyIter_enum f ?_;exact⟨_,_,_,_,g,rfl,c.kept k,QX<|Nat.succ_ne_self _,⟨⟨_,f⟩,d⟩,fp,q⟩
  .obtain⟨its,w,p,x⟩:=c.tuple i;refine EO p fun h' f d j k=>?_;refine wpAny_pyIter_enum f ?_;exact⟨_,_,_,_,g,rfl,c.kept k,QZ<|Nat.succ_ne_self _,⟨⟨_,f⟩,d⟩,fp,q⟩
end
noncomputable def AH(ds:T5):T7:=ds.zipIdx.map fun p=>.d (.tuple [.int (p.2:Nat),p.1])
def xV(f:AF):AF:=fun a M=>(f a M).bind fun r=>match r.1 with
 |[.d x]=>(cT x).bind fun b=>Z (AH b,r.2)
 |_=>Y
def ZZ{i:Nat}{x:CD}(h:(AH ds)[i]?=Z x):∃d,ds[i]?=Z d/\x=.d (.tuple [.int (i:Nat),d]):=by
 unfold AH at h;rw[F8,List.getElem?_zipIdx]at h;cases e:ds[i]? with
 |none=>rw[e]at h;cases h
 |some d=>
  rw[e]at h;exact⟨d,rfl,by simpa using h.symm⟩
def aFC{K:Fg}{n:TA}{fa:AF}(b:SA K n fa):SI K (aGU K n) (xV fa):=by
 intro O M xs M' a W H A R G Rs k;obtain⟨⟨P,M1⟩,B,a⟩:=aJ a;refine b _ _ _ _ B W H A _ G Rs fun vs g o q h C=>?_;revert a;dsimp only;split
 .rename_i y;intro a;obtain⟨j,D,a⟩:=aJ a;cases a;cases C with
  |cons r E=>
   cases E;obtain⟨p,us,rfl,hs,s⟩:=pE r D
   have t:∀Sq:Hp->Td->Prop,(∀c M2 e,g.Ext c->Good K c M2 e->Sq e us)->HZ K (Ite Sq) (AH j) g:=fun Sq hS c M2 e f G2=>by
    have l:=hS c M2 e f G2;refine⟨fun i x F=>?_,us,l,by rw[show(AH j).length=j.length by simp[AH],s.length]⟩;obtain⟨d,hd,rfl⟩:=ZZ F;obtain⟨u,w,I⟩:=Paired.get (lB s) (by rw[F8,hd];rfl);refine⟨⟨us,u,l,w⟩,fun v Q J=>?_⟩;obtain⟨L,S,hn,rfl,rfl,m⟩:=J;have:=m us l;rw[w]at this;cases this;obtain⟨z,N⟩:=G2.lay hn;refine⟨_,z,N,⟨L,_,rfl,SqT.of aX,?_⟩⟩;exact⟨_,_,rfl,rfl,_,_,rfl,Rep.same z.ff _ _<|(I.up f),rfl⟩
   refine⟨p,rfl,?_⟩;rcases hs with hs|hs
   .exact .inl ⟨us,h.fh.seq hs,k _ g o q h (t _ fun c M2 e f G2=>G2.fh.seq<|f.ff.seq hs)⟩
   .exact .inr ⟨us,h.fh.seqT hs,k _ g o q h (t _ fun c M2 e f G2=>G2.fh.seqT<|f.ff.seqT hs)⟩
 .intro a;cases a
def TU{ι:Type}{K:Fg}{X:ι->Cx}{a:Ud}{fa:AF}{pos:Pos}{x1:Nat}{p:Pos}(c:∀i,(X i).K=K)(hm:∀i,(X i).mg "enumerate"=Y)(x:MA K X [a] fa)(d:∀i,Gl (X i) "enumerate":=by intro _;rfl):MI K X (.Tuple elts x1 tpos) (.Call (.Name "enumerate" p) [a] [] pos) (xV fa):=by
 obtain⟨t,b,e⟩:=x.ex;exact⟨_,fun i=>by have:=aEU (elts:=elts) (x1:=x1) (tpos:=tpos) (p:=p) (pos:=pos) (d i) (hm i) (b i)<|x.st.1 _;rw[c i]at this;exact this,aFC e⟩
end L2
namespace PySem
open PySem.Calls PyProof.Rows
def Raw(h:Heap)(d:Uc)(es:Array DictEntry)(ep:Nat):Prop:=∃o,h.get? d=Z o/\o.data=.dict es ep
def Raw.to{h':Heap}(r:Raw h d es ep)(k:∀o,h.get? d=Z o->h'.get? d=Z o):Raw h' d es ep:=let⟨o,e,x⟩:=r;⟨o,k o e,x⟩
end PySem
namespace PySem
open PySem.Calls PyProof.Rows
section
variable{prog:Ue}{w:World}{A:Uf}{E:T1}{s:Ub}{it d:Uc}{es:Array DictEntry}{i ep:Nat}
def YD{Q:T1}(hd:(d==sysModules)=false)(ty:s.TypeIs (.ref d) "dict")(r:Raw s.heap d es ep)
 (h:Q (.ref s.heap.objs.size) { s with heap:=s.heap.push { cls:=.type "dict_keyiterator",data:=.fields #[.ref d,.int 0 0,.int es.size 0,.int ep 0] } }):wpAny (model prog w) A (pyIter (.ref d)) Q E s:=by
 obtain⟨o,a,b⟩:=r;have q:Builtin.Dict.showsAll d=pure ():=by unfold Builtin.Dict.showsAll;rw[hd];rfl
 refine wpAny_pyIter_slot ty F.slot_dict_iter<|U2 F.slot_dict_iter ty F.entry_dict_iter (A0<|A0<|wpAny_notOrdered_dict ty<|B1 (?_:wpAny _ _ (Builtin.Dict.showsAll d >>= _) _ _ s))<|F.args_dict_iter_1 _;rw[q];refine A0<|B1<|A0<|wpAny_dictEntries a b<|A0<|wpAny_dictEpoch a b<|A0<|J8<|B1 ⟨_,rfl,_,_,⟨_,D0 _ rfl,rfl⟩,F.slot_dict_keyiterator_next.lookup,?_⟩;exact h
def GQ{Q:Tg->Ub->Prop}(h:A.handled=Y)(st:s.heap.IsKeyIter it d i es.size ep)(r:Raw s.heap d es ep)
 (j:∀e,es[i]?=Z e->∀h',h'.IsKeyIter it d (i+1) es.size ep->Heap.SameBut it s.heap h'->Q (Z e.key) { s with heap:=h' })
 (k:es[i]?=Y->∀h',Heap.ExtBut it s.heap h'->Q Y { s with heap:=h' }):wpAny (model prog w) A (pyNext (.ref it)) Q E s:=by
 obtain⟨o,b,l,f0⟩:=id st;obtain⟨od,f,g⟩:=r;have ty:=st.typeIs;have own:Builtin.Dict_items.ownsTuple "dict_keyiterator"=false:=by decide
 refine A0<|wpAny_attempt<|Y1 ty F.slot_dict_keyiterator_next<|U2 F.slot_dict_keyiterator_next ty F.entry_dict_keyiterator_next (A0<|B1<|A0<|A0 ?_)<|F.args_dict_keyiterator_next_1 _;refine A0<|A0t ty<|B1<|A0<|wpAny_fieldsOf b f0 ?_;refine A0<|B1<|A0<|wpAny_dictEntries f g ?_;rw[B0 (by simp)];refine A0<|B1<|A0<|wpAny_dictEpoch f g ?_;rw[B0 (by simp)];refine B1 ?_;have pl:(if (i:Int)<0 then Y else es[(i:Int).toNat]?)=es[i]?:=by rfl
 simp only[pl];cases c:es[i]? with
 |some e=>
  refine A0<|A0<|A0t ty<|B1<|A0<|wpAny_isOneOf_keyiter ty ?_;refine A0<|S9 b (i:=1) f0 (by simp) ?_
  have a:(s.heap.update it (Obj.mapFields (·.setIfInBounds 1 (rawInt ((i:Int)+1))))).IsKeyIter it d (i+1) es.size ep:=
   ⟨_,O3 _ b<|U3<|L6 f0 _,(Y9 ..).trans l,by rw[L6 f0];simp[rawInt]⟩
  refine A0<|L5<|A0<|wpAny_isOneOf_keyiter a.typeIs ?_;exact B1<|B1 ⟨_,rfl,B1<|j e c _ a<|A0u ..⟩
 |none=>
  refine A0<|A0<|A0t ty<|B1<|A0<|S9 b (i:=0) f0 (by simp)<|A0 ?_;refine A0<|J8 (A0<|wpAny_of_eq rfl<|J8 ?_ (by size_fits)) (by size_fits);refine A0<|wpAny_handled ?_;rw[show A.in1.handled=Y from h];refine A0<|B1<|wpAny_throw ?_;refine A0<|wpAny_isInstance ⟨_,D0 _ rfl,rfl⟩ isSubtype_stop ?_;exact B1<|k c _<|((A0u ..).extBut.push _).push _
def HF{h h':Heap}{it d:Uc}{i ep:Nat}(x:h.IsKeyIter it d i n ep)(k:∀o,h.get? it=Z o->h'.get? it=Z o):h'.IsKeyIter it d i n ep:=let⟨o,a,r⟩:=x;⟨o,k o a,r⟩
def XA(hh:A.handled=Y)(ne:d≠it):
 Walks prog w A it [it,d] [it] es.size (fun i v=>(es[i]?).map (·.key)=Z v) (fun i h=>h.IsKeyIter it d i es.size ep/\Raw h d es ep) where
 sub:=fun b hb=>by simp at hb;simp[hb]
 frame:=fun _ _ _ st hk=>⟨HF st.1 fun o e=>hk it (by simp) o e,st.2.to fun o e=>hk d (by simp) o e⟩
 item:=fun i s Q E hi st hQ=>by
  have hx:=Array.getElem?_eq_getElem hi;refine GQ hh st.1 st.2 (fun e he h' st' sb=>?_) fun hn=>by rw[hx]at hn;cases hn
  exact hQ _ h' s.toks (by grind) ⟨st',st.2.to fun o e=>sb.extBut d o ne e⟩ fun b o hb e=>sb.extBut b o (fun h=>hb (by simp[h])) e
 done:=fun s Q E st hQ=>by
  have hx:es[es.size]?=Y:=Array.getElem?_eq_none<|B3 _;refine GQ hh st.1 st.2 (fun e he=>by rw[hx]at he;cases he) fun _ h' sb=>hQ h' s.toks fun b o hb e=>sb b o (fun h=>hb (by simp[h])) e
 self:=fun _ _ _ _ st hQ=>wpAny_pyIter_keyiter st.1 hQ
def aAy{o:Obj}(hd:(d==sysModules)=false)(cl:o.cls=.type "dict")(dt:o.data=.dict es ep):W.KdlSrc prog w "dict" d d es.size (fun i v=>(es[i]?).map (·.key)=Z v) (fun h=>h.get? d=Z o) where
 type:=fun s ho=>⟨o,ho,cl⟩
 there:=fun h ho=>⟨C2 ho,C2 ho⟩
 keep:=fun h h' ho k=>k d (.inl rfl) o ho
 notList:=by decide
 notTuple:=by decide
 hint:=fun A E s Q ho q=>W.kdl_hint_dict ⟨o,ho,cl⟩ q
 iter:=fun A s hh ho=>⟨_,fun i h=>h.IsKeyIter s.heap.objs.size d i es.size ep/\Raw h d es ep,(fun E Q q=>YD hd ⟨o,ho,cl⟩ ⟨o,ho,dt⟩ q),XA hh<|D1<|C2 ho,⟨_,D0 _ rfl,rfl,rfl⟩,o,A5 _ ho,dt⟩
end
end PySem
namespace PySem.W
open PySem PySem.Calls PyProof.Rows PyProof.V PySem.Spec
section
variable{prog:Ue}{w:World}{A:Uf}{E:T1}{s:Ub}{h₀:Heap}{L:Uc}{m:Str->Tg}{news:T2}{vs:T6}
def l2_tail{Q:T1}(F:Fr h₀ L s.heap m)(N:News h₀ L s.heap news)(u:2<=vs.length)(f:vs.length<64)
 (h:∀D d h',Fr h₀ L h' m->News h₀ L h' ((D,seqObj "list" #[] d)::news)->(∀q∈news,q.1<D)->
  wpAny (model prog w) A.in1 (keyKind' vs.toArray) (fun n e=>(kas_sort vs.length).kasWp (kas_ask prog w A.in1 n vs) (fun p a=>KasFin h₀ L m D d (p.toList.map fun i=>vs.getD i Value.none) (fun s3=>Q (.ref D) s3) a) e) (fun _ _=>False) { s with heap:=h' }):
 wpAny (model prog w) A (do let l <- newList vs;let _ <- holding [l] (call (.builtin "list.sort") [l]);ret l) (fun g e=>∃v,g=.done (.ret v)/\Q v e) E s:=by
 refine A0<|wpAny_newList ?_ (by rw[O6];omega);have c:(s.heap.push<|seqObj "list" vs.toArray 0).get? s.heap.objs.size=Z (seqObj "list" vs.toArray 0):=D0 _ rfl;have keep:∀b o,s.heap.get? b=Z o->(s.heap.push<|seqObj "list" vs.toArray 0).get? b=Z o:=fun b o q=>A5 _ q;have r:=F.ns.lt;refine A0<|L5<|U2 slot_list_sort ⟨_,c,rfl⟩ entry_list_sort ?body<|args_list_sort _
 case body=>
  refine kat_list_sort (F.kept keep) (N.grown keep) c (Z9 r) (Z0<|E7 F.above<|Nat.le_of_lt r)
   (fun p y=>D1<|C2 (N p y).1) u f fun d h' z N'=>?_
  refine F6 (h _ d h' z N' fun q j=>C2 (N q j).1) (fun n e t=>?_) fun _ _ x=>x;rw[kat_ask_eq rfl]at t ⊢;exact kas_wp_mono t fun p a k=>k.mono fun s3 j=>⟨_,rfl,B1 ⟨_,rfl,j⟩⟩
end
end PySem.W
namespace L2
variable{A:Uf}
open PySem PySem.Spec PyProof.Rows
section
variable{X:Cx}{pins:T2}{σ:St}{H:Hp}{s:Ub}{E:T1}
noncomputable def AN(its:T6):Sem PySem.Fin:=do let l <- newList its;let _ <- holding [l] (call (.builtin "list.sort") [l]);ret l
def aBa(K:Fg)(vs:Td)(H:Hp)(Q:VK):Prop:=
 (∃a:Tw (T5),aQ K H (a.map .tuple) vs/\2<=a.length/\a.length<64/\(∀r∈a,r.all SeqAt.shaped=true/\dM r=true)/\(nH a=true\/tF a=true)/\(∀i j,i<a.length->j<a.length->(eA (a.getD i [])<|a.getD j []).isSome=true) /\
  ∀l,H l=Y->Q (.ref l) (upd H l (.lst ((fH (iQ a) a.length).map fun i=>vs.getD i .non))))\/(vs.length<2/\∀l,H l=Y->Q (.ref l) (upd H l (.lst vs)))
def aHT{a:Tw (T5)}{Q:VK}(hu:A.in1.units+64<cLine)(I:Inv X pins σ H s)(rv:bH vs its)(g:aQ X.K H (a.map .tuple) vs)(h2:2<=a.length)(T:a.length<64)
 (f:∀r∈a,r.all SeqAt.shaped=true/\dM r=true) (h:nH a=true\/tF a=true) (t:∀i j,i<a.length->j<a.length->(eA (a.getD i [])<|a.getD j []).isSome=true)
 (q:∀l,H l=Y->Q (.ref l) (upd H l (.lst ((fH (iQ a) a.length).map fun i=>vs.getD i .non)))):
 wpAny (model X.prog X.w) A (AN its) (fun U s'=>∃v,U=.done (.ret v)/\∃x H',Inv X pins σ H' s'/\RelV x v/\Q x H') E s:=by
 obtain⟨as,u⟩:=aQ.reads I _ vs its g rv;have k:its.length=a.length:=by rw[ReadsAll.len u,A3]
 obtain⟨m,F⟩:=I.fr;have N:News X.base X.env.locals s.heap (oX X.base s.heap X.env.locals):=NX;refine W.l2_tail F N (by omega) (by omega) fun D e1 h' F' N' hD=>?_
 have kp:∀(R:Heap),Fr X.base X.env.locals R m->(∀q∈oX X.base s.heap X.env.locals,R.get? q.1=Z q.2)->∀b o,b≠X.env.locals->s.heap.get? b=Z o->R.get? b=Z o:=fun R G1 M1 b o hb e=>by
  cases z:X.base.get? b with
  |some v=>
   have:=I.bk b v z;rw[e]at this;cases this;exact G1.keep b _ z
  |none=>exact M1 (b,o)<|qB hb z e
 have k':=kp h' F' fun q B=>(N' q<|C0 _ B).1
 have G:s.heap.get? D=Y:=by
  have hN:=N' _ C4;cases e:s.heap.get? D with
  |none=>rfl
  |some o=>exact absurd (hD (D,o)<|qB hN.2.1 hN.2.2 e)<|S3 _
 have J:∀b o vs n,s.heap.get? b=Z o->o.data=.seq vs n->b≠X.env.locals:=fun b o vs n e d z=>by
  obtain⟨o',es,ep,x1,x2,_⟩:=F.ns;subst z;rw[e]at x1;cases x1;rw[d]at x2;cases x2
 have a0:dM (a.map .tuple)=true:=by
  clear g u k q h t h2 T
  induction a with
  |nil=>rfl
  |cons x r ih=>
   show(dM x&&dM (r.map .tuple))=true;rw[(f x C4).2,ih fun y hy=>f y<|C0 _ hy];rfl
 have L:=aCu (fun b o vs n e d=>k' b o (J b o vs n e d) e) _ _ _ a0 u;refine XI L (by omega) h ?_;rw[k];refine KS.wp (fun i j C hi S c=>?_) (fun p a1=>?_)<|(WB (by omega)).ks (lt:=iQ a)
 .have at_:∀i,i<a.length->∃bs,Reads h' (its.getD i .none) (.tuple (a.getD i [])) bs:=fun i hi=>by
   obtain⟨bs,x⟩:=ReadsAll.at i L (by grind)
   have:(a.map PyData.tuple).getD i .none=.tuple (a.getD i []):=by
    rw[E6,F8,E6,D7 hi];rfl
   rw[this]at x;exact⟨bs,x⟩
  obtain⟨b1,r1⟩:=at_ i hi;obtain⟨b2,r2⟩:=at_ j S
  have mem:∀i,i<a.length->a.getD i []∈a:=fun i hi=>by
   rw[E6,D7 hi];exact Y8 hi
  have hd:nH a=true->∀r∈a,r.head?.all isI=true:=fun z r u=>by
   have:=List.all_eq_true.mp z r u;cases r with
   |nil=>rfl
   |cons d ds=>cases d<;>first|rfl|exact absurd this (by simp)
  obtain⟨c0,M⟩:=Option.isSome_iff_exists.mp<|t i j hi S;have hc:iQ a i j=c0:=by unfold iQ;rw[M];rfl
  rw[hc]at c;exact aJA hu r1 r2 (f _<|mem i hi).1 (f _<|mem j S).1 M (fun z=>⟨hd z _<|mem i hi,hd z _<|mem j S⟩) c
 .obtain⟨e,_⟩:=a1;subst e;refine W.KasFin.intro F' N' (.head fun q B=>D1<|hD q B) fun a2 c O P=>?_;have a3:=kp a2 O (fun q B=>(P q<|C0 _ B).1);refine⟨.ref D,upd H D (.lst ((fH (iQ a) a.length).map fun i=>vs.getD i .non)),?_,rfl,q D<|I.hok.none G⟩;refine I.laidL a3 (fun m' a4=>?_) G ⟨?_,_,c,GU rv _,(P _ C4).1⟩
  .rw[<- UT F.ns a4];exact O.ns
  .rw[A3,(rH (iQ a) (by omega)).length_eq,List.length_range];have:64<=sizeLine:=by decide
   omega
def aHz{A:Uf}{Q:VK}(I:Inv X pins σ H s)(f:bH vs its)(p:vs.length<2)(q:∀l,H l=Y->Q (.ref l) (upd H l (.lst vs))):
 wpAny (model X.prog X.w) A (AN its) (fun a h=>∃v,a=.done (.ret v)/\∃x H',Inv X pins σ H' h/\RelV x v/\Q x H') E s:=by
 have r:=f.length;have i:its.length<=sizeLine:=by rw[O6];omega
 refine A0<|wpAny_newList ?_ i;refine A0<|L5 ?_;have d:(s.heap.push { cls:=.type "list",data:=.seq its.toArray }).get? s.heap.objs.size=Z (seqObj "list" its.toArray 0):=D0 _ rfl;refine U2 slot_list_sort ⟨_,d,rfl⟩ entry_list_sort (zD d (by omega) ⟨_,rfl,?_⟩)<|args_list_sort _
 obtain⟨c,j⟩:∃c,(sortedHeap (s.heap.push { cls:=.type "list",data:=.seq its.toArray }) s.heap.objs.size its its.toArray).get? s.heap.objs.size=Z (seqObj "list" its.toArray c):=by
  have k:=get?_update_seq d (fun _=>#[]);have m:=A5 (seqObj "tuple" its.toArray 0) k;have n:=A5 (seqObj "list" #[] 0) m;exact⟨_,get?_update_seq n fun _=>its.toArray⟩
 refine B1 ⟨_,rfl,.ref s.heap.objs.size,upd H s.heap.objs.size (.lst vs),I.laid (fun b o e=>?_) (B3 _) ⟨by omega,its,c,f,j⟩,rfl,q _<|I.hok.fresh<|B3 _⟩
 .have g:=D1<|C2 e;unfold sortedHeap;rw[Heap.get?_update_ne _ _ _ _ g];refine A5 _<|A5 _ ?_;rw[Heap.get?_update_ne _ _ _ _ g];exact A5 _ e
def aJT(l:A.in1.units+64<cLine)(I:Inv X pins σ H s)(j:bH vs its)(h:aBa X.K vs H Q):
 wpAny (model X.prog X.w) A (AN its) (fun i m=>∃v,i=.done (.ret v)/\∃x H',Inv X pins σ H' m/\RelV x v/\Q x H') E s:=by
 rcases h with⟨k,a,b,c,d,e,f,g⟩|⟨a,b⟩
 .exact aHT l I j a b c d e f g
 .exact aHz I j a b
end
section
variable{X:Cx}{o:Ud}{td:TE}{pos apos cpos p:Pos}
theorem KT.addrs:∀{kvs:Tw (Tw Key×V)}{xs:Tw (Tw Key×Uc×Tz)},KT H kvs xs->Paired (fun(b:Uc)(d:Tw Key×V)=>H b=Z (.tup (d.1.map kV))) (xs.map fun x=>x.2.1) kvs /\
 Paired (fun(p:V×V)(q:Tz×Tz)=>RelV p.1 q.1/\RelV p.2 q.2) (((xs.map fun x=>x.2.1).zip kvs).map fun p=>(V.ref p.1,p.2.2)) (xs.map fun x=>(Value.ref x.2.1,x.2.2))
 |_,_,.nil=>⟨.nil,.nil⟩
 |_,_,.cons a c=>⟨.cons a.2.1 (KT.addrs c).1,.cons ⟨rfl,a.2.2⟩ (KT.addrs c).2⟩
end
section
variable{K:Fg}{td:TE}{fo:EF}
def Good.adopt{W:Wd}(G:Good K W M H)(d:H b=Z (.tup us)):W.Ext { W with F:=upd W.F b (.tup us) }/\Good K { W with F:=upd W.F b (.tup us) } M H:=by
 have ff:jN W.F (upd W.F b (.tup us)):=fun c o a=>by
  by_cases q:c=b
  .subst q;have:=G.fh _ _ a;rw[d]at this;cases this;exact aX
  .rw[aK q];exact a
 have e:W.Ext { W with F:=upd W.F b (.tup us) }:=⟨ff,B3 _,fun _ _=>rfl⟩;refine⟨e,fun c o a=>?_,G.n,fun i c hi a=>?_,G.inj,G.tb.updF fun ps e=>by rw[d]at e;cases e⟩
 .have a:upd W.F b (.tup us) c=Z o:=a;by_cases q:c=b
  .subst q;rw[aX]at a;cases a;exact d
  .rw[aK q]at a;exact G.fh c o a
 .obtain⟨h,o,f,g⟩:=G.cs i c hi a
  have ne:W.α i≠b:=fun q=>by
   rw[q,d]at f;cases f;cases c<;>exact False.elim g
  exact⟨by show upd W.F b (.tup us) (W.α i)=Y;rw[aK ne];exact h,o,f,g.up e⟩
def rR(a:Tw (T5)):Tx (T5):=if sortable a=true then Z (WJ a)else if a.length<2 then Z (a.map .tuple)else Y
theorem UX:∀ks:Tw Key,aQ K H (ks.map JS) (ks.map kV)
 |[]=>rfl
 |k::ks=>⟨_,_,rfl,by cases k<;>rfl,UX ks⟩
theorem FB:∀{bs:Tb}{kvs:Tw (Tw Key×V)}{W:Wd},Good K W M H->Paired (fun(b:Uc)(a:Tw Key×V)=>H b=Z (.tup (a.1.map kV))) bs kvs->∃W',W.Ext W'/\Good K W' M H/\Paired (fun(b:Uc)(a:Tw Key×V)=>W'.F b=Z (.tup (a.1.map kV))) bs kvs
 |_,_,W,G,.nil=>⟨W,.refl _,G,.nil⟩
 |_,_,W,G,.cons d e=>by
  obtain⟨f,g⟩:=G.adopt d;obtain⟨h,c,G2,i⟩:=FB g e;exact⟨h,f.trans c,G2,.cons (c.ff _ _ aX) i⟩
end
section
variable{K:Fg}
def Good.freezeL{W:Wd}{i:Nat}{ds:T5}(G:Good K W M H)(hi:M[i]?=Z (.lst xs))(hd:iO xs=Z ds):
 ∃W',W.Ext W'/\Good K W' (M.set i .dead) H/\W'.α i=W.α i/\cM K W' (.d (.list ds)) (.ref (W.α i)):=by
 obtain⟨vs,f,r⟩:=G.lstAt hi;obtain⟨hn,_⟩:=G.cs i _ hi (by simp);have lt:=(List.getElem?_eq_some_iff.mp hi).1;have e:W.Ext { W with F:=upd W.F (W.α i) (.lst vs) }:=⟨jN.upd hn,B3 _,fun _ _=>rfl⟩
 have at_:∀j d,(M.set i .dead)[j]?=Z d->d≠.dead->j≠i/\M[j]?=Z d:=fun j d h hd=>by
  by_cases q:i=j
  .subst q;rw[F7 lt]at h;exact absurd (E1 h).symm hd
  .rw[O9 q]at h;exact⟨fun z=>q z.symm,h⟩
 refine⟨_,e,⟨fun c o a=>?_,by show W.n=_;rw[G.n,Z3],fun j d b hd=>?_,fun j k g l b s m p t=>?_,G.tb.updF fun ps z=>by rw[f]at z;cases z⟩,rfl,⟨_,vs,rfl,SqL.of aX,aQ.same e.ff _ _<|fU hd r⟩⟩
 .have a:upd W.F (W.α i) (.lst vs) c=Z o:=a;by_cases q:c=W.α i
  .subst q;rw[aX]at a;cases a;exact f
  .rw[aK q]at a;exact G.fh c o a
 .obtain⟨q,h⟩:=at_ j d b hd;obtain⟨v,u,w,x⟩:=G.cs j d h hd;have ne:=fun z=>q<|G.inj j i d _ h hi hd (by simp) z;exact⟨by show upd W.F (W.α i) (.lst vs) (W.α j)=Y;rw[aK ne];exact v,u,w,x.up e⟩
 .exact G.inj j k g l (at_ j g b m).2 (at_ k l s p).2 m p t
def lS(f:EF):EF:=fun a M=>(f a M).bind fun r=>match r.1 with
 |.c i=>match r.2[i]? with
  |some (.lst xs)=>(iO xs).bind fun b=>Z (.d (.list b),r.2.set i .dead)
  |_=>Y
 |.d x=>Z (.d x,r.2)
 |_=>Y
def YX{t:TE}{f:EF}(a:SE K t f):SE K t (lS f):=by
 intro r M x M' b W H c Q G R k;obtain⟨⟨o,M1⟩,d,b⟩:=aJ b;revert b;dsimp only;split
 .rename_i i;split
  .rename_i xs e;intro b;obtain⟨s,g,b⟩:=aJ b;cases b;refine a _ _ _ _ d W H c _ G R fun v u h j l m=>?_;obtain⟨n,p,G2,_,q⟩:=l.freezeL e g;rw[m.2];exact k _ n h (j.trans p) G2 q
  .intro b;cases b
 .intro b;cases b;exact a _ _ _ _ d W H c _ G R k
 .intro b;cases b
def FJ{ι:Type}{X:ι->Cx}{e:Ud}{f:EF}(x:ME K X e f):ME K X e (lS f):=by
 obtain⟨t,x1,a⟩:=x.ex;exact⟨t,x1,YX a⟩
def FG:FN:=fun xs M=>match xs with
 |[.d a]=>(cT a).bind fun b=>Z (.c M.length,M++[.lst (b.map .d)])
 |[.c i]=>match M[i]? with
  |some (.lst e)=>Z (.c M.length,M++[.lst e])
  |_=>Y
 |_=>Y
def aDP:PN K (aDA K) FG:=by
 intro xs M z M' h W H vs Q G r k;unfold FG at h;split at h
 .rename_i a;obtain⟨j,e,h⟩:=aJ h;cases h;rcases r with _|⟨b,_|_⟩;obtain⟨p,us,rfl,hs,c⟩:=pE b e;refine⟨p,us,rfl,hs.elim (fun q=>.inl (G.fh.seq q)) fun q=>.inr (G.fh.seqT q),fun l d=>?_⟩;exact k _ (W.more l) _ (W.ext_more l) (G.new d<|lB c) G.newV
 .rename_i i;split at h
  .rename_i m f;cases h;rcases r with _|⟨b,_|_⟩;obtain⟨us,g,c⟩:=G.lstAt f;refine⟨_,us,by rw[b.2],.inl (SqL.of g),fun l d=>?_⟩;exact k _ (W.more l) _ (W.ext_more l) (G.new d c) G.newV
  .cases h
 .cases h
def aEV{ι:Type}{X:ι->Cx}(a:∀i,(X i).K=K):QN K X (.type "list") FG:=⟨_,fun i=>aKI<|a i,aDP⟩
def eqC(neg:Bool):F2:=fun x y M=>(snap 5 M x).bind fun a=>(snap 5 M y).bind fun b=>if (SeqAt.shaped a&&SeqAt.shaped b)=true then Z (.d (.bool (if neg then !PyData.eqv a b else PyData.eqv a b)),M)else Y
def aIM{neg:Bool}:P2 K (YI K neg) (eqC neg):=by
 intro x y M z M' h W H v u Q G c d k;obtain⟨a,e,h⟩:=aJ h;obtain⟨b,f,h⟩:=aJ h;by_cases hs:(SeqAt.shaped a&&SeqAt.shaped b)=true
 .rw[A4 hs]at h;cases h;rw[D2]at hs;exact⟨a,b,AR G 5 x a v e c,AR G 5 y b u f d,hs.1,hs.2,k _ W H (.refl _) G rfl⟩
 .rw[B0 hs]at h;cases h
def eqY(neg:Bool):F2:=BP (eqX neg)<|eqC neg
def aLT{ι:Type}{X:ι->Cx}(a:∀i,(X i).K=K)(b:∀i,(X i).A.units+64<cLine):Q2 K X (compareOp .Eq) (eqY false):=⟨_,fun i=>(kEq (a i)<|b i).or (by have:=aCI<|b i;rw[a i]at this;exact this),P2.or aAJ aIM⟩
end
def aDa(K:Fg):Td->Hp->VK->Prop:=fun xs H Q=>∃a kvs,xs=[.ref a]/\H a=Z (.dT kvs)/\∀bs:Tb,Paired (fun(b:Uc)(c:Tw Key×V)=>H b=Z (.tup (c.1.map kV))) bs kvs->aBa K (bs.map .ref) H Q
theorem GB:∀bs:Tb,bH (bs.map V.ref) (bs.map Value.ref)
 |[]=>.nil
 |_::bs=>.cons rfl (GB bs)
def JB{X:Cx}(g:X.A.in1.in1.units+64<cLine)(i:X.calm=true):eX X (.builtin "sorted") (aDa X.K):=by
 intro pins s k H xs us Q I r h;obtain⟨a,kvs,rfl,l,q⟩:=h;obtain⟨u,rfl,m⟩:=vals1 r;cases m;obtain⟨z,hs,ks,rk,od,es,ep,n,o,p,d,B⟩:=(I.hok a _ l);have C:=Paired.len rk;have el:es.size=ks.length:=by rw[<- A0n,d,A3]
 refine Calls.call_function_entry kind_sorted plain_sorted entry_sorted (args_sorted1 _) ?_;refine A0<|B1 ?_;refine A0 (W.kdu_collect (aAy hs o.1 p) (I.ok.hd i) n (by omega) fun h' tk acc t b=>?_);have y:Inv X pins k H { s with heap:=h',toks:=tk }:=I.kept t
 have ev:acc.toList=(ks.map fun x=>x.2.1).map Value.ref:=by
  refine List.ext_getElem? fun j=>?_;rw[U1];cases e:acc[j]? with
  |none=>
   have:(ks.map fun x=>x.2.1).length<=j:=by
    have D:=b.1;have:=Array.getElem?_eq_none_iff.mp e;rw[A3];omega
   rw[A0e (by grind)]
  |some v=>
   have c:(es[j]?).map (·.key)=Z v:=b.2 j v e;rw[<- U1,d,F8]at c;rw[F8,F8];cases f:ks[j]? with
   |none=>rw[f]at c;cases c
   |some w=>rw[f]at c;cases c;rfl
 rw[ev];exact aJT g y (GB _)<|q _ (KT.addrs rk).1
section
variable{K:Fg}
def qN:FN:=fun xs M=>match xs with
 |[.c i]=>match M[i]? with
  |some (.dt kvs)=>(rR (kvs.map fun a=>a.1.map JS)).bind fun r=>Z (.d (.list r),M)
  |_=>Y
 |_=>Y
theorem PB{W:Wd}:∀{bs:Tb}{kvs:Tw (Tw Key×V)},Paired (fun(b:Uc)(a:Tw Key×V)=>W.F b=Z (.tup (a.1.map kV))) bs kvs->aQ K W.F ((kvs.map fun a=>a.1.map JS).map .tuple) (bs.map .ref)
 |_,_,.nil=>rfl
 |_,_,.cons c d=>⟨_,_,rfl,⟨_,_,rfl,SqT.of c,UX _⟩,PB d⟩
theorem OZ{W:Wd}:∀{kvs:Tw (Tw Key×CD)}{us:Tw (Tw Key×V)},PKV K W kvs us->(us.map fun a=>a.1.map JS)=kvs.map fun a=>a.1.map JS
 |_,_,.nil=>rfl
 |_,_,.cons b c=>by rw[B4,B4,OZ c,b.1]
def aAv:PN K (aDa K) qN:=by
 intro xs M z M' h W H vs Q G r k;unfold qN at h;split at h
 .rename_i i;split at h
  .rename_i kvs m;obtain⟨u,a,h⟩:=aJ h;cases h;rcases r with _|⟨n,_|_⟩;obtain⟨us,o,p⟩:=G.dtAt m;refine⟨_,us,by rw[n.2],o,fun bs q=>?_⟩;obtain⟨v,j,G2,s⟩:=FB G q;have c:=PB (K:=K) s;rw[OZ p]at c;unfold rR at a;by_cases hs:sortable (kvs.map fun e=>e.1.map JS)=true
   .rw[A4 hs]at a;cases a;obtain⟨s1,s2,s3,s4,t⟩:=qC hs;refine .inl ⟨_,aQ.same G2.fh _ _ c,s1,s2,s3,s4,t,fun l f=>?_⟩;obtain⟨d,g⟩:=G2.lay f;exact k _ _ _ (j.trans d) g ⟨l,_,rfl,SqL.of aX,aQ.same d.ff _ _<|PH c _<|aLU (by omega)⟩
   .rw[B0 hs]at a;by_cases b:(kvs.map fun e=>e.1.map JS).length<2
    .rw[A4 b]at a;cases a;refine .inr ⟨by rw[<- c.length,A3];exact b,fun l f=>?_⟩;obtain⟨d,g⟩:=G2.lay f;exact k _ _ _ (j.trans d) g ⟨l,_,rfl,SqL.of aX,aQ.same d.ff _ _ c⟩
    .rw[B0 b]at a;cases a
  .cases h
 .cases h
def aGh{ι:Type}{X:ι->Cx}(a:∀i,(X i).K=K)(b:∀i,(X i).A.in1.in1.units+64<cLine)(c:∀i,(X i).calm=true):QN K X (.builtin "sorted") qN:=
 ⟨_,fun i=>by have:=JB (b i)<|c i;rw[a i]at this;exact this,aAv⟩
end
def cK.u1(r:cK k A):A.units+1<cLine:=by have:=r.un;omega
abbrev IPF:=Ga->Sto->Tx ((T7×(Sto->Prop))×Sto)
end L2
namespace PySem
open Sem (wp)
namespace F
end F
end PySem
namespace L2
open PySem PySem.Spec PyProof.Rows
def cK.le{ι:Type}{j:Nat}(r:cK k A q)(h:j<=k:=by decide):ι->cK j A q:=fun _=>r.mono h
def cK.mark{j:Nat}(r:cK k A)(h:j<=k):cK j (A.mark v) false:=
 ⟨(fun z=>nomatch z),(r.mono h).dp,(r.mono h).un,r.gd⟩
def RL(C:Uc)(sp:Sp)(EE:St->XK)(t:TA):TE:=fun a H Q=>aLG C sp [] (EE a) t a H Q
def aAO{k:Nat}{e:Ud}{es:T9}(ok:XOk X EE)(M:Mk X.K C f)(F:iI X.prog X.w X.K X.mg X.base (CX1 X.prog X.w) k f fd ps sp)(d:cK (k+1) X.A)
 (g:Gl X x) (hm:X.mg x=Z (.ref C)) (i:Binds X.K fd ps []) (ha:PA X (e::es) t) (a:(x==("__debug__":Str))=false) (j:starEach (e::es) X.env=(false,eval e X.env)::starEach es X.env) (b:(backTo pos<|starEach es X.env).any (·.1)=false):
 PE X (.Call (.Name x p) (e::es) [] pos) (RL C sp EE t):=by
 intro pins s l H Q I h;refine Y3<|pK I g hm ?_ a;refine Z5 (h₀:=X.base) I.ok.mod.kin M.kp (thn (ha pos pins s l H _ I h) fun us s1 ⟨vs,n,c,r,q⟩=>⟨c.kIn,?_⟩) j b;exact aAD M F d i .nil (fun _ _ _ _ m z=>ok.pass _ _<|aAz ok.bd m z) c r q
def OX(nm:Str)(h:FX)(fa:AF):EX:=fun a M=>(fa a M).bind fun r=>(h (.c r.2.length::r.1) (r.2++[.obj nm []])).bind fun q=>match q.1 with
 |.x e=>Z (.x e,q.2)
 |.v y=>if jL y=true then Z (.v (.c r.2.length),q.2)else Y
def VL(nm f:Str)(b:EF)(ev:EX):SFX:=fun a M=>(ev a M).bind fun r=>match r.1 with
 |.x e=>Z (.xc a e,r.2)
 |.v v=>(b a r.2).bind fun o=>(objOf nm o.2 o.1).bind fun p=>if p.2.length<1000 then Z (.o (.nx a),o.2.set p.1 (.obj nm (NF f v p.2)))else Y
section
variable{K:Fg}{EE:St->XK}{ta tv:TE}{tA:TA}
def aCG(b:SA K tA fa):SEX K EE (RL (aT K nm) (spX K h) EE tA) (OX nm h fa):=by
 intro J M r M' a W H w Q G R k;obtain⟨⟨A,M1⟩,B,a⟩:=aJ a;obtain⟨⟨z,M2⟩,C,a⟩:=aJ a;refine b _ _ _ _ B W H w _ G R fun vs n D q d E=>?_;intro p dx F f g;rw[J0];have Ga:=d.extra (o:=.own p) f;have i:(upd D dx (.own p)) p=Y:=by rw[aK (O1 g)];exact F
 have Gb:=Ga.new i (c:=.obj nm []) (o:=.ins (aT K nm) dx []) ⟨rfl,.nil⟩;have j:=n.ext_more p;refine⟨.c M1.length::A,M1++[.obj nm []],n.more p,z,M2,Gb,.cons d.newV (cS.up E j),C,fun s t l u=>?_⟩;cases z with
 |x e=>cases a;exact k s t ((q.trans j).trans l) u
 |v y=>
  have a:(if jL y=true then Z (Rs.v (.c M1.length),M2)else Y)=Z (r,M'):=a;by_cases m:jL y=true
  .rw[A4 m]at a;cases a;have:=OC m;subst this;exact fun v I=>⟨I,k s t ((q.trans j).trans l) u _<|d.newV.up l⟩
  .rw[B0 m]at a;cases a
def aFa(c:Cls K (aT K nm))(n:lH K (aT K nm) f)(a:SE K ta j)(b:SEX K EE tv ev):SSX K EE (aEq K ta tv f) (VL nm f j ev):=by
 intro p M o M' d W H h D G R k;obtain⟨⟨y,M1⟩,C,d⟩:=aJ d;refine b _ _ _ _ C W H h _ G R fun r s g t=>?_;cases y with
 |x e=>cases d;exact fun c dx z=>k r s g t h c dx (R.up g) z
 |v y=>
  intro v E;obtain⟨⟨z,M2⟩,F,d⟩:=aJ (show(j p M1).bind _=_ from d);obtain⟨⟨i,fs⟩,I,d⟩:=aJ d;have d:(if fs.length<1000 then Z (RN.o (.nx p),M2.set i (.obj nm (NF f y fs)))else Y)=Z (o,M'):=d;by_cases l:fs.length<1000
  .rw[A4 l]at d;cases d;refine a _ _ _ _ F r s h _ t (R.up g) fun u w N m G2 J=>?_;obtain⟨rfl,A⟩:=OY I;obtain⟨dx,us,L,B⟩:=G2.objAt A;refine⟨w.α i,_,dx,us,J.2,L,c,n,by rw[<- Paired.len B];exact l,?_⟩;exact k w _ (g.trans m) (G2.set A (by intro q;cases q) (c':=.obj nm (NF f y fs)) (o':=.ins (aT K nm) dx (nP f v us)) ⟨rfl,DU (E.up m) B⟩) h<|R.up<|g.trans m
  .rw[B0 l]at d;cases d
end
structure EB(P:Ue)(w:World)(K:Fg)(mg:Str->Tg)(base:Heap)(k:Nat)(nm:Str)(ps:Tc)(sp:Sp):Prop where
 ex:∃f fd,iI P w K mg base (CX1 P w) k f fd ps sp/\Mk K (aT K nm) f/\Binds K fd ps []/\mg nm=Z (.ref (aT K nm))
section
variable{ι:Type}{K:Fg}{X:ι->Cx}{EE:ι->St->XK}{e o:Ud}{es:T9}{f:EX}{g:EF}{fa:AF}{pos:Pos}
def aGu(b:∀i,(X i).K=K)(c:Cls K (aT K nm))(hn:lH K (aT K nm) fl)(x:ME K X o g)(y:MX K X EE e f)(hs:∀i,swapsWith e (Z (.Attribute o fl a)) pos.line (X i).env=pure false:=by intro _;rfl):
 MSX K X EE (.Assign [.Attribute o fl a] e pos) (VL nm fl g f):=by
 obtain⟨t,x1,d⟩:=x.ex;obtain⟨u,h,j⟩:=y.ex;refine⟨fun i=>aEq K t (u i) fl,fun i=>?_,fun i=>aFa c hn d<|j i⟩;have:=aAR (x1 i) (h i)<|hs i;rw[b i]at this;exact this
def aEC{k:Nat}{F:FX}(ok:∀i,XOk (X i)<|EE i)(C:∀i,EB (X i).prog (X i).w (X i).K (X i).mg (X i).base k nm ps (spX K F))(a:∀i,(X i).K=K)(b:∀i,cK (k+1) (X i).A)(y:MA K X (e::es) fa)(c:∀i,Gl (X i) nm:=by intro _;rfl)(hd:(nm==("__debug__":Str))=false:=by decide):
 MX K X EE (.Call (.Name nm p) (e::es) [] pos) (OX nm F fa):=by
 obtain⟨u,d,h⟩:=y.ex;refine⟨fun i=>RL (aT K nm) (spX K F) (EE i) u,fun i=>?_,fun i=>aCG h⟩;obtain⟨f,fd,j,M,B,m⟩:=(C i).ex;have:=aAO (ok i) M j (b i) (c i) m B (d i) hd (y.st.1 _) (y.st.2.plain _ _) (p:=p) (pos:=pos);rw[a i]at this;exact this
end
section
variable{P:Ue}{w:World}{K:Fg}{mg:Str->Tg}{base:Heap}
def OJ.okR{qual:Str}{st:Stmt}{ps:Tc}(D:OJ K nm "__init__" qual st)(hm:W.makesIn K (aT K nm)=true)(c:W.keepIn K (.ref (aT K nm))=true)(d:mg nm=Z (.ref (aT K nm)))(S:aV N ps (aH st))
 (e:∀(kV doc pm:Tz)(an:Ti)(cdv ct:Tz)(us:T6),us.length=ps.length->bindArgs (W.fnOf "__init__" qual (dQ st) (bU st) (aH st) .none kV doc pm an cdv ct) ⟨us,[]⟩=pure (ps.zip us))
 (a:∀(f:Uc)(cdv:Tz)(A:Uf)(outer:Tw Env)(s:Ub)(H:Hp)(E:XK),cK k (A.deeper<|envOfC qual (aH st) s.heap.objs.size f cdv)->
  MLX K (aGv P w K mg base N qual st f cdv A outer s H E) (fun _ _=>E) (bU st) b):EB P w K mg base (k+1) nm ps (spX K (fnX ps.length N.length b)):=by
 obtain⟨f,fd,F,g,h⟩:=D.ex;exact⟨f,fd,F.okXF S a,⟨hm,g,h,c⟩,F.binds e,d⟩
end
section
variable{K:Fg}
def AL(neg:Bool):F2:=fun x y M=>match y with
 |.d .none=>Z (.d (.bool (if neg then !jL x else jL x)),M)
 |_=>Y
def VB{W:Wd}(r:cM K W x v):decide (v=.non)=jL x:=by
 cases x with
 |c n=>rw[r.2];rfl
 |t n=>obtain⟨a,vs,rfl,_⟩:=r;rfl
 |f n=>obtain⟨a,o,us,rfl,_⟩:=r;rfl
 |g n=>cases r;rfl
 |d x=>
  cases x with
  |list xs=>obtain⟨a,vs,rfl,_⟩:=r;rfl
  |tuple xs=>obtain⟨a,vs,rfl,_⟩:=r;rfl
  |dict xs=>obtain⟨a,vs,rfl,_⟩:=r;rfl
  |_=>cases r;rfl
def aJQ:P2 K (fun x y H Q=>y=.non/\Q (.bl (decide (x=.non))) H) (AL false):=by
 intro x y M z M' h W H v u Q G a b k;unfold AL at h;split at h
 .cases h;exact⟨b,by rw[VB a];exact k _ W H (.refl _) G rfl⟩
 .cases h
def aGb:P2 K (fun x y H Q=>y=.non/\Q (.bl (!decide (x=.non))) H) (AL true):=by
 intro x y M z M' h W H v u Q G a b k;unfold AL at h;split at h
 .cases h;exact⟨b,by rw[VB a];exact k _ W H (.refl _) G rfl⟩
 .cases h
def aGN:Q2 K X (compareOp .Is) (AL false):=⟨_,fun _=>aHq,aJQ⟩
def aJo{ι:Type}{X:ι->Cx}:Q2 K X (compareOp .IsNot) (AL true):=⟨_,fun _=>aET,aGb⟩
end
section
variable{K:Fg}
def aKL(k:Nat)(γ:Ga)(M:Sto):Tx (Ga×Sto):=match γ[k]? with
 |some (some (.c i))=>match M[i]? with
  |some (.lst xs)=>(iO xs).bind fun a=>Z (γ.set k<|Z (.d (.list a)),M.set i .dead)
  |_=>Y
 |_=>Y
def YZ(k:Nat)(f:SF):SF:=fun b M=>(f b M).bind fun r=>match r.1 with
 |.nx a=>(aKL k a r.2).bind fun q=>Z (.nx q.1,q.2)
 |o=>Z (o,r.2)
theorem DE{a b:Type}{R:a->b->Prop}:∀{xs:Tw a}{ys:Tw b}{k:Nat}{x:a}{y:b},Paired R xs ys->ys[k]?=Z y->R x y->Paired R (xs.set k x) ys
 |_,_,0,x,y,.cons r t=>fun e h=>by cases e;exact .cons h t
 |_,_,k+1,x,y,.cons r t=>fun e h=>.cons r (DE t (by grind) h)
 |_,_,0,x,y,.nil=>fun e h=>by cases e
 |_,_,k+1,x,y,.nil=>fun e h=>by cases e
def aJC{t:TS}{f:SF}{k:Nat}(a:SS K t f):SS K t (YZ k f):=by
 intro F M o M' b W H r D G R c;obtain⟨⟨s,M1⟩,u,b⟩:=aJ b;refine a _ _ _ _ u W H r D G R fun g h j l=>?_;cases s with
 |nx e=>
  obtain⟨⟨w,M2⟩,d,b⟩:=aJ b;cases b;unfold aKL at d;split at d
  .rename_i i hi;split at d
   .rename_i xs z;obtain⟨I,A,d⟩:=aJ d;cases d;intro m n;obtain⟨B,p,G2,_,C⟩:=l.freezeL z A;obtain⟨y,E,q⟩:=Paired.get n hi;refine c B h (j.trans p) G2 m ?_;cases y with
    |none=>exact False.elim q
    |some v=>
     refine DE (n.up p) E ?_;rw[show v=.ref (g.α i)from q.2];exact C
   .cases d
  .cases d
 |bk e=>cases b;exact c g h j l
 |ct e=>cases b;exact c g h j l
 |rt x=>cases b;exact c g h j l
end
section
variable{ι:Type}{K:Fg}{X:ι->Cx}{e a:Ud}{es:T9}{f:EF}{fa:AF}{sf:SF}{st:Stmt}{pos:Pos}
def aIc(k:Nat)(x:MS K X st sf):MS K X st (YZ k sf):=by
 obtain⟨t,x1,b⟩:=x.ex;exact⟨_,x1,aJC b⟩
end
section
variable{ι:Type}{K:Fg}{X:ι->Cx}{N':Tc}{cap:T3}{scope:Scope}{tg iter elt:Ud}{ifs:T9}{f fi:EF}{gf:GF}{ft:TF}{pos:Pos}
def aJh(a:∀i,(X i).K=K):Q2 K X (binaryOp .Add) ZG:=⟨_,fun i=>(by have:=op_catS (X:=X i);rw[a i]at this;exact this),aGk⟩
end
end L2
namespace HT
open PySem  PySem.Spec PyProof.Rows
end HT
namespace L2
open PySem PySem.Spec PyProof.Rows
def Rsg(xs:Tk):Prop:=∀i k:Nat,i<k->k<xs.size->xs.getD i 0<xs.getD k 0
noncomputable abbrev t7(b:Bool)(p:Tk):SetTable:=⟨7,p,#[],0,b,0,true⟩
noncomputable abbrev t31(b:Bool)(p:Tk):SetTable:=⟨31,p,#[],0,b,1,true⟩
noncomputable def vI:Tz->Int
 |.int i _=>i
 |_=>0
structure Tp(b:Bool)(t:SetTable)(es:Array (Int×Tz)):Prop where
 bd:∀e∈es.toList,0<=e.1/\e.1<9
 vl:∀e∈es.toList,vI e.2=e.1
 nd:(es.toList.map (·.1)).Nodup
 fm:∃p,Rsg p/\((t=t7 b p/\(∀i,i<p.size->p.getD i 0<=7)/\p.size<=4/\p.size=es.size)\/(t=t31 b p/\p.toList=es.toList.map fun e=>e.1.toNat))
structure aMr(prog:Ue)(w:World)(b:Bool)(h:Heap)(a:Uc)(es:Array (Int×Tz))(σ:T8):Prop where
 ob:∃o ep t,h.get? a=Z o/\o.ExactSet/\o.data=.set es ep t/\t.fits es.size=true/\Tp b t es
 el:ElemsOf (intKind prog w) es.toList
 sm:es.size<scanBound
 pm:(es.toList.map fun e=>vI e.2).Perm σ
section
variable{prog:Ue}{w:World}{A:Uf}{E:T1}{s:Ub}
def aJl{h:Heap}{a:Uc}{o:Obj}(b:h.get? a=Z o)(hd:o.data=.set es ep t):(h.update a<|Obj.putSet es' t').get? a=Z { o with data:=.set es' (ep+1) t' }:=by
 have:=O3 (Obj.putSet es' t') b (by rw[putSet_of es' t' hd];rfl);rw[putSet_of es' t' hd]at this;exact this
def stored{h:Heap}{a:Uc}{o:Obj}{es':Array (Int×Tz)}{t':SetTable}(g:h.get? a=Z o)(c:o.ExactSet)(hd:o.data=.set es ep t)(el:ElemsOf (intKind prog w) es'.toList)(sm:es'.size<scanBound)(i:t'.fits es'.size=true)(T:Tp b t' es')(pm:(es'.toList.map fun e=>vI e.2).Perm d):
 (h.update a<|Obj.putSet es' t').get? a=Z { o with data:=.set es' (ep+1) t' }/\aMr prog w b (h.update a<|Obj.putSet es' t') a es' d:=by
 have f:=aJl (es':=es') (t':=t') g hd;exact⟨f,⟨_,_,_,f,c,rfl,i,T⟩,el,sm,pm⟩
end
section
variable{prog:Ue}{w:World}{A:Uf}{E:T1}{s:Ub}
end
end L2
namespace PySem
section
variable{prog:Ue}{w:World}{A:Uf}{E:T1}{s:Ub}
end
end PySem
namespace L2
variable{K:Fg}{apos cpos pos:Pos}
open PySem PySem.Spec PyProof.Rows
def fG(x:Str):EF:=fun _ M=>Z (.g x,M)
section
variable{K:Fg}
theorem NT{nm:Str}{F:FX}:∀{tbl:Tw (Str×FX)},tbl.lookup nm=Z F->(nm,F)∈tbl
 |[]=>fun h=>by cases h
 |(a,b)::tbl=>fun h=>by
  rw[E2]at h;by_cases e:nm=a
  .subst e;rw[A0g]at h;cases h;exact C4
  .rw[show(nm==a)=false from beq_eq_false_iff_ne.mpr e]at h;exact C0 _<|NT h
end
section
variable{ι:Type}{K:Fg}{X:ι->Cx}{e:Ud}{es:T9}{pos:Pos}
def TN(hm:∀i,(X i).mg x=Z (.ref (aT K x)))(a:∀i,Gl (X i) x:=by intro _;rfl)(hd:(x==("__debug__":Str))=false:=by decide):ME K X (.Name x pos) (fG x):=
 ⟨_,fun i=>zU (v:=.ref (aT K x)) (a i) (hm i) rfl hd,fun c M y M' b W H d Q G R k=>by cases b;exact k _ W H (.refl _) G rfl⟩
def aKo{P:Ue}:∀q∈([]:Tw (Str×FX)),dN P w K mg base k q.1 ps (spX K q.2)/\mg q.1=Z (.ref (aT K q.1)):=fun _ h=>absurd h (by simp)
def zN{P:Ue}{nm:Str}{F:FX}{tbl:Tw (Str×FX)}(C:dN P w K mg base j nm ps (spX K F))(m:mg nm=Z (.ref (aT K nm)))(h:∀q∈tbl,dN P w K mg base k q.1 ps (spX K q.2)/\mg q.1=Z (.ref (aT K q.1)))(a:j<=k:=by decide):
 ∀q∈(nm,F)::tbl,dN P w K mg base k q.1 ps (spX K q.2)/\mg q.1=Z (.ref (aT K q.1)):=fun q hq=>by
 rcases List.mem_cons.mp hq with rfl|hq
 .exact⟨C.mono a,m⟩
 .exact h q hq
end
section
variable{K:Fg}
def aMn:Td->Hp->VK->Prop:=fun xs H Q=>∃i,xs=[.int i]/\i.natAbs.log2<1920/\Q (.str (toString i)) H
def iA:FN:=fun xs M=>match xs with
 |[.d (.int i)]=>if i.natAbs.log2<1920 then Z (.d (.str (toString i)),M)else Y
 |_=>Y
def aGr:PN K aMn iA:=by
 intro xs M z M' h W H vs Q G r k;unfold iA at h;split at h
 .rename_i i;by_cases a:i.natAbs.log2<1920
  .rw[A4 a]at h;cases h;rcases r with _|⟨b,_|_⟩;exact⟨i,by rw[show _=V.int i from b],a,k _ W H (.refl _) G rfl⟩
  .rw[B0 a]at h;cases h
 .cases h
def qW:QN K X (.type "str") iA:=⟨_,fun _=>JQ,aGr⟩
noncomputable def aMf:R2:=fun x y H Q=>∃i j,x=.str i/\y=.str j/\i.length+j.length<=sizeLine/\Q (.str (i++j)) H
def aEc:F2:=fun x y M=>match x,y with
 |.d (.str a),.d (.str b)=>if a.length+b.length<=sizeLine then Z (.d (.str (a++b)),M)else Y
 |_,_=>Y
def aFn:P2 K aMf aEc:=by
 intro x y M z M' h W H v u Q G d e k;unfold aEc at h;split at h
 .rename_i a b;by_cases c:a.length+b.length<=sizeLine
  .rw[A4 c]at h;cases h;exact⟨a,b,d,e,c,k _ W H (.refl _) G rfl⟩
  .rw[B0 c]at h;cases h
 .cases h
def gL:F2:=BP bV aEc
def iN{ι:Type}{X:ι->Cx}(a:∀i,(X i).K=K):Q2 K X (binaryOp .Add) gL:=⟨_,fun i=>(aLl<|a i).or QR,P2.or SV aFn⟩
def BV:T5->Tx (Tc)
 |[]=>Z []
 |.str x::r=>(BV r).bind fun xs=>Z (x::xs)
 |_::_=>Y
theorem LO:∀{ds:T5}{ns:Tc},BV ds=Z ns->ds=ns.map .str
 |[],_=>fun h=>by cases h;rfl
 |d::ds,ns=>fun h=>by
  cases d with
  |str n=>
   obtain⟨ms,a,b⟩:=Option.bind_eq_some_iff.mp (show(BV ds).bind (fun ns=>Z (n::ns))=Z ns from h);cases b;rw[LO a];rfl
  |_=>cases h
theorem yM:∀{ns:Tc}{us:Td},aQ K H (ns.map .str) us->us=ns.map .str
 |[],_=>fun h=>h
 |n::ns,_=>fun h=>by
  obtain⟨v,r,rfl,a,b⟩:=(show ∃v r,_=v::r/\Rep K H (.str n) v/\aQ K H (ns.map .str) r from h);rw[yM b,show v=V.str n from a];rfl
theorem FE:∀{ns:Tc}{us:T6},bH (ns.map .str) us->StrsAre us ns
 |[],_=>fun h=>by cases h;exact .nil
 |n::ns,_=>fun h=>by
  cases h with
  |cons a b=>
   obtain⟨t,rfl⟩:=a;exact .cons n t (FE b)
noncomputable def sH(sep:Str)(ys:Tc):Nat:=(ys.map (·.length)).sum+ys.length*sep.length
def rJoin(K:Fg):V->Td->Hp->VK->Prop:=fun x vs H Q=>∃a p b,x=.str a/\vs=[.ref p]/\SqL K H p (b.map .str)/\sH a b<=16777216/\Q (.str (Txt.join a b)) H
def aEF:MtR X "str.join" (rJoin X.K):=by
 intro pins s j H x vs v us Q I b c h;obtain⟨d,p,l,rfl,rfl,e,f,q⟩:=h;obtain⟨t,rfl⟩:=b;obtain⟨u,rfl,g⟩:=vals1 c;cases g;obtain⟨its,a,pl,i⟩:=I.list e;exact join_list pl.isList (by simpa using FE a) f fun m k=>⟨.str _,H,I.tok _,⟨_,rfl⟩,q⟩
def nO:FM:=fun x vs M=>match x,vs with
 |.d (.str a),[.d (.list c)]=>(BV c).bind fun b=>if sH a b<=16777216 then Z (.d (.str (Txt.join a b)),M)else Y
 |_,_=>Y
def aFr:PM K (rJoin K) nO:=by
 intro x c M z M' h W H v vs Q G g rs k;unfold nO at h;split at h
 .rename_i b i;obtain⟨c,j,h⟩:=aJ h;by_cases d:sH b c<=16777216
  .rw[A4 d]at h;cases h;rcases rs with _|⟨l,_|_⟩;obtain⟨p,us,rfl,e,f⟩:=(show ∃a us,_=V.ref a/\SqL K W.F a us/\aQ K W.F i us from l);rw[LO j]at f;rw[yM f]at e;exact⟨b,p,c,g,rfl,G.fh.seq e,d,k _ W H (.refl _) G rfl⟩
  .rw[B0 d]at h;cases h
 .cases h
def zM{ι:Type}{X:ι->Cx}{e:Ud}{fa:AF}(a:∀i,(X i).K=K)(x:ME K X o f)(y:MA K X [e] fa)(b:∀env:Env,attributeBase o "join" env (eval o env)=eval o env:=by intro _;rfl)(c:(apos.endLine==cpos.line)=true:=by rfl):
 ME K X (.Call (.Attribute o "join" apos) [e] [] cpos) (bG "str" nO f fa):=by
 obtain⟨t,x1,d⟩:=x.ex;obtain⟨u,g,h⟩:=y.ex;refine⟨_,fun i=>?_,vY aFr d h⟩;have:=ON A0a F.slot_str_join F.type_str_join aEF (x1 i) (g i) (apos:=apos) (cpos:=cpos) (b _) (by rw[y.st.1];rfl) c (y.st.1 _)<|y.st.2.plain _ _;rw[a i]at this;exact this
end
section
variable{K:Fg}
def QT(K:Fg)(e ty:TE):TE:=fun d H Q=>e d H fun x f=>ty d f fun y c=>∃a b kvs k v,x=.ref a/\y=.ref b/\Rd c a (.dT kvs)/\SqT K c b (k.map kV)/\iX kvs k=Z v/\Q v c
def aDe{X:Cx}(q:X.A.units+1<cLine)(t:PE X o j)(hi:PE X i ty)(hs:aFq i):PE X (.Subscript o i pos) (QT X.K j ty):=by
 intro pins s l H Q I h;refine aGl F.slot_dict_getitem.lookup hs (thn (t pins s l H _ I h) fun u s1 ⟨x,w,B,C,D⟩=>thn (hi pins s1 l w _ B D) fun E s2 ⟨y,G,c,J,a,b,kvs,k,v,ex,L,e,M,N,O⟩=>?_);subst ex;subst L;obtain rfl:u=Value.ref a:=C;cases (show E=Value.ref b from J);obtain⟨z,hd,xs,d,m⟩:=aDb c.hok e;obtain⟨V,P,f⟩:=xS.some_of (v:=v) (o:=(atKey xs k).map (·.2)) (by rw[<- N];exact d.val k);obtain⟨p,R,g⟩:=Option.map_eq_some_iff.mp P;obtain⟨its,r,⟨ob,S,T,n,U⟩,_⟩:=c.tuple M;refine⟨m.typeIs,wpAny_getItem_heap (tupleKind_room_in1 q) (k:=k) ⟨ob,its.toArray,n,S,T,U,by simpa using wV r⟩ m R ?_⟩;rw[g];exact⟨v,G,c.tok _,f,O⟩
def XZ{X:Cx}(b:X.K=K)(c:X.A.units+1<cLine)(d:PE X o a)(hi:PE X i ty)(hs:aFq i):PE X (.Subscript o i pos) (QT K a ty):=by subst b;exact aDe c d hi hs
def HS(fo b:EF):EF:=fun a M=>(fo a M).bind fun o=>(b a o.2).bind fun k=>match k.1 with
 |.d (.tuple c)=>(keysOf<|c.map .d).bind fun ks=>(atD k.2 o.1 (.inr ks)).bind fun r=>r.bind fun x=>Z (x,k.2)
 |_=>Y
def aBM(a:SE K C fo)(b:SE K ty D):SE K (QT K C ty) (HS fo D):=by
 intro γ M x M' e W H E Q G R c;obtain⟨⟨o,M1⟩,L,e⟩:=aJ e;obtain⟨⟨ky,M2⟩,I,e⟩:=aJ e;dsimp only at e I;split at e
 .rename_i N;obtain⟨ks,O,e⟩:=aJ e;obtain⟨r,h,e⟩:=aJ e;obtain⟨z,P,e⟩:=aJ e;cases e;subst P;refine a _ _ _ _ L W H E _ G R fun v S T s U X=>b _ _ _ _ I S T E _ U (R.up s) fun y n J w G2 r2=>?_;obtain⟨q,us,rfl,hq,hr⟩:=(show ∃a us,y=V.ref a/\SqT K n.F a us/\aQ K n.F N us from r2);have ev:us=ks.map kV:=uM O<|lB hr;subst ev;have l:=G2.fh.seqT hq;have m:=X.up w;cases o with
  |c i=>
   have h:(match M'[i]? with|some (Cell.dt kvs)=>Z (lkC kvs ks)|_=>Y)=Z (Z x):=h;split at h
   .rename_i kvs hk;obtain⟨us,A,B⟩:=G2.dtAt hk;have j:=zV (k:=ks) B;rw[E1 h]at j;cases c':iX us ks with
    |none=>rw[c']at j;exact False.elim j
    |some u=>rw[c']at j;exact⟨_,q,us,ks,u,m.2,rfl,.inl A,l,c',c u n J (s.trans w) G2 j⟩
   .cases h
  |f kvs=>
   have h:Z ((lkP kvs ks).map CD.d)=Z (Z x):=h;obtain⟨p,ob,us,rfl,A,B⟩:=m;have j:=AW (k:=ks) B;rw[E1 h]at j;cases c':iX us ks with
   |none=>rw[c']at j;exact False.elim j
   |some u=>rw[c']at j;exact⟨_,q,us,ks,u,rfl,rfl,.inr ⟨ob,G2.fh _ _ A⟩,l,c',c u n J (s.trans w) G2 j⟩
  |d _=>cases h
  |t _=>cases h
  |g _=>cases h
 .cases e
def aAB{ι:Type}{X:ι->Cx}(a:∀j,(X j).K=K)(b:∀j,(X j).A.units+1<cLine)(x:ME K X o f)(y:ME K X i g)(hs:aFq i:=by intro _ _;rfl):ME K X (.Subscript o i pos) (HS f g):=by
 obtain⟨t,x1,c⟩:=x.ex;obtain⟨u,d,e⟩:=y.ex;exact⟨_,fun j=>XZ (a j) (b j) (x1 j) (d j) hs,aBM c e⟩
theorem jZ{env:Env}:∀{names:Tw (Tn)}{x:Str},names.lookup x=Z .cell\/names.lookup x=Z .free->
 (names.map fun(n,k)=>if (k==NameKind.free&&env.scope.kind==.function&&env.kindOf n==Z .cell)then(n,NameKind.cell)else(n,k)).lookup x=Z .cell \/
 (names.map fun(n,k)=>if (k==NameKind.free&&env.scope.kind==.function&&env.kindOf n==Z .cell)then(n,NameKind.cell)else(n,k)).lookup x=Z .free
 |[],_=>fun h=>by simp at h
 |(n,k)::r,x=>fun h=>by
  have ih:=@jZ env r x;show List.lookup x ((if (k==NameKind.free&&env.scope.kind==.function&&env.kindOf n==Z .cell)=true then(n,NameKind.cell)else(n,k))::_)=_\/List.lookup x ((if (k==NameKind.free&&env.scope.kind==.function&&env.kindOf n==Z .cell)=true then(n,NameKind.cell)else(n,k))::_)=_;cases a:x==n with
  |true=>
   simp only[List.lookup_cons,a]at h;by_cases b:(k==NameKind.free&&env.scope.kind==.function&&env.kindOf n==Z .cell)=true
   .rw[A4 b];simp only[List.lookup_cons,a];exact .inl trivial
   .rw[B0 b];simp only[List.lookup_cons,a];exact h
  |false=>
   simp only[List.lookup_cons,a]at h;by_cases b:(k==NameKind.free&&env.scope.kind==.function&&env.kindOf n==Z .cell)=true
   .rw[A4 b];simp only[List.lookup_cons,a];exact ih h
   .rw[B0 b];simp only[List.lookup_cons,a];exact ih h
def SW(h:aAh a b N' cap scope=true):rG (tT X b a j) N' cap scope:=by
 have S:rG { tT X b a j with env:={ (tT X b a j).env with scope:=a } } N' cap scope:=TV (sc0:=a) (N:=b) rfl rfl h;exact⟨S.nocell,S.kind,S.names,fun y c d=>jZ<|S.frees y c d,S.len,S.cap⟩
end
section
variable{K:Fg}
noncomputable def sN(a b:Str):Bool:=!(b.length==0)&&decide (a.length<=sizeLine)&&decide ((Builtin.Str.partsBetween a (Builtin.Str.occurrences a b 0 a.length (a.length+1)) b.length).length<=sizeLine)&&decide ((Txt.split a b).length<=sizeLine)
def aCP:V->Td->Hp->VK->Prop:=fun x vs H Q=>∃a b,x=.str a/\vs=[.str b]/\sN a b=true/\∀l,H l=Y->Q (.ref l) (upd H l (.lst ((Txt.split a b).map .str)))
theorem vT:∀l:Tw (Str×Tok),bH ((l.map (·.1)).map V.str) (strValues l)
 |[]=>.nil
 |p::l=>.cons ⟨p.2,rfl⟩ (vT l)
def aDl:MtR X "str.split" aCP:=by
 intro pins s m H x vs v us Q I n p h;obtain⟨a,b,rfl,rfl,ok,q⟩:=h;obtain⟨t,rfl⟩:=n;obtain⟨u,rfl,r⟩:=vals1 p;obtain⟨t',rfl⟩:=r;unfold sN at ok;simp only[Bool.and_eq_true,decide_eq_true_eq,Bool.not_eq_true']at ok;obtain⟨⟨⟨k,j⟩,g⟩,w⟩:=ok
 have d:∀(l:Tw (Str×Tok))(tk:Nat)(c:Nat),l.map (·.1)=Txt.split a b->EP X pins m Q (.ref s.heap.objs.size) { s with toks:=tk,heap:=s.heap.push { cls:=.type "list",data:=.seq (strValues l).toArray c } }:=fun l tk c e=>by
  have y:=I.laid (h':=s.heap.push { cls:=.type "list",data:=.seq (strValues l).toArray c }) (t':=tk) (o:=.lst ((Txt.split a b).map .str)) (a:=s.heap.objs.size) (fun x o z=>A5 _ z) (B3 _) ⟨by rw[A3];exact w,strValues l,c,by rw[<- e];exact vT l,D0 _ rfl⟩;exact⟨.ref _,_,y,rfl,q _<|I.hok.fresh<|B3 _⟩
 cases f:(decide (a.length<b.length) || decide (Builtin.Str.strKind a<Builtin.Str.strKind b))
 .cases i:(Builtin.Str.occurrences a b 0 a.length (a.length+1)).isEmpty
  .refine A0x A0b (A0q _ _ _) F.entry_str_split (F.args_str_split_2 _ _) (meets_str_split_sep a b t t' f k i j g) ?_;show wants _ _ _ { s with toks:=_,heap:=s.heap.push { cls:=.type "list",data:=.seq (strsFrom s.toks<|Builtin.Str.partsBetween a (Builtin.Str.occurrences a b 0 a.length (a.length+1)) b.length).toArray } };rw[strsFrom_eq];exact d (numbered s.toks _) _ _<|(numbered_texts _ _).trans ((B0<|ne_true_of_eq_false f).trans (B0<|ne_true_of_eq_false i)).symm
  .exact A0x A0b (A0q _ _ _) F.entry_str_split (F.args_str_split_2 _ _) (meets_str_split_not_found a b t t' f k i)<|d [(a,t)] s.toks _ ((B0<|ne_true_of_eq_false f).trans (A4 i)).symm
 .exact A0x A0b (A0q _ _ _) F.entry_str_split (F.args_str_split_2 _ _) (meets_str_split_cannot_occur a b t t' f)<|d [(a,t)] s.toks _ (A4 f).symm
def nZ:FM:=fun x vs M=>match x,vs with
 |.d (.str a),[.d (.str b)]=>if sN a b=true then Z (.d (.list ((Txt.split a b).map .str)),M)else Y
 |_,_=>Y
theorem AQ:∀ls:Tc,aQ K H (ls.map .str) (ls.map .str)
 |[]=>rfl
 |_::ls=>⟨_,_,rfl,rfl,AQ ls⟩
def aBb:PM K aCP nZ:=by
 intro x g M z M' h W H v vs Q G c rs k;unfold nZ at h;split at h
 .rename_i a b;by_cases ok:sN a b=true
  .rw[A4 ok]at h;cases h;rcases rs with _|⟨d,_|_⟩;refine⟨a,b,c,by rw[show _=V.str b from d],ok,fun l e=>?_⟩;obtain⟨f,G2⟩:=G.lay (o:=.lst ((Txt.split a b).map .str)) e;exact k _ _ _ f G2 ⟨l,_,rfl,SqL.of aX,AQ _⟩
  .rw[B0 ok]at h;cases h
 .cases h
def NZ{ι:Type}{X:ι->Cx}{e:Ud}{fa:AF}(a:∀i,(X i).K=K)(x:ME K X o f)(y:MA K X [e] fa)(b:∀env:Env,attributeBase o "split" env (eval o env)=eval o env:=by intro _;rfl)(c:(apos.endLine==cpos.line)=true:=by rfl):
 ME K X (.Call (.Attribute o "split" apos) [e] [] cpos) (bG "str" nZ f fa):=by
 obtain⟨t,x1,d⟩:=x.ex;obtain⟨u,g,h⟩:=y.ex;refine⟨_,fun i=>?_,vY aBb d h⟩;have:=ON A0a A0b F.type_str_split aDl (x1 i) (g i) (apos:=apos) (cpos:=cpos) (b _) (by rw[y.st.1];rfl) c (y.st.1 _)<|y.st.2.plain _ _;rw[a i]at this;exact this
def ixS:F2:=fun x y M=>match x,y with
 |.d (.str z),.d (.int n)=>if z.length<=sizeLine then(atI z.cps.toList n).bind fun c=>Z (.d (.str ⟨#[c]⟩),M)else Y
 |_,_=>Y
def aJE:P2 K aHE ixS:=by
 intro x y M z M' h W H v u Q G b d k;unfold ixS at h;split at h
 .rename_i w n;by_cases a:w.length<=sizeLine
  .rw[A4 a]at h;obtain⟨c,e,h⟩:=aJ h;cases h;exact⟨w,n,c,b,d,a,e,k _ W H (.refl _) G rfl⟩
  .rw[B0 a]at h;cases h
 .cases h
def aLX:QI K X ixS:=⟨_,fun _=>aBR,aJE⟩
def inS(neg:Bool):F2:=fun x y M=>match x,y with
 |.d (.str a),.d (.str b)=>Z (.d (.bool (if neg then !(!(Builtin.Str.occurrences b a 0 b.length 1).isEmpty)else !(Builtin.Str.occurrences b a 0 b.length 1).isEmpty)),M)
 |_,_=>Y
def aKj:P2 K (fun x y H Q=>∃i j,x=.str i/\y=.str j/\Q (.bl (!(Builtin.Str.occurrences j i 0 j.length 1).isEmpty)) H) (inS false):=by
 intro x y M z M' h W H v u Q G c d k;unfold inS at h;split at h
 .rename_i a b;cases h;exact⟨a,b,c,d,k _ W H (.refl _) G rfl⟩
 .cases h
def aLL:Q2 K X (compareOp .In) (inS false):=⟨_,fun _=>XB,aKj⟩
def lO(f:EF):TF:=fun a M=>(f a M).bind fun r=>match r.1 with
 |.d (.str y)=>if y.length<=sizeLine then Z (((y.length:Int) != 0),r.2)else Y
 |_=>Y
def aFV(a:SE K g f):STt K (fun d H Q=>g d H fun x H'=>∃k,aCX K x H' k/\Q k H') (lO f):=by
 intro o M b M' c W H d Q G R k;obtain⟨⟨y,M1⟩,h,c⟩:=aJ c;dsimp only at c;split at c
 .rename_i w;by_cases e:w.length<=sizeLine
  .rw[A4 e]at c;cases c;refine a _ _ _ _ h W H d _ G R fun v i j l m n=>⟨_,?_,k i j l m⟩;rw[show v=.str w from n];exact⟨e,rfl⟩
  .rw[B0 e]at c;cases c
 .cases c
def IC{ι:Type}{X:ι->Cx}(c:∀i,(X i).K=K)(x:ME K X a f)(d:∀(env:Env)(b:Sem Tz),isTrue a env b=(do let v <- b;standAt a.pos;holding [v]<|truthy v):=by intro _ _;rfl):MT K X a (lO f):=by
 obtain⟨t,x1,e⟩:=x.ex;exact⟨_,fun i=>VQ (c i) (x1 i)<|d _,aFV e⟩
end
section
variable{K:Fg}
def aGY:Td->Hp->VK->Prop:=fun xs H Q=>∃x n,xs=[.str x]/\PySem.intText? x=Z n/\x.length<=640/\Q (.int n) H
def WV:eX X (.type "int") aGY:=by
 intro pins s b H xs us Q I r h;obtain⟨x,n,rfl,hn,a,q⟩:=h;obtain⟨u,rfl,t,rfl⟩:=vals1 r;exact W.KIN.call_text hn a ⟨.int n,H,I.tok _,⟨_,rfl⟩,q⟩
def SM:FN:=fun xs M=>match xs with
 |[.d (.str x)]=>if x.length<=640 then(PySem.intText? x).bind fun n=>Z (.d (.int n),M)else Y
 |_=>Y
def aDU:PN K aGY SM:=by
 intro xs M z M' h W H vs Q G r k;unfold SM at h;split at h
 .rename_i x;by_cases a:x.length<=640
  .rw[A4 a]at h;obtain⟨n,b,h⟩:=aJ h;cases h;rcases r with _|⟨c,_|_⟩;exact⟨x,n,by rw[show _=V.str x from c],b,a,k _ W H (.refl _) G rfl⟩
  .rw[B0 a]at h;cases h
 .cases h
def aIE:QN K X (.type "int") SM:=⟨_,fun _=>WV,aDU⟩
def aGZ(K:Fg):Td->Hp->VK->Prop:=fun xs H Q=>∃x n,xs=[x]/\aKU K x H n/\Q (.int n) H
def aMb{X:Cx}(h:X.K=K):eX X (.builtin "len") (aGZ K):=by subst h;exact aCK
def PF:FN:=fun xs M=>match xs with
 |[.d (.str x)]=>if x.length<=sizeLine then Z (.d (.int x.length),M)else Y
 |_=>Y
def aEa:PN K (aGZ K) PF:=by
 intro xs M z M' h W H vs Q G r k;unfold PF at h;split at h
 .rename_i x;by_cases a:x.length<=sizeLine
  .rw[A4 a]at h;cases h;rcases r with _|⟨b,_|_⟩;exact⟨.str x,x.length,by rw[show _=V.str x from b],⟨a,rfl⟩,k _ W H (.refl _) G rfl⟩
  .rw[B0 a]at h;cases h
 .cases h
def aIW{ι:Type}{X:ι->Cx}(a:∀i,(X i).K=K):QN K X (.builtin "len") PF:=⟨_,fun i=>aMb<|a i,aEa⟩
noncomputable def iR(x y:Str):Tc:=match Builtin.Str.occurrences x y 0 x.length 1 with
 |i::_=>[Builtin.Str.strSub x 0 i,y,Builtin.Str.strSub x (i+y.length) x.length]
 |[]=>[x,Str.empty,Str.empty]
def ZA(x y:Str):(iR x y).length=3:=by
 unfold iR;split<;>rfl
def aGT:V->Td->Hp->VK->Prop:=fun x vs H Q=>∃a b,x=.str a/\vs=[.str b]/\(b.length==0)=false/\a.length<=sizeLine/\∀l,H l=Y->Q (.ref l) (upd H l (.tup ((iR a b).map .str)))
def aGd:MtR X "str.partition" aGT:=by
 intro pins s g H x vs v us Q I j k h;obtain⟨a,b,rfl,rfl,l,f,q⟩:=h;obtain⟨t,rfl⟩:=j;obtain⟨u,rfl,m⟩:=vals1 k;obtain⟨t',rfl⟩:=m;refine A0x F.slot_str_partition (A0q _ _ _) F.entry_str_partition (F.args_str_partition_2 _ _) (meets_str_partition a b t t' l f) ?_
 have d:∀(its:T6)(tk:Nat)(c:Nat),bH ((iR a b).map .str) its->EP X pins g Q (.ref s.heap.objs.size) { s with toks:=tk,heap:=s.heap.push { cls:=.type "tuple",data:=.seq its.toArray c } }:=fun its tk c e=>by
  have n:=I.laid (h':=s.heap.push { cls:=.type "tuple",data:=.seq its.toArray c }) (t':=tk) (o:=.tup ((iR a b).map .str)) (a:=s.heap.objs.size) (fun x o p=>A5 _ p) (B3 _) ⟨by rw[A3,ZA,O6];decide,its,e,⟨_,D0 _ rfl,rfl,c,rfl⟩⟩;exact⟨.ref _,_,n,rfl,q _<|I.hok.fresh<|B3 _⟩
 unfold iR at d;revert d;cases Builtin.Str.occurrences a b 0 a.length 1 with
 |nil=>intro d;exact d _ _ _ (.cons ⟨_,rfl⟩ (.cons ⟨_,rfl⟩ (.cons ⟨_,rfl⟩ .nil)))
 |cons i r=>intro d;exact d _ _ _ (.cons ⟨_,rfl⟩ (.cons ⟨_,rfl⟩ (.cons ⟨_,rfl⟩ .nil)))
def AA:FM:=fun x vs M=>match x,vs with
 |.d (.str a),[.d (.str b)]=>if (b.length==0)=false/\a.length<=sizeLine then Z (.d (.tuple ((iR a b).map .str)),M)else Y
 |_,_=>Y
def aGa:PM K aGT AA:=by
 intro x g M z M' h W H v vs Q G c rs k;unfold AA at h;split at h
 .rename_i a b;by_cases ok:(b.length==0)=false/\a.length<=sizeLine
  .rw[A4 ok]at h;cases h;rcases rs with _|⟨d,_|_⟩;refine⟨a,b,c,by rw[show _=V.str b from d],ok.1,ok.2,fun l e=>?_⟩;obtain⟨f,G2⟩:=G.lay (o:=.tup ((iR a b).map .str)) e;exact k _ _ _ f G2 ⟨l,_,rfl,SqT.of aX,AQ _⟩
  .rw[B0 ok]at h;cases h
 .cases h
def aFh{ι:Type}{X:ι->Cx}{e:Ud}{fa:AF}(a:∀i,(X i).K=K)(x:ME K X o f)(y:MA K X [e] fa)(b:∀env:Env,attributeBase o "partition" env (eval o env)=eval o env:=by intro _;rfl)(c:(apos.endLine==cpos.line)=true:=by rfl):
 ME K X (.Call (.Attribute o "partition" apos) [e] [] cpos) (bG "str" AA f fa):=by
 obtain⟨t,x1,d⟩:=x.ex;obtain⟨u,g,h⟩:=y.ex;refine⟨_,fun i=>?_,vY aGa d h⟩;have:=ON A0a F.slot_str_partition F.type_str_partition aGd (x1 i) (g i) (apos:=apos) (cpos:=cpos) (b _) (by rw[y.st.1];rfl) c (y.st.1 _)<|y.st.2.plain _ _;rw[a i]at this;exact this
end
def Its(x:Str):It:=⟨fun i _=>i<x.cps.size,fun i H v H'=>H'=H/\∃c,x.cps[i]?=Z c/\v=.str ⟨#[c]⟩,fun i _=>x.cps.size<=i⟩
def aAK{P:Ue}(it:Uc)(x:Str)(t:Tok):Turn P w K tg (Its x) [it] it (fun i h=>h.IsStrIter it "str_ascii_iterator" x t i) where
 mem:=by simp
 obj:=fun i h st b hb=>by
  have e:b=it:=by simpa using hb
  subst e;obtain⟨o,h1,h2,h3⟩:=st;exact⟨_,h1,fun v z=>by rw[h3]at z;cases z⟩
 keep:=fun i h h' st k=>by
  obtain⟨o,h1,h2,h3⟩:=st;exact⟨o,k it (by simp) _ h1,h2,h3⟩
 item:=by
  intro X hP hw hK hc i pins s σ H E I hf st hg;subst hP hw hK;obtain⟨f0,f1,f2,f3,f4,f5⟩:=hf it (by simp);have W:=Walks.strAscii (prog:=X.prog) (w:=X.w) (I.ok.hd hc) it x t;refine W.item i s _ _ hg st fun v h' tk hv st' kk=>?_;obtain⟨c,u,hc',rfl⟩:=hv;have I1:Inv X pins σ H { s with heap:=h',toks:=tk }:=I.turned (fun b o hb e=>kk b o (by simpa using hb) e) f0 f1 f3 f4 f5;obtain⟨o,h1,h2,h3⟩:=id st';exact⟨_,rfl,TC (s:={ s with heap:=h',toks:=tk }) (n:="str_ascii_iterator") h1 h2 h3 (by decide) ⟨.str ⟨#[c]⟩,H,I1,⟨u,rfl⟩,⟨rfl,c,hc',rfl⟩,st',fun b hb=>(hf b hb).1⟩⟩
 done:=by
  intro X hP hw hK hc i pins s σ H E I hf st hg;subst hP hw hK;obtain⟨f0,f1,f2,f3,f4,f5⟩:=hf it (by simp);exact wpAny_pyNext_ascii_end (I.ok.hd hc) st (by have:x.cps.size<=i:=hg;simp;omega) fun h' eb=>⟨rfl,I.turned (t':=s.toks) (fun b o hb e=>eb b o hb e) f0 f1 f3 f4 f5⟩
 self:=fun _ _ _ _ _ st h=>wpAny_pyIter_striter_ascii st h
section
variable{X:Cx}{tg:Ud}
def aLM(a:TE):TI:=fun b H R=>a b H fun x c=>∃y,x=.str y/\y.cps.all (·<128)=true/\R (Its y) c
def aJO(d:PE X l c):PI X tg l (aLM c):=by
 intro pins s f H R I h;refine thn (d pins s f H _ I h) fun v s1 ⟨x,g,a,i,j⟩=>?_;obtain⟨y,e,ha,q⟩:=j;subst e;obtain⟨t,rfl⟩:=i;refine wpAny_pyIter_ascii ha ?_;refine⟨s1.heap.objs.size,[s1.heap.objs.size],_,_,g,rfl,a.kept (t':=s1.toks) fun b o e=>A5 _ e,aAK _ y t,⟨_,D0 _ rfl,rfl,rfl⟩,fun b k=>?_,q⟩;have e:b=s1.heap.objs.size:=by simpa using k
 subst e;exact a.fpOk (B3 _)<|a.hok.fresh<|B3 _
end
section
variable{K:Fg}
noncomputable def DL(y:Str):T7:=y.cps.toList.map fun c=>.d (.str ⟨#[c]⟩)
def YT{W:Wd}:HZ K (Its y) (DL y) W:=fun W' M' H' e G=>by
 refine⟨fun i x a=>?_,?_⟩
 .unfold DL at a;rw[F8,Option.map_eq_some_iff]at a;obtain⟨c,b,rfl⟩:=a;rw[U1]at b;refine⟨(Array.getElem?_eq_some_iff.mp b).1,fun v g d=>⟨W',.refl _,by rw[d.1];exact G,?_⟩⟩;obtain⟨c',f,rfl⟩:=d.2;rw[b]at f;cases f;rfl
 .show y.cps.size<=_;simp[DL]
def CG(f:EF):AF:=fun a M=>(f a M).bind fun r=>match r.1 with
 |.d (.str y)=>if y.cps.all (·<128)=true then Z (DL y,r.2)else Y
 |_=>Y
def aKp(a:SE K t f):SI K (aLM t) (CG f):=by
 intro l M xs M' b W H c R G Rs k;obtain⟨⟨y,M1⟩,d,b⟩:=aJ b;dsimp only at b;split at b
 .rename_i z;by_cases hs:z.cps.all (·<128)=true
  .rw[A4 hs]at b;cases b;exact a _ _ _ _ d W H c _ G Rs fun v e g h i j=>⟨z,j,hs,k _ e g h i YT⟩
  .rw[B0 hs]at b;cases b
 .cases b
def aHD(x:ME K X e f):MI K X tg e (CG f):=by
 obtain⟨t,x1,a⟩:=x.ex;exact⟨_,fun i=>aJO<|x1 i,aKp a⟩
end
section
variable{K:Fg}
def aCs{ι:Type}{X:ι->Cx}(hm:∀i,∃t:Tok,(X i).mg x=Z (.str n t))(a:∀i,Gl (X i) x:=by intro _;rfl)(hd:(x==("__debug__":Str))=false:=by decide):ME K X (.Name x pos) (fC (.str n)):=
 ⟨_,fun i=>zU (v:=.str n) (a i) (hm i).choose_spec ⟨_,rfl⟩ hd,aBg⟩
def aLm:V->Tl->Tl->Hp->VK->Prop:=fun x lo hi H Q=>∃y,x=.str y/\y.length<=sizeLine/\Q (.str (Txt.slice y lo hi)) H
def aHt:SlR X aLm:=by
 intro pins s d H x v vl n lo hi sl Q I e hs pl c h;obtain⟨y,rfl,f,q⟩:=h;obtain⟨t,rfl⟩:=e;refine⟨"str",_,F.slot_str_getitem.lookup,A0q _ _ _,?_⟩
 have a:∀l u,l.map (·.1)=lo->u.map (·.1)=hi->s.heap.IsSlice sl l u Y->wpAny (model X.prog X.w) X.A (getItem (.str y t) (.ref sl)) (EP X pins d Q) X.xe s:=fun l u g m b=>by
  subst g m;exact wpAny_getItem_str_slice b rfl<|post_val_or_str ⟨E7 (Txt.slice_le y _ _) f,fun o k=>⟨.str _,H,I.tok _,⟨_,rfl⟩,q⟩⟩
 cases pl with
 |none=>cases c with
  |none=>exact a Y Y rfl rfl hs
  |int j u=>exact a Y (Z (j,u)) rfl rfl hs
 |int i t1=>cases c with
  |none=>exact a (Z (i,t1)) Y rfl rfl hs
  |int j u=>exact a (Z (i,t1)) (Z (j,u)) rfl rfl hs
def aBK(f:EF)(l u:OF):EF:=fun a M=>(f a M).bind fun r=>(l a r.2).bind fun p=>(u a p.2).bind fun q=>match r.1 with
 |.d (.str y)=>if y.length<=sizeLine then Z (.d (.str (Txt.slice y p.1 q.1)),q.2)else Y
 |_=>Y
def aKt(a:SE K j f)(b:SO K m l)(c:SO K n u):SE K (tSl aLm j m n) (aBK f l u):=by
 intro O M x M' e W H g Q G R k;obtain⟨⟨y,M1⟩,r,e⟩:=aJ e;obtain⟨⟨p,M2⟩,s,e⟩:=aJ e;obtain⟨⟨q,t⟩,w,e⟩:=aJ e;refine a _ _ _ _ r W H g _ G R fun v A B h C D=>?_;refine b _ _ _ _ s A B g _ C (R.up h) fun E F o G2=>?_;refine c _ _ _ _ w E F g _ G2 (R.up<|h.trans o) fun I J L N=>?_;cases y with
 |d y=>
  cases y with
  |str z=>
   have e:(if z.length<=sizeLine then Z (CD.d (.str (Txt.slice z p q)),t)else Y)=Z (x,M'):=e;by_cases i:z.length<=sizeLine
   .rw[A4 i]at e;cases e;exact⟨z,D,i,k _ I J ((h.trans o).trans L) N rfl⟩
   .rw[B0 i]at e;cases e
  |_=>cases e
 |_=>cases e
def aDx{lo:Tx Ud}(x:ME K X a f)(y:MO K X lo l)(z:MO K X hi u):ME K X (.Subscript a (.Slice lo hi Y b) pos) (aBK f l u):=by
 obtain⟨t,x1,c⟩:=x.ex;obtain⟨j,d,e⟩:=y.ex;obtain⟨g,z1,h⟩:=z.ex;exact⟨_,fun i=>CL aHt (x1 i) (d i)<|z1 i,aKt c e h⟩
noncomputable def aHa:R2:=fun x y H Q=>∃i n,x=.str i/\y=.int n/\(n<1000/\-1000<n/\i.length<=1000)/\Q (.str (Txt.mul i n)) H
def aHS{x:Str}{n:Int}(h:n<1000/\-1000<n/\x.length<=1000):MulOk x n:=by
 obtain⟨b,c,a⟩:=h;refine⟨?_,fun hn _=>?_,fun hn _=>?_⟩
 .rw[E3 (by omega),E3 (by omega)];rfl
 .have:(1000:Int)<=(2 ^ 63-1) / n:=by
   refine Int.le_ediv_of_mul_le (by omega) ?_;omega
  omega
 .show decide (x.length*n.toNat > sizeLine)=false;refine E3 ?_;have:x.length*n.toNat<=1000*1000:=Nat.mul_le_mul a (by omega);rw[O6];omega
def aGx:OpR X (binaryOp .Mult) aHa:=by
 intro pins s e H x y v u Q I a b h;obtain⟨i,n,rfl,rfl,c,q⟩:=h;obtain⟨t,rfl⟩:=a;obtain⟨d,rfl⟩:=b;exact SB.mul (aHS c) fun d k=>⟨.str _,H,I.tok _,⟨_,rfl⟩,q⟩
def aCA:F2:=fun x y M=>match x,y with
 |.d (.str i),.d (.int n)=>if n<1000/\-1000<n/\i.length<=1000 then Z (.d (.str (Txt.mul i n)),M)else Y
 |_,_=>Y
def aFP:P2 K aHa aCA:=by
 intro x y M z M' h W H v u Q G b c k;unfold aCA at h;split at h
 .rename_i i n;by_cases a:n<1000/\-1000<n/\i.length<=1000
  .rw[A4 a]at h;cases h;exact⟨i,n,b,c,a,k _ W H (.refl _) G rfl⟩
  .rw[B0 a]at h;cases h
 .cases h
def aCq:Q2 K X (binaryOp .Mult) aCA:=⟨_,fun _=>aGx,aFP⟩
end
section
variable{prog:Ue}{w:World}{A:Uf}{E:T1}{s:Ub}
abbrev TK(prog:Ue)(w:World):HeapKind prog w (Tw Key):=tupleKind<|eG prog w
end
section
variable{prog:Ue}{w:World}{A:Uf}{E:T1}{s:Ub}
abbrev hT(prog:Ue)(w:World)(k:Tw Key):Int:=(TK prog w).hash k
end
section
variable{X:Cx}{N':Tc}{cap:T3}{scope:Scope}
end
section
variable{P:Ue}{w:World}{K:Fg}{mg:Str->Tg}
end
noncomputable abbrev lob(its:T6)(nn:Nat):Obj:={ cls:=.type "list",data:=.seq its.toArray nn }
def BS{pos:Pos}{Q:T1}
 (h:wpAny M A (eval (.Subscript o i p) env) (fun f a=>wpAny M A (callWith pos f [] (backTo pos<|starEach args env) []) Q E a) E s):
 wpAny M A (eval (.Call (.Subscript o i p) args [] pos) env) Q E s:=by
 show wpAny M A (eval (.Subscript o i p) env >>= _) Q E s;exact A0 (F6 h (fun f s1 q=>q) fun _ _ e=>e)
def HJ(f:EF)(tbl:Tw (Str×FX))(fa:AX):EX:=fun a M=>(f a M).bind fun r=>match r.1 with
 |.g nm=>(tbl.lookup nm).bind fun F=>sC F fa a r.2
 |_=>Y
def PV(K:Fg)(t0:TE)(tbl:Tw (Str×FX))(EE:St->XK)(t:TA):TE:=fun a H Q=>t0 a H fun v b=>∃nm F,(nm,F)∈tbl/\v=.ref (aT K nm)/\QP (spX K F) EE t a b Q
def aAd{t0:TE}(a:SE K t0 f)(b:SAX K EE h fa):SEX K EE (PV K t0 tbl EE h) (HJ f tbl fa):=by
 intro w M r M' e W H i Q G R k;obtain⟨⟨y,M1⟩,l,e⟩:=aJ e;refine a _ _ _ _ l W H i _ G R fun v m n j o p=>?_;cases y with
 |g nm=>
  obtain⟨F,q,e⟩:=aJ e;exact⟨nm,F,NT q,p,NG b _ _ _ _ e m n i Q o (R.up j) fun W' H' s u=>k W' H' (j.trans s) u⟩
 |d _=>cases e
 |c _=>cases e
 |t _=>cases e
 |f _=>cases e
def aFx{tbl:Tw (Str×FX)}{pos:Pos}{t0:TE}{e:Ud}{es:T9}(ok:XOk X EE)(C:∀q∈tbl,dN X.prog X.w X.K X.mg X.base k q.1 ps (spX X.K q.2)/\X.mg q.1=Z (.ref (aT X.K q.1)))(i:cK k X.A)(j:PE X (.Subscript o ix p) t0)(ha:PA X (e::es) t)
 (l:starEach (e::es) X.env=(false,eval e X.env)::starEach es X.env) (a:(backTo pos<|starEach es X.env).any (·.1)=false):
 PE X (.Call (.Subscript o ix p) (e::es) [] pos) (PV X.K t0 tbl EE t):=by
 intro pins s c H Q I h;refine BS (thn (j pins s c H _ I h) fun u s1 ⟨v,n,d,r,nm,F,hm,x,h⟩=>?_);subst x;obtain⟨y,z⟩:=C _ hm;obtain⟨f,fd,Fn,m,kp,b⟩:=y.ex
 have B:f=aT X.K nm:=by
  rw[z]at m;cases m;rfl
 subst B;cases r;exact Z5 (h₀:=X.base) d.ok.mod.kin kp (thn (ha pos pins s1 c _ _ d h) fun us s2 ⟨vs,n,g,r,q⟩=>⟨g.kIn,WE ok Fn i b g r q⟩) l a
def aDR{ι:Type}{X:ι->Cx}{e:Ud}{es:T9}{pos:Pos}{EE:ι->St->XK}{tbl:Tw (Str×FX)}(a:∀i,(X i).K=K)(ok:∀i,XOk (X i)<|EE i)(C:∀i,∀q∈tbl,dN (X i).prog (X i).w (X i).K (X i).mg (X i).base k q.1 ps (spX (X i).K q.2)/\(X i).mg q.1=Z (.ref (aT (X i).K q.1)))(b:∀i,cK k (X i).A)(x:ME K X (.Subscript o ix p) f)(y:MAX K X EE (e::es) fa):
 MX K X EE (.Call (.Subscript o ix p) (e::es) [] pos) (HJ f tbl fa):=by
 obtain⟨t0,x1,c⟩:=x.ex;obtain⟨u,d,g⟩:=y.ex;refine⟨fun i=>PV K t0 tbl (EE i)<|u i,fun i=>?_,fun i=>aAd c<|g i⟩;have:=aFx (p:=p) (pos:=pos) (ok i) (C i) (b i) (x1 i) (d i) (y.st.1 _)<|y.st.2.plain _ _;rw[a i]at this;exact this
def slC(x:CD)(lo hi:Tl)(M:Sto):Tx (CD×Sto):=(yQ M x).bind fun xs=>Z (.c M.length,M++[.lst (eN xs lo hi)])
def qO(f:EF)(l u:OF):EF:=fun a M=>(f a M).bind fun r=>(l a r.2).bind fun p=>(u a p.2).bind fun q=>slC r.1 p.1 q.1 q.2
def XR{lo:Tl}{z:CD}{M':Sto}(h:slC x lo hi M=Z (z,M')){W:Wd}{Q:VK}(G:Good K W M H)(a:cM K W x v)(k:∀w W' H',W.Ext W'->Good K W' M' H'->cM K W' z w->Q w H'):aCk K v lo hi H Q:=by
 obtain⟨xs,b,h⟩:=aJ h;cases h;obtain⟨p,us,rfl,d,e⟩:=nR G b a;exact .inl ⟨p,us,rfl,d,fun l f=>k _ (W.more l) _ (W.ext_more l) (G.new f (c:=.lst (eN xs lo hi)) (o:=.lst (IA us lo hi))<|GZ e lo hi) G.newV⟩
def aKq(a:SE K i f)(b:SO K j l)(c:SO K m u):SE K (tSl (aCk K) i j m) (qO f l u):=by
 intro N M x M' d W H e Q G R k;obtain⟨⟨y,M1⟩,o,d⟩:=aJ d;obtain⟨⟨p,M2⟩,r,d⟩:=aJ d;obtain⟨⟨q,O⟩,s,d⟩:=aJ d;refine a _ _ _ _ o W H e _ G R fun v t z g A B=>?_;refine b _ _ _ _ r t z e _ A (R.up g) fun C D h G2=>?_;refine c _ _ _ _ s C D e _ G2 (R.up<|g.trans h) fun P S n E=>?_;exact XR d E (B.up<|h.trans n) fun w W4 F I J L=>k w W4 F (((g.trans h).trans n).trans I) J L
def tU{ι:Type}{X:ι->Cx}{lo:Tx Ud}(c:∀i,(X i).K=K)(x:ME K X a f)(y:MO K X lo l)(z:MO K X hi u):ME K X (.Subscript a (.Slice lo hi Y b) pos) (qO f l u):=by
 obtain⟨t,x1,d⟩:=x.ex;obtain⟨k,e,g⟩:=y.ex;obtain⟨h,z1,j⟩:=z.ex;exact⟨_,fun i=>CL (kSl<|c i) (x1 i) (e i)<|z1 i,aKq d g j⟩
section
variable{K:Fg}
end
def aKN(Ln:Td->Prop)(cap:T3)(j:TI)(g:TG)(k:TT)(bd:(Td->St->Hp->Prop)->Td->St->Hp->Prop):TE:=fun e H Q=>j e H fun J l=>∃W:Nat->Nat->Td->St->Hp->Prop,(∃m,W 0 m [] (zG cap e) l)/\∀i m acc c H',W i m acc c H'->
 (J.stop i H'/\∀p,H' p=Y->Q (.ref p) (upd H' p (.lst acc))) \/
 (J.go i H'/\Ln acc/\∃N:Td->St->Hp->Prop,(∀acc' a d,N acc' a d->∃f,f<m/\W (i+1) f acc' a d)/\∀x d,J.yld i H' x d->g x c d fun a n=>k a n fun b h=>(b=true/\bd N acc a h)\/(b=false/\N acc a h))
structure LcB(X:Cx)(N':Tc)(scope:Scope)(elt tg iter:Ud)(ifs:T9)(rest:Tw Comprehension)(pos:Pos)(Ln:Td->Prop)(bd:(Td->St->Hp->Prop)->Td->St->Hp->Prop):Prop where
 ex:∃BD:Uc->Env->(Ub->Prop)->Ub->Prop,
  (∀{R:Result->Ub->Prop}{s:Ub}{it:Tz}{D:Uc}{env:Env}(I:Nat->Ub->Prop),(∀n s,I n s->wpAny (model X.prog X.w) X.A (pyNext it) (fun r s1=>(r=Y/\R (.ok .next) s1)\/∃v,r=Z v /\
   wpAny (model X.prog X.w) X.A (letOwnedTupleGo tg it v) (fun _ s2=>wpAny (model X.prog X.w) X.A (assign tg env v) (fun _ s3=>
    wpAny (model X.prog X.w) X.A (forIn ifs true fun c r=>if r=true then(do
     let ok <- isTrue c env (eval c env)
     pure (ForInStep.yield ok))else pure (ForInStep.yield r)) (fun ok s4=>
      (ok=true/\BD D env (fun s7=>∃m,m<n/\I m s7) s4)\/(ok=false/\∃m,m<n/\I m s4)) (fun _ _=>False) s3) (fun _ _=>False) s2) (fun _ _=>False) s1) (fun _ _=>False) s)->
   ∀n,I n s->codeAny (model X.prog X.w) X.A (.compLoop (.ListComp elt (⟨tg,iter,ifs,0⟩::rest) scope pos) 0 it (.ref D) env) R s) /\
  ∀{C:Uc}{sa:Ub}{Ha:Hp}{fp:Tb}{pn pins:T2}{σ:St}{H:Hp}{s:Ub}{D:Uc}{its:T6}{nn:Nat}{acc:Td}{N:Td->St->Hp->Prop}{P:Ub->Prop},Inv (eF X N' scope C sa Ha fp pn) pins σ H s->sA (eF X N' scope C sa Ha fp pn) pins H D->s.heap.get? D=Z (lob its nn)->bH acc its->acc.length<=sizeLine->Ln acc->bd N acc σ H->
   (∀s7,(∃σ' H' acc' its' nn',Inv (eF X N' scope C sa Ha fp pn) pins σ' H' s7/\H' D=Y/\s7.heap.get? D=Z (lob its' nn')/\bH acc' its'/\acc'.length<=sizeLine/\N acc' σ' H')->P s7)->BD D (eF X N' scope C sa Ha fp pn).env P s
section
variable{X:Cx}{N':Tc}{cap:T3}{scope:Scope}
def aFB{rest:Tw Comprehension}{pos:Pos}(hc:X.calm=true)(S:rG X N' cap scope)(hi:PI X tg iter wi)
 (hg:∀C s H fp pn,PG (eF X N' scope C s H fp pn) tg g) (a8:∀C s H fp pn,LK (eF X N' scope C s H fp pn) ifs tc) (B:LcB X N' scope elt tg iter ifs rest pos Ln bd)
 (hs:∀x,foldedSetIterable iter X.env x=pure x) (I:Inv X pins σ H s) (h:aKN Ln cap wi g tc bd σ H Q)
 {R:Tx (Tz->Sem Unit)}
 (post:∀(D C:Uc)(H':Hp)(acc:Td)(L:Ub),D≠C->(∃m,L.heap.Ns C m)->(∀h',Heap.SameBut C L.heap h'->Inv X pins σ (upd H' D (.lst acc)) { L with heap:=h' })->sA X pins (upd H' D (.lst acc)) C->Q (.ref D) (upd H' D (.lst acc))->compPost (model X.prog X.w) X.A X.xe R QQ (.ref D) C (.ok .next) L):
 wpAny (model X.prog X.w) X.A (comprehension (.ListComp elt (⟨tg,iter,ifs,0⟩::rest) scope pos) scope X.env (firstIterPos (⟨tg,iter,ifs,0⟩::rest) pos) (newList []) false (firstIter (⟨tg,iter,ifs,0⟩::rest) X.env) R) QQ X.xe s:=by
 obtain⟨BD,Bl,Bb⟩:=B.ex;refine wpAny_comprehension_free (e:=.ListComp elt (⟨tg,iter,ifs,0⟩::rest) scope pos) (g:=⟨tg,iter,ifs,0⟩) (gs:=rest) rfl hs (DH<|S.cells I.ok) S.kind S.names ?_;refine thn (hi pins s σ H _ I h) fun v s1 h1=>thn h1 fun aj s2 h2=>?_;obtain⟨it,fp,tn,J,k,e,F,T,U,f2,W,⟨m0,w0⟩,a3⟩:=h2;subst e
 have f:∀b∈fp,b<s2.heap.objs.size:=fun b a=>by
  obtain⟨o,e,_⟩:=T.obj _ _ U b a;exact C2 e
 refine J8<|wpAny_newFunctionEnv S.nocell (fun y hy=>by simp at hy) (fun l a0 a1=>?_) S.kind;dsimp only at a0 a1 ⊢;generalize hP:s2.heap.push { cls:=.type "list",dict:=Y,data:=.seq ([]:T6).toArray }=P2 at a0 a1 ⊢;have a4:P2.objs.size=s2.heap.objs.size+1:=by rw[<- hP,A0i]
 have j:s2.heap.objs.size≠P2.objs.size:=by rw[a4];exact D1<|S1 _
 have hC:s2.heap.objs.size<=P2.objs.size:=by rw[a4];exact A0j _
 have t:∀b o,P2.get? b=Z o->b≠P2.objs.size->l.get? b=Z o:=fun b o e a=>a1.extBut b o a<|A5 _ e;have a2:∀b o,s2.heap.get? b=Z o->l.get? b=Z o:=fun b o e=>t b o (by rw[<- hP];exact A5 _ e)<|D1<|C5 (C2 e) hC;have a9:l.get? s2.heap.objs.size=Z { cls:=.type "list",data:=.seq #[] 0 }:=t _ _ (by rw[<- hP];exact D0 _ rfl) j
 have I4:Inv (eF X N' scope P2.objs.size s2 k fp pins) [] (zG cap σ) k { s2 with heap:=l,toks:=s2.toks+([]:Tu).length }:=
  NR S F f2 f hC (by simpa using a0) a2
 have M:∀s4:Ub,s4={ s2 with heap:=l,toks:=s2.toks+([]:Tu).length }->
  codeAny (model X.prog X.w) X.A (.compLoop (.ListComp elt (⟨tg,iter,ifs,0⟩::rest) scope pos) 0 (.ref it) (.ref s2.heap.objs.size) (compEnvC scope (fT X.env scope.names []) P2.objs.size X.env)) (compPost (model X.prog X.w) X.A X.xe R QQ (.ref s2.heap.objs.size) P2.objs.size) s4:=by
  rintro s4 rfl
  have O:s2.heap.objs.size∉frs X.stack:=fun a=>by
   obtain⟨_,o,ho,_⟩:=F.stack.mem a;exact absurd (C2 ho)<|S3 _
  have cne:∀x c,(fT X.env scope.names []).lookup x=Z c->c<s2.heap.objs.size:=fun x c e=>by
   obtain⟨v,q⟩:=F.cell x c<|S.sub F.ok x c e;exact q.lt
  have E:∀{Hx:Hp}{ob:Obj},(∀b∈fp,Hx b=Y)->∀b∈fp,sA (eF X N' scope P2.objs.size s2 k fp pins) [(s2.heap.objs.size,ob)] Hx b:=fun{Hx ob} hn b a=>by
   refine⟨hn b a,D1<|C5 (f b a) hC,F.stkAll (f2 b a).2.1 (f2 b a).2.2.1,.inl a,fun x c e=>(f2 b a).2.2.2.2.1 x c (S.sub F.ok x c e),fun p hp=>?_⟩;rcases List.mem_append.mp hp with z|z
   .exact(f2 b a).2.2.2.2.2 p z
   .rw[List.mem_singleton.mp z];exact Z9<|f b a
  refine Bl (fun n L=>∃(i:Nat)(d:St)(H':Hp)(acc:Td)(its:T6)(nn:Nat),Inv (eF X N' scope P2.objs.size s2 k fp pins) [] d H' L/\tn i L.heap/\(∀b∈fp,H' b=Y)/\H' s2.heap.objs.size=Y /\
   L.heap.get? s2.heap.objs.size=Z { cls:=.type "list",data:=.seq its.toArray nn }/\bH acc its/\acc.length<=sizeLine/\W i n acc d H') ?_ m0
   ⟨0,zG cap σ,k,[],[],0,I4,T.keep _ _ _ U fun b _ o e=>a2 b o e,fun b a=>(f2 b a).1,F.hok.fresh<|B3 _,a9,.nil,O4 _,w0⟩
  rintro n s5 ⟨i,d,H',acc,its,nn,I5,t5,a5,d5,g5,va,la,w5⟩
  have I5p:Inv (eF X N' scope P2.objs.size s2 k fp pins) [(s2.heap.objs.size,{ cls:=.type "list",data:=.seq its.toArray nn })] d H' s5:=I5.pins_of fun p hp=>by
   rw[List.mem_singleton.mp hp];exact⟨g5,d5,j,O,fun v z=>by cases z⟩
  rcases a3 i n acc d H' w5 with⟨stop,q⟩|⟨go,lt,N,hN,step⟩
  .refine thn (T.done (eF X N' scope P2.objs.size s2 k fp pins) rfl rfl rfl hc i _ s5 d H' _ I5p (E a5) t5 stop) fun r s6 ⟨hr,I6⟩=>.inl ⟨hr,?_⟩;have d6:=(I6.pin (s2.heap.objs.size,{ cls:=.type "list",data:=.seq its.toArray nn }) (by simp)).1;have nC:H' P2.objs.size=Y:=I6.free;refine post _ _ H' acc s6 j (let⟨m,hn,_⟩:=I6.loc;⟨m,hn⟩) (fun h' aa=>?_) (F.fpOk hC (by rw[aK j.symm];exact nC))<|q _ d5;have up:∀b o,b≠P2.objs.size->s6.heap.get? b=Z o->h'.get? b=Z o:=fun b o a e=>aa.extBut b o a e;have G:∀b o,s2.heap.get? b=Z o->b≠P2.objs.size/\b≠s2.heap.objs.size:=fun b o e=>⟨D1<|C5 (C2 e) hC,D1<|C2 e⟩;have u6:Un (frs X.stack) fp k H' s2.heap s6.heap:=I6.base
   have u7:Un (frs X.stack) fp k (upd H' s2.heap.objs.size (.lst acc)) s2.heap h':=by
    refine⟨fun b o e n a hx=>up b o (G b o e).1 (u6.keep b o e n a hx),fun b o e n a hx=>?_,fun b o e n hx=>?_,fun b o e hx=>?_,fun b xs e=>?_,fun b o u e=>?_,fun b ps e=>?_⟩
    .obtain⟨sl,q⟩:=u6.slot b o e n a hx;exact⟨sl,up b _ (G b o e).1 q⟩
    .rw[aK (G b o e).2];exact u6.free b o e n hx
    .obtain⟨o',q⟩:=u6.there b o e hx;exact⟨o',up b o' (G b o e).1 q⟩
    .have z:=u6.tups b xs e;rw[aK (aO z d5)];exact z
    .have z:=u6.frzs b o u e;rw[aK (aO z d5)];exact z
    .obtain⟨more,z⟩:=u6.tbls b ps e;exact⟨more,by rw[aK (aO z d5)];exact z⟩
   have ab:HOk X.prog X.w (upd H' s2.heap.objs.size (.lst acc)) h':=fun b u e=>by
    by_cases a:b=s2.heap.objs.size
    .subst a;rw[aX]at e;cases e;exact⟨la,its,nn,va,up _ _ j d6⟩
    .rw[aK a]at e;refine(I6.hok b u e).stay (fun c v ac z=>up c v ?_ z) (fun c z=>by rw[aK (aO z d5)];exact z) fun c xs z=>by rw[aK (aO z d5)];exact z
     rcases ac with rfl|z
     .exact aO e nC
     .exact aO z nC
   have ae:s6.os=s2.os:=I6.os;have af:=I6.bare;obtain⟨hh,gg,dd,tt,oo⟩:=s6;subst ae;have z7:=F.call (s:=s2) (h':=h') (g':=gg) (d':=dd) (t':=tt) (ch:=fp) u7 ab af fun b a=>⟨(f2 b a).2.2.2.1,(f2 b a).2.1,(f2 b a).2.2.2.2.1,(f2 b a).2.2.2.2.2⟩;exact z7
  .refine thn (T.item (eF X N' scope P2.objs.size s2 k fp pins) rfl rfl rfl hc i _ s5 d H' _ I5p (E a5) t5 go) fun r s6 ⟨u,hr,h6⟩=>.inr ⟨u,hr,?_⟩;refine thn h6 fun _ s7 ⟨x,H7,I7,r7,y7,t7,ag⟩=>?_;have ah:=I7.pinned (E ag) (T.obj _ _ t7)
   have P:∀{a6:St}{Hx:Hp}{sx:Ub},Inv (eF X N' scope P2.objs.size s2 k fp pins) ([(s2.heap.objs.size,{ cls:=.type "list",data:=.seq its.toArray nn })]++uP fp s7.heap) a6 Hx sx->
    (∀b∈fp,∀o,s7.heap.get? b=Z o->sx.heap.get? b=Z o)/\(∀b∈fp,Hx b=Y)/\sx.heap.get? s2.heap.objs.size=Z { cls:=.type "list",data:=.seq its.toArray nn }/\Hx s2.heap.objs.size=Y:=fun{a6 Hx sx} Ix=>by
    refine⟨fun b a o e=>(Ix.pin (b,o)<|C6 _<|C6 _<|fN a e).1,fun b a=>?_,?_,?_⟩
    .obtain⟨o,e,_⟩:=T.obj _ _ t7 b a;exact(Ix.pin (b,o)<|C6 _<|C6 _<|fN a e).2.1
    .exact(Ix.pin (s2.heap.objs.size,_)<|C6 _<|E4 _<|List.mem_singleton.mpr rfl).1
    .exact(Ix.pin (s2.heap.objs.size,{ cls:=.type "list",data:=.seq its.toArray nn })<|C6 _<|E4 _<|List.mem_singleton.mpr rfl).2.1
   refine thn (hg _ _ _ _ _ _ s7 d H7 x u _ ah r7<|step x H7 y7) fun _ s8 ⟨a7,H8,I8,q8⟩=>?_;refine thn (a8 _ _ _ _ _ _ s8 a7 H8 _ I8 q8) fun b s9 ⟨H9,I9,q9⟩=>?_;rcases q9 with⟨rfl,q9⟩|⟨rfl,n9⟩
   .obtain⟨b1,b2,b3,b4⟩:=P I9
    have fD:sA (eF X N' scope P2.objs.size s2 k fp pins) (uP fp s7.heap) H9 s2.heap.objs.size:=by
     refine⟨b4,j,O,.inr (B3 _),fun x c e=>D1<|cne x c e,fun p hp=>?_⟩;rcases List.mem_append.mp hp with hp|hp
     .exact D1<|C2 (F.pin p hp).1
     .exact D1<|f p.1 (FV hp).1
    refine .inl ⟨rfl,Bb (I9.pins_of fun p hp=>I9.pin p<|C6 _<|C6 _ hp) fD b3 va la lt q9 fun ak ⟨d,H',acc',its',nn',J1,J2,J3,J4,J5,J6⟩=>?_⟩;obtain⟨m',hm,ai⟩:=hN _ _ _ J6;refine⟨m',hm,i+1,d,H',acc',its',nn',J1.pins_of fun p hp=>absurd hp (by simp),T.keep _ _ _ t7 fun b a o e=>(J1.pin (b,o)<|C6 _<|fN a e).1,fun b a=>?_,J2,J3,J4,J5,ai⟩;obtain⟨o,e,_⟩:=T.obj _ _ t7 b a;exact(J1.pin (b,o)<|C6 _<|fN a e).2.1
   .obtain⟨m',hm,w9⟩:=hN _ _ _ n9;obtain⟨b1,b2,b3,b4⟩:=P I9;exact .inr ⟨rfl,m',hm,i+1,a7,H9,acc,its,nn,I9.pins_of fun p hp=>absurd hp (by simp),T.keep _ _ _ t7 b1,b2,b4,b3,va,la,w9⟩
 exact codeAny_compStart_list (M _ rfl)<|T.self _ 0 _ _ _ (T.keep _ _ _ U fun b _ o e=>a2 b o e)<|M _ rfl
def aJs{rest:Tw Comprehension}{pos:Pos}(e:X.calm=true)(S:rG X N' cap scope)(hi:PI X tg iter c)
 (f:∀C s H fp pn,PG (eF X N' scope C s H fp pn) tg g) (a:∀C s H fp pn,LK (eF X N' scope C s H fp pn) ifs d) (B:LcB X N' scope elt tg iter ifs rest pos Ln bd)
 (hs:∀x,foldedSetIterable iter X.env x=pure x:=by intro _;rfl):PE X (.ListComp elt (⟨tg,iter,ifs,0⟩::rest) scope pos) (aKN Ln cap c g d bd):=by
 intro pins s l H Q I h;refine aFB e S hi f a B hs I h fun D C H' acc n i ⟨m,hn⟩ j _ k=>⟨m,hn,fun h' b=>?_⟩;exact⟨.ref D,_,j h' b,rfl,k⟩
end
section
variable{X:Cx}{N':Tc}{cap:T3}{scope:Scope}{elt tg iter:Ud}{ifs:T9}{pos:Pos}{te:TE}
def aMz(t:∀C s H fp pn,PE (eF X N' scope C s H fp pn) elt te):LcB X N' scope elt tg iter ifs [] pos (fun acc=>acc.length<sizeLine) (fun N acc d H=>te d H fun v u=>N (acc++[v]) d u):=
 ⟨fun D env P s4=>wpAny (model X.prog X.w) X.A (eval elt env) (fun x y=>wpAny (model X.prog X.w) X.A (call (.builtin "list.append") [.ref D,x]) (fun _ B=>P B) (fun _ _=>False) y) (fun _ _=>False) s4,fun I f n h=>TQ I f n h,by
  intro C sa Ha fp pn pins d H s D its nn acc N P I E F r G lt h k;obtain⟨J,dl,L,dx,a,g⟩:=E
  have Ip:Inv (eF X N' scope C sa Ha fp pn) ([(D,lob its nn)]++pins) d H s:=I.pins_of fun p hp=>by
   rcases List.mem_append.mp hp with hp|hp
   .rw[List.mem_singleton.mp hp];exact⟨F,J,dl,L,fun v z=>by cases z⟩
   .exact I.pin p (C6 _ hp)
  refine thn (t _ _ _ _ _ _ s d H _ Ip h) fun M O ⟨v,i,c,Q,j⟩=>?_;have q:=c.pin (D,lob its nn)<|C6 _<|E4 _<|List.mem_singleton.mpr rfl;have l:=c.pins_of fun p hp=>c.pin p<|C6 _<|C6 _ hp;refine wpAny_list_append_plain ⟨nn,q.1⟩ (fun h' hp m=>?_) (by rw[F9,<- r.length];exact G);obtain⟨n2,R⟩:=hp;refine k _ ⟨d,i,acc++[v],its++[M],n2,l.turned (fun b o S e=>m.extBut b o S e) q.2.1 dl dx a g,q.2.1,?_,r.append (.cons Q .nil),?_,j⟩
  .rw[R];simp
  .rw[C3,I0];exact lt⟩
end
section
variable{K:Fg}{ι:Type}{X:ι->Cx}{N':Tc}{cap:T3}{scope:Scope}{tg iter elt tg2 iter2:Ud}{ifs ifs2:T9}{pos:Pos}{fa fa2:AF}{gf gf2:GF}{ft ft2:TF}{f:EF}
def iH(a:∀i,(X i).calm=true)(S:∀i,rG (X i) N' cap scope)(x:MI K X tg iter fa)(y:MG K (tT X N' scope) tg gf)(z:MF K (tT X N' scope) ifs ft)(w:ME K (tT X N' scope) elt f)(hs:∀(env:Env)(x:Tz),foldedSetIterable iter env x=pure x:=by intro _ _;rfl):
 ME K X (.ListComp elt [⟨tg,iter,ifs,0⟩] scope pos) (fLc cap fa gf ft f):=by
 obtain⟨t,x1,b⟩:=x.ex;obtain⟨u,c,d⟩:=y.ex;obtain⟨v,z1,e⟩:=z.ex;obtain⟨o,g,h⟩:=w.ex;exact⟨_,fun i=>aJs (a i) (S i) (x1 i) (fun C s H fp pn=>c (i,C,s,H,fp,pn)) (fun C s H fp pn=>z1 (i,C,s,H,fp,pn)) (aMz fun C s H fp pn=>g (i,C,s,H,fp,pn))<|hs _,aGC b d e h⟩
end
section
variable{K:Fg}
def aBU:V->Td->Hp->VK->Prop:=fun x vs H Q=>∃a b,x=.str a/\vs=[.str b]/\Q (.int (Txt.count a b)) H
def aBr:MtR X "str.count" aBU:=by
 intro pins s g H x vs v us Q I c d h;obtain⟨a,b,rfl,rfl,q⟩:=h;obtain⟨t,rfl⟩:=c;obtain⟨u,rfl,e⟩:=vals1 d;obtain⟨f,rfl⟩:=e;exact call_gives F.slot_str_count (A0q _ _ _) F.entry_str_count (F.args_str_count_2 _ _) (gives_str_count a b t f) ⟨.int _,H,I.tok _,⟨_,rfl⟩,q⟩
def JE:FM:=fun x vs M=>match x,vs with
 |.d (.str a),[.d (.str b)]=>Z (.d (.int (Txt.count a b)),M)
 |_,_=>Y
def aCM:PM K aBU JE:=by
 intro x e M z M' h W H v vs Q G c rs k;unfold JE at h;split at h
 .rename_i a b;cases h;rcases rs with _|⟨d,_|_⟩;exact⟨a,b,c,by rw[show _=V.str b from d],k _ W H (.refl _) G rfl⟩
 .cases h
def aBA{ι:Type}{X:ι->Cx}{e:Ud}{fa:AF}(a:∀i,(X i).K=K)(x:ME K X o f)(y:MA K X [e] fa)(b:∀env:Env,attributeBase o "count" env (eval o env)=eval o env:=by intro _;rfl)(c:(apos.endLine==cpos.line)=true:=by rfl):
 ME K X (.Call (.Attribute o "count" apos) [e] [] cpos) (bG "str" JE f fa):=by
 obtain⟨t,x1,d⟩:=x.ex;obtain⟨u,g,h⟩:=y.ex;refine⟨_,fun i=>?_,vY aCM d h⟩;have:=ON A0a F.slot_str_count F.type_str_count aBr (x1 i) (g i) (apos:=apos) (cpos:=cpos) (b _) (by rw[y.st.1];rfl) c (y.st.1 _)<|y.st.2.plain _ _;rw[a i]at this;exact this
end
def EN:entryFor table "proto.unchain"=Z Builtin.«proto.unchain»:=entryFor_of_fast (by kernel_rfl)
def RZ{s:Ub}{b:Uc}{o:Obj}{Q:T1}(c:s.heap.get? b=Z o)(d:o.data=.fields vs)(e:vs[2]?=Z .none)(q:∀v,Q v s):
 wpAny (model prog w) A (runValue (.builtin "proto.unchain" ⟨[.ref a,.ref b,.ref b,.bool false],[]⟩)) Q E s:=by
 refine wpAny_runValue<|codeAny_builtin EN ?_;unfold Builtin.«proto.unchain»;refine A0<|L8 c d e ?_;rw[A4 (by decide)];simp only[ret];refine A0<|B1 ?_;exact B1<|q _
section
variable{X:Cx}{pins:T2}{σ:St}{H:Hp}{s:Ub}
def Inv.setE{a:Uc}{c:Tz}{dx:Ti}{o:Obj}{vs:Tj}{i:Nat}{x:Tz}{fr fr':Bool}(I:Inv X pins σ H s)(e:H a=Z (.ext (iE a c dx fr)))(k:s.heap.get? a=Z o)(l:o.cls=c)(m:o.dict=dx)(j:o.data=.fields vs)
 (p:∀d:Tj,d=vs.setIfInBounds i x->(fr'=true->4<d.size/\d[1]?=Z .none/\d[2]?=Z .none)/\(mH c=true->d[2]?=Z .none)):
 Inv X pins σ (upd H a (.ext (iE a c dx fr'))) { s with heap:=s.heap.update a (Obj.mapFields (·.setIfInBounds i x)) }:=by
 have h:=O3 (Obj.mapFields (·.setIfInBounds i x)) k<|U3<|L6 j _
 have g:∀b ob,b≠a->s.heap.get? b=Z ob->(s.heap.update a (Obj.mapFields (·.setIfInBounds i x))).get? b=Z ob:=fun b ob f q=>by
  rw[L9 _ _ (O1 f)];exact q
 refine I.un (t':=s.toks) ⟨fun b ob z n _ _=>?_,fun b ob z n _ _=>?_,fun b ob z n _=>?_,fun b ob z _=>?_,fun b xs z=>?_,fun b ob w z=>?_,fun b ps z=>?_⟩ fun b w z=>?_
 .exact g b ob (fun w=>by rw[w,e]at n;cases n) z
 .exact⟨ob.slots,g b ob (fun w=>by rw[w,e]at n;cases n) z⟩
 .rw[aK (fun w=>by rw[w,e]at n;cases n)];exact n
 .by_cases w:b=a
  .rw[w];exact⟨_,h⟩
  .exact⟨ob,g b ob w z⟩
 .rw[aK (nG z e (by intro w;cases w))];exact z
 .rw[aK (nG z e (by intro w;cases w))];exact z
 .exact⟨#[],by rw[aK (nG z e (by intro w;cases w)),z];simp⟩
 .by_cases f:b=a
  .subst f;rw[aX]at z;cases z;exact⟨⟨_,_,h,(Y9 _ _).trans l,(IS _ _).trans m,L6 j _,p _ rfl⟩,⟨_,h⟩,fun B C ⟨o',t,u,y⟩ A=>⟨o',t,A o' u,y⟩⟩
  .rw[aK f]at z;refine(I.hok b w z).stay (fun c v hc r=>g c v ?_ r) (fun c r=>?_) fun c xs r=>?_
   .rcases hc with rfl|hc
    .exact f
    .exact nG hc e (by intro w;cases w)
   .rw[aK (nG r e (by intro w;cases w))];exact r
   .rw[aK (nG r e (by intro w;cases w))];exact r
end
theorem UZ{h d B:Heap}:∀{l:Tw Env},h.FunFrames e l->d.FunFrames B l->h.FunFrames B l
 |[],_,_=>trivial
 |env::r,⟨a,⟨L,o,b,j,f,g⟩,q⟩,⟨_,⟨k,o',c,i,m,p4⟩,p⟩=>⟨a,⟨L,o,b,by rw[b]at c;cases c;exact i,f,g⟩,UZ q p⟩
def KL:unt (upd H a u) a=unt H a:=by
 funext b;by_cases h:b=a
 .subst h;rw[nQ,nQ]
 .rw[iY h,iY h,aK h]
section
variable{X:Cx}{C f:Uc}{x:Str}{p cpos pos kp:Pos}{k kk:Nat}{fd:FuncData}{ps:Tc}{sp:Sp}{e:Ud}{es:T9}{t:TA}{e0:Uc}
def UH(EE:St->XK)(C:Uc)(sp:Sp)(t:TA)(e0:Uc)(c:St)(H:Hp):Prop:=JY C sp t c H fun v b=>∃a dx d g,v=.ref a/\a≠e0/\b a=Z (.ext (iE a (.ref C) dx true))/\b e0=Z (.ext (iE e0 d g false))/\mH d=true/\EE c (.ref C) dx (unt b a)
def ZX{s:Ub}{Q:Flow->Ub->Prop}(bd:Body X)(pass:∀ev s,XS X EE ev s->X.xe ev s)(hh:X.A.handled=Z (.ref e0))(j:mH (.ref C)=false)(M:MkX X.K C f)(be:W.subIn X.K (.ref C) (.type "BaseException")=Z true)(F:iI X.prog X.w X.K X.mg X.base CX0 k f fd ps sp qq)(hr:cK (k+1) X.A qq)(hg:Gl X x)(hm:X.mg x=Z (.ref C))(hb:Binds X.K fd ps [])
 (ha:PA X (e::es) t) (u:(x==("__debug__":Str))=false) (he:starEach (e::es) X.env=(false,eval e X.env)::starEach es X.env) (y:(backTo cpos<|starEach es X.env).any (·.1)=false)
 (I:Inv X pins r H s) (h:UH EE C sp t e0 r H):
 wpAny (model X.prog X.w) X.A (exec (.Raise (Z (.Call (.Name x p) (e::es) [] cpos)) (Z (.Constant .none kk kp)) pos) X.env) Q X.xe s:=by
 rw[arm_exec_Raise];refine A0<|Y0 ?_;show wpAny _ _ (raiseStmt X.env (Z (do let v <- eval (.Call (.Name x p) (e::es) [] cpos) X.env;standAt pos;pure v))<|Z (do let v <- eval (.Constant .none kk kp) X.env;standAt pos;pure v)) _ _ _;unfold raiseStmt;dsimp only;refine A0<|A0 (F6 (GI (X:=X) (p:=p) (pos:=cpos) M F hr hg hm hb ha u he y I h) (fun v s1 z=>A0<|Y0<|B1 ?_) fun _ _ z=>z);obtain⟨c,H1,rfl,m,new,a,dx,c0,d0,ex,ne,B,D,n0,q⟩:=z;obtain rfl:c=a:=V.ref.inj ex;obtain⟨⟨o,vs,n,R,h3,E,h5,_⟩,_⟩:=m.hok c _ B;obtain⟨z1,z2,z3⟩:=h5 rfl
 have nt:∀{s1:Ub}{o:Obj}{vs:Tj}{G:Bool->Ub->Prop},s1.heap.get? c=Z o->o.data=.fields vs->G false s1->wpAny (model X.prog X.w) X.A (isType (.ref c)) G X.xe s1:=fun{s1 o vs G} ho hv z=>by
  simp only[isType,loadHead];refine A0<|A0v ho ?_;rw[hv];exact B1 z
 have LT:W.Looks (model X.prog X.w) s1.heap (typeOf (.ref c)) (.ref C):=R▸(U9 n).andThen .now;have LS:=W.looks_subIn (M:=model X.prog X.w) m.kIn be;refine A0<|L5<|A0<|wpAny_Constant_none<|A0<|Y0<|B1 ?_;refine A0<|B1 ?_;refine A0<|L5 ?_;unfold excFromValue isExcClass;refine A0<|A0<|nt n E ?_;simp only[Bool.false_eq_true,if_false];refine B1 ?_;simp only[Bool.false_eq_true,if_false];unfold isInstance;refine A0<|A0<|LT.here<|LS.here ?_;simp only[if_true];refine B1 ?_;rw[A4 (show(Value.none==Value.none)=true by decide)];refine A0<|B1 ?_
 have S:∀b:Tj,b=vs.setIfInBounds 3 Value.none->4<b.size/\b[1]?=Z .none/\b[2]?=Z .none:=fun b e=>by
  subst e;exact⟨by simpa using z1,by rw[J9 (by decide)];exact z2,by rw[J9 (by decide)];exact z3⟩
 have J:=m.setE (i:=3) (x:=.none) (fr':=true) B n R h3 E fun b e=>⟨fun _=>S b e,fun _=>(S b e).2.2⟩;refine A0<|S9 n E (A0r (by decide) z1) ?_;obtain⟨⟨o2,a0,L,g2,g3,T,g5,_⟩,_⟩:=J.hok c _ aX;obtain⟨U,y2,y3⟩:=g5 rfl
 have d:=J.setE (i:=4) (x:=.bool true) (fr':=true) aX L g2 g3 T fun b e=>by
  subst e;exact⟨fun _=>⟨by simpa using U,by rw[J9 (by decide)];exact y2,by rw[J9 (by decide)];exact y3⟩,fun _=>by rw[J9 (by decide)];exact y3⟩
 refine A0<|S9 L T U ?_;generalize s1.heap.update c (Obj.mapFields (·.setIfInBounds 3 Value.none))=O at J L d;generalize O.update c (Obj.mapFields (·.setIfInBounds 4 (Value.bool true)))=l at d;obtain⟨⟨o3,a1,f1,f2,f3,g,f5,_⟩,_⟩:=d.hok c _ aX;obtain⟨x1,x2,x3⟩:=f5 rfl;refine A0<|nt f1 g ?_;simp only[Bool.false_eq_true,if_false];unfold raisedInstance;have LT3:W.Looks (model X.prog X.w) l (typeOf (.ref c)) (.ref C):=f2▸(U9 f1).andThen .now;obtain⟨bm,N,nm,qn,bs,hd,sn,sub,ab,a2,dd,k0,k1,k2,k3,k5,hC,_⟩:=vQ d.kIn M.ex;have LC:W.Looks (model X.prog X.w) l (typeOf (.ref C)) (.type "type"):=(U9 hC).andThen .now;refine A0<|A0<|LT3.here<|A0<|LC.here ?_;rw[A4 (by decide)];refine B1 ?_;unfold setFlight;refine A0<|A0<|L8 f1 g x2 ?_;rw[B0 (by decide)];refine B1 ?_;have e3:upd (upd H1 c (.ext (iE c (.ref C) dx true))) c (.ext (iE c (.ref C) dx true)) e0=Z (.ext (iE e0 c0 d0 false)):=by rw[aK (O1 ne),aK<|O1 ne];exact D
 obtain⟨⟨o0,a3,p1,_,_,p4,_,p5⟩,_⟩:=d.hok e0 _ e3;unfold raiseNew;refine A0<|wpAny_handled ?_;rw[hh];dsimp only;rw[A4 (show(Value.ref e0 != Value.ref c)=true by simp;exact O1 ne)];have I4:=d.setE (i:=2) (x:=.ref e0) (fr':=false) aX f1 f2 f3 g fun b e=>⟨(fun z=>nomatch z),fun z=>by rw[j]at z;cases z⟩;refine A0<|L5 (RZ p1 p4 (p5 n0) fun _=>?_);refine A0 (show wpAny _ _ (setField (.ref c) 2 (.ref e0)) _ _ _ from S9 f1 g (A0r (by decide) x1) ?_);refine wpAny_throw ?_;have q1:=O3 (Obj.mapFields (·.setIfInBounds 2 (Value.ref e0))) f1<|U3<|L6 g _;have I5:Inv X [] r _ _:=(I4.untrack aX).pins_of fun p P=>absurd P (by simp);rw[KL,KL,KL]at I5;refine pass _ _<|QB bd I5 q1 nQ (new bd.ex) (fun p P z=>?_) (L6 g _) (by simpa using A0r (by decide) x1) (by rw[J9 (by decide)];exact x2) (fun z=>?_) ?_
 .have:=(m.pin p<|E4 _ P).2.1;rw[z,B]at this;cases this
 .rw[(Y9 _ _).trans f2,j]at z;cases z
 .rw[(Y9 _ _).trans f2,(IS _ _).trans f3];exact q
end
def ZI{X:Cx}{i:Nat}{n:Str}{EE:St->XK}{E:T1}{ev:Tz}(ok:X.Ok)(bd:Body X)(nd:X.N.Nodup)(hi:X.N[i]?=Z n)(lo:X.env.scope.names.lookup n=Z .local)
 (h:XS (hCx X a) (fun G c dx H=>EE (G.set i Y) c dx H) ev s) (q:∀m,XS X EE ev m->E ev m):
 AsSuiteRaised (model X.prog X.w) (X.A.mark<|Z (.ref a)) X.env n hp (notedBy (model X.prog X.w) (X.A.mark<|Z (.ref a)) X.env fun x m=>cameBackBy (model X.prog X.w) X.A X.env E x m) ev s:=by
 obtain⟨e,c,dx,st,G,H,B,rfl,I,k,F,p,z⟩:=h;have S:Body (hCx X a):=⟨bd.stk,bd.fr,bd.ex⟩;have J:(X.A.mark<|Z (.ref a)).frames=Z (X.env::X.outer):=by have:=ok.frames;rw[bd.stk]at this;exact this
 have U:Fly B (X.env::X.outer) e c dx st s.heap:=by have:=F;rw[show(hCx X a).stack=X.env::X.outer from bd.stk]at this;exact this
 have V:X.env.locals∈(X.env::X.outer).filterMap (·.frame):=by rw[A0m,bd.fr];exact C4
 unfold AsSuiteRaised;refine sU J bd.fr U p fun W F1 u1=>?_;obtain⟨I1,r⟩:=I.up S k F1.stays u1;refine nK (I1.ofH ok) nd hi lo fun s2 t L=>?_;obtain⟨nl,oL,d,f⟩:=F1.frames.mem V;obtain⟨M,vs,O,hk,v,hz,T,P,ts,t1,t2,t3,t4,t5,t6⟩:=id F1.tr;have get:∀b o,b≠X.env.locals->W.get? b=Z o->s2.heap.get? b=Z o:=fun b o g q=>(L.2 b g).trans q;have j:=t.stack;rw[bd.stk]at j;have l:=get e M (O1<|iV O v d f) O;have F2:Fly B (X.env::X.outer) e c dx (Z<|rawInt X.env.locals) s2.heap:=⟨fun b o g=>get b o (fun z=>by rw[z,nl]at g;cases g)<|F1.stays b o g,F1.new,UZ j F1.frames,M,vs,l,hk,v,hz,T,P,ts,t1,t2,t3,get T P (O1<|iV t4 t5 d f) t4,t5,t6⟩;have k2:Kp X H B s2.heap:=⟨fun b u o Q p2=>r.trk b u o Q<|(L.2 b<|aO Q t.free).symm.trans p2,r.ent,r.pin⟩;unfold PySem.passOn;refine A0<|L8 l v t1 ?_;rw[B0 (show ¬((Value.ref T==Value.none)=true)from by simp),bd.fr];refine A0 (mB (fo:=Z X.env.locals) F2 fun h3 F3 u3=>?_);obtain⟨I3,k3⟩:=t.up bd k2 F3.stays u3;refine wpAny_throw ?_;unfold notedBy;refine sU J bd.fr F3 (.inr (.inr rfl)) fun h4 y u4=>?_;obtain⟨I4,k4⟩:=I3.up bd k3 y.stays u4;unfold cameBackBy;obtain⟨a0,a1,C,_,D,_,T4,_,_,y1,_⟩:=id y.tr;refine A0<|L8 C D y1 ?_;rw[B0 (show ¬((Value.ref T4==Value.none)=true)from by simp),bd.fr];refine mB (s:={ s2 with heap:=h4 }) (fo:=Z X.env.locals) y fun h5 R u5=>q _ ?_;obtain⟨I5,k5⟩:=I4.up bd k4 R.stays u5;exact⟨e,c,dx,_,_,H,B,rfl,I5,k5,by rw[bd.stk];exact R,.inr (.inr rfl),z⟩
def tHR(K:Fg)(EE:St->XK)(i:Nat)(cv:Tz)(C:Uc)(sp:Sp)(t:TA):St->XK:=fun d c dx H=>W.exmOne K c cv=Z true/\∀e,H e=Y->UH (fun a c' b H'=>EE (a.set i Y) c' b H') C sp t e (d.set i<|Z (.ref e)) (upd H e (.ext (iE e c dx false)))
def aFg{j:Ta}{tb:(St->XK)->TS}{v:Str}{hp rp pos:Pos}{k i:Nat}{e:Ud}{es:T9}{t:TA}(bd:Body X)(ok:XOk X EE)
 (hb:∀pins EE,PSs ((sX X pins).wish (XS (sX X pins) EE)) j<|tb EE) (hc:KQ X x cv) (nd:X.N.Nodup) (hi:X.N[i]?=Z v) (lo:X.env.scope.names.lookup v=Z .local) (hg:Gl X x) (hd:(x==("__debug__":Str))=false)
 (o:mH (.ref C)=false) (M:MkX X.K C f) (be:W.subIn X.K (.ref C) (.type "BaseException")=Z true) (F:iI X.prog X.w X.K X.mg X.base CX0 k f fd ps sp false) (hr:cK (k+1) X.A) (y:Gl X nm) (hm:X.mg nm=Z (.ref C)) (G:Binds X.K fd ps [])
 (ha:∀e0 E,PA ((hCx X e0).wish E) (e::es) t) (J:(nm==("__debug__":Str))=false) (he:starEach (e::es) X.env=(false,eval e X.env)::starEach es X.env) (L:(backTo cp<|starEach es X.env).any (·.1)=false):
 PS X (.Try j [.ExceptHandler (Z (.Name x np)) (Z v) [.Raise (Z (.Call (.Name nm p) (e::es) [] cp)) (Z (.Constant .none kk kp)) rp] hp] [] [] pos) (fun D O H=>tb (tHR X.K EE i cv C sp t) D O H):=by
 intro pins s O H D I h;have d:Body (sX X pins):=⟨bd.stk,bd.fr,bd.ex⟩;refine wpAny_Try_except (F6 (hb pins _ [] s O H D (I.toP.wish _) h) (fun f s1 z=>?_) fun ev s1 z=>?_)
 .cases f with
  |next=>obtain⟨b,H',g,q⟩:=z;exact A0c ⟨b,H',g.unwish.ofP I.ok,q⟩
  |brk=>obtain⟨b,H',g,q⟩:=z;exact⟨b,H',g.unwish.ofP I.ok,q⟩
  |cont=>obtain⟨b,H',g,q⟩:=z;exact⟨b,H',g.unwish.ofP I.ok,q⟩
  |ret u=>obtain⟨v,b,H',g,r,q⟩:=z;exact⟨v,b,H',g.unwish.ofP I.ok,r,q⟩
 .obtain⟨a,c,dx,st,a4,H1,B,rfl,I1,k1,F1,P,hq,q⟩:=z;have hf:=I1.ok.frames;have l:=F1;rw[d.stk]at l hf;refine sU hf d.fr l P fun h2 F2 u2=>mB (s:={ s1 with heap:=h2 }) (fo:=Y) F2 fun R F3 u3=>?_;obtain⟨I2,k2⟩:=I1.up d k1 F2.stays u2;obtain⟨S,k3⟩:=I2.up d k2 F3.stays u3;obtain⟨oe,vs,ho,T,_,hv,_⟩:=F3.obj;have m:Fly B (sX X pins).stack a c dx (Z .none) R:=by rw[d.stk];exact F3
  have LT:W.Looks (model X.prog X.w) R (typeOf (.ref a)) c:=T▸(U9 ho).andThen .now;have IH:=(S.ofP I.ok).toH a;refine wpAny_handleBy_cons (codeAny_handlers_test<|aBe (X:=hCx X a) hc IH hg hd ?_) (by intro z;cases z);refine(W.exm_one IH.kIn LT hq).here ?_;have U:H1 a=Y:=(Fly.fresh (h:=R) d S k3 m).1;refine codeAny_handlers_suite_as (mB (fo:=Y) m fun h4 V u4=>?_);obtain⟨I4,k4⟩:=S.up d k3 V.stays u4;obtain⟨n1,n2,n3⟩:=Fly.fresh (s:={ s1 with heap:=h4 }) (h:=h4) d I4 k4 V;obtain⟨a5,a6,a0,n,a1,a2,a3⟩:=V.obj;have I5:=Inv.track I4 a0 a2 n1 n2 (fun p hp=>n3 p (by rw[J0]at hp;exact hp)) (by rw[n];exact a3);rw[n,a1]at I5;refine nS (X:=X) (I5.ofP I.ok) nd hi (.inl lo) (v:=.ref a) rfl (fun s6 I6=>?_) (.inr lo)
  refine wpAny_execs_cons (F6 (ZX (X:=(hCx X a).wish (AsSuiteRaised (model X.prog X.w) (X.A.mark<|Z (.ref a)) X.env v hp (notedBy (model X.prog X.w) (X.A.mark<|Z (.ref a)) X.env fun x s'=>cameBackBy (model X.prog X.w) X.A X.env X.xe x s')))
   (Q:=fun _ _=>False) ⟨bd.stk,bd.fr,bd.ex⟩ (fun ev s7 z=>ZI I.ok bd nd hi lo z.unwish fun s8 w=>ok.pass _ _ w) rfl o M be F (hr.mark (B3 _)) y hm G (ha a _) J he L ((I6.toH a).wish _) (q a U)) (fun _ _ z=>z.elim) fun _ _ z=>z)
section
variable{ι:Type}{K:Fg}{X:ι->Cx}{EE:ι->St->XK}{e:Ud}{es:T9}{fa:AF}{sts:Ta}{b:SFX}{pos:Pos}
def aCV:∀p∈([]:Tw (Str×Bool)),p.2=true->mH (.ref (aT K p.1))=true:=fun _ h=>absurd h (by simp)
def xB{a:Str}{q:Bool}{l:Tw (Str×Bool)}(x:q=true->mH (.ref (aT K a))=true)(r:∀p∈l,p.2=true->mH (.ref (aT K p.1))=true):∀p∈(a,q)::l,p.2=true->mH (.ref (aT K p.1))=true:=fun p c=>by
 rcases List.mem_cons.mp c with rfl|z
 .exact x
 .exact r p z
def aMC(X:ι->Cx):ι×Uc×(T1)->Cx:=fun j=>(hCx (X j.1) j.2.1).wish j.2.2
def OQ(b:SFX)(tab:Tw (Str×Bool))(n:Nat)(nm:Str)(h:FN)(fa:AF):SFX:=fun f M=>(b f M).bind fun r=>match r.1 with
 |.o o=>Z (.o o,r.2)
 |.xc a ex=>if tab.lookup ex.nm=Z true then(uU nm h fa (setG (Z n) a (.c r.2.length)) (r.2++[.exc false ex.nm ex.fs])).bind fun q=>(excOf q.2 q.1).bind fun p=>(excOf q.2 (.c r.2.length)).bind fun d=>
  if p.2.1=true/\p.2.2.1=nm/\p.1≠r.2.length/\d.2.1=false/\d.2.2.1=ex.nm then Z (.xc (YR (Z n) a) ⟨nm,p.2.2.2⟩,q.2.set p.1 .dead)else Y else Y
def aBX{EE:St->XK}{tb:(St->XK)->TS}{P:TA}{tab:Tw (Str×Bool)}{cv:Tz}(x:∀EE,SSX K EE (tb EE) b)(y:SA K P fa)(ht:∀z q,tab.lookup z=Z q->PySem.W.exmOne K (.ref (aT K z)) cv=Z q)(hx:∀z,tab.lookup z=Z true->mH (.ref (aT K z))=true):
 SSX K EE (fun D s H=>tb (tHR K EE n cv (aT K nm) (spM K h) P) D s H) (OQ b tab n nm h fa):=by
 intro γ M o M' d W H s D G R k;obtain⟨⟨r,M1⟩,h1,d⟩:=aJ d;refine x _ _ _ _ _ h1 W H s D G R fun g Q S m=>?_;cases r with
 |o r=>cases d;exact k g Q S m
 |xc a0 ex=>
  intro a1 c dx T E;obtain⟨rfl,rx⟩:=E;dsimp only at d;by_cases f:tab.lookup ex.nm=Z true
  .rw[A4 f]at d;obtain⟨⟨v,M2⟩,h2,d⟩:=aJ d;obtain⟨⟨i,fr,t,fs⟩,U,d⟩:=aJ d;obtain⟨⟨i0,w,A,a2⟩,h4,d⟩:=aJ d;dsimp only at d U h4;by_cases B:fr=true/\t=nm/\i≠M1.length/\w=false/\A=ex.nm
   .rw[A4 B]at d;cases d;obtain⟨rfl,rfl,ni,rfl,rfl⟩:=B;refine⟨ht _ _ f,fun a ha=>?_⟩;have G':Good K (g.more a) (M1++[.exc false ex.nm ex.fs]) (upd Q a (.ext (iE a (.ref (aT K ex.nm)) dx false))):=m.new ha ⟨dx,rfl,rx⟩;have C:=g.ext_more a;have ra:cM K (g.more a) (.c M1.length) (.ref a):=⟨by show M1.length<g.n+1;rw[m.n];exact S1 _,by show _=V.ref (if M1.length=g.n then a else _);rw[A4 m.n.symm]⟩;refine NB y _ _ _ _ h2 (g.more a) _ _ _ G' ((T.up C).setN (n:=Z n) ra) fun u F H3 I p r3=>?_;obtain⟨rfl,J⟩:=qT U;obtain⟨L,j⟩:=qT h4;cases L;obtain⟨l,hH,N⟩:=p.excAt J;obtain⟨d0,O,_⟩:=p.excAt j;have ea:a=F.α M1.length:=V.ref.inj (cM.up ra I).2;refine⟨F.α i,l,.ref (aT K ex.nm),d0,r3.2,fun z=>ni<|p.inj i M1.length _ _ J j (by intro q;cases q) (by intro q;cases q)<|z.trans ea,hH,by rw[ea];exact O,hx _ f,?_⟩;have R3:=(T.up<|C.trans I).unbN (n:=Z n);refine k F _ (S.trans<|C.trans I) (p.kill J (by intro q;cases q)) _ _ l ?_ ⟨rfl,N⟩;rw[List.set_set];exact R3
   .rw[B0 B]at d;cases d
  .rw[B0 f]at d;cases d
def aCm{v:Str}{hp rp cp p:Pos}{k:Nat}{F:FN}(tab:Tw (Str×Bool))(n:Nat)(cv:Tz)(bd:∀i,Body<|X i)(ok:∀i,XOk (X i)<|EE i)(c:∀i,(X i).K=K)(r:MLX K (aJk X) (aKl (ι:=ι)) sts b)
 (J:∀i,KQ (X i) x cv) (hn:∀i,(X i).N.Nodup/\(X i).N[n]?=Z v/\(X i).env.scope.names.lookup v=Z .local)
 (ht:∀p∈tab,PySem.W.exmOne K (.ref (aT K p.1)) cv=Z p.2) (L:∀p∈tab,p.2=true->mH (.ref (aT K p.1))=true)
 (C:∀i,nL (X i).prog (X i).w (X i).K (X i).mg (X i).base k nm ps (spM K F) false) (hm:∀i,(X i).mg nm=Z (.ref (aT K nm))) (be:PySem.W.subIn K (.ref (aT K nm)) (.type "BaseException")=Z true) (d:mH (.ref (aT K nm))=false)
 (O:∀i,cK (k+1) (X i).A) (y:MA K (aMC X) (e::es) fa) (P:∀i,Gl (X i) x:=by intro _;rfl) (g:∀i,Gl (X i) nm:=by intro _;rfl) (hd:(x==("__debug__":Str))=false:=by decide) (l:(nm==("__debug__":Str))=false:=by decide):
 MSX K X EE (.Try sts [.ExceptHandler (Z (.Name x np)) (Z v) [.Raise (Z (.Call (.Name nm p) (e::es) [] cp)) (Z (.Constant .none kk kp)) rp] hp] [] [] pos) (OQ b tab n nm F fa):=by
 obtain⟨t,x1,Q⟩:=r.ex;obtain⟨u,S,T⟩:=y.ex;refine⟨fun i D a H=>∀j pins,t (j,pins,tHR K (EE i) n cv (aT K nm) (spM K F) u) D a H,fun i=>?_,fun i=>aBX (tb:=fun EE D a H=>∀j pins,t (j,pins,EE) D a H) (fun EE U M o M' V W H a D G R k j pins=>Q (j,pins,EE) U M o M' V W H a D G R k) T (fun z q h=>ht (z,q)<|F0 h) fun z h=>L (z,true) (F0 h) rfl⟩;obtain⟨f,fd,F',M,B⟩:=(C i).ex;have m:(X i).mg nm=Z (.ref (aT (X i).K nm)):=by rw[c i];exact hm i
 have:=aFg (X:=X i) (i:=n) (cv:=cv) (kk:=kk) (kp:=kp) (rp:=rp) (cp:=cp) (p:=p) (hp:=hp) (np:=np) (pos:=pos) (tb:=fun EE D a H=>∀j pins,t (j,pins,EE) D a H) (bd i) (ok i) (fun pins EE ps s a H D I h=>x1 (i,pins,EE) ps s a H D I<|h i pins) (J i) (hn i).1 (hn i).2.1 (hn i).2.2 (P i) hd
  (by rw[c i];exact d) M (by rw[c i];exact be) F' (O i) (g i) m B (fun e0 E=>S (i,e0,E)) l (y.st.1 _) (y.st.2.plain _ _)
 rw[c i]at this;exact this
end
end L2
section
noncomputable section
namespace Q70
open PySem PySem.Spec PyProof.Rows L2
noncomputable def top(i:Nat):Stmt:=PySem.Challenge.pw_cutstree_k70_no_lines.main.body.getD i (.Pass ⟨0,0,0,0⟩)
noncomputable def jD:Tw (Str×Bool):=[("NoTie",true),("NoLine",true),("NoPlace",true)]
noncomputable def sR:Tw (Str×Bool):=[("NoTie",false),("NoLine",true),("NoPlace",false)]
def ar1{a:Type}{P:Tw a->Prop}{us:Tw a}(d:us.length=1)(h:∀b,P [b]):P us:=by
 rcases us with _|⟨b,_|⟨c,r⟩⟩<;>first|exact h _|cases d
def ar2{a:Type}{P:Tw a->Prop}{us:Tw a}(e:us.length=2)(h:∀b d,P [b,d]):P us:=by
 rcases us with _|⟨b,_|⟨d,_|⟨c,r⟩⟩⟩<;>first|exact h _ _|cases e
def ar3{a:Type}{P:Tw a->Prop}{us:Tw a}(f:us.length=3)(h:∀b d e,P [b,d,e]):P us:=by
 rcases us with _|⟨b,_|⟨d,_|⟨e,_|⟨c,r⟩⟩⟩⟩<;>first|exact h _ _ _|cases f
def ar4{a:Type}{P:Tw a->Prop}{us:Tw a}(g:us.length=4)(h:∀b d e f,P [b,d,e,f]):P us:=by
 rcases us with _|⟨b,_|⟨d,_|⟨e,_|⟨f,_|⟨c,r⟩⟩⟩⟩⟩<;>first|exact h _ _ _ _|cases g
set_option hygiene false
local macro_rules | `(tactic| sleep 990) => `(tactic| exact ⟨rfl, rfl, rfl, by decide +kernel, rfl, by decide +kernel, by decide +kernel⟩)
local macro_rules | `(tactic| sleep 988) => `(tactic| (intro _; exact T.hB.of _))
local macro_rules | `(tactic| sleep 989) => `(tactic| (intro _; dsimp only [tT, eF]; decide +kernel))
local macro_rules | `(tactic| sleep 987) => `(tactic| (intro _; exact TV rfl rfl (by kernel_rfl)))
local macro_rules | `(tactic| sleep 991) => `(tactic| (intro _ _ _ _ _ _ _ hl; apply ar1 hl; intros; rfl))
local macro_rules | `(tactic| sleep 992) => `(tactic| (intro _ _ _ _ _ _ _ hl; apply ar2 hl; intros; rfl))
local macro_rules | `(tactic| sleep 993) => `(tactic| (intro _ _ _ _ _ _ _ hl; apply ar3 hl; intros; rfl))
local macro_rules | `(tactic| sleep 994) => `(tactic| (intro _ _ _ _ _ _ _ hl; apply ar4 hl; intros; rfl))
set_option hygiene true
abbrev oV:Stmt:=top 43
noncomputable abbrev yZ:Tc:=["_law_script","_law_many","_law_row","_law_odd","_law_deck_here","_law_k","_law_at","_law_one"]
noncomputable abbrev rQ:Tc:=["_law_script","_law_many"]
def sc__law_deck:aV yZ rQ (aH oV):=by sleep 990
def tI:EF:=(cA<|aB (fC (.int 48271))<|aB (fC (.int 69621))<|aB (fC (.int 39373))<|aB (fC (.int 40692)) aG)
def AB(γ:Ga)(M:Sto):tI γ M=Z (.d (.list [(.int 48271),(.int 69621),(.int 39373),(.int 40692)]),M):=rfl
def eS:SF:=(bC (aY (fOp bO (aD 5)<|aL hV<|aB (aD 2) aG)<|hName 6)
 (bC (aY (fOp bO (fOp ixF (aD 2)<|aD 6)<|fC (.int 1000000))<|hName 7)
 (bC (sIf (gB<|fOp (eqX false) (aD 3)<|fC (.int 0))
  (bC (aY (fOp bO (fOp bV (fOp bV (fOp ixF (aD 2)<|aD 6)<|fOp vC (fOp vC (aD 5)<|aD 5)<|fC (.int 16807))<|fOp vC (fC (.int 3))<|aD 5)<|fC (.int 2147483629))<|hName 7)
 (bC (aY (fOp bO (fOp bV (fOp vC (aD 7)<|fOp ixF tI<|fOp bO (aD 5)<|fC (.int 4))<|fC (.int 7))<|fC (.int 2147483647))<|hName 7)
 (aY (fOp bO (fOp vC (aD 7) (aD 7)) (fC (.int 2147483629))) (hName 7))))
  (aY (fOp cD (fOp ixF (aD 2) (aD 6)) (fC (.int 1000000))) (hSub (aD 2) (aD 6) IL)))
 (lQ (bG "list" eD (aD 4) (aB (aD 7) aG))))))
def lW:SF:=(bC (aY (aL FG<|aB (aD 0) aG)<|hName 2)
 (bC (sIf (gB<|fOp (eqY false) (aD 2)<|cA aG)
  (aY (kR<|aB (fC (.int 4)) aG)<|hName 2)
  cN)
 (bC (aY (fOp bO (fOp ixF (aD 2)<|fC (.int 0))<|fC (.int 2))<|hName 3)
 (bC (aY (fOp cD (fOp ixF (aD 2)<|fC (.int 0))<|fC (.int 2))<|hSub (aD 2) (fC (.int 0)) IL)
 (bC (aY (kR aG)<|hName 4)
 (bC (rS (iU<|aB (aD 1) aG) (hName 5) eS)
 (bC (lQ<|bG "list" kL (aD 4) aG)
 (bT (aD 4)))))))))
def jK:FN:=fnF 2 8 lW
abbrev oE:Stmt:=top 49
noncomputable abbrev yA:Tc:=["_law_deck_here","_law_many","_law_found","_law_turn","_law_draw","_law_i","_law_j","_law_some"]
noncomputable abbrev qH:Tc:=["_law_deck_here","_law_many"]
def sc__law_ties:aV yA qH (aH oE):=by sleep 990
def tS:EF:=(cA<|aB (iC<|aB (fC (.int 1))<|aB (fC (.int 1)) aG)<|aB (iC<|aB (fC (.int 1))<|aB (fC (.int 2)) aG)<|aB (iC<|aB (fC (.int 3))<|aB (fC (.int 4)) aG)<|aB (iC<|aB (fOp wU (fC (.int 10))<|fC (.int 12))<|aB (fC (.int 1)) aG)<|aB (iC<|aB (fC (.int 1))<|aB (fC (.int 55440)) aG)<|aB (iC<|aB (fC (.int 5))<|aB (fC (.int 12)) aG)<|aB (iC<|aB (fOp qZ (fOp wU (fC (.int 10))<|fC (.int 12))<|fC (.int 3))<|aB (fC (.int 7)) aG)<|aB (iC<|aB (fC (.int 0))<|aB (fC (.int 1)) aG) aG)
def BL(γ:Ga)(M:Sto):tS γ M=Z (.d (.list [(.tuple [(.int 1),(.int 1)]),(.tuple [(.int 1),(.int 2)]),(.tuple [(.int 3),(.int 4)]),(.tuple [(.int 1000000000000),(.int 1)]),(.tuple [(.int 1),(.int 55440)]),(.tuple [(.int 5),(.int 12)]),(.tuple [(.int 999999999997),(.int 7)]),(.tuple [(.int 0),(.int 1)])]),M):=rfl
def jH:SF:=(bC (aY (bG "list" fE (aD 0) aG)<|hName 4)
 (bC (aY (fOp bO (aD 4)<|aD 1)<|hName 5)
 (bC (aY (fOp bO (fOp cD (aD 4)<|fC (.int 41))<|aD 1)<|hName 6)
 (bC (aY tS<|hName 7)
 (sIf (gB<|fOp (eqX true) (aD 5)<|aD 6)
  (uN (aD 2) (IY<|aB (aL GX<|aB (aD 5)<|aB (aD 6) aG)<|aB (aL FK<|aB (aD 5)<|aB (aD 6) aG) aG)<|fOp ixF (fOp bV (aD 7)<|cA<|aB (iC<|aB (fOp bO (fOp cD (aD 4)<|fC (.int 9))<|fC (.int 99))<|aB (fC (.int 1)) aG) aG)<|fOp bO (fOp cD (aD 4)<|fC (.int 1700))<|fC (.int 9))
  cN)))))
def mS:EF:=(fLc [Z 2,Y] (bD<|aL qN<|aB (aD 2) aG) (hName 1) eU<|fOp bV (aD 1)<|iC<|aB (HS (aD 0)<|aD 1) aG)
def qR:SF:=(bC (aY uK<|hName 2)
 (bC (rS (iU<|aB (fOp bO (bG "list" fE (aD 0) aG)<|fC (.int 9)) aG) (hName 3) jH)
 (bT mS)))
def jP:FN:=fnF 2 8 qR
abbrev kU:Stmt:=top 45
noncomputable abbrev tQ:Tc:=["_law_amount"]
noncomputable abbrev mI:Tc:=["_law_amount"]
def BZ:aV tQ mI (aH kU):=by sleep 990
def jI:SF:=(bC (sIf (gB<|fOp (eqX false) (fOp ixF (aD 0)<|fC (.int 1))<|fC (.int 1))
 (bT<|aL iA<|aB (fOp ixF (aD 0)<|fC (.int 0)) aG)
 cN)
 (bT (fOp gL (fOp gL (aL iA (aB (fOp ixF (aD 0) (fC (.int 0))) aG)) (fC (.str "/"))) (aL iA (aB (fOp ixF (aD 0) (fC (.int 1))) aG)))))
def gI:FN:=fnF 1 1 jI
abbrev nW:Stmt:=top 50
noncomputable abbrev xZ:Tc:=["_law_word","_law_row"]
noncomputable abbrev qV:Tc:=["_law_word","_law_row"]
def HI:aV xZ qV (aH nW):=by sleep 990
def rF:SF:=(bT<|bG "str" nO (fC (.str " "))<|aB (cA<|aB (aD 0)<|aB (aL iA<|aB (fOp ixF (aD 1)<|fC (.int 0)) aG)<|aB (aL iA<|aB (fOp ixF (aD 1)<|fC (.int 1)) aG)<|aB (aL gI<|aB (fOp ixF (aD 1)<|fC (.int 2)) aG) aG) aG)
def eC:FN:=fnF 2 2 rF
abbrev mX:Stmt:=top 52
noncomputable abbrev wI:Tc:=["_law_word","_law_great","_law_rest"]
noncomputable abbrev oA:Tc:=["_law_word"]
def sc__law_wrong:aV wI oA (aH mX):=by sleep 990
def DC:EF:=(cA<|aB (fC (.str ""))<|aB (fC (.str " 0"))<|aB (fC (.str " 0 1"))<|aB (fC (.str " 0 1 1 1"))<|aB (fC (.str " a 1 1"))<|aB (fC (.str " 0 1 b"))<|aB (fC (.str " 00 1 1"))<|aB (fC (.str " 0 01 1"))<|aB (fC (.str " 0 1 01"))<|aB (fC (.str " 0 1 2/2"))<|aB (fC (.str " 0 1 4/6")) aG)
def DO:EF:=(cA<|aB (fC (.str " 0 1 1/1"))<|aB (fC (.str " 0 1 1/0"))<|aB (fC (.str " 0 1 0/1"))<|aB (fC (.str " 0 1 0/2"))<|aB (fC (.str " 0 1 /2"))<|aB (fC (.str " 0 1 1/"))<|aB (fC (.str " 0 1 /"))<|aB (fC (.str " 0 1 1/2/3")) aG)
def CM:EF:=(fLc [Z 0,Y] (bD<|aD 2) (hName 1) eU<|fOp gL (aD 0)<|aD 1)
def vN:SF:=(bC (aY (fOp gL (fC (.str "1"))<|fOp aCA (fC (.str "0"))<|fC (.int 30))<|hName 1)
 (bC (aY DC<|hName 2)
 (bC (aY (fOp bV (aD 2) DO)<|hName 2)
 (bC (aY (fOp bV (aD 2)<|cA<|aB (fC (.str " 100 1 1"))<|aB (fC (.str " 0 100 1"))<|aB (fOp gL (fC (.str " 0 1 "))<|aD 1)<|aB (fOp gL (fC (.str " 0 1 1/"))<|aD 1)<|aB (fC (.str " 0 1/1 1"))<|aB (fC (.str " 0 1 1/02"))<|aB (fC (.str " 0 1 01/2")) aG)<|hName 2)
 (bC (aY CM<|hName 2)
 (bT (fOp bV (aD 2) (cA (aB (fOp gL (aD 0) (fC (.str "0 1 1"))) (aB (fC (.str "x 0 1 1")) (aB (fC (.str "0 1 1")) (aB (fOp gL (aBK (aD 0) bF (bW (fUn aGg (fC (.int 1))))) (fC (.str " 0 1 1"))) (aB (fOp gL (fOp aCA (aD 0) (fC (.int 2))) (fC (.str " 0 1 1"))) aG)))))))))))))
def dR:FN:=fnF 1 3 vN
abbrev qD:Stmt:=top 53
noncomputable abbrev AS:Tc:=["_law_deck_here","_law_lines","_law_wrong_here","_law_first","_law_at","_law_draw","_law_head","_law_more"]
noncomputable abbrev uB:Tc:=["_law_deck_here","_law_lines","_law_wrong_here","_law_first"]
def sc__law_put:aV AS uB (aH qD):=by sleep 990
def nY:SF:=(bC (aY (fOp bV (aD 3)<|fOp bO (bG "list" fE (aD 0) aG)<|fOp qZ (fOp bV (aL hV<|aB (aD 1) aG)<|fC (.int 1))<|aD 3)<|hName 4)
 (bC (aY (bG "list" fE (aD 0) aG)<|hName 5)
 (bC (aY (fOp bV (fOp bV (fOp YG (kR<|aB (fC (.str "")) aG)<|fOp bO (aD 5)<|fC (.int 3))<|fSl (aD 1) bF<|bW<|aD 4)<|fOp YG (kR<|aB (fC (.str "  ")) aG)<|fOp bO (fOp cD (aD 5)<|fC (.int 3))<|fC (.int 2))<|hName 6)
 (bC (aY (fOp ixF (cA<|aB (aD 2)<|aB (fC (.str ""))<|aB (fC (.str "nothing 1")) aG)<|fOp bO (fOp cD (aD 5)<|fC (.int 6))<|fC (.int 3))<|hName 7)
 (bT (iC (aB (bG "str" nO (fC (.str "\n")) (aB (fOp bV (fOp bV (fOp bV (aD 6) (cA (aB (aD 2) aG))) (fSl (aD 1) (bW (aD 4)) bF)) (cA (aB (aD 7) aG))) aG)) (aB (aL hV (aB (aD 6) aG)) aG))))))))
def cU:FN:=fnF 4 8 nY
abbrev eM:Stmt:=inClass (top 4) 0
noncomputable abbrev lA:Tc:=["self","at"]
noncomputable abbrev fO:Tc:=["self","at"]
def pR:aV lA fO (aH eM):=by sleep 990
def iB:SF:=(xH "NoLine" "at" (aD 0)<|aD 1)
def bY:FN:=fnF 2 2 iB
abbrev oW:Stmt:=top 38
noncomputable abbrev zB:Tc:=["lines","at","row"]
noncomputable abbrev rL:Tc:=["lines"]
def sc_read_rows:aV zB rL (aH oW):=by sleep 990
def gK:SFX:=(vM (gB<|fOp (AL false) (aD 2)<|fC .none)
 (gP "NoLine" bY<|aB (aD 1) aG)
 (liS cN))
def lT:SFX:=(iG (FT (bD<|aD 0) (gS 2<|bK (hName 1)<|bK (hName 2) gU) gK)
 (liS JG))
def eZ:FX:=fnX 1 3 lT
abbrev oS:Stmt:=top 31
noncomputable abbrev yE:Tc:=["word","most_digits"]
noncomputable abbrev qM:Tc:=["word","most_digits"]
def KI:aV yE qM (aH oS):=by sleep 990
def gH:EF:=(fLc [Y] (CG<|aD 0) (hName 0) eU<|fOp (inS false) (aD 0)<|fC (.str "0123456789"))
def lN:SF:=(bC (sIf (gOr (kX<|gB<|pC ltI leI (fC (.int 0)) (aL PF<|aB (aD 0) aG)<|aD 1)<|kX<|gB<|aL EM<|aB gH aG)
 (bT<|fC .none)
 cN)
 (bT (fIf (gOr (gB (fOp (eqX false) (aD 0) (fC (.str "0")))) (gB (fOp (eqX true) (fOp ixS (aD 0) (fC (.int 0))) (fC (.str "0"))))) (aL SM (aB (aD 0) aG)) (fC .none))))
def cQ:FN:=fnF 2 2 lN
abbrev qJ:Stmt:=top 30
noncomputable abbrev EA:Tc:=["word"]
noncomputable abbrev uQ:Tc:=["word"]
def OA:aV EA uQ (aH qJ):=by sleep 990
def nU:SF:=(bT<|aL cQ<|aB (aD 0)<|aB (fC (.int 2)) aG)
def bX:FN:=fnF 1 1 nU
abbrev uC:Stmt:=top 41
noncomputable abbrev FP:Tc:=["words","side"]
noncomputable abbrev xD:Tc:=["words"]
def sc_side_in:aV FP xD (aH uC):=by sleep 990
def lR:EF:=(fLc [Y] (bD<|fSl (aD 0) (bW<|fC (.int 1)) bF) (hName 0) eU<|aL bX<|aB (aD 0) aG)
def sT:SF:=(bC (sIf (gOr (gB<|fOp ltI (aL hV<|aB (aD 0) aG)<|fC (.int 2))<|gB<|fOp (eqX true) (fOp ixF (aD 0)<|fC (.int 0))<|fC (.str "side"))
 (bT<|fC .none)
 cN)
 (bC (aY (aL jA<|aB lR aG)<|hName 1)
 (bT (fIf (gB (fOp (inD false) (fC .none) (aD 1))) (fC .none) (aD 1)))))
def cZ:FN:=fnF 1 2 sT
abbrev mU:Stmt:=top 29
noncomputable abbrev vA:Tc:=["text","lines"]
noncomputable abbrev oO:Tc:=["text"]
def sc_said_lines:aV vA oO (aH mU):=by sleep 990
def kN:EF:=(fLc [Y] (bD<|bG "str" nZ (aD 0)<|aB (fC (.str " ")) aG) (hName 0) (lO<|aD 0)<|aD 0)
def iD:EF:=(fLc [Y] (bD<|bG "str" nZ (aD 0)<|aB (fC (.str "\n")) aG) (hName 0) eU kN)
def kT:EF:=(fLc [Y,Y] (xV<|aB (aD 1) aG) (gS 2<|bK (hName 0)<|bK (hName 1) gU) (HL<|aD 1)<|iC<|aB (aD 0)<|aB (aD 1) aG)
def kF:SF:=(bC (aY iD<|hName 1)
 (bT kT))
def cF:FN:=fnF 1 2 kF
abbrev nF:Stmt:=top 37
noncomputable abbrev wK:Tc:=["text"]
noncomputable abbrev oY:Tc:=["text"]
def ET:aV wK oY (aH nF):=by sleep 990
def DY:EF:=(fLc [Y,Y] (bD<|aL cF<|aB (aD 0) aG) (gS 2<|bK (hName 0)<|bK (hName 1) gU) eU<|iC<|aB (aD 0)<|aB (aL cZ<|aB (aD 1) aG) aG)
def wC:SFX:=(tK<|sC eZ<|liA<|aB DY aG)
def eI:FX:=fnX 1 1 wC
abbrev wQ:Stmt:=top 19
noncomputable abbrev PD:Tc:=["one","other"]
noncomputable abbrev AU:Tc:=["one","other"]
def sc_common:aV PD AU (aH wQ):=by sleep 990
def uF:SF:=(uS (HL<|aD 1)<|EZ 0 1<|aB (aD 1)<|aB (fOp bO (aD 0)<|aD 1) aG)
def NS:SF:=(bC uF
 (bT (aD 0)))
def qX:FN:=fnF 2 2 NS
abbrev rM:Stmt:=top 6
noncomputable abbrev AD:Tc:=["thing"]
noncomputable abbrev uG:Tc:=["thing"]
def OE:aV AD uG (aH rM):=by sleep 990
def DG:SF:=(bT<|pT (OT "int"<|aD 0)<|aFz<|OT "bool"<|aD 0)
def gR:FN:=fnF 1 1 DG
abbrev xN:Stmt:=top 7
noncomputable abbrev LL:Tc:=["thing"]
noncomputable abbrev AI:Tc:=["thing"]
def ZP:aV LL AI (aH xN):=by sleep 990
def MY:SF:=(bT<|SX "list" "tuple"<|aD 0)
def rC:FN:=fnF 1 1 MY
abbrev pB:Stmt:=top 8
noncomputable abbrev yN:Tc:=["thing","length"]
noncomputable abbrev rK:Tc:=["thing","length"]
def HH:aV yN rK (aH pB):=by sleep 990
def yK:SF:=(bT<|pT (aL rC<|aB (aD 0) aG)<|fOp (eqX false) (aL hV<|aB (aD 0) aG)<|aD 1)
def lI:FN:=fnF 2 2 yK
abbrev eV:Stmt:=top 18
noncomputable abbrev jJ:Tc:=["thing"]
noncomputable abbrev fJ:Tc:=["thing"]
def pU:aV jJ fJ (aH eV):=by sleep 990
def cW:SF:=(bC (sIf (gOr (kX<|gB<|aL lI<|aB (aD 0)<|aB (fC (.int 2)) aG)<|gOr (kX<|gB<|aL gR<|aB (fOp ixF (aD 0)<|fC (.int 0)) aG)<|kX<|gB<|aL gR<|aB (fOp ixF (aD 0)<|fC (.int 1)) aG)
 (bT<|fC (.bool false))
 cN)
 (bT (pT (fOp geI (fOp ixF (aD 0) (fC (.int 0))) (fC (.int 0))) (fOp geI (fOp ixF (aD 0) (fC (.int 1))) (fC (.int 1))))))
def bQ:FN:=fnF 1 1 cW
abbrev pF:Stmt:=top 15
noncomputable abbrev yR:Tc:=["thing"]
noncomputable abbrev qA:Tc:=["thing"]
def JA:aV yR qA (aH pF):=by sleep 990
def lJ:SF:=(bT<|pT (aL bQ<|aB (aD 0) aG)<|fOp (eqX false) (aL qX<|aB (fOp ixF (aD 0)<|fC (.int 0))<|aB (fOp ixF (aD 0)<|fC (.int 1)) aG)<|fC (.int 1))
def gZ:FN:=fnF 1 1 lJ
abbrev nX:Stmt:=top 32
noncomputable abbrev yV:Tc:=["word","above","slash","below","amount"]
noncomputable abbrev rX:Tc:=["word"]
def sc_amount_of:aV yV rX (aH nX):=by sleep 990
def lL:SF:=(bC (aY (bG "str" AA (aD 0)<|aB (fC (.str "/")) aG)<|gS 3<|bK (hName 1)<|bK (hName 2)<|bK (hName 3) gU)
 (bC (sIf (sV (lO<|aD 2)<|gB<|fOp (eqX false) (aD 3)<|fC (.str "1"))
  (bT<|fC .none)
  cN)
 (bC (aY (iC<|aB (aL cQ<|aB (aD 1)<|aB (fC (.int 30)) aG)<|aB (fIf (lO<|aD 2) (aL cQ<|aB (aD 3)<|aB (fC (.int 30)) aG)<|fC (.int 1)) aG)<|hName 4)
 (bT (fIf (gB (aL gZ (aB (aD 4) aG))) (aD 4) (fC .none))))))
def cP:FN:=fnF 1 5 lL
abbrev xF:Stmt:=top 40
noncomputable abbrev NK:Tc:=["words","name","row"]
noncomputable abbrev CF:Tc:=["words","name"]
def sc_row_in:aV NK CF (aH xF):=by sleep 990
def vK:SF:=(bC (sIf (gOr (gB<|fOp (eqX true) (aL hV<|aB (aD 0) aG)<|fC (.int 4))<|gB<|fOp (eqX true) (fOp ixF (aD 0)<|fC (.int 0))<|aD 1)
 (bT<|fC .none)
 cN)
 (bC (aY (iC<|aB (aL bX<|aB (fOp ixF (aD 0)<|fC (.int 1)) aG)<|aB (aL bX<|aB (fOp ixF (aD 0)<|fC (.int 2)) aG)<|aB (aL cP<|aB (fOp ixF (aD 0)<|fC (.int 3)) aG) aG)<|hName 2)
 (bT (fIf (gB (fOp (inD false) (fC .none) (aD 2))) (fC .none) (aD 2)))))
def bI:FN:=fnF 2 3 vK
abbrev oM:Stmt:=top 36
noncomputable abbrev yS:Tc:=["text"]
noncomputable abbrev qY:Tc:=["text"]
def IR:aV yS qY (aH oM):=by sleep 990
def EJ:EF:=(fLc [Y,Y] (bD<|aL cF<|aB (aD 0) aG) (gS 2<|bK (hName 0)<|bK (hName 1) gU) eU<|iC<|aB (aD 0)<|aB (aL bI<|aB (aD 1)<|aB (fC (.str "flow")) aG) aG)
def yX:SFX:=(tK<|sC eZ<|liA<|aB EJ aG)
def fB:FX:=fnX 1 1 yX
abbrev oK:Stmt:=top 35
noncomputable abbrev yC:Tc:=["text"]
noncomputable abbrev pY:Tc:=["text"]
def IZ:aV yC pY (aH oK):=by sleep 990
def ES:EF:=(fLc [Y,Y] (bD<|aL cF<|aB (aD 0) aG) (gS 2<|bK (hName 0)<|bK (hName 1) gU) eU<|iC<|aB (aD 0)<|aB (aL bI<|aB (aD 1)<|aB (fC (.str "branch")) aG) aG)
def yH:SFX:=(tK<|sC eZ<|liA<|aB ES aG)
def fR:FX:=fnX 1 1 yH
abbrev uH:Stmt:=top 39
noncomputable abbrev HB:Tc:=["words","many"]
noncomputable abbrev xG:Tc:=["words"]
def sc_many_in:aV HB xG (aH uH):=by sleep 990
def sP:SF:=(bC (aY (fIf (sV (gB<|fOp (eqX false) (aL hV<|aB (aD 0) aG)<|fC (.int 2))<|gB<|fOp (eqX false) (fOp ixF (aD 0)<|fC (.int 0))<|fC (.str "places")) (aL bX<|aB (fOp ixF (aD 0)<|fC (.int 1)) aG)<|fC .none)<|hName 1)
 (bT (fIf (sV (gB (fOp (AL true) (aD 1) (fC .none))) (gB (pC leI leI (fC (.int 1)) (aD 1) (fC (.int 40))))) (aD 1) (fC .none))))
def dB:FN:=fnF 1 2 sP
abbrev fL:Stmt:=inClass (top 3) 0
noncomputable abbrev tH:Tc:=["self","at"]
noncomputable abbrev mW:Tc:=["self","at"]
def DM:aV tH mW (aH fL):=by sleep 990
def mZ:SF:=(xH "NoTie" "at" (aD 0)<|aD 1)
def eR:FN:=fnF 2 2 mZ
abbrev lG:Stmt:=top 17
noncomputable abbrev tR:Tc:=["thing"]
noncomputable abbrev mL:Tc:=["thing"]
def BK:aV tR mL (aH lG):=by sleep 990
def eQ:SF:=(bT<|pT (aL bQ<|aB (aD 0) aG)<|pT (fOp (eqX false) (fOp bO (fC (.int 55440))<|fOp ixF (aD 0)<|fC (.int 1))<|fC (.int 0))<|fOp (eqX false) (aL qX<|aB (fOp ixF (aD 0)<|fC (.int 0))<|aB (fOp ixF (aD 0)<|fC (.int 1)) aG)<|fC (.int 1))
def dG:FN:=fnF 1 1 eQ
abbrev pL:Stmt:=top 16
noncomputable abbrev yD:Tc:=["thing"]
noncomputable abbrev qQ:Tc:=["thing"]
def IJ:aV yD qQ (aH pL):=by sleep 990
def jM:SF:=(bT<|pT (aL dG<|aB (aD 0) aG)<|fOp leI (fOp ixF (aD 0)<|fC (.int 0))<|fC (.int 1000000000000))
def fI:FN:=fnF 1 1 jM
abbrev qU:Stmt:=top 9
noncomputable abbrev CO:Tc:=["many","thing"]
noncomputable abbrev uR:Tc:=["many","thing"]
def LP:aV CO uR (aH qU):=by sleep 990
def oG:SF:=(bT<|pT (aL gR<|aB (aD 1) aG)<|pC leI ltI (fC (.int 0)) (aD 1)<|aD 0)
def jB:FN:=fnF 2 2 oG
abbrev fP:Stmt:=top 10
noncomputable abbrev kB:Tc:=["many","i","j"]
noncomputable abbrev fX:Tc:=["many","i","j"]
def rJ:aV kB fX (aH fP):=by sleep 990
def dE:SF:=(bT<|pT (aL jB<|aB (aD 0)<|aB (aD 1) aG)<|pT (aL jB<|aB (aD 0)<|aB (aD 2) aG)<|fOp (eqX true) (aD 1)<|aD 2)
def cO:FN:=fnF 3 3 dE
abbrev fQ:Stmt:=top 11
noncomputable abbrev kC:Tc:=["many","thing"]
noncomputable abbrev fV:Tc:=["many","thing"]
def qI:aV kC fV (aH fQ):=by sleep 990
def dD:SF:=(bT<|pT (aL lI<|aB (aD 1)<|aB (fC (.int 3)) aG)<|pT (aL cO<|aB (aD 0)<|aB (fOp ixF (aD 1)<|fC (.int 0))<|aB (fOp ixF (aD 1)<|fC (.int 1)) aG)<|fOp ltI (fOp ixF (aD 1)<|fC (.int 0))<|fOp ixF (aD 1)<|fC (.int 1))
def bS:FN:=fnF 2 2 dD
abbrev wW:Stmt:=top 24
noncomputable abbrev LF:Tc:=["many","thing"]
noncomputable abbrev DJ:Tc:=["many","thing"]
def WU:aV LF DJ (aH wW):=by sleep 990
def nM:SF:=(bT<|pT (aL bS<|aB (aD 0)<|aB (aD 1) aG)<|aL fI<|aB (fOp ixF (aD 1)<|fC (.int 2)) aG)
def kS:FN:=fnF 2 2 nM
abbrev pJ:Stmt:=top 23
noncomputable abbrev yL:Tc:=["many","ties","weights","at","row"]
noncomputable abbrev sE:Tc:=["many","ties"]
def sc_kept_ties:aV yL sE (aH pJ):=by sleep 990
def dU:SFX:=(iG (vM (gOr (kX<|gB<|aL kS<|aB (aD 0)<|aB (aD 4) aG)<|gB<|aBt false (IY<|aB (fOp ixF (aD 4)<|fC (.int 0))<|aB (fOp ixF (aD 4)<|fC (.int 1)) aG)<|aD 2)
 (gP "NoTie" eR<|aB (aD 3) aG)
 (liS cN))
 (liS (uN (aD 2) (IY (aB (fOp ixF (aD 4) (fC (.int 0))) (aB (fOp ixF (aD 4) (fC (.int 1))) aG))) (aL jA (aB (fOp ixF (aD 4) (fC (.int 2))) aG)))))
def lK:SFX:=(iG (vM (kX<|gB<|aL rC<|aB (aD 1) aG)
 (gP "NoTie" eR<|aB (fC (.int 0)) aG)
 (liS cN))
 (iG (liS<|aY uK<|hName 2)
 (iG (FT (xV<|aB (aD 1) aG) (gS 2<|bK (hName 3)<|bK (hName 4) gU) dU)
 (liS JG))))
def lM:FX:=fnX 2 5 lK
abbrev iL:Stmt:=inClass (top 22) 0
noncomputable abbrev zA:Tc:=["self","many","ties"]
noncomputable abbrev qP:Tc:=["self","many","ties"]
def IU:aV zA qP (aH iL):=by sleep 990
def sD:SFX:=(iG (vM (gOr (kX<|gB<|aL gR<|aB (aD 1) aG)<|gOr (gB<|fOp ltI (aD 1)<|fC (.int 1))<|gB<|fOp gtI (aD 1)<|fC (.int 40))
 (HQ "NoPlace")
 (liS cN))
 (iG (liS<|UE "Web" "many" (aD 0)<|aD 1)
 (iG (VL "Web" "ties" (aD 0)<|sC lM<|liA<|aB (aD 1)<|aB (aD 2) aG)
 (liS JG))))
def jQ:FX:=fnX 3 3 sD
abbrev rE:Stmt:=top 34
noncomputable abbrev CZ:Tc:=["text","lines","many","wrong"]
noncomputable abbrev oF:Tc:=["text"]
def sc_read_web:aV CZ oF (aH rE):=by sleep 990
def kD:EF:=(fLc [Y,Y] (bD<|fSl (aD 1) (bW<|fC (.int 1)) bF) (gS 2<|bK (hName 0)<|bK (hName 1) gU) eU<|aL bI<|aB (aD 1)<|aB (fC (.str "tie")) aG)
def oQ:SFX:=(tK<|OX "Web" jQ<|aB (aD 2)<|aB kD aG)
def fA:SFX:=(iG (liS<|aY (aL cF<|aB (aD 0) aG)<|hName 1)
 (iG (vM (kX<|HL<|aD 1)
  (gP "NoLine" bY<|aB (bG "str" JE (aD 0)<|aB (fC (.str "\n")) aG) aG)
  (liS cN))
 (iG (liS<|aY (aL dB<|aB (fOp ixF (fOp ixF (aD 1)<|fC (.int 0))<|fC (.int 1)) aG)<|hName 2)
 (iG (vM (gB<|fOp (AL false) (aD 2)<|fC .none)
  (gP "NoLine" bY<|aB (fOp ixF (fOp ixF (aD 1)<|fC (.int 0))<|fC (.int 0)) aG)
  (liS cN))
 (OQ oQ [("NoTie",true),("NoLine",false),("NoPlace",false)] 3 "NoLine" bY (aB (fOp ixF (fOp ixF (aD 1) (fOp bV (fC (.int 1)) (pO ["NoTie","NoLine"] "at" (aD 3)))) (fC (.int 0))) aG))))))
def cH:FX:=fnX 1 4 fA
abbrev lC:Stmt:=top 51
noncomputable abbrev tE:Tc:=["_law_which","_law_text","_law_deeds","_law_caught_here","error"]
noncomputable abbrev mF:Tc:=["_law_which","_law_text"]
def sc__law_caught:aV tE mF (aH lC):=by sleep 990
def pN:SF:=(aY (aD 4)<|hName 3)
def gQ:SFX:=(DK<|HJ (fOp ixF (aD 2)<|aD 0) [("read_web",cH),("read_tree",fR),("read_flow",fB),("read_sides",eI)]<|liA<|aB (aD 1) aG)
def jE:SF:=(bC (aY (kR<|aB (fG "read_web")<|aB (fG "read_tree")<|aB (fG "read_flow")<|aB (fG "read_sides") aG)<|hName 2)
 (bC (aY (fC .none)<|hName 3)
 (bC (XJ gQ [⟨[("NoTie",true),("NoLine",true),("NoPlace",true)],(Z 4),pN⟩])
 (bC (sIf (sV (gB<|DP sR (Z false)<|aD 3)<|sV (gB<|DP jD (Z false)<|aD 3)<|kX<|gB<|OT "bool"<|pO ["NoTie","NoLine"] "at"<|aD 3)
  (bT<|pO ["NoTie","NoLine"] "at"<|aD 3)
  cN)
 (bT (fC .none))))))
def bE:FN:=fnF 2 5 jE
abbrev oH:Stmt:=top 54
noncomputable abbrev yP:Tc:=["_law_deck_here","_law_many","_law_ties_here","_law_lines","_law_over","_law_wrong_here","_law_one","_law_text","_law_at","_law_twice","_law_firsts"]
noncomputable abbrev rN:Tc:=["_law_deck_here"]
def sc__law_webs:aV yP rN (aH oH):=by sleep 990
def sZ:EF:=(fLc [Y] (bD<|aD 2) (hName 0) eU<|aL eC<|aB (fC (.str "tie"))<|aB (aD 0) aG)
def eT:SF:=(bC (aY (aL cU<|aB (qO (aD 0) bF<|bW<|fC (.int 2))<|aB (aD 3)<|aB (aD 6)<|aB (fC (.int 1)) aG)<|gS 2<|bK (hName 7)<|bK (hName 8) gU)
 (sIf (gB<|fOp (eqX true) (aL bE<|aB (fC (.int 0))<|aB (aD 7) aG)<|aD 8)
  (bT<|fC (.bool false))
  cN))
def mQ:EF:=(cA<|aB (fC (.str "tie 0 1 1")) aG)
def CT(γ:Ga)(M:Sto):mQ γ M=Z (.d (.list [(.str "tie 0 1 1")]),M):=rfl
def mR:EF:=(fLc [Y] (bD<|fSl (aD 3) (bW<|fC (.int 1)) bF) (hName 0) (gB<|fOp (eqX true) (aBK (aD 0) bF<|bW<|fC (.int 8))<|fC (.str "tie 0 1 "))<|aD 0)
def mM:EF:=(cA<|aB (fC (.str "tie 0 1 0")) aG)
def CS(γ:Ga)(M:Sto):mM γ M=Z (.d (.list [(.str "tie 0 1 0")]),M):=rfl
def mY:EF:=(cA<|aB (fC (.str "places"))<|aB (fC (.str "places 0"))<|aB (fC (.str "places 41"))<|aB (fC (.str "places 100"))<|aB (fC (.str "places 03"))<|aB (fC (.str "places 3 3"))<|aB (fC (.str "place 3"))<|aB (fC (.str "tie 0 1 1"))<|aB (fC (.str "3")) aG)
def BI(γ:Ga)(M:Sto):mY γ M=Z (.d (.list [(.str "places"),(.str "places 0"),(.str "places 41"),(.str "places 100"),(.str "places 03"),(.str "places 3 3"),(.str "place 3"),(.str "tie 0 1 1"),(.str "3")]),M):=rfl
def nA:EF:=(cA<|aB (fC (.str "places a")) aG)
def AJ(γ:Ga)(M:Sto):nA γ M=Z (.d (.list [(.str "places a")]),M):=rfl
def gE:SF:=(sIf (gB<|fOp (eqX true) (aL bE<|aB (fC (.int 0))<|aB (fOp gL (fC (.str "\n \n"))<|bG "str" nO (fC (.str "\n"))<|aB (fOp bV (cA<|aB (aD 6) aG)<|aD 3) aG) aG)<|fC (.int 2))
 (bT<|fC (.bool false))
 cN)
def tL:EF:=(cA<|aB (fC (.str ""))<|aB (fC (.str " "))<|aB (fC (.str "\n"))<|aB (fC (.str "  \n \n\n")) aG)
def CN(γ:Ga)(M:Sto):tL γ M=Z (.d (.list [(.str ""),(.str " "),(.str "\n"),(.str "  \n \n\n")]),M):=rfl
def nE:EF:=(fLc [Y] (bD tL) (hName 0) eU<|aL bE<|aB (fC (.int 0))<|aB (aD 0) aG)
def tM:EF:=(cA<|aB (fC (.int 0))<|aB (fC (.int 0))<|aB (fC (.int 1))<|aB (fC (.int 3)) aG)
def DX(γ:Ga)(M:Sto):tM γ M=Z (.d (.list [(.int 0),(.int 0),(.int 1),(.int 3)]),M):=rfl
def lU:SF:=(bC (aY (fOp bV (fC (.int 2))<|fOp bO (bG "list" fE (aD 0) aG)<|fC (.int 30))<|hName 1)
 (bC (aY (aL jP<|aB (aD 0)<|aB (aD 1) aG)<|hName 2)
 (bC (aY (fOp bV (cA<|aB (fOp gL (fC (.str "places "))<|aL iA<|aB (aD 1) aG) aG) sZ)<|hName 3)
 (bC (aY (aL iA<|aB (aD 1) aG)<|hName 4)
 (bC (aY (fOp bV (aL dR<|aB (fC (.str "tie")) aG)<|cA<|aB (fC (.str "tie 1 0 1"))<|aB (fC (.str "tie 1 1 1"))<|aB (fOp gL (fOp gL (fC (.str "tie 0 "))<|aD 4)<|fC (.str " 1"))<|aB (fC (.str "tie 0 1 1/13")) aG)<|hName 5)
 (bC (aY (fOp ZG (aD 5)<|cA<|aB (fC (.str "tie 0 1 1000000000001"))<|aB (fOp gL (fC (.str "places "))<|aD 4)<|aB (fC (.str "branch 0 1 1"))<|aB (fC (.str "flow 0 1 1"))<|aB (fC (.str "side 1")) aG)<|hName 5)
 (bC (YZ 5<|lQ<|bG "list" eD (aD 5)<|aB (fC (.str "tie 0 1 1/110880")) aG)
 (bC (rS (bD<|aD 5) (hName 6) eT)
 (bC (aY (fOp bV mQ mR)<|hName 9)
 (bC (aY (aL cU<|aB (qO (aD 0) (bW<|fC (.int 2))<|bW<|fC (.int 4))<|aB (fOp bV (fSl (aD 3) bF<|bW<|fC (.int 1))<|aD 9)<|aB (fC (.str "tie  0 1 0"))<|aB (fC (.int 2)) aG)<|gS 2<|bK (hName 7)<|bK (hName 8) gU)
 (bC (sIf (gB<|fOp (eqX true) (aL bE<|aB (fC (.int 0))<|aB (aD 7) aG)<|aD 8)
  (bT<|fC (.bool false))
  cN)
 (bC (aY (aL cU<|aB (qO (aD 0) (bW<|fC (.int 2))<|bW<|fC (.int 4))<|aB (fOp bV (fOp bV (fSl (aD 3) bF<|bW<|fC (.int 1)) mM)<|fSl (aD 9) (bW<|fC (.int 1)) bF)<|aB (fC (.str "tie 0 1 1"))<|aB (fC (.int 2)) aG)<|gS 2<|bK (hName 7)<|bK (hName 8) gU)
 (bC (sIf (gB<|fOp (eqX true) (aL bE<|aB (fC (.int 0))<|aB (aD 7) aG)<|aD 8)
  (bT<|fC (.bool false))
  cN)
 (bC (aY mY<|hName 10)
 (bC (rS (bD<|fOp bV (aD 10) nA) (hName 6) gE)
 (bT (fOp (eqX false) nE tM)))))))))))))))))
def jO:FN:=fnF 1 11 lU
abbrev lF:Stmt:=top 44
noncomputable abbrev sY:Tc:=["_law_above","_law_below","_law_one","_law_other"]
noncomputable abbrev mE:Tc:=["_law_above","_law_below"]
def sc__law_lowest:aV sY mE (aH lF):=by sleep 990
def pQ:SF:=(uS (gB<|fOp gtI (aD 3)<|fC (.int 0))<|EZ 2 3<|aB (aD 3)<|aB (fOp bO (aD 2)<|aD 3) aG)
def mO:SF:=(bC (EZ 2 3<|aB (aD 0)<|aB (aD 1) aG)
 (bC pQ
 (bT (iC (aB (fOp cD (aD 0) (aD 2)) (aB (fOp cD (aD 1) (aD 2)) aG))))))
def jC:FN:=fnF 2 4 mO
abbrev rA:Stmt:=top 46
noncomputable abbrev CQ:Tc:=["_law_deck_here","_law_draw","_law_more","_law_top","_law_low"]
noncomputable abbrev uD:Tc:=["_law_deck_here"]
def sc__law_any:aV CQ uD (aH rA):=by sleep 990
def uT:SF:=(bC (aY (bG "list" fE (aD 0) aG)<|hName 1)
 (bC (aY (bG "list" fE (aD 0) aG)<|hName 2)
 (bC (aY (fOp ixF (cA<|aB (fOp bO (fOp cD (aD 1)<|fC (.int 7))<|fC (.int 10))<|aB (fOp bO (fOp cD (aD 1)<|fC (.int 7))<|fC (.int 1000))<|aB (fOp qZ (fOp qZ (fOp wU (fC (.int 10))<|fC (.int 30))<|fC (.int 1))<|fOp bO (fOp cD (aD 1)<|fC (.int 7))<|fC (.int 50))<|aB (fOp bV (fOp vC (aD 1)<|fOp wU (fC (.int 10))<|fC (.int 12))<|aD 2) aG)<|fOp bO (aD 1)<|fC (.int 4))<|hName 3)
 (bC (aY (fOp ixF (cA<|aB (fC (.int 1))<|aB (fC (.int 1))<|aB (fOp bV (fC (.int 1))<|fOp bO (fOp cD (aD 2)<|fC (.int 5))<|fC (.int 40))<|aB (fC (.int 55440))<|aB (fOp qZ (fOp qZ (fOp wU (fC (.int 10))<|fC (.int 30))<|fC (.int 1))<|fOp bO (fOp cD (aD 2)<|fC (.int 5))<|fC (.int 30))<|aB (fOp bV (fC (.int 1))<|aD 2) aG)<|fOp bO (aD 2)<|fC (.int 6))<|hName 4)
 (bT (aL jC (aB (aD 3) (aB (aD 4) aG))))))))
def oB:FN:=fnF 1 5 uT
abbrev mT:Stmt:=top 47
noncomputable abbrev vU:Tc:=["_law_deck_here","_law_many","_law_found","_law_k","_law_draw"]
noncomputable abbrev oU:Tc:=["_law_deck_here","_law_many"]
def sc__law_drawn:aV vU oU (aH mT):=by sleep 990
def iM:SF:=(bC (aY (bG "list" fE (aD 0) aG)<|hName 4)
 (lQ (bG "list" eD (aD 2) (aB (iC (aB (fOp bO (aD 4) (fC (.int 100))) (aB (fOp ixF (cA (aB (fOp bO (fOp cD (aD 4) (fC (.int 100))) (fC (.int 100))) (aB (fOp bO (fOp cD (aD 4) (fC (.int 100))) (fC (.int 10))) aG))) (fOp bO (aD 3) (fC (.int 2)))) (aB (aL oB (aB (aD 0) aG)) aG)))) aG))))
def pG:SF:=(bC (aY (kR aG)<|hName 2)
 (bC (rS (iU<|aB (aD 1) aG) (hName 3) iM)
 (bT (aD 2))))
def hZ:FN:=fnF 2 5 pG
abbrev kY:Stmt:=top 48
noncomputable abbrev tN:Tc:=["_law_deck_here","_law_many","_law_found","_law_k","_law_draw"]
noncomputable abbrev mV:Tc:=["_law_deck_here","_law_many"]
def sc__law_places:aV tN mV (aH kY):=by sleep 990
def gO:EF:=(cA<|aB (fC (.int 100))<|aB (fC (.int 10))<|aB (fC (.int 40)) aG)
def wY(γ:Ga)(M:Sto):gO γ M=Z (.d (.list [(.int 100),(.int 10),(.int 40)]),M):=rfl
def jX:EF:=(fLc [Z 0,Z 4,Y] (iU<|aB (fOp bV (fC (.int 1))<|fOp bO (aD 4)<|fC (.int 6)) aG) (hName 2) eU<|fOp bO (bG "list" fE (aD 0) aG)<|fOp ixF gO<|fOp bO (fOp cD (aD 1)<|fC (.int 9))<|fC (.int 3))
def gN:SF:=(bC (aY (bG "list" fE (aD 0) aG)<|hName 4)
 (lQ (bG "list" eD (aD 2) (aB (aL jA (aB jX aG)) aG))))
def nB:SF:=(bC (aY (kR aG)<|hName 2)
 (bC (rS (iU<|aB (aD 1) aG) (hName 3) gN)
 (bT (aD 2))))
def gF:FN:=fnF 2 5 nB
abbrev PR:Stmt:=top 55
noncomputable abbrev aHm:Tc:=["_law_script","_law_deck_here","_law_rows","_law_sides","_law_which","_law_word","_law_lines","_law_one","_law_text","_law_at","_law_wrong_here"]
noncomputable abbrev aGE:Tc:=["_law_script"]
def sc_law:aV aHm aGE (aH PR):=by sleep 990
def HE:EF:=(cA<|aB (iC<|aB (fC (.int 1))<|aB (fC (.str "branch")) aG)<|aB (iC<|aB (fC (.int 2))<|aB (fC (.str "flow")) aG) aG)
def aCp(γ:Ga)(M:Sto):HE γ M=Z (.d (.list [(.tuple [(.int 1),(.str "branch")]),(.tuple [(.int 2),(.str "flow")])]),M):=rfl
def KC:EF:=(fLc [Z 5,Y] (bD<|aD 2) (hName 1) eU<|aL eC<|aB (aD 0)<|aB (aD 1) aG)
def TY:EF:=(cA<|aB (fC (.str "tie 0 1 1"))<|aB (fC (.str "side 0"))<|aB (fC (.str "places 2")) aG)
def aAY(γ:Ga)(M:Sto):TY γ M=Z (.d (.list [(.str "tie 0 1 1"),(.str "side 0"),(.str "places 2")]),M):=rfl
def VZ:SF:=(bC (aY (aL cU<|aB (qO (aD 1) bF<|bW<|fC (.int 2))<|aB (aD 6)<|aB (aD 7)<|aB (fC (.int 0)) aG)<|gS 2<|bK (hName 8)<|bK (hName 9) gU)
 (sIf (gB<|fOp (eqX true) (aL bE<|aB (aD 4)<|aB (aD 8) aG)<|aD 9)
  (bT<|fC (.bool false))
  cN))
def zY:SF:=(bC (aY KC<|hName 6)
 (rS (bD (fOp bV (aL dR (aB (aD 5) aG)) TY)) (hName 7) VZ))
def VC:EF:=(cA<|aB (fC (.str "side")) aG)
def aAn(γ:Ga)(M:Sto):VC γ M=Z (.d (.list [(.str "side")]),M):=rfl
def SU:EF:=(fLc [Y] (bD<|aD 0) (hName 0) eU<|aL iA<|aB (aD 0) aG)
def zK:EF:=(fLc [Y] (bD<|aD 3) (hName 0) eU<|bG "str" nO (fC (.str " "))<|aB (fOp bV VC SU) aG)
def IT:EF:=(cA<|aB (fC (.str "side"))<|aB (fC (.str "sides 1"))<|aB (fC (.str "side 100"))<|aB (fC (.str "side 01"))<|aB (fC (.str "side 1 00"))<|aB (fC (.str "side a"))<|aB (fC (.str "side 1 1/2"))<|aB (fC (.str "1"))<|aB (fC (.str "side1"))<|aB (fC (.str "tie 0 1 1")) aG)
def aAj(γ:Ga)(M:Sto):IT γ M=Z (.d (.list [(.str "side"),(.str "sides 1"),(.str "side 100"),(.str "side 01"),(.str "side 1 00"),(.str "side a"),(.str "side 1 1/2"),(.str "1"),(.str "side1"),(.str "tie 0 1 1")]),M):=rfl
def KG:EF:=(cA<|aB (fC (.str "side 1 /")) aG)
def aCz(γ:Ga)(M:Sto):KG γ M=Z (.d (.list [(.str "side 1 /")]),M):=rfl
def ID:SF:=(bC (aY (aL cU<|aB (qO (aD 1) bF<|bW<|fC (.int 2))<|aB (aD 6)<|aB (aD 7)<|aB (fC (.int 0)) aG)<|gS 2<|bK (hName 8)<|bK (hName 9) gU)
 (sIf (gB<|fOp (eqX true) (aL bE<|aB (fC (.int 3))<|aB (aD 8) aG)<|aD 9)
  (bT<|fC (.bool false))
  cN))
def VY:SF:=(bC (aY (aL jK<|aB (aD 0)<|aB (fC (.int 120)) aG)<|hName 1)
 (bC (sIf (kX<|gB<|aL jO<|aB (qO (aD 1) bF<|bW<|fC (.int 60)) aG)
  (bT<|fC (.bool false))
  cN)
 (bC (aY (qO (aD 1) (bW<|fC (.int 60)) bF)<|hName 1)
 (bC (aY (lS<|aL hZ<|aB (aD 1)<|aB (fOp bO (bG "list" fE (aD 1) aG)<|fC (.int 5)) aG)<|hName 2)
 (bC (aY (lS<|aL gF<|aB (aD 1)<|aB (fOp bO (bG "list" fE (aD 1) aG)<|fC (.int 5)) aG)<|hName 3)
 (bC (rS (bD HE) (gS 2<|bK (hName 4)<|bK (hName 5) gU) zY)
 (bC (aY zK<|hName 6)
 (bC (aY IT<|hName 10)
 (bC (rS (bD<|fOp bV (aD 10) KG) (hName 7) ID)
 (bT (fC (.bool true))))))))))))
def F_law:FN:=fnF 1 11 VY
structure Txt(K:Fg)(mg:Str->Tg):Prop where
 hB:WY mg ["ValueError","all","bool","enumerate","int","isinstance","len","list","max","min","range","sorted","str","tuple"]
 v160:∃t:Tok,mg "MOST_ABOVE"=Z (.int 1000000000000 t)
 v161:∃t:Tok,mg "BELOW"=Z (.int 55440 t)
 v162:∃t:Tok,mg "MOST_PLACES"=Z (.int 40 t)
 v163:∃t:Tok,mg "DIGITS"=Z (.str "0123456789" t)
 v164:∃t:Tok,mg "MOST_PLACE_DIGITS"=Z (.int 2 t)
 v165:∃t:Tok,mg "MOST_AMOUNT_DIGITS"=Z (.int 30 t)
 v142:mg "NoTie"=Z (.ref (aT K "NoTie"))
 v143:XC K (aT K "NoTie")
 v144:mg "NoLine"=Z (.ref (aT K "NoLine"))
 v145:XC K (aT K "NoLine")
 v146:mg "NoPlace"=Z (.ref (aT K "NoPlace"))
 v39:W.exmOne K (.ref (aT K "NoPlace")) (.ref (aT K "NoTie"))=Z false
 v40:W.exmOne K (.ref (aT K "NoLine")) (.ref (aT K "NoTie"))=Z false
 v41:W.exmOne K (.ref (aT K "NoTie")) (.ref (aT K "NoTie"))=Z true
 v42:mH (.ref (aT K "NoTie"))=true
 v43:mH (.ref (aT K "NoLine"))=false
 v147:vZ K (aT K "NoLine") "at"
 v148:vZ K (aT K "NoTie") "at"
 v149:mg "read_sides"=Z (.ref (aT K "read_sides"))
 v150:mg "read_flow"=Z (.ref (aT K "read_flow"))
 v151:mg "read_tree"=Z (.ref (aT K "read_tree"))
 v152:mg "read_web"=Z (.ref (aT K "read_web"))
 v153:mg "CutError"=Z (.ref (aT K "CutError"))
 v59:W.exmOne K (.ref (aT K "NoPlace")) (.ref (aT K "CutError"))=Z true
 v60:W.exmOne K (.ref (aT K "NoLine")) (.ref (aT K "CutError"))=Z true
 v61:W.exmOne K (.ref (aT K "NoTie")) (.ref (aT K "CutError"))=Z true
 v154:XC K (aT K "NoPlace")
 v70:LU K (.type "ValueError") jD=true
 v71:W.kitOne K (.type "NoneType") (.type "ValueError")=Z false
 v72:LU K (.ref (aT K "NoLine")) sR=true
 v73:W.kitOne K (.type "NoneType") (.ref (aT K "NoLine"))=Z false
 v74:W.keepIn K (.ref (aT K "NoTie"))=true
 v75:BM K (aT K "NoTie")=true
 v155:OJ K "NoTie" "__init__" "NoTie.__init__" fL
 v81:W.keepIn K (.ref (aT K "NoLine"))=true
 v82:BM K (aT K "NoLine")=true
 v156:OJ K "NoLine" "__init__" "NoLine.__init__" eM
 v88:W.excIn K (aT K "NoPlace") bmV "ValueError.__new__"=true
 v157:mg "Web"=Z (.ref (aT K "Web"))
 v158:Cls K (aT K "Web")
 v94:lH K (aT K "Web") "many"
 v95:lH K (aT K "Web") "ties"
 v96:lH K (aT K "Web") "weights"
 v159:OJ K "Web" "__init__" "Web.__init__" iL
 v102:W.makesIn K (aT K "Web")=true
 v103:W.keepIn K (.ref (aT K "Web"))=true
 v104:Def K mg "_law_deck" oV
 v105:Def K mg "_law_ties" oE
 v106:Def K mg "_law_number" kU
 v107:Def K mg "_law_line" nW
 v108:Def K mg "_law_wrong" mX
 v109:Def K mg "_law_put" qD
 v110:Def K mg "read_rows" oW
 v111:Def K mg "number_of" oS
 v112:Def K mg "place_of" qJ
 v113:Def K mg "side_in" uC
 v114:Def K mg "said_lines" mU
 v115:Def K mg "read_sides" nF
 v116:Def K mg "common" wQ
 v117:Def K mg "is_whole" rM
 v118:Def K mg "is_row" xN
 v119:Def K mg "is_row_of" pB
 v120:Def K mg "has_amount_numbers" eV
 v121:Def K mg "is_amount" pF
 v122:Def K mg "amount_of" nX
 v123:Def K mg "row_in" xF
 v124:Def K mg "read_flow" oM
 v125:Def K mg "read_tree" oK
 v126:Def K mg "many_in" uH
 v127:Def K mg "is_in_parts" lG
 v128:Def K mg "is_weight" pL
 v129:Def K mg "is_place" qU
 v130:Def K mg "are_unlike_places" fP
 v131:Def K mg "is_between_places" fQ
 v132:Def K mg "is_tie" wW
 v133:Def K mg "kept_ties" pJ
 v134:Def K mg "read_web" rE
 v135:Def K mg "_law_caught" lC
 v136:Def K mg "_law_webs" oH
 v137:Def K mg "_law_lowest" lF
 v138:Def K mg "_law_any" rA
 v139:Def K mg "_law_drawn" mT
 v140:Def K mg "_law_places" kY
 v141:Def K mg "law" PR
section
variable{P:Ue}{w:World}{K:Fg}{mg:Str->Tg}{base:Heap}
def UL(T:Txt K mg):∀nm∈(["NoTie","NoLine","NoPlace"]:Tc),XC K (aT K nm):=(AM T.v143<|AM T.v145<|AM T.v154 aEE)
def HD(T:Txt K mg):Callee P w K mg base 1 "_law_deck" rQ (spM K jK):=
 T.v104.okG (N:=yZ) (ps:=rQ) (k:=0) (b:=lW) sc__law_deck (by sleep 992) fun f cdv A outer s H E a=>
  (aM (bB 2 (fun _=>sc__law_deck.nd)<|dX (aEV fun _=>rfl) (by sleep 988) boot_list<|aA (aC 0) aF)
   (aM (jR (cR (aLT (fun _=>rfl) fun _=>a.units) (aC 2)<|cG aF)
    (aW<|bB 2 (fun _=>sc__law_deck.nd)<|uL<|aA aE aF)
    dO)
   (aM (bB 3 (fun _=>sc__law_deck.nd)<|aP cV (bP cX (aC 2) aE) aE)
   (aM (qF (aP fK (bP cX (aC 2) aE) aE)<|aBC aGF (aC 2) aE)
   (aM (bB 4 (fun _=>sc__law_deck.nd)<|uL aF)
   (aM (pM (fun _=>S2) (fun _=>rfl) (wB (by sleep 988)<|aA (aC 1) aF) (aZ 5 fun _=>sc__law_deck.nd)
    (aM (bB 6 (fun _=>sc__law_deck.nd)<|aP cV (aC 5)<|eP AY (by sleep 988) boot_len<|aA (aC 2) aF)
   (aM (bB 7 (fun _=>sc__law_deck.nd)<|aP cV (bP cX (aC 2)<|aC 6) aE)
   (aM (jR (cR (DW (fun _=>rfl) fun _=>a.units) (aC 3) aE)
    (aM (bB 7 (fun _=>sc__law_deck.nd)<|aP cV (aP dH (aP dH (bP cX (aC 2)<|aC 6)<|aP GV (aP GV (aC 5)<|aC 5) aE)<|aP GV aE<|aC 5) aE)
   (aM (bB 7 (fun _=>sc__law_deck.nd)<|aP cV (aP dH (aP GV (aC 7)<|bP cX (cG<|aA aE<|aA aE<|aA aE<|aA aE aF)<|aP cV (aC 5) aE) aE) aE)
   (aW (bB 7 (fun _=>sc__law_deck.nd) (aP cV (aP GV (aC 7) (aC 7)) aE)))))
    (aW (qF (aP fK (bP cX (aC 2) (aC 6)) aE) (aBC aGF (aC 2) (aC 6)))))
   (aW (vF (sF (fun _=>rfl) (aC 4) (aA (aC 7) aF))))))))
   (aM (vF<|QA (fun _=>rfl)<|aC 4)
   (aW (bJ (aC 4))))))))))
def JU(T:Txt K mg):Callee P w K mg base 1 "_law_ties" qH (spM K jP):=
 T.v105.okG (N:=yA) (ps:=qH) (k:=0) (b:=qR) sc__law_ties (by sleep 992) fun f cdv A outer s H E a=>
  (aM (bB 2 (fun _=>sc__law_ties.nd) NU)
   (aM (pM (fun _=>S2) (fun _=>rfl) (wB (by sleep 988)<|aA (aP cV (jU (fun _=>rfl)<|aC 0) aE) aF) (aZ 3 fun _=>sc__law_ties.nd)
    (aM (bB 4 (fun _=>sc__law_ties.nd)<|jU (fun _=>rfl)<|aC 0)
   (aM (bB 5 (fun _=>sc__law_ties.nd)<|aP cV (aC 4)<|aC 1)
   (aM (bB 6 (fun _=>sc__law_ties.nd)<|aP cV (aP fK (aC 4) aE)<|aC 1)
   (aM (bB 7 (fun _=>sc__law_ties.nd)<|cG<|aA (dW<|aA aE<|aA aE aF)<|aA (dW<|aA aE<|aA aE aF)<|aA (dW<|aA aE<|aA aE aF)<|aA (dW<|aA (aP LH aE aE)<|aA aE aF)<|aA (dW<|aA aE<|aA aE aF)<|aA (dW<|aA aE<|aA aE aF)<|aA (dW<|aA (aP FR (aP LH aE aE) aE)<|aA aE aF)<|aA (dW<|aA aE<|aA aE aF) aF)
   (aW (jR (cR (wO (fun _=>rfl) fun _=>a.units) (aC 5)<|aC 6)
    (aW<|UP (fun _=>a.u1) (aC 2) (QL<|aA (eP (aII fun _=>rfl) (by sleep 988) boot_min<|aA (aC 5)<|aA (aC 6) aF)<|aA (eP (aHR fun _=>rfl) (by sleep 988) boot_max<|aA (aC 5)<|aA (aC 6) aF) aF)<|bP cX (aP dH (aC 7)<|cG<|aA (dW<|aA (aP cV (aP fK (aC 4) aE) aE)<|aA aE aF) aF)<|aP cV (aP fK (aC 4) aE) aE)
    dO)))))))
   (aW (bJ (iH (N':=(["_law_found","_law_pair"]:Tc)) (cap:=[Z 2,Y]) (fun _=>rfl) (by sleep 987) (dS (fun _=>rfl) (eP (aGh (fun _=>rfl) (fun _=>a.units2) (fun _=>rfl)) (by sleep 988) boot_sorted (aA (aC 2) aF))) (aZ 1 (by sleep 989)) gT (aP dH (aC 1) (dW (aA (aAB (fun _=>rfl) (fun _=>a.u1) (aC 0) (aC 1)) aF))))))))
def DZ(T:Txt K mg):Callee P w K mg base 1 "_law_number" mI (spM K gI):=
 T.v106.okG (N:=tQ) (ps:=mI) (k:=0) (b:=jI) BZ (by sleep 991) fun f cdv A outer s H E a=>
  (aM (jR (cR (DW (fun _=>rfl) fun _=>a.units) (bP cX (aC 0) aE) aE)
   (aW<|bJ<|dX qW (by sleep 988) boot_str<|aA (bP cX (aC 0) aE) aF)
   dO)
   (aW (bJ (aP (iN (fun _=>rfl)) (aP (iN (fun _=>rfl)) (dX qW (by sleep 988) boot_str (aA (bP cX (aC 0) aE) aF)) aN) (dX qW (by sleep 988) boot_str (aA (bP cX (aC 0) aE) aF))))))
def uY(T:Txt K mg):Callee P w K mg base 2 "_law_line" qV (spM K eC):=
 T.v107.okG (N:=xZ) (ps:=qV) (k:=1) (b:=rF) HI (by sleep 992) fun f cdv A outer s H E a=>
  (aW<|bJ<|zM (fun _=>rfl) aN<|aA (cG<|aA (aC 0)<|aA (dX qW (by sleep 988) boot_str<|aA (bP cX (aC 1) aE) aF)<|aA (dX qW (by sleep 988) boot_str<|aA (bP cX (aC 1) aE) aF)<|aA (aR (fun _=>DZ T) a.le<|aA (bP cX (aC 1) aE) aF) aF) aF)
def tJ(T:Txt K mg):Callee P w K mg base 1 "_law_wrong" oA (spM K dR):=
 T.v108.okG (N:=wI) (ps:=oA) (k:=0) (b:=vN) sc__law_wrong (by sleep 991) fun f cdv A outer s H E a=>
  (aM (bB 1 (fun _=>sc__law_wrong.nd)<|aP (iN fun _=>rfl) aN<|aP aCq aN aE)
   (aM (bB 2 (fun _=>sc__law_wrong.nd)<|cG<|aA aN<|aA aN<|aA aN<|aA aN<|aA aN<|aA aN<|aA aN<|aA aN<|aA aN<|aA aN<|aA aN aF)
   (aM (bB 2 (fun _=>sc__law_wrong.nd)<|aP dH (aC 2)<|cG<|aA aN<|aA aN<|aA aN<|aA aN<|aA aN<|aA aN<|aA aN<|aA aN aF)
   (aM (bB 2 (fun _=>sc__law_wrong.nd)<|aP dH (aC 2)<|cG<|aA aN<|aA aN<|aA (aP (iN fun _=>rfl) aN<|aC 1)<|aA (aP (iN fun _=>rfl) aN<|aC 1)<|aA aN<|aA aN<|aA aN aF)
   (aM (vW 2 (fun _=>sc__law_wrong.nd) (N':=(["_law_word","_law_more"]:Tc)) (cap:=[Z 0,Y]) (fun _=>rfl) (by sleep 987) (dS (fun _=>rfl)<|aC 2) (aZ 1 (by sleep 989)) gT<|aP (iN fun _=>rfl) (aC 0)<|aC 1)
   (aW (bJ (aP dH (aC 2) (cG (aA (aP (iN (fun _=>rfl)) (aC 0) aN) (aA aN (aA aN (aA (aP (iN (fun _=>rfl)) (aDx (aC 0) eE (dF (aLQ aLd aE))) aN) (aA (aP (iN (fun _=>rfl)) (aP aCq (aC 0) aE) aN) aF))))))))))))))
def jS(T:Txt K mg):Callee P w K mg base 1 "_law_put" uB (spM K cU):=
 T.v109.okG (N:=AS) (ps:=uB) (k:=0) (b:=nY) sc__law_put (by sleep 994) fun f cdv A outer s H E a=>
  (aM (bB 4 (fun _=>sc__law_put.nd)<|aP dH (aC 3)<|aP cV (jU (fun _=>rfl)<|aC 0)<|aP FR (aP dH (eP AY (by sleep 988) boot_len<|aA (aC 1) aF) aE)<|aC 3)
   (aM (bB 5 (fun _=>sc__law_put.nd)<|jU (fun _=>rfl)<|aC 0)
   (aM (bB 6 (fun _=>sc__law_put.nd)<|aP dH (aP dH (aP (aDH fun _=>rfl) (uL<|aA aN aF)<|aP cV (aC 5) aE)<|xX (fun _=>rfl) (aC 1) eE<|dF<|aC 4)<|aP (aDH fun _=>rfl) (uL<|aA aN aF)<|aP cV (aP fK (aC 5) aE) aE)
   (aM (bB 7 (fun _=>sc__law_put.nd)<|bP cX (cG<|aA (aC 2)<|aA aN<|aA aN aF)<|aP cV (aP fK (aC 5) aE) aE)
   (aW (bJ (dW (aA (zM (fun _=>rfl) aN (aA (aP dH (aP dH (aP dH (aC 6) (cG (aA (aC 2) aF))) (xX (fun _=>rfl) (aC 1) (dF (aC 4)) eE)) (cG (aA (aC 7) aF))) aF)) (aA (eP AY (by sleep 988) boot_len (aA (aC 6) aF)) aF)))))))))
def jY(T:Txt K mg):nL P w K mg base 1 "NoLine" fO (spM K bY):=
 T.v156.okIX (N:=lA) (ps:=fO) (k:=0) (b:=iB) T.v82 T.v81 pR (by sleep 992) fun f cdv A outer s H E a=>
  (aW<|JO (nm:="NoLine") (fun _=>rfl) T.v147 (aC 0)<|aC 1)
def wM(T:Txt K mg):nL P w K mg base 1 "NoLine" fO (spM K bY) false:=
 T.v156.okIX (N:=lA) (ps:=fO) (k:=0) (b:=iB) T.v82 T.v81 pR (by sleep 992) fun f cdv A outer s H E a=>
  (aW<|JO (nm:="NoLine") (fun _=>rfl) T.v147 (aC 0)<|aC 1)
def nV(T:Txt K mg):dN P w K mg base 3 "read_rows" rL (spX K eZ):=
 T.v110.okX (N:=zB) (ps:=rL) (k:=2) (b:=lT) sc_read_rows (by sleep 991) fun f cdv A outer s H E a=>
  (eO (UM (fun i=>nN i) (fun _=>rfl) (dS (fun _=>rfl)<|aC 0) (iF (fun _=>rfl) (fun _=>rfl)<|bL (aZ 1 fun _=>sc_read_rows.nd)<|bL (aZ 2 fun _=>sc_read_rows.nd) eY)
   (fS (xI (cR aGN (aC 2) fF)
   (fS<|kP (fun i=>nN i) (fun _=>jY T) (fun _=>rfl) (fun _=>rfl) (fun _=>T.v144) T.v145.c.be a.le<|aA (aC 1) aF)
   (mG dO))))
   (mG (aW DA)))
def oZ(T:Txt K mg):Callee P w K mg base 1 "number_of" qM (spM K cQ):=
 T.v111.okG (N:=yE) (ps:=qM) (k:=0) (b:=lN) KI (by sleep 992) fun f cdv A outer s H E a=>
  (aM (jR (CW<|vV (kO<|NI aCe aDI aE (eP (aIW fun _=>rfl) (by sleep 988) boot_len<|aA (aC 0) aF)<|aC 1)<|uJ<|kO<|jW<|eP (aMj (fun _=>rfl) fun _=>rfl) (by sleep 988) boot_all<|aA (iH (N':=(["sign"]:Tc)) (cap:=[Y]) (fun _=>rfl) (by sleep 987) (aHD<|aC 0) (aZ 0 (by sleep 989)) gT<|lD aLL (aC 0)<|aCs fun _=>T.v163) aF)
   (aW<|bJ fF)
   dO)
   (aW (bJ (CJ (CW (vV (cR (DW (fun _=>rfl) (fun _=>a.units)) (aC 0) aN) (uJ (cR (wO (fun _=>rfl) (fun _=>a.units)) (bP aLX (aC 0) aE) aN)))) (dX aIE (by sleep 988) boot_int (aA (aC 0) aF)) fF))))
def lZ(T:Txt K mg):Callee P w K mg base 2 "place_of" uQ (spM K bX):=
 T.v112.okG (N:=EA) (ps:=uQ) (k:=1) (b:=nU) OA (by sleep 991) fun f cdv A outer s H E a=>
  (aW<|bJ<|aR (fun _=>oZ T) a.le<|aA (aC 0)<|aA (kW fun _=>T.v164) aF)
def QE(T:Txt K mg):Callee P w K mg base 3 "side_in" xD (spM K cZ):=
 T.v113.okG (N:=FP) (ps:=xD) (k:=2) (b:=sT) sc_side_in (by sleep 991) fun f cdv A outer s H E a=>
  (aM (jR (CW<|vV (cR aCe (eP AY (by sleep 988) boot_len<|aA (aC 0) aF) aE)<|uJ<|cR (wO (fun _=>rfl) fun _=>a.units) (bP cX (aC 0) aE) aN)
   (aW<|bJ fF)
   dO)
   (aM (bB 1 (fun _=>sc_side_in.nd)<|dX (IB fun _=>rfl) (by sleep 988) boot_tuple<|aA (iH (N':=(["word"]:Tc)) (cap:=[Y]) (fun _=>rfl) (by sleep 987) (dS (fun _=>rfl)<|xX (fun _=>rfl) (aC 0) (dF aE) eE) (aZ 0 (by sleep 989)) gT<|aR (fun _=>lZ T) a.le<|aA (aC 0) aF) aF)
   (aW (bJ (CJ (cR (aKO (fun _=>rfl) (fun _=>a.units1)) fF (aC 1)) fF (aC 1))))))
def jG(T:Txt K mg):Callee P w K mg base 1 "said_lines" oO (spM K cF):=
 T.v114.okG (N:=vA) (ps:=oO) (k:=0) (b:=kF) sc_said_lines (by sleep 991) fun f cdv A outer s H E a=>
  (aM (vW 1 (fun _=>sc_said_lines.nd) (N':=(["line"]:Tc)) (cap:=[Y]) (fun _=>rfl) (by sleep 987) (dS (fun _=>rfl)<|NZ (fun _=>rfl) (aC 0)<|aA aN aF) (aZ 0 (by sleep 989)) gT<|iH (N':=(["word"]:Tc)) (cap:=[Y]) (fun _=>rfl) (fun _=>SW (by decide +kernel)) (dS (fun _=>rfl)<|NZ (fun _=>rfl) (aC 0)<|aA aN aF) (aZ 0 (by sleep 989)) (SD<|IC (fun _=>rfl)<|aC 0)<|aC 0)
   (aW (bJ (iH (N':=(["at","words"]:Tc)) (cap:=[Y,Y]) (fun _=>rfl) (by sleep 987) (TU (fun _=>rfl) (by sleep 988) (aA (aC 1) aF)) (iF (fun _=>rfl) (fun _=>rfl) (bL (aZ 0 (by sleep 989)) (bL (aZ 1 (by sleep 989)) eY))) (SD (QK (fun _=>rfl) (aC 1))) (dW (aA (aC 0) (aA (aC 1) aF)))))))
def ED(T:Txt K mg):dN P w K mg base 4 "read_sides" oY (spX K eI):=
 T.v115.okX (N:=wK) (ps:=oY) (k:=3) (b:=wC) ET (by sleep 991) fun f cdv A outer s H E a=>
  (fS<|zW<|zJ (fun i=>nN i) (fun _=>nV T) a.le<|DN<|aA (iH (N':=(["at","words"]:Tc)) (cap:=[Y,Y]) (fun _=>rfl) (by sleep 987) (dS (fun _=>rfl)<|aR (fun _=>jG T) a.le<|aA (aC 0) aF) (iF (fun _=>rfl) (fun _=>rfl)<|bL (aZ 0 (by sleep 989))<|bL (aZ 1 (by sleep 989)) eY) gT<|dW<|aA (aC 0)<|aA (aR (fun _=>QE T) a.le<|aA (aC 1) aF) aF) aF)
def FD(T:Txt K mg):Callee P w K mg base 1 "common" AU (spM K qX):=
 T.v116.okG (N:=PD) (ps:=AU) (k:=0) (b:=NS) sc_common (by sleep 992) fun f cdv A outer s H E a=>
  (aM (MU (fun _=>S2) (QK (fun _=>rfl)<|aC 1)<|aW<|RO 0 1 (fun _=>rfl) (fun _=>sc_common.nd)<|aA (aC 1)<|aA (aP cV (aC 0)<|aC 1) aF)
   (aW (bJ (aC 0))))
def mD(T:Txt K mg):Callee P w K mg base 1 "is_whole" uG (spM K gR):=
 T.v117.okG (N:=AD) (ps:=uG) (k:=0) (b:=DG) OE (by sleep 991) fun f cdv A outer s H E a=>
  (aW<|bJ<|iW (QM (T:="int") (fun _=>rfl) (by decide) (aC 0) (fun _=>dY) (by sleep 988) (by sleep 988) boot_int)<|nD<|aJi<|QM (T:="bool") (fun _=>rfl) (by decide) (aC 0) (fun _=>dY) (by sleep 988) (by sleep 988) boot_bool)
def GM(T:Txt K mg):Callee P w K mg base 1 "is_row" AI (spM K rC):=
 T.v118.okG (N:=LL) (ps:=AI) (k:=0) (b:=MY) ZP (by sleep 991) fun f cdv A outer s H E a=>
  (aW<|bJ<|aFU (T:="list") (U:="tuple") (fun _=>rfl) (by decide) (by decide) (aC 0) (fun _=>dY) (by sleep 988) (by sleep 988) (by sleep 988) boot_list boot_tuple)
def vJ(T:Txt K mg):Callee P w K mg base 2 "is_row_of" rK (spM K lI):=
 T.v119.okG (N:=yN) (ps:=rK) (k:=1) (b:=yK) HH (by sleep 992) fun f cdv A outer s H E a=>
  (aW<|bJ<|iW (aR (fun _=>GM T) a.le<|aA (aC 0) aF)<|nD<|lD (DW (fun _=>rfl) fun _=>a.units) (eP AY (by sleep 988) boot_len<|aA (aC 0) aF)<|aC 1)
def iT(T:Txt K mg):Callee P w K mg base 3 "has_amount_numbers" fJ (spM K bQ):=
 T.v120.okG (N:=jJ) (ps:=fJ) (k:=2) (b:=cW) pU (by sleep 991) fun f cdv A outer s H E a=>
  (aM (jR (CW<|vV (kO<|jW<|aR (fun _=>vJ T) a.le<|aA (aC 0)<|aA aE aF)<|vV (kO<|jW<|aR (fun _=>mD T) a.le<|aA (bP cX (aC 0) aE) aF)<|uJ<|kO<|jW<|aR (fun _=>mD T) a.le<|aA (bP cX (aC 0) aE) aF)
   (aW<|bJ vO)
   dO)
   (aW (bJ (iW (lD aLW (bP cX (aC 0) aE) aE) (nD (lD aLW (bP cX (aC 0) aE) aE))))))
def JD(T:Txt K mg):Callee P w K mg base 4 "is_amount" qA (spM K gZ):=
 T.v121.okG (N:=yR) (ps:=qA) (k:=3) (b:=lJ) JA (by sleep 991) fun f cdv A outer s H E a=>
  (aW<|bJ<|iW (aR (fun _=>iT T) a.le<|aA (aC 0) aF)<|nD<|lD (DW (fun _=>rfl) fun _=>a.units) (aR (fun _=>FD T) a.le<|aA (bP cX (aC 0) aE)<|aA (bP cX (aC 0) aE) aF) aE)
def JL(T:Txt K mg):Callee P w K mg base 5 "amount_of" rX (spM K cP):=
 T.v122.okG (N:=yV) (ps:=rX) (k:=4) (b:=lL) sc_amount_of (by sleep 991) fun f cdv A outer s H E a=>
  (aM (qF (aFh (fun _=>rfl) (aC 0)<|aA aN aF)<|iF (fun _=>rfl) (fun _=>rfl)<|bL (aZ 1 fun _=>sc_amount_of.nd)<|bL (aZ 2 fun _=>sc_amount_of.nd)<|bL (aZ 3 fun _=>sc_amount_of.nd) eY)
   (aM (jR (CW<|AK (IC (fun _=>rfl)<|aC 2)<|zZ<|cR (DW (fun _=>rfl) fun _=>a.units) (aC 3) aN)
    (aW<|bJ fF)
    dO)
   (aM (bB 4 (fun _=>sc_amount_of.nd)<|dW<|aA (aR (fun _=>oZ T) a.le<|aA (aC 1)<|aA (kW fun _=>T.v165) aF)<|aA (CJ (IC (fun _=>rfl)<|aC 2) (aR (fun _=>oZ T) a.le<|aA (aC 3)<|aA (kW fun _=>T.v165) aF) aE) aF)
   (aW (bJ (CJ (jW (aR (fun _=>JD T) a.le (aA (aC 4) aF))) (aC 4) fF))))))
def wN(T:Txt K mg):Callee P w K mg base 6 "row_in" CF (spM K bI):=
 T.v123.okG (N:=NK) (ps:=CF) (k:=5) (b:=vK) sc_row_in (by sleep 992) fun f cdv A outer s H E a=>
  (aM (jR (CW<|vV (cR (wO (fun _=>rfl) fun _=>a.units) (eP AY (by sleep 988) boot_len<|aA (aC 0) aF) aE)<|uJ<|cR (wO (fun _=>rfl) fun _=>a.units) (bP cX (aC 0) aE)<|aC 1)
   (aW<|bJ fF)
   dO)
   (aM (bB 2 (fun _=>sc_row_in.nd)<|dW<|aA (aR (fun _=>lZ T) a.le<|aA (bP cX (aC 0) aE) aF)<|aA (aR (fun _=>lZ T) a.le<|aA (bP cX (aC 0) aE) aF)<|aA (aR (fun _=>JL T) a.le<|aA (bP cX (aC 0) aE) aF) aF)
   (aW (bJ (CJ (cR (aKO (fun _=>rfl) (fun _=>a.units1)) fF (aC 2)) fF (aC 2))))))
def JZ(T:Txt K mg):dN P w K mg base 7 "read_flow" qY (spX K fB):=
 T.v124.okX (N:=yS) (ps:=qY) (k:=6) (b:=yX) IR (by sleep 991) fun f cdv A outer s H E a=>
  (fS<|zW<|zJ (fun i=>nN i) (fun _=>nV T) a.le<|DN<|aA (iH (N':=(["at","words"]:Tc)) (cap:=[Y,Y]) (fun _=>rfl) (by sleep 987) (dS (fun _=>rfl)<|aR (fun _=>jG T) a.le<|aA (aC 0) aF) (iF (fun _=>rfl) (fun _=>rfl)<|bL (aZ 0 (by sleep 989))<|bL (aZ 1 (by sleep 989)) eY) gT<|dW<|aA (aC 0)<|aA (aR (fun _=>wN T) a.le<|aA (aC 1)<|aA aN aF) aF) aF)
def JM(T:Txt K mg):dN P w K mg base 7 "read_tree" pY (spX K fR):=
 T.v125.okX (N:=yC) (ps:=pY) (k:=6) (b:=yH) IZ (by sleep 991) fun f cdv A outer s H E a=>
  (fS<|zW<|zJ (fun i=>nN i) (fun _=>nV T) a.le<|DN<|aA (iH (N':=(["at","words"]:Tc)) (cap:=[Y,Y]) (fun _=>rfl) (by sleep 987) (dS (fun _=>rfl)<|aR (fun _=>jG T) a.le<|aA (aC 0) aF) (iF (fun _=>rfl) (fun _=>rfl)<|bL (aZ 0 (by sleep 989))<|bL (aZ 1 (by sleep 989)) eY) gT<|dW<|aA (aC 0)<|aA (aR (fun _=>wN T) a.le<|aA (aC 1)<|aA aN aF) aF) aF)
def RS(T:Txt K mg):Callee P w K mg base 3 "many_in" xG (spM K dB):=
 T.v126.okG (N:=HB) (ps:=xG) (k:=2) (b:=sP) sc_many_in (by sleep 991) fun f cdv A outer s H E a=>
  (aM (bB 1 (fun _=>sc_many_in.nd)<|CJ (CW<|AK (cR (DW (fun _=>rfl) fun _=>a.units) (eP AY (by sleep 988) boot_len<|aA (aC 0) aF) aE)<|zZ<|cR (DW (fun _=>rfl) fun _=>a.units) (bP cX (aC 0) aE) aN) (aR (fun _=>lZ T) a.le<|aA (bP cX (aC 0) aE) aF) fF)
   (aW (bJ (CJ (CW (AK (cR aJo (aC 1) fF) (zZ (NI aDI aDI aE (aC 1) (kW (fun _=>T.v162)))))) (aC 1) fF))))
def pZ(T:Txt K mg):nL P w K mg base 1 "NoTie" mW (spM K eR):=
 T.v155.okIX (N:=tH) (ps:=mW) (k:=0) (b:=mZ) T.v75 T.v74 DM (by sleep 992) fun f cdv A outer s H E a=>
  (aW<|JO (nm:="NoTie") (fun _=>rfl) T.v148 (aC 0)<|aC 1)
def CB(T:Txt K mg):Callee P w K mg base 4 "is_in_parts" mL (spM K dG):=
 T.v127.okG (N:=tR) (ps:=mL) (k:=3) (b:=eQ) BK (by sleep 991) fun f cdv A outer s H E a=>
  (aW<|bJ<|iW (aR (fun _=>iT T) a.le<|aA (aC 0) aF)<|iW (lD (DW (fun _=>rfl) fun _=>a.units) (aP cV (kW fun _=>T.v161)<|bP cX (aC 0) aE) aE)<|nD<|lD (DW (fun _=>rfl) fun _=>a.units) (aR (fun _=>FD T) a.le<|aA (bP cX (aC 0) aE)<|aA (bP cX (aC 0) aE) aF) aE)
def IE(T:Txt K mg):Callee P w K mg base 5 "is_weight" qQ (spM K fI):=
 T.v128.okG (N:=yD) (ps:=qQ) (k:=4) (b:=jM) IJ (by sleep 991) fun f cdv A outer s H E a=>
  (aW<|bJ<|iW (aR (fun _=>CB T) a.le<|aA (aC 0) aF)<|nD<|lD aDI (bP cX (aC 0) aE)<|kW fun _=>T.v160)
def yT(T:Txt K mg):Callee P w K mg base 2 "is_place" uR (spM K jB):=
 T.v129.okG (N:=CO) (ps:=uR) (k:=1) (b:=oG) LP (by sleep 992) fun f cdv A outer s H E a=>
  (aW<|bJ<|iW (aR (fun _=>mD T) a.le<|aA (aC 1) aF)<|nD<|aDf aDI aCe aE (aC 1)<|aC 0)
def pW(T:Txt K mg):Callee P w K mg base 3 "are_unlike_places" fX (spM K cO):=
 T.v130.okG (N:=kB) (ps:=fX) (k:=2) (b:=dE) rJ (by sleep 993) fun f cdv A outer s H E a=>
  (aW<|bJ<|iW (aR (fun _=>yT T) a.le<|aA (aC 0)<|aA (aC 1) aF)<|iW (aR (fun _=>yT T) a.le<|aA (aC 0)<|aA (aC 2) aF)<|nD<|lD (wO (fun _=>rfl) fun _=>a.units) (aC 1)<|aC 2)
def pX(T:Txt K mg):Callee P w K mg base 4 "is_between_places" fV (spM K bS):=
 T.v131.okG (N:=kC) (ps:=fV) (k:=3) (b:=dD) qI (by sleep 992) fun f cdv A outer s H E a=>
  (aW<|bJ<|iW (aR (fun _=>vJ T) a.le<|aA (aC 1)<|aA aE aF)<|iW (aR (fun _=>pW T) a.le<|aA (aC 0)<|aA (bP cX (aC 1) aE)<|aA (bP cX (aC 1) aE) aF)<|nD<|lD aCe (bP cX (aC 1) aE)<|bP cX (aC 1) aE)
def XQ(T:Txt K mg):Callee P w K mg base 6 "is_tie" DJ (spM K kS):=
 T.v132.okG (N:=LF) (ps:=DJ) (k:=5) (b:=nM) WU (by sleep 992) fun f cdv A outer s H E a=>
  (aW<|bJ<|iW (aR (fun _=>pX T) a.le<|aA (aC 0)<|aA (aC 1) aF)<|nD<|aR (fun _=>IE T) a.le<|aA (bP cX (aC 1) aE) aF)
def IM(T:Txt K mg):dN P w K mg base 7 "kept_ties" sE (spX K lM):=
 T.v133.okX (N:=yL) (ps:=sE) (k:=6) (b:=lK) sc_kept_ties (by sleep 992) fun f cdv A outer s H E a=>
  (eO (xI (kO<|jW<|aR (fun _=>GM T) a.le<|aA (aC 1) aF)
   (fS<|kP (fun i=>nN i) (fun _=>pZ T) (fun _=>rfl) (fun _=>rfl) (fun _=>T.v142) T.v143.c.be a.le<|aA aE aF)
   (mG dO))
   (eO (HN<|bB 2 (fun _=>sc_kept_ties.nd) NU)
   (eO (UM (fun i=>nN i) (fun _=>rfl) (TU (fun _=>rfl) (by sleep 988)<|aA (aC 1) aF) (iF (fun _=>rfl) (fun _=>rfl)<|bL (aZ 3 fun _=>sc_kept_ties.nd)<|bL (aZ 4 fun _=>sc_kept_ties.nd) eY)
    (eO (xI (CW<|vV (kO<|jW<|aR (fun _=>XQ T) a.le<|aA (aC 0)<|aA (aC 4) aF)<|uJ<|aKd (fun _=>a.u1) (QL<|aA (bP cX (aC 4) aE)<|aA (bP cX (aC 4) aE) aF)<|aC 2)
    (fS<|kP (fun i=>nN i) (fun _=>pZ T) (fun _=>rfl) (fun _=>rfl) (fun _=>T.v142) T.v143.c.be a.le<|aA (aC 3) aF)
    (mG dO))
   (mG (aW (UP (fun _=>a.u1) (aC 2) (QL (aA (bP cX (aC 4) aE) (aA (bP cX (aC 4) aE) aF))) (dX (IB (fun _=>rfl)) (by sleep 988) boot_tuple (aA (bP cX (aC 4) aE) aF)))))))
   (mG (aW DA)))))
def HK(T:Txt K mg):EB P w K mg base 8 "Web" qP (spX K jQ):=
 T.v159.okR (N:=zA) (ps:=qP) (k:=7) (b:=sD) T.v102 T.v103 T.v157 IU (by sleep 993) fun f cdv A outer s H E a=>
  (eO (xI (CW<|vV (kO<|jW<|aR (fun _=>mD T) a.le<|aA (aC 1) aF)<|vV (cR aCe (aC 1) aE)<|uJ<|cR aLB (aC 1)<|kW fun _=>T.v162)
   (fS<|QO (fun i=>nN i) (fun _=>rfl) (fun _=>rfl) (fun _=>T.v146) T.v88)
   (mG dO))
   (eO (HN<|aJu (nm:="Web") (fun _=>rfl) T.v158 T.v94 (aC 0)<|aC 1)
   (eO (aGu (nm:="Web") (fun _=>rfl) T.v158 T.v95 (aC 0)<|zJ (fun i=>nN i) (fun _=>IM T) a.le<|DN<|aA (aC 1)<|aA (aC 2) aF)
   (mG (aW DA)))))
def MM(T:Txt K mg):dN P w K mg base 10 "read_web" oF (spX K cH):=
 T.v134.okX (N:=CZ) (ps:=oF) (k:=9) (b:=fA) sc_read_web (by sleep 991) fun f cdv A outer s H E a=>
  (eO (HN<|bB 1 (fun _=>sc_read_web.nd)<|aR (fun _=>jG T) a.le<|aA (aC 0) aF)
   (eO (xI (kO<|QK (fun _=>rfl)<|aC 1)
    (fS<|kP (fun i=>nN i) (fun _=>jY T) (fun _=>rfl) (fun _=>rfl) (fun _=>T.v144) T.v145.c.be a.le<|aA (aBA (fun _=>rfl) (aC 0)<|aA aN aF) aF)
    (mG dO))
   (eO (HN<|bB 2 (fun _=>sc_read_web.nd)<|aR (fun _=>RS T) a.le<|aA (bP cX (bP cX (aC 1) aE) aE) aF)
   (eO (xI (cR aGN (aC 2) fF)
    (fS<|kP (fun i=>nN i) (fun _=>jY T) (fun _=>rfl) (fun _=>rfl) (fun _=>T.v144) T.v145.c.be a.le<|aA (bP cX (bP cX (aC 1) aE) aE) aF)
    (mG dO))
   (fS (aCm [("NoTie",true),("NoLine",false),("NoPlace",false)] 3 (.ref (aT K "NoTie")) (fun _=>⟨rfl,rfl,rfl⟩) (fun i=>nN i) (fun _=>rfl) (fS (zW (aEC (fun i=>aHl (fun _=>⟨rfl,rfl,rfl⟩) i) (fun _=>HK T) (fun _=>rfl) a.le (aA (aC 2) (aA (iH (N':=(["at","words"]:Tc)) (cap:=[Y,Y]) (fun _=>rfl) (by sleep 987) (dS (fun _=>rfl) (xX (fun _=>rfl) (aC 1) (dF aE) eE)) (iF (fun _=>rfl) (fun _=>rfl) (bL (aZ 0 (by sleep 989)) (bL (aZ 1 (by sleep 989)) eY))) gT (aR (fun _=>wN T) a.le (aA (aC 1) (aA aN aF)))) aF))))) (fun _=>.inl T.v142) (fun _=>⟨sc_read_web.nd,rfl,rfl⟩) (kK T.v41 (kK T.v40 (kK T.v39 MV))) (xB (fun _=>T.v42) (xB (fun z=>nomatch z) (xB (fun z=>nomatch z) aCV))) (fun _=>wM T) (fun _=>T.v144) T.v145.c.be T.v43 (fun _=>a.mono (by decide)) (aA (bP cX (bP cX (aC 1) (aP dH aE (IV (nms:=["NoTie","NoLine"]) (fun _=>rfl) (kJ T.v143.c T.v148 (kJ T.v145.c T.v147 BR)) (aC 3)))) aE) aF)))))))
def dJ(T:Txt K mg):Callee P w K mg base 11 "_law_caught" mF (spM K bE):=
 T.v135.okG (N:=tE) (ps:=mF) (k:=10) (b:=jE) sc__law_caught (by sleep 992) fun f cdv A outer s H E a=>
  (aM (bB 2 (fun _=>sc__law_caught.nd)<|uL<|aA (TN fun _=>T.v152)<|aA (TN fun _=>T.v151)<|aA (TN fun _=>T.v150)<|aA (TN fun _=>T.v149) aF)
   (aM (bB 3 (fun _=>sc__law_caught.nd) fF)
   (aM (aJF (fun _=>⟨rfl,rfl,rfl⟩) (fun _=>rfl) (fS<|aAL<|aDR (k:=10) (tbl:=[("read_web",cH),("read_tree",fR),("read_flow",fB),("read_sides",eI)]) (ps:=oF) (fun _=>rfl) (fun i=>aHl (fun _=>⟨rfl,rfl,rfl⟩) i) (fun _=>(zN (MM T) T.v152<|zN (JM T) T.v151<|zN (JZ T) T.v150<|zN (ED T) T.v149 aKo)) a.le (bP cX (aC 2)<|aC 0)<|DN<|aA (aC 1) aF) (aEt (tab:=[("NoTie",true),("NoLine",true),("NoPlace",true)]) (n:=(Z 4)) (.ref (aT K "CutError")) (fun _=>⟨rfl,rfl,rfl⟩) (fun _=>.inl T.v153) (fun _=>⟨sc__law_caught.nd,rfl,rfl⟩) (kK T.v61<|kK T.v60<|kK T.v59 MV) (aW<|bB 3 (fun _=>sc__law_caught.nd)<|aC 4)
   aIw))
   (aM (jR (CW<|AK (jW<|WH (tab:=sR) (nn:=Z false) (c:=(.ref (aT K "NoLine"))) (fun _=>rfl) (.own _) (aIB fun _=>T.v144) (VJ (UL T) T.v72 rfl) (VP T.v73) (aC 3) (fun _=>dY) (by sleep 988))<|AK (jW<|WH (tab:=jD) (nn:=Z false) (c:=(.type "ValueError")) (fun _=>rfl) (.ty _) (aMk (by sleep 988) zF) (VJ (UL T) T.v70 rfl) (VP T.v71) (aC 3) (fun _=>dY) (by sleep 988))<|zZ<|kO<|jW<|QM (T:="bool") (fun _=>rfl) (by decide) (IV (nms:=["NoTie","NoLine"]) (fun _=>rfl) (kJ T.v143.c T.v148<|kJ T.v145.c T.v147 BR)<|aC 3) (fun _=>CP) (by sleep 988) (by sleep 988) boot_bool)
    (aW<|bJ<|IV (nms:=["NoTie","NoLine"]) (fun _=>rfl) (kJ T.v143.c T.v148<|kJ T.v145.c T.v147 BR)<|aC 3)
    dO)
   (aW (bJ fF))))))
def HM(T:Txt K mg):Callee P w K mg base 12 "_law_webs" rN (spM K jO):=
 T.v136.okG (N:=yP) (ps:=rN) (k:=11) (b:=lU) sc__law_webs (by sleep 991) fun f cdv A outer s H E a=>
  (aM (bB 1 (fun _=>sc__law_webs.nd)<|aP dH aE<|aP cV (jU (fun _=>rfl)<|aC 0) aE)
   (aM (bB 2 (fun _=>sc__law_webs.nd)<|aR (fun _=>JU T) a.le<|aA (aC 0)<|aA (aC 1) aF)
   (aM (bB 3 (fun _=>sc__law_webs.nd)<|aP dH (cG<|aA (aP (iN fun _=>rfl) aN<|dX qW (by sleep 988) boot_str<|aA (aC 1) aF) aF)<|iH (N':=(["_law_row"]:Tc)) (cap:=[Y]) (fun _=>rfl) (by sleep 987) (dS (fun _=>rfl)<|aC 2) (aZ 0 (by sleep 989)) gT<|aR (fun _=>uY T) a.le<|aA aN<|aA (aC 0) aF)
   (aM (bB 4 (fun _=>sc__law_webs.nd)<|dX qW (by sleep 988) boot_str<|aA (aC 1) aF)
   (aM (bB 5 (fun _=>sc__law_webs.nd)<|aP dH (aR (fun _=>tJ T) a.le<|aA aN aF)<|cG<|aA aN<|aA aN<|aA (aP (iN fun _=>rfl) (aP (iN fun _=>rfl) aN<|aC 4) aN)<|aA aN aF)
   (aM (bB 5 (fun _=>sc__law_webs.nd)<|aP (aJh fun _=>rfl) (aC 5)<|cG<|aA aN<|aA (aP (iN fun _=>rfl) aN<|aC 4)<|aA aN<|aA aN<|aA aN aF)
   (aM (aIc 5<|vF<|sF (fun _=>rfl) (aC 5)<|aA aN aF)
   (aM (pM (fun _=>S2) (fun _=>rfl) (dS (fun _=>rfl)<|aC 5) (aZ 6 fun _=>sc__law_webs.nd)
    (aM (qF (aR (fun _=>jS T) a.le<|aA (tU (fun _=>rfl) (aC 0) eE<|dF aE)<|aA (aC 3)<|aA (aC 6)<|aA aE aF)<|iF (fun _=>rfl) (fun _=>rfl)<|bL (aZ 7 fun _=>sc__law_webs.nd)<|bL (aZ 8 fun _=>sc__law_webs.nd) eY)
   (aW (jR (cR (wO (fun _=>rfl) fun _=>a.units) (aR (fun _=>dJ T) a.le<|aA aE<|aA (aC 7) aF)<|aC 8)
    (aW<|bJ vO)
    dO))))
   (aM (bB 9 (fun _=>sc__law_webs.nd)<|aP dH (cG<|aA aN aF)<|iH (N':=(["_law_line_here"]:Tc)) (cap:=[Y]) (fun _=>rfl) (by sleep 987) (dS (fun _=>rfl)<|xX (fun _=>rfl) (aC 3) (dF aE) eE) (aZ 0 (by sleep 989)) (SD<|cR (wO (fun _=>rfl) fun _=>a.units) (aDx (aC 0) eE<|dF aE) aN)<|aC 0)
   (aM (qF (aR (fun _=>jS T) a.le<|aA (tU (fun _=>rfl) (aC 0) (dF aE)<|dF aE)<|aA (aP dH (xX (fun _=>rfl) (aC 3) eE<|dF aE)<|aC 9)<|aA aN<|aA aE aF)<|iF (fun _=>rfl) (fun _=>rfl)<|bL (aZ 7 fun _=>sc__law_webs.nd)<|bL (aZ 8 fun _=>sc__law_webs.nd) eY)
   (aM (jR (cR (wO (fun _=>rfl) fun _=>a.units) (aR (fun _=>dJ T) a.le<|aA aE<|aA (aC 7) aF)<|aC 8)
    (aW<|bJ vO)
    dO)
   (aM (qF (aR (fun _=>jS T) a.le<|aA (tU (fun _=>rfl) (aC 0) (dF aE)<|dF aE)<|aA (aP dH (aP dH (xX (fun _=>rfl) (aC 3) eE<|dF aE)<|cG<|aA aN aF)<|xX (fun _=>rfl) (aC 9) (dF aE) eE)<|aA aN<|aA aE aF)<|iF (fun _=>rfl) (fun _=>rfl)<|bL (aZ 7 fun _=>sc__law_webs.nd)<|bL (aZ 8 fun _=>sc__law_webs.nd) eY)
   (aM (jR (cR (wO (fun _=>rfl) fun _=>a.units) (aR (fun _=>dJ T) a.le<|aA aE<|aA (aC 7) aF)<|aC 8)
    (aW<|bJ vO)
    dO)
   (aM (bB 10 (fun _=>sc__law_webs.nd)<|cG<|aA aN<|aA aN<|aA aN<|aA aN<|aA aN<|aA aN<|aA aN<|aA aN<|aA aN aF)
   (aM (pM (fun _=>S2) (fun _=>rfl) (dS (fun _=>rfl)<|aP dH (aC 10)<|cG<|aA aN aF) (aZ 6 fun _=>sc__law_webs.nd)
    (aW (jR (cR (wO (fun _=>rfl) fun _=>a.units) (aR (fun _=>dJ T) a.le<|aA aE<|aA (aP (iN fun _=>rfl) aN<|zM (fun _=>rfl) aN<|aA (aP dH (cG<|aA (aC 6) aF)<|aC 3) aF) aF) aE)
    (aW<|bJ vO)
    dO)))
   (aW (bJ (lD (DW (fun _=>rfl) (fun _=>a.units)) (iH (N':=(["_law_text"]:Tc)) (cap:=[Y]) (fun _=>rfl) (by sleep 987) (dS (fun _=>rfl) (cG (aA aN (aA aN (aA aN (aA aN aF)))))) (aZ 0 (by sleep 989)) gT (aR (fun _=>dJ T) a.le (aA aE (aA (aC 0) aF)))) (cG (aA aE (aA aE (aA aE (aA aE aF)))))))))))))))))))))))
def BW(T:Txt K mg):Callee P w K mg base 1 "_law_lowest" mE (spM K jC):=
 T.v137.okG (N:=sY) (ps:=mE) (k:=0) (b:=mO) sc__law_lowest (by sleep 992) fun f cdv A outer s H E a=>
  (aM (RO 2 3 (fun _=>rfl) (fun _=>sc__law_lowest.nd)<|aA (aC 0)<|aA (aC 1) aF)
   (aM (MU (fun _=>S2) (cR aLB (aC 3) aE)<|aW<|RO 2 3 (fun _=>rfl) (fun _=>sc__law_lowest.nd)<|aA (aC 3)<|aA (aP cV (aC 2)<|aC 3) aF)
   (aW (bJ (dW (aA (aP fK (aC 0) (aC 2)) (aA (aP fK (aC 1) (aC 2)) aF)))))))
def OW(T:Txt K mg):Callee P w K mg base 2 "_law_any" uD (spM K oB):=
 T.v138.okG (N:=CQ) (ps:=uD) (k:=1) (b:=uT) sc__law_any (by sleep 991) fun f cdv A outer s H E a=>
  (aM (bB 1 (fun _=>sc__law_any.nd)<|jU (fun _=>rfl)<|aC 0)
   (aM (bB 2 (fun _=>sc__law_any.nd)<|jU (fun _=>rfl)<|aC 0)
   (aM (bB 3 (fun _=>sc__law_any.nd)<|bP cX (cG<|aA (aP cV (aP fK (aC 1) aE) aE)<|aA (aP cV (aP fK (aC 1) aE) aE)<|aA (aP FR (aP FR (aP LH aE aE) aE)<|aP cV (aP fK (aC 1) aE) aE)<|aA (aP dH (aP GV (aC 1)<|aP LH aE aE)<|aC 2) aF)<|aP cV (aC 1) aE)
   (aM (bB 4 (fun _=>sc__law_any.nd)<|bP cX (cG<|aA aE<|aA aE<|aA (aP dH aE<|aP cV (aP fK (aC 2) aE) aE)<|aA aE<|aA (aP FR (aP FR (aP LH aE aE) aE)<|aP cV (aP fK (aC 2) aE) aE)<|aA (aP dH aE<|aC 2) aF)<|aP cV (aC 2) aE)
   (aW (bJ (aR (fun _=>BW T) a.le (aA (aC 3) (aA (aC 4) aF)))))))))
def EY(T:Txt K mg):Callee P w K mg base 3 "_law_drawn" oU (spM K hZ):=
 T.v139.okG (N:=vU) (ps:=oU) (k:=2) (b:=pG) sc__law_drawn (by sleep 992) fun f cdv A outer s H E a=>
  (aM (bB 2 (fun _=>sc__law_drawn.nd)<|uL aF)
   (aM (pM (fun _=>S2) (fun _=>rfl) (wB (by sleep 988)<|aA (aC 1) aF) (aZ 3 fun _=>sc__law_drawn.nd)
    (aM (bB 4 (fun _=>sc__law_drawn.nd)<|jU (fun _=>rfl)<|aC 0)
   (aW (vF (sF (fun _=>rfl) (aC 2) (aA (dW (aA (aP cV (aC 4) aE) (aA (bP cX (cG (aA (aP cV (aP fK (aC 4) aE) aE) (aA (aP cV (aP fK (aC 4) aE) aE) aF))) (aP cV (aC 3) aE)) (aA (aR (fun _=>OW T) a.le (aA (aC 0) aF)) aF)))) aF))))))
   (aW (bJ (aC 2)))))
def CI(T:Txt K mg):Callee P w K mg base 1 "_law_places" mV (spM K gF):=
 T.v140.okG (N:=tN) (ps:=mV) (k:=0) (b:=nB) sc__law_places (by sleep 992) fun f cdv A outer s H E a=>
  (aM (bB 2 (fun _=>sc__law_places.nd)<|uL aF)
   (aM (pM (fun _=>S2) (fun _=>rfl) (wB (by sleep 988)<|aA (aC 1) aF) (aZ 3 fun _=>sc__law_places.nd)
    (aM (bB 4 (fun _=>sc__law_places.nd)<|jU (fun _=>rfl)<|aC 0)
   (aW (vF (sF (fun _=>rfl) (aC 2) (aA (dX (IB (fun _=>rfl)) (by sleep 988) boot_tuple (aA (iH (N':=(["_law_deck_here","_law_draw","_law_at"]:Tc)) (cap:=[Z 0,Z 4,Y]) (fun _=>rfl) (by sleep 987) (wB (by sleep 988) (aA (aP dH aE (aP cV (aC 4) aE)) aF)) (aZ 2 (by sleep 989)) gT (aP cV (jU (fun _=>rfl) (aC 0)) (bP cX (cG (aA aE (aA aE (aA aE aF)))) (aP cV (aP fK (aC 1) aE) aE)))) aF)) aF))))))
   (aW (bJ (aC 2)))))
def fn_law(T:Txt K mg):∃f fd,mg "law"=Z (.ref f)/\(∀(s:Ub)(u:Tz),BindsTo s fd ⟨[u],[]⟩ [("_law_script",u)])/\∀base,iI P w K mg base CX0 13 f fd aGE (spM K F_law):=
 T.v141.okLG (N:=aHm) (k:=12) (b:=VY) sc_law rfl (by sleep 991) fun base f cdv A outer s H E a=>
  (aM (bB 1 (fun _=>sc_law.nd)<|aR (fun _=>HD T) a.le<|aA (aC 0)<|aA aE aF)
   (aM (jR (kO<|jW<|aR (fun _=>HM T) a.le<|aA (tU (fun _=>rfl) (aC 1) eE<|dF aE) aF)
    (aW<|bJ vO)
    dO)
   (aM (bB 1 (fun _=>sc_law.nd)<|tU (fun _=>rfl) (aC 1) (dF aE) eE)
   (aM (bB 2 (fun _=>sc_law.nd)<|FJ<|aR (fun _=>EY T) a.le<|aA (aC 1)<|aA (aP cV (jU (fun _=>rfl)<|aC 1) aE) aF)
   (aM (bB 3 (fun _=>sc_law.nd)<|FJ<|aR (fun _=>CI T) a.le<|aA (aC 1)<|aA (aP cV (jU (fun _=>rfl)<|aC 1) aE) aF)
   (aM (pM (fun _=>S2) (fun _=>rfl) (dS (fun _=>rfl)<|cG<|aA (dW<|aA aE<|aA aN aF)<|aA (dW<|aA aE<|aA aN aF) aF) (iF (fun _=>rfl) (fun _=>rfl)<|bL (aZ 4 fun _=>sc_law.nd)<|bL (aZ 5 fun _=>sc_law.nd) eY)
    (aM (vW 6 (fun _=>sc_law.nd) (N':=(["_law_word","_law_row"]:Tc)) (cap:=[Z 5,Y]) (fun _=>rfl) (by sleep 987) (dS (fun _=>rfl)<|aC 2) (aZ 1 (by sleep 989)) gT<|aR (fun _=>uY T) a.le<|aA (aC 0)<|aA (aC 1) aF)
   (aW (pM (fun _=>S2) (fun _=>rfl) (dS (fun _=>rfl)<|aP dH (aR (fun _=>tJ T) a.le<|aA (aC 5) aF)<|cG<|aA aN<|aA aN<|aA aN aF) (aZ 7 fun _=>sc_law.nd)
    (aM (qF (aR (fun _=>jS T) a.le<|aA (tU (fun _=>rfl) (aC 1) eE<|dF aE)<|aA (aC 6)<|aA (aC 7)<|aA aE aF)<|iF (fun _=>rfl) (fun _=>rfl)<|bL (aZ 8 fun _=>sc_law.nd)<|bL (aZ 9 fun _=>sc_law.nd) eY)
   (aW (jR (cR (wO (fun _=>rfl) fun _=>a.units) (aR (fun _=>dJ T) a.le<|aA (aC 4)<|aA (aC 8) aF)<|aC 9)
    (aW<|bJ vO)
    dO)))))))
   (aM (vW 6 (fun _=>sc_law.nd) (N':=(["_law_side"]:Tc)) (cap:=[Y]) (fun _=>rfl) (by sleep 987) (dS (fun _=>rfl)<|aC 3) (aZ 0 (by sleep 989)) gT<|zM (fun _=>rfl) aN<|aA (aP dH (cG<|aA aN aF)<|iH (N':=(["_law_place"]:Tc)) (cap:=[Y]) (fun _=>rfl) (fun _=>SW (by decide +kernel)) (dS (fun _=>rfl)<|aC 0) (aZ 0 (by sleep 989)) gT<|dX qW (by sleep 988) boot_str<|aA (aC 0) aF) aF)
   (aM (bB 10 (fun _=>sc_law.nd)<|cG<|aA aN<|aA aN<|aA aN<|aA aN<|aA aN<|aA aN<|aA aN<|aA aN<|aA aN<|aA aN aF)
   (aM (pM (fun _=>S2) (fun _=>rfl) (dS (fun _=>rfl)<|aP dH (aC 10)<|cG<|aA aN aF) (aZ 7 fun _=>sc_law.nd)
    (aM (qF (aR (fun _=>jS T) a.le<|aA (tU (fun _=>rfl) (aC 1) eE<|dF aE)<|aA (aC 6)<|aA (aC 7)<|aA aE aF)<|iF (fun _=>rfl) (fun _=>rfl)<|bL (aZ 8 fun _=>sc_law.nd)<|bL (aZ 9 fun _=>sc_law.nd) eY)
   (aW (jR (cR (wO (fun _=>rfl) fun _=>a.units) (aR (fun _=>dJ T) a.le<|aA aE<|aA (aC 8) aF)<|aC 9)
    (aW<|bJ vO)
    dO))))
   (aW (bJ vO)))))))))))
def txt_mk{R:Tok}{S:Tok}{V:Uc}{I:Uc}{q:Ti}{s:Array (Tg)}{t:Tz}{i:Ti}{k:Array (Tg)}{l:Tz}{z:Ti}{B:Array (Tg)}{C F:Tz}(X:K.In h)(G:h.Ns mainGlobals mg)(v0:W.nsIn K mainGlobals "ValueError"=Z Y)(v1:W.nsIn K mainGlobals "all"=Z Y)(v2:W.nsIn K mainGlobals "bool"=Z Y)(v3:W.nsIn K mainGlobals "enumerate"=Z Y)(v4:W.nsIn K mainGlobals "int"=Z Y)(v5:W.nsIn K mainGlobals "isinstance"=Z Y)(v6:W.nsIn K mainGlobals "len"=Z Y)(v7:W.nsIn K mainGlobals "list"=Z Y)(v8:W.nsIn K mainGlobals "max"=Z Y)(v9:W.nsIn K mainGlobals "min"=Z Y)(ae:W.nsIn K mainGlobals "range"=Z Y)(af:W.nsIn K mainGlobals "sorted"=Z Y)(ag:W.nsIn K mainGlobals "str"=Z Y)(ah:W.nsIn K mainGlobals "tuple"=Z Y)(ai:W.nsIn K mainGlobals "MOST_ABOVE"=Z (Z (.int 1000000000000 N)))(aj:W.nsIn K mainGlobals "BELOW"=Z (Z (.int 55440 O)))(ak:W.nsIn K mainGlobals "MOST_PLACES"=Z (Z (.int 40 Q)))(am:W.nsIn K mainGlobals "DIGITS"=Z (Z (.str "0123456789" R)))(ao:W.nsIn K mainGlobals "MOST_PLACE_DIGITS"=Z (Z (.int 2 S)))(ap:W.nsIn K mainGlobals "MOST_AMOUNT_DIGITS"=Z (Z (.int 30 T)))(a2:W.nsIn K mainGlobals "NoTie"=Z (Z (.ref a)))(aq:W.findIn K (.ref a) "__getattribute__"=Z (Z (.builtin "BaseException.__getattribute__")))(ar:W.findIn K (.ref a) "__getattr__"=Z Y)(au:W.subIn K (.ref a) (.type "BaseException")=Z true)(av:(W.clsIn K a).isSome=true)(aw:W.findIn K (.ref a) "__class__"=Z (Z (.builtin "object.__class__")))(ax:W.specialIn K (.builtin "object.__class__") "__get__"=Z (Z (.builtin "getset_descriptor.__get__")))(ay:W.takesIn K (.builtin "object.__class__")=Z true)(az:W.mroIn K a (.type "object")=Z true)(a3:W.nsIn K mainGlobals "NoLine"=Z (Z (.ref b)))(b0:W.findIn K (.ref b) "__getattribute__"=Z (Z (.builtin "BaseException.__getattribute__")))(b1:W.findIn K (.ref b) "__getattr__"=Z Y)(b2:W.subIn K (.ref b) (.type "BaseException")=Z true)(b3:(W.clsIn K b).isSome=true)(b4:W.findIn K (.ref b) "__class__"=Z (Z (.builtin "object.__class__")))(b5:W.specialIn K (.builtin "object.__class__") "__get__"=Z (Z (.builtin "getset_descriptor.__get__")))(b6:W.takesIn K (.builtin "object.__class__")=Z true)(b7:W.mroIn K b (.type "object")=Z true)(a4:W.nsIn K mainGlobals "NoPlace"=Z (Z (.ref f)))(v39:W.exmOne K (.ref f) (.ref a)=Z false)(v40:W.exmOne K (.ref b) (.ref a)=Z false)(v41:W.exmOne K (.ref a) (.ref a)=Z true)(v42:mH (.ref a)=true)(v43:mH (.ref b)=false)(b8:W.findIn K (.ref b) "__setattr__"=Z (Z (.builtin "object.__setattr__")))(b9:UA K b=true)(ba:W.takerIn K b "at"=Z Y)(bb:W.hasDictIn K b=true)(bc:W.findIn K (.ref b) "at"=Z Y)(bf:W.findIn K (.ref a) "__setattr__"=Z (Z (.builtin "object.__setattr__")))(bg:UA K a=true)(bh:W.takerIn K a "at"=Z Y)(bi:W.hasDictIn K a=true)(bj:W.findIn K (.ref a) "at"=Z Y)(a5:W.nsIn K mainGlobals "read_sides"=Z (Z (.ref U)))(a6:W.nsIn K mainGlobals "read_flow"=Z (Z (.ref V)))(a7:W.nsIn K mainGlobals "read_tree"=Z (Z (.ref a0)))(a8:W.nsIn K mainGlobals "read_web"=Z (Z (.ref a1)))(a9:W.nsIn K mainGlobals "CutError"=Z (Z (.ref I)))(v59:W.exmOne K (.ref f) (.ref I)=Z true)(v60:W.exmOne K (.ref b) (.ref I)=Z true)(v61:W.exmOne K (.ref a) (.ref I)=Z true)(bn:W.findIn K (.ref f) "__getattribute__"=Z (Z (.builtin "BaseException.__getattribute__")))(bo:W.findIn K (.ref f) "__getattr__"=Z Y)(bp:W.subIn K (.ref f) (.type "BaseException")=Z true)(bq:(W.clsIn K f).isSome=true)(br:W.findIn K (.ref f) "__class__"=Z (Z (.builtin "object.__class__")))(bt:W.specialIn K (.builtin "object.__class__") "__get__"=Z (Z (.builtin "getset_descriptor.__get__")))(bu:W.takesIn K (.builtin "object.__class__")=Z true)(bv:W.mroIn K f (.type "object")=Z true)(v70:LU K (.type "ValueError") jD=true)(v71:W.kitOne K (.type "NoneType") (.type "ValueError")=Z false)(v72:LU K (.ref b) sR=true)(v73:W.kitOne K (.type "NoneType") (.ref b)=Z false)(v74:W.keepIn K (.ref a)=true)(v75:BM K a=true)(bw:W.findIn K (.ref a) "__init__"=Z (Z (.ref J)))(bx:K.lookup J=Z ⟨t,q,.func (W.fnOf "__init__" "NoTie.__init__" (dQ fL) (bU fL) (aH fL) .none u v x r d y),s⟩)(bz:W.codeIn K d "NoTie.__init__"=true)(c0:W.keepIn K (.ref J)=true)(c1:W.isFn K (.ref J)=true)(v81:W.keepIn K (.ref b)=true)(v82:BM K b=true)(c2:W.findIn K (.ref b) "__init__"=Z (Z (.ref L)))(c3:K.lookup L=Z ⟨l,i,.func (W.fnOf "__init__" "NoLine.__init__" (dQ eM) (bU eM) (aH eM) .none m n o j c p),k⟩)(c4:W.codeIn K c "NoLine.__init__"=true)(c5:W.keepIn K (.ref L)=true)(c6:W.isFn K (.ref L)=true)(v88:W.excIn K f bmV "ValueError.__new__"=true)(aa:W.nsIn K mainGlobals "Web"=Z (Z (.ref e)))(c7:W.plainGet K e Str.empty=true)(c8:W.hasDictIn K e=true)(c9:W.plainOver K e=true)(ca:W.findIn K (.ref e) "__setattr__"=Z (Z (.builtin "object.__setattr__")))(v94:W.findIn K (.ref e) "many"=Z Y)(v95:W.findIn K (.ref e) "ties"=Z Y)(v96:W.findIn K (.ref e) "weights"=Z Y)(cb:W.findIn K (.ref e) "__init__"=Z (Z (.ref M)))(cc:K.lookup M=Z ⟨C,z,.func (W.fnOf "__init__" "Web.__init__" (dQ iL) (bU iL) (aH iL) .none D E F A g H),B⟩)(cd:W.codeIn K g "Web.__init__"=true)(ab:W.keepIn K (.ref M)=true)(ac:W.isFn K (.ref M)=true)(v102:W.makesIn K e=true)(v103:W.keepIn K (.ref e)=true)(v104:Def K mg "_law_deck" oV)(v105:Def K mg "_law_ties" oE)(v106:Def K mg "_law_number" kU)(v107:Def K mg "_law_line" nW)(v108:Def K mg "_law_wrong" mX)(v109:Def K mg "_law_put" qD)(v110:Def K mg "read_rows" oW)(v111:Def K mg "number_of" oS)(v112:Def K mg "place_of" qJ)(v113:Def K mg "side_in" uC)(v114:Def K mg "said_lines" mU)(v115:Def K mg "read_sides" nF)(v116:Def K mg "common" wQ)(v117:Def K mg "is_whole" rM)(v118:Def K mg "is_row" xN)(v119:Def K mg "is_row_of" pB)(v120:Def K mg "has_amount_numbers" eV)(v121:Def K mg "is_amount" pF)(v122:Def K mg "amount_of" nX)(v123:Def K mg "row_in" xF)(v124:Def K mg "read_flow" oM)(v125:Def K mg "read_tree" oK)(v126:Def K mg "many_in" uH)(v127:Def K mg "is_in_parts" lG)(v128:Def K mg "is_weight" pL)(v129:Def K mg "is_place" qU)(v130:Def K mg "are_unlike_places" fP)(v131:Def K mg "is_between_places" fQ)(v132:Def K mg "is_tie" wW)(v133:Def K mg "kept_ties" pJ)(v134:Def K mg "read_web" rE)(v135:Def K mg "_law_caught" lC)(v136:Def K mg "_law_webs" oH)(v137:Def K mg "_law_lowest" lF)(v138:Def K mg "_law_any" rA)(v139:Def K mg "_law_drawn" mT)(v140:Def K mg "_law_places" kY)(v141:Def K mg "law" PR):Txt K mg:=by
 cases kG a2;cases kG a3;cases kG a4;cases kG a5;cases kG a6;cases kG a7;cases kG a8;cases kG a9;cases kG aa;exact⟨(dA (E9 X G v0)<|dA (E9 X G v1)<|dA (E9 X G v2)<|dA (E9 X G v3)<|dA (E9 X G v4)<|dA (E9 X G v5)<|dA (E9 X G v6)<|dA (E9 X G v7)<|dA (E9 X G v8)<|dA (E9 X G v9)<|dA (E9 X G ae)<|dA (E9 X G af)<|dA (E9 X G ag)<|dA (E9 X G ah) aDp),⟨_,L7 X G ai⟩,⟨_,L7 X G aj⟩,⟨_,L7 X G ak⟩,⟨_,L7 X G am⟩,⟨_,L7 X G ao⟩,⟨_,L7 X G ap⟩,L7 X G a2,⟨⟨aq,ar,au,av⟩,aw,ax,ay,az⟩,L7 X G a3,⟨⟨b0,b1,b2,b3⟩,b4,b5,b6,b7⟩,L7 X G a4,v39,v40,v41,v42,v43,⟨b8,b9,ba,bb,bc⟩,⟨bf,bg,bh,bi,bj⟩,L7 X G a5,L7 X G a6,L7 X G a7,L7 X G a8,L7 X G a9,v59,v60,v61,⟨⟨bn,bo,bp,bq⟩,br,bt,bu,bv⟩,v70,v71,v72,v73,v74,v75,JV rfl bw bx bz c0 c1,v81,v82,JV rfl c2 c3 c4 c5 c6,v88,L7 X G aa,⟨c7,c8,c9,ca⟩,v94,v95,v96,JV rfl cb cc cd ab ac,v102,v103,v104,v105,v106,v107,v108,v109,v110,v111,v112,v113,v114,v115,v116,v117,v118,v119,v120,v121,v122,v123,v124,v125,v126,v127,v128,v129,v130,v131,v132,v133,v134,v135,v136,v137,v138,v139,v140,v141⟩
end
end Q70
end
end
section
namespace Q70
variable{L M M':Sto}{γ γ' γ1 γ2:Ga}{N c d m ps v:Nat}{J a b i j n p y z:Int}{D nm sep w x:Str}{ts us vs:Tw Tie}{as xs:T7}{EK e f f3 f4:EF}{F:FN}{g:GF}{ns:T8}{fa:AF}{ds ys:T5}{r:Ua}{s:Tie}{OV Sd T g10 g4 g6 g7 g8 g9:Tf}
open PySem PySem.Spec PyProof.Rows L2
local macro_rules | `(tactic| simp! [$a,*]) => `(tactic| simp only [fnF, fnX, iG, vM, tK, DK, aLO, sC, VM, aLP, liA, liE, liS, HQ, XJ, aDc, aMh, YR, setG, DP, aJd, bC, sIf, bT, aLE, cN, aY, lQ, hName, gS, bK, gU, hSub, gOr, sV, kX, gB, HL, aEe, aL, aB, aG, aD, fC, fOp, fUn, pT, fOr, aFz, fIf, pC, asB, iC, cA, kR, iO, OT, SX, pI, ifS, aJU, qZ, vC, cD, bO, wU, ltI, leI, gtI, geI, Option.bind_some, Option.bind_none, Option.map_some, List.getElem?_cons_zero, List.getElem?_cons_succ, List.length_cons, List.length_nil, List.set_cons_zero, List.set_cons_succ, List.map_cons, List.map_nil, List.replicate_zero, List.replicate_succ, List.cons_append, List.nil_append, List.append_nil, if_true, ite_true, ite_false, Nat.reduceAdd, Nat.reduceSub, reduceIte, Bool.not_true, Bool.not_false, Bool.false_eq_true, $a,*])
noncomputable def vE:Ua->Bool
 |.int _=>true
 |_=>false
noncomputable def aBP:Ua->Bool
 |.list _=>true
 |.tuple _=>true
 |_=>false
def lE(x:Ua)(M:Sto):gR [.d x] M=Z (.d (.bool (vE x)),M):=by cases x<;>rfl
def aCt(x:Ua)(M:Sto):rC [.d x] M=Z (.d (.bool (aBP x)),M):=by cases x<;>rfl
def jV(d:Ua)(n:Int):Bool:=match cT d with
 |some ds=>((ds.length:Int)==n)
 |none=>false
def gY(x:Ua)(n:Int)(M:Sto):lI [.d x,.d (.int n)] M=Z (.d (.bool (jV x n)),M):=by cases x<;>rfl
def ND(x y:Int):Int.gcd y (x % y)=Int.gcd x y:=by
 rw[Int.gcd_comm x y];have:x % y=x-y*(x / y):=by have:=Int.emod_add_mul_ediv x y;omega
 rw[this];simp
noncomputable abbrev I(n:Int):CD:=.d (.int n)
def jF{x:Int}(h:0<y):rZ x y=true:=by simp[rZ,h]
theorem yF(M:Sto):∀(n:Nat)(x y:Int),0<=x->0<=y->y.toNat<n->
 gA (HL<|aD 1) (EZ 0 1<|aB (aD 1)<|aB (fOp bO (aD 0)<|aD 1) aG) n [Z (I x),Z<|I y] M=Z (.nx [Z (I<|Int.gcd x y),Z<|I 0],M)
 |0=>fun _ _ _ _ h=>by omega
 |n+1=>fun x y q l h=>by
  by_cases e:y=0
  .subst e;have:(Int.gcd x 0:Int)=x:=by rw[Int.gcd_zero_right];omega
   rw[this];rfl
  .have k:0<y:=by omega
   have ih:=yF M n y (x % y) l (D6 _ e) (by have:=D4 x k;omega);rw[ND]at ih;rw[<- ih];have o:(y != 0)=true:=by simp[e]
   simp only[gA,HL,aD,aEe,EZ,aB,fOp,aG,bO,pI,ifS,jF k,o,Option.bind,List.getElem?_cons_succ,List.getElem?_cons_zero,if_true,List.set]
def LR(M:Sto)(ha:0<=a)(k:0<=b):qX [I a,I b] M=Z (I<|Int.gcd a b,M):=by
 have h:uF [Z (I a),Z<|I b] M=_:=MC<|yF M (b.toNat+1) a b ha k<|S1 _;show((bC uF _ [Z (I a),Z<|I b] M).bind _)=_;unfold bC;rw[h];rfl
noncomputable abbrev B(b:Bool):CD:=.d (.bool b)
def qL(d:Ua):Bool:=match cT d with
 |some [.int a,.int b]=>decide (0<=a)&&decide (1<=b)
 |_=>false
def aDq{x:Ua}(h:jV x 2=true):∃a b,x=.list [a,b]\/x=.tuple [a,b]:=by
 unfold jV at h;cases x with
 |list ds=>
  have h:((ds.length:Int)==2)=true:=h;rcases ds with _|⟨a,_|⟨b,_|⟨c,r⟩⟩⟩
  .simp at h
  .simp at h
  .exact⟨a,b,.inl rfl⟩
  .simp at h;omega
 |tuple ds=>
  have h:((ds.length:Int)==2)=true:=h;rcases ds with _|⟨a,_|⟨b,_|⟨c,r⟩⟩⟩
  .simp at h
  .simp at h
  .exact⟨a,b,.inr rfl⟩
  .simp at h;omega
 |_=>simp[cT]at h
def PL{x:Ua}(h:jV x 2=false):qL x=false:=by
 unfold qL;unfold jV at h;cases q:cT x with
 |none=>rfl
 |some ds=>
  rw[q]at h;rcases ds with _|⟨a,_|⟨b,_|⟨c,r⟩⟩⟩
  .rfl
  .cases a<;>rfl
  .simp at h
  .cases a<;>cases b<;>rfl
def aMB{a b:Ua}:ixF (.d (.list [a,b])) (I 0) M=Z (.d a,M):=rfl
def aMv{a b:Ua}:ixF (.d (.list [a,b])) (I 1) M=Z (.d b,M):=rfl
def aMe{a b:Ua}:ixF (.d (.tuple [a,b])) (I 0) M=Z (.d a,M):=rfl
def aMm{a b:Ua}:ixF (.d (.tuple [a,b])) (I 1) M=Z (.d b,M):=rfl
def aLF{p:Bool}:(if p=true then Z (B q,M)else Z (B false,M))=Z (B (p&&q),M):=by cases p<;>rfl
def cY(x:Ua)(M:Sto):bQ [.d x] M=Z (B<|qL x,M):=by
 cases h:jV x 2 with
 |false=>
  rw[PL h];simp![bQ,cW,gY,h]
 |true=>
  obtain⟨a,b,rfl|rfl⟩:=aDq h
  .cases a<;>cases b<;>first|rfl|(rename_i a b;simp![bQ,cW,gY,h,lE,aMB,aMv,vE,aLF];rfl)
  .cases a<;>cases b<;>first|rfl|(rename_i a b;simp![bQ,cW,gY,h,lE,aMe,aMm,vE,aLF];rfl)
noncomputable def P(k:Bool)(a b:Int):Ua:=if k then .list [.int a,.int b]else .tuple [.int a,.int b]
def aDt:ixF (.d (P k a b)) (I 0) M=Z (I a,M):=by cases k<;>rfl
def aFL:ixF (.d (P k a b)) (I 1) M=Z (I b,M):=by cases k<;>rfl
def ZW:eqX false (I i) (I j) M=Z (B (i==j),M):=rfl
def aFN:eqX true (I i) (I j) M=Z (B (!(i==j)),M):=rfl
def yG:bV (I i) (I j) M=Z (I (i+j),M):=rfl
def aBo:qL (P k a b)=(decide (0<=a)&&decide (1<=b)):=by cases k<;>rfl
def aMx(n m:Nat):((n:Int)==(m:Int))=(n==m):=by
 rw[Z2];simp;omega
noncomputable def iK(a b:Int):Bool:=decide (0<=a)&&decide (1<=b)&&(55440 % b==0)&&(Int.gcd a b==1)&&decide (a<=1000000000000)
def tO(k:Bool)(a b:Int)(M:Sto):dG [.d (P k a b)] M=Z (B (decide (0<=a)&&decide (1<=b)&&(55440 % b==0)&&(Int.gcd a b==1)),M):=by
 cases h:(decide (0<=a)&&decide (1<=b))with
 |false=>
  simp![dG,eQ,cY,aBo,h,Bool.false_and]
 |true=>
  have l:=h;rw[D2]at h;have q:=D8 h.1;have t:=D8 h.2;have hm:rZ 55440 b=true:=jF (by omega);cases o:(55440 % b==0)with
  |false=>simp![dG,eQ,cY,aBo,l,aDt,aFL,hm,ZW,o,Bool.true_and,Bool.false_and]
  |true=>
   simp![dG,eQ,cY,aBo,l,aDt,aFL,hm,ZW,o,Bool.true_and,LR M q<|Int.le_trans (by decide) t];rw[show(1:Int)=((1:Nat):Int)from rfl,aMx]
def LM(k:Bool)(a b:Int)(M:Sto):fI [.d (P k a b)] M=Z (B<|iK a b,M):=by
 cases h:(decide (0<=a)&&decide (1<=b)&&(55440 % b==0)&&(Int.gcd a b==1))with
 |false=>
  have e:iK a b=false:=by unfold iK;rw[h];rfl
  rw[e];simp![fI,jM,tO,h]
 |true=>
  have e:iK a b=decide (a<=1000000000000):=by unfold iK;rw[h];rfl
  rw[e];simp![fI,jM,tO,h,aDt]
theorem DV(M:Sto)(a b:Int):∀(n:Nat)(x y:Int),0<=x->0<=y->y.toNat<n->
 gA (gB<|fOp gtI (aD 3)<|fC (.int 0)) (EZ 2 3<|aB (aD 3)<|aB (fOp bO (aD 2)<|aD 3) aG) n [Z (I a),Z<|I b,Z<|I x,Z<|I y] M=Z (.nx [Z (I a),Z<|I b,Z<|I<|Int.gcd x y,Z<|I 0],M)
 |0=>fun _ _ _ _ h=>by omega
 |n+1=>fun x y q l h=>by
  by_cases e:y=0
  .subst e;have:(Int.gcd x 0:Int)=x:=by rw[Int.gcd_zero_right];omega
   rw[this];rfl
  .have k:0<y:=by omega
   have ih:=DV M a b n y (x % y) l (D6 _ e) (by have:=D4 x k;omega);rw[ND]at ih;rw[<- ih];have o:decide (0<y)=true:=D9 k;simp![gA,EZ,jF k,o]
def UQ(h:1<=b):1<=(Int.gcd a b:Int):=by
 have:Int.gcd a b≠0:=fun z=>by have:=(Int.gcd_eq_zero_iff.mp z).2;omega
 omega
def aJV(h:1<=b):(Int.gcd a b:Int)<=b:=Int.le_of_dvd (by omega)<|Int.gcd_dvd_right a b
def wsm(h:0<=y)(l:y<2 ^ 200):y.natAbs<yJ:=by
 have k:y.natAbs<2 ^ 200:=by omega
 exact C5 k<|Nat.pow_le_pow_right (by decide) (by decide)
def zI{x:Int}(h:0<y)(k:y.natAbs<yJ):yB x y=true:=by simp[yB,h,k]
def aCy(M:Sto)(ha:0<=a)(k:1<=b)(l:b.natAbs<yJ):jC [I a,I b] M=Z (.d (.tuple [.int (a / (Int.gcd a b:Int)),.int (b / (Int.gcd a b:Int))]),M):=by
 have h:pQ [Z (I a),Z<|I b,Z<|I a,Z<|I b] M=_:=MC<|DV M a b (b.toNat+1) a b ha (by omega)<|S1 _;have q:=UQ (a:=a) k;have t:=aJV (a:=a) k;have o:∀x,yB x (Int.gcd a b:Int)=true:=fun x=>zI (by omega)<|Nat.lt_of_le_of_lt (by omega) l;have sz:(2:Nat)<=sizeLine:=by decide
 simp![jC,mO,EZ,h,o,sz]
def aLA(h:iK a b=true):0<=a/\a<=1000000000000/\1<=b/\b<=55440:=by
 unfold iK at h;simp only[Bool.and_eq_true,decide_eq_true_eq,beq_iff_eq]at h;obtain⟨⟨⟨⟨k,l⟩,o⟩,_⟩,q⟩:=h;exact⟨k,q,l,Int.le_of_dvd (by decide)<|Int.dvd_of_emod_eq_zero o⟩
def kE(x:Ua):Bool:=match cT x with
 |some [.int a,.int b]=>iK a b
 |_=>false
noncomputable def R2'(k:Bool)(p q:Ua):Ua:=if k then .list [p,q]else .tuple [p,q]
def aAo(k:Bool)(p q:Ua):cT (R2' k p q)=Z [p,q]:=by cases k<;>rfl
def aEo{x:Ua}(h:jV x 2=true):∃k p q,x=R2' k p q:=by
 obtain⟨a,b,rfl|rfl⟩:=aDq h
 .exact⟨true,a,b,rfl⟩
 .exact⟨false,a,b,rfl⟩
def aFS{x:Ua}(h:qL x=true):∃k a b,x=P k a b:=by
 have l:jV x 2=true:=by
  cases e:jV x 2 with
  |true=>rfl
  |false=>rw[PL e]at h;cases h
 obtain⟨k,p,q,rfl⟩:=aEo l;unfold qL at h;rw[aAo]at h;cases p<;>cases q<;>first|exact⟨k,_,_,rfl⟩|simp at h
def aFm(k:Bool)(a b:Int):kE (P k a b)=iK a b:=by cases k<;>rfl
def LX{x:Ua}(h:qL x=false):kE x=false:=by
 unfold qL at h;unfold kE;split
 .rename_i a b e;rw[e]at h;dsimp only at h;unfold iK;rw[h];rfl
 .rfl
def MN(x:Ua)(M:Sto):fI [.d x] M=Z (B<|kE x,M):=by
 cases h:qL x with
 |false=>
  rw[LX h];have e:dG [.d x] M=Z (B false,M):=by simp![dG,eQ,cY,h]
  simp![fI,jM,e]
 |true=>
  obtain⟨k,a,b,rfl⟩:=aFS h;rw[aFm];exact LM k a b M
theorem qG:∀ds:T5,iO (ds.map .d)=Z ds
 |[]=>rfl
 |d::ds=>by
  show(iO<|ds.map .d).map (d::·)=_;rw[qG ds];rfl
structure Tie where
 i:Int
 j:Int
 a:Int
 b:Int
deriving DecidableEq
noncomputable def Tie.key(t:Tie):Tw Key:=[.inl t.i,.inl t.j]
noncomputable def Tie.val(t:Tie):CD:=.d (.tuple [.int t.a,.int t.b])
def cJ(ts:Tw Tie):Tw (Tw Key×CD):=ts.map fun t=>(t.key,t.val)
def aFX{ts:Tw Tie}{t:Tie}(h:∀s∈ts,s.key≠t.key):lkC (cJ ts) t.key=Y:=by
 unfold lkC cJ;rw[List.find?_map];have:List.find? ((fun k=>decide (k.1=t.key)) ∘ fun s:Tie=>(s.key,s.val)) ts=Y:=List.find?_eq_none.mpr fun s hs=>by simpa using h s hs
 rw[this];rfl
def aFp{ts:Tw Tie}{t:Tie}(h:∀s∈ts,s.key≠t.key):putD (cJ ts) t.key t.val=cJ (ts++[t]):=by
 unfold putD
 have:((cJ ts).any fun k=>decide (k.1=t.key))=false:=by
  rw[cJ,List.any_map];exact List.any_eq_false.mpr fun s hs=>by simpa using h s hs
 rw[this,B0 B2];unfold cJ;rw[D5];rfl
def sz{n:Nat}(hn:n<=1000):n<=sizeLine:=by rw[O6];exact E7 hn (by decide)
def z1:(1:Nat)<=sizeLine:=sz (by decide)
noncomputable def f1(t:Tie):T5:=[.tuple [.int t.i,.int t.j],.tuple [.int t.a,.int t.b]]
noncomputable def f2(t:Tie):T5:=[.int t.i,.int t.j,.tuple [.int t.a,.int t.b]]
def AZ{f:Tie->T5}{i:Nat}(h:i<us.length):(us.map f).getD i []=f us[i]:=by grind
noncomputable def t0:Tie:=⟨0,0,0,0⟩
def ZD(us:Tw Tie):(List.range us.length).map (fun i=>us.getD i t0)=us:=by
 refine List.ext_getElem? fun i=>?_;rw[F8];by_cases h:i<us.length
 .rw[List.getElem?_range h,D7 h];show Z (us.getD i t0)=_;rw[E6,D7 h];rfl
 .rw[A0e (by grind),A0e (by omega)];rfl
def PZ{i:Nat}(h:i<us.length):us.getD i t0=us[i]:=by grind
def HG{f:AF}{c:TF}{M1 M2:Sto}(it:f γ M=Z (xs,M1))(k:xs.length<=sizeLine)(e:lcF g c h xs (pV cap γ) M1=Z (ds.map .d,M2))(hd:ds.length<=sizeLine):fLc cap f g c h γ M=Z (.d (.list ds),M2):=by
 have l:LW cap f g c h γ M=Z (ds.map .d,M2):=by
  unfold LW;rw[it,A1,A4 k];exact e
 show(LW cap f g c h γ M).bind _=_;rw[l,A1,qG,A1,A4 hd]
def gX(us:Tw Tie):T5:=us.map fun t=>.tuple (f2 t)
def Ok(n:Int)(us:Tw Tie):Prop:=(∀t∈us,iK t.a t.b=true/\0<=t.i/\t.i<t.j/\t.j<n)/\(us.map Tie.key).Nodup/\us.length<64
def aIh{fs:Tv}:objOf "Web" (M++(.obj "Web" fs::L)) (.c M.length)=Z (M.length,fs):=by
 have:(M++(Cell.obj "Web" fs::L))[M.length]?=Z (.obj "Web" fs):=by simp
 simp only[objOf,this,if_true]
def xQ{c c':Cell}:(M++(c::L)).set M.length c'=M++(c'::L):=by grind
noncomputable def R3(k:Bool)(p q w:Ua):Ua:=if k then .list [p,q,w]else .tuple [p,q,w]
def vX(k:Bool)(p q w:Ua):cT (R3 k p q w)=Z [p,q,w]:=by cases k<;>rfl
def aEd{x:Ua}(h:jV x 3=true):∃k p q w,x=R3 k p q w:=by
 have l:∀ds:T5,((ds.length:Int)==3)=true->∃p q w,ds=[p,q,w]:=fun ds h=>by
  match ds,h with
  |[p,q,w],_=>exact⟨p,q,w,rfl⟩
  |[],h=>exact absurd h (by decide)
  |[_],h=>exact absurd h (by simp)
  |[_,_],h=>exact absurd h (by simp)
  |_::_::_::_::r,h=>
   have:((r.length+1+1+1+1:Nat):Int)=3:=by grind
   omega
 cases x with
 |list ds=>obtain⟨p,q,w,rfl⟩:=l ds h;exact⟨true,p,q,w,rfl⟩
 |tuple ds=>obtain⟨p,q,w,rfl⟩:=l ds h;exact⟨false,p,q,w,rfl⟩
 |_=>cases h
noncomputable def plc(n:Int):Ua->Bool
 |.int i=>decide (0<=i)&&decide (i<n)
 |_=>false
def uO(n:Int)(p:Ua)(M:Sto):jB [I n,.d p] M=Z (B<|plc n p,M):=by
 cases h:vE p with
 |false=>
  have e:plc n p=false:=by cases p<;>first|rfl|cases h
  rw[e];simp![jB,oG,lE,h]
 |true=>
  obtain⟨i,rfl⟩:∃i,p=.int i:=by cases p<;>first|exact⟨_,rfl⟩|cases h
  have k:plc n (.int i)=(decide (0<=i)&&decide (i<n)):=rfl;rw[k];cases l:decide (0<=i)<;>simp![jB,oG,lE,h,l,Bool.true_and,Bool.false_and]
def ulk(n:Int)(p q:Ua):Bool:=match p,q with
 |.int i,.int j=>plc n p&&(plc n q&&!(i==j))
 |_,_=>false
def zL{p:Ua}(h:plc n p=true):∃i,p=.int i/\0<=i/\i<n:=by
 cases p with
 |int i=>simp only[plc,Bool.and_eq_true,decide_eq_true_eq]at h;exact⟨i,rfl,h.1,h.2⟩
 |_=>cases h
def aGX(n:Int)(p q:Ua)(M:Sto):cO [I n,.d p,.d q] M=Z (B<|ulk n p q,M):=by
 cases h:plc n p with
 |false=>
  have e:ulk n p q=false:=by
   unfold ulk;split
   .rw[h];rfl
   .rfl
  rw[e];simp![cO,dE,uO,h]
 |true=>
  obtain⟨i,rfl,_⟩:=zL h;cases k:plc n q with
  |false=>
   have e:ulk n (.int i) q=false:=by
    unfold ulk;split
    .rw[k,Bool.false_and,Bool.and_false]
    .rfl
   rw[e];simp![cO,dE,uO,h,k]
  |true=>
   obtain⟨j,rfl,_⟩:=zL k;have e:ulk n (.int i) (.int j)=!(i==j):=by show(plc n (.int i)&&(plc n (.int j)&&!(i==j)))=_;rw[h,k];rfl
   rw[e];simp![cO,dE,uO,h,k,aFN]
def gG(n:Int)(r:Ua):Tx Tie:=match cT r with
 |some [.int i,.int j,w]=>match cT w with
  |some [.int a,.int b]=>if 0<=i/\i<j/\j<n/\iK a b=true then Z ⟨i,j,a,b⟩else Y
  |_=>Y
 |_=>Y
def YO{w:Ua}(h:kE w=true):∃a b,cT w=Z [.int a,.int b]/\iK a b=true:=by
 unfold kE at h;split at h
 .rename_i a b e;exact⟨a,b,e,h⟩
 .cases h
def UC{w:Ua}(k:cT r=Z [.int i,.int j,w])(l:cT w=Z [.int a,.int b])(h:0<=i/\i<j/\j<n/\iK a b=true):gG n r=Z ⟨i,j,a,b⟩:=by
 unfold gG;rw[k];dsimp only;rw[l];dsimp only;rw[A4 h]
def rD{t:Tie}(h:gG n r=Z t):∃w,cT r=Z [.int t.i,.int t.j,w]/\cT w=Z [.int t.a,.int t.b]/\0<=t.i/\t.i<t.j/\t.j<n/\iK t.a t.b=true:=by
 unfold gG at h;split at h
 .rename_i i j w k;split at h
  .rename_i a b l;split at h
   .rename_i c;cases h;exact⟨w,k,l,c⟩
   .cases h
  .cases h
 .cases h
def ix3(k:Bool)(p q w:Ua)(M:Sto):ixF (.d (R3 k p q w)) (I 0) M=Z (.d p,M)/\ixF (.d (R3 k p q w)) (I 1) M=Z (.d q,M)/\ixF (.d (R3 k p q w)) (I 2) M=Z (.d w,M):=by cases k<;>exact⟨rfl,rfl,rfl⟩
def OR(n:Int)(r:Ua)(M:Sto):kS [I n,.d r] M=Z (B (gG n r).isSome,M):=by
 cases A:jV r 3 with
 |false=>
  have e:gG n r=Y:=by
   cases h:gG n r with
   |none=>rfl
   |some t=>
    obtain⟨w,l,_⟩:=rD h;unfold jV at A;rw[l]at A;cases A
  have u:bS [I n,.d r] M=Z (B false,M):=by
   simp![bS,dD,gY,A]
  rw[e];simp![kS,nM,u,Option.isSome_none]
 |true=>
  obtain⟨k,p,q,w,rfl⟩:=aEd A;obtain⟨K,x1,P⟩:=ix3 k p q w M;cases o:ulk n p q with
  |false=>
   have e:gG n (R3 k p q w)=Y:=by
    cases h:gG n (R3 k p q w)with
    |none=>rfl
    |some t=>
     obtain⟨O,l,_,G,E,jn,_⟩:=rD h;rw[vX]at l;cases l
     have:ulk n (.int t.i) (.int t.j)=true:=by
      have ne:(!(t.i==t.j))=true:=by grind
      show(plc n (.int t.i)&&(plc n (.int t.j)&&!(t.i==t.j)))=true;rw[ne];simp only[plc,decide_eq_true G,decide_eq_true jn,decide_eq_true (show t.i<n by omega),decide_eq_true (show(0:Int)<=t.j by omega),Bool.true_and]
     rw[this]at o;cases o
   have u:bS [I n,.d (R3 k p q w)] M=Z (B false,M):=by
    simp![bS,dD,gY,A,K,x1,aGX,o]
   rw[e];simp![kS,nM,u,Option.isSome_none]
  |true=>
   obtain⟨i,j,rfl,rfl,G,jn⟩:∃i j,p=.int i/\q=.int j/\0<=i/\j<n:=by
    unfold ulk at o;split at o
    .rename_i i j;rw[D2,D2]at o;obtain⟨i',Q,R,_⟩:=zL o.1;obtain⟨j',S,_,U⟩:=zL o.2.1;cases Q;cases S;exact⟨i,j,rfl,rfl,R,U⟩
    .cases o
   have u:bS [I n,.d (R3 k (.int i) (.int j) w)] M=Z (B<|decide (i<j),M):=by
    simp![bS,dD,gY,A,K,x1,aGX,o]
   cases E:decide (i<j)with
   |false=>
    have e:gG n (R3 k (.int i) (.int j) w)=Y:=by
     cases h:gG n (R3 k (.int i) (.int j) w)with
     |none=>rfl
     |some t=>
      obtain⟨O,l,_,_,z,_⟩:=rD h;rw[vX]at l;cases l;exact absurd z<|O5 E
    rw[E]at u;rw[e];simp![kS,nM,u,Option.isSome_none]
   |true=>
    rw[E]at u
    have e:(gG n<|R3 k (.int i) (.int j) w).isSome=kE w:=by
     cases C:kE w with
     |true=>
      obtain⟨a,b,V,W⟩:=YO C;rw[UC (vX ..) V ⟨G,D8 E,jn,W⟩];rfl
     |false=>
      cases h:gG n (R3 k (.int i) (.int j) w)with
      |none=>rfl
      |some t=>
       obtain⟨O,l,X,_,_,_,H⟩:=rD h;rw[vX]at l;cases l;unfold kE at C;rw[X]at C;dsimp only at C;rw[H]at C;cases C
    rw[e];simp![kS,nM,u,P,MN]
def Tie.lt(s t:Tie):Prop:=s.i<t.i\/(s.i=t.i/\s.j<t.j)
noncomputable instance(s t:Tie):Decidable (Tie.lt s t):=by unfold Tie.lt;infer_instance
def key_ne{t:Tie}(h:s.key≠t.key):¬(s.i=t.i/\s.j=t.j):=fun⟨a,b⟩=>h (by unfold Tie.key;rw[a,b])
def Tie.lt_tot{t:Tie}(h:s.key≠t.key)(n:¬Tie.lt t s):Tie.lt s t:=by
 have:=key_ne h;unfold Tie.lt at n ⊢;omega
structure TR(f:Tie->T5):Prop where
 sh:∀t,(f t).all SeqAt.shaped=true
 on:∀t,dM (f t)=true
 hd:∀us:Tw Tie,(nH (us.map f) || tF (us.map f))=true
 lt:∀s t,s.key≠t.key->eA (f s) (f t)=Z (decide<|Tie.lt s t)
 eq:∀s,(eA (f s)<|f s).isSome=true
noncomputable def f0(t:Tie):T5:=[.int t.i,.int t.j]
def rf0:TR f0:=by
 refine⟨fun t=>rfl,fun t=>rfl,fun us=>?_,fun s t h=>?_,fun s=>?_⟩
 .rw[Bool.or_eq_true];exact .inl (by unfold nH;rw[List.all_map];exact List.all_eq_true.mpr fun t _=>rfl)
 .have k:=key_ne h;show(if (s.i==t.i)=true then(if (s.j==t.j)=true then eA [] []else Z<|decide (s.j<t.j))else Z<|decide (s.i<t.i))=_;by_cases e:s.i=t.i
  .have l:¬s.j=t.j:=fun q=>k ⟨e,q⟩;rw[A4 (by simpa using e),B0 (by simpa using l)];congr 1;exact decide_eq_decide.mpr ⟨fun q=>.inr ⟨e,q⟩,fun q=>by rcases q with q|q<;>omega⟩
  .rw[B0 (by simpa using e)];congr 1;exact decide_eq_decide.mpr ⟨fun q=>.inl q,fun q=>by rcases q with q|q<;>omega⟩
 .show(if (s.i==s.i)=true then(if (s.j==s.j)=true then eA [] []else Z<|decide (s.j<s.j))else Z<|decide (s.i<s.i)).isSome=true;simp only[beq_self_eq_true,if_true];rfl
def aHf(nd:(us.map Tie.key).Nodup){i j:Nat}(hi:i<us.length)(k:j<us.length)(h:i≠j):us[i].key≠us[j].key:=fun q=>by
 have:=(List.getElem_inj (h₀:=by rw[A3];exact hi) (h₁:=by rw[A3];exact k) nd).mp (by rw[List.getElem_map,List.getElem_map];exact q);exact h this
def aMA{f:Tie->T5}(R:TR f)(nd:(us.map Tie.key).Nodup)(l:2<=us.length)(k:us.length<64):sortable (us.map f)=true:=by
 unfold sortable;rw[A3,D9 l,D9 k,R.hd us,Bool.true_and,Bool.true_and,Bool.and_true,D2];refine⟨List.all_eq_true.mpr fun r o=>?_,List.all_eq_true.mpr fun i hi=>List.all_eq_true.mpr fun j h=>?_⟩
 .obtain⟨t,_,rfl⟩:=List.mem_map.mp o;rw[R.sh,R.on];rfl
 .have hi:=List.mem_range.mp hi;have h:=List.mem_range.mp h;rw[AZ hi,AZ h];by_cases q:i=j
  .subst q;exact R.eq _
  .rw[R.lt _ _ (aHf nd hi h q)];rfl
def aEM{f:Tie->T5}(R:TR f){i j:Nat}(hi:i<us.length)(h:j<us.length)(k:us[i].key≠us[j].key):iQ (us.map f) i j=decide (Tie.lt us[i] us[j]):=by
 unfold iQ;rw[AZ hi,AZ h,R.lt _ _ k];rfl
def YY{f:Tie->T5}(R:TR f)(nd:(us.map Tie.key).Nodup)(k:us.length<64):∃vs:Tw Tie,vs.Perm us/\vs.Pairwise Tie.lt/\rR (us.map f)=Z (vs.map fun t=>.tuple (f t))/\(2<=us.length->WJ (us.map f)=vs.map fun t=>.tuple (f t))/\(us.length<2->vs=us):=by
 by_cases l:2<=us.length
 .have E:=aMA R nd l k;have pm:=rH (n:=(us.map f).length) (iQ<|us.map f) (by rw[A3];omega);have G:=EH E;rw[A3]at pm G;have mem:∀i∈fH (iQ<|us.map f) us.length,i<us.length:=fun i hi=>List.mem_range.mp (pm.mem_iff.mp hi)
  have H:WJ (us.map f)=((fH (iQ<|us.map f) us.length).map fun i=>us.getD i t0).map fun t=>.tuple (f t):=by
   unfold WJ;rw[A3,D3];refine U7 fun i hi=>?_;show PyData.tuple ((us.map f).getD i [])=.tuple (f<|us.getD i t0);rw[AZ (mem i hi),PZ<|mem i hi]
  refine⟨(fH (iQ<|us.map f) us.length).map fun i=>us.getD i t0,?_,?_,?_,fun _=>H,fun q=>by omega⟩
  .have:=pm.map fun i=>us.getD i t0
   rwa [ZD]at this
  .rw[List.pairwise_map];have o:(fH (iQ<|us.map f) us.length).Nodup:=pm.nodup_iff.mpr List.nodup_range;have len:(fH (iQ<|us.map f) us.length).length=us.length:=by rw[pm.length_eq,List.length_range]
   rw[List.pairwise_iff_getElem];intro a b ha u A;have B:=mem _<|Y8 ha;have C:=mem _<|Y8 u
   have g:∀c (h:c<(fH (iQ<|us.map f) us.length).length),(YU (iQ<|us.map f)<|W.kas_sort us.length).getD c 0=(fH (iQ<|us.map f) us.length)[c]:=fun c h=>by
    unfold fH at h ⊢;rw[A0n]at h;simp[Array.getD,h]
   have s1:=G a b A (by rw[<- len];exact u);rw[g a ha,g b u]at s1
   have ne:(fH (iQ<|us.map f) us.length)[b]≠(fH (iQ<|us.map f) us.length)[a]:=fun q=>by
    have:=(List.getElem_inj o).mp q;omega
   have I:=aHf nd C B ne;rw[aEM R C B I]at s1;rw[PZ B,PZ C];exact Tie.lt_tot (O1 I)<|O5 s1
  .unfold rR;rw[E,A4 rfl,H]
 .have K:us.length<2:=by omega
  refine⟨us,.refl _,?_,?_,fun q=>absurd q l,fun _=>rfl⟩
  .match us,K with
   |[],_=>exact .nil
   |[t],_=>exact List.pairwise_singleton _ _
  .unfold rR
   have:sortable (us.map f)=false:=by
    unfold sortable;rw[A3,E3 l];rfl
   rw[this,B0 B2,A3,A4 K,D3];rfl
abbrev Inn(n:Nat)(p:Int):Prop:=0<=p/\p<n
def pA{l:Type}{xs:Tw l}{k:Nat}{x:l}(h:xs[k]?=Z x):atI xs (k:Int)=Z x:=by
 have o:=(List.getElem?_eq_some_iff.mp h).1;unfold atI ixN;rw[A4 (Int.natCast_nonneg k),A4 (by omega),A1,Y2,h]
def aU{f g:SF}(h:f γ M=Z (.nx γ',M')):bC f g γ M=g γ' M':=by
 unfold bC;rw[h,A1]
def bM{i:Nat}{x:CD}(h:f γ M=Z (x,M')):aY f (hName i) γ M=Z (.nx (γ.set i<|Z x),M'):=by
 unfold aY;rw[h,A1];rfl
def iS{b:SF}{x:CD}(h:xs.length=ps)(k:b (xs.map Z++List.replicate (N-xs.length) Y) M=Z (.rt x,M')):fnF ps N b xs M=Z (x,M'):=by
 unfold fnF;rw[A4 h,k,A1]
def pD{f:AF}{b:SF}{M1:Sto}{r:Tx (Out×Sto)}(h:f γ M=Z (xs,M1))(k:sW g b xs γ M1=r):rS f g b γ M=r:=by
 unfold rS;rw[h,A1];exact k
def qS{b:SF}{x:CD}{M1 M2:Sto}(h:g x γ M=Z (γ1,M1))(k:b γ1 M1=Z (.nx γ2,M2)):sW g b (x::xs) γ M=sW g b xs γ2 M2:=by
 conv=>lhs;unfold sW
 rw[h,A1];dsimp only;rw[k,A1]
def aEn{h:Type}{ds:Tw h}{lo hi:Tl}:∀x∈eN ds lo hi,x∈ds:=fun x k=>by
 exact Y7<|S7 k
def sl_tup{lo:Tl}:slF (.d (.tuple ds)) lo hi M=Z (.d (.tuple (eN ds lo hi)),M):=rfl
def aEB{xs:T5}(k:xs.length+ys.length<=1000):bV (.d (.tuple xs)) (.d (.tuple ys)) M=Z (.d (.tuple (xs++ys)),M):=by
 cases xs with
 |nil=>rfl
 |cons x xs=>
  have h:(x::xs:T5)≠[]/\(x::xs).length+ys.length<=sizeLine:=⟨by simp,sz k⟩;show(if (x::xs:T5)≠[]/\(x::xs).length+ys.length<=sizeLine then Z (CD.d (.tuple (x::xs++ys)),M)else Y)=_;rw[A4 h]
def IQ{l:Type}{ds:Tw l}{k m:Int}(hm:0<m)(t:(ds.length:Int)=m):∃d,atI ds (k % m)=Z d/\d∈ds:=by
 have u:=D6 k (show m≠0 by omega);have A:=D4 k hm;have h:(k % m).toNat<ds.length:=by omega
 obtain⟨q,o⟩:∃q:Nat,k % m=(q:Nat):=⟨(k % m).toNat,by omega⟩;rw[o]at h ⊢;exact⟨ds[q],pA<|D7 h,Y8 h⟩
abbrev cI(xs:T8):Cell:=.lst (xs.map fun i=>I i)
def Li(M:Sto)(c:Nat)(xs:T8):Prop:=M[c]?=Z (cI xs)
structure Oth(c:Nat)(M M':Sto):Prop where
 len:M'.length=M.length
 at_:∀i,i≠c->M'[i]?=M[i]?
def Li.lt{xs:T8}(h:Li M c xs):c<M.length:=(List.getElem?_eq_some_iff.mp h).1
def Li.set{xs ys:T8}(h:Li M c xs):Li (M.set c<|cI ys) c ys/\Oth c M (M.set c<|cI ys):=
 ⟨by unfold Li;rw[F7 h.lt],by rw[Z3],fun i hi=>by rw[O9 (O1 hi)]⟩
def Li.oth{xs:T8}(h:Li M c xs)(o:Oth d M M')(ne:c≠d):Li M' c xs:=by unfold Li;rw[o.at_ c ne];exact h
def Li.app{xs:T8}(h:Li M c xs):Li (M++L) c xs:=by unfold Li;rw[S6 h.lt];exact h
def Li.ty{xs:T8}(h:Li M c xs):tyB "list" M (.c c)=true:=by
 unfold Li at h;simp only[tyB,h];decide
def Li.ln{xs:T8}(h:Li M c xs):hV [.c c] M=Z (I xs.length,M):=by
 unfold Li at h;simp only[hV,h,List.length_map]
def aMa{l:Type}{xs:Tw l}(h:Inn xs.length p):∃z,atI xs p=Z z/\z∈xs:=by
 obtain⟨q,rfl⟩:∃q:Nat,p=(q:Nat):=⟨p.toNat,by omega⟩;have k:q<xs.length:=by omega
 exact⟨xs[q],pA<|D7 k,Y8 k⟩
def Li.ix{xs:T8}(h:Li M c xs)(hp:Inn xs.length p):∃z,ixF (.c c) (I p) M=Z (I z,M):=by
 obtain⟨z,k,l⟩:=aMa (xs:=xs.map fun i=>I i) (by simp;omega);obtain⟨y,_,rfl⟩:=List.mem_map.mp l;refine⟨y,?_⟩;unfold Li at h;simp only[ixF,h,k,Option.bind_some]
def Li.put{xs:T8}(h:Li M c xs)(hp:Inn xs.length p):∃ys,ys.length=xs.length/\IL (.c c) (I p) (I z) M=Z (M.set c<|cI ys):=by
 obtain⟨q,rfl⟩:∃q:Nat,p=(q:Nat):=⟨p.toNat,by omega⟩;refine⟨xs.set q z,by rw[Z3],?_⟩
 have hn:ixN (xs.map fun i=>I i).length (q:Int)=Z q:=by
  unfold ixN;rw[A4 (Int.natCast_nonneg q),A4 (by grind),Y2]
 unfold Li at h;simp only[IL,h,hn,Option.bind_some,cI,List.map_set]
def Li.push{xs:T8}(h:Li M c xs)(k:xs.length<1000):eD (.c c) [I z] M=Z (.d .none,M.set c<|cI (xs++[z])):=by
 have l:(xs.map fun i=>I i).length<sizeLine:=by rw[A3,O6];omega
 unfold Li at h;simp only[eD,h,if_pos l,cI,List.map_append,List.map_singleton]
def Li.pop{xs:T8}(h:Li M c (xs++[z])):fE (.c c) [] M=Z (I z,M.set c<|cI xs):=by
 have k:((xs++[z]).map fun i=>I i)[((xs++[z]).map fun i=>I i).length-1]?=Z (I z):=by
  rw[A3,C3,I0,Nat.add_sub_cancel,F8,S4<|B3 _,Nat.sub_self];rfl
 have l:((xs++[z]).map fun i=>I i).dropLast=xs.map fun i=>I i:=by
  rw[D5,List.map_singleton,List.dropLast_concat]
 unfold Li at h;simp only[fE,h,k,l,Option.bind_some]
def Rn(x:Int):Prop:=0<=x/\x<2147483647
def aDM(h:0<b)(k:b<=2147483647):Rn (y % b):=⟨D6 _ (by omega),Int.lt_of_lt_of_le (D4 _ h) k⟩
def Dk(M:Sto)(c m:Nat):Prop:=∃xs,Li M c xs/\m<=xs.length/\∀x∈xs,Rn x
def Dk.app(h:Dk M c m):Dk (M++L) c m:=let⟨xs,a,b⟩:=h;⟨xs,a.app,b⟩
def Dk.pop(h:Dk M c (m+1)):∃z M',fE (.c c) [] M=Z (I z,M')/\Dk M' c m/\Oth c M M'/\Rn z:=by
 obtain⟨xs,a,b,r⟩:=h;rcases List.eq_nil_or_concat xs with rfl|⟨ys,z,rfl⟩
 .simp at b
 .rw[List.concat_eq_append]at a b r;rw[C3,I0]at b;exact⟨z,_,a.pop,⟨ys,(a.set).1,by omega,fun x k=>r x<|E4 _ k⟩,(a.set).2,r z (by simp)⟩
def Dk.ty(h:Dk M c m):tyB "list" M (.c c)=true:=let⟨_,a,_⟩:=h;a.ty
def Dk.oth(h:Dk M c m)(o:Oth d M M')(ne:c≠d):Dk M' c m:=let⟨xs,a,b⟩:=h;⟨xs,a.oth o ne,b⟩
def NC(lo:Int)(n:Nat):mK lo (n+1)=I lo::mK (lo+1) n:=by
 unfold mK;rw[List.range_succ_eq_map,B4,D3];refine congr (S0 List.cons ?_) (U7 fun k _=>?_)
 .show CD.d (.int (lo+((0:Nat):Int)))=I lo;rw[show lo+((0:Nat):Int)=lo by omega]
 .show CD.d (.int (lo+((k+1:Nat):Int)))=.d (.int (lo+1+(k:Nat)));rw[show lo+((k+1:Nat):Int)=lo+1+(k:Nat)by omega]
def aDN(h:i.natAbs<2 ^ 64):nJ i j=true:=by unfold nJ;rw[D9 h];rfl
def mul_r(h:j.natAbs<2 ^ 64):nJ i j=true:=by unfold nJ;rw[D9 h,Bool.or_true];rfl
def nab(h:0<=z)(k:z<b)(l:b<=2 ^ 62):z.natAbs<2 ^ 64:=by omega
abbrev GD(s many:CD)(r d:Nat)(o:Int)(k at_ one:Tf):Ga:=[Z s,Z many,Z (.c r),Z<|I o,Z (.c d),k,at_,one]
def YB{s:CD}{r:Nat}{k:Int}{xs ds:T8}{g6 g7:Tf}(A:Li M r xs)(hd:Li M d ds)(ne:r≠d)(x0:0<xs.length)(U:ds.length<1000)(k0:0<=k)(k1:k<1000)(rd:∀x∈ds,Rn x):
 ∃B t H K M',eS (GD s many r d o (Z<|I k) g6 g7) M=Z (.nx (GD s many r d o (Z<|I k) H K),M')/\Li M' r B/\Li M' d t/\B.length=xs.length/\t.length=ds.length+1/\∀x∈t,Rn x:=by
 have q:∀y,Rn y->∀x∈ds++[y],Rn x:=fun y W x X=>by
  rcases List.mem_append.mp X with h|h
  .exact rd x h
  .rw[List.mem_singleton.mp h];exact W
 have ln:=A.ln;have O:=D6 k (show(xs.length:Int)≠0 by omega);have P:=D4 k (show(0:Int)<xs.length by omega);obtain⟨z,ix⟩:=A.ix ⟨O,P⟩;have Q:rZ k xs.length=true:=jF (by omega);have V:∀y,rZ y 1000000=true:=fun y=>jF (by decide);have m3:∀y,rZ y 2147483629=true:=fun y=>jF (by decide);have m4:∀y,rZ y 2147483647=true:=fun y=>jF (by decide);have m5:∀y,rZ y 4=true:=fun y=>jF (by decide);have dv:∀y,yB y 1000000=true:=fun y=>zI (by decide)<|wsm (by decide) (by decide);obtain⟨ys,yl,st⟩:=A.put (z:=z / 1000000) ⟨O,P⟩;generalize (xs.length:Int)=J at ln O P ix Q st;cases h:(o==0)with
 |true=>
  obtain⟨c,hc,C⟩:=IQ (ds:=([.int 48271,.int 69621,.int 39373,.int 40692]:T5)) (m:=4) (by decide) rfl
  obtain⟨u,rfl,R⟩:∃v:Int,c=.int v/\v.natAbs<2 ^ 64:=by
   simp only[List.mem_cons,List.not_mem_nil,or_false]at C;rcases C with rfl|rfl|rfl|rfl<;>exact⟨_,rfl,by decide⟩
  have xk:ixF (.d (.list [.int 48271,.int 69621,.int 39373,.int 40692])) (I (k % 4)) M=Z (I u,M):=by
   show(atI [PyData.int 48271,.int 69621,.int 39373,.int 40692] (k % 4)).bind _=_;rw[hc];rfl
  have q1:nJ k k=true:=aDN<|nab k0 k1 (by decide);have q2:nJ (k*k) 16807=true:=mul_r (by decide);have q3:nJ 3 k=true:=aDN (by decide);have q4:∀y,nJ y u=true:=fun y=>mul_r R;have a1:∀i j:Int,bV (I i) (I j) M=Z (I (i+j),M):=fun i j=>rfl;have q5:∀y,nJ (y % 2147483647) (y % 2147483647)=true:=fun y=>aDN<|nab (D6 _ (by decide)) (D4 _ (by decide)) (by decide);generalize hv:(z+k*k*16807+3*k) % 2147483629=G;have S:=fun y=>hd.push (z:=y) U;refine⟨xs,ds++[(G*u+7) % 2147483647*((G*u+7) % 2147483647) % 2147483629],Z<|I (k % J),Z<|I ((G*u+7) % 2147483647*((G*u+7) % 2147483647) % 2147483629),_,?_,A.oth (hd.set).2 ne,(hd.set).1,rfl,by rw[C3,I0],q _<|aDM (by decide) (by decide)⟩;simp![eS,ln,Q,V,ix,ZW,h,q1,q2,q3,a1,m3,hv,AB,m5,xk,q4,m4,q5,bG,hd.ty,S]
 |false=>
  have E:=A.set (ys:=ys);have l:=hd.oth E.2<|O1 ne;have S:=l.push (z:=z % 1000000) U;refine⟨ys,ds++[z % 1000000],Z<|I (k % J),Z<|I (z % 1000000),_,?_,E.1.oth (l.set).2 ne,(l.set).1,yl,by rw[C3,I0],q _<|aDM (by decide) (by decide)⟩;simp![eS,ln,Q,V,ix,ZW,h,dv,st,bG,l.ty,S]
theorem FI{s:CD}{r d:Nat}:∀(m:Nat)(k:Int)(M:Sto)(xs ds:T8)(g5 g6 g7:Tf),Li M r xs->Li M d ds->r≠d->0<xs.length->0<=k->k+m<900->ds.length+m<900->(∀x∈ds,Rn x)->
 ∃h q u A M',sW (hName 5) eS (mK k m) (GD s many r d o g5 g6 g7) M=Z (.nx (GD s many r d o q u A),M')/\Li M' d h/\h.length=ds.length+m/\∀x∈h,Rn x
 |0=>fun k M xs ds g5 g6 g7 E hd ne G H _ _ rd=>⟨ds,g5,g6,g7,M,rfl,hd,rfl,rd⟩
 |m+1=>fun k M xs ds g5 g6 g7 E hd ne G H hk hl rd=>by
  obtain⟨B,C,K,O,M1,t,P,Q,h3,h4,R⟩:=YB E hd ne G (by omega) H (by omega) rd;obtain⟨h,S,U,V,M',l,W,h6,X⟩:=FI m (k+1) M1 B C (Z<|I k) K O P Q ne (by omega) (by omega) (by omega) (by omega) R;refine⟨h,S,U,V,M',?_,W,by omega,X⟩;rw[NC,qS rfl t];exact l
theorem DI(n:Nat)(M:Sto):∀ns:T8,rW n M (ns.map fun i=>I i)=Z (ns.map .int)
 |[]=>by unfold rW;rfl
 |i::ns=>by
  rw[B4];unfold rW;rw[aAP,A1,DI n M ns];rfl
theorem yU:∀ns:T8,PyData.canLayAll0 (ns.map .int)=true
 |[]=>rfl
 |n::ns=>by show(true&&PyData.canLayAll0 (ns.map .int))=true;rw[yU ns];rfl
theorem BB:∀ns:T8,PyData.depthAll (ns.map .int)=0
 |[]=>rfl
 |n::ns=>by show max 0 (PyData.depthAll<|ns.map .int)=0;rw[BB ns];rfl
def shaped_ints(ns:T8):SeqAt.shaped (.list (ns.map .int))=true:=by
 unfold SeqAt.shaped;have h:PyData.canLay0 (.list (ns.map .int))=true:=yU ns;have k:PyData.depth (.list (ns.map .int))=1:=by show PyData.depthAll (ns.map .int)+1=1;rw[BB]
 rw[h,k];rfl
def aEX(h:Li M c ns):eqY false (.c c) (.d (.list [])) M=Z (B ns.isEmpty,M):=by
 have s1:snap 5 M (.c c)=Z (.list (ns.map .int)):=by
  unfold Li at h;unfold snap;rw[h];show(rW 4 M (ns.map fun i=>I i)).bind _=_;rw[DI];rfl
 have s2:snap 5 M (.d (.list []))=Z (.list []):=by rw[aAP]
 show eqC false (.c c) (.d (.list [])) M=_;unfold eqC;rw[s1,A1,s2,A1,shaped_ints,show SeqAt.shaped (.list [])=true from rfl];cases ns<;>rfl
def aLC{x:CD}(sm:kI J=true):iU (aB (aD 1) aG) (x::Z (I J)::γ) M=Z (mK 0 J.toNat,M):=by
 simp![iU,sm]
def aHP(ns:T8):∃c M,jK [.d (.list (ns.map .int)),I 120] []=Z (.c c,M)/\Dk M c 120:=by
 have l:(0:Nat)<=sizeLine:=O4 _;have s1:(1:Nat)<=sizeLine:=by decide
 have st:∀(r:Nat)(M:Sto)(xs:T8),Li M r xs->0<xs.length->∃c M',(bC (aY (fOp bO (fOp ixF (aD 2)<|fC (.int 0))<|fC (.int 2))<|hName 3)
 (bC (aY (fOp cD (fOp ixF (aD 2)<|fC (.int 0))<|fC (.int 2))<|hSub (aD 2) (fC (.int 0)) IL)
 (bC (aY (kR aG)<|hName 4)
 (bC (rS (iU<|aB (aD 1) aG) (hName 5) eS)
 (bC (lQ<|bG "list" kL (aD 4) aG)
 (bT (aD 4))))))) [Z (.d (.list (ns.map .int))),Z (I 120),Z (.c r),Y,Y,Y,Y,Y] M=Z (.rt (.c c),M')/\Dk M' c 120:=by
  intro r M xs k x0;obtain⟨z,ix⟩:=k.ix (p:=0) ⟨by decide,by omega⟩;have K:∀y,rZ y 2=true:=fun y=>jF (by decide);have O:∀y,yB y 2=true:=fun y=>zI (by decide)<|wsm (by decide) (by decide);obtain⟨ys,yl,pt⟩:=k.put (p:=0) (z:=z / 2) ⟨by decide,by omega⟩;have q:=(k.set (ys:=ys)).1;have t:=q.app (L:=[Cell.lst []]);have G:(M.set r<|cI ys).length=M.length:=by rw[Z3]
  have hd:Li (M.set r (cI ys)++[Cell.lst []]) M.length []:=by
   unfold Li;rw[<- G,S4<|B3 _,Nat.sub_self];rfl
  have rl:=k.lt;obtain⟨ds,a5,a6,a7,M',P,h,Q,R⟩:=FI (s:=.d (.list (ns.map .int))) (many:=I 120) (o:=z % 2) 120 0 _ ys [] Y Y Y t hd (by omega) (by omega) (by decide) (by decide) (by decide) (fun x u=>by simp at u);have S:iU (aB (aD 1) aG) (GD (.d (.list (ns.map .int))) (I 120) r M.length (z % 2) Y Y Y) (M.set r (cI ys)++[Cell.lst []])=Z (mK 0 120,M.set r (cI ys)++[Cell.lst []]):=aLC (J:=120) (by decide);have U:=pD S P
  have V:kL (.c M.length) [] M'=Z (.d .none,M'.set M.length<|cI ds.reverse):=by
   have:=h;unfold Li at this;simp only[kL,this];rw[cI,List.map_reverse]
  refine⟨M.length,M'.set M.length<|cI ds.reverse,?_,ds.reverse,(h.set).1,by rw[List.length_reverse,Q];exact B3 _,fun x u=>R x<|List.mem_reverse.mp u⟩
  have W:aY (fOp bO (fOp ixF (aD 2)<|fC (.int 0))<|fC (.int 2)) (hName 3) [Z (.d (.list (ns.map .int))),Z<|I 120,Z (.c r),Y,Y,Y,Y,Y] M=Z (.nx [Z (.d (.list (ns.map .int))),Z<|I 120,Z (.c r),Z<|I (z % 2),Y,Y,Y,Y],M):=by
   simp![ix,K]
  have X:aY (fOp cD (fOp ixF (aD 2)<|fC (.int 0))<|fC (.int 2)) (hSub (aD 2) (fC (.int 0)) IL) [Z (.d (.list (ns.map .int))),Z<|I 120,Z (.c r),Z<|I (z % 2),Y,Y,Y,Y] M=Z (.nx [Z (.d (.list (ns.map .int))),Z<|I 120,Z (.c r),Z<|I (z % 2),Y,Y,Y,Y],M.set r<|cI ys):=by
   simp![ix,O,pt]
  have a3:aY (kR aG) (hName 4) [Z (.d (.list (ns.map .int))),Z<|I 120,Z (.c r),Z<|I (z % 2),Y,Y,Y,Y] (M.set r<|cI ys)=Z (.nx (GD (.d (.list (ns.map .int))) (I 120) r M.length (z % 2) Y Y Y),M.set r (cI ys)++[Cell.lst []]):=by
   simp![l,G]
  rw[aU W,aU X,aU a3,aU U];simp![bG,h.ty,V]
 have l0:FG [.d (.list (ns.map .int))] []=Z (.c 0,[cI ns]):=by
  show Z (CD.c 0,[]++[Cell.lst ((ns.map PyData.int).map .d)])=_;rw[D3];rfl
 have h0:Li [cI ns] 0 ns:=rfl;have eq:=aEX h0
 have H:aY (aL FG<|aB (aD 0) aG) (hName 2) [Z (.d (.list (ns.map .int))),Z<|I 120,Y,Y,Y,Y,Y,Y] []=Z (.nx [Z (.d (.list (ns.map .int))),Z<|I 120,Z (.c 0),Y,Y,Y,Y,Y],[cI ns]):=by
  simp![l0]
 cases A:ns.isEmpty with
 |true=>
  rw[A]at eq;obtain⟨c,M',B,C⟩:=st 1 ([cI ns]++[cI [4]]) [4] rfl (by decide);refine⟨c,M',iS rfl ?_,C⟩
  have E:sIf (gB<|fOp (eqY false) (aD 2)<|cA aG) (aY (kR<|aB (fC (.int 4)) aG)<|hName 2) cN [Z (.d (.list (ns.map .int))),Z<|I 120,Z (.c 0),Y,Y,Y,Y,Y] [cI ns]=Z (.nx [Z (.d (.list (ns.map .int))),Z<|I 120,Z (.c 1),Y,Y,Y,Y,Y],[cI ns]++[cI [4]]):=by
   simp![l,s1,eq];rfl
  unfold lW;show bC _ _ [Z (.d (.list (ns.map .int))),Z<|I 120,Y,Y,Y,Y,Y,Y] []=_;rw[aU H,aU E];exact B
 |false=>
  rw[A]at eq;obtain⟨c,M',B,C⟩:=st 0 [cI ns] ns rfl (by cases ns with|nil=>cases A|cons _ _=>simp);refine⟨c,M',iS rfl ?_,C⟩
  have E:sIf (gB<|fOp (eqY false) (aD 2)<|cA aG) (aY (kR<|aB (fC (.int 4)) aG)<|hName 2) cN [Z (.d (.list (ns.map .int))),Z<|I 120,Z (.c 0),Y,Y,Y,Y,Y] [cI ns]=Z (.nx [Z (.d (.list (ns.map .int))),Z<|I 120,Z (.c 0),Y,Y,Y,Y,Y],[cI ns]):=by
   simp![l,s1,eq]
  unfold lW;show bC _ _ [Z (.d (.list (ns.map .int))),Z<|I 120,Y,Y,Y,Y,Y,Y] []=_;rw[aU H,aU E];exact B
structure Ex(c:Nat)(M M':Sto):Prop where
 len:M.length<=M'.length
 at_:∀i,i<M.length->i≠c->M'[i]?=M[i]?
def Ex.trans{M1 M2:Sto}(a:Ex c M M1)(b:Ex c M1 M2):Ex c M M2:=⟨E7 a.len b.len,fun i h n=>(b.at_ i (C5 h a.len) n).trans (a.at_ i h n)⟩
def Oth.ex(o:Oth c M M'):Ex c M M':=⟨Nat.le_of_eq o.len.symm,fun i _ n=>o.at_ i n⟩
def Ex.app(c:Nat)(M L:Sto):Ex c M (M++L):=⟨by rw[C3];omega,fun i h _=>S6 h⟩
def Ex.to{i:Nat}{x:Cell}(e:Ex c M M')(h:M[i]?=Z x)(n:i≠c):M'[i]?=Z x:=by rw[e.at_ i (List.getElem?_eq_some_iff.mp h).1 n];exact h
def Dk.le{n:Nat}(h:Dk M c m)(l:n<=m):Dk M c n:=let⟨xs,a,b,r⟩:=h;⟨xs,a,E7 l b,r⟩
def Dk.lt(h:Dk M c m):c<M.length:=let⟨_,a,_⟩:=h;a.lt
def Dk.put{j:Nat}{x:Cell}(h:Dk M c m)(n:j≠c):Dk (M.set j x) c m:=let⟨xs,a,b⟩:=h;⟨xs,by unfold Li;rw[O9 n];exact a,b⟩
def Dk.popE(h:Dk M c (m+1)):∃z M',fE (.c c) [] M=Z (I z,M')/\Dk M' c m/\Ex c M M'/\Rn z:=let⟨z,M',a,b,d,r⟩:=h.pop;⟨z,M',a,b,d.ex,r⟩
def pop_at(k:γ[v]?=Z (Z (.c c)))(ty:tyB "list" M (.c c)=true)(h:fE (.c c) [] M=Z (I z,M')):bG "list" fE (aD v) aG γ M=Z (I z,M'):=by
 simp only[bG,aD,k,aG,Option.bind_some,ty,if_true,h]
theorem zR{g:GF}{b:SF}{n:Nat}{Inv:Nat->Ga->Sto->Prop}(step:∀k,k<n->∀γ M,Inv k γ M->∃γ1 γ' M',g (I (k:Nat)) γ M=Z (γ1,M)/\b γ1 M=Z (.nx γ',M')/\Inv (k+1) γ' M'):
 ∀(m k:Nat)(γ:Ga)(M:Sto),k+m=n->Inv k γ M->∃γ' M',sW g b (mK (k:Nat) m) γ M=Z (.nx γ',M')/\Inv n γ' M'
 |0=>fun k γ M h i=>⟨γ,M,rfl,by rw[<- h];exact i⟩
 |m+1=>fun k γ M h i=>by
  obtain⟨γ1,γ2,M1,l,o,q⟩:=step k (by omega) γ M i;obtain⟨γ',M',t,u⟩:=zR step m (k+1) γ2 M1 (by omega) q;refine⟨γ',M',?_,u⟩;rw[NC,qS l o,show((k:Nat):Int)+1=((k+1:Nat):Int)by omega];exact t
def TJ(lo:Int)(n:Nat):(mK lo n).length=n:=by unfold mK;rw[A3,List.length_range]
def RD(h:fa γ M=Z ([I J],M))(sm:kI J=true):iU fa γ M=Z (mK 0 J.toNat,M):=by
 simp only[iU,h,Option.bind_some,sm,if_true]
def VO(h:-1000<=i)(k:i<=1000):kI i=true:=by
 unfold kI;rw[D2];exact⟨D9 (by omega),D9 (by omega)⟩
def jT{f:AF}{c:TF}{M1 M2:Sto}(it:f γ M=Z (xs,M1))(h:xs.length<=1000)(l:lcF g c e xs (pV cap γ) M1=Z (ds.map .d,M2))(k:ds.length<=1000):fLc cap f g c e γ M=Z (.d (.list ds),M2):=HG it (sz h) l<|sz k
def aHc{c:TF}{a b:SF}(h:c γ M=Z (true,M')):sIf c a b γ M=a γ M':=by simp only[sIf,h,Option.bind_some,if_true]
def vR{c:TF}{a b:SF}(h:c γ M=Z (false,M')):sIf c a b γ M=b γ M':=by simp only[sIf,h,Option.bind_some,Bool.false_eq_true,if_false]
noncomputable abbrev S(x:Str):CD:=.d (.str x)
noncomputable def sI(i:Int):Str:=toString i
def Bd(i:Int):Prop:=i.natAbs<2 ^ 1900
def Bd.of(l:0<=i)(h:i<2 ^ 200):Bd i:=by
 show i.natAbs<2 ^ 1900;have k:i.natAbs<2 ^ 200:=by omega
 exact C5 k<|Nat.pow_le_pow_right (by decide) (by decide)
def iZ(h:Bd i):(sI i).length<=2000:=aFF h
def lY(h:Bd i):iA [I i] M=Z (S<|sI i,M):=by
 have:i.natAbs.log2<1920:=A0r (WD h) (by decide);simp only[iA,if_pos this];rfl
def zE(x y:Str):(x++y).length=x.length+y.length:=Str.length_append x y
def szl:sizeLine=16777216:=O6
def uI{y:Str}(h:x.length+y.length<=sizeLine):gL (S x) (S y) M=Z (S (x++y),M):=by
 have e:bV (S x) (S y) M=Y:=rfl;simp only[gL,BP,e,aEc,if_pos h]
def fM(a b:Int):Str:=if (b==1)=true then sI a else sI a++"/"++sI b
def sl1:(("/":Str)).length=1:=by decide
def sp1:((" ":Str)).length=1:=by decide
def OO(ha:Bd a)(h:Bd b):(fM a b).length<=4001:=by
 have k:=iZ ha;have l:=iZ h;unfold fM;split
 .omega
 .rw[zE,zE,sl1];omega
def aBH(ha:Bd a)(h:Bd b):gI [.d (P k a b)] M=Z (S<|fM a b,M):=by
 have o:=iZ ha;have q:=iZ h;have z1:gL (S<|sI a) (S "/") M=Z (S (sI a++"/"),M):=uI (by rw[sl1,szl];omega);have l:gL (S (sI a++"/")) (S<|sI b) M=Z (S (sI a++"/"++sI b),M):=uI (by rw[zE,sl1,szl];omega);cases c:(b==1)with
 |true=>simp![gI,jI,aDt,aFL,ZW,c,lY ha,fM,if_true]
 |false=>simp![gI,jI,aDt,aFL,ZW,c,lY ha,lY h,z1,l,fM,Bool.false_eq_true,if_false]
def LA(w:Str)(i j a b:Int):Str:=w++" "++sI i++" "++sI j++" "++fM a b
def ZH(l:w.length<=100)(hi:Bd i)(h:Bd j)(ha:Bd a)(k:Bd b):(LA w i j a b).length<=8200:=by
 have o:=iZ hi;have q:=iZ h;have t:=OO ha k;unfold LA;rw[zE,zE,zE,zE,zE,zE,sp1];omega
def aKK(w x y z:Str):Txt.join " " [w,x,y,z]=w++" "++x++" "++y++" "++z:=by
 show Builtin.Str.glued " " [w,x,y,z]=_;rfl
def EC(B:w.length<=100)(hi:Bd i)(h:Bd j)(ha:Bd a)(l:Bd b):eC [S w,.d (R3 k (.int i) (.int j)<|P k' a b)] M=Z (S<|LA w i j a b,M):=by
 have C:=iZ hi;have E:=iZ h;have G:=OO ha l;obtain⟨o,x1,q⟩:=ix3 k (.int i) (.int j) (P k' a b) M;have nm:=aBH (k:=k') (M:=M) ha l
 have t:sH " " [w,sI i,sI j,fM a b]<=16777216:=by
  show([w,sI i,sI j,fM a b].map (·.length)).sum+4*(" ":Str).length<=_;rw[sp1];simp only[List.map_cons,List.map_nil,List.sum_cons,List.sum_nil];omega
 have u:BV [.str w,.str (sI i),.str (sI j),.str (fM a b)]=Z [w,sI i,sI j,fM a b]:=rfl;have s4:(4:Nat)<=sizeLine:=by decide
 have A:nO (S " ") [.d (.list [.str w,.str (sI i),.str (sI j),.str (fM a b)])] M=Z (S<|LA w i j a b,M):=by
  simp only[nO,u,Option.bind_some,if_pos t,aKK];rfl
 have ty:tyB "str" M (S " ")=true:=rfl;have al:iO [S w,S<|sI i,S<|sI j,S<|fM a b]=Z [.str w,.str (sI i),.str (sI j),.str (fM a b)]:=rfl;have ln:([PyData.str w,.str (sI i),.str (sI j),.str (fM a b)]:T5).length<=sizeLine:=s4;simp![eC,rF,bG,o,x1,q,lY hi,lY h,nm,ty,al,s4,if_true,A]
theorem oP{k:Type}{e:EF}{M:Sto}(f:k->CD)(h:k->Ua):∀(xs:Tw k)(g:Tf),(∀x∈xs,e [Z (f x)] M=Z (.d (h x),M))->lcF (hName 0) eU e (xs.map f) [g] M=Z ((xs.map h).map .d,M)
 |[]=>fun _ _=>rfl
 |x::xs=>fun g l=>by
  have ih:=oP (M:=M) (e:=e) f h xs (Z<|f x) fun y o=>l y<|C0 _ o;have q:=l x C4;rw[B4,B4,B4];show(hName 0 (f x) [g] M).bind _=_;rw[show hName 0 (f x) [g] M=Z ([Z (f x)],M)from rfl,A1];show(eU _ M).bind _=_;rw[show eU [Z (f x)] M=Z (true,M)from rfl,A1,A4 rfl,q,A1];dsimp only;rw[ih,A1]
noncomputable def nl(l:Str):Str:=l++"\n"
theorem IX{n:Nat}:∀{ls:Te},(∀l∈ls,l<=n)->ls.sum<=ls.length*n
 |[]=>fun _=>by simp
 |l::ls=>fun h=>by
  have:=IX (n:=n) (ls:=ls) fun x k=>h x<|C0 _ k;have o:=h l C4;rw[List.sum_cons,B5,Nat.succ_mul];omega
theorem FH:∀ls:Tc,BV (ls.map .str)=Z ls
 |[]=>rfl
 |l::ls=>by
  show(BV<|ls.map .str).bind _=_;rw[FH ls];rfl
def aGe{ls:Tc}{n:Nat}(h:∀l∈ls,l.length<=n)(hn:ls.length*n+ls.length*sep.length<=16777216):nO (S sep) [.d (.list (ls.map .str))] M=Z (S<|Txt.join sep ls,M):=by
 have k:sH sep ls<=16777216:=by
  unfold sH
  have:=IX (n:=n) (ls:=ls.map (·.length)) fun x o=>by
   obtain⟨l,q,rfl⟩:=List.mem_map.mp o;exact h l q
  rw[A3]at this;omega
 simp only[nO,FH,Option.bind_some,if_pos k]
def xO{c:EF}{ls:Tc}{n:Nat}(k:c γ M=Z (.d (.list (ls.map .str)),M'))(h:∀l∈ls,l.length<=n)(hn:ls.length*n+ls.length*sep.length<=16777216):bG "str" nO (fC (.str sep)) (aB c aG) γ M=Z (S<|Txt.join sep ls,M'):=by
 have ty:tyB "str" M (S sep)=true:=rfl;have j:=aGe (M:=M') h hn;simp![bG,ty,k,j]
def fZ(k:Bool)(t:Tie):Ua:=R3 k (.int t.i) (.int t.j)<|P k t.a t.b
def BdT(t:Tie):Prop:=Bd t.i/\Bd t.j/\Bd t.a/\Bd t.b
def cE(w:Str)(t:Tie):Str:=LA w t.i t.j t.a t.b
def OD{x:Ua}(h:γ[v]?=Z (Z (.d x)))(l:cT x=Z (ts.map<|fZ k)):bD (aD v) γ M=Z (ts.map fun t=>.d (fZ k t),M):=by
 simp only[bD,aD,h,Option.bind_some,l,List.map_map];rfl
noncomputable def sqK(k:Bool)(ns:T8):Ua:=if k then .list (ns.map .int)else .tuple (ns.map .int)
def aBQ(k:Bool)(ns:T8):cT (sqK k ns)=Z (ns.map .int):=by cases k<;>rfl
def nI(ns:T8):Str:=Txt.join " " ("side"::ns.map sI)
def dP{xs:T5}(k:xs.length+ys.length<=1000):bV (.d (.list xs)) (.d (.list ys)) M=Z (.d (.list (xs++ys)),M):=by
 have h:xs.length+ys.length<=sizeLine:=sz k;have l:aJU (.d (.list xs)) (.d (.list ys)) M=Y:=rfl
 have o:aKu (.d (.list xs)) (.d (.list ys)) M=Z (.d (.list (xs++ys)),M):=by
  have a:iO (xs.map CD.d++ys.map CD.d)=Z (xs++ys):=by rw[<- D5];exact qG _
  show(iO (xs.map CD.d++ys.map CD.d)).bind _=_;rw[a,A1,A4 (by rw[C3];exact h)]
 simp only[bV,BP,l,o]
def WO{f:AF}{ns:T8}(it:f γ M=Z (ns.map fun i=>I i,M))(h:∀n∈ns,Bd n)(l:ns.length<=100)(k:pV cap γ=[Y]):
 fLc cap f (hName 0) eU (aL iA<|aB (aD 0) aG) γ M=Z (.d (.list ((ns.map sI).map .str)),M):=by
 refine jT it (by rw[A3];omega) ?_ (by rw[A3,A3];omega);rw[k];refine(oP (fun i=>I i) (fun i=>.str (sI i)) ns Y fun n hn=>?_).trans (by simp only[List.map_map];rfl);have e:=lY (M:=M)<|h n hn;simp![e]
def sd4:(("side":Str)).length=4:=by decide
def XN{K c:EF}{ns:T8}(o:K γ M=Z (.d (.list [.str "side"]),M))(q:c γ M=Z (.d (.list ((ns.map sI).map .str)),M))(t:∀n∈ns,Bd n)(u:ns.length<=20):
 bG "str" nO (fC (.str " ")) (aB (fOp bV K c) aG) γ M=Z (S<|nI ns,M):=by
 have ad:=dP (M:=M) (xs:=[.str "side"]) (ys:=(ns.map sI).map .str) (by rw[A3,A3];show 1+ns.length<=1000;omega)
 have e:fOp bV K c γ M=Z (.d (.list (((("side":Str)::ns.map sI)).map .str)),M):=by
  simp only[fOp,o,q,Option.bind_some,ad];rfl
 refine xO (n:=2000) e (fun l k=>?_) (by rw[B5,A3,sp1];omega);rcases List.mem_cons.mp k with rfl|h
 .decide
 .obtain⟨n,hn,rfl⟩:=List.mem_map.mp h;exact iZ<|t n hn
def aCv:bD (aD 0) (Z (.d (sqK k ns))::γ) M=Z (ns.map fun i=>I i,M):=by
 simp only[bD,aD,List.getElem?_cons_zero,Option.bind_some,aBQ,List.map_map];rfl
def aCH{x:Ua}{ss:T0}(h:γ[v]?=Z (Z (.d x)))(l:cT x=Z (ss.map<|sqK k)):bD (aD v) γ M=Z (ss.map fun t=>.d (sqK k t),M):=by
 simp only[bD,aD,h,Option.bind_some,l,List.map_map];rfl
def s9{n:Nat}(h:n<=9):n<=sizeLine:=sz (by omega)
def aMD{f1 f2:EF}(h:f1 γ M=Z (I a,M))(k:f2 γ M=Z (I b,M)):cA (aB f1<|aB f2 aG) γ M=Z (.d (.list ([a,b].map .int)),M):=by
 have e:aB f1 (aB f2 aG) γ M=Z ([I a,I b],M):=by simp only[aB,aG,h,k,Option.bind_some]
 unfold cA;rw[e,A1];show(Z<|[a,b].map PyData.int).bind _=_;rw[A1];exact A4<|s9 (show(2:Nat)<=9 by decide)
def aME{f1 f2:EF}{c d:Int}(h:f1 γ M=Z (I a,M))(k:f2 γ M=Z (I b,M))(l:f3 γ M=Z (I c,M))(o:f4 γ M=Z (I d,M)):cA (aB f1<|aB f2<|aB f3<|aB f4 aG) γ M=Z (.d (.list ([a,b,c,d].map .int)),M):=by
 have e:aB f1 (aB f2<|aB f3<|aB f4 aG) γ M=Z ([I a,I b,I c,I d],M):=by simp only[aB,aG,h,k,l,o,Option.bind_some]
 unfold cA;rw[e,A1];show(Z<|[a,b,c,d].map PyData.int).bind _=_;rw[A1];exact A4<|s9 (show(4:Nat)<=9 by decide)
def aMG{f1 f2 h k:EF}{c d e f:Int}(l:f1 γ M=Z (I a,M))(o:f2 γ M=Z (I b,M))(q:f3 γ M=Z (I c,M))(t:f4 γ M=Z (I d,M))(u:h γ M=Z (I e,M))(A:k γ M=Z (I f,M)):cA (aB f1<|aB f2<|aB f3<|aB f4<|aB h<|aB k aG) γ M=Z (.d (.list ([a,b,c,d,e,f].map .int)),M):=by
 have B:aB f1 (aB f2<|aB f3<|aB f4<|aB h<|aB k aG) γ M=Z ([I a,I b,I c,I d,I e,I f],M):=by simp only[aB,aG,l,o,q,t,u,A,Option.bind_some]
 unfold cA;rw[B,A1];show(Z<|[a,b,c,d,e,f].map PyData.int).bind _=_;rw[A1];exact A4<|s9 (show(6:Nat)<=9 by decide)
def JI{m:Int}(hm:0<m)(l:(ns.length:Int)=m):∃v,v∈ns/\ixF (.d (.list (ns.map .int))) (I (z % m)) M=Z (I v,M):=by
 obtain⟨d,hd,h⟩:=IQ (ds:=ns.map PyData.int) (k:=z) hm (by rw[A3];exact l);obtain⟨v,o,rfl⟩:=List.mem_map.mp h;refine⟨v,o,?_⟩;show(atI (ns.map PyData.int) (z % m)).bind _=_;rw[hd];rfl
def cB{k:F2}{g:EF}{c:Int}(l:f γ M=Z (I a,M))(o:g γ M=Z (I b,M))(h:k (I a) (I b) M=Z (I c,M)):fOp k f g γ M=Z (I c,M):=by
 simp only[fOp,l,o,Option.bind_some,h]
def bN{k:F2}{g:EF}{a b c:CD}(l:f γ M=Z (a,M))(o:g γ M=Z (b,M))(h:k a b M=Z (c,M)):fOp k f g γ M=Z (c,M):=by
 simp only[fOp,l,o,Option.bind_some,h]
def bR:fC (.int i) γ M=Z (I i,M):=rfl
def dZ(h:0<b):bO (I a) (I b) M=Z (I (a % b),M):=by
 have:rZ a b=true:=jF h;simp![this]
def vG(h:0<b)(k:b<1000000):cD (I a) (I b) M=Z (I (a / b),M):=by
 have w:(1000000:Int)<2 ^ 200:=by decide
 have:yB a b=true:=zI h<|wsm (by omega) (by omega);simp![this]
def aLN(h:b.natAbs<2 ^ 64):vC (I a) (I b) M=Z (I (a*b),M):=by
 have:nJ a b=true:=mul_r h;simp![this]
def VH:qZ (I a) (I b) M=Z (I (a-b),M):=rfl
def aKQ:wU (I 10) (I 30) M=Z (I 1000000000000000000000000000000,M):=rfl
def aMp:wU (I 10) (I 12) M=Z (I 1000000000000,M):=rfl
def Oth.trans{M1 M2:Sto}(a:Oth c M M1)(b:Oth c M1 M2):Oth c M M2:=⟨b.len.trans a.len,fun i h=>(b.at_ i h).trans (a.at_ i h)⟩
def xJ:(10000000000000000000000000000000000000000:Int)<2 ^ 200:=by decide
structure RdT(t:Tie):Prop where
 i:0<=t.i/\t.i<100
 j:0<=t.j/\t.j<100
 a:0<=t.a/\t.a<10 ^ 30
 b:1<=t.b/\t.b<10 ^ 30
 g:Int.gcd t.a t.b=1
structure aAi(x y:Int):Prop where
 a:0<=x/\x<10 ^ 30
 b:1<=y/\y<10 ^ 30
 g:Int.gcd x y=1
def GN:(10:Int) ^ 30=1000000000000000000000000000000:=by decide
def aAi.bd(h:aAi a b):Bd a/\Bd b:=by
 obtain⟨⟨k,l⟩,⟨q,o⟩,_⟩:=h;have t:=xJ;rw[GN]at l o;exact⟨Bd.of k (by omega),Bd.of (by omega) (by omega)⟩
def RdT.bd(h:RdT t):BdT t:=by
 obtain⟨⟨k,o⟩,⟨l,u⟩,a,b,g⟩:=h;have q:=aAi.bd ⟨a,b,g⟩;have t:=xJ;exact⟨Bd.of k (by omega),Bd.of l (by omega),q.1,q.2⟩
def aMs(ha:0<=a)(h:a<1000000000000000000000000000000)(l:1<=b)(k:b<1000000000000000000000000000000):aAi (a / (Int.gcd a b:Int)) (b / (Int.gcd a b:Int)):=by
 have g:=UQ (a:=a) l;have o:a / (Int.gcd a b:Int)<=a:=Int.ediv_le_self _ ha;have q:b / (Int.gcd a b:Int)<=b:=Int.ediv_le_self _ (by omega);have gd:((Int.gcd a b:Int)) ∣ b:=Int.gcd_dvd_right a b;have t:0<b / (Int.gcd a b:Int):=Int.ediv_pos_of_pos_of_dvd (by omega) (by omega) gd;have u:a / (Int.gcd a b:Int)<10 ^ 30:=by rw[GN];exact Int.lt_of_le_of_lt o h
 have A:b / (Int.gcd a b:Int)<10 ^ 30:=by rw[GN];exact Int.lt_of_le_of_lt q k
 have B:Int.gcd a b≠0:=fun z=>by rw[z]at g;exact absurd g (by decide)
 exact⟨⟨Int.ediv_nonneg ha (by omega),u⟩,⟨t,A⟩,Int.gcd_ediv_gcd_ediv_gcd<|Nat.pos_of_ne_zero B⟩
def aKB(dk:Dk M c (m+2)):∃a b M',oB [.c c] M=Z (.d (.tuple [.int a,.int b]),M')/\aAi a b/\Dk M' c m/\Oth c M M':=by
 obtain⟨z,M1,H,E,K,O⟩:=dk.pop;obtain⟨y,M2,P,Q,R,S⟩:=E.pop;obtain⟨z0,z1⟩:=O;obtain⟨y0,y1⟩:=S;have U:aY (bG "list" fE (aD 0) aG) (hName 1) [Z (.c c),Y,Y,Y,Y] M=Z (.nx [Z (.c c),Z<|I z,Y,Y,Y],M1):=bM<|pop_at rfl dk.ty H;have V:aY (bG "list" fE (aD 0) aG) (hName 2) [Z (.c c),Z<|I z,Y,Y,Y] M1=Z (.nx [Z (.c c),Z<|I z,Z<|I y,Y,Y],M2):=bM<|pop_at rfl E.ty P;have u:∀h g4,aD 1 [Z (.c c),Z<|I z,Z<|I y,h,g4] M2=Z (I z,M2):=fun _ _=>rfl;have q:∀h g4,aD 2 [Z (.c c),Z<|I z,Z<|I y,h,g4] M2=Z (I y,M2):=fun _ _=>rfl;have n1:=D6 (z / 7) (show(10:Int)≠0 by decide);have n2:=D4 (z / 7) (show(0:Int)<10 by decide);have n3:=D6 (z / 7) (show(1000:Int)≠0 by decide);have n4:=D4 (z / 7) (show(0:Int)<1000 by decide);have n5:=D6 (z / 7) (show(50:Int)≠0 by decide);have n6:=D4 (z / 7) (show(0:Int)<50 by decide);have n7:=D6 (y / 5) (show(40:Int)≠0 by decide);have n8:=D4 (y / 5) (show(0:Int)<40 by decide);have n9:=D6 (y / 5) (show(30:Int)≠0 by decide);have W:=D4 (y / 5) (show(0:Int)<30 by decide);obtain⟨a,ha,X⟩:=JI (M:=M2) (ns:=[z / 7 % 10,z / 7 % 1000,1000000000000000000000000000000-1-z / 7 % 50,z*1000000000000+y]) (z:=z) (m:=4) (by decide) rfl;obtain⟨b,G,xb⟩:=JI (M:=M2) (ns:=[1,1,1+y / 5 % 40,55440,1000000000000000000000000000000-1-y / 5 % 30,1+y]) (z:=y) (m:=6) (by decide) rfl
 have a3:∀h g4,aY (fOp ixF (cA<|aB (fOp bO (fOp cD (aD 1)<|fC (.int 7))<|fC (.int 10))<|aB (fOp bO (fOp cD (aD 1)<|fC (.int 7))<|fC (.int 1000))<|aB (fOp qZ (fOp qZ (fOp wU (fC (.int 10))<|fC (.int 30))<|fC (.int 1))<|fOp bO (fOp cD (aD 1)<|fC (.int 7))<|fC (.int 50))<|aB (fOp bV (fOp vC (aD 1)<|fOp wU (fC (.int 10))<|fC (.int 12))<|aD 2) aG)<|fOp bO (aD 1)<|fC (.int 4)) (hName 3) [Z (.c c),Z<|I z,Z<|I y,h,g4] M2=Z (.nx [Z (.c c),Z<|I z,Z<|I y,Z<|I a,g4],M2):=fun h g4=>by
  have o:=cB (k:=cD) (u h g4) (bR (i:=7))<|vG (by decide) (by decide);have l:=aME (cB o (bR (i:=10))<|dZ (by decide)) (cB o (bR (i:=1000))<|dZ (by decide)) (cB (cB (cB bR bR aKQ) (bR (i:=1)) VH) (cB o (bR (i:=50))<|dZ (by decide)) VH)<|cB (cB (u h g4) (cB bR bR aMp)<|aLN (by decide)) (q h g4) yG;have A:=cB (k:=bO) (u h g4) (bR (i:=4))<|dZ (by decide);exact bM<|bN l A X
 have a4:∀h g4,aY (fOp ixF (cA<|aB (fC (.int 1))<|aB (fC (.int 1))<|aB (fOp bV (fC (.int 1))<|fOp bO (fOp cD (aD 2)<|fC (.int 5))<|fC (.int 40))<|aB (fC (.int 55440))<|aB (fOp qZ (fOp qZ (fOp wU (fC (.int 10))<|fC (.int 30))<|fC (.int 1))<|fOp bO (fOp cD (aD 2)<|fC (.int 5))<|fC (.int 30))<|aB (fOp bV (fC (.int 1))<|aD 2) aG)<|fOp bO (aD 2)<|fC (.int 6)) (hName 4) [Z (.c c),Z<|I z,Z<|I y,h,g4] M2=Z (.nx [Z (.c c),Z<|I z,Z<|I y,h,Z<|I b],M2):=fun h g4=>by
  have o:=cB (k:=cD) (q h g4) (bR (i:=5))<|vG (by decide) (by decide);have l:=aMG (bR (i:=1)) (bR (i:=1)) (cB (bR (i:=1)) (cB o (bR (i:=40))<|dZ (by decide)) yG) (bR (i:=55440)) (cB (cB (cB bR bR aKQ) (bR (i:=1)) VH) (cB o (bR (i:=30))<|dZ (by decide)) VH)<|cB (bR (i:=1)) (q h g4) yG;have A:=cB (k:=bO) (q h g4) (bR (i:=6))<|dZ (by decide);exact bM<|bN l A xb
 have B:0<=a/\a<1000000000000000000000000000000:=by
  simp only[List.mem_cons,List.not_mem_nil,or_false]at ha;rcases ha with rfl|rfl|rfl|rfl<;>omega
 have C:1<=b/\b<1000000000000000000000000000000:=by
  simp only[List.mem_cons,List.not_mem_nil,or_false]at G;rcases G with rfl|rfl|rfl|rfl|rfl|rfl<;>omega
 have t:=xJ;have lo:=aCy (a:=a) (b:=b) M2 B.1 C.1<|wsm (by omega) (by omega);refine⟨_,_,M2,iS rfl ?_,aMs B.1 B.2 C.1 C.2,Q,K.trans R⟩;unfold uT;show bC _ _ [Z (.c c),Y,Y,Y,Y] M=_;rw[aU U,aU V,aU<|a3 Y Y,aU<|a4 (Z<|I a) Y];simp only[bT,aL,aB,aD,aG,List.getElem?_cons_zero,List.getElem?_cons_succ,Option.bind_some,lo]
def gV{c:Cell}:(M++[c])[M.length]?=Z c:=by grind
def UF{f:Nat}{y:CD}(h:M[f]?=Z (.lst xs))(k:xs.length<=500):eD (.c f) [y] M=Z (.d .none,M.set f (.lst (xs++[y]))):=by
 have:xs.length<sizeLine:=by rw[szl];omega
 simp only[eD,h,if_pos this]
def aGR{f:Nat}(h:M[f]?=Z (.lst xs)):tyB "list" M (.c f)=true:=by
 simp only[tyB,h];rfl
def aI{g:AF}{M1 M2:Sto}{x:CD}(h:f γ M=Z (x,M1))(k:g γ M1=Z (xs,M2)):aB f g γ M=Z (x::xs,M2):=by
 simp only[aB,h,k,Option.bind_some]
def aS:aG γ M=Z ([],M):=rfl
def oJ{M1:Sto}(h:fa γ M=Z (xs,M1))(hd:iO xs=Z ds)(k:ds.length<=500):iC fa γ M=Z (.d (.tuple ds),M1):=by
 have:ds.length<=sizeLine:=sz (by omega);simp only[iC,h,Option.bind_some,hd,if_pos this]
def sO{T:String}{h:FM}{M1 M2 k:Sto}{x z:CD}{ys:T7}(l:f γ M=Z (x,M1))(ty:tyB T M1 x=true)(ha:fa γ M1=Z (ys,M2))(o:h x ys M2=Z (z,k)):bG T h f fa γ M=Z (z,k):=by
 simp only[bG,l,Option.bind_some,ty,if_true,ha,o]
def UW{M1:Sto}{x:CD}(h:f γ M=Z (x,M1)):lQ f γ M=Z (.nx γ,M1):=by simp only[lQ,h,Option.bind_some]
def bA{M1 M2:Sto}{y:CD}(ha:fa γ M=Z (xs,M1))(h:F xs M1=Z (y,M2)):aL F fa γ M=Z (y,M2):=by simp only[aL,ha,Option.bind_some,h]
def aAF{f:Nat}{x:Cell}(h:M[f]?=Z x):f<M.length:=(List.getElem?_eq_some_iff.mp h).1
def SH{f:Nat}{n:Int}{g4:Tf}(dk:Dk M c (m+3))(A:M[f]?=Z (.lst xs))(ne:f≠c)(B:xs.length<=500):
 ∃t g M',iM [Z (.c c),Z<|I n,Z (.c f),Z<|I k,g4] M=Z (.nx [Z (.c c),Z<|I n,Z (.c f),Z<|I k,g],M')/\RdT t/\M'[f]?=Z (.lst (xs++[.d (fZ false t)]))/\Dk M' c m:=by
 obtain⟨z,M1,C,E,G,z0,z1⟩:=dk.pop;obtain⟨a,b,M2,H,h,K,O⟩:=aKB E;have P:aY (bG "list" fE (aD 0) aG) (hName 4) [Z (.c c),Z<|I n,Z (.c f),Z<|I k,g4] M=Z (.nx [Z (.c c),Z<|I n,Z (.c f),Z<|I k,Z<|I z],M1):=bM<|pop_at rfl dk.ty C;have o:aD 4 [Z (.c c),Z<|I n,Z (.c f),Z<|I k,Z<|I z] M1=Z (I z,M1):=rfl;have Q:aD 3 [Z (.c c),Z<|I n,Z (.c f),Z<|I k,Z<|I z] M1=Z (I k,M1):=rfl;have q:=cB (k:=cD) o (bR (i:=100))<|vG (by decide) (by decide);have l:=aMD (cB q (bR (i:=100))<|dZ (by decide))<|cB q (bR (i:=10))<|dZ (by decide);obtain⟨j,u,R⟩:=JI (M:=M1) (ns:=[z / 100 % 100,z / 100 % 10]) (z:=k) (m:=2) (by decide) rfl;have S:=bN l (cB (k:=bO) Q (bR (i:=2))<|dZ (by decide)) R;have U:=cB (k:=bO) o (bR (i:=100))<|dZ (by decide);have f1:M1[f]?=Z (.lst xs):=by rw[G.at_ f ne];exact A
 have f2:M2[f]?=Z (.lst xs):=by rw[O.at_ f ne];exact f1
 have V:=bA (F:=oB) (aI (show aD 0 [Z (CD.c c),Z<|I n,Z (.c f),Z<|I k,Z<|I z] M1=Z (.c c,M1)from rfl) aS) H;have W:=oJ (aI U<|aI S<|aI V aS) (ds:=[.int (z % 100),.int j,.tuple [.int a,.int b]]) rfl (show(3:Nat)<=500 by decide);have X:=D6 z (show(100:Int)≠0 by decide);have n2:=D4 z (show(0:Int)<100 by decide);have n3:=D6 (z / 100) (show(100:Int)≠0 by decide);have n4:=D4 (z / 100) (show(0:Int)<100 by decide);have n5:=D6 (z / 100) (show(10:Int)≠0 by decide);have n6:=D4 (z / 100) (show(0:Int)<10 by decide)
 have bj:0<=j/\j<100:=by
  simp only[List.mem_cons,List.not_mem_nil,or_false]at u;rcases u with rfl|rfl<;>omega
 refine⟨⟨z % 100,j,a,b⟩,Z<|I z,M2.set f (.lst (xs++[.d (fZ false ⟨z % 100,j,a,b⟩)])),?_,⟨⟨X,n2⟩,bj,h.a,h.b,h.g⟩,F7<|aAF f2,K.put ne⟩;unfold iM;rw[aU P];have pu:=UF (y:=.d (fZ false ⟨z % 100,j,a,b⟩)) f2 B;exact UW<|sO (show aD 2 [Z (CD.c c),Z<|I n,Z (.c f),Z<|I k,Z<|I z] M1=Z (.c f,M1)from rfl) (aGR f1) (aI W aS) pu
def LI{k:Type}{P:k->Prop}{xs:Tw k}{y:k}(h:∀x∈xs,P x)(l:P y):∀x∈xs++[y],P x:=fun x o=>by
 rcases List.mem_append.mp o with q|q
 .exact h x q
 .rw[List.mem_singleton.mp q];exact l
def aEr(Q:0<=n)(R:n<=6)(dk:Dk M c (m+18)):∃(f:Nat)(ts:Tw Tie)(M':Sto),hZ [.c c,I n] M=Z (.c f,M')/\M'[f]?=Z (.lst (ts.map fun t=>.d (fZ false t)))/\ts.length<=6/\(∀t∈ts,RdT t)/\Dk M' c m/\f≠c:=by
 obtain⟨N,B⟩:∃N:Nat,n.toNat=N:=⟨_,rfl⟩;have S:N<=6:=by omega
 have cl:=dk.lt;have ne:M.length≠c:=by omega
 have C:aY (kR aG) (hName 2) [Z (.c c),Z<|I n,Y,Y,Y] M=Z (.nx [Z (.c c),Z<|I n,Z (.c M.length),Y,Y],M++[.lst []]):=by
  have E:(0:Nat)<=sizeLine:=O4 _;simp![E]
 have G:iU (aB (aD 1) aG) [Z (.c c),Z<|I n,Z (.c M.length),Y,Y] (M++[.lst []])=Z (mK 0 N,M++[.lst []]):=by
  rw[<- B];exact RD (J:=n) rfl<|VO (by omega) (by omega)
 obtain⟨γ',M',H,ts,l,g4,rfl,o,A,q,u⟩:=zR (g:=hName 3) (b:=iM) (n:=N) (Inv:=fun k γ M1=>∃(ts:Tw Tie)(l g4:Tf),γ=[Z (.c c),Z<|I n,Z (.c M.length),l,g4]/\M1[M.length]?=Z (.lst (ts.map fun t=>.d (fZ false t)))/\ts.length=k/\(∀t∈ts,RdT t)/\Dk M1 c (m+3*(N-k)))
  (fun k U γ M1 i=>by
   obtain⟨ts,l,g4,rfl,o,A,q,u⟩:=i;obtain⟨t,g,M2,e,K,O,P⟩:=SH (n:=n) (k:=(k:Nat)) (g4:=g4) (m:=m+3*(N-(k+1))) (u.le (by omega)) o ne (by rw[A3];omega);exact⟨_,_,M2,rfl,e,ts++[t],_,_,rfl,by rw[O,D5];rfl,by rw[C3,A];rfl,LI q K,P⟩)
  N 0 [Z (.c c),Z<|I n,Z (.c M.length),Y,Y] (M++[.lst []]) (by omega) ⟨[],Y,Y,rfl,gV,rfl,fun t h=>by simp at h,(dk.app).le (by omega)⟩
 refine⟨M.length,ts,M',iS rfl ?_,o,by omega,q,u.le (by omega),ne⟩;unfold pG;show bC _ _ [Z (.c c),Z<|I n,Y,Y,Y] M=_;rw[aU C,aU<|pD G H];rfl
def NW{k:F2}{g:EF}{M1:Sto}{a b c:CD}(l:f γ M=Z (a,M1))(o:g γ M1=Z (b,M1))(h:k a b M1=Z (c,M1)):fOp k f g γ M=Z (c,M1):=by
 simp only[fOp,l,o,Option.bind_some,h]
def RdS(ns:T8):Prop:=ns≠[]/\(∀k∈ns,0<=k/\k<100)/\ns.length<=20
theorem KJ{g:GF}{e:EF}{E:CD->Prop}{Inv:Nat->Ga->Sto->Prop}
 (step:∀m x γ M,Inv (m+1) γ M->∃γ1,g x γ M=Z (γ1,M)/\∃y k,e γ1 M=Z (y,k)/\E y/\Inv m γ1 k):
 ∀(xs:T7)(γ:Ga)(M:Sto),Inv xs.length γ M->∃ys γ' M',lcF g eU e xs γ M=Z (ys,M')/\(∀y∈ys,E y)/\ys.length=xs.length/\Inv 0 γ' M'
 |[]=>fun γ M i=>⟨[],γ,M,rfl,fun y h=>by simp at h,rfl,i⟩
 |x::xs=>fun γ M i=>by
  obtain⟨γ1,l,y,k,o,q,t⟩:=step _ x γ M i;obtain⟨ys,γ',M',u,A,B,C⟩:=KJ step xs γ1 k t;refine⟨y::ys,γ',M',?_,fun z hz=>?_,by rw[B5,B5,B],C⟩
  .simp only[lcF,l,Option.bind_some,eU,if_true,o,u]
  .rcases List.mem_cons.mp hz with rfl|hz
   .exact q
   .exact A z hz
theorem NM:∀{ys:T7},(∀y∈ys,∃i,y=I i/\(0<=i/\i<100))->∃ns:T8,ys=(ns.map PyData.int).map .d/\∀n∈ns,0<=n/\n<100
 |[]=>fun _=>⟨[],rfl,fun n h=>by simp at h⟩
 |y::ys=>fun h=>by
  obtain⟨i,rfl,hi⟩:=h y C4;obtain⟨ns,rfl,hn⟩:=NM (ys:=ys) fun z l=>h z<|C0 _ l;refine⟨i::ns,rfl,fun n k=>?_⟩;rcases List.mem_cons.mp k with rfl|q
  .exact hi
  .exact hn n q
def aAC{g:Tf}(dk:Dk M c (m+1)):∃i M1,fOp bO (bG "list" fE (aD 0) aG) (fOp ixF gO<|fOp bO (fOp cD (aD 1)<|fC (.int 9))<|fC (.int 3)) [Z (.c c),Z<|I z,g] M=Z (I i,M1)/\(0<=i/\i<100)/\Dk M1 c m/\Oth c M M1:=by
 obtain⟨y,M1,l,o,q,H,K⟩:=dk.pop;have t:aD 1 [Z (.c c),Z<|I z,g] M1=Z (I z,M1):=rfl;have u:=cB (k:=cD) t (bR (i:=9))<|vG (by decide) (by decide);have A:=cB (k:=bO) u (bR (i:=3))<|dZ (by decide);obtain⟨v,h,B⟩:=JI (M:=M1) (ns:=[100,10,40]) (z:=z / 9) (m:=3) (by decide) rfl;have C:=bN (k:=ixF) (wY [Z (.c c),Z<|I z,g] M1) A B
 have E:0<v/\v<=100:=by
  simp only[List.mem_cons,List.not_mem_nil,or_false]at h;rcases h with rfl|rfl|rfl<;>omega
 have G:=D6 y (show v≠0 by omega);have n2:=D4 y (show 0<v by omega);exact⟨y % v,M1,NW (pop_at rfl dk.ty l) C<|dZ E.1,⟨G,by omega⟩,o,q⟩
def NN{f:Nat}{n z:Int}(dk:Dk M c (m+6))(o:M[f]?=Z (.lst xs))(ne:f≠c):
 ∃ns M1,jX [Z (.c c),Z<|I n,Z (.c f),Z<|I k,Z<|I z] M=Z (.d (.list (ns.map .int)),M1)/\RdS ns/\M1[f]?=Z (.lst xs)/\Dk M1 c m:=by
 have O:=D6 z (show(6:Int)≠0 by decide);have n2:=D4 z (show(0:Int)<6 by decide)
 have t:iU (aB (fOp bV (fC (.int 1))<|fOp bO (aD 4)<|fC (.int 6)) aG) [Z (.c c),Z<|I n,Z (.c f),Z<|I k,Z<|I z] M=Z (mK 0 (1+z % 6).toNat,M):=
  RD (J:=1+z % 6) (aI (cB bR (cB (k:=bO) (show aD 4 [Z (CD.c c),Z<|I n,Z (.c f),Z<|I k,Z<|I z] M=Z (I z,M)from rfl) (bR (i:=6))<|dZ (by decide)) yG) aS) (VO (by omega) (by omega))
 have h:(mK 0 (1+z % 6).toNat).length<=6:=by rw[TJ];omega
 obtain⟨ys,γ',M1,e,u,l,P,A,B⟩:=KJ (g:=hName 2) (e:=fOp bO (bG "list" fE (aD 0) aG)<|fOp ixF gO<|fOp bO (fOp cD (aD 1)<|fC (.int 9))<|fC (.int 3)) (E:=fun y=>∃i,y=I i/\(0<=i/\i<100)) (Inv:=fun p γ M1=>(∃g,γ=[Z (.c c),Z<|I z,g])/\Dk M1 c (m+p)/\M1[f]?=Z (.lst xs))
  (fun p x γ M1 i=>by
   obtain⟨⟨g,rfl⟩,C,f1⟩:=i;refine⟨[Z (.c c),Z (I z),Z x],rfl,?_⟩;obtain⟨i,M2,e,G,H,K⟩:=aAC (m:=m+p) (z:=z) (g:=Z x) C;exact⟨_,M2,e,⟨i,rfl,G⟩,⟨_,rfl⟩,H,by rw[K.at_ f ne];exact f1⟩)
  (mK 0 (1+z % 6).toNat) [Z (.c c),Z<|I z,Y] M ⟨⟨Y,rfl⟩,dk.le (by omega),o⟩
 obtain⟨ns,rfl,hn⟩:=NM u;rw[A3,A3,TJ]at l;refine⟨ns,M1,?_,⟨fun q=>by rw[q,List.length_nil]at l;omega,hn,by omega⟩,B,A⟩;unfold jX;exact jT t (by omega) e (by rw[A3];omega)
def KR{f:Nat}{n:Int}{g4:Tf}(dk:Dk M c (m+7))(h:M[f]?=Z (.lst xs))(ne:f≠c)(l:xs.length<=500):
 ∃ns g M',gN [Z (.c c),Z<|I n,Z (.c f),Z<|I k,g4] M=Z (.nx [Z (.c c),Z<|I n,Z (.c f),Z<|I k,g],M')/\RdS ns/\M'[f]?=Z (.lst (xs++[.d (sqK false ns)]))/\Dk M' c m:=by
 obtain⟨z,M1,o,q,t,G,z1⟩:=dk.pop;have f1:M1[f]?=Z (.lst xs):=by rw[t.at_ f ne];exact h
 have u:aY (bG "list" fE (aD 0) aG) (hName 4) [Z (.c c),Z<|I n,Z (.c f),Z<|I k,g4] M=Z (.nx [Z (.c c),Z<|I n,Z (.c f),Z<|I k,Z<|I z],M1):=bM<|pop_at rfl dk.ty o;obtain⟨ns,M2,A,bs,f2,B⟩:=NN (n:=n) (k:=k) (z:=z) (m:=m) q f1 ne;have C:=bA (F:=jA) (aI A aS) (show jA [.d (.list (ns.map .int))] M2=Z (.d (sqK false ns),M2)from rfl);have E:=UF (y:=.d (sqK false ns)) f2 l;refine⟨ns,Z<|I z,M2.set f (.lst (xs++[.d (sqK false ns)])),?_,bs,F7<|aAF f2,B.put ne⟩;unfold gN;rw[aU u];exact UW<|sO (show aD 2 [Z (CD.c c),Z<|I n,Z (.c f),Z<|I k,Z<|I z] M1=Z (.c f,M1)from rfl) (aGR f1) (aI C aS) E
def aBi(Q:0<=n)(R:n<=5)(dk:Dk M c (m+35)):∃(f:Nat)(ss:T0)(M':Sto),gF [.c c,I n] M=Z (.c f,M')/\M'[f]?=Z (.lst (ss.map fun t=>.d (sqK false t)))/\ss.length<=5/\(∀t∈ss,RdS t)/\Dk M' c m/\f≠c:=by
 obtain⟨N,B⟩:∃N:Nat,n.toNat=N:=⟨_,rfl⟩;have S:N<=5:=by omega
 have cl:=dk.lt;have ne:M.length≠c:=by omega
 have C:aY (kR aG) (hName 2) [Z (.c c),Z<|I n,Y,Y,Y] M=Z (.nx [Z (.c c),Z<|I n,Z (.c M.length),Y,Y],M++[.lst []]):=by
  have E:(0:Nat)<=sizeLine:=O4 _;simp![E]
 have G:iU (aB (aD 1) aG) [Z (.c c),Z<|I n,Z (.c M.length),Y,Y] (M++[.lst []])=Z (mK 0 N,M++[.lst []]):=by
  rw[<- B];exact RD (J:=n) rfl<|VO (by omega) (by omega)
 obtain⟨γ',M',H,ss,l,g4,rfl,o,A,q,u⟩:=zR (g:=hName 3) (b:=gN) (n:=N) (Inv:=fun k γ M1=>∃(ss:T0)(l g4:Tf),γ=[Z (.c c),Z<|I n,Z (.c M.length),l,g4]/\M1[M.length]?=Z (.lst (ss.map fun t=>.d (sqK false t)))/\ss.length=k/\(∀t∈ss,RdS t)/\Dk M1 c (m+7*(N-k)))
  (fun k U γ M1 i=>by
   obtain⟨ss,l,g4,rfl,o,A,q,u⟩:=i;obtain⟨t,g,M2,e,K,O,P⟩:=KR (n:=n) (k:=(k:Nat)) (g4:=g4) (m:=m+7*(N-(k+1))) (u.le (by omega)) o ne (by rw[A3];omega);exact⟨_,_,M2,rfl,e,ss++[t],_,_,rfl,by rw[O,D5];rfl,by rw[C3,A];rfl,LI q K,P⟩)
  N 0 [Z (.c c),Z<|I n,Z (.c M.length),Y,Y] (M++[.lst []]) (by omega) ⟨[],Y,Y,rfl,gV,rfl,fun t h=>by simp at h,(dk.app).le (by omega)⟩
 refine⟨M.length,ss,M',iS rfl ?_,o,by omega,q,u.le (by omega),ne⟩;unfold nB;show bC _ _ [Z (.c c),Z<|I n,Y,Y,Y] M=_;rw[aU C,aU<|pD G H];rfl
def OkV(n:Int)(us:Tw Tie):Prop:=(∀t∈us,iK t.a t.b=true/\0<=t.i/\t.i<t.j/\t.j<n)/\(us.map Tie.key).Nodup
def aHY(ok:OkV n us)(C:0<=i)(E:i<j)(G:j<n)(o:iK a b=true):∃vs,putD (cJ us) [.inl i,.inl j] (.d (.tuple [.int a,.int b]))=cJ vs/\OkV n vs/\vs.length<=us.length+1:=by
 unfold putD;by_cases c:((cJ us).any fun H=>decide (H.1=[.inl i,.inl j]))=true
 .rw[A4 c];refine⟨us.map fun t=>if t.key=[.inl i,.inl j]then⟨t.i,t.j,a,b⟩else t,?_,⟨fun t ht=>?_,?_⟩,by rw[A3];omega⟩
  .unfold cJ;rw[D3,D3];refine U7 fun t _=>?_;show(if t.key=_ then(t.key,CD.d (.tuple [.int a,.int b]))else(t.key,t.val))=_;by_cases q:t.key=[.inl i,.inl j]
   .rw[A4 q];show(t.key,CD.d (.tuple [.int a,.int b]))=((if t.key=[.inl i,.inl j]then(⟨t.i,t.j,a,b⟩:Tie)else t).key,(if t.key=[.inl i,.inl j]then(⟨t.i,t.j,a,b⟩:Tie)else t).val);rw[A4 q];rfl
   .rw[B0 q];show(t.key,t.val)=((if t.key=[.inl i,.inl j]then(⟨t.i,t.j,a,b⟩:Tie)else t).key,(if t.key=[.inl i,.inl j]then(⟨t.i,t.j,a,b⟩:Tie)else t).val);rw[B0 q]
  .obtain⟨s,hs,rfl⟩:=List.mem_map.mp ht;obtain⟨I,u,A,B⟩:=ok.1 s hs;split
   .exact⟨o,u,A,B⟩
   .exact⟨I,u,A,B⟩
  .rw[D3,show us.map (Tie.key ∘ fun t=>if t.key=[.inl i,.inl j]then(⟨t.i,t.j,a,b⟩:Tie)else t)=us.map Tie.key from U7 fun t _=>by
    show(if t.key=[.inl i,.inl j]then(⟨t.i,t.j,a,b⟩:Tie)else t).key=t.key;split<;>rfl]
   exact ok.2
 .rw[B0 c];refine⟨us++[⟨i,j,a,b⟩],by unfold cJ;rw[D5];rfl,⟨fun t ht=>?_,?_⟩,by rw[C3,I0];omega⟩
  .rcases List.mem_append.mp ht with h|h
   .exact ok.1 t h
   .rw[List.mem_singleton.mp h];exact⟨o,C,E,G⟩
  .rw[D5,List.map_singleton];refine List.nodup_append.mpr ⟨ok.2,by simp,fun k K l O q=>?_⟩;rw[List.mem_singleton.mp O]at q;subst q;obtain⟨t,ht,e⟩:=List.mem_map.mp K;refine c<|List.any_eq_true.mpr ⟨(t.key,t.val),List.mem_map.mpr ⟨t,ht,rfl⟩,?_⟩;rw[e];exact D9 rfl
def aKe:GX [I i,I j] M=Z (I (if j<i then j else i),M):=rfl
def aIz:FK [I i,I j] M=Z (I (if j > i then j else i),M):=rfl
def s2:(2:Nat)<=sizeLine:=by decide
def aFo{fo h:EF}{l:KF}{M1 M2:Sto}{v o:CD}{k:KY}(q:h γ M=Z (v,M1))(t:fo γ M1=Z (o,M1))(u:l γ M1=Z (k,M1))(hs:PJ M1 o k v=Z M2):uN fo l h γ M=Z (.nx γ,M2):=by
 simp only[uN,q,t,u,hs,Option.bind_some]
noncomputable def GW(z:Int):T5:=[.tuple [.int 1,.int 1],.tuple [.int 1,.int 2],.tuple [.int 3,.int 4],.tuple [.int 1000000000000,.int 1],.tuple [.int 1,.int 55440],.tuple [.int 5,.int 12],.tuple [.int 999999999997,.int 7],.tuple [.int 0,.int 1],.tuple [.int (z / 9 % 99),.int 1]]
def aEJ{x:Int}(h:0<=x)(k:x<99):iK x 1=true:=by
 unfold iK;have g:Int.gcd x 1=1:=Int.gcd_one_right x;rw[D9 h,g,D9 (show x<=1000000000000 by omega)];rfl
def aDr{d:Ua}(h:d∈GW z):∃a b,d=.tuple [.int a,.int b]/\iK a b=true:=by
 have k:=D6 (z / 9) (show(99:Int)≠0 by decide);have n2:=D4 (z / 9) (show(0:Int)<99 by decide);simp only[GW,List.mem_cons,List.not_mem_nil,or_false]at h;rcases h with rfl|rfl|rfl|rfl|rfl|rfl|rfl|rfl|rfl
 all_goals first
  |exact⟨_,_,rfl,aEJ k n2⟩
  |exact⟨_,_,rfl,by decide +kernel⟩
abbrev GT(c:Nat)(n:Int)(d:Nat)(g3 g4 g5 g6 g7:Tf):Ga:=[Z (.c c),Z<|I n,Z (.c d),g3,g4,g5,g6,g7]
def aAe{L:Nat}{g4 g6 g7:Tf}(A:0<n)(dk:Dk M c (m+1))(hd:M[d]?=Z (.dt (cJ us)))(ok:OkV n us)(hl:us.length<=500)(ne:d≠c):
 ∃l o q u M' vs,jH (GT c n d (Z<|I k) g4 g5 g6 g7) M=Z (.nx (GT c n d (Z<|I k) l o q u),M')/\Dk M' c m/\M'[d]?=Z (.dt (cJ vs))/\OkV n vs/\vs.length<=us.length+1/\(∀e k',Dk M e k'->e≠c->e≠d->Dk M' e k'):=by
 obtain⟨z,M1,O,G,C,z0,z1⟩:=dk.pop;have u1:M1[d]?=Z (.dt (cJ us)):=by rw[C.at_ d ne];exact hd
 have P:aY (bG "list" fE (aD 0) aG) (hName 4) (GT c n d (Z<|I k) g4 g5 g6 g7) M=Z (.nx (GT c n d (Z<|I k) (Z<|I z) g5 g6 g7),M1):=bM<|pop_at rfl dk.ty O;have B:∀a b e,aD 4 (GT c n d (Z<|I k) (Z<|I z) a b e) M1=Z (I z,M1):=fun _ _ _=>rfl;have H:∀a b e,aD 1 (GT c n d (Z<|I k) (Z<|I z) a b e) M1=Z (I n,M1):=fun _ _ _=>rfl;have Q:aY (fOp bO (aD 4)<|aD 1) (hName 5) (GT c n d (Z<|I k) (Z<|I z) g5 g6 g7) M1=Z (.nx (GT c n d (Z<|I k) (Z<|I z) (Z<|I (z % n)) g6 g7),M1):=bM<|cB (B _ _ _) (H _ _ _)<|dZ A;have R:aY (fOp bO (fOp cD (aD 4)<|fC (.int 41))<|aD 1) (hName 6) (GT c n d (Z<|I k) (Z<|I z) (Z<|I (z % n)) g6 g7) M1=Z (.nx (GT c n d (Z<|I k) (Z<|I z) (Z<|I (z % n)) (Z<|I (z / 41 % n)) g7),M1):=bM<|cB (cB (B _ _ _) (bR (i:=41))<|vG (by decide) (by decide)) (H _ _ _)<|dZ A;have S:=bM (i:=7)<|BL (GT c n d (Z<|I k) (Z<|I z) (Z<|I (z % n)) (Z<|I (z / 41 % n)) g7) M1;have U:=D6 z (show n≠0 by omega);have V:=D4 z A;have W:=D6 (z / 41) (show n≠0 by omega);have X:=D4 (z / 41) A;unfold jH;rw[aU P,aU Q,aU R,aU S];generalize hi:z % n=i at U V;generalize hj:z / 41 % n=j at W X;generalize hK:CD.d (PyData.list [.tuple [.int 1,.int 1],.tuple [.int 1,.int 2],.tuple [.int 3,.int 4],.tuple [.int 1000000000000,.int 1],.tuple [.int 1,.int 55440],.tuple [.int 5,.int 12],.tuple [.int 999999999997,.int 7],.tuple [.int 0,.int 1]])=KK;show ∃l o q u M' vs,sIf (gB<|fOp (eqX true) (aD 5)<|aD 6) _ cN (GT c n d (Z<|I k) (Z<|I z) (Z<|I i) (Z<|I j)<|Z KK) M1=_/\_
 have K:gB (fOp (eqX true) (aD 5)<|aD 6) (GT c n d (Z<|I k) (Z<|I z) (Z<|I i) (Z<|I j)<|Z KK) M1=Z (!(i==j),M1):=by
  simp![aFN]
 cases h:(!(i==j))with
 |false=>
  rw[vR (K.trans (by rw[h]))];exact⟨_,_,_,_,M1,us,rfl,G,u1,ok,by omega,fun e k' h E _=>h.oth C E⟩
 |true=>
  rw[aHc (K.trans (by rw[h]))];have a0:i≠j:=by simpa using h
  obtain⟨w,hw,hm⟩:=IQ (ds:=GW z) (k:=z / 1700) (m:=9) (by decide) rfl;obtain⟨a,b,rfl,wg⟩:=aDr hm
  have e1:cA (aB (iC<|aB (fOp bO (fOp cD (aD 4)<|fC (.int 9))<|fC (.int 99))<|aB (fC (.int 1)) aG) aG) (GT c n d (Z<|I k) (Z<|I z) (Z<|I i) (Z<|I j)<|Z KK) M1=Z (.d (.list [.tuple [.int (z / 9 % 99),.int 1]]),M1):=by
   have t:=oJ (aI (cB (k:=bO) (cB (k:=cD) (B (Z<|I i) (Z<|I j)<|Z KK) (bR (i:=9))<|vG (by decide) (by decide)) (bR (i:=99))<|dZ (by decide))<|aI (bR (i:=1)) aS) (ds:=[.int (z / 9 % 99),.int 1]) rfl (show(2:Nat)<=500 by decide);unfold cA;rw[aI t aS,A1];show(Z [PyData.tuple [.int (z / 9 % 99),.int 1]]).bind _=_;rw[A1];exact A4<|s9 (show(1:Nat)<=9 by decide)
  have e2:fOp bV (aD 7) (cA<|aB (iC<|aB (fOp bO (fOp cD (aD 4)<|fC (.int 9))<|fC (.int 99))<|aB (fC (.int 1)) aG) aG) (GT c n d (Z<|I k) (Z<|I z) (Z<|I i) (Z<|I j)<|Z KK) M1=Z (.d (.list (GW z)),M1):=by
   refine bN (a:=KK) rfl e1 ?_;subst hK;exact dP (show(8+1:Nat)<=1000 by decide)
  have ev:=bN (k:=ixF) e2 (cB (k:=bO) (cB (k:=cD) (B (Z<|I i) (Z<|I j)<|Z KK) (bR (i:=1700))<|vG (by decide) (by decide)) (bR (i:=9))<|dZ (by decide)) (show ixF (.d (.list (GW z))) (I (z / 1700 % 9)) M1=Z (.d (.tuple [.int a,.int b]),M1)by
   show(atI (GW z) (z / 1700 % 9)).bind _=_;rw[hw];rfl)
  obtain⟨vs,w1,w2,w3⟩:=aHY (i:=if j<i then j else i) (j:=if j > i then j else i) ok (by split<;>omega) (by split<;>split<;>omega) (by split<;>omega) wg;have ll:(cJ us).length<sizeLine:=by unfold cJ;rw[A3,O6];omega
  have sd:PJ M1 (.c d) (.inr [.inl (if j<i then j else i),.inl (if j > i then j else i)]) (.d (.tuple [.int a,.int b]))=Z (M1.set d (.dt (cJ vs))):=by
   simp only[PJ,u1,if_pos ll,w1]
  have ek:IY (aB (aL GX<|aB (aD 5)<|aB (aD 6) aG)<|aB (aL FK<|aB (aD 5)<|aB (aD 6) aG) aG) (GT c n d (Z<|I k) (Z<|I z) (Z<|I i) (Z<|I j)<|Z KK) M1=Z (.inr [.inl (if j<i then j else i),.inl (if j > i then j else i)],M1):=by
   simp![IY,aKe,aIz,keysOf,keyOf,s2]
  exact⟨_,_,_,_,M1.set d (.dt (cJ vs)),vs,aFo ev rfl ek sd,G.put ne,F7<|aAF u1,w2,w3,fun e k' h E n2=>(h.oth C E).put (O1 n2)⟩
def aKP{t:Tie}(nd:(us.map Tie.key).Nodup)(ht:t∈us):lkC (cJ us) t.key=Z t.val:=by
 unfold lkC cJ;rw[List.find?_map]
 have:us.find? ((fun k:Tw Key×CD=>decide (k.1=t.key)) ∘ fun t=>(t.key,t.val))=Z t:=by
  induction us with
  |nil=>simp at ht
  |cons s us ih=>
   rw[B4,List.nodup_cons]at nd;by_cases e:s.key=t.key
   .rcases List.mem_cons.mp ht with rfl|h
    .rw[List.find?_cons_of_pos (by simp)]
    .exact absurd (List.mem_map.mpr ⟨t,h,e.symm⟩) nd.1
   .rw[List.find?_cons_of_neg (by simpa using e)];rcases List.mem_cons.mp ht with rfl|h
    .exact absurd rfl e
    .exact ih nd.2 h
 rw[this];rfl
theorem AG{k:Type}{e:EF}{M:Sto}{x0:Tf}(f:k->CD)(h:k->Ua):∀(xs:Tw k)(g:Tf),(∀x∈xs,e [x0,Z<|f x] M=Z (.d (h x),M))->lcF (hName 1) eU e (xs.map f) [x0,g] M=Z ((xs.map h).map .d,M)
 |[]=>fun _ _=>rfl
 |x::xs=>fun g l=>by
  have ih:=AG (M:=M) (e:=e) (x0:=x0) f h xs (Z<|f x) fun y o=>l y<|C0 _ o;have q:=l x C4;rw[B4,B4,B4];show(hName 1 (f x) [x0,g] M).bind _=_;rw[show hName 1 (f x) [x0,g] M=Z ([x0,Z<|f x],M)from rfl,A1];show(eU _ M).bind _=_;rw[show eU [x0,Z<|f x] M=Z (true,M)from rfl,A1,A4 rfl,q,A1];dsimp only;rw[ih,A1]
def XU{c:Nat}{n:Int}{g4 g6 g7:Tf}(hd:M[d]?=Z (.dt (cJ us)))(nd:(us.map Tie.key).Nodup)(A:us.length<=20):
 ∃vs:Tw Tie,vs.Perm us/\vs.Pairwise Tie.lt/\mS (GT c n d g3 g4 g5 g6 g7) M=Z (.d (.list (gX vs)),M):=by
 obtain⟨vs,pm,h,k,_⟩:=YY rf0 nd (by omega);have B:vs.length=us.length:=pm.length_eq;refine⟨vs,pm,h,?_⟩
 have l:qN [.c d] M=Z (.d (.list (vs.map fun t=>.tuple (f0 t))),M):=by
  have e:(cJ us).map (fun o=>o.1.map JS)=us.map f0:=by unfold cJ;rw[D3];rfl
  simp only[qN,hd,e,k,Option.bind_some]
 have it:bD (aL qN<|aB (aD 2) aG) (GT c n d g3 g4 g5 g6 g7) M=Z (vs.map fun t=>.d (.tuple (f0 t)),M):=by
  have:=bA (F:=qN) (aI (show aD 2 (GT c n d g3 g4 g5 g6 g7) M=Z (.c d,M)from rfl) aS) l;unfold bD;rw[this,A1];show(Z (vs.map fun t=>PyData.tuple<|f0 t)).bind _=_;rw[A1,D3];rfl
 unfold mS;refine jT it (by rw[A3];omega) ?_ (by unfold gX;rw[A3];omega);rw[show pV [Z 2,Y] (GT c n d g3 g4 g5 g6 g7)=[Z (.c d),Y]from rfl];refine AG (x0:=Z (.c d)) (fun t=>.d (.tuple (f0 t))) (fun t=>.tuple (f2 t)) vs Y fun t ht=>?_
 have q:atD M (.c d) (.inr [.inl t.i,.inl t.j])=Z (Z t.val):=by
  simp only[atD,hd];exact S0 Z<|aKP nd<|pm.mem_iff.mp ht
 have g:HS (aD 0) (aD 1) [Z (.c d),Z (.d (.tuple (f0 t)))] M=Z (t.val,M):=by
  show((keysOf<|(f0 t).map CD.d).bind fun ks=>(atD M (.c d) (.inr ks)).bind fun r=>r.bind fun x=>Z (x,M))=_;rw[show keysOf ((f0 t).map CD.d)=Z [.inl t.i,.inl t.j]from rfl,A1,q];rfl
 have u:=oJ (aI g aS) (ds:=[.tuple [.int t.a,.int t.b]]) rfl (show(1:Nat)<=500 by decide);exact bN (show aD 1 [Z (CD.c d),Z (.d (.tuple (f0 t)))] M=Z (.d (.tuple (f0 t)),M)from rfl) u<|aEB (show(2+1:Nat)<=1000 by decide)
def aIr(n0:1<=n)(dk:Dk M c (m+9)):∃(vs:Tw Tie)(M':Sto),jP [.c c,I n] M=Z (.d (.list (gX vs)),M')/\OkV n vs/\vs.Pairwise Tie.lt/\vs.length<=8/\Dk M' c m/\∀e k,Dk M e k->e≠c->Dk M' e k:=by
 have cl:=dk.lt;have ne:M.length≠c:=by omega
 have G:aY uK (hName 2) [Z (.c c),Z<|I n,Y,Y,Y,Y,Y,Y] M=Z (.nx (GT c n M.length Y Y Y Y Y),M++[.dt []]):=rfl;have o:=dk.app (L:=[Cell.dt []]);obtain⟨z,M1,H,K,E,z0,z1⟩:=o.pop;have u1:M1[M.length]?=Z (.dt (cJ [])):=by rw[E.at_ _ ne];exact gV
 have q:=D6 z (show(9:Int)≠0 by decide);have n2:=D4 z (show(0:Int)<9 by decide);obtain⟨N,O⟩:∃N:Nat,(z % 9).toNat=N:=⟨_,rfl⟩;have N8:N<=8:=by omega
 have P:iU (aB (fOp bO (bG "list" fE (aD 0) aG)<|fC (.int 9)) aG) (GT c n M.length Y Y Y Y Y) (M++[.dt []])=Z (mK 0 N,M1):=by
  have e:=aI (NW (pop_at (γ:=GT c n M.length Y Y Y Y Y) (v:=0) rfl o.ty H) (bR (i:=9))<|dZ (by decide)) aS;have sm:kI (z % 9)=true:=VO (by omega) (by omega);unfold iU;rw[e,A1];dsimp only;rw[A4 sm,O]
 obtain⟨γ',M',Q,us,g3,g4,g5,g6,g7,rfl,A,R,u,B,C⟩:=zR (g:=hName 3) (b:=jH) (n:=N) (Inv:=fun k γ M2=>∃(us:Tw Tie)(g3 g4 g5 g6 g7:Tf),γ=GT c n M.length g3 g4 g5 g6 g7/\M2[M.length]?=Z (.dt (cJ us))/\us.length<=k/\OkV n us/\Dk M2 c (m+(N-k))/\∀e l,Dk M e l->e≠c->Dk M2 e l)
  (fun k hk γ M2 i=>by
   obtain⟨us,g3,g4,g5,g6,g7,rfl,A,R,u,B,C⟩:=i;obtain⟨q4,q5,q6,q7,S,vs,e,U,V,W,e5,X⟩:=aAe (L:=0) (n:=n) (k:=(k:Nat)) (g4:=g4) (g5:=g5) (g6:=g6) (g7:=g7) (m:=m+(N-(k+1))) (by omega) (B.le (by omega)) A u (by omega) ne;exact⟨_,_,S,rfl,e,vs,_,_,_,_,_,rfl,V,by omega,W,U,fun e l h q=>X e l (C e l h q) q (D1 h.lt)⟩)
  N 0 (GT c n M.length Y Y Y Y Y) M1 (by omega) ⟨[],Y,Y,Y,Y,Y,rfl,u1,B3 _,⟨fun t h=>by simp at h,List.nodup_nil⟩,K.le (by omega),fun e l h q=>h.app.oth E q⟩
 obtain⟨vs,pm,pw,cp⟩:=XU (c:=c) (n:=n) (g3:=g3) (g4:=g4) (g5:=g5) (g6:=g6) (g7:=g7) A u.2 (by omega);refine⟨vs,M',iS rfl ?_,⟨fun t ht=>u.1 t<|pm.mem_iff.mp ht,(pm.map Tie.key).nodup_iff.mpr u.2⟩,pw,by rw[pm.length_eq];omega,B.le (by omega),C⟩;unfold qR;show bC _ _ [Z (.c c),Z<|I n,Y,Y,Y,Y,Y,Y] M=_;rw[aU G,aU<|pD P Q];simp only[bT,cp,Option.bind_some]
noncomputable def spl(c:Nat):Te->Tw (Te)
 |[]=>[[]]
 |a::r=>if a=c then[]::spl c r else match spl c r with
  |[]=>[[a]]
  |p::ps=>(a::p)::ps
noncomputable def pP(c:Nat):Tw (Te)->Te
 |[]=>[]
 |[p]=>p
 |p::q::ps=>p++c::pP c (q::ps)
theorem aBD(c:Nat):∀xs,∃p ps,spl c xs=p::ps
 |[]=>⟨[],[],rfl⟩
 |a::r=>by
  unfold spl;by_cases h:a=c
  .rw[A4 h];exact⟨_,_,rfl⟩
  .rw[B0 h];obtain⟨p,ps,e⟩:=aBD c r;rw[e];exact⟨_,_,rfl⟩
theorem NP{c:Nat}:∀{xs:Te},c∉xs->spl c xs=[xs]
 |[]=>fun _=>rfl
 |a::r=>fun h=>by
  have k:a≠c:=fun e=>h (by rw[e];exact C4);have l:=NP (c:=c) (xs:=r) fun q=>h<|C0 _ q;unfold spl;rw[B0 k,l]
theorem SY{c:Nat}:∀{xs ys:Te},c∉xs->spl c (xs++c::ys)=xs::spl c ys
 |[],ys=>fun _=>by
  show spl c (c::ys)=_;rw[spl,A4 rfl]
 |a::r,ys=>fun h=>by
  have k:a≠c:=fun e=>h (by rw[e];exact C4);have l:=SY (c:=c) (xs:=r) (ys:=ys) fun q=>h<|C0 _ q;show spl c (a::(r++c::ys))=_;rw[spl,B0 k,l]
theorem wJ{c:Nat}:∀{ps:Tw (Te)},ps≠[]->(∀p∈ps,c∉p)->spl c (pP c ps)=ps
 |[]=>fun h _=>absurd rfl h
 |[p]=>fun _ h=>NP<|h p C4
 |p::q::ps=>fun _ h=>by
  show spl c (p++c::pP c (q::ps))=_;rw[SY (h p C4),wJ (ps:=q::ps) (by simp) fun r k=>h r<|C0 _ k]
noncomputable abbrev sg(x:Str):Te:=x.cps.toList
def cL(x y:Str):sg (x++y)=sg x++sg y:=by
 show(x.cps++y.cps).toList=_;rw[Array.toList_append]
theorem sS(c:Nat):∀ps:Tc,sg (Str.join ⟨#[c]⟩ ps)=pP c (ps.map sg)
 |[]=>rfl
 |[p]=>rfl
 |p::q::ps=>by
  show sg (p++⟨#[c]⟩++Str.join ⟨#[c]⟩ (q::ps))=_;rw[cL,cL,sS c (q::ps)];show(sg p++[c])++_=sg p++c::pP c ((q::ps).map sg);rw[E5];rfl
def aAA(x:Str)(c:Nat):Txt.split x ⟨#[c]⟩≠[]:=by
 unfold Txt.split;split
 .simp
 .split
  .simp
  .intro h;have:=length_partsBetween x (Builtin.Str.occurrences x ⟨#[c]⟩ 0 x.length (x.length+1)) (⟨#[c]⟩:Str).length;rw[h]at this;simp at this
def rT(x:Str)(c:Nat):(Txt.split x ⟨#[c]⟩).map sg=spl c (sg x):=by
 have k:Str.join ⟨#[c]⟩ (Txt.split x ⟨#[c]⟩)=x:=StrLaws.join_split x ⟨#[c]⟩;have l:=StrLaws.split_free x c;have h:=sS c<|Txt.split x ⟨#[c]⟩;rw[k]at h
 rw[h,wJ (by intro q;exact aAA x c<|List.map_eq_nil_iff.mp q) fun p o=>by
  obtain⟨q,t,rfl⟩:=List.mem_map.mp o;exact l q t]
def wds(xs:Te):Tw (Te):=(spl 32 xs).filter fun p=>!p.isEmpty
def aEI(xs:Te):Tw (Tw<|Te):=((spl 10 xs).map wds).filter fun p=>!p.isEmpty
noncomputable def jn(n:Nat):Tw (Te)->Te
 |[]=>[]
 |[p]=>p
 |p::q::ps=>p++List.replicate (n+1) 32++jn n (q::ps)
noncomputable abbrev dg(m:Nat):Te:=(Nat.toDigits 10 m).map Char.toNat
def gW(m:Nat):sg (sI (m:Int))=dg m:=W.KIN.signs_num m
def rB(h:m<10):dg m=[48+m]:=by
 have:∀d:Nat,d<10->(Nat.toDigits 10 d).map Char.toNat=[48+d]:=by decide
 exact this m h
def HV(h:¬m<10):dg m=dg (m / 10)++[48+m % 10]:=by
 have hm:m % 10<10:=Nat.mod_lt m (by decide);have t:Nat.toDigits 10 (m / 10)++Nat.toDigits 10 (m % 10)=Nat.toDigits 10 (10*(m / 10)+m % 10):=Nat.toDigits_append_toDigits (by decide) (by omega) hm;rw[Nat.div_add_mod]at t;show(Nat.toDigits 10 m).map Char.toNat=_;rw[<- t,D5];show dg (m / 10)++dg (m % 10)=_;rw[rB hm]
theorem tZ:∀(k m:Nat),m<10 ^ (k+1)->(dg m).length<=k+1/\0<(dg m).length
 |k,m,h=>by
  by_cases q:m<10
  .rw[rB q];exact⟨by show 1<=k+1;omega,by show 0<1;decide⟩
  .rw[HV q];cases k with
   |zero=>exact absurd h (by simpa using q)
   |succ k=>
    have l:m / 10<10 ^ (k+1):=by
     refine Nat.div_lt_of_lt_mul ?_;rw[Nat.pow_succ]at h;omega
    have ih:=tZ k (m / 10) l;rw[C3];exact⟨by show _+1<=_;omega,by show 0<_+1;omega⟩
def wA(m:Nat):∀c∈dg m,48<=c/\c<=57:=by
 induction m using Nat.strongRecOn with
 |_ m ih=>
  intro c k;by_cases q:m<10
  .rw[rB q]at k;rw[List.mem_singleton.mp k];omega
  .rw[HV q]at k;rcases List.mem_append.mp k with h|h
   .exact ih (m / 10) (by omega) c h
   .rw[List.mem_singleton.mp h];omega
def aGn(m:Nat)(h:0<m):∃c r,dg m=c::r/\c≠48:=by
 induction m using Nat.strongRecOn with
 |_ m ih=>
  by_cases q:m<10
  .exact⟨48+m,[],rB q,by omega⟩
  .obtain⟨c,r,e,n⟩:=ih (m / 10) (by omega) (by omega);exact⟨c,r++[48+m % 10],by rw[HV q,e];rfl,n⟩
def aCJ(m:Nat):NumText.digitsVal (dg m)=m:=W.KIN.val_back m
def str_len(x:Str):x.length=(sg x).length:=by
 show x.cps.size=_;rw[A0n]
def ZK{k:Nat}(h:m<10 ^ (k+1))(q:k<=600):PySem.intText? (sI (m:Int))=Z (m:Int):=by
 have l:=tZ k m h
 have hd:NumText.AllDigits (sg<|sI (m:Int)):=by
  rw[gW];exact wA m
 have o:sg (sI (m:Int))≠[]:=by
  rw[gW];intro e;rw[e]at l;exact absurd l.2 (by decide)
 have e:=PySem.intText_digits hd o (by rw[str_len,gW];omega);rw[show(sI (m:Int)).cps.toList=dg m from gW m,aCJ]at e;exact e
theorem BN{h:Type}:∀l:Tw h,boolsOf (l.map fun _=>.bool true)=Z (l.map fun _=>true)
 |[]=>rfl
 |_::l=>by
  show(boolsOf (l.map fun _=>.bool true)).bind _=_;rw[BN l];rfl
def all_true{h:Type}(l:Tw h)(M:Sto):EM [.d (.list (l.map fun _=>.bool true))] M=Z (B true,M):=by
 have:(l.map fun _=>true).all id=true:=by
  rw[List.all_map];exact List.all_eq_true.mpr fun _ _=>rfl
 simp only[EM,BN,Option.bind_some,this]
def gJ{M1:Sto}{b:Bool}(h:f γ M=Z (B b,M1)):gB f γ M=Z (b,M1):=by
 unfold gB;rw[h];rfl
def XY:sg ("0123456789":Str)=[48,49,50,51,52,53,54,55,56,57]:=by decide
def YA(h:48<=c/\c<=57):inS false (S ⟨#[c]⟩) (S "0123456789") M=Z (B true,M):=by
 have e:(!(Builtin.Str.occurrences ("0123456789":Str) ⟨#[c]⟩ 0 ("0123456789":Str).length 1).isEmpty)=true:=by
  rw[StrLaws.found_one];refine D9 ?_;show c∈sg ("0123456789":Str);rw[XY];simp only[List.mem_cons,List.not_mem_nil,or_false];omega
 show Z (CD.d (.bool (!(Builtin.Str.occurrences ("0123456789":Str) ⟨#[c]⟩ 0 ("0123456789":Str).length 1).isEmpty)),M)=_;rw[e]
def oR{y:Str}(h:sg x=sg y):x=y:=by
 obtain⟨⟨a⟩⟩:=x;obtain⟨⟨b⟩⟩:=y;have:a=b:=h;rw[this]
def aAf(x:Str):DL x=(sg x).map fun c=>S ⟨#[c]⟩:=rfl
def qK{k:Nat}(h:m<10 ^ (k+1))(V:k<600):cQ [S (sI (m:Int)),I ((k+1:Nat):Int)] M=Z (I (m:Int),M):=by
 have l:=tZ k m h;have ln:(sI (m:Int)).length=(dg m).length:=by rw[str_len,gW]
 obtain⟨J,C⟩:∃J:Int,J=((k+1:Nat):Int):=⟨_,rfl⟩;obtain⟨N,E⟩:∃N:Int,N=((sI (m:Int)).length:Int):=⟨_,rfl⟩;rw[<- C]
 have o:(sI (m:Int)).cps.all (·<128)=true:=by
  rw[<- Array.all_toList];refine List.all_eq_true.mpr fun c t=>?_;have:=wA m c (by rw[<- gW];exact t);exact D9 (by omega)
 have G:gH [Z (S<|sI (m:Int)),Z<|I J] M=Z (.d (.list ((sg<|sI (m:Int)).map fun _=>.bool true)),M):=by
  have it:CG (aD 0) [Z (S<|sI (m:Int)),Z<|I J] M=Z ((sg<|sI (m:Int)).map fun c=>S ⟨#[c]⟩,M):=by
   unfold CG;rw[show aD 0 [Z (S<|sI (m:Int)),Z<|I J] M=Z (S<|sI (m:Int),M)from rfl,A1];dsimp only;rw[A4 o,aAf]
  unfold gH;refine jT it (by rw[A3,gW];omega) ?_ (by rw[A3,gW];omega);rw[show pV [Y] [Z (S<|sI (m:Int)),Z<|I J]=[Y]from rfl];refine oP (fun c=>S ⟨#[c]⟩) (fun _=>.bool true) (sg<|sI (m:Int)) Y fun c t=>?_;exact bN (show aD 0 [Z (S ⟨#[c]⟩)] M=Z (S ⟨#[c]⟩,M)from rfl) (show fC (.str "0123456789") [Z (S ⟨#[c]⟩)] M=Z (S "0123456789",M)from rfl)<|YA<|wA m c (by rw[<- gW];exact t)
 have le:PF [S (sI (m:Int))] M=Z (I N,M):=by
  have:(sI (m:Int)).length<=sizeLine:=by rw[ln,szl];omega
  simp only[PF,if_pos this,E]
 have t1:kX (gB<|pC ltI leI (fC (.int 0)) (aL PF<|aB (aD 0) aG)<|aD 1) [Z (S<|sI (m:Int)),Z<|I J] M=Z (false,M):=by
  have H:decide ((0:Int)<N)=true:=D9 (by omega);have K:decide (N<=J)=true:=D9 (by omega);simp![le,H,K]
 have t2:kX (gB<|aL EM<|aB gH aG) [Z (S<|sI (m:Int)),Z<|I J] M=Z (false,M):=by
  have:=gJ<|bA (F:=EM) (aI G aS)<|all_true _ M;unfold kX;rw[this];rfl
 have s1:sIf (gOr (kX<|gB<|pC ltI leI (fC (.int 0)) (aL PF<|aB (aD 0) aG)<|aD 1)<|kX<|gB<|aL EM<|aB gH aG) (bT<|fC .none) cN [Z (S<|sI (m:Int)),Z<|I J] M=Z (.nx [Z (S<|sI (m:Int)),Z<|I J],M):=by
  refine(vR ?_).trans rfl;unfold gOr;rw[t1];exact t2
 have O:gOr (gB<|fOp (eqX false) (aD 0)<|fC (.str "0")) (gB<|fOp (eqX true) (fOp ixS (aD 0)<|fC (.int 0))<|fC (.str "0")) [Z (S<|sI (m:Int)),Z<|I J] M=Z (true,M):=by
  cases q:(sI (m:Int)==("0":Str))with
  |true=>
   have e:gB (fOp (eqX false) (aD 0)<|fC (.str "0")) [Z (S<|sI (m:Int)),Z<|I J] M=Z (true,M):=gJ (bN (show aD 0 [Z (S<|sI (m:Int)),Z<|I J] M=Z (S<|sI (m:Int),M)from rfl) (show fC (.str "0") [Z (S<|sI (m:Int)),Z<|I J] M=Z (S "0",M)from rfl) (show eqX false (S<|sI (m:Int)) (S "0") M=Z (B true,M)by
    show Z (CD.d (.bool (sI (m:Int)==("0":Str))),M)=_;rw[q]))
   unfold gOr;rw[e];rfl
  |false=>
   have e:gB (fOp (eqX false) (aD 0)<|fC (.str "0")) [Z (S<|sI (m:Int)),Z<|I J] M=Z (false,M):=gJ (bN (show aD 0 [Z (S<|sI (m:Int)),Z<|I J] M=Z (S<|sI (m:Int),M)from rfl) (show fC (.str "0") [Z (S<|sI (m:Int)),Z<|I J] M=Z (S "0",M)from rfl) (show eqX false (S<|sI (m:Int)) (S "0") M=Z (B false,M)by
    show Z (CD.d (.bool (sI (m:Int)==("0":Str))),M)=_;rw[q]))
   have P:0<m:=by
    rcases Nat.eq_zero_or_pos m with z|z
    .subst z;exact absurd q (by decide)
    .exact z
   obtain⟨c,r,Q,R⟩:=aGn m P
   have ix:ixS (S<|sI (m:Int)) (I 0) M=Z (S ⟨#[c]⟩,M):=by
    have z:(sI (m:Int)).length<=sizeLine:=by rw[ln,szl];omega
    have u:atI (sI (m:Int)).cps.toList 0=Z c:=by
     rw[show(sI (m:Int)).cps.toList=dg m from gW m,Q];exact pA (xs:=c::r) (k:=0) rfl
    simp only[ixS,if_pos z,u,Option.bind_some]
   have ne:(((⟨#[c]⟩:Str))==("0":Str))=false:=by
    refine beq_eq_false_iff_ne.mpr fun h=>R ?_;have A:sg (⟨#[c]⟩:Str)=sg ("0":Str):=by rw[h]
    rw[show sg ("0":Str)=[48]by decide]at A;injection A
   have U:=gJ (bN (k:=eqX true) (bN (k:=ixS) (show aD 0 [Z (S<|sI (m:Int)),Z<|I J] M=Z (S<|sI (m:Int),M)from rfl) (bR (i:=0)) ix) (show fC (.str "0") [Z (S<|sI (m:Int)),Z<|I J] M=Z (S "0",M)from rfl) (show eqX true (S ⟨#[c]⟩) (S "0") M=Z (B true,M)by
    show Z (CD.d (.bool (!((⟨#[c]⟩:Str)==("0":Str)))),M)=_;rw[ne];rfl))
   unfold gOr;rw[e];exact U
 have it:SM [S (sI (m:Int))] M=Z (I (m:Int),M):=by
  have z:(sI (m:Int)).length<=640:=by rw[ln];omega
  simp only[SM,if_pos z,ZK h (by omega),Option.bind_some]
 unfold cQ;refine iS rfl ?_;show lN [Z (S<|sI (m:Int)),Z<|I J] M=_;unfold lN;rw[aU s1];unfold bT fIf;rw[O,A1];dsimp only;rw[A4 rfl,bA (F:=SM) (aI (show aD 0 [Z (S<|sI (m:Int)),Z<|I J] M=Z (S<|sI (m:Int),M)from rfl) aS) it];rfl
def pH(h:m<100):bX [S (sI (m:Int))] M=Z (I (m:Int),M):=by
 have e:=qK (m:=m) (k:=1) (M:=M) (by simpa using h) (by decide);unfold bX;refine iS rfl ?_;show nU [Z (S<|sI (m:Int))] M=_;unfold nU bT;rw[bA (F:=cQ) (aI (show aD 0 [Z (S<|sI (m:Int))] M=Z (S<|sI (m:Int),M)from rfl)<|aI (bR (i:=2)) aS) e];rfl
def ZS(h:c∉sg x):iR x ⟨#[c]⟩=[x,Str.empty,Str.empty]:=by
 unfold iR;rcases StrLaws.occ_head x ⟨#[c]⟩ 1 (by decide)with⟨e,_⟩|⟨i,r,e,ha,_⟩
 .rw[e]
 .have:=(StrLaws.subAt_one x c i).mp ha;exact absurd (A0k this) h
def aFJ{a b:Te}(h:sg x=a++c::b)(ha:c∉a):iR x ⟨#[c]⟩=[⟨a.toArray⟩,⟨#[c]⟩,⟨b.toArray⟩]:=by
 have at_:x.cps.toList[a.length]?=Z c:=by
  show(sg x)[a.length]?=Z c;rw[h,S4<|B3 _,Nat.sub_self];rfl
 have l:x.length=a.length+1+b.length:=by
  rw[str_len,h,C3,B5];omega
 unfold iR;rcases StrLaws.occ_head x ⟨#[c]⟩ 1 (by decide)with⟨e,hn⟩|⟨i,r,e,hi,hn⟩
 .exact absurd ((StrLaws.subAt_one x c a.length).mpr at_)<|hn a.length
 .have o:=(StrLaws.subAt_one x c i).mp hi
  have t:i=a.length:=by
   rcases Nat.lt_trichotomy i a.length with q|q|q
   .have k:(sg x)[i]?=Z c:=o;rw[h,S6 q]at k;exact absurd (A0k k) ha
   .exact q
   .exact absurd ((StrLaws.subAt_one x c a.length).mpr at_)<|hn a.length q
  subst t;rw[e]
  have u:Builtin.Str.strSub x 0 a.length=⟨a.toArray⟩:=by
   apply oR
   show(Builtin.Str.strSub x 0 a.length).cps.toList=_;rw[StrLaws.strSub_toList,List.drop_zero,Nat.sub_zero];show(sg x).take a.length=_;rw[h,List.take_left]
  have A:Builtin.Str.strSub x (a.length+(⟨#[c]⟩:Str).length) x.length=⟨b.toArray⟩:=by
   apply oR
   show(Builtin.Str.strSub x (a.length+1) x.length).cps.toList=_;rw[StrLaws.strSub_toList];show((sg x).drop (a.length+1)).take (x.length-(a.length+1))=b;rw[h,l]
   have:(a++c::b).drop (a.length+1)=b:=by
    rw[show a++c::b=(a++[c])++b by simp,List.drop_left' (by simp)]
   rw[this];exact List.take_of_length_le (by omega)
  show[Builtin.Str.strSub x 0 a.length,_,_]=_;rw[u,A]
def LZ(m:Nat):47∉dg m:=fun h=>by have:=wA m 47 h;omega
def aGH:("/":Str)=⟨#[47]⟩:=by decide
def aHL(h:sI (m:Int)="1"):m=1:=by
 have e:dg m=[49]:=by
  rw[<- gW,h];decide
 rw[<- aCJ m,e];decide
def aCT(m:Nat):(⟨(dg m).toArray⟩:Str)=sI (m:Int):=oR (by rw[gW])
def aDz{a:Nat}:iR (fM (a:Int) 1) "/"=[sI (a:Int),Str.empty,Str.empty]:=by
 have e:fM (a:Int) 1=sI (a:Int):=by unfold fM;exact A4 rfl
 rw[e,aGH];exact ZS (by rw[gW];exact LZ a)
def aBG{a b:Nat}(h:b≠1):iR (fM (a:Int) (b:Int)) "/"=[sI (a:Int),"/",sI (b:Int)]:=by
 have e:fM (a:Int) (b:Int)=sI (a:Int)++"/"++sI (b:Int):=by
  unfold fM;rw[B0 (by simp;omega)]
 have s:sg (fM (a:Int) (b:Int))=dg a++47::dg b:=by
  rw[e,cL,cL,gW,gW,E5];rfl
 have:=aFJ (c:=47) s<|LZ a;rw[aGH,this,aCT,aCT]
def aIK{g:EF}{x:CD}(h:f γ M=Z (B true,M))(k:g γ M=Z (x,M)):pT f g γ M=Z (x,M):=by
 unfold pT;rw[h];exact k
def JT(ha:0<=a)(l:1<=b):gZ [.d (.tuple [.int a,.int b])] M=Z (B (((Int.gcd a b:Nat):Int)==1),M):=by
 have n:qL (.tuple [.int a,.int b])=true:=by
  rw[show qL (.tuple [.int a,.int b])=(decide (0<=a)&&decide (1<=b))from rfl,D9 ha,D9 l];rfl
 have h:=cY (.tuple [.int a,.int b]) M;rw[n]at h;have c:=LR (a:=a) (b:=b) M ha (by omega);obtain⟨J,o⟩:∃J:Int,((Int.gcd a b:Nat):Int)=J:=⟨_,rfl⟩;rw[o]at c ⊢;have v:aD 0 [Z (.d (.tuple [.int a,.int b]))] M=Z (.d (.tuple [.int a,.int b]),M):=rfl;have q:=bN (k:=eqX false) (bA (F:=qX) (aI (bN (k:=ixF) v (bR (i:=0)) aMe)<|aI (bN (k:=ixF) v (bR (i:=1)) aMm) aS) c) (bR (i:=1)) (show eqX false (I J) (I 1) M=Z (B (J==1),M)from rfl);unfold gZ;refine iS rfl ?_;show lJ [Z (.d (.tuple [.int a,.int b]))] M=_;unfold lJ bT;rw[aIK (bA (F:=bQ) (aI v aS) h) q];rfl
def aCE{M1 M2:Sto}{x:CD}(h:f γ M=Z (x,M1))(k:g x γ M1=Z (γ',M2)):aY f g γ M=Z (.nx γ',M2):=by
 simp only[aY,h,k,Option.bind_some]
def aHK:(("/":Str).length==0)=false:=by decide
def aEA{a b k:Nat}(ha:a<10 ^ (k+1))(h:b<10 ^ (k+1))(l:k<600):(fM (a:Int) (b:Int)).length<=2000:=by
 have o:=tZ k a ha;have q:=tZ k b h;have t:(sI (a:Int)).length=(dg a).length:=by rw[str_len,gW]
 have u:(sI (b:Int)).length=(dg b).length:=by rw[str_len,gW]
 unfold fM;split
 .omega
 .rw[zE,zE,sl1];omega
def UU(h:f γ M=Z (S x,M))(k:x.length<=10000):lO f γ M=Z (((x.length:Int) != 0),M):=by
 have z:x.length<=sizeLine:=by rw[szl];omega
 simp only[lO,h,Option.bind_some,if_pos z]
def sJ{a b:Nat}(ha:a<10 ^ 30)(H:b<10 ^ 30)(b1:1<=b):cP [S (fM (a:Int) (b:Int))] M=Z (.d (if (((Int.gcd (a:Int) (b:Int):Nat):Int)==1)=true then .tuple [.int (a:Int),.int (b:Int)]else .none),M):=by
 have nl:=aEA (k:=29) ha H (by decide);obtain⟨w,o⟩:∃w,fM (a:Int) (b:Int)=w:=⟨_,rfl⟩;have na:=qK (m:=a) (k:=29) (M:=M) ha (by decide);have X:=qK (m:=b) (k:=29) (M:=M) H (by decide);have K:=JT (a:=(a:Int)) (b:=(b:Int)) (M:=M) (by omega) (by omega);obtain⟨u,hg⟩:∃u,(((Int.gcd (a:Int) (b:Int):Nat):Int)==1)=u:=⟨_,rfl⟩;rw[hg]at K ⊢
 have lb:(sI (b:Int)).length<=10000:=by
  have l2:=tZ 29 b H;rw[str_len,gW];omega
 obtain⟨A,E⟩:∃A:Int,(a:Int)=A:=⟨_,rfl⟩;obtain⟨C,G⟩:∃C:Int,(b:Int)=C:=⟨_,rfl⟩
 have pf:∀p q r,iR w "/"=[p,q,r]->AA (S w) [S "/"] M=Z (.d (.tuple [.str p,.str q,.str r]),M):=fun p q r e=>by
  have z:(("/":Str).length==0)=false/\w.length<=sizeLine:=⟨aHK,by rw[<- o,szl];omega⟩;simp only[AA,if_pos z,e];rfl
 have step:∀p q r,iR w "/"=[p,q,r]->aY (bG "str" AA (aD 0)<|aB (fC (.str "/")) aG) (gS 3<|bK (hName 1)<|bK (hName 2)<|bK (hName 3) gU) [Z (S w),Y,Y,Y,Y] M=Z (.nx [Z (S w),Z<|S p,Z<|S q,Z<|S r,Y],M):=fun p q r e=>
  aCE (sO (show aD 0 [Z (S w),Y,Y,Y,Y] M=Z (S w,M)from rfl) rfl (aI (show fC (.str "/") [Z (S w),Y,Y,Y,Y] M=Z (S "/",M)from rfl) aS)<|pf p q r e) rfl
 have l:∀O P Q,bT (fIf (gB<|aL gZ<|aB (aD 4) aG) (aD 4)<|fC .none) [Z (S w),O,P,Q,Z (.d (.tuple [.int A,.int C]))] M=Z (.rt (.d (if u=true then .tuple [.int A,.int C]else .none)),M):=fun O P Q=>by
  have W:aD 4 [Z (S w),O,P,Q,Z (.d (.tuple [.int A,.int C]))] M=Z (.d (.tuple [.int A,.int C]),M):=rfl;rw[E,G]at K;have t:=gJ<|bA (F:=gZ) (aI W aS) K;unfold bT fIf;rw[t,A1];cases u
  .rfl
  .dsimp only;rw[A4 rfl,W];rfl
 rw[o,E,G];unfold cP;refine iS rfl ?_;show lL [Z (S w),Y,Y,Y,Y] M=_;unfold lL;by_cases q:b=1
 .subst q;have e:iR w "/"=[sI (a:Int),Str.empty,Str.empty]:=by rw[<- o];exact aDz
  rw[aU (step _ _ _ e)];have R:∀g4,aD 2 [Z (S w),Z<|S<|sI (a:Int),Z<|S Str.empty,Z<|S Str.empty,g4] M=Z (S Str.empty,M):=fun _=>rfl;have t0:∀g4,lO (aD 2) [Z (S w),Z<|S<|sI (a:Int),Z<|S Str.empty,Z<|S Str.empty,g4] M=Z (false,M):=fun g4=>(UU (R g4) (by decide)).trans rfl
  have s1:sIf (sV (lO<|aD 2)<|gB<|fOp (eqX false) (aD 3)<|fC (.str "1")) (bT<|fC .none) cN [Z (S w),Z<|S<|sI (a:Int),Z<|S Str.empty,Z<|S Str.empty,Y] M=Z (.nx [Z (S w),Z<|S<|sI (a:Int),Z<|S Str.empty,Z<|S Str.empty,Y],M):=by
   refine(vR ?_).trans rfl;unfold sV;rw[t0];rfl
  rw[aU s1];have U:=bA (F:=cQ) (aI (show aD 1 [Z (S w),Z<|S<|sI (a:Int),Z<|S Str.empty,Z<|S Str.empty,Y] M=Z (S<|sI (a:Int),M)from rfl)<|aI (bR (i:=30)) aS) na
  have n2:fIf (lO<|aD 2) (aL cQ<|aB (aD 3)<|aB (fC (.int 30)) aG) (fC (.int 1)) [Z (S w),Z<|S<|sI (a:Int),Z<|S Str.empty,Z<|S Str.empty,Y] M=Z (I ((1:Nat):Int),M):=by
   unfold fIf;rw[t0];rfl
  have V:=bM (i:=4)<|oJ (aI U<|aI n2 aS) (ds:=[.int (a:Int),.int ((1:Nat):Int)]) rfl (show(2:Nat)<=500 by decide);rw[aU V,E,G];exact l _ _ _
 .have e:iR w "/"=[sI (a:Int),"/",sI (b:Int)]:=by rw[<- o];exact aBG q
  rw[aU (step _ _ _ e)];have R:∀g4,aD 2 [Z (S w),Z<|S<|sI (a:Int),Z<|S "/",Z<|S<|sI (b:Int),g4] M=Z (S "/",M):=fun _=>rfl;have t0:∀g4,lO (aD 2) [Z (S w),Z<|S<|sI (a:Int),Z<|S "/",Z<|S<|sI (b:Int),g4] M=Z (true,M):=fun g4=>(UU (R g4) (by decide)).trans rfl;have ne:(sI (b:Int)==("1":Str))=false:=beq_eq_false_iff_ne.mpr fun h=>q<|aHL h
  have s1:sIf (sV (lO<|aD 2)<|gB<|fOp (eqX false) (aD 3)<|fC (.str "1")) (bT<|fC .none) cN [Z (S w),Z<|S<|sI (a:Int),Z<|S "/",Z<|S<|sI (b:Int),Y] M=Z (.nx [Z (S w),Z<|S<|sI (a:Int),Z<|S "/",Z<|S<|sI (b:Int),Y],M):=by
   refine(vR ?_).trans rfl;unfold sV;rw[t0]
   exact gJ (bN (show aD 3 [Z (S w),Z<|S<|sI (a:Int),Z<|S "/",Z<|S<|sI (b:Int),Y] M=Z (S<|sI (b:Int),M)from rfl) (show fC (.str "1") [Z (S w),Z<|S<|sI (a:Int),Z<|S "/",Z<|S<|sI (b:Int),Y] M=Z (S "1",M)from rfl) (show eqX false (S<|sI (b:Int)) (S "1") M=Z (B false,M)by
    show Z (CD.d (.bool (sI (b:Int)==("1":Str))),M)=_;rw[ne]))
  rw[aU s1];have U:=bA (F:=cQ) (aI (show aD 1 [Z (S w),Z<|S<|sI (a:Int),Z<|S "/",Z<|S<|sI (b:Int),Y] M=Z (S<|sI (a:Int),M)from rfl)<|aI (bR (i:=30)) aS) na
  have n2:fIf (lO<|aD 2) (aL cQ<|aB (aD 3)<|aB (fC (.int 30)) aG) (fC (.int 1)) [Z (S w),Z<|S<|sI (a:Int),Z<|S "/",Z<|S<|sI (b:Int),Y] M=Z (I (b:Int),M):=by
   unfold fIf;rw[t0,A1];dsimp only;rw[A4 rfl];exact bA (F:=cQ) (aI (show aD 3 [Z (S w),Z<|S<|sI (a:Int),Z<|S "/",Z<|S<|sI (b:Int),Y] M=Z (S<|sI (b:Int),M)from rfl)<|aI (bR (i:=30)) aS) X
  have V:=bM (i:=4)<|oJ (aI U<|aI n2 aS) (ds:=[.int (a:Int),.int (b:Int)]) rfl (show(2:Nat)<=500 by decide);rw[aU V,E,G];exact l _ _ _
def yW{a b:Nat}(ha:a<10 ^ 30)(h:b<10 ^ 30)(k:1<=b)(g:Int.gcd (a:Int) (b:Int)=1):cP [S (fM (a:Int) (b:Int))] M=Z (.d (.tuple [.int (a:Int),.int (b:Int)]),M):=by
 rw[sJ ha h k,g];rfl
def WA:eqX true (S x) (S x) M=Z (B false,M):=by
 show Z (CD.d (.bool (!(x==x))),M)=_;rw[A0g];rfl
def aJx{f g:SF}{x:CD}(h:f γ M=Z (.rt x,M')):bC f g γ M=Z (.rt x,M'):=by simp only[bC,h,Option.bind_some]
def tW(w:Str)(t:Tie):Tc:=[w,sI t.i,sI t.j,fM t.a t.b]
def LB{w:Str}{x y z:Ua}(t:bX [S A] M=Z (.d x,M))(u:bX [S C] M=Z (.d y,M))(E:cP [S D] M=Z (.d z,M))(hi:inD false (.d .none) (.d (.tuple [x,y,z])) M=Z (B nn,M)):
 bI [.d (.list ([w,A,C,D].map .str)),S w] M=Z (.d (if nn=true then .none else .tuple [x,y,z]),M):=by
 obtain⟨W,h⟩:∃W,CD.d (.list ([w,A,C,D].map .str))=W:=⟨_,rfl⟩;have G:ixF W (I 0) M=Z (S w,M):=by rw[<- h];rfl
 have x1:ixF W (I 1) M=Z (S A,M):=by rw[<- h];rfl
 have H:ixF W (I 2) M=Z (S C,M):=by rw[<- h];rfl
 have K:ixF W (I 3) M=Z (S D,M):=by rw[<- h];rfl
 have le:hV [W] M=Z (I 4,M):=by rw[<- h];rfl
 rw[h];have l:∀o,aD 0 [Z W,Z<|S w,o] M=Z (W,M):=fun _=>rfl;have O:∀o,aD 1 [Z W,Z<|S w,o] M=Z (S w,M):=fun _=>rfl
 have s1:sIf (gOr (gB<|fOp (eqX true) (aL hV<|aB (aD 0) aG)<|fC (.int 4))<|gB<|fOp (eqX true) (fOp ixF (aD 0)<|fC (.int 0))<|aD 1) (bT<|fC .none) cN [Z W,Z<|S w,Y] M=Z (.nx [Z W,Z<|S w,Y],M):=by
  refine(vR ?_).trans rfl;have t1:=gJ<|bN (k:=eqX true) (bA (F:=hV) (aI (l Y) aS) le) (bR (i:=4)) (show eqX true (I 4) (I 4) M=Z (B false,M)from rfl);have t2:=gJ<|bN (k:=eqX true) (bN (k:=ixF) (l Y) (bR (i:=0)) G) (O Y) WA;unfold gOr;rw[t1];exact t2
 have P:=bA (F:=bX) (aI (bN (k:=ixF) (l Y) (bR (i:=1)) x1) aS) t;have Q:=bA (F:=bX) (aI (bN (k:=ixF) (l Y) (bR (i:=2)) H) aS) u;have R:=bA (F:=cP) (aI (bN (k:=ixF) (l Y) (bR (i:=3)) K) aS) E;have U:=bM (i:=2)<|oJ (aI P<|aI Q<|aI R aS) (ds:=[x,y,z]) rfl (show(3:Nat)<=500 by decide);have q:aD 2 [Z W,Z<|S w,Z (.d (.tuple [x,y,z]))] M=Z (.d (.tuple [x,y,z]),M):=rfl;have nn':=gJ<|bN (k:=inD false) (show fC .none [Z W,Z<|S w,Z (.d (.tuple [x,y,z]))] M=Z (.d .none,M)from rfl) q hi;unfold bI;refine iS rfl ?_;show vK [Z W,Z<|S w,Y] M=_;unfold vK;rw[aU s1,aU U];show bT _ [Z W,Z<|S w,Z (.d (.tuple [x,y,z]))] M=_;unfold bT fIf;rw[nn',A1];cases nn
 .dsimp only;rw[B0 B2,q];rfl
 .rfl
def qE(h:RdT t):bI [.d (.list ((tW w t).map .str)),S w] M=Z (.d (fZ false t),M):=by
 obtain⟨i,j,a,b⟩:=t;obtain⟨⟨k,B⟩,⟨l,C⟩,⟨o,E⟩,⟨G,H⟩,g⟩:=h;dsimp only at k B l C o E G H g;obtain⟨i,rfl⟩:=O2 k;obtain⟨j,rfl⟩:=O2 l;obtain⟨a,rfl⟩:=O2 o;obtain⟨b,rfl⟩:=O2 (show 0<=b by omega);have q:=pH (m:=i) (M:=M) (by omega);have u:=pH (m:=j) (M:=M) (by omega);have A:=yW (a:=a) (b:=b) (M:=M) (by omega) (by omega) (by omega) g;unfold tW;dsimp only;obtain⟨O,hi⟩:∃z:Int,(i:Int)=z:=⟨_,rfl⟩;obtain⟨P,I⟩:∃z:Int,(j:Int)=z:=⟨_,rfl⟩;obtain⟨Q,ha⟩:∃z:Int,(a:Int)=z:=⟨_,rfl⟩;obtain⟨R,K⟩:∃z:Int,(b:Int)=z:=⟨_,rfl⟩;rw[hi]at q ⊢;rw[I]at u ⊢;rw[ha,K]at A ⊢;exact LB (nn:=false) q u A rfl
def vB{h:Type}(x:h)(r:Tw h):eN (x::r) (Z 1) Y=r:=by
 unfold eN
 have k:HT.sIx (x::r).length 0 (Z 1)=1:=by
  unfold HT.sIx;simp
  try omega
 have l:HT.sIx (x::r).length (x::r).length Y=r.length+1:=rfl;rw[k,l,List.drop_one,List.tail_cons];exact List.take_of_length_le (by omega)
def PX(ns:T8):(ns.map PyData.int).all SeqAt.shaped=true:=by
 rw[List.all_map];exact List.all_eq_true.mpr fun _ _=>rfl
def aER(ns:T8):((ns.map PyData.int).any fun d=>PyData.eqv d .none)=false:=by
 rw[List.any_map]
 exact List.any_eq_false.mpr fun k _=>by
  show ¬(PyData.eqv (.int k) .none=true);exact B2
def aFD:inD false (.d .none) (.d (sqK false ns)) M=Z (B false,M):=by
 show(if (SeqAt.shaped .none&&(ns.map PyData.int).all SeqAt.shaped)=true then Z (CD.d (.bool ((ns.map PyData.int).any fun d=>PyData.eqv d .none)),M)else Y)=_;rw[PX,aER];rfl
def uX(ns:T8):Tc:="side"::ns.map sI
def XE{n:Int}{ns:T8}(h:∀k∈n::ns,0<=k/\k<100)(O:ns.length<=50):cZ [.d (.list ((uX (n::ns)).map .str))] M=Z (.d (sqK false (n::ns)),M):=by
 obtain⟨W,l⟩:∃W,CD.d (.list ((uX (n::ns)).map .str))=W:=⟨_,rfl⟩
 have u:ixF W (I 0) M=Z (S "side",M):=by
  rw[<- l];show(atI (PyData.str "side"::((n::ns).map sI).map PyData.str) ((0:Nat):Int)).bind _=_;rw[pA (k:=0) (x:=PyData.str "side") rfl];rfl
 obtain⟨N,q⟩:∃N:Int,(((uX (n::ns)).map PyData.str).length:Int)=N:=⟨_,rfl⟩
 have A:¬N<2:=by
  rw[<- q];unfold uX;rw[A3,B5,A3,B5];omega
 have le:hV [W] M=Z (I N,M):=by rw[<- l,<- q];rfl
 have sl:slF W (Z 1) Y M=Z (.d (.list (((n::ns).map sI).map .str)),M):=by
  rw[<- l];show Z (CD.d (.list (eN (.str "side"::((n::ns).map sI).map PyData.str) (Z 1) Y)),M)=_;rw[vB]
 rw[l];have o:∀C,aD 0 [Z W,C] M=Z (W,M):=fun _=>rfl
 have E:lR [Z W,Y] M=Z (.d (.list ((n::ns).map .int)),M):=by
  have it:bD (fSl (aD 0) (bW<|fC (.int 1)) bF) [Z W,Y] M=Z ((n::ns).map fun k=>S<|sI k,M):=by
   have e:fSl (aD 0) (bW<|fC (.int 1)) bF [Z W,Y] M=Z (.d (.list (((n::ns).map sI).map .str)),M):=by
    unfold fSl;rw[o,A1];exact sl
   unfold bD;rw[e,A1];show(Z<|((n::ns).map sI).map PyData.str).bind _=_;rw[A1,D3,D3];rfl
  unfold lR;refine jT it (by rw[A3,B5];omega) ?_ (by rw[A3,B5];omega);rw[show pV [Y] [Z W,Y]=[Y]from rfl];refine oP (fun k=>S<|sI k) (fun k=>.int k) (n::ns) Y fun k G=>?_;obtain⟨H,P⟩:=h k G;obtain⟨m,rfl⟩:=O2 H;exact bA (F:=bX) (aI (show aD 0 [Z (S<|sI ((m:Nat):Int))] M=Z (S<|sI ((m:Nat):Int),M)from rfl) aS)<|pH (by omega)
 have s1:sIf (gOr (gB<|fOp ltI (aL hV<|aB (aD 0) aG)<|fC (.int 2))<|gB<|fOp (eqX true) (fOp ixF (aD 0)<|fC (.int 0))<|fC (.str "side")) (bT<|fC .none) cN [Z W,Y] M=Z (.nx [Z W,Y],M):=by
  refine(vR ?_).trans rfl
  have t1:=gJ (bN (k:=ltI) (bA (F:=hV) (aI (o Y) aS) le) (bR (i:=2)) (show ltI (I N) (I 2) M=Z (B false,M)by
   show Z (CD.d (.bool (decide (N<2))),M)=_;rw[E3 A]))
  have t2:=gJ<|bN (k:=eqX true) (bN (k:=ixF) (o Y) (bR (i:=0)) u) (show fC (.str "side") [Z W,Y] M=Z (S "side",M)from rfl) WA;unfold gOr;rw[t1];exact t2
 have K:aY (aL jA<|aB lR aG) (hName 1) [Z W,Y] M=Z (.nx [Z W,Z (.d (sqK false (n::ns)))],M):=bM<|bA (F:=jA) (aI E aS) (show jA [.d (.list ((n::ns).map .int))] M=Z (.d (sqK false (n::ns)),M)from rfl);have t:aD 1 [Z W,Z (.d (sqK false (n::ns)))] M=Z (.d (sqK false (n::ns)),M):=rfl;have nn:=gJ<|bN (k:=inD false) (show fC .none [Z W,Z (.d (sqK false (n::ns)))] M=Z (.d .none,M)from rfl) t aFD;unfold cZ;refine iS rfl ?_;show sT [Z W,Y] M=_;unfold sT;rw[aU s1,aU K];unfold bT fIf;rw[nn,A1];dsimp only;rw[B0 B2,t];rfl
def aDv(h:x.length<=1000000):sN x ⟨#[c]⟩=true:=by
 have o:=StrLaws.occ_length_le_len x ⟨#[c]⟩ 0 x.length (x.length+1)
 have p:(Builtin.Str.partsBetween x (Builtin.Str.occurrences x ⟨#[c]⟩ 0 x.length (x.length+1)) (⟨#[c]⟩:Str).length).length<=sizeLine:=by
  rw[length_partsBetween,szl];omega
 have q:(Txt.split x ⟨#[c]⟩).length<=sizeLine:=by
  unfold Txt.split;split
  .show(1:Nat)<=_;rw[szl];decide
  .split
   .show(1:Nat)<=_;rw[szl];decide
   .exact p
 unfold sN;rw[D9 (show x.length<=sizeLine by rw[szl];omega),D9 p,D9 q];rfl
def rP:(Txt.split x ⟨#[c]⟩).length<=x.length+2:=by
 have o:=StrLaws.occ_length_le_len x ⟨#[c]⟩ 0 x.length (x.length+1);unfold Txt.split;split
 .show(1:Nat)<=_;omega
 .split
  .show(1:Nat)<=_;omega
  .rw[length_partsBetween];omega
def OI{g:EF}(k:f γ M=Z (S x,M))(l:g γ M=Z (S ⟨#[c]⟩,M))(h:x.length<=1000000):bG "str" nZ f (aB g aG) γ M=Z (.d (.list ((Txt.split x ⟨#[c]⟩).map .str)),M):=by
 refine sO k rfl (aI l aS) ?_;simp only[nZ,aDv h,if_true]
theorem JP{k:Type}{c:TF}{e:EF}{M:Sto}(f:k->CD)(p:k->Bool)(h:k->Ua):∀(xs:Tw k)(g:Tf),(∀x∈xs,c [Z (f x)] M=Z (p x,M)/\e [Z (f x)] M=Z (.d (h x),M))->lcF (hName 0) c e (xs.map f) [g] M=Z (((xs.filter p).map h).map .d,M)
 |[]=>fun _ _=>rfl
 |x::xs=>fun g l=>by
  have ih:=JP (M:=M) (c:=c) (e:=e) f p h xs (Z<|f x) fun y o=>l y<|C0 _ o;obtain⟨t,u⟩:=l x C4;rw[B4];show(hName 0 (f x) [g] M).bind _=_;rw[show hName 0 (f x) [g] M=Z ([Z (f x)],M)from rfl,A1];dsimp only;rw[t,A1];cases q:p x with
  |true=>
   dsimp only;rw[A4 rfl,u,A1];dsimp only;rw[ih,A1,Z7 q];rfl
  |false=>
   dsimp only;rw[B0 B2,ih,Z8 (by rw[q];exact B2)]
noncomputable def wdS(x:Str):Tc:=(Txt.split x ⟨#[32]⟩).filter fun p=>((p.length:Int) != 0)
def RT(x:Str):(wdS x).map sg=wds (sg x):=by
 unfold wdS wds;rw[<- rT,List.filter_map];congr 1;refine List.filter_congr fun p _=>?_;show((p.length:Int) != 0)=!(sg p).isEmpty;rw[str_len];cases sg p with
 |nil=>rfl
 |cons a r=>simp;omega
theorem OU{c:Nat}:∀(xs:Te),(∀p∈spl c xs,p.length<=xs.length)/\(spl c xs).length<=xs.length+1
 |[]=>⟨fun p hp=>by rw[List.mem_singleton.mp hp];exact B3 _,B3 _⟩
 |a::r=>by
  obtain⟨h,k⟩:=OU (c:=c) r;unfold spl;by_cases q:a=c
  .rw[A4 q];refine⟨fun p hp=>?_,by rw[B5,B5];omega⟩;rcases List.mem_cons.mp hp with rfl|hp
   .exact O4 _
   .exact Nat.le_succ_of_le<|h p hp
  .rw[B0 q];obtain⟨p,ps,e⟩:=aBD c r;rw[e]at h k ⊢;refine⟨fun l hp=>?_,by show(_::_).length<=(_::_).length+1;rw[B5,B5];rw[B5]at k;omega⟩;rcases List.mem_cons.mp hp with rfl|hp
   .exact Nat.succ_le_succ<|h p C4
   .exact Nat.le_succ_of_le<|h l<|C0 _ hp
def DR{x:Str}{c:Nat}:∀p∈Txt.split x ⟨#[c]⟩,p.length<=x.length:=fun p h=>by
 rw[str_len,str_len];refine(OU (c:=c)<|sg x).1 (sg p) ?_;rw[<- rT];exact List.mem_map.mpr ⟨p,h,rfl⟩
def szM{n:Nat}(h:n<=1000010):n<=sizeLine:=by rw[szl];omega
def aEN(h:x.length<=1000000):kN [Z (S x)] M=Z (.d (.list ((wdS x).map .str)),M):=by
 have it:bD (bG "str" nZ (aD 0)<|aB (fC (.str " ")) aG) [Z (S x)] M=Z ((Txt.split x ⟨#[32]⟩).map fun p=>S p,M):=by
  unfold bD;rw[OI (c:=32) (x:=x) (show aD 0 [Z (S x)] M=Z (S x,M)from rfl) rfl h,A1];show(Z<|(Txt.split x ⟨#[32]⟩).map PyData.str).bind _=_;rw[A1,D3];rfl
 have sc:=rP (x:=x) (c:=32);have l:(wdS x).length<=(Txt.split x ⟨#[32]⟩).length:=O7 ..;unfold kN;refine HG it (by rw[A3];exact szM (by omega)) ?_ (by rw[A3];exact szM (by omega));rw[show pV [Y] [Z (S x)]=[Y]from rfl];refine(JP (fun p=>S p) (fun p=>((p.length:Int) != 0)) (fun p=>.str p) (Txt.split x ⟨#[32]⟩) Y fun p k=>⟨?_,rfl⟩);have:p.length<=sizeLine:=szM<|E7 (DR p k) (by omega);unfold lO;rw[show aD 0 [Z (S p)] M=Z (S p,M)from rfl,A1];exact A4 this
def lnS(x:Str):Tw (Tc):=(Txt.split x ⟨#[10]⟩).map wdS
def aFd(k:γ[0]?=Z (Z<|S x))(h:x.length<=1000000):iD γ M=Z (.d (.list ((lnS x).map fun ws=>.list (ws.map .str))),M):=by
 have it:bD (bG "str" nZ (aD 0)<|aB (fC (.str "\n")) aG) γ M=Z ((Txt.split x ⟨#[10]⟩).map fun p=>S p,M):=by
  unfold bD;rw[OI (c:=10) (x:=x) (show aD 0 γ M=Z (S x,M)by simp only[aD,k]) rfl h,A1];show(Z<|(Txt.split x ⟨#[10]⟩).map PyData.str).bind _=_;rw[A1,D3];rfl
 have sc:=rP (x:=x) (c:=10);unfold iD;refine HG it (by rw[A3];exact szM (by omega)) ?_ (by unfold lnS;rw[A3,A3];exact szM (by omega));rw[show pV [Y] γ=[Y]from rfl];refine(oP (fun p=>S p) (fun p=>.list ((wdS p).map .str)) (Txt.split x ⟨#[10]⟩) Y fun p l=>aEN<|E7 (DR p l) h).trans ?_;unfold lnS;rw[D3,D3,D3];rfl
theorem IW{k:Type}{c:TF}{e:EF}{M:Sto}(f1 f2:k->Ua)(p:k->Bool)(h:k->Ua):∀(xs:Tw k)(l o:Tf),(∀x∈xs,c [Z (.d (f1 x)),Z (.d (f2 x))] M=Z (p x,M)/\(p x=true->e [Z (.d (f1 x)),Z (.d (f2 x))] M=Z (.d (h x),M)))->lcF (gS 2<|bK (hName 0)<|bK (hName 1) gU) c e (xs.map fun x=>.d (.tuple [f1 x,f2 x])) [l,o] M=Z (((xs.filter p).map h).map .d,M)
 |[]=>fun _ _ _=>rfl
 |x::xs=>fun l o t=>by
  have ih:=IW (M:=M) (c:=c) (e:=e) f1 f2 p h xs (Z (.d (f1 x))) (Z (.d (f2 x))) fun y u=>t y<|C0 _ u;obtain⟨A,B⟩:=t x C4;rw[B4];show(gS 2 (bK (hName 0)<|bK (hName 1) gU) (.d (.tuple [f1 x,f2 x])) [l,o] M).bind _=_;rw[show gS 2 (bK (hName 0)<|bK (hName 1) gU) (.d (.tuple [f1 x,f2 x])) [l,o] M=Z ([Z (.d (f1 x)),Z (.d (f2 x))],M)from rfl,A1];dsimp only;rw[A,A1];cases q:p x with
  |true=>
   dsimp only;rw[A4 rfl,B q,A1];dsimp only;rw[ih,A1,Z7 q];rfl
  |false=>
   dsimp only;rw[B0 B2,ih,Z8 (by rw[q];exact B2)]
def sdS(x:Str):Tw (Tc×Nat):=(lnS x).zipIdx.filter fun p=>!p.1.isEmpty
noncomputable def wD(ws:Tc):Ua:=.list (ws.map .str)
def sdD(p:Tc×Nat):Ua:=.tuple [.int (p.2:Nat),wD p.1]
theorem zip_map{h o:Type}(f:h->o):∀(l:Tw h)(k:Nat),(l.map f).zipIdx k=(l.zipIdx k).map fun p=>(f p.1,p.2)
 |[]=>fun _=>rfl
 |a::l=>fun k=>by
  rw[B4,A0h,A0h,zip_map f l,B4]
def aAl:(lnS x).length<=x.length+2:=by
 unfold lnS;rw[A3];exact rP
def aIv:(sdS x).length<=x.length+2:=by
 have:=aAl (x:=x);have h:(sdS x).length<=(lnS x).zipIdx.length:=O7 ..;rw[Z6]at h;omega
def vS(h:x.length<=1000000):cF [S x] M=Z (.d (.list ((sdS x).map sdD)),M):=by
 have l:aY iD (hName 1) [Z (S x),Y] M=Z (.nx [Z (S x),Z (.d (.list ((lnS x).map wD)))],M):=bM<|aFd (γ:=[Z (S x),Y]) rfl h;have q:=aAl (x:=x);have sl:=aIv (x:=x)
 have it:xV (aB (aD 1) aG) [Z (S x),Z (.d (.list ((lnS x).map wD)))] M=Z ((lnS x).zipIdx.map fun p=>.d (.tuple [.int (p.2:Nat),wD p.1]),M):=by
  unfold xV;rw[aI (show aD 1 [Z (S x),Z (.d (.list ((lnS x).map wD)))] M=Z (.d (.list ((lnS x).map wD)),M)from rfl) aS,A1];show(Z<|(lnS x).map wD).bind _=_;rw[A1];unfold AH;rw[zip_map,D3];rfl
 have o:kT [Z (S x),Z (.d (.list ((lnS x).map wD)))] M=Z (.d (.list ((sdS x).map sdD)),M):=by
  unfold kT;refine HG it (by rw[A3,Z6];exact szM (by omega)) ?_ (by rw[A3];exact szM (by omega));rw[show pV [Y,Y] [Z (S x),Z (.d (.list ((lnS x).map wD)))]=[Y,Y]from rfl];refine IW (fun p=>.int (p.2:Nat)) (fun p=>wD p.1) (fun p=>!p.1.isEmpty) sdD (lnS x).zipIdx Y Y fun p t=>⟨?_,fun _=>?_⟩
  .obtain⟨J,k⟩:∃J:Int,((p.2:Nat):Int)=J:=⟨_,rfl⟩;rw[k];show Z (!(p.1.map PyData.str).isEmpty,M)=_;rw[show(p.1.map PyData.str).isEmpty=p.1.isEmpty by cases p.1<;>rfl]
  .unfold sdD;obtain⟨J,k⟩:∃J:Int,((p.2:Nat):Int)=J:=⟨_,rfl⟩;rw[k];exact oJ (aI (show aD 0 [Z (I J),Z (.d (wD p.1))] M=Z (I J,M)from rfl)<|aI (show aD 1 [Z (I J),Z (.d (wD p.1))] M=Z (.d (wD p.1),M)from rfl) aS) (ds:=[.int J,wD p.1]) rfl (show(2:Nat)<=500 by decide)
 unfold cF;refine iS rfl ?_;show kF [Z (S x),Y] M=_;unfold kF;rw[aU l];simp only[bT,o,Option.bind_some]
theorem vP{o:Type}(q:o->Bool):∀(l:Tw o)(k:Nat),((l.zipIdx k).filter fun p=>q p.1).map (·.1)=l.filter q
 |[]=>fun _=>rfl
 |a::l=>fun k=>by
  rw[A0h];cases h:q a with
  |true=>rw[Z7 (by exact h),Z7 h,B4,vP q l]
  |false=>rw[Z8 (by rw[h];exact B2),Z8 (by rw[h];exact B2),vP q l]
def aHO(x:Str):((sdS x).map (·.1)).map (·.map sg)=aEI (sg x):=by
 unfold sdS aEI;rw[vP (fun h:Tc=>!h.isEmpty),<- rT,D3];unfold lnS;rw[List.filter_map,List.filter_map,D3]
 have e:(fun h:Tc=>!h.isEmpty) ∘ wdS=(fun p=>!p.isEmpty) ∘ (wds ∘ sg):=by
  funext p;show(!(wdS p).isEmpty)=!(wds<|sg p).isEmpty;rw[<- RT];cases wdS p<;>rfl
 rw[e];refine U7 fun p _=>?_;exact RT p
theorem kZ:∀{xs ys:Tc},xs.map sg=ys.map sg->xs=ys
 |[],[]=>fun _=>rfl
 |[],_::_=>fun h=>by simp at h
 |_::_,[]=>fun h=>by simp at h
 |x::xs,y::ys=>fun h=>by
  rw[B4,B4]at h;injection h with k l
  rw[oR k,kZ l]
def XH{W:Tw (Tc)}(h:aEI (sg x)=W.map (·.map sg)):(sdS x).map (·.1)=W:=by
 rw[<- aHO]at h;revert h;generalize (sdS x).map (·.1)=V;intro h
 induction V generalizing W with
 |nil=>cases W with
  |nil=>rfl
  |cons _ _=>simp at h
 |cons v V ih=>cases W with
  |nil=>simp at h
  |cons w W=>
   rw[B4,B4]at h;injection h with k l
   rw[kZ k,ih l]
def fY{k:F2}{g:EF}{M1 M2:Sto}{a b c:CD}(l:f γ M=Z (a,M1))(o:g γ M1=Z (b,M2))(h:k a b M2=Z (c,M2)):fOp k f g γ M=Z (c,M2):=by
 simp only[fOp,l,o,Option.bind_some,h]
def aAI:("\n":Str)=⟨#[10]⟩:=by decide
def QH{ls:Tc}(ne:ls≠[])(h:∀x∈ls,10∉sg x):Txt.split (Txt.join "\n" ls) ⟨#[10]⟩=ls:=by
 refine kZ ?_;rw[rT,aAI,show sg (Txt.join ⟨#[10]⟩ ls)=pP 10 (ls.map sg)by show sg (Builtin.Str.glued _ ls)=_;rw[U4,sS]];refine wJ (fun e=>ne<|List.map_eq_nil_iff.mp e) fun p k=>?_;obtain⟨w,l,rfl⟩:=List.mem_map.mp k;exact h w l
noncomputable abbrev Fi:Tc×Nat->Bool:=fun p=>!p.1.isEmpty
def aGp{ls:Tc}(ne:ls≠[])(h:∀x∈ls,10∉sg x):sdS (Txt.join "\n" ls)=(ls.map wdS).zipIdx.filter Fi:=by
 unfold sdS lnS;rw[QH ne h]
def SR{pre post:Tc}{w:Str}(h:∀x∈pre++w::post,10∉sg x)(k:wdS w≠[]):
 sdS (Txt.join "\n" (pre++w::post))=(pre.map wdS).zipIdx.filter Fi++(wdS w,pre.length)::((post.map wdS).zipIdx (pre.length+1)).filter Fi:=by
 have e:Fi (wdS w,0+(pre.map wdS).length)=true:=by cases z:wdS w with|nil=>exact absurd z k|cons a b=>rfl
 rw[aGp (by simp) h,D5,B4,List.zipIdx_append,List.filter_append,A0h,List.filter_cons,A4 e,A3,Nat.zero_add]
def PQ{ls:Tc}{p:Tc×Nat}(h:p∈((ls.map wdS).zipIdx k).filter Fi):p.1≠[]/\∃x∈ls,wdS x=p.1:=by
 obtain⟨q,l⟩:=List.mem_filter.mp h;refine⟨fun e=>(by rw[show Fi p=!p.1.isEmpty from rfl,e]at l;cases l),?_⟩;have o:p.1∈((ls.map wdS).zipIdx k).map Prod.fst:=A0o q;rw[List.zipIdx_map_fst]at o;obtain⟨x,t,e⟩:=List.mem_map.mp o;exact⟨x,t,e⟩
def Rd(F:FN)(as:T7)(ws:Tc)(d:Ua):Prop:=∀M:Sto,F (.d (wD ws)::as) M=Z (.d d,M)
theorem DS{F:FN}{as:T7}:∀{ps:Tw (Tc×Nat)},(∀p∈ps,∃d,Rd F as p.1 d)->∃qs:Tw ((Tc×Ua)×Nat),ps=(qs.map fun q=>(q.1.1,q.2))/\∀q∈qs,Rd F as q.1.1 q.1.2
 |[]=>fun _=>⟨[],rfl,fun q h=>absurd h (by simp)⟩
 |p::ps=>fun h=>by
  obtain⟨d,hd⟩:=h p C4;obtain⟨qs,e,l⟩:=DS (ps:=ps) fun x o=>h x<|C0 _ o;refine⟨((p.1,d),p.2)::qs,by rw[B4,<- e],fun q k=>?_⟩;rcases List.mem_cons.mp k with rfl|z
  .exact hd
  .exact l q z
abbrev HP:GF:=gS 2<|bK (hName 0)<|bK (hName 1) gU
noncomputable def pS(q:(Tc×Ua)×Nat):Ua:=.tuple [.int (q.2:Nat),q.1.2]
def MR{h:Type}(xs:Tw h):(xs.filter fun _=>true)=xs:=List.filter_eq_self.mpr fun _ _=>rfl
abbrev itD(qs:Tw ((Tc×Ua)×Nat)):T7:=qs.map fun q=>.d (.tuple [.int (q.2:Nat),wD q.1.1])
def aAW{f:AF}{qs:Tw ((Tc×Ua)×Nat)}(k:f γ M=Z (itD qs,M))(h:qs.length<=1000)(l:∀q∈qs,∀J:Int,e [Z (I J),Z (.d (wD q.1.1))] M=Z (.d (.tuple [.int J,q.1.2]),M)):
 fLc [Y,Y] f HP eU e γ M=Z (.d (.list (qs.map pS)),M):=by
 refine jT k (by rw[A3];exact h) ?_ (by rw[A3];exact h);rw[show pV [Y,Y] γ=[Y,Y]from rfl];refine(IW (c:=eU) (M:=M) (fun q:(Tc×Ua)×Nat=>.int (q.2:Nat)) (fun q=>wD q.1.1) (fun _=>true) pS qs Y Y fun q o=>⟨rfl,fun _=>l q o _⟩).trans ?_;rw[MR]
def PY{qs:Tw ((Tc×Ua)×Nat)}(h:x.length<=1000000)(e:sdS x=qs.map fun q=>(q.1.1,q.2)):bD (aL cF<|aB (aD 0) aG) [Z (S x)] M=Z (itD qs,M):=by
 unfold bD;rw[bA (F:=cF) (aI (show aD 0 [Z (S x)] M=Z (S x,M)from rfl) aS) (vS h),A1,e,D3];show(Z<|qs.map _).bind _=_;rw[A1,D3];rfl
def xM{b:SFX}{e:Exc}(h:xs.length=ps)(k:b (xs.map Z++List.replicate (N-xs.length) Y) M=Z (.xc γ e,M')):fnX ps N b xs M=Z (.x e,M'):=by
 unfold fnX;rw[A4 h,k];rfl
def mJ{f g:SFX}(h:f γ M=Z (.o (.nx γ'),M')):iG f g γ M=g γ' M':=by
 unfold iG;rw[h];rfl
def HU{f g:SFX}{e:Exc}(h:f γ M=Z (.xc γ' e,M')):iG f g γ M=Z (.xc γ' e,M'):=by
 unfold iG;rw[h];rfl
def HW{f:SF}{o:Out}(h:f γ M=Z (o,M')):liS f γ M=Z (.o o,M'):=by
 unfold liS;rw[h];rfl
def aBN{c:TF}{a b:SFX}(h:c γ M=Z (true,M')):vM c a b γ M=a γ M':=by simp only[vM,h,Option.bind_some,if_true]
def TB{c:TF}{a b:SFX}(h:c γ M=Z (false,M')):vM c a b γ M=b γ M':=by simp only[vM,h,Option.bind_some,Bool.false_eq_true,if_false]
def FQ{b:SFX}{x:CD}{M1 M2:Sto}(h:g x γ M=Z (γ1,M1))(k:b γ1 M1=Z (.o (.nx γ2),M2)):vL g b (x::xs) γ M=vL g b xs γ2 M2:=by
 conv=>lhs;unfold vL
 rw[h,A1];dsimp only;rw[k,A1]
def UY{b:SFX}{x:CD}{M1 M2:Sto}{e:Exc}(h:g x γ M=Z (γ1,M1))(k:b γ1 M1=Z (.xc γ2 e,M2)):vL g b (x::xs) γ M=Z (.xc γ2 e,M2):=by
 conv=>lhs;unfold vL
 rw[h,A1];dsimp only;rw[k,A1]
def VD{f:AF}{b:SFX}{M1:Sto}{r:Tx (RN×Sto)}(h:f γ M=Z (xs,M1))(k:vL g b xs γ M1=r):FT f g b γ M=r:=by
 unfold FT;rw[h,A1];exact k
def wL{k:CD}{fl:Str}(h:fa γ M=Z ([k],M))(l:F [.c M.length,k] (M++[.exc true nm []])=Z (.d .none,M++[.exc true nm [(fl,k)]])):uU nm F fa γ M=Z (.c M.length,M++[.exc true nm [(fl,k)]])/\gP nm F fa γ M=Z (.xc γ ⟨nm,[(fl,k)]⟩,M++[.dead]):=by
 have o:(M++[Cell.exc true nm [(fl,k)]])[M.length]?=Z (.exc true nm [(fl,k)]):=gV;have x1:excOf (M++[Cell.exc true nm [(fl,k)]]) (.c M.length)=Z (M.length,true,(nm,([(fl,k)]:Tv))):=by unfold excOf;dsimp only;rw[o]
 have s1:(M++[Cell.exc true nm [(fl,k)]]).set M.length .dead=M++[.dead]:=xQ
 have mk:uU nm F fa γ M=Z (.c M.length,M++[.exc true nm [(fl,k)]]):=by
  unfold uU;rw[h,A1];dsimp only;rw[A4 (show([k]:T7).length<=sizeLine from z1),l,A1];rfl
 refine⟨mk,?_⟩;unfold gP;rw[mk,A1];dsimp only;rw[x1,A1];dsimp only;rw[A4 ⟨rfl,rfl⟩,s1]
def XT{k:CD}(h:fa γ M=Z ([k],M)):gP "NoTie" eR fa γ M=Z (.xc γ ⟨"NoTie",[("at",k)]⟩,M++[.dead]):=by
 refine(wL h ?_).2;have l:(M++[Cell.exc true "NoTie" []])[M.length]?=Z (.exc true "NoTie" []):=gV;have o:excOf (M++[Cell.exc true "NoTie" []]) (.c M.length)=Z (M.length,true,(("NoTie":Str),([]:Tv))):=by unfold excOf;dsimp only;rw[l]
 have q:(M++[Cell.exc true "NoTie" []]).set M.length (.exc true "NoTie" [("at",k)])=M++[.exc true "NoTie" [("at",k)]]:=xQ;simp![eR,mZ,xH,o,List.isEmpty_nil,true_and,and_self,if_true,q]
def GR{k:CD}:bY [.c M.length,k] (M++[.exc true "NoLine" []])=Z (.d .none,M++[.exc true "NoLine" [("at",k)]]):=by
 have h:(M++[Cell.exc true "NoLine" []])[M.length]?=Z (.exc true "NoLine" []):=gV;have l:excOf (M++[Cell.exc true "NoLine" []]) (.c M.length)=Z (M.length,true,(("NoLine":Str),([]:Tv))):=by unfold excOf;dsimp only;rw[h]
 have o:(M++[Cell.exc true "NoLine" []]).set M.length (.exc true "NoLine" [("at",k)])=M++[.exc true "NoLine" [("at",k)]]:=xQ;simp![bY,iB,xH,l,List.isEmpty_nil,true_and,and_self,if_true,o]
def tX{k:CD}(h:fa γ M=Z ([k],M)):gP "NoLine" bY fa γ M=Z (.xc γ ⟨"NoLine",[("at",k)]⟩,M++[.dead]):=(wL h GR).2
theorem GO{L:CD}{M:Sto}{b:(Tc×Ua)×Nat}{rest:T7}(B:b.1.2=.none):∀(qs:Tw ((Tc×Ua)×Nat))(l u:Tf),(∀q∈qs,jL (.d q.1.2)=false)->
 ∃γ,vL (gS 2<|bK (hName 1)<|bK (hName 2) gU) gK ((qs.map fun q=>.d (pS q))++.d (pS b)::rest) [Z L,l,u] M=Z (.xc γ ⟨"NoLine",[("at",I (b.2:Nat))]⟩,M++[.dead])
 |[]=>fun l u _=>by
  obtain⟨J,A⟩:∃J:Int,((b.2:Nat):Int)=J:=⟨_,rfl⟩;refine⟨[Z L,Z<|I J,Z (.d .none)],?_⟩;rw[List.map_nil,A0l,A];refine UY (γ1:=[Z L,Z<|I J,Z (.d .none)]) (M1:=M) (by unfold pS;rw[A,B];rfl) ?_;unfold gK;rw[aBN (M':=M) rfl];exact tX rfl
 |q::qs=>fun l u h=>by
  obtain⟨J,A⟩:∃J:Int,((q.2:Nat):Int)=J:=⟨_,rfl⟩;obtain⟨γ,ih⟩:=GO (L:=L) (M:=M) (rest:=rest) B qs (Z<|I J) (Z (.d q.1.2)) fun p C=>h p<|C0 _ C;refine⟨γ,?_⟩
  have t:gK [Z L,Z<|I J,Z (.d q.1.2)] M=Z (.o (.nx [Z L,Z<|I J,Z (.d q.1.2)]),M):=by
   unfold gK;rw[TB (M':=M)]
   .rfl
   refine gJ<|bN (k:=AL false) (show aD 2 [Z L,Z<|I J,Z (.d q.1.2)] M=Z (.d q.1.2,M)from rfl) (show fC .none [Z L,Z<|I J,Z (.d q.1.2)] M=Z (.d .none,M)from rfl) ?_;show Z (CD.d (.bool (jL (.d q.1.2))),M)=_;rw[h q C4]
  rw[B4,List.cons_append,FQ (show gS 2 (bK (hName 1)<|bK (hName 2) gU) (.d (pS q)) [Z L,l,u] M=Z ([Z L,Z<|I J,Z (.d q.1.2)],M)by unfold pS;rw[A];rfl) t];exact ih
def aCO{qs rest:Tw ((Tc×Ua)×Nat)}{b:(Tc×Ua)×Nat}(h:∀q∈qs,jL (.d q.1.2)=false)(k:b.1.2=.none):eZ [.d (.list ((qs++b::rest).map pS))] M=Z (.x ⟨"NoLine",[("at",I (b.2:Nat))]⟩,M++[.dead]):=by
 obtain⟨γ,l⟩:=GO (L:=.d (.list ((qs++b::rest).map pS))) (M:=M) (rest:=rest.map fun q=>.d (pS q)) k qs Y Y h;unfold eZ;refine xM rfl (γ:=γ) ?_;show lT [Z (.d (.list ((qs++b::rest).map pS))),Y,Y] M=_;unfold lT;refine HU<|VD (xs:=(qs.map fun q=>.d (pS q))++.d (pS b)::rest.map fun q=>.d (pS q)) (M1:=M) ?_ l;unfold bD;rw[show aD 0 [Z (CD.d (.list ((qs++b::rest).map pS))),Y,Y] M=Z (CD.d (.list ((qs++b::rest).map pS)),M)from rfl,A1];show(Z<|(qs++b::rest).map pS).bind _=_;rw[A1,D5,D5,B4,B4,D3,D3];rfl
structure iP(F:FN)(as:T7)(x:Str):Prop where
 nl:10∉sg x
 ne:wdS x≠[]
 rd:Rd F as (wdS x) .none
def sM{ws:Tc}(e:wds (sg x)=ws.map sg):wdS x=ws:=kZ<|(RT x).trans e
def JH{ws:Tc}(e:wds (sg x)=ws.map sg/\(sg x).contains 10=false/\ws.isEmpty=false)(r:Rd F as ws .none):iP F as x:=by
 obtain⟨o,k,l⟩:=e;have w:=sM o;refine⟨fun h=>?_,fun h=>?_,by rw[w];exact r⟩
 .rw[List.contains_iff_mem.mpr h]at k;cases k
 .rw[w]at h;rw[h]at l;cases l
def pl0:bX [S "0"] M=Z (I 0,M):=by kernel_rfl
def pl1:bX [S "1"] M=Z (I 1,M):=by kernel_rfl
def am1:cP [S "1"] M=Z (.d (.tuple [.int 1,.int 1]),M):=yW (a:=1) (b:=1) (by decide) (by decide) (by decide) rfl
noncomputable def aHs:Tw (Str×Tc):=[("",[]),(" 0",["0"]),(" 0 1",["0","1"]),(" 0 1 1 1",["0","1","1","1"]),(" a 1 1",["a","1","1"]),(" 0 1 b",["0","1","b"]),(" 00 1 1",["00","1","1"]),(" 0 01 1",["0","01","1"]),(" 0 1 01",["0","1","01"]),(" 0 1 2/2",["0","1","2/2"]),(" 0 1 4/6",["0","1","4/6"]),
 (" 0 1 1/1",["0","1","1/1"]),(" 0 1 1/0",["0","1","1/0"]),(" 0 1 0/1",["0","1","0/1"]),(" 0 1 0/2",["0","1","0/2"]),(" 0 1 /2",["0","1","/2"]),(" 0 1 1/",["0","1","1/"]),(" 0 1 /",["0","1","/"]),(" 0 1 1/2/3",["0","1","1/2/3"]),
 (" 100 1 1",["100","1","1"]),(" 0 100 1",["0","100","1"]),(" 0 1 1000000000000000000000000000000",["0","1","1000000000000000000000000000000"]),(" 0 1 1/1000000000000000000000000000000",["0","1","1/1000000000000000000000000000000"]),(" 0 1/1 1",["0","1/1","1"]),(" 0 1 1/02",["0","1","1/02"]),(" 0 1 01/2",["0","1","01/2"])]
def gC(h:∀M:Sto,cP [S D] M=Z (.d .none,M)):Rd bI [S w] [w,"0","1",D] .none:=fun M=>LB (nn:=true) pl0 pl1 (h M) rfl
def aHZ:∀p∈aHs,Rd bI [S w] (w::p.2) .none:=by
 intro p o;have h:∀M:Sto,cP [S "2/2"] M=Z (.d .none,M):=fun M=>sJ (a:=2) (b:=2) (M:=M) (by decide) (by decide) (by decide);have k:∀M:Sto,cP [S "4/6"] M=Z (.d .none,M):=fun M=>sJ (a:=4) (b:=6) (M:=M) (by decide) (by decide) (by decide);have l:∀M:Sto,cP [S "0/2"] M=Z (.d .none,M):=fun M=>sJ (a:=0) (b:=2) (M:=M) (by decide) (by decide) (by decide);simp only[aHs,List.mem_cons,List.not_mem_nil,or_false]at o;rcases o with rfl|rfl|rfl|rfl|rfl|rfl|rfl|rfl|rfl|rfl|rfl|rfl|rfl|rfl|rfl|rfl|rfl|rfl|rfl|rfl|rfl|rfl|rfl|rfl|rfl|rfl
 .exact fun M=>rfl
 .exact fun M=>rfl
 .exact fun M=>rfl
 .exact fun M=>rfl
 .exact fun M=>LB (x:=.none) (nn:=true) (by kernel_rfl) pl1 am1 rfl
 .exact gC fun M=>by kernel_rfl
 .exact fun M=>LB (x:=.none) (nn:=true) (by kernel_rfl) pl1 am1 rfl
 .exact fun M=>LB (y:=.none) (nn:=true) pl0 (by kernel_rfl) am1 rfl
 .exact gC fun M=>by kernel_rfl
 .exact gC h
 .exact gC k
 .exact gC fun M=>by kernel_rfl
 .exact gC fun M=>by kernel_rfl
 .exact gC fun M=>by kernel_rfl
 .exact gC l
 .exact gC fun M=>by kernel_rfl
 .exact gC fun M=>by kernel_rfl
 .exact gC fun M=>by kernel_rfl
 .exact gC fun M=>by kernel_rfl
 .exact fun M=>LB (x:=.none) (nn:=true) (by kernel_rfl) pl1 am1 rfl
 .exact fun M=>LB (y:=.none) (nn:=true) pl0 (by kernel_rfl) am1 rfl
 .exact gC fun M=>by kernel_rfl
 .exact gC fun M=>by kernel_rfl
 .exact fun M=>LB (y:=.none) (nn:=true) pl0 (by kernel_rfl) am1 rfl
 .exact gC fun M=>by kernel_rfl
 .exact gC fun M=>by kernel_rfl
def wrL(w:Str):Tw (Str×Tc):=(aHs.map fun p=>(w++p.1,w::p.2))++[(w++"0 1 1",[w++"0","1","1"]),("x 0 1 1",["x","0","1","1"]),("0 1 1",["0","1","1"]),(Txt.slice w Y (Z (-1))++" 0 1 1",[Txt.slice w Y (Z (-1)),"0","1","1"]),(Txt.mul w 2++" 0 1 1",[Txt.mul w 2,"0","1","1"])]
def okL(l:Tw (Str×Tc)):Bool:=l.all fun p=>decide (wds (sg p.1)=p.2.map sg)&&!(sg p.1).contains 10&&!p.2.isEmpty
def IG(h:okL l=true):∀p∈l,wds (sg p.1)=p.2.map sg/\(sg p.1).contains 10=false/\p.2.isEmpty=false:=fun p k=>by
 have:=List.all_eq_true.mp h p k;simp only[Bool.and_eq_true,decide_eq_true_eq,Bool.not_eq_true']at this;exact⟨this.1.1,this.1.2,this.2⟩
def aLq{w:Str}(h:w="tie"\/w="branch"\/w="flow"):∀p∈wrL w,Rd bI [S w] p.2 .none:=by
 intro p hp;rcases List.mem_append.mp hp with hp|hp
 .obtain⟨q,k,rfl⟩:=List.mem_map.mp hp;exact aHZ q k
 .simp only[List.mem_cons,List.not_mem_nil,or_false]at hp;rcases h with rfl|rfl|rfl<;>rcases hp with rfl|rfl|rfl|rfl|rfl<;>exact fun M=>by kernel_rfl
def aCo{w:Str}(h:w="tie"\/w="branch"\/w="flow"):∀p∈wrL w,iP bI [S w] p.1:=fun p k=>by
 have ok:okL (wrL w)=true:=by rcases h with rfl|rfl|rfl<;>decide +kernel
 exact JH (IG ok p k)<|aLq h p k
def VX(h:w="tie"\/w="branch"\/w="flow"):dR [S w] M=Z (.d (.list ((wrL w).map fun p=>.str p.1)),M):=by
 rcases h with rfl|rfl|rfl<;>kernel_rfl
noncomputable def sdL:Tw (Str×Tc):=[("side",["side"]),("sides 1",["sides","1"]),("side 100",["side","100"]),("side 01",["side","01"]),("side 1 00",["side","1","00"]),("side a",["side","a"]),("side 1 1/2",["side","1","1/2"]),("1",["1"]),("side1",["side1"]),("tie 0 1 1",["tie","0","1","1"]),("side 1 /",["side","1","/"])]
def aJp:∀p∈sdL,iP cZ [] p.1:=fun p h=>by
 have r:Rd cZ [] p.2 .none:=by
  simp only[sdL,List.mem_cons,List.not_mem_nil,or_false]at h;rcases h with rfl|rfl|rfl|rfl|rfl|rfl|rfl|rfl|rfl|rfl|rfl<;>exact fun M=>by kernel_rfl
 exact JH (IG (show okL sdL=true by decide +kernel) p h) r
structure LnG(F:FN)(as:T7)(x:Str):Prop where
 nl:10∉sg x
 rd:wdS x≠[]->∃d,jL (.d d)=false/\Rd F as (wdS x) d
structure LnA(F:FN)(as:T7)(x:Str):Prop where
 nl:10∉sg x
 rd:wdS x≠[]->∃d,Rd F as (wdS x) d
def LnG.any(h:LnG F as x):LnA F as x:=⟨h.1,fun n=>let⟨d,_,r⟩:=h.2 n;⟨d,r⟩⟩
def iP.any(h:iP F as x):LnA F as x:=⟨h.1,fun _=>⟨_,h.3⟩⟩
def CH(h:10∉sg x)(e:wdS x=[]):LnG F as x:=⟨h,fun n=>absurd e n⟩
noncomputable abbrev Qs:=Tw ((Tc×Ua)×Nat)
noncomputable abbrev unQ(qs:Qs):Tw (Tc×Nat):=qs.map fun q=>(q.1.1,q.2)
theorem NO{F:FN}{as:T7}:∀{ps:Tw (Tc×Nat)},(∀p∈ps,∃d,jL (.d d)=false/\Rd F as p.1 d)->∃qs:Qs,ps=unQ qs/\∀q∈qs,jL (.d q.1.2)=false/\Rd F as q.1.1 q.1.2
 |[]=>fun _=>⟨[],rfl,fun q h=>absurd h (by simp)⟩
 |p::ps=>fun h=>by
  obtain⟨d,hn,hd⟩:=h p C4;obtain⟨qs,e,l⟩:=NO (ps:=ps) fun x o=>h x<|C0 _ o;refine⟨((p.1,d),p.2)::qs,by rw[unQ,B4,<- unQ,<- e],fun q k=>?_⟩;rcases List.mem_cons.mp k with rfl|z
  .exact⟨hn,hd⟩
  .exact l q z
def YS{pre post:Tc}(hp:∀x∈pre,LnG F as x)(t:iP F as w)(u:∀x∈post,LnA F as x):
 ∃qs rest:Qs,sdS (Txt.join "\n" (pre++w::post))=unQ (qs++((wdS w,.none),pre.length)::rest)/\(∀q∈qs,jL (.d q.1.2)=false)/\(∀q∈qs++((wdS w,.none),pre.length)::rest,Rd F as q.1.1 q.1.2)/\qs.length+rest.length<=pre.length+post.length:=by
 have nl:∀x∈pre++w::post,10∉sg x:=fun x o=>by
  rcases List.mem_append.mp o with z|z
  .exact(hp x z).1
  .rcases List.mem_cons.mp z with rfl|z
   .exact t.1
   .exact(u x z).1
 obtain⟨qs,A,B⟩:=NO (F:=F) (as:=as) (ps:=(pre.map wdS).zipIdx.filter Fi) fun p k=>by
  obtain⟨n,x,o,e⟩:=PQ k;rw[<- e];exact(hp x o).2 (by rw[e];exact n)
 obtain⟨rest,C,E⟩:=DS (F:=F) (as:=as) (ps:=((post.map wdS).zipIdx (pre.length+1)).filter Fi) fun p k=>by
  obtain⟨n,x,o,e⟩:=PQ k;rw[<- e];exact(u x o).2 (by rw[e];exact n)
 have G:qs.length<=pre.length:=by
  have:=S0 List.length A;rw[unQ,A3]at this;have l:=O7 Fi<|(pre.map wdS).zipIdx;rw[Z6,A3]at l;omega
 have H:rest.length<=post.length:=by
  have:=S0 List.length C;rw[A3]at this;have l:=O7 Fi<|(post.map wdS).zipIdx (pre.length+1);rw[Z6,A3]at l;omega
 refine⟨qs,rest,?_,fun q h=>(B q h).1,fun q h=>?_,by omega⟩
 .rw[SR nl t.2,A,C,unQ,unQ,D5,B4]
 .rcases List.mem_append.mp h with z|z
  .exact(B q z).2
  .rcases List.mem_cons.mp z with rfl|z
   .exact t.3
   .exact E q z
abbrev NY(J:Nat):Rs:=.x ⟨"NoLine",[("at",I (J:Nat))]⟩
abbrev x1:GF:=gS 2<|bK (hName 1)<|bK (hName 2) gU
def BO{pre post:Tc}{e:EF}{C:EF}{G:FX}{m:SFX}{M:Sto}(hp:∀x∈pre,LnG F as x)(h:iP F as w)(k:∀x∈post,LnA F as x)(o:pre.length+post.length<=900)(l:(Txt.join "\n" (pre++w::post)).length<=1000000)
 (hC:C=fLc [Y,Y] (bD<|aL cF<|aB (aD 0) aG) HP eU (iC<|aB (aD 0)<|aB e aG)) (hm:m=tK (sC eZ<|liA<|aB C aG)) (hG:G=fnX 1 1 m)
 (he:∀(ws:Tc)(d:Ua)(J:Int),Rd F as ws d->e [Z (I J),Z (.d (wD ws))] M=Z (.d d,M)):
 G [S (Txt.join "\n" (pre++w::post))] M=Z (NY pre.length,M++[.dead]):=by
 obtain⟨qs,rest,sd,hn,hr,hl2⟩:=YS hp h k
 have cp:C [Z (S<|Txt.join "\n" (pre++w::post))] M=Z (.d (.list ((qs++((wdS w,.none),pre.length)::rest).map pS)),M):=by
  rw[hC];exact aAW (PY l sd) (by rw[C3,B5];omega) fun q hq' J=>oJ (aI (show aD 0 [Z (I J),Z (.d (wD q.1.1))] M=Z (I J,M)from rfl)<|aI (he _ _ J<|hr q hq') aS) (ds:=[.int J,q.1.2]) rfl (show(2:Nat)<=500 by decide)
 have rr:=aCO (qs:=qs) (rest:=rest) (b:=((wdS w,.none),pre.length)) (M:=M) hn rfl;rw[hG];refine xM rfl (γ:=[Z (S<|Txt.join "\n" (pre++w::post))]) ?_;show m [Z (S<|Txt.join "\n" (pre++w::post))] M=_;rw[hm];simp only[tK,sC,VM,liA,aI cp aS,Option.bind_some,rr]
def aAw{pre post:Tc}{M:Sto}(hp:∀x∈pre,LnG bI [S "branch"] x)(h:iP bI [S "branch"] w)(k:∀x∈post,LnA bI [S "branch"] x)(l:pre.length+post.length<=900)(o:(Txt.join "\n" (pre++w::post)).length<=1000000):
 fR [S (Txt.join "\n" (pre++w::post))] M=Z (NY pre.length,M++[.dead]):=
 BO hp h k l o rfl rfl rfl fun ws d J r=>bA (F:=bI) (aI (show aD 1 [Z (I J),Z (.d (wD ws))] M=Z (.d (wD ws),M)from rfl)<|aI (show fC (.str "branch") [Z (I J),Z (.d (wD ws))] M=Z (S "branch",M)from rfl) aS)<|r M
def aDC{pre post:Tc}{M:Sto}(hp:∀x∈pre,LnG bI [S "flow"] x)(h:iP bI [S "flow"] w)(k:∀x∈post,LnA bI [S "flow"] x)(l:pre.length+post.length<=900)(o:(Txt.join "\n" (pre++w::post)).length<=1000000):
 fB [S (Txt.join "\n" (pre++w::post))] M=Z (NY pre.length,M++[.dead]):=
 BO hp h k l o rfl rfl rfl fun ws d J r=>bA (F:=bI) (aI (show aD 1 [Z (I J),Z (.d (wD ws))] M=Z (.d (wD ws),M)from rfl)<|aI (show fC (.str "flow") [Z (I J),Z (.d (wD ws))] M=Z (S "flow",M)from rfl) aS)<|r M
def ZU{pre post:Tc}{M:Sto}(hp:∀x∈pre,LnG cZ [] x)(k:iP cZ [] w)(l:∀x∈post,LnA cZ [] x)(o:pre.length+post.length<=900)(q:(Txt.join "\n" (pre++w::post)).length<=1000000):
 eI [S (Txt.join "\n" (pre++w::post))] M=Z (NY pre.length,M++[.dead]):=
 BO hp k l o q rfl rfl rfl fun h d J r=>bA (F:=cZ) (aI (show aD 1 [Z (I J),Z (.d (wD h))] M=Z (.d (wD h),M)from rfl) aS)<|r M
abbrev LG(n:Int)(x:CD)(c k:Nat)(r:Ua):Ga:=[Z (I n),Z x,Z (.c c),Z<|I (k:Nat),Z (.d r)]
noncomputable def uZ(k:Nat)(l:T5):T7:=(l.zipIdx k).map fun p=>.d (.tuple [.int (p.2:Nat),p.1])
def GE(k:Nat)(r:Ua)(l:T5):uZ k (r::l)=.d (.tuple [.int (k:Nat),r])::uZ (k+1) l:=rfl
abbrev G2:GF:=gS 2<|bK (hName 3)<|bK (hName 4) gU
def aGM{x:CD}{k:Nat}{g3:Tf}:G2 (.d (.tuple [.int (k:Nat),r])) [Z (I n),Z x,Z (.c c),g3,g4] M=Z (LG n x c k r,M):=rfl
def aMy{w:Ua}(h:cT w=Z [.int a,.int b])(M:Sto):jA [.d w] M=Z (.d (.tuple [.int a,.int b]),M):=by
 cases w<;>first|(cases h;rfl)|cases h
def RJ{t:Tie}(h:iK t.a t.b=true/\0<=t.i/\t.i<t.j/\t.j<n):gG n (.tuple (f2 t))=Z t:=
 UC rfl rfl ⟨h.2.1,h.2.2.1,h.2.2.2,h.1⟩
def WZ{x:CD}{M:Sto}{ts:Tw Tie}(G:ts.length<1000)(ht:gG n (.tuple (f2 t))=Z t)(l:∀s∈ts,s.key≠t.key):
 dU (LG n x M.length k (.tuple (f2 t))) (M++[.dt (cJ ts)])=Z (.o (.nx (LG n x M.length k (.tuple (f2 t)))),M++[.dt (cJ (ts++[t]))]):=by
 have q:=OR n (.tuple (f2 t)) (M++[.dt (cJ ts)]);rw[ht,Option.isSome_some]at q;have A:ixF (.d (.tuple (f2 t))) (I 0) (M++[.dt (cJ ts)])=Z (I t.i,M++[.dt (cJ ts)]):=rfl;have x1:ixF (.d (.tuple (f2 t))) (I 1) (M++[.dt (cJ ts)])=Z (I t.j,M++[.dt (cJ ts)]):=rfl;have B:ixF (.d (.tuple (f2 t))) (I 2) (M++[.dt (cJ ts)])=Z (.d (.tuple [.int t.a,.int t.b]),M++[.dt (cJ ts)]):=rfl;have C:=aMy (w:=.tuple [.int t.a,.int t.b]) rfl (M++[.dt (cJ ts)]);have u:(M++[Cell.dt (cJ ts)])[M.length]?=Z (.dt (cJ ts)):=gV;have h:keysOf [I t.i,I t.j]=Z t.key:=rfl;have E:(Tie.key t).length<=sizeLine:=sz (show 2<=1000 by decide);have at_:atD (M++[.dt (cJ ts)]) (.c M.length) (.inr t.key)=Z Y:=by simp only[atD,u,aFX l]
 have len:(cJ ts).length<sizeLine:=by unfold cJ;rw[A3,O6];omega
 have st:PJ (M++[.dt (cJ ts)]) (.c M.length) (.inr t.key) (.d (.tuple [.int t.a,.int t.b]))=Z (M++[.dt (cJ (ts++[t]))]):=by
  have pn:putD (cJ ts) t.key (.d (.tuple [.int t.a,.int t.b]))=cJ (ts++[t]):=aFp l;simp only[PJ,u,if_pos len,pn];rw[xQ]
 simp![dU,q,aBt,IY,A,x1,B,h,if_pos E,at_,uN,C,st,Option.isSome_none]
theorem NA{t:Tie}:∀{ts:Tw Tie},(∃s∈ts,s.key=t.key)->(lkC (cJ ts) t.key).isSome=true
 |[]=>fun h=>by obtain⟨s,hs,_⟩:=h;cases hs
 |s::ts=>fun h=>by
  unfold lkC cJ;rw[B4,List.find?_cons];by_cases e:s.key=t.key
  .rw[D9 e];rfl
  .rw[E3 e];obtain⟨u,hu,k⟩:=h;rcases List.mem_cons.mp hu with rfl|hu
   .exact absurd k e
   .exact NA ⟨u,hu,k⟩
def NoT(n:Int)(ts:Tw Tie)(r:Ua):Prop:=gG n r=Y\/∃t,r=.tuple (f2 t)/\gG n r=Z t/\∃s∈ts,s.key=t.key
def FA{x:CD}{M:Sto}{k:Nat}(h:NoT n ts r):
 dU (LG n x M.length k r) (M++[.dt (cJ ts)])=Z (.xc (LG n x M.length k r) ⟨"NoTie",[("at",I (k:Nat))]⟩,M++[.dt (cJ ts)]++[.dead]):=by
 have rs:=XT (γ:=LG n x M.length k r) (M:=M++[.dt (cJ ts)]) (k:=I (k:Nat)) (fa:=aB (aD 3) aG) rfl;have l:=OR n r (M++[.dt (cJ ts)]);rcases h with h|⟨t,rfl,ht,q⟩
 .rw[h,Option.isSome_none]at l;simp![dU,l,rs]
 .rw[ht,Option.isSome_some]at l;have u:ixF (.d (.tuple (f2 t))) (I 0) (M++[.dt (cJ ts)])=Z (I t.i,M++[.dt (cJ ts)]):=rfl;have x1:ixF (.d (.tuple (f2 t))) (I 1) (M++[.dt (cJ ts)])=Z (I t.j,M++[.dt (cJ ts)]):=rfl;have A:(M++[Cell.dt (cJ ts)])[M.length]?=Z (.dt (cJ ts)):=gV;have o:keysOf [I t.i,I t.j]=Z t.key:=rfl;have B:(Tie.key t).length<=sizeLine:=sz (show 2<=1000 by decide);obtain⟨v,C⟩:=Option.isSome_iff_exists.mp<|NA q;have at_:atD (M++[.dt (cJ ts)]) (.c M.length) (.inr t.key)=Z (Z v):=by simp only[atD,A,C]
  simp![dU,l,aBt,IY,u,x1,o,if_pos B,at_,Option.isSome_some,rs]
theorem GK{n:Int}{x:CD}{M:Sto}{r:Ua}{rest:T5}:∀(ws ts:Tw Tie)(k:Nat)(g3 g4:Tf),((ts++ws).map Tie.key).Nodup->(∀t∈ws,gG n (.tuple (f2 t))=Z t)->ts.length+ws.length<1000->NoT n (ts++ws) r->
 ∃γ L,vL G2 dU (uZ k (gX ws++r::rest)) [Z (I n),Z x,Z (.c M.length),g3,g4] (M++[.dt (cJ ts)])=Z (.xc γ ⟨"NoTie",[("at",I ((k+ws.length:Nat):Nat))]⟩,M++L)
 |[]=>fun ts k g3 g4 _ _ _ h=>by
  rw[J0]at h;refine⟨LG n x M.length k r,[.dt (cJ ts),.dead],?_⟩;rw[show gX []++r::rest=r::rest from rfl,GE,show k+([]:Tw Tie).length=k from rfl,show M++[Cell.dt (cJ ts),.dead]=M++[.dt (cJ ts)]++[.dead]by rw[E5];rfl];exact UY aGM<|FA h
 |t::ws=>fun ts k g3 g4 nd ok l h=>by
  have o:∀s∈ts,s.key≠t.key:=fun s hs e=>by
   rw[D5,List.nodup_append]at nd;exact nd.2.2 _ (A0o hs) _ (A0o<|C4 ..) e
  rw[B5]at l;have tn:=WZ (n:=n) (x:=x) (M:=M) (k:=k) (ts:=ts) (t:=t) (by omega) (ok t<|C4 ..) o;have e:ts++t::ws=ts++[t]++ws:=by simp
  rw[e]at nd h;obtain⟨γ,L,ih⟩:=GK (n:=n) (x:=x) (M:=M) (r:=r) (rest:=rest) ws (ts++[t]) (k+1) (Z<|I (k:Nat)) (Z (.d (.tuple (f2 t)))) nd (fun s hs=>ok s<|C0 _ hs) (by rw[C3,I0];omega) h;refine⟨γ,L,?_⟩;rw[show gX (t::ws)++r::rest=.tuple (f2 t)::(gX ws++r::rest)from rfl,GE,FQ aGM tn,ih,show k+1+ws.length=k+(t::ws).length by rw[B5];omega]
def aFW{d:Ua}{l:T5}{c:CD}(hd:cT d=Z l):xV (aB (aD 1) aG) [Z (I n),Z (.d d),Z c,Y,Y] M=Z (uZ 0 l,M):=by
 simp![xV,hd];rfl
def aCl{rest:T5}{M:Sto}(ok:Ok n us)(h:NoT n us r):
 ∃L,lM [I n,.d (.list (gX us++r::rest))] M=Z (.x ⟨"NoTie",[("at",I (us.length:Nat))]⟩,M++L):=by
 obtain⟨q,nd,u⟩:=ok;obtain⟨γ,L,l⟩:=GK (n:=n) (x:=.d (.list (gX us++r::rest))) (M:=M) (r:=r) (rest:=rest) us [] 0 Y Y (by rw[A0l];exact nd) (fun t ht=>RJ<|q t ht) (by rw[List.length_nil];omega) (by rw[A0l];exact h);rw[Nat.zero_add]at l;refine⟨L,?_⟩;have k:aBP (.list (gX us++r::rest))=true:=rfl;unfold lM;refine xM rfl (γ:=γ) ?_;show lK [Z (I n),Z (.d (.list (gX us++r::rest))),Y,Y,Y] M=_;unfold lK
 have s1:vM (kX<|gB<|aL rC<|aB (aD 1) aG) (gP "NoTie" eR<|aB (fC (.int 0)) aG) (liS cN) [Z (I n),Z (.d (.list (gX us++r::rest))),Y,Y,Y] M=Z (.o (.nx [Z (I n),Z (.d (.list (gX us++r::rest))),Y,Y,Y]),M):=by
  simp![aCt,k]
 rw[mJ s1,mJ<|HW<|bM (f:=uK) (i:=2) (show uK [Z (I n),Z (.d (.list (gX us++r::rest))),Y,Y,Y] M=Z (.c M.length,M++[.dt (cJ [])])from rfl)];exact HU<|VD (aFW rfl) l
def aDh{rest:T5}{M:Sto}(ok:Ok n us)(h:NoT n us r)(C:1<=n)(n40:n<=40):
 ∃L,jQ [.c M.length,I n,.d (.list (gX us++r::rest))] (M++[.obj "Web" []])=Z (.x ⟨"NoTie",[("at",I (us.length:Nat))]⟩,M++L):=by
 obtain⟨L,k⟩:=aCl (rest:=rest) (M:=M++[.obj "Web" [("many",I n)]]) ok h;refine⟨[.obj "Web" [("many",I n)]]++L,?_⟩;have l:gR [I n] (M++[.obj "Web" []])=Z (B true,M++[.obj "Web" []]):=lE _ _;have o:decide (n<1)=false:=E3 (by omega);have q:decide (n > 40)=false:=E3 (by omega);have t:objOf "Web" (M++[.obj "Web" []]) (.c M.length)=Z (M.length,[]):=aIh;have s1:(M++[Cell.obj "Web" []]).set M.length (.obj "Web" (NF "many" (I n) []))=M++[.obj "Web" [("many",I n)]]:=xQ;have u:([]:Tv).length<1000:=by decide
 rw[E5]at k;obtain⟨J,A⟩:∃J:Int,((us.length:Nat):Int)=J:=⟨_,rfl⟩;rw[A]at k ⊢;simp![jQ,sD,l,o,q,UE,VL,t,s1,k,if_true,if_pos u,show(0:Nat)<1000 from by decide]
structure SL(x:Str)(W:Tc):Prop where
 ne:W≠[]
 wd:∀w∈W,32∉sg w/\10∉sg w/\sg w≠[]
 is:sg x=pP 32 (W.map sg)
 len:x.length<=10000
def SL.split{W:Tc}(h:SL x W):Txt.split x ⟨#[32]⟩=W:=by
 refine kZ ?_;rw[rT,h.is];refine wJ (fun e=>h.ne<|List.map_eq_nil_iff.mp e) fun p k=>?_;obtain⟨w,l,rfl⟩:=List.mem_map.mp k;exact(h.wd w l).1
theorem BJ:∀{ws:Tw (Te)},(∀w∈ws,10∉w)->10∉pP 32 ws
 |[]=>fun _=>by simp[pP]
 |[p]=>fun h=>h p C4
 |p::q::ps=>fun h=>by
  have ih:=BJ (ws:=q::ps) fun w k=>h w<|C0 _ k;show 10∉p++32::pP 32 (q::ps);intro m;rcases List.mem_append.mp m with m|m
  .exact h p C4 m
  .rcases List.mem_cons.mp m with m|m
   .cases m
   .exact ih m
def SL.wdis{W:Tc}(h:SL x W):wdS x=W/\10∉sg x:=by
 refine⟨?_,?_⟩
 .unfold wdS;rw[h.split];refine List.filter_eq_self.mpr fun w k=>?_;have n:=(h.wd w k).2.2;have:w.length≠0:=fun e=>n<|List.length_eq_zero_iff.mp (by rw[<- str_len];exact e);show((w.length:Int) != 0)=true;simp only[bne_iff_ne,ne_eq];omega
 .rw[h.is];refine BJ fun p l=>?_;obtain⟨w,k,rfl⟩:=List.mem_map.mp l;exact(h.wd w k).2.1
def Wd(w:Str):Prop:=32∉sg w/\10∉sg w/\sg w≠[]
def aDu{w:Str}(k:∀c∈sg w,47<=c)(l:sg w≠[]):Wd w:=⟨fun h=>by have:=k _ h;omega,fun h=>by have:=k _ h;omega,l⟩
def JX(h:(sg w).all (fun c=>decide (47<=c))=true/\(sg w).isEmpty=false):Wd w:=aDu (fun c k=>D8<|List.all_eq_true.mp h.1 c k) fun e=>by
 have:=h.2;rw[e]at this;cases this
def zX{n:Int}(h:0<=n):(∀c∈sg (sI n),47<=c)/\sg (sI n)≠[]:=by
 obtain⟨m,rfl⟩:=O2 h;rw[gW];refine⟨fun c k=>by have:=wA m c k;omega,?_⟩;by_cases q:m<10
 .rw[rB q];simp
 .rw[HV q];simp
def OK(h:0<=n):Wd (sI n):=aDu (zX h).1 (zX h).2
def aIu(ha:0<=a)(o:0<=b):Wd (fM a b):=by
 unfold fM;split
 .exact OK ha
 .have q:=zX ha;have k:=zX o;refine aDu (fun c l=>?_) fun e=>?_
  .rw[cL,cL,show sg ("/":Str)=[47]by decide]at l;rcases List.mem_append.mp l with h|h
   .rcases List.mem_append.mp h with h|h
    .exact q.1 c h
    .rw[List.mem_singleton.mp h];exact B3 _
   .exact k.1 c h
  .rw[cL,cL]at e;have:=(List.append_eq_nil_iff.mp e).2;exact k.2 this
def aIY:sg (" ":Str)=[32]:=by decide
def HX(l:Wd w)(o:w.length<=100)(h:RdT t):SL (cE w t) (tW w t):=by
 obtain⟨q,u,A,B⟩:=h.bd;refine⟨by simp[tW],fun x k=>?_,?_,E7 (ZH o q u A B) (by decide)⟩
 .simp only[tW,List.mem_cons,List.not_mem_nil,or_false]at k;rcases k with rfl|rfl|rfl|rfl
  .exact l
  .exact OK h.i.1
  .exact OK h.j.1
  .exact aIu h.a.1 (by have:=h.b.1;omega)
 .show sg (w++" "++sI t.i++" "++sI t.j++" "++fM t.a t.b)=sg w++32::(sg (sI t.i)++32::(sg (sI t.j)++32::sg (fM t.a t.b)));rw[cL,cL,cL,cL,cL,cL,aIY];simp only[List.append_assoc,List.cons_append,List.nil_append]
def RI{ns:T8}(h:∀k∈ns,0<=k/\k<100)(t:ns.length<=20):(nI ns).length<=10000:=by
 have g:=StrLaws.join_length_le " " ("side"::ns.map sI)
 have o:=IX (n:=2) (ls:=(ns.map sI).map (·.length)) fun x l=>by
  rw[D3]at l;obtain⟨n,hn,rfl⟩:=List.mem_map.mp l;obtain⟨q,u⟩:=h n hn;obtain⟨m,rfl⟩:=O2 q;show(sI ((m:Nat):Int)).length<=2;rw[str_len,gW];exact(tZ 1 m (by omega)).1
 rw[A3,A3]at o;rw[B4,List.sum_cons,B5,A3,sp1,sd4]at g;show(Builtin.Str.glued " " ("side"::ns.map sI)).length<=_;rw[U4];refine E7 g ?_;omega
def WI(h:RdS ns):SL (nI ns) (uX ns):=by
 refine⟨by simp[uX],fun x hx=>?_,?_,RI h.2.1 h.2.2⟩
 .rcases List.mem_cons.mp hx with rfl|hx
  .exact JX (by decide)
  .obtain⟨n,hn,rfl⟩:=List.mem_map.mp hx;exact OK (h.2.1 n hn).1
 .show sg (Builtin.Str.glued " "<|uX ns)=_;rw[U4];exact sS 32<|uX ns
def pl(n:Int):Str:="places "++sI n
def sG(h:0<=n)(k:n<100):SL (pl n) ["places",sI n]:=by
 have t:=xJ;have b:Bd n:=Bd.of h (by omega);have l:=iZ b;refine⟨by simp,fun x hx=>?_,?_,by unfold pl;rw[zE,show("places ":Str).length=7 by decide];omega⟩
 .rcases List.mem_cons.mp hx with rfl|hx
  .exact JX (by decide)
  .rw[List.mem_singleton.mp hx];exact OK h
 .unfold pl;rw[cL,show sg ("places ":Str)=sg ("places":Str)++[32]by decide,E5];rfl
def FW{M1:Sto}{i:Nat}(h:f γ M=Z (.c i,M1))(hi:M1[i]?=Z (.lst (ds.map .d))):lS f γ M=Z (.d (.list ds),M1.set i .dead):=by
 simp only[lS,h,Option.bind_some,hi,qG]
def ZE{f:AF}{ts:Tw Tie}(it:f γ M=Z (ts.map fun t=>.d (fZ false t),M))(l:w.length<=100)(o:∀t∈ts,RdT t)(h:ts.length<=1000)(q:pV [Y] γ=[Y]):
 fLc [Y] f (hName 0) eU (aL eC<|aB (fC (.str w))<|aB (aD 0) aG) γ M=Z (.d (.list (ts.map fun t=>.str (cE w t))),M):=by
 refine jT it (by rw[A3];exact h) ?_ (by rw[A3];exact h);rw[q];refine oP (fun t=>.d (fZ false t)) (fun t=>.str (cE w t)) ts Y fun t ht=>?_;obtain⟨u,A,B,C⟩:=(o t ht).bd;exact bA (F:=eC) (aI (show fC (.str w) [Z (.d (fZ false t))] M=Z (S w,M)from rfl)<|aI (show aD 0 [Z (CD.d<|fZ false t)] M=Z (.d (fZ false t),M)from rfl) aS)<|EC (k:=false) (k':=false) l u A B C
def VR{t:Tie}(n40:n<=40)(h:iK t.a t.b=true/\0<=t.i/\t.i<t.j/\t.j<n):RdT t:=by
 obtain⟨k,l,u,A⟩:=h;obtain⟨o,B,q,C⟩:=aLA k
 have g:Int.gcd t.a t.b=1:=by
  unfold iK at k;simp only[Bool.and_eq_true,decide_eq_true_eq,beq_iff_eq]at k;exact k.1.2
 exact⟨⟨l,by omega⟩,⟨by omega,by omega⟩,⟨o,by rw[GN];omega⟩,⟨q,by rw[GN];omega⟩,g⟩
def OP{h:Type}{xs:Tw h}(k:0<=z):eN xs (Z z) Y=xs.drop (min z.toNat xs.length):=by
 unfold eN HT.sIx;dsimp only;rw[B0 (by omega),List.take_of_length_le];rw[A0f];omega
def uW{h:Type}{xs:Tw h}(k:0<=z):eN xs Y (Z z)=xs.take (min z.toNat xs.length):=by
 unfold eN HT.sIx;dsimp only;rw[B0 (by omega),List.drop_zero,Nat.sub_zero]
def aCN(k:Wd w)(l:w.length<=100)(h:RdT t):LnG bI [S w] (cE w t):=by
 obtain⟨e,n⟩:=(HX k l h).wdis;exact⟨n,fun _=>⟨fZ false t,rfl,fun M=>by rw[e];exact qE h⟩⟩
def aEL(h:RdS ns):cZ [.d (.list ((uX ns).map .str))] M=Z (.d (sqK false ns),M):=by
 obtain⟨k,l,o⟩:=h;cases ns with
 |nil=>exact absurd rfl k
 |cons n ns=>exact XE l (by rw[B5]at o;omega)
def ZQ(h:RdS ns):LnG cZ [] (nI ns):=by
 obtain⟨e,n⟩:=(WI h).wdis;exact⟨n,fun _=>⟨sqK false ns,rfl,fun M=>by rw[e];exact aEL h⟩⟩
def RC:iP bI [S w] "nothing 1":=JH (ws:=["nothing","1"]) ⟨by decide,by decide,rfl⟩ fun M=>by kernel_rfl
def aGw:iP cZ [] "nothing 1":=JH (ws:=["nothing","1"]) ⟨by decide,by decide,rfl⟩ fun M=>by kernel_rfl
def Dk.to(h:Dk M c m)(e:Ex d M M')(n:c≠d):Dk M' c m:=let⟨xs,a,b⟩:=h;⟨xs,by unfold Li;exact e.to a n,b⟩
def aJj:kR (aB (fC (.str x)) aG) γ M=Z (.c M.length,M++[.lst [S x]]):=by
 unfold kR;rw[aI (show fC (.str x) γ M=Z (S x,M)from rfl) aS,A1];exact A4<|s9 (show(1:Nat)<=9 by decide)
theorem UN(x:Str):∀n:Nat,aDg [.str x] n=(List.replicate n x).map .str
 |0=>rfl
 |n+1=>by
  have:=UN x n;unfold aDg at this ⊢;rw[S5,S8,this,S5];rfl
def aAE{k:Nat}{M:Sto}(o:k<=9)(h:∀M,f γ M=Z (I (k:Int),M)):fOp YG (kR<|aB (fC (.str x)) aG) f γ M=Z (.d (.list ((List.replicate k x).map .str)),M++[.lst [S x]]):=by
 have l:(M++[Cell.lst [S x]])[M.length]?=Z (.lst [S x]):=gV
 have c:(0:Int)<=(k:Int)/\(k:Int)<2 ^ 62/\([PyData.str x]:T5).length*((k:Int)).toNat<=sizeLine:=⟨by omega,by omega,by
  rw[Y2];exact s9 (by show 1*k<=9;omega)⟩
 refine fY aJj (h _) ?_;show(match vC (.c M.length) (I (k:Int)) (M++[Cell.lst [S x]])with|some r=>Z r|none=>mulL (.c M.length) (I (k:Int)) (M++[Cell.lst [S x]]))=_;rw[show vC (.c M.length) (I (k:Int)) (M++[.lst [S x]])=Y from rfl];simp only[mulL,l];rw[show iO [S x]=Z [PyData.str x]from rfl,A1,A4 c,Y2,UN]
def zP(hm:0<m):∃k:Nat,z % (m:Int)=(k:Int)/\k<m:=by
 have h:=D6 z (show(m:Int)≠0 by omega);have l:=D4 z (show(0:Int)<(m:Int)by omega);exact⟨(z % m).toNat,by omega,by omega⟩
def aAZ{ls:Tc}{p:Nat}(hp:p<=ls.length):eN (ls.map PyData.str) Y (Z (p:Int))=(ls.take p).map .str:=by
 rw[uW (by omega),Y2,A3,Nat.min_eq_left hp,List.map_take]
def aCg{ls:Tc}{p:Nat}(hp:p<=ls.length):eN (ls.map PyData.str) (Z (p:Int)) Y=(ls.drop p).map .str:=by
 rw[OP (by omega),Y2,A3,Nat.min_eq_left hp,List.map_drop]
abbrev PG(d:Nat)(L:CD)(w:Str)(f:Int)(g4 g5 g6 g7:Tf):Ga:=[Z (.c d),Z L,Z<|S w,Z<|I f,g4,g5,g6,g7]
def join_le{ls:Tc}(h:∀l∈ls,l.length<=10000)(k:ls.length<=90):(Txt.join "\n" ls).length<=1000000:=by
 show(Builtin.Str.glued "\n" ls).length<=_;rw[U4];have j:=StrLaws.join_length_le "\n" ls
 have s:=IX (n:=10000) (ls:=ls.map (·.length)) fun x hx=>by
  obtain⟨l,k,rfl⟩:=List.mem_map.mp hx;exact h l k
 rw[A3]at s;have e:("\n":Str).length=1:=by decide
 rw[e]at j;omega
structure xW(ls:Tc)(w:Str)(f:Nat)(pre post:Tc):Prop where
 ex:∃(a b p:Nat)(m:Str),pre=List.replicate a ("":Str)++ls.take p++List.replicate b ("  ":Str)/\post=ls.drop p++[m]/\a<=2/\b<=1/\f<=p/\p<=ls.length/\(m=w\/m=""\/m="nothing 1")
def xW.short{w:Str}{f:Nat}(h:xW ls w f pre post)(t:ls.length<=50)(hs:∀l∈ls,l.length<=10000)(k:w.length<=10000):(∀x∈pre++w::post,x.length<=10000)/\pre.length+post.length<=60:=by
 obtain⟨a,b,p,m,rfl,rfl,ha,u,A,B,hm⟩:=h.ex;have o:m.length<=10000:=by rcases hm with rfl|rfl|rfl;exact k;decide;decide
 refine⟨fun x q=>?_,?_⟩
 .rcases List.mem_append.mp q with z|z
  .rcases List.mem_append.mp z with z|z
   .rcases List.mem_append.mp z with z|z
    .rw[O0 z];decide
    .exact hs x<|S7 z
   .rw[O0 z];decide
  .rcases List.mem_cons.mp z with rfl|z
   .exact k
   .rcases List.mem_append.mp z with z|z
    .exact hs x<|Y7 z
    .rw[List.mem_singleton.mp z];exact o
 .simp only[List.length_append,List.length_replicate,List.length_take,List.length_drop,List.length_cons,List.length_nil];omega
def aLD{ls:Tc}{f:Nat}(dk:Dk M d 2)(hf:f<=ls.length)(hl:ls.length<=50)(hs:∀l∈ls,l.length<=10000)(U:w.length<=10000):
 ∃(pre post:Tc)(M':Sto),xW ls w f pre post/\cU [.c d,.d (.list (ls.map .str)),S w,I (f:Nat)] M=Z (.d (.tuple [.str (Txt.join "\n" (pre++w::post)),.int (pre.length:Nat)]),M')/\Ex d M M':=by
 obtain⟨z,M1,p1,V,x1,z0,z1⟩:=dk.popE;obtain⟨y,M2,p2,d2,x2,y0,y1⟩:=V.popE;obtain⟨q,hq,q1⟩:=zP (z:=z) (m:=ls.length+1-f) (by omega);obtain⟨a,ha,a1⟩:=zP (z:=y) (m:=3) (by decide);obtain⟨b,hb,b1⟩:=zP (z:=y / 3) (m:=2) (by decide);obtain⟨c,hc,c1⟩:=zP (z:=y / 6) (m:=3) (by decide);have t:f+q<=ls.length:=by omega
 obtain⟨p,A⟩:∃p,f+q=p:=⟨_,rfl⟩;rw[A]at t;obtain⟨L,u⟩:∃L,CD.d (.list (ls.map .str))=L:=⟨_,rfl⟩
 have len:∀M,hV [L] M=Z (I ((ls.length:Nat):Int),M):=fun M=>by
  rw[<- u];show Z (I (((ls.map PyData.str).length:Nat):Int),M)=_;rw[A3]
 have W:aY (fOp bV (aD 3)<|fOp bO (bG "list" fE (aD 0) aG)<|fOp qZ (fOp bV (aL hV<|aB (aD 1) aG)<|fC (.int 1))<|aD 3) (hName 4) (PG d L w f Y Y Y Y) M=Z (.nx (PG d L w f (Z<|I (p:Int)) Y Y Y),M1):=by
  have s1:fOp qZ (fOp bV (aL hV<|aB (aD 1) aG)<|fC (.int 1)) (aD 3) (PG d L w f Y Y Y Y) M1=Z (I ((ls.length+1-f:Nat):Int),M1):=by
   refine cB (cB (bA (F:=hV) (aI (show aD 1 (PG d L w f Y Y Y Y) M1=Z (L,M1)from rfl) aS)<|len M1) (bR (i:=1)) yG) (show aD 3 (PG d L w f Y Y Y Y) M1=Z (I (f:Int),M1)from rfl) ?_;show Z (I (((ls.length:Nat):Int)+1-(f:Int)),M1)=_;rw[show((ls.length:Nat):Int)+1-(f:Int)=((ls.length+1-f:Nat):Int)by omega]
  have m1:fOp bO (bG "list" fE (aD 0) aG) (fOp qZ (fOp bV (aL hV<|aB (aD 1) aG)<|fC (.int 1))<|aD 3) (PG d L w f Y Y Y Y) M=Z (I (q:Int),M1):=by
   refine fY (pop_at (v:=0) rfl dk.ty p1) s1 ?_;rw[dZ (by omega),hq]
  refine bM<|fY (show aD 3 (PG d L w f Y Y Y Y) M=Z (I (f:Int),M)from rfl) m1 ?_;rw[yG,show(f:Int)+(q:Int)=(p:Int)by omega]
 have X:aY (bG "list" fE (aD 0) aG) (hName 5) (PG d L w f (Z<|I (p:Int)) Y Y Y) M1=Z (.nx (PG d L w f (Z<|I (p:Int)) (Z<|I y) Y Y),M2):=bM<|pop_at (v:=0) rfl V.ty p2;obtain⟨P,B⟩:∃P:Int,(p:Int)=P:=⟨_,rfl⟩;have C:∀g6 g7 M,aD 5 (PG d L w f (Z<|I P) (Z<|I y) g6 g7) M=Z (I y,M):=fun _ _ _=>rfl;have k3:∀g6 M,fOp bO (aD 5) (fC (.int 3)) (PG d L w f (Z<|I P) (Z<|I y) g6 Y) M=Z (I (a:Int),M):=fun g6 M=>cB (C g6 Y M) (bR (i:=3)) (by rw[dZ (by decide)];exact S0 Z<|Prod.ext (S0 I ha) rfl);have k2:∀g6 M,fOp bO (fOp cD (aD 5)<|fC (.int 3)) (fC (.int 2)) (PG d L w f (Z<|I P) (Z<|I y) g6 Y) M=Z (I (b:Int),M):=fun g6 M=>cB (cB (C g6 Y M) (bR (i:=3))<|vG (by decide) (by decide)) (bR (i:=2)) (by rw[dZ (by decide)];exact S0 Z<|Prod.ext (S0 I hb) rfl);have E:∀g6 M,fOp bO (fOp cD (aD 5)<|fC (.int 6)) (fC (.int 3)) (PG d L w f (Z<|I P) (Z<|I y) g6 Y) M=Z (I (c:Int),M):=fun g6 M=>cB (cB (C g6 Y M) (bR (i:=6))<|vG (by decide) (by decide)) (bR (i:=3)) (by rw[dZ (by decide)];exact S0 Z<|Prod.ext (S0 I hc) rfl)
 have sl1:∀g6 g7 M,fSl (aD 1) bF (bW<|aD 4) (PG d L w f (Z<|I P) (Z<|I y) g6 g7) M=Z (.d (.list ((ls.take p).map .str)),M):=fun g6 g7 M=>by
  unfold fSl;rw[show aD 1 (PG d L w f (Z<|I P) (Z<|I y) g6 g7) M=Z (L,M)from rfl,<- u,A1];show Z (CD.d (.list (eN (ls.map .str) Y<|Z P)),M)=_;rw[<- B,aAZ t]
 have G:∀g6 g7 M,fSl (aD 1) (bW<|aD 4) bF (PG d L w f (Z<|I P) (Z<|I y) g6 g7) M=Z (.d (.list ((ls.drop p).map .str)),M):=fun g6 g7 M=>by
  unfold fSl;rw[show aD 1 (PG d L w f (Z<|I P) (Z<|I y) g6 g7) M=Z (L,M)from rfl,<- u,A1];show Z (CD.d (.list (eN (ls.map .str) (Z P) Y)),M)=_;rw[<- B,aCg t]
 obtain⟨pre,o⟩:∃pre:Tc,List.replicate a ("":Str)++ls.take p++List.replicate b ("  ":Str)=pre:=⟨_,rfl⟩;have a0:pre.length=a+p+b:=by rw[<- o];simp only[List.length_append,List.length_replicate,List.length_take];omega
 rw[B]at W X
 have H:aY (fOp bV (fOp bV (fOp YG (kR<|aB (fC (.str "")) aG)<|fOp bO (aD 5)<|fC (.int 3))<|fSl (aD 1) bF<|bW<|aD 4)<|fOp YG (kR<|aB (fC (.str "  ")) aG)<|fOp bO (fOp cD (aD 5)<|fC (.int 3))<|fC (.int 2)) (hName 6) (PG d L w f (Z<|I P) (Z<|I y) Y Y) M2=Z (.nx (PG d L w f (Z<|I P) (Z<|I y) (Z (.d (.list (pre.map .str)))) Y),M2++[.lst [S ""]]++[.lst [S "  "]]):=by
  refine bM ?_;rw[<- o,D5,D5];exact fY (fY (aAE (by omega)<|k3 Y) (sl1 Y Y _)<|dP (by simp only[List.length_map,List.length_replicate,List.length_take];omega)) (aAE (by omega)<|k2 Y)<|dP (by simp only[List.length_append,List.length_map,List.length_replicate,List.length_take];omega)
 generalize K:M2++[Cell.lst [S ""]]++[.lst [S "  "]]=h at H;have x3:Ex d M2 h:=by rw[<- K,E5];exact Ex.app d M2 _
 generalize O:Z (CD.d (.list (pre.map .str)))=k at H
 have Q:∃m:Str,(m=w\/m=""\/m="nothing 1")/\aY (fOp ixF (cA<|aB (aD 2)<|aB (fC (.str ""))<|aB (fC (.str "nothing 1")) aG)<|fOp bO (fOp cD (aD 5)<|fC (.int 6))<|fC (.int 3)) (hName 7) (PG d L w f (Z<|I P) (Z<|I y) k Y) h=Z (.nx (PG d L w f (Z<|I P) (Z<|I y) k<|Z<|S m),h):=by
  have l:cA (aB (aD 2)<|aB (fC (.str ""))<|aB (fC (.str "nothing 1")) aG) (PG d L w f (Z<|I P) (Z<|I y) k Y) h=Z (.d (.list [.str w,.str "",.str "nothing 1"]),h):=by
   unfold cA;rw[aI (show aD 2 (PG d L w f (Z<|I P) (Z<|I y) k Y) h=Z (S w,h)from rfl) (aI (show fC (.str "") (PG d L w f (Z<|I P) (Z<|I y) k Y) h=Z (S "",h)from rfl)<|aI (show fC (.str "nothing 1") (PG d L w f (Z<|I P) (Z<|I y) k Y) h=Z (S "nothing 1",h)from rfl) aS),A1];show(Z [PyData.str w,.str "",.str "nothing 1"]).bind _=_;rw[A1];exact A4<|s9 (show(3:Nat)<=9 by decide)
  have R:c=0\/c=1\/c=2:=by omega
  rcases R with rfl|rfl|rfl
  .exact⟨w,.inl rfl,bM<|fY l (E k h) rfl⟩
  .exact⟨"",.inr (.inl rfl),bM<|fY l (E k h) rfl⟩
  .exact⟨"nothing 1",.inr (.inr rfl),bM<|fY l (E k h) rfl⟩
 obtain⟨m,hm,Q⟩:=Q;have lm:m.length<=10000:=by rcases hm with rfl|rfl|rfl;exact U;decide;decide
 have po:xW ls w f pre (ls.drop p++[m]):=⟨a,b,p,m,o.symm,rfl,by omega,by omega,by omega,t,hm⟩;obtain⟨sh,sl⟩:=po.short hl hs U;refine⟨pre,ls.drop p++[m],h,po,?_,(x1.trans x2).trans x3⟩;rw[u];unfold cU;refine iS rfl ?_;show nY (PG d L w f Y Y Y Y) M=_;unfold nY;rw[aU W,aU X,aU H,aU Q];have v6:aD 6 (PG d L w f (Z<|I P) (Z<|I y) k<|Z<|S m) h=Z (.d (.list (pre.map .str)),h):=by rw[<- O];rfl
 have one:∀(v:Nat)(x:Str),aD v (PG d L w f (Z<|I P) (Z<|I y) k<|Z<|S m) h=Z (S x,h)->cA (aB (aD v) aG) (PG d L w f (Z<|I P) (Z<|I y) k<|Z<|S m) h=Z (.d (.list ([x].map .str)),h):=fun v x hx=>by
  unfold cA;rw[aI hx aS,A1];show(Z [PyData.str x]).bind _=_;rw[A1];exact A4<|s9 (show(1:Nat)<=9 by decide)
 have all:fOp bV (fOp bV (fOp bV (aD 6)<|cA<|aB (aD 2) aG)<|fSl (aD 1) (bW<|aD 4) bF) (cA<|aB (aD 7) aG) (PG d L w f (Z<|I P) (Z<|I y) k<|Z<|S m) h=Z (.d (.list ((pre++w::(ls.drop p++[m])).map .str)),h):=by
  have e:(pre++w::(ls.drop p++[m])).map PyData.str=pre.map .str++[w].map .str++(ls.drop p).map .str++[m].map .str:=by simp
  rw[e];rw[C3,I0]at sl;exact fY (fY (fY v6 (one 2 w rfl)<|dP (by simp only[List.length_map,List.length_cons,List.length_nil];omega)) (G _ _ _)<|dP (by simp only[List.length_append,List.length_map,List.length_cons,List.length_nil];omega)) (one 7 m rfl)<|dP (by simp only[List.length_append,List.length_map,List.length_cons,List.length_nil];omega)
 have jn:=xO (sep:="\n") (n:=10000) all sh (by rw[show("\n":Str).length=1 by decide,C3,B5];omega)
 have lh:aL hV (aB (aD 6) aG) (PG d L w f (Z<|I P) (Z<|I y) k<|Z<|S m) h=Z (I (pre.length:Nat),h):=bA (F:=hV) (aI v6 aS) (by
  show Z (I (((pre.map PyData.str).length:Nat):Int),h)=_;rw[A3])
 obtain⟨J,hJ⟩:∃J:Int,((pre.length:Nat):Int)=J:=⟨_,rfl⟩;rw[hJ]at lh ⊢;unfold bT;rw[oJ (aI jn<|aI lh aS) (ds:=[.str (Txt.join "\n" (pre++w::(ls.drop p++[m]))),.int J]) rfl (show(2:Nat)<=500 by decide)];rfl
abbrev exN(J:Int):Exc:=⟨"NoLine",[("at",I J)]⟩
noncomputable def rdrs:Tw (Str×FX):=[("read_web",cH),("read_tree",fR),("read_flow",fB),("read_sides",eI)]
noncomputable abbrev fnC:Cell:=.lst [.g "read_web",.g "read_tree",.g "read_flow",.g "read_sides"]
def aDw{k:Nat}{M:Sto}{G:FX}(o:rdrs[k]?=Z (nm,G))(q:∀M,∃L,G [S x] M=Z (.x (exN J),M++L)):
 ∃L,gQ [Z (I (k:Nat)),Z<|S x,Z (.c M.length),Z (.d .none),Y] (M++[fnC])=Z (.xc [Z (I (k:Nat)),Z<|S x,Z (.c M.length),Z (.d .none),Y] (exN J),M++[fnC]++L):=by
 have t:(M++[fnC])[M.length]?=Z fnC:=gV;obtain⟨L,u⟩:=q (M++[fnC]);refine⟨L,?_⟩
 have h:k=0\/k=1\/k=2\/k=3:=by
  have:=(List.getElem?_eq_some_iff.mp o).1;have l:rdrs.length=4:=rfl;omega
 have ix:fOp ixF (aD 2) (aD 0) [Z (I (k:Nat)),Z<|S x,Z (.c M.length),Z (.d .none),Y] (M++[fnC])=Z (.g nm,M++[fnC]):=by
  refine fY (show aD 2 [Z (I (k:Nat)),Z<|S x,Z (.c M.length),Z (.d .none),Y] (M++[fnC])=Z (.c M.length,M++[fnC])from rfl) (show aD 0 [Z (I (k:Nat)),Z<|S x,Z (.c M.length),Z (.d .none),Y] (M++[fnC])=Z (I (k:Nat),M++[fnC])from rfl) ?_;rcases h with rfl|rfl|rfl|rfl<;>cases o<;>(simp only[ixF,t];rfl)
 have A:List.lookup nm [("read_web",cH),("read_tree",fR),("read_flow",fB),("read_sides",eI)]=Z G:=by
  rcases h with rfl|rfl|rfl|rfl<;>cases o<;>rfl
 unfold gQ DK HJ;rw[ix,A1];dsimp only;rw[A,A1];simp only[sC,VM,liA,aI (show aD 1 [Z (I (k:Nat)),Z<|S x,Z (.c M.length),Z (.d .none),Y] (M++[fnC])=Z (S x,M++[fnC])from rfl) aS,Option.bind_some,u]
def DT{k:Nat}{M:Sto}{G:FX}(B:rdrs[k]?=Z (nm,G))(C:∀M,∃L,G [S x] M=Z (.x (exN J),M++L)):∃L,bE [I (k:Nat),S x] M=Z (I J,M++L):=by
 obtain⟨L,l⟩:=aDw (M:=M) B C;obtain⟨K,E⟩:∃K:Int,((k:Nat):Int)=K:=⟨_,rfl⟩;rw[E]at l ⊢;generalize o:M++[fnC]++L=M2 at l;obtain⟨c,q⟩:∃c,M.length=c:=⟨_,rfl⟩;rw[q]at l;have t:(M2++[Cell.exc false "NoLine" [("at",I J)]])[M2.length]?=Z (.exc false "NoLine" [("at",I J)]):=gV
 have H:aY (kR<|aB (fG "read_web")<|aB (fG "read_tree")<|aB (fG "read_flow")<|aB (fG "read_sides") aG) (hName 2) [Z (I K),Z<|S x,Y,Y,Y] M=Z (.nx [Z (I K),Z<|S x,Z (.c c),Y,Y],M++[fnC]):=by
  refine bM (x:=.c c) ?_;unfold kR;rw[show(aB (fG "read_web")<|aB (fG "read_tree")<|aB (fG "read_flow")<|aB (fG "read_sides") aG) [Z (I K),Z<|S x,Y,Y,Y] M=Z ([.g "read_web",.g "read_tree",.g "read_flow",.g "read_sides"],M)from rfl,A1,<- q];exact A4<|s9 (show(4:Nat)<=9 by decide)
 have O:aY (fC .none) (hName 3) [Z (I K),Z<|S x,Z (.c c),Y,Y] (M++[fnC])=Z (.nx [Z (I K),Z<|S x,Z (.c c),Z (.d .none),Y],M++[fnC]):=rfl
 have P:XJ gQ [⟨[("NoTie",true),("NoLine",true),("NoPlace",true)],(Z 4),pN⟩] [Z (I K),Z<|S x,Z (.c c),Z (.d .none),Y] (M++[fnC])=Z (.nx [Z (I K),Z<|S x,Z (.c c),Z (.c M2.length),Y],M2++[.exc false "NoLine" [("at",I J)]]):=by
  unfold XJ;rw[l,A1];rfl
 have u:∀tb:Tw (Str×Bool),List.lookup ("NoLine":Str) tb=Z true->gB (DP tb (Z false)<|aD 3) [Z (I K),Z<|S x,Z (.c c),Z (.c M2.length),Y] (M2++[.exc false "NoLine" [("at",I J)]])=Z (true,M2++[.exc false "NoLine" [("at",I J)]]):=fun tb h=>by
  refine gJ (b:=true) ?_;unfold DP;rw[show aD 3 [Z (I K),Z<|S x,Z (.c c),Z (.c M2.length),Y] (M2++[.exc false "NoLine" [("at",I J)]])=Z (.c M2.length,M2++[.exc false "NoLine" [("at",I J)]])from rfl,A1];dsimp only;rw[t];dsimp only;rw[h];rfl
 have A:pO ["NoTie","NoLine"] "at" (aD 3) [Z (I K),Z<|S x,Z (.c c),Z (.c M2.length),Y] (M2++[.exc false "NoLine" [("at",I J)]])=Z (I J,M2++[.exc false "NoLine" [("at",I J)]]):=by
  unfold pO;rw[show aD 3 [Z (I K),Z<|S x,Z (.c c),Z (.c M2.length),Y] (M2++[.exc false "NoLine" [("at",I J)]])=Z (.c M2.length,M2++[.exc false "NoLine" [("at",I J)]])from rfl,A1];unfold excOf;dsimp only;rw[t];rfl
 refine⟨[fnC]++L++[.exc false "NoLine" [("at",I J)]],?_⟩;rw[<- E5,<- E5,o];unfold bE;refine iS rfl ?_;show jE [Z (I K),Z<|S x,Y,Y,Y] M=_;unfold jE;rw[aU H,aU O,aU P];refine aJx ?_;refine(aHc (M':=M2++[.exc false "NoLine" [("at",I J)]]) ?_).trans ?_
 .unfold sV;rw[u _ rfl];dsimp only[Option.bind_some];rw[A4 rfl,u _ rfl];dsimp only[Option.bind_some];rw[A4 rfl];unfold kX;rw[show gB (OT "bool"<|pO ["NoTie","NoLine"] "at"<|aD 3) [Z (I K),Z<|S x,Z (.c c),Z (.c M2.length),Y] (M2++[.exc false "NoLine" [("at",I J)]])=Z (false,M2++[.exc false "NoLine" [("at",I J)]])from gJ (by unfold OT;rw[A];rfl)];rfl
 .unfold bT;rw[A];rfl
def CA{ps:Tw (Tc×Nat)}(h:x.length<=1000000)(k:sdS x=ps):liS (aY (aL cF<|aB (aD 0) aG)<|hName 1) [Z (S x),Y,Y,Y] M=Z (.o (.nx [Z (S x),Z (.d (.list (ps.map sdD))),Y,Y]),M):=
 HW (bM<|bA (F:=cF) (aI (show aD 0 [Z (S x),Y,Y,Y] M=Z (S x,M)from rfl) aS) (by rw[vS h,k]))
def aDy(h:x.length<=1000000)(k:sdS x=[]):∃L,cH [S x] M=Z (.x (exN<|Txt.count x "\n"),M++L):=by
 refine⟨[.dead],?_⟩;unfold cH;refine xM rfl (γ:=[Z (S x),Z (.d (.list [])),Y,Y]) ?_;show fA [Z (S x),Y,Y,Y] M=_;unfold fA;rw[mJ (CA h k)];refine HU ?_;rw[aBN (M':=M) rfl];refine tX<|aI (sO (show aD 0 [Z (S x),Z (.d (.list [])),Y,Y] M=Z (S x,M)from rfl) rfl (aI (show fC (.str "\n") [Z (S x),Z (.d (.list [])),Y,Y] M=Z (S "\n",M)from rfl) aS) ?_) aS;rfl
def ix_tup{W:Ua}:ixF (.d (.tuple [.int J,W])) (I 0) M=Z (I J,M)/\ixF (.d (.tuple [.int J,W])) (I 1) M=Z (.d W,M):=⟨rfl,rfl⟩
def BA{d:Ua}{R:T5}:ixF (.d (.list (d::R))) (I 0) M=Z (.d d,M):=by
 show(atI (d::R) ((0:Nat):Int)).bind _=_;rw[pA (k:=0) (x:=d) rfl];rfl
def ZC{ws:Tc}{J:Nat}{ps:Tw (Tc×Nat)}(h:x.length<=1000000)(A:sdS x=(ws,J)::ps)(hm:Rd dB [] ws .none):∃L,cH [S x] M=Z (.x (exN (J:Nat)),M++L):=by
 refine⟨[.dead],?_⟩;obtain⟨K,o⟩:∃K:Int,((J:Nat):Int)=K:=⟨_,rfl⟩;obtain⟨R,B⟩:∃R,ps.map sdD=R:=⟨_,rfl⟩;obtain⟨W,q⟩:∃W,wD ws=W:=⟨_,rfl⟩;have l:=CA (M:=M) h A;rw[B4,B,show sdD (ws,J)=.tuple [.int K,W]by unfold sdD;rw[<- o,<- q]]at l;have t:=hm M;rw[q]at t;rw[o];have u:∀a,aD 1 [Z (S x),Z (.d (.list (.tuple [.int K,W]::R))),a,Y] M=Z (.d (.list (.tuple [.int K,W]::R)),M):=fun _=>rfl;have C:aY (aL dB<|aB (fOp ixF (fOp ixF (aD 1)<|fC (.int 0))<|fC (.int 1)) aG) (hName 2) [Z (S x),Z (.d (.list (.tuple [.int K,W]::R))),Y,Y] M=Z (.nx [Z (S x),Z (.d (.list (.tuple [.int K,W]::R))),Z (.d .none),Y],M):=bM<|bA (F:=dB) (aI (bN (k:=ixF) (bN (k:=ixF) (u Y) (bR (i:=0)) BA) (bR (i:=1)) ix_tup.2) aS) t;unfold cH;refine xM rfl (γ:=[Z (S x),Z (.d (.list (.tuple [.int K,W]::R))),Z (.d .none),Y]) ?_;show fA [Z (S x),Y,Y,Y] M=_;unfold fA;rw[mJ l,mJ<|(TB (M':=M) rfl).trans rfl,mJ<|HW C];refine HU ?_;rw[aBN (M':=M) rfl];exact tX<|aI (bN (k:=ixF) (bN (k:=ixF) (u<|Z (.d .none)) (bR (i:=0)) BA) (bR (i:=0)) ix_tup.1) aS
theorem SZ{k l γ:Type}{f:γ->k}:∀{ps:Tw (k×l)}{ts:Tw γ},ps.map (·.1)=ts.map f->∃qs:Tw (γ×l),qs.map (·.1)=ts/\ps=qs.map fun q=>(f q.1,q.2)
 |[],[]=>fun _=>⟨[],rfl,rfl⟩
 |[],_::_=>fun h=>by simp at h
 |_::_,[]=>fun h=>by simp at h
 |p::ps,t::ts=>fun h=>by
  rw[B4,B4]at h;injection h with o u
  obtain⟨qs,A,B⟩:=SZ u;refine⟨(t,p.2)::qs,by rw[B4,A],?_⟩;rw[B4,<- B,<- o]
def aKS(h:0<=n)(k:n<100):bX [S (sI n)] M=Z (I n,M):=by
 obtain⟨m,rfl⟩:=O2 h;exact pH (by omega)
def ZF(q:1<=n)(n40:n<=40):dB [.d (wD ["places",sI n])] M=Z (I n,M):=by
 obtain⟨W,h⟩:∃W,CD.d (wD ["places",sI n])=W:=⟨_,rfl⟩;have t:ixF W (I 0) M=Z (S "places",M):=by rw[<- h];rfl
 have x1:ixF W (I 1) M=Z (S<|sI n,M):=by rw[<- h];rfl
 have le:hV [W] M=Z (I 2,M):=by rw[<- h];rfl
 rw[h];have l:∀u,aD 0 [Z W,u] M=Z (W,M):=fun _=>rfl;have o:eqX false (S "places") (S "places") M=Z (B true,M):=rfl;have t1:=gJ<|bN (k:=eqX false) (bA (F:=hV) (aI (l Y) aS) le) (bR (i:=2)) (show eqX false (I 2) (I 2) M=Z (B true,M)from rfl);have t2:=gJ<|bN (k:=eqX false) (bN (k:=ixF) (l Y) (bR (i:=0)) t) (show fC (.str "places") [Z W,Y] M=Z (S "places",M)from rfl) o
 have A:fIf (sV (gB<|fOp (eqX false) (aL hV<|aB (aD 0) aG)<|fC (.int 2))<|gB<|fOp (eqX false) (fOp ixF (aD 0)<|fC (.int 0))<|fC (.str "places")) (aL bX<|aB (fOp ixF (aD 0)<|fC (.int 1)) aG) (fC .none) [Z W,Y] M=Z (I n,M):=by
  have C:sV (gB<|fOp (eqX false) (aL hV<|aB (aD 0) aG)<|fC (.int 2)) (gB<|fOp (eqX false) (fOp ixF (aD 0)<|fC (.int 0))<|fC (.str "places")) [Z W,Y] M=Z (true,M):=by
   unfold sV;rw[t1];exact t2
  unfold fIf;rw[C,A1];dsimp only;rw[A4 rfl];exact bA (F:=bX) (aI (bN (k:=ixF) (l Y) (bR (i:=1)) x1) aS)<|aKS (by omega) (by omega)
 have E:aY _ (hName 1) [Z W,Y] M=Z (.nx [Z W,Z<|I n],M):=bM A;have G:decide (1<=n)=true:=D9 q;have H:decide (n<=40)=true:=D9 n40;have nn:AL true (I n) (.d .none) M=Z (B true,M):=rfl;unfold dB;refine iS rfl ?_;show sP [Z W,Y] M=_;unfold sP;rw[aU E];simp![nn,G,H]
noncomputable abbrev Ts:=Tw (Tie×Nat)
def aFK{us:Tw Tie}{p0 J:Nat}{d:Ua}{ws:Tc}{qs:Ts}{rest:Qs}{M:Sto}(h:x.length<=1000000)(sd:sdS x=((["places",sI n]:Tc),p0)::((qs.map fun q=>(tW "tie" q.1,q.2))++(ws,J)::unQ rest))
 (G:qs.map (·.1)=us) (hr:∀t∈us,RdT t) (hd:Rd bI [S "tie"] ws d) (o:∀q∈rest,Rd bI [S "tie"] q.1.1 q.1.2) (ok:Ok n us) (hn:NoT n us d) (n1:1<=n) (n40:n<=40) (hl:rest.length<=900):
 ∃L,cH [S x] M=Z (.x (exN (J:Nat)),M++L):=by
 obtain⟨K,hK⟩:∃K:Int,((p0:Nat):Int)=K:=⟨_,rfl⟩;obtain⟨JJ,hJ⟩:∃K:Int,((J:Nat):Int)=K:=⟨_,rfl⟩;obtain⟨R,H⟩:∃R,((qs.map fun q=>(tW "tie" q.1,q.2))++(ws,J)::unQ rest).map sdD=R:=⟨_,rfl⟩;obtain⟨W,hW⟩:∃W,wD ["places",sI n]=W:=⟨_,rfl⟩;have lq:qs.length=us.length:=by rw[<- G,A3]
 have a4:=ok.2.2;obtain⟨al,l⟩:∃al:Qs,(qs.map fun q=>((tW "tie" q.1,fZ false q.1),q.2))++((ws,d),J)::rest=al:=⟨_,rfl⟩
 have O:(qs.map fun q=>(tW "tie" q.1,q.2))++(ws,J)::unQ rest=unQ al:=by
  rw[<- l,unQ,unQ,D5,B4,D3];rfl
 have P:∀q∈al,Rd bI [S "tie"] q.1.1 q.1.2:=fun q B=>by
  rw[<- l]at B;rcases List.mem_append.mp B with z|z
  .obtain⟨t,ht,rfl⟩:=List.mem_map.mp z;exact fun M=>qE<|hr t.1 (by rw[<- G];exact A0o ht)
  .rcases List.mem_cons.mp z with rfl|z
   .exact hd
   .exact o q z
 have Q:al.map (fun q=>q.1.2)=gX us++d::rest.map fun q=>q.1.2:=by
  rw[<- l,D5,B4,D3,<- G];unfold gX;rw[D3];rfl
 have ll:al.length<=1000:=by rw[<- l,C3,A3,B5];omega
 have A:=CA (M:=M) h sd;rw[B4,H,show sdD ((["places",sI n]:Tc),p0)=.tuple [.int K,W]by unfold sdD;rw[<- hK,<- hW]]at A;have mi:=ZF (M:=M) n1 n40;rw[hW]at mi;have V:∀a b M,aD 1 [Z (S x),Z (.d (.list (.tuple [.int K,W]::R))),a,b] M=Z (.d (.list (.tuple [.int K,W]::R)),M):=fun _ _ _=>rfl;have a3:aY (aL dB<|aB (fOp ixF (fOp ixF (aD 1)<|fC (.int 0))<|fC (.int 1)) aG) (hName 2) [Z (S x),Z (.d (.list (.tuple [.int K,W]::R))),Y,Y] M=Z (.nx [Z (S x),Z (.d (.list (.tuple [.int K,W]::R))),Z<|I n,Y],M):=bM<|bA (F:=dB) (aI (bN (k:=ixF) (bN (k:=ixF) (V Y Y M) (bR (i:=0)) BA) (bR (i:=1)) ix_tup.2) aS) mi
 have it:bD (fSl (aD 1) (bW<|fC (.int 1)) bF) [Z (S x),Z (.d (.list (.tuple [.int K,W]::R))),Z<|I n,Y] M=Z (itD al,M):=by
  have e:fSl (aD 1) (bW<|fC (.int 1)) bF [Z (S x),Z (.d (.list (.tuple [.int K,W]::R))),Z<|I n,Y] M=Z (.d (.list R),M):=by
   unfold fSl;rw[V,A1];show Z (CD.d (.list (eN (.tuple [.int K,W]::R) (Z 1) Y)),M)=_;rw[vB]
  unfold bD;rw[e,A1];show(Z R).bind _=_;rw[A1,<- H,O,unQ,D3,D3];rfl
 have cp:kD [Z (S x),Z (.d (.list (.tuple [.int K,W]::R))),Z<|I n,Y] M=Z (.d (.list (gX us++d::rest.map fun q=>q.1.2)),M):=by
  unfold kD;rw[<- Q];refine jT it (by rw[A3];exact ll) ?_ (by rw[A3];exact ll);rw[show pV [Y,Y] [Z (S x),Z (.d (.list (.tuple [.int K,W]::R))),Z<|I n,Y]=[Y,Y]from rfl];refine(IW (c:=eU) (M:=M) (fun q:(Tc×Ua)×Nat=>.int (q.2:Nat)) (fun q=>wD q.1.1) (fun _=>true) (fun q=>q.1.2) al Y Y fun q B=>⟨rfl,fun _=>?_⟩).trans ?_
  .obtain⟨C,X⟩:∃C:Int,((q.2:Nat):Int)=C:=⟨_,rfl⟩;rw[X];exact bA (F:=bI) (aI (show aD 1 [Z (I C),Z (.d (wD q.1.1))] M=Z (.d (wD q.1.1),M)from rfl)<|aI (show fC (.str "tie") [Z (I C),Z (.d (wD q.1.1))] M=Z (S "tie",M)from rfl) aS)<|P q B M
  .rw[MR]
 obtain⟨L,a0⟩:=aDh (rest:=rest.map fun q=>q.1.2) (M:=M) ok hn n1 n40
 have mk:OX "Web" jQ (aB (aD 2)<|aB kD aG) [Z (S x),Z (.d (.list (.tuple [.int K,W]::R))),Z<|I n,Y] M=Z (.x ⟨"NoTie",[("at",I (us.length:Nat))]⟩,M++L):=by
  unfold OX;rw[aI (show aD 2 [Z (S x),Z (.d (.list (.tuple [.int K,W]::R))),Z<|I n,Y] M=Z (I n,M)from rfl) (aI cp aS),A1,a0,A1]
 have at_:(PyData.tuple [.int K,W]::R)[1+us.length]?=Z (.tuple [.int JJ,wD ws]):=by
  rw[Nat.add_comm,List.getElem?_cons_succ,<- H,D5,S4 (by rw[A3,A3,lq];exact B3 _),A3,A3,lq,Nat.sub_self];show Z (sdD (ws,J))=_;unfold sdD;rw[hJ]
 obtain⟨U,hU⟩:∃U:Int,((us.length:Nat):Int)=U:=⟨_,rfl⟩
 have a1:ixF (.d (.list (.tuple [.int K,W]::R))) (I (1+U))=fun M=>Z (.d (.tuple [.int JJ,wD ws]),M):=by
  funext N;show(atI (PyData.tuple [.int K,W]::R) (1+U)).bind _=_;rw[<- hU,show(1:Int)+((us.length:Nat):Int)=((1+us.length:Nat):Int)by omega,pA at_];rfl
 rw[hU]at mk;generalize a2:M++L=M1 at mk;have E:(M1++[Cell.exc false "NoTie" [("at",I U)]])[M1.length]?=Z (.exc false "NoTie" [("at",I U)]):=gV;generalize u:M1++[Cell.exc false "NoTie" [("at",I U)]]=M2 at E
 have fx:pO ["NoTie","NoLine"] "at" (aD 3) [Z (S x),Z (.d (.list (.tuple [.int K,W]::R))),Z<|I n,Z (.c M1.length)] M2=Z (I U,M2):=by
  unfold pO;rw[show aD 3 [Z (S x),Z (.d (.list (.tuple [.int K,W]::R))),Z<|I n,Z (.c M1.length)] M2=Z (.c M1.length,M2)from rfl,A1];unfold excOf;dsimp only;rw[E];rfl
 have ar:aB (fOp ixF (fOp ixF (aD 1)<|fOp bV (fC (.int 1))<|pO ["NoTie","NoLine"] "at"<|aD 3)<|fC (.int 0)) aG [Z (S x),Z (.d (.list (.tuple [.int K,W]::R))),Z<|I n,Z (.c M1.length)] M2=Z ([I JJ],M2):=
  aI (bN (k:=ixF) (bN (k:=ixF) (V _ _ M2) (cB (k:=bV) (bR (i:=1)) fx yG) (by rw[a1])) (bR (i:=0)) ix_tup.1) aS
 have rz:=(wL (nm:="NoLine") (fl:="at") ar GR).1
 have x1:excOf (M2++[Cell.exc true "NoLine" [("at",I JJ)]]) (.c M2.length)=Z (M2.length,true,(("NoLine":Str),([("at",I JJ)]:Tv))):=by
  have e:(M2++[Cell.exc true "NoLine" [("at",I JJ)]])[M2.length]?=Z (.exc true "NoLine" [("at",I JJ)]):=gV;unfold excOf;dsimp only;rw[e]
 have x0:excOf (M2++[Cell.exc true "NoLine" [("at",I JJ)]]) (.c M1.length)=Z (M1.length,false,(("NoTie":Str),([("at",I U)]:Tv))):=by
  have e:(M2++[Cell.exc true "NoLine" [("at",I JJ)]])[M1.length]?=Z (.exc false "NoTie" [("at",I U)]):=by
   rw[S6 (List.getElem?_eq_some_iff.mp E).1];exact E
  unfold excOf;dsimp only;rw[e]
 have ne:M2.length≠M1.length:=by rw[<- u,C3,I0];omega
 have s1:(M2++[Cell.exc true "NoLine" [("at",I JJ)]]).set M2.length .dead=M2++[.dead]:=xQ
 have tr:OQ oQ [("NoTie",true),("NoLine",false),("NoPlace",false)] 3 "NoLine" bY (aB (fOp ixF (fOp ixF (aD 1)<|fOp bV (fC (.int 1))<|pO ["NoTie","NoLine"] "at"<|aD 3)<|fC (.int 0)) aG) [Z (S x),Z (.d (.list (.tuple [.int K,W]::R))),Z<|I n,Y] M=Z (.xc [Z (S x),Z (.d (.list (.tuple [.int K,W]::R))),Z<|I n,Y] (exN JJ),M2++[.dead]):=by
  unfold OQ oQ tK;rw[mk,A1,A1];dsimp only;rw[A4 (show List.lookup ("NoTie":Str) [("NoTie",true),("NoLine",false),("NoPlace",false)]=Z true from rfl)];show(uU "NoLine" bY _ [Z (S x),Z (.d (.list (.tuple [.int K,W]::R))),Z<|I n,Z (.c M1.length)] (M1++[Cell.exc false "NoTie" [("at",I U)]])).bind _=_;rw[u,rz,A1];dsimp only;rw[x1,A1];dsimp only;rw[x0,A1];dsimp only;rw[A4 ⟨rfl,rfl,ne,rfl,rfl⟩,s1];rfl
 refine⟨L++[.exc false "NoTie" [("at",I U)]]++[.dead],?_⟩;rw[<- E5,<- E5,a2,u,hJ];unfold cH;refine xM rfl (γ:=[Z (S x),Z (.d (.list (.tuple [.int K,W]::R))),Z<|I n,Y]) ?_;show fA [Z (S x),Y,Y,Y] M=_;unfold fA;rw[mJ A,mJ<|(TB (M':=M) rfl).trans rfl,mJ<|HW a3,mJ<|(TB (M':=M) rfl).trans rfl];exact tr
def fi_first{ls:Tw (Tc)}:((ls.zipIdx k).filter Fi).map (·.1)=ls.filter fun x=>!x.isEmpty:=vP (fun x:Tc=>!x.isEmpty) ls k
def aDG{a:Nat}:((List.replicate a ([]:Tc)).zipIdx k).filter Fi=[]:=by
 have h:((((List.replicate a ([]:Tc)).zipIdx k).filter Fi).map (·.1))=[]:=fi_first.trans (List.filter_eq_nil_iff.mpr fun x l=>by
  rw[O0 l];decide)
 exact List.map_eq_nil_iff.mp h
def wd_e:wdS ""=[]/\wdS "  "=[]:=⟨sM (ws:=[]) (by decide),sM (ws:=[]) (by decide)⟩
def aCD:Wd "tie":=JX (by decide)
def xC(h:RdT t):wdS (cE "tie" t)=tW "tie" t/\10∉sg (cE "tie" t):=(HX aCD (by decide) h).wdis
def zS(h:RdT t):(cE "tie" t).length<=10000:=(HX aCD (by decide) h).len
def Ok.take(h:Ok n us)(k:Nat):Ok n (us.take k):=⟨fun t ht=>h.1 t<|S7 ht,((List.take_sublist k us).map _).nodup h.2.1,Nat.lt_of_le_of_lt (by rw[U8];exact Nat.min_le_right ..) h.2.2⟩
structure BF(n:Int)(us:Tw Tie)(f:Nat)(w:Str):Prop where
 len:w.length<=10000
 nl:10∉sg w
 ne:wdS w≠[]
 rd:∃d,Rd bI [S "tie"] (wdS w) d/\∀k,f<=k+1->NoT n (us.take k) d
abbrev wLs(n:Int)(us:Tw Tie):Tc:=pl n::us.map (cE "tie")
def VT{us:Tw Tie}{f:Nat}{pre:Tc}{M:Sto}(f1:1<=f)(po:xW (wLs n us) w f pre post)(k:∀t∈us,RdT t)(ok:Ok n us)(I:1<=n)(n40:n<=40)(l9:us.length<=40)(K:BF n us f w):
 ∃L,cH [S (Txt.join "\n" (pre++w::post))] M=Z (.x (exN (pre.length:Nat)),M++L):=by
 obtain⟨O,o,ne,d,rd,hn⟩:=K;have h:=sG (n:=n) (by omega) (by omega)
 have short:∀x∈wLs n us,x.length<=10000:=fun x hx=>by
  rcases List.mem_cons.mp hx with rfl|hx
  .exact h.len
  .obtain⟨t,ht,rfl⟩:=List.mem_map.mp hx;exact zS<|k t ht
 obtain⟨sh,sl⟩:=po.short (by rw[B5,A3];omega) short O;have hx:=join_le sh (by rw[C3,B5];omega);obtain⟨a,b,p,m,C,E,ha,hb,P,hp,hm⟩:=po.ex;obtain⟨q,rfl⟩:∃q,p=q+1:=⟨p-1,by omega⟩
 have u:10∉sg m/\(wdS m=[]\/∃d,Rd bI [S "tie"] (wdS m) d):=by
  rcases hm with rfl|rfl|rfl
  .exact⟨o,.inr ⟨d,rd⟩⟩
  .exact⟨by decide,.inl wd_e.1⟩
  .exact⟨(RC (w:="tie")).nl,.inr ⟨_,(RC (w:="tie")).rd⟩⟩
 have Q:(wLs n us).drop (q+1)=(us.drop q).map (cE "tie"):=by rw[List.drop_succ_cons,List.map_drop]
 have tk:(wLs n us).take (q+1)=pl n::(us.take q).map (cE "tie"):=by rw[List.take_succ_cons,List.map_take]
 rw[Q]at E;rw[tk]at C
 have nl:∀x∈pre++w::post,10∉sg x:=fun x hx=>by
  rw[C,E]at hx;rcases List.mem_append.mp hx with z|z
  .rcases List.mem_append.mp z with z|z
   .rcases List.mem_append.mp z with z|z
    .rw[O0 z];decide
    .rcases List.mem_cons.mp z with rfl|z
     .exact h.wdis.2
     .obtain⟨t,ht,rfl⟩:=List.mem_map.mp z;exact(xC<|k t<|S7 ht).2
   .rw[O0 z];decide
  .rcases List.mem_cons.mp z with rfl|z
   .exact o
   .rcases List.mem_append.mp z with z|z
    .obtain⟨t,ht,rfl⟩:=List.mem_map.mp z;exact(xC<|k t<|Y7 ht).2
    .rw[List.mem_singleton.mp z];exact u.1
 obtain⟨A,B⟩:∃A:Tw (Tc),(us.take q).map (tW "tie")++List.replicate b []=A:=⟨_,rfl⟩
 have R:pre.map wdS=List.replicate a []++(["places",sI n]:Tc)::A:=by
  rw[C,<- B,D5,D5,B4,List.map_replicate,List.map_replicate,wd_e.1,wd_e.2,h.wdis.1,D3,E5,List.cons_append];refine S0 (fun z=>List.replicate a []++(["places",sI n]:Tc)::(z++List.replicate b [])) (U7 fun t ht=>?_);exact(xC<|k t<|S7 ht).1
 have fp:(pre.map wdS).zipIdx.filter Fi=((["places",sI n]:Tc),a)::(A.zipIdx (a+1)).filter Fi:=by
  rw[R,List.zipIdx_append,List.filter_append,aDG,A0l,A0h,List.filter_cons,A4 (show Fi ((["places",sI n]:Tc),0+(List.replicate a ([]:Tc)).length)=true from rfl),List.length_replicate,Nat.zero_add]
 have U:((A.zipIdx (a+1)).filter Fi).map (·.1)=(us.take q).map (tW "tie"):=by
  rw[fi_first,<- B,List.filter_append,List.filter_eq_self.mpr,List.filter_eq_nil_iff.mpr,J0]
  .intro x hx;rw[O0 hx];decide
  .intro x hx;obtain⟨t,_,rfl⟩:=List.mem_map.mp hx;rfl
 obtain⟨qs,V,W⟩:=SZ U
 obtain⟨rest,H,X⟩:=DS (F:=bI) (as:=[S "tie"]) (ps:=((post.map wdS).zipIdx (pre.length+1)).filter Fi) fun p G=>by
  obtain⟨n',x,hx,e⟩:=PQ G;rw[E]at hx;rw[<- e];rcases List.mem_append.mp hx with z|z
  .obtain⟨t,ht,rfl⟩:=List.mem_map.mp z;have rt:=k t<|Y7 ht;exact⟨fZ false t,fun M=>by rw[(xC rt).1];exact qE rt⟩
  .rw[List.mem_singleton.mp z];rcases u.2 with z|z
   .rw[List.mem_singleton.mp ‹x∈[m]›]at e;exact absurd (e.symm.trans z) n'
   .exact z
 have l2:rest.length<=post.length:=by
  have:=S0 List.length H;rw[A3]at this;have l:=O7 Fi<|(post.map wdS).zipIdx (pre.length+1);rw[Z6,A3]at l;omega
 refine aFK (p0:=a) (qs:=qs) (rest:=rest) (ws:=wdS w) hx ?_ V (fun t ht=>k t<|S7 ht) rd X (ok.take q) (hn q P) I n40 (by omega);rw[SR nl ne,fp,W,H,List.cons_append]
def MD{f:Nat}(l:w.length<=10000)(h:iP bI [S "tie"] w):BF n us f w:=⟨l,h.1,h.2,.none,h.3,fun _ _=>.inl rfl⟩
def aIF{t:Tie}(h:¬(0<=t.i/\t.i<t.j/\t.j<n/\iK t.a t.b=true)):gG n (fZ false t)=Y:=by
 cases e:gG n (fZ false t)with
 |none=>rfl
 |some s=>
  obtain⟨w,k,l,B⟩:=rD e;have k:Z [PyData.int t.i,.int t.j,.tuple [.int t.a,.int t.b]]=Z [.int s.i,.int s.j,w]:=k;injection k with k
  injection k with o k
  injection k with q k
  injection k with C _
  injection o with o
  injection q with q
  subst C;have l:Z [PyData.int t.a,.int t.b]=Z [.int s.a,.int s.b]:=l;injection l with l
  injection l with u l
  injection l with A _
  injection u with u
  injection A with A
  rw[<- o,<- q,<- u,<- A]at B;exact absurd B h
def HC{f:Nat}{t:Tie}(e:w=cE "tie" t)(h:RdT t)(hn:¬(0<=t.i/\t.i<t.j/\t.j<n/\iK t.a t.b=true)):BF n us f w:=by
 subst e;obtain⟨k,l⟩:=xC h;exact⟨zS h,l,by rw[k];simp[tW],fZ false t,fun M=>by rw[k];exact qE h,fun _ _=>.inl (aIF hn)⟩
def aGG{t:Tie}(e:wdS w=tW "tie" t)(nl:10∉sg w)(l:w.length<=10000)(h:RdT t)(ht:gG n (fZ false t)=Z t)(o:s.key=t.key):BF n (s::us) 2 w:=by
 refine⟨l,nl,by rw[e];simp[tW],fZ false t,fun M=>by rw[e];exact qE h,fun k q=>.inr ⟨t,rfl,ht,s,?_,o⟩⟩;obtain⟨j,rfl⟩:∃j,k=j+1:=⟨k-1,by omega⟩;rw[List.take_succ_cons];exact C4
abbrev W4(n:Int):Tc:=["tie 1 0 1","tie 1 1 1",("tie 0 ":Str)++sI n++(" 1":Str),"tie 0 1 1/13"]
abbrev W5(n:Int):Tc:=["tie 0 1 1000000000001",("places ":Str)++sI n,"branch 0 1 1","flow 0 1 1","side 1"]
def WL(n:Int):Tc:=((wrL "tie").map (·.1))++W4 n++W5 n++([("tie 0 1 1/110880":Str)]:Tc)
def aEx:(("tie 0 ":Str)++sI n++" 1":Str)=cE "tie" ⟨0,n,1,1⟩:=oR (by
 show sg (("tie 0 ":Str)++sI n++" 1")=sg ("tie"++" "++sI 0++" "++sI n++" "++fM 1 1);rw[cL,cL,cL,cL,cL,cL,cL,cL,show sg ("tie 0 ":Str)=[116,105,101,32,48,32]by decide,show sg ("tie":Str)=[116,105,101]by decide,aIY,show sg (sI 0)=[48]by decide,show sg (fM 1 1)=[49]by decide,show sg (" 1":Str)=[32,49]by decide];simp only[List.append_assoc,List.cons_append,List.nil_append])
def aJe{n:Int}{f:Nat}(n2:2<=n)(n40:n<=40):∀w∈WL n,BF n us f w:=fun w k=>by
 have g:∀a b:Int,iK a b=false->∀i j:Int,¬(0<=i/\i<j/\j<n/\iK a b=true):=fun a b h i j z=>by rw[h]at z;exact absurd z.2.2.2 (by decide)
 have u:=GN;simp only[WL,List.mem_append,List.mem_cons,List.not_mem_nil,or_false]at k;rcases k with((k|rfl|rfl|rfl|rfl)|rfl|rfl|rfl|rfl|rfl)|rfl
 .obtain⟨p,q,rfl⟩:=List.mem_map.mp k;have l:(wrL "tie").all (fun p=>decide (p.1.length<=10000))=true:=by decide +kernel
  exact MD (D8<|List.all_eq_true.mp l p q)<|aCo (.inl rfl) p q
 .exact HC (t:=⟨1,0,1,1⟩) (by decide) ⟨by decide,by decide,by decide,by decide,rfl⟩ (by dsimp only;omega)
 .exact HC (t:=⟨1,1,1,1⟩) (by decide) ⟨by decide,by decide,by decide,by decide,rfl⟩ (by dsimp only;omega)
 .exact HC (t:=⟨0,n,1,1⟩) aEx ⟨by dsimp only;decide,⟨by dsimp only;omega,by dsimp only;omega⟩,by dsimp only;decide,by dsimp only;decide,show Int.gcd 1 1=1 from rfl⟩ (by dsimp only;omega)
 .exact HC (t:=⟨0,1,1,13⟩) (by decide) ⟨by decide,by decide,by decide,by decide,rfl⟩<|g _ _ (by decide) _ _
 .exact HC (t:=⟨0,1,1000000000001,1⟩) (by decide) ⟨by decide,by decide,by decide,by decide,rfl⟩<|g _ _ (by decide) _ _
 .have o:=sG (n:=n) (by omega) (by omega);refine MD o.len ⟨o.wdis.2,by rw[show wdS ("places "++sI n)=_ from o.wdis.1];simp,?_⟩;rw[show wdS ("places "++sI n)=_ from o.wdis.1];exact fun M=>rfl
 .exact MD (by decide) (JH (ws:=["branch","0","1","1"]) ⟨by decide,by decide,rfl⟩ fun M=>by kernel_rfl)
 .exact MD (by decide) (JH (ws:=["flow","0","1","1"]) ⟨by decide,by decide,rfl⟩ fun M=>by kernel_rfl)
 .exact MD (by decide) (JH (ws:=["side","1"]) ⟨by decide,by decide,rfl⟩ fun M=>by kernel_rfl)
 .exact HC (t:=⟨0,1,1,110880⟩) (by decide) ⟨by decide,by decide,by decide,by decide,rfl⟩<|g _ _ (by decide) _ _
def aAT{l u:OF}{lo hi:Tl}{k:Nat}(dk:Dk M c m)(o:aD v γ M=Z (.c c,M))(q:l γ M=Z (lo,M))(t:u γ M=Z (hi,M))(A:∀xs:T8,m<=xs.length->k<=(eN xs lo hi).length):
 ∃x:Cell,qO (aD v) l u γ M=Z (.c M.length,M++[x])/\Dk (M++[x]) M.length k:=by
 obtain⟨xs,h,B,C⟩:=dk;refine⟨cI<|eN xs lo hi,?_,eN xs lo hi,?_,A xs B,fun x E=>C x<|aEn x E⟩
 .have G:eN (xs.map fun i=>I i) lo hi=(eN xs lo hi).map fun i=>I i:=by
   unfold eN;rw[A3,List.map_take,List.map_drop]
  unfold qO;rw[o,A1,q,A1,t,A1];unfold Li cI at h;unfold slC yQ;dsimp only;rw[h];dsimp only[Option.bind_some];rw[G]
 .unfold Li;exact gV
def aDD{k:Type}(xs:Tw k)(h:2<=xs.length):2<=(eN xs Y<|Z 2).length:=by
 rw[uW (by decide),U8];have:(2:Int).toNat=2:=rfl;omega
def aKk{k:Type}(xs:Tw k)(h:4<=xs.length):2<=(eN xs (Z 2)<|Z 4).length:=by
 unfold eN HT.sIx;dsimp only;rw[B0 (by omega),B0 (by omega),U8,A0f];have l:(2:Int).toNat=2:=rfl;have o:(4:Int).toNat=4:=rfl;omega
def Sv(M M':Sto):Prop:=∀e k,Dk M e k->Dk M' e k
def Sv.trans{M1 M2:Sto}(a:Sv M M1)(b:Sv M1 M2):Sv M M2:=fun e k h=>b e k<|a e k h
def Sv.app(M L:Sto):Sv M (M++L):=fun _ _ h=>h.app
def IK{EL EW:EF}{l u:OF}{lo hi:Tl}{M:Sto}{i j f:Nat}{ls:Tc}{w:Str}(dk:Dk M c m)(q:aD v γ M=Z (.c c,M))(t:∀M,l γ M=Z (lo,M))(A:∀M,u γ M=Z (hi,M))(B:∀xs:T8,m<=xs.length->2<=(eN xs lo hi).length)
 (C:∀M,EL γ M=Z (.d (.list (ls.map .str)),M)) (E:∀M,EW γ M=Z (S w,M)) (G:f<=ls.length) (o:ls.length<=50) (hs:∀x∈ls,x.length<=10000) (H:w.length<=10000):
 ∃(pre post:Tc)(M':Sto),xW ls w f pre post/\aY (aL cU<|aB (qO (aD v) l u)<|aB EL<|aB EW<|aB (fC (.int (f:Nat))) aG) (gS 2<|bK (hName i)<|bK (hName j) gU) γ M=Z (.nx ((γ.set i<|Z<|S<|Txt.join "\n" (pre++w::post)).set j (Z<|I (pre.length:Nat))),M')/\Sv M M':=by
 obtain⟨x,s1,s2⟩:=aAT (k:=2) dk q (t M) (A M) B;obtain⟨pre,post,M',po,e,ex⟩:=aLD (ls:=ls) (w:=w) (f:=f) s2 G o hs H;refine⟨pre,post,M',po,aCE (bA (F:=cU) (aI s1<|aI (C _)<|aI (E _)<|aI bR aS) e) ?_,fun e k h=>h.app.to ex<|D1 h.lt⟩;obtain⟨J,K⟩:∃J:Int,((pre.length:Nat):Int)=J:=⟨_,rfl⟩;rw[K];rfl
def xT{M:Sto}{k i j J:Nat}{G:FX}(h:rdrs[k]?=Z (nm,G))(l:EK γ M=Z (I (k:Nat),M))(o:∀M,aD i γ M=Z (S x,M))(q:∀M,aD j γ M=Z (I (J:Nat),M))(t:∀M,∃L,G [S x] M=Z (.x (exN (J:Nat)),M++L)):
 ∃M',sIf (gB<|fOp (eqX true) (aL bE<|aB EK<|aB (aD i) aG)<|aD j) (bT<|fC (.bool false)) cN γ M=Z (.nx γ,M')/\Sv M M':=by
 obtain⟨L,e⟩:=DT (M:=M) h t;refine⟨M++L,?_,Sv.app M L⟩;refine(vR (M':=M++L) ?_).trans rfl;refine gJ<|fY (bA (F:=bE) (aI l<|aI (o M) aS) e) (q _) ?_;rw[aFN,A0g];rfl
theorem vH{g:GF}{b:SF}{P:CD->Prop}{Inv:Ga->Sto->Prop}(step:∀x γ M,P x->Inv γ M->∃γ1 γ' M',g x γ M=Z (γ1,M)/\b γ1 M=Z (.nx γ',M')/\Inv γ' M'):
 ∀(xs:T7)(γ:Ga)(M:Sto),(∀x∈xs,P x)->Inv γ M->∃γ' M',sW g b xs γ M=Z (.nx γ',M')/\Inv γ' M'
 |[]=>fun γ M _ i=>⟨γ,M,rfl,i⟩
 |x::xs=>fun γ M h i=>by
  obtain⟨γ1,γ2,M1,k,l,o⟩:=step x γ M (h x C4) i;obtain⟨γ',M',q,t⟩:=vH step xs γ2 M1 (fun y u=>h y<|C0 _ u) o;exact⟨γ',M',by rw[qS k l];exact q,t⟩
abbrev WG(c:Nat)(n:Int)(T L o W g6 g7 g8 g9 g10:Tf):Ga:=[Z (.c c),Z<|I n,T,L,o,W,g6,g7,g8,g9,g10]
structure kM(n:Int)(us:Tw Tie):Prop where
 n2:2<=n
 n40:n<=40
 l9:us.length<=40
 rd:∀t∈us,RdT t
 ok:Ok n us
def kM.short{n:Int}{us:Tw Tie}(h:kM n us):(∀x∈wLs n us,x.length<=10000)/\(wLs n us).length<=50:=by
 refine⟨fun x hx=>?_,by have:=h.l9;rw[B5,A3];omega⟩;have:=h.n2;have:=h.n40;rcases List.mem_cons.mp hx with rfl|hx
 .exact(sG (n:=n) (by omega) (by omega)).len
 .obtain⟨t,ht,rfl⟩:=List.mem_map.mp hx;exact zS<|h.rd t ht
abbrev lsD(n:Int)(us:Tw Tie):CD:=.d (.list ((wLs n us).map .str))
def YM{T o W g7 g8 g9 g10:Tf}(h:kM n us)(B:BF n us 1 w)(dk:Dk M c 4):
 ∃q t M',eT (WG c n T (Z<|lsD n us) o W (Z<|S w) g7 g8 g9 g10) M=Z (.nx (WG c n T (Z<|lsD n us) o W (Z<|S w) q t g9 g10),M')/\Sv M M':=by
 have K:=h.n2;have n40:=h.n40;obtain⟨sh,A⟩:=h.short;obtain⟨pre,post,M1,po,C,E⟩:=IK (EL:=aD 3) (EW:=aD 6) (i:=7) (j:=8) (f:=1) (w:=w) (γ:=WG c n T (Z<|lsD n us) o W (Z<|S w) g7 g8 g9 g10) (l:=bF) (u:=bW<|fC (.int 2)) dk (show aD 0 (WG c n T (Z<|lsD n us) o W (Z<|S w) g7 g8 g9 g10) M=Z (.c c,M)from rfl) (fun _=>rfl) (fun _=>rfl) (fun xs O=>aDD xs (by omega)) (fun _=>rfl) (fun _=>rfl) (by rw[B5];omega) A sh B.len;obtain⟨M2,G,H⟩:=xT (EK:=fC (.int 0)) (k:=0) (i:=7) (j:=8) (J:=pre.length) (x:=Txt.join "\n" (pre++w::post)) (γ:=WG c n T (Z<|lsD n us) o W (Z<|S w) (Z<|S<|Txt.join "\n" (pre++w::post)) (Z<|I (pre.length:Nat)) g9 g10) (M:=M1) rfl rfl (fun _=>rfl) (fun _=>rfl) (fun M=>VT (by decide) po h.rd h.ok (by omega) n40 h.l9 B);refine⟨Z<|S<|Txt.join "\n" (pre++w::post),Z<|I (pre.length:Nat),M2,?_,E.trans H⟩;unfold eT;exact(aU C).trans G
def XD{T o W g6 g7 g8 g9 g10:Tf}{ws:Tc}(h:kM n us)(B:∀w∈ws,BF n us 1 w)(dk:Dk M c 4):
 ∃k l q M',sW (hName 6) eT (ws.map fun w=>S w) (WG c n T (Z<|lsD n us) o W g6 g7 g8 g9 g10) M=Z (.nx (WG c n T (Z<|lsD n us) o W k l q g9 g10),M')/\Sv M M':=by
 obtain⟨γ',M',e,⟨k,l,q,rfl⟩,d⟩:=vH (g:=hName 6) (b:=eT) (P:=fun x=>∃w,x=S w/\BF n us 1 w) (Inv:=fun γ N=>(∃g6 g7 g8,γ=WG c n T (Z<|lsD n us) o W g6 g7 g8 g9 g10)/\Sv M N) (fun x γ N ⟨w,t,b⟩ ⟨⟨g6,g7,g8,u⟩,A⟩=>by
  subst t u;obtain⟨a,E,M',e,d⟩:=YM (T:=T) (o:=o) (W:=W) (g7:=g7) (g8:=g8) (g9:=g9) (g10:=g10) h b (A _ _ dk);exact⟨WG c n T (Z (lsD n us)) o W (Z (S w)) g7 g8 g9 g10,_,M',rfl,e,⟨_,_,_,rfl⟩,A.trans d⟩) (ws.map fun w=>S w) _ M (fun x C=>by
  obtain⟨w,t,rfl⟩:=List.mem_map.mp C;exact⟨w,rfl,B w t⟩) ⟨⟨g6,g7,g8,rfl⟩,fun _ _ h=>h⟩
 exact⟨k,l,q,M',e,d⟩
def rO{g:AF}{x:Ua}{xs:T5}(o:f γ M=Z (.d x,M))(k:cA g γ M=Z (.d (.list xs),M))(t:xs.length<=8):cA (aB f g) γ M=Z (.d (.list (x::xs)),M):=by
 unfold cA at k ⊢;obtain⟨⟨ys,M1⟩,q,h⟩:=aJ k;obtain⟨ds,l,h⟩:=aJ h;dsimp only at h l;by_cases c:ds.length<=sizeLine
 .rw[A4 c]at h;cases h;rw[aI o q,A1];show(iO (CD.d x::ys)).bind _=_;unfold iO;rw[l];exact A4<|s9 (by rw[B5];omega)
 .rw[B0 c]at h;cases h
def UO:cA aG γ M=Z (.d (.list []),M):=by
 unfold cA;show(Z (([]:T7),M)).bind _=_;rw[A1];show(Z ([]:T5)).bind _=_;rw[A1];exact A4<|s9 (show(0:Nat)<=9 by decide)
def aEs(h:0<=n)(k:n<=100):Bd n:=Bd.of h (by have:=xJ;omega)
def YC{C:EF}(h:0<=n)(n40:n<=40)(o:aD 1 γ M=Z (I n,M))(q:C γ M=Z (.d (.list (us.map fun t=>.str (cE "tie" t))),M))(B:us.length<=90):
 fOp bV (cA<|aB (fOp gL (fC (.str "places "))<|aL iA<|aB (aD 1) aG) aG) C γ M=Z (lsD n us,M):=by
 have l:=iZ<|aEs h (by omega);have u:=bN (k:=gL) (show fC (.str "places ") γ M=Z (S "places ",M)from rfl) (bA (F:=iA) (aI o aS)<|lY<|aEs h (by omega))<|uI (by rw[show("places ":Str).length=7 by decide,szl];omega);have A:=rO u UO<|O4 _;refine bN A q<|(dP (by rw[A3];show 1+_<=1000;omega)).trans ?_;rw[show lsD n us=.d (.list ((wLs n us).map .str))from rfl,B4,D3];rfl
def aJg{g:EF}{xs:T5}(h:f γ M=Z (.d (.list xs),M))(k:g γ M=Z (.d (.list ys),M))(l:xs.length+ys.length<=500):fOp ZG f g γ M=Z (.c M.length,M++[.lst ((xs++ys).map .d)]):=by
 simp only[fOp,h,k,Option.bind_some];show((Z<|xs.map CD.d).bind fun xs=>(Z<|ys.map CD.d).bind fun ys=>if xs.length+ys.length<=sizeLine then Z (CD.c M.length,M++[Cell.lst (xs++ys)])else Y)=_;rw[A1,A1,A4<|sz (by rw[A3,A3];omega),D5]
def sl8:Txt.slice (cE "tie" ⟨0,1,a,b⟩) Y (Z 8)="tie 0 1 ":=oR (by
 have e:sg (cE "tie" ⟨0,1,a,b⟩)=[116,105,101,32,48,32,49,32]++sg (fM a b):=by
  show sg ("tie"++" "++sI 0++" "++sI 1++" "++fM a b)=_;rw[cL,cL,cL,cL,cL,cL,show sg ("tie":Str)=[116,105,101]by decide,aIY,show sg (sI 0)=[48]by decide,show sg (sI 1)=[49]by decide];rfl
 show sg (StrLaws.sliceText (cE "tie" ⟨0,1,a,b⟩) Y<|Z 8)=_
 rw[StrLaws.sliceText_to ⟨by decide,by
  show(8:Int)<=((sg (cE "tie" ⟨0,1,a,b⟩)).length:Int);rw[e,C3];show(8:Int)<=((8+_:Nat):Int);omega⟩]
 show(List.take 8 (List.drop 0 (sg (cE "tie" ⟨0,1,a,b⟩))))=_;rw[List.drop_zero,e];show[116,105,101,32,48,32,49,32]=sg ("tie 0 1 ":Str);decide)
abbrev tP:Tie->Bool:=fun t=>!(Txt.slice (cE "tie" t) Y (Z 8)==("tie 0 1 ":Str))
def aFs(h:tP t=true):¬(t.i=0/\t.j=1):=fun⟨k,l⟩=>by
 obtain⟨i,j,a,b⟩:=t;dsimp only at k l;subst k l;unfold tP at h;rw[sl8]at h;cases h
def FO(h:kM n us)(l:us.length<=30)(hs:s.i=0/\s.j=1)(w:iK s.a s.b=true)(rs:RdT s):kM n (s::us.filter tP):=by
 have q:=O7 tP us;have n2:=h.n2;refine⟨h.n2,h.n40,by rw[B5];omega,fun t ht=>?_,fun t ht=>?_,?_,by rw[B5];omega⟩
 .rcases List.mem_cons.mp ht with rfl|ht
  .exact rs
  .exact h.rd t (List.mem_filter.mp ht).1
 .rcases List.mem_cons.mp ht with rfl|ht
  .rw[hs.1,hs.2];exact⟨w,by decide,by decide,by omega⟩
  .exact h.ok.1 t<|(List.mem_filter.mp ht).1
 .rw[B4,List.nodup_cons];refine⟨fun hm=>?_,(List.filter_sublist.map _).nodup h.ok.2.1⟩;obtain⟨t,ht,e⟩:=List.mem_map.mp hm;refine aFs ((List.mem_filter.mp ht).2) ?_;have e:([.inl t.i,.inl t.j]:Tw Key)=[.inl s.i,.inl s.j]:=e;injection e with o k
  injection k with k _
  injection o with o
  injection k with k
  exact⟨o.trans hs.1,k.trans hs.2⟩
noncomputable def uE:Tw (Str×Tc):=[("places",["places"]),("places 0",["places","0"]),("places 41",["places","41"]),("places 100",["places","100"]),("places 03",["places","03"]),("places 3 3",["places","3","3"]),("place 3",["place","3"]),("tie 0 1 1",["tie","0","1","1"]),("3",["3"]),("places a",["places","a"])]
def XW:∀p∈uE,iP dB [] p.1:=fun p h=>by
 have r:Rd dB [] p.2 .none:=by
  simp only[uE,List.mem_cons,List.not_mem_nil,or_false]at h;rcases h with rfl|rfl|rfl|rfl|rfl|rfl|rfl|rfl|rfl|rfl<;>exact fun M=>by kernel_rfl
 exact JH (IG (show okL uE=true by decide +kernel) p h) r
noncomputable abbrev JW:Tc:=[""," "]
def ZL{y:Str}{ls:Tc}:(("\n \n":Str)++Txt.join "\n" (x::ls):Str)=Txt.join "\n" (JW++x::ls):=oR (by
 rw[cL,show sg (Txt.join "\n" (x::ls))=pP 10 ((x::ls).map sg)by rw[aAI];show sg (Builtin.Str.glued _ _)=_;rw[U4,sS],show sg (Txt.join "\n" (JW++x::ls))=pP 10 ((JW++x::ls).map sg)by rw[aAI];show sg (Builtin.Str.glued _ _)=_;rw[U4,sS],show sg ("\n \n":Str)=[10,32,10]by decide];rfl)
def XG(h:kM n us)(k:iP dB [] w)(l:w.length<=1000):∃L,cH [S (("\n \n":Str)++Txt.join "\n" (w::wLs n us))] M=Z (.x (exN ((2:Nat):Int)),M++L):=by
 have n2:=h.n2;have n40:=h.n40;obtain⟨sh,l50⟩:=h.short;rw[ZL (y:=w)]
 have nl:∀x∈JW++w::wLs n us,10∉sg x:=fun x hx=>by
  simp only[JW,List.mem_append,List.mem_cons,List.not_mem_nil,or_false]at hx;rcases hx with(rfl|rfl)|rfl|rfl|hx
  .decide
  .decide
  .exact k.1
  .exact(sG (n:=n) (by omega) (by omega)).wdis.2
  .obtain⟨t,ht,rfl⟩:=List.mem_map.mp hx;exact(xC<|h.rd t ht).2
 have hx:(Txt.join "\n" (JW++w::wLs n us)).length<=1000000:=join_le (fun x hx=>by
  simp only[JW,List.mem_append,List.mem_cons,List.not_mem_nil,or_false]at hx;rcases hx with(rfl|rfl)|rfl|hx
  .decide
  .decide
  .omega
  .exact sh x (List.mem_cons.mpr hx)) (by rw[C3,show(w::wLs n us).length=(wLs n us).length+1 from rfl];show 2+_<=90;omega)
 have sp:=SR (pre:=JW) (post:=wLs n us) nl k.2;rw[show(JW.map wdS).zipIdx.filter Fi=[]by rw[B4,B4,wd_e.1,sM (x:=" ") (ws:=[]) (by decide)];rfl,A0l]at sp;exact ZC hx sp k.3
def kQ(h:f γ M=Z (.d (.list ds),M')):bD f γ M=Z (ds.map .d,M'):=by
 unfold bD;rw[h];rfl
def VN{x y:CD}{ys:T7}{g:Tf}{M1 M2:Sto}(h:e [Z x] M=Z (y,M1))(k:lcF (hName 0) eU e xs [Z x] M1=Z (ys,M2)):lcF (hName 0) eU e (x::xs) [g] M=Z (y::ys,M2):=by
 show((Z ([Z x],M)).bind fun a=>(eU a.1 a.2).bind fun b=>if b.1=true then(e a.1 b.2).bind fun r=>(lcF (hName 0) eU e xs a.1 r.2).bind fun q=>Z (r.1::q.1,q.2)else lcF (hName 0) eU e xs a.1 b.2)=_;simp only[Option.bind_some,eU,if_true,h,k]
def wG(h:aEI (sg x)=[])(o:x.length<=100)(l:Txt.count x "\n"=J):∃L,aL bE (aB (fC (.int 0))<|aB (aD 0) aG) [Z (S x)] M=Z (I J,M++L):=by
 have sd:sdS x=[]:=List.map_eq_nil_iff.mp<|XH (W:=[]) h
 obtain⟨L,e⟩:=DT (k:=0) (x:=x) (J:=J) (M:=M) (nm:="read_web") (G:=cH) rfl fun M=>by
  have:=aDy (M:=M) (by omega) sd;rw[l]at this;exact this
 exact⟨L,bA (F:=bE) (aI (show fC (.int 0) [Z (S x)] M=Z (I ((0:Nat):Int),M)from rfl)<|aI (show aD 0 [Z (S x)] M=Z (S x,M)from rfl) aS) e⟩
def RQ:∃L,nE γ M=Z (.d (.list [.int 0,.int 0,.int 1,.int 3]),M++L):=by
 obtain⟨h,l⟩:=wG (x:="") (J:=0) (M:=M) (by decide) (by decide) (by kernel_rfl);obtain⟨L2,o⟩:=wG (x:=" ") (J:=0) (M:=M++h) (by decide) (by decide) (by kernel_rfl);obtain⟨k,q⟩:=wG (x:="\n") (J:=1) (M:=M++h++L2) (by decide) (by decide) (by kernel_rfl);obtain⟨L4,e4⟩:=wG (x:="  \n \n\n") (J:=3) (M:=M++h++L2++k) (by decide) (by decide) (by kernel_rfl);refine⟨h++L2++k++L4,?_⟩;rw[<- E5,<- E5,<- E5];unfold nE;refine jT (xs:=[S "",S " ",S "\n",S "  \n \n\n"]) (M1:=M) (kQ<|CN γ M) (by decide) ?_ (by decide);exact VN l<|VN o<|VN q<|VN e4 rfl
def aCQ{c:Nat}{T o W g7 g8 g9 g10:Tf}{M:Sto}(h:kM n us)(l:iP dB [] w)(q:w.length<=1000):
 ∃M',gE (WG c n T (Z<|lsD n us) o W (Z<|S w) g7 g8 g9 g10) M=Z (.nx (WG c n T (Z<|lsD n us) o W (Z<|S w) g7 g8 g9 g10),M')/\Sv M M':=by
 obtain⟨sh,t⟩:=h.short;have u:(w::wLs n us).length=(wLs n us).length+1:=rfl;obtain⟨L,e⟩:=DT (k:=0) (x:=("\n \n":Str)++Txt.join "\n" (w::wLs n us)) (J:=((2:Nat):Int)) (M:=M) (nm:="read_web") (G:=cH) rfl fun M=>XG h l q
 have sh2:∀x∈w::wLs n us,x.length<=10000:=fun x hx=>by
  rcases List.mem_cons.mp hx with rfl|hx
  .omega
  .exact sh x hx
 have jl:=join_le sh2 (by omega)
 have e1:fOp bV (cA<|aB (aD 6) aG) (aD 3) (WG c n T (Z<|lsD n us) o W (Z<|S w) g7 g8 g9 g10) M=Z (.d (.list ((w::wLs n us).map .str)),M):=by
  refine bN (rO (show aD 6 (WG c n T (Z<|lsD n us) o W (Z<|S w) g7 g8 g9 g10) M=Z (S w,M)from rfl) UO<|O4 _) (show aD 3 (WG c n T (Z<|lsD n us) o W (Z<|S w) g7 g8 g9 g10) M=Z (lsD n us,M)from rfl)<|(dP ?_).trans rfl;rw[A3];show 1+_<=1000;omega
 have e2:=xO (sep:="\n") (n:=10000) e1 sh2 (by rw[show("\n":Str).length=1 by decide];omega);have e3:=bN (k:=gL) (show fC (.str "\n \n") (WG c n T (Z<|lsD n us) o W (Z<|S w) g7 g8 g9 g10) M=Z (S "\n \n",M)from rfl) e2<|uI (by rw[show("\n \n":Str).length=3 by decide,szl];omega);refine⟨M++L,?_,Sv.app M L⟩;unfold gE;refine(vR (M':=M++L) ?_).trans rfl;refine gJ<|fY (bA (F:=bE) (aI (show fC (.int 0) (WG c n T (Z<|lsD n us) o W (Z<|S w) g7 g8 g9 g10) M=Z (I ((0:Nat):Int),M)from rfl)<|aI e3 aS) e) (show fC (.int 2) (WG c n T (Z<|lsD n us) o W (Z<|S w) g7 g8 g9 g10) (M++L)=Z (I ((2:Nat):Int),M++L)from rfl) ?_;rw[aFN,A0g];rfl
def OS{c:Nat}{T o W g6 g7 g8 g9 g10:Tf}{M:Sto}(h:kM n us):
 ∃k M',sW (hName 6) gE (uE.map fun p=>S p.1) (WG c n T (Z<|lsD n us) o W g6 g7 g8 g9 g10) M=Z (.nx (WG c n T (Z<|lsD n us) o W k g7 g8 g9 g10),M')/\Sv M M':=by
 obtain⟨γ',M',e,⟨k,rfl⟩,d⟩:=vH (g:=hName 6) (b:=gE) (P:=fun x=>∃w,x=S w/\iP dB [] w/\w.length<=1000) (Inv:=fun γ N=>(∃g6,γ=WG c n T (Z<|lsD n us) o W g6 g7 g8 g9 g10)/\Sv M N) (fun x γ N ⟨w,u,b,l⟩ ⟨⟨g6,q⟩,A⟩=>by
  subst u q;obtain⟨M',e,d⟩:=aCQ (c:=c) (T:=T) (o:=o) (W:=W) (g7:=g7) (g8:=g8) (g9:=g9) (g10:=g10) (M:=N) h b l;exact⟨WG c n T (Z (lsD n us)) o W (Z (S w)) g7 g8 g9 g10,_,M',rfl,e,⟨_,rfl⟩,A.trans d⟩) (uE.map fun p=>S p.1) _ M (fun x B=>by
  obtain⟨p,t,rfl⟩:=List.mem_map.mp B;have l:uE.all (fun p=>decide (p.1.length<=1000))=true:=by decide +kernel
  exact⟨p.1,rfl,XW p t,D8 (List.all_eq_true.mp l p t)⟩) ⟨⟨g6,rfl⟩,fun _ _ h=>h⟩
 exact⟨k,M',e,d⟩
def aBL:(a=1\/a=0)->b=1->RdT ⟨0,1,a,b⟩/\iK a b=true:=fun h k=>by
 subst k;rcases h with rfl|rfl
 .exact⟨⟨by decide,by decide,by decide,by decide,rfl⟩,by decide⟩
 .exact⟨⟨by decide,by decide,by decide,by decide,rfl⟩,by decide⟩
def KB:(wLs n us).map PyData.str=.str (pl n)::us.map fun t=>.str (cE "tie" t):=by
 rw[B4,D3];rfl
def WS{M2:Sto}(h:kM n vs)(H:∀g5 M,aD 4 (WG c n T (Z<|lsD n vs) OV g5 Y Y Y Y Y) M=Z (S<|sI n,M)):
 ∃I K q l,aY (fOp bV (aL dR<|aB (fC (.str "tie")) aG)<|cA<|aB (fC (.str "tie 1 0 1"))<|aB (fC (.str "tie 1 1 1"))<|aB (fOp gL (fOp gL (fC (.str "tie 0 "))<|aD 4)<|fC (.str " 1"))<|aB (fC (.str "tie 0 1 1/13")) aG) (hName 5) (WG c n T (Z<|lsD n vs) OV Y Y Y Y Y Y) M2=Z (.nx (WG c n T (Z<|lsD n vs) OV (Z (.d (.list I))) Y Y Y Y Y),M2) /\
  aY (fOp ZG (aD 5)<|cA<|aB (fC (.str "tie 0 1 1000000000001"))<|aB (fOp gL (fC (.str "places "))<|aD 4)<|aB (fC (.str "branch 0 1 1"))<|aB (fC (.str "flow 0 1 1"))<|aB (fC (.str "side 1")) aG) (hName 5) (WG c n T (Z<|lsD n vs) OV (Z (.d (.list I))) Y Y Y Y Y) M2=Z (.nx (WG c n T (Z<|lsD n vs) OV (Z (.c q)) Y Y Y Y Y),K) /\
  YZ 5 (lQ<|bG "list" eD (aD 5)<|aB (fC (.str "tie 0 1 1/110880")) aG) (WG c n T (Z<|lsD n vs) OV (Z (.c q)) Y Y Y Y Y) K=Z (.nx (WG c n T (Z<|lsD n vs) OV (Z (.d (.list ((WL n).map .str)))) Y Y Y Y Y),l)/\Sv M2 l:=by
 have n2:=h.n2;have n40:=h.n40;have b:=aEs (n:=n) (by omega) (by omega);have ln:=iZ b;obtain⟨X,t⟩:∃X:Tc,(wrL "tie").map (·.1)++W4 n=X:=⟨_,rfl⟩;have O:X.length=35:=by rw[<- t,C3,A3];rfl
 have R:aY (fOp bV (aL dR<|aB (fC (.str "tie")) aG)<|cA<|aB (fC (.str "tie 1 0 1"))<|aB (fC (.str "tie 1 1 1"))<|aB (fOp gL (fOp gL (fC (.str "tie 0 "))<|aD 4)<|fC (.str " 1"))<|aB (fC (.str "tie 0 1 1/13")) aG) (hName 5) (WG c n T (Z<|lsD n vs) OV Y Y Y Y Y Y) M2=Z (.nx (WG c n T (Z<|lsD n vs) OV (Z (.d (.list (X.map .str)))) Y Y Y Y Y),M2):=by
  refine bM ?_
  have u:=bN (k:=gL) (bN (k:=gL) (show fC (.str "tie 0 ") (WG c n T (Z<|lsD n vs) OV Y Y Y Y Y Y) M2=Z (S "tie 0 ",M2)from rfl) (H Y M2)<|uI (by rw[show("tie 0 ":Str).length=6 by decide,szl];omega)) (show fC (.str " 1") (WG c n T (Z<|lsD n vs) OV Y Y Y Y Y Y) M2=Z (S " 1",M2)from rfl) (uI (by
   rw[Str.length_append,show("tie 0 ":Str).length=6 by decide,show(" 1":Str).length=2 by decide,szl];omega))
  have B:=rO (γ:=WG c n T (Z<|lsD n vs) OV Y Y Y Y Y Y) (M:=M2) (f:=fC (.str "tie 1 0 1")) rfl (rO (f:=fC (.str "tie 1 1 1")) rfl (rO u (rO (f:=fC (.str "tie 0 1 1/13")) rfl UO<|E8 rfl)<|E8 rfl)<|E8 rfl)<|E8 rfl;refine bN (bA (F:=dR) (aI (show fC (.str "tie") (WG c n T (Z<|lsD n vs) OV Y Y Y Y Y Y) M2=Z (S "tie",M2)from rfl) aS)<|VX (.inl rfl)) B<|(dP (by rw[A3];show 31+4<=1000;decide)).trans ?_;rw[<- t,D5,D3];rfl
 have P:aY (fOp ZG (aD 5)<|cA<|aB (fC (.str "tie 0 1 1000000000001"))<|aB (fOp gL (fC (.str "places "))<|aD 4)<|aB (fC (.str "branch 0 1 1"))<|aB (fC (.str "flow 0 1 1"))<|aB (fC (.str "side 1")) aG) (hName 5) (WG c n T (Z<|lsD n vs) OV (Z (.d (.list (X.map .str)))) Y Y Y Y Y) M2=Z (.nx (WG c n T (Z<|lsD n vs) OV (Z (.c M2.length)) Y Y Y Y Y),M2++[.lst (((X++W5 n).map .str).map .d)]):=by
  refine bM ?_;have u:=bN (k:=gL) (show fC (.str "places ") (WG c n T (Z<|lsD n vs) OV (Z (.d (.list (X.map .str)))) Y Y Y Y Y) M2=Z (S "places ",M2)from rfl) (H _ M2)<|uI (by rw[show("places ":Str).length=7 by decide,szl];omega);have B:=rO (γ:=WG c n T (Z<|lsD n vs) OV (Z (.d (.list (X.map .str)))) Y Y Y Y Y) (M:=M2) (f:=fC (.str "tie 0 1 1000000000001")) rfl (rO u (rO (f:=fC (.str "branch 0 1 1")) rfl (rO (f:=fC (.str "flow 0 1 1")) rfl (rO (f:=fC (.str "side 1")) rfl UO<|E8 rfl)<|E8 rfl)<|E8 rfl)<|E8 rfl)<|E8 rfl;rw[D5];exact aJg (show aD 5 (WG c n T (Z<|lsD n vs) OV (Z (.d (.list (X.map .str)))) Y Y Y Y Y) M2=Z (.d (.list (X.map .str)),M2)from rfl) B (by rw[A3,O];show 35+5<=500;decide)
 obtain⟨q,Q⟩:∃q,M2.length=q:=⟨_,rfl⟩;obtain⟨A,C⟩:∃A,M2++[Cell.lst (((X++W5 n).map .str).map .d)]=A:=⟨_,rfl⟩;have E:A[q]?=Z (.lst (((X++W5 n).map .str).map .d)):=by rw[<- C,<- Q];exact gV
 have U:WL n=X++W5 n++([("tie 0 1 1/110880":Str)]:Tc):=by unfold WL;rw[t]
 rw[C,Q]at P;obtain⟨l,o⟩:∃l,(A.set q (.lst (((WL n).map .str).map .d))).set q .dead=l:=⟨_,rfl⟩
 have V:YZ 5 (lQ<|bG "list" eD (aD 5)<|aB (fC (.str "tie 0 1 1/110880")) aG) (WG c n T (Z<|lsD n vs) OV (Z (.c q)) Y Y Y Y Y) A=Z (.nx (WG c n T (Z<|lsD n vs) OV (Z (.d (.list ((WL n).map .str)))) Y Y Y Y Y),l):=by
  have W:(((X++W5 n).map PyData.str).map CD.d).length<sizeLine:=by
   rw[A3,A3,C3,O,szl];show 35+5<16777216;decide
  have ap:bG "list" eD (aD 5) (aB (fC (.str "tie 0 1 1/110880")) aG) (WG c n T (Z<|lsD n vs) OV (Z (.c q)) Y Y Y Y Y) A=Z (.d .none,A.set q (.lst (((WL n).map .str).map .d))):=by
   refine sO (show aD 5 (WG c n T (Z<|lsD n vs) OV (Z (.c q)) Y Y Y Y Y) A=Z (.c q,A)from rfl) (by unfold tyB;dsimp only;rw[E];rfl) (aI (show fC (.str "tie 0 1 1/110880") (WG c n T (Z<|lsD n vs) OV (Z (.c q)) Y Y Y Y Y) A=Z (S "tie 0 1 1/110880",A)from rfl) aS) ?_;unfold eD;dsimp only;rw[E];dsimp only;rw[A4 W,U];simp only[List.map_append];rfl
  have ln:q<A.length:=(List.getElem?_eq_some_iff.mp E).1;have ag:(A.set q (.lst (((WL n).map PyData.str).map .d)))[q]?=Z (.lst (((WL n).map .str).map .d)):=F7 ln;unfold YZ lQ;rw[ap,A1,A1];show(match (A.set q (.lst (((WL n).map PyData.str).map .d)))[q]? with|some (.lst xs)=>(iO xs).bind fun ds=>Z ((WG c n T (Z<|lsD n vs) OV (Z (.c q)) Y Y Y Y Y).set 5 (Z (.d (.list ds))),(A.set q (.lst (((WL n).map PyData.str).map .d))).set q .dead)|_=>Y).bind _=_;rw[ag];dsimp only;rw[qG,A1,o];rfl
 have G:∀e k,Dk M2 e k->Dk l e k:=fun e k h=>by
  have ne:q≠e:=by have:=h.lt;omega
  rw[<- o,<- C];exact(h.app.put ne).put ne
 exact⟨_,_,_,_,R,P,V,G⟩
def QG{M4:Sto}(h:kM n vs)(l:vs.length<=8):aY (fOp bV mQ mR) (hName 9) (WG c n T (Z<|lsD n vs) OV Wn g6 g7 g8 Y Y) M4=Z (.nx (WG c n T (Z<|lsD n vs) OV Wn g6 g7 g8 (Z (.d (.list (((⟨0,1,1,1⟩:Tie)::vs.filter tP).map fun t=>.str (cE "tie" t))))) Y),M4):=by
 obtain⟨us,k⟩:∃us,vs.filter tP=us:=⟨_,rfl⟩;have o:us.length<=8:=by have:=O7 tP vs;rw[k]at this;omega
 rw[k];refine bM<|bN (CT _ M4) (b:=.d (.list (us.map fun t=>.str (cE "tie" t)))) ?_<|(dP (by rw[A3];show 1+_<=1000;omega)).trans ?_
 .unfold mR
  have it:bD (fSl (aD 3) (bW<|fC (.int 1)) bF) (WG c n T (Z<|lsD n vs) OV Wn g6 g7 g8 Y Y) M4=Z (vs.map fun t=>S<|cE "tie" t,M4):=by
   refine(kQ (ds:=vs.map fun t=>.str (cE "tie" t)) ?_).trans (by rw[D3];rfl);unfold fSl;rw[show aD 3 (WG c n T (Z<|lsD n vs) OV Wn g6 g7 g8 Y Y) M4=Z (lsD n vs,M4)from rfl,A1];show Z (CD.d (.list (eN ((wLs n vs).map .str) (Z 1) Y)),M4)=_;rw[KB,vB]
  refine jT it (by rw[A3];omega) ?_ (by rw[A3];omega);rw[show pV [Y] (WG c n T (Z<|lsD n vs) OV Wn g6 g7 g8 Y Y)=[Y]from rfl,<- k];refine JP (fun t=>S<|cE "tie" t) tP (fun t=>.str (cE "tie" t)) vs Y fun t ht=>⟨gJ ?_,rfl⟩;have q:=zS<|h.rd t ht
  have s1:aBK (aD 0) bF (bW<|fC (.int 8)) [Z (S<|cE "tie" t)] M4=Z (S<|Txt.slice (cE "tie" t) Y<|Z 8,M4):=by
   show(if (cE "tie" t).length<=sizeLine then Z (CD.d (.str (Txt.slice (cE "tie" t) Y<|Z 8)),M4)else Y)=_;rw[A4 (by rw[szl];omega)]
  exact bN s1 (show fC (.str "tie 0 1 ") [Z (S<|cE "tie" t)] M4=Z (S "tie 0 1 ",M4)from rfl) rfl
 .rw[B4,show cE "tie" ⟨0,1,1,1⟩="tie 0 1 1" by decide];rfl
def NH{EL EW:EF}{L W:Tf}{M:Sto}(h:kM n us)(K:BF n us 2 w)(V:1<=us.length)(dk:Dk M c 4)(P:∀M,EL (WG c n T L o W g6 g7 g8 g9 g10) M=Z (lsD n us,M))(Q:∀M,EW (WG c n T L o W g6 g7 g8 g9 g10) M=Z (S w,M)):
 ∃q t M1 M2,aY (aL cU<|aB (qO (aD 0) (bW<|fC (.int 2))<|bW<|fC (.int 4))<|aB EL<|aB EW<|aB (fC (.int 2)) aG) (gS 2<|bK (hName 7)<|bK (hName 8) gU) (WG c n T L o W g6 g7 g8 g9 g10) M=Z (.nx (WG c n T L o W g6 q t g9 g10),M1) /\
  sIf (gB<|fOp (eqX true) (aL bE<|aB (fC (.int 0))<|aB (aD 7) aG)<|aD 8) (bT<|fC (.bool false)) cN (WG c n T L o W g6 q t g9 g10) M1=Z (.nx (WG c n T L o W g6 q t g9 g10),M2)/\Sv M M2:=by
 obtain⟨C,E⟩:=h.short;have n2:=h.n2;obtain⟨pre,post,O,po,G,A⟩:=IK (EL:=EL) (EW:=EW) (i:=7) (j:=8) (f:=2) (v:=0) (w:=w) (ls:=wLs n us) (γ:=WG c n T L o W g6 g7 g8 g9 g10) (l:=bW<|fC (.int 2)) (u:=bW<|fC (.int 4)) dk rfl (fun _=>rfl) (fun _=>rfl) (fun xs R=>aKk xs R) P Q (by rw[B5,A3];omega) E C K.len;obtain⟨U,H,B⟩:=xT (EK:=fC (.int 0)) (k:=0) (i:=7) (j:=8) (J:=pre.length) (x:=Txt.join "\n" (pre++w::post)) (γ:=WG c n T L o W g6 (Z<|S<|Txt.join "\n" (pre++w::post)) (Z<|I (pre.length:Nat)) g9 g10) (M:=O) rfl rfl (fun _=>rfl) (fun _=>rfl) (fun M=>VT (by decide) po h.rd h.ok (by omega) h.n40 h.l9 K);exact⟨_,_,O,U,G,H,A.trans B⟩
def aIg(dk:Dk M c 14):∃M',jO [.c c] M=Z (B true,M')/\∀e k,Dk M e k->e≠c->Dk M' e k:=by
 obtain⟨z,M1,p1,d1,o1,z0,z1⟩:=dk.pop;have i0:=D6 z (show(30:Int)≠0 by decide);have i1:=D4 z (show(0:Int)<30 by decide);obtain⟨n,hn⟩:∃n,2+z % 30=n:=⟨_,rfl⟩
 have a1:aY (fOp bV (fC (.int 2))<|fOp bO (bG "list" fE (aD 0) aG)<|fC (.int 30)) (hName 1) [Z (.c c),Y,Y,Y,Y,Y,Y,Y,Y,Y,Y] M=Z (.nx (WG c n Y Y Y Y Y Y Y Y Y),M1):=by
  refine bM<|fY (k:=bV) (bR (i:=2)) (NW (k:=bO) (pop_at (v:=0) rfl dk.ty p1) (bR (i:=30))<|dZ (by decide)) ?_;rw[yG,hn]
 obtain⟨vs,M2,e2,G,pw,l8,d2,aa⟩:=aIr (c:=c) (m:=4) (n:=n) (by omega) d1;have h:kM n vs:=⟨by omega,by omega,by omega,fun t ht=>VR (by omega)<|G.1 t ht,G.1,G.2,by omega⟩;obtain⟨sh,ar⟩:=h.short;have sv:∀e k,Dk M e k->e≠c->Dk M2 e k:=fun e k h ne=>aa e k (h.oth o1 ne) ne;obtain⟨T,hT⟩:∃T,Z (CD.d (.list (gX vs)))=T:=⟨_,rfl⟩
 have a2:aY (aL jP<|aB (aD 0)<|aB (aD 1) aG) (hName 2) (WG c n Y Y Y Y Y Y Y Y Y) M1=Z (.nx (WG c n T Y Y Y Y Y Y Y Y),M2):=by
  rw[<- hT];exact bM<|bA (F:=jP) (aI (show aD 0 (WG c n Y Y Y Y Y Y Y Y Y) M1=Z (.c c,M1)from rfl)<|aI (show aD 1 (WG c n Y Y Y Y Y Y Y Y Y) M1=Z (I n,M1)from rfl) aS) e2
 have a3:aY (fOp bV (cA<|aB (fOp gL (fC (.str "places "))<|aL iA<|aB (aD 1) aG) aG) sZ) (hName 3) (WG c n T Y Y Y Y Y Y Y Y) M2=Z (.nx (WG c n T (Z<|lsD n vs) Y Y Y Y Y Y Y),M2):=by
  refine bM<|YC (by omega) h.n40 rfl ?_ (by omega);refine ZE (f:=bD<|aD 2) (OD (k:=false) (x:=.list (gX vs)) ?_ rfl) (by decide) h.rd (by omega) rfl;rw[<- hT];rfl
 obtain⟨OV,hO⟩:∃OV,Z (S<|sI n)=OV:=⟨_,rfl⟩;have b:=aEs (n:=n) (by omega) (by omega);have ln:=iZ b
 have a4:aY (aL iA<|aB (aD 1) aG) (hName 4) (WG c n T (Z<|lsD n vs) Y Y Y Y Y Y Y) M2=Z (.nx (WG c n T (Z<|lsD n vs) OV Y Y Y Y Y Y),M2):=by
  rw[<- hO];exact bM<|bA (F:=iA) (aI (show aD 1 (WG c n T (Z<|lsD n vs) Y Y Y Y Y Y Y) M2=Z (I n,M2)from rfl) aS)<|lY b
 have v4:∀g5 M,aD 4 (WG c n T (Z<|lsD n vs) OV g5 Y Y Y Y Y) M=Z (S<|sI n,M):=fun g5 M=>by rw[<- hO];rfl
 obtain⟨m3,M5,q,A2,a5,a6,a7,H⟩:=WS (c:=c) (T:=T) (OV:=OV) (M2:=M2) h v4;obtain⟨Wn,Q⟩:∃Wn,Z (CD.d (.list ((WL n).map .str)))=Wn:=⟨_,rfl⟩;obtain⟨g6,g7,g8,M4,e8,R⟩:=XD (c:=c) (T:=T) (o:=OV) (W:=Wn) (g6:=Y) (g7:=Y) (g8:=Y) (g9:=Y) (g10:=Y) (ws:=WL n) (M:=A2) h (fun w hw=>aJe h.n2 h.n40 w hw)<|H _ _ d2
 have a8:rS (bD<|aD 5) (hName 6) eT (WG c n T (Z<|lsD n vs) OV Wn Y Y Y Y Y) A2=Z (.nx (WG c n T (Z<|lsD n vs) OV Wn g6 g7 g8 Y Y),M4):=by
  refine pD (kQ (ds:=(WL n).map .str) ?_) (by rw[D3];exact e8);rw[<- Q];rfl
 rw[Q]at a7;have a9:=QG (c:=c) (T:=T) (OV:=OV) (Wn:=Wn) (g6:=g6) (g7:=g7) (g8:=g8) (M4:=M4) h l8;obtain⟨us,u⟩:∃us,vs.filter tP=us:=⟨_,rfl⟩;have lu:us.length<=8:=by have:=O7 tP vs;rw[u]at this;omega
 rw[u]at a9;obtain⟨r1,w1⟩:=aBL (a:=1) (b:=1) (.inl rfl) rfl;obtain⟨r0,w0⟩:=aBL (a:=0) (b:=1) (.inr rfl) rfl;have ab:kM n (⟨0,1,1,1⟩::us):=by rw[<- u];exact FO h (by omega) ⟨rfl,rfl⟩ w1 r1
 have ac:kM n (⟨0,1,0,1⟩::us):=by rw[<- u];exact FO h (by omega) ⟨rfl,rfl⟩ w0 r0
 have n2:=h.n2;have ae:BF n (⟨0,1,1,1⟩::us) 2 "tie  0 1 0":=aGG (t:=⟨0,1,0,1⟩) (sM (by decide)) (by decide) (by decide) r0 (RJ ⟨w0,by decide,by decide,by dsimp only;omega⟩) rfl;have af:BF n (⟨0,1,0,1⟩::us) 2 "tie 0 1 1":=aGG (t:=⟨0,1,1,1⟩) (sM (by decide)) (by decide) (by decide) r1 (RJ ⟨w1,by decide,by decide,by dsimp only;omega⟩) rfl;obtain⟨l,U⟩:∃l,Z (CD.d (.list (((⟨0,1,1,1⟩:Tie)::us).map fun t=>.str (cE "tie" t))))=l:=⟨_,rfl⟩;rw[U]at a9
 have s1:∀g6 g7 g8 g10 M,fSl (aD 3) bF (bW<|fC (.int 1)) (WG c n T (Z<|lsD n vs) OV Wn g6 g7 g8 l g10) M=Z (.d (.list [.str (pl n)]),M):=fun g6 g7 g8 g10 M=>by
  unfold fSl;rw[show aD 3 (WG c n T (Z<|lsD n vs) OV Wn g6 g7 g8 l g10) M=Z (lsD n vs,M)from rfl,A1];show Z (CD.d (.list (eN ((wLs n vs).map .str) Y<|Z 1)),M)=_;rw[KB,uW (by decide),B5,show min (1:Int).toNat ((vs.map fun t=>PyData.str<|cE "tie" t).length+1)=1 by rw[show(1:Int).toNat=1 from rfl];omega];rfl
 have v9:∀g6 g7 g8 g10 M,aD 9 (WG c n T (Z<|lsD n vs) OV Wn g6 g7 g8 l g10) M=Z (.d (.list (((⟨0,1,1,1⟩:Tie)::us).map fun t=>.str (cE "tie" t))),M):=fun g6 g7 g8 g10 M=>by rw[<- U];rfl
 have d4:Dk M4 c 4:=R _ _<|H _ _ d2;obtain⟨G7,G8,M6,M7,ag,ah,E⟩:=NH (EL:=fOp bV (fSl (aD 3) bF<|bW<|fC (.int 1))<|aD 9) (EW:=fC (.str "tie  0 1 0")) (g6:=g6) (g7:=g7) (g8:=g8) (g10:=Y) ab ae (by rw[B5];omega) d4 (fun M=>bN (s1 g6 g7 g8 Y M) (v9 g6 g7 g8 Y M)<|(dP (by rw[A3];show 1+(us.length+1)<=1000;omega)).trans (by rw[show lsD n (⟨0,1,1,1⟩::us)=.d (.list ((wLs n (⟨0,1,1,1⟩::us)).map .str))from rfl,KB];rfl)) fun _=>rfl
 obtain⟨K,O,M8,A,ai,aj,V⟩:=NH (EL:=fOp bV (fOp bV (fSl (aD 3) bF<|bW<|fC (.int 1)) mM)<|fSl (aD 9) (bW<|fC (.int 1)) bF) (EW:=fC (.str "tie 0 1 1")) (g6:=g6) (g7:=G7) (g8:=G8) (g10:=Y) ac af (by rw[B5];omega) (E _ _ d4) (fun M=>by
  have s9:fSl (aD 9) (bW<|fC (.int 1)) bF (WG c n T (Z<|lsD n vs) OV Wn g6 G7 G8 l Y) M=Z (.d (.list (us.map fun t=>.str (cE "tie" t))),M):=by
   unfold fSl;rw[v9,A1];show Z (CD.d (.list (eN (((⟨0,1,1,1⟩:Tie)::us).map fun t=>PyData.str<|cE "tie" t) (Z 1) Y)),M)=_;rw[B4,vB]
  refine bN (bN (s1 g6 G7 G8 Y M) (CS _ M) (dP (E8 rfl))) s9 ((dP (by rw[A3];show 2+_<=1000;omega)).trans ?_);rw[show lsD n (⟨0,1,0,1⟩::us)=.d (.list ((wLs n (⟨0,1,0,1⟩::us)).map .str))from rfl,KB,B4,show cE "tie" ⟨0,1,0,1⟩="tie 0 1 0" by decide];rfl) (fun _=>rfl)
 obtain⟨P,X⟩:∃P,CD.d (.list [(.str "places"),(.str "places 0"),(.str "places 41"),(.str "places 100"),(.str "places 03"),(.str "places 3 3"),(.str "place 3"),(.str "tie 0 1 1"),(.str "3")])=P:=⟨_,rfl⟩;have ak:aY mY (hName 10) (WG c n T (Z<|lsD n vs) OV Wn g6 K O l Y) A=Z (.nx (WG c n T (Z<|lsD n vs) OV Wn g6 K O l<|Z P),A):=by rw[<- X];exact bM<|BI _ A
 obtain⟨k6,C,am,a0⟩:=OS (c:=c) (T:=T) (o:=OV) (W:=Wn) (g6:=g6) (g7:=K) (g8:=O) (g9:=l) (g10:=Z P) (M:=A) h
 have ao:bD (fOp bV (aD 10) nA) (WG c n T (Z<|lsD n vs) OV Wn g6 K O l<|Z P) A=Z (uE.map fun p=>S p.1,A):=by
  rw[<- X];refine(kQ<|bN (show aD 10 (WG c n T (Z<|lsD n vs) OV Wn g6 K O l<|Z _) A=Z (_,A)from rfl) (AJ _ A)<|dP<|E8 rfl).trans rfl
 have ap:=pD ao am;obtain⟨L,aq⟩:=RQ (γ:=WG c n T (Z<|lsD n vs) OV Wn k6 K O l<|Z P) (M:=C);refine⟨C++L,iS rfl ?_,fun e k hd ne=>(a0 _ _<|V _ _<|E _ _<|R _ _<|H _ _<|sv e k hd ne).app⟩;show lU [Z (.c c),Y,Y,Y,Y,Y,Y,Y,Y,Y,Y] M=_;unfold lU;rw[aU a1,aU a2,aU a3,aU a4,aU a5,aU a6,aU a7,aU a8,aU a9,aU ag,aU ah,aU ai,aU aj,aU ak,aU ap];unfold bT;rw[fY aq (DX _ _) (show eqX false (.d (.list [.int 0,.int 0,.int 1,.int 3])) (.d (.list [.int 0,.int 0,.int 1,.int 3])) (C++L)=Z (B true,C++L)from rfl)];rfl
def aAU{f:Nat}(po:xW ls w f pre post)(h:∀x∈ls,LnG F as x)(l:iP F as w)(hn:iP F as "nothing 1"):(∀x∈pre,LnG F as x)/\(∀x∈post,LnA F as x):=by
 obtain⟨a,b,p,m,rfl,rfl,ha,o,q,t,hm⟩:=po.ex;refine⟨fun x k=>?_,fun x k=>?_⟩
 .rcases List.mem_append.mp k with z|z
  .rcases List.mem_append.mp z with z|z
   .rw[O0 z];exact CH (by decide) wd_e.1
   .exact h x<|S7 z
  .rw[O0 z];exact CH (by decide) wd_e.2
 .rcases List.mem_append.mp k with z|z
  .exact(h x<|Y7 z).any
  .rw[List.mem_singleton.mp z];rcases hm with rfl|rfl|rfl
   .exact l.any
   .exact(CH (by decide) wd_e.1).any
   .exact hn.any
def Rdr(G:FX)(F:FN)(as:T7):Prop:=∀(pre post:Tc)(w:Str)(M:Sto),(∀x∈pre,LnG F as x)->iP F as w->(∀x∈post,LnA F as x)->pre.length+post.length<=900->(Txt.join "\n" (pre++w::post)).length<=1000000->G [S (Txt.join "\n" (pre++w::post))] M=Z (NY pre.length,M++[.dead])
def aEb{f:Nat}{pre:Tc}{M:Sto}(o:Rdr G F as)(po:xW ls w f pre post)(q:ls.length<=50)(hs:∀l∈ls,l.length<=10000)(t:w.length<=10000)(h:∀x∈ls,LnG F as x)(k:iP F as w)(hn:iP F as "nothing 1"):
 ∃L,G [S (Txt.join "\n" (pre++w::post))] M=Z (.x (exN (pre.length:Nat)),M++L):=by
 obtain⟨u,A⟩:=aAU po h k hn;obtain⟨sh,sl⟩:=po.short q hs t;exact⟨[.dead],o pre post w M u k A (by omega)<|join_le sh (by rw[C3,B5];omega)⟩
abbrev GL(s:CD)(c:Nat)(R Sd g4 g5 L g7 g8 g9 g10:Tf):Ga:=[Z s,Z (.c c),R,Sd,g4,g5,L,g7,g8,g9,g10]
abbrev tD(ls:Tc):Tf:=Z (.d (.list (ls.map .str)))
def aCd{s:CD}{k:Nat}{R g8 g9:Tf}{M:Sto}(B:Rdr G F as)(C:rdrs[k]?=Z (nm,G))(E:∀g8 g9 M,EK (GL s c R Sd g4 g5 (tD ls) (Z<|S w) g8 g9 g10) M=Z (I (k:Nat),M))(t:ls.length<=50)(hs:∀l∈ls,l.length<=10000)(A:w.length<=10000)(h:∀x∈ls,LnG F as x)(H:iP F as w)(hn:iP F as "nothing 1")(dk:Dk M c 2):
 ∃o q M',bC (aY (aL cU<|aB (qO (aD 1) bF<|bW<|fC (.int 2))<|aB (aD 6)<|aB (aD 7)<|aB (fC (.int 0)) aG)<|gS 2<|bK (hName 8)<|bK (hName 9) gU) (sIf (gB<|fOp (eqX true) (aL bE<|aB EK<|aB (aD 8) aG)<|aD 9) (bT<|fC (.bool false)) cN) (GL s c R Sd g4 g5 (tD ls) (Z<|S w) g8 g9 g10) M=Z (.nx (GL s c R Sd g4 g5 (tD ls) (Z<|S w) o q g10),M')/\Sv M M':=by
 obtain⟨pre,post,M1,po,K,O⟩:=IK (EL:=aD 6) (EW:=aD 7) (i:=8) (j:=9) (f:=0) (v:=1) (w:=w) (ls:=ls) (γ:=GL s c R Sd g4 g5 (tD ls) (Z<|S w) g8 g9 g10) (l:=bF) (u:=bW<|fC (.int 2)) dk rfl (fun _=>rfl) (fun _=>rfl) (fun xs P=>aDD xs P) (fun _=>rfl) (fun _=>rfl) (O4 _) t hs A;obtain⟨M2,Q,U⟩:=xT (EK:=EK) (k:=k) (i:=8) (j:=9) (J:=pre.length) (x:=Txt.join "\n" (pre++w::post)) (γ:=GL s c R Sd g4 g5 (tD ls) (Z<|S w) (Z<|S<|Txt.join "\n" (pre++w::post)) (Z<|I (pre.length:Nat)) g10) (M:=M1) C (E _ _ _) (fun _=>rfl) (fun _=>rfl) fun M=>aEb B po t hs A h H hn;exact⟨Z<|S<|Txt.join "\n" (pre++w::post),Z<|I (pre.length:Nat),M2,(aU K).trans Q,O.trans U⟩
def NV{b:SF}{F:FN}{as:T7}{s:CD}{c k:Nat}{R Sd g4 g7 g8 g9 g10:Tf}{ws:Tc}{nm:Str}{M:Sto}(H:b=bC (aY (aL cU<|aB (qO (aD 1) bF<|bW<|fC (.int 2))<|aB (aD 6)<|aB (aD 7)<|aB (fC (.int 0)) aG)<|gS 2<|bK (hName 8)<|bK (hName 9) gU) (sIf (gB<|fOp (eqX true) (aL bE<|aB EK<|aB (aD 8) aG)<|aD 9) (bT<|fC (.bool false)) cN))
 (K:Rdr G F as) (O:rdrs[k]?=Z (nm,G)) (Q:∀w g8 g9 M,EK (GL s c R Sd g4 g5 (tD ls) (Z<|S w) g8 g9 g10) M=Z (I (k:Nat),M)) (U:ls.length<=50) (hs:∀l∈ls,l.length<=10000) (B:∀x∈ls,LnG F as x) (A:∀w∈ws,w.length<=10000/\iP F as w) (hn:iP F as "nothing 1") (dk:Dk M c 2):
 ∃o q t M',sW (hName 7) b (ws.map fun w=>S w) (GL s c R Sd g4 g5 (tD ls) g7 g8 g9 g10) M=Z (.nx (GL s c R Sd g4 g5 (tD ls) o q t g10),M')/\Sv M M':=by
 subst H
 obtain⟨γ',M',e,⟨o,q,t,rfl⟩,d⟩:=vH (g:=hName 7) (P:=fun x=>∃w,x=S w/\w.length<=10000/\iP F as w) (Inv:=fun γ N=>(∃g7 g8 g9,γ=GL s c R Sd g4 g5 (tD ls) g7 g8 g9 g10)/\Sv M N) (fun x γ N ⟨w,A,V,b⟩ ⟨⟨g7,g8,g9,C⟩,E⟩=>by
  subst A C;obtain⟨a,X,M',e,d⟩:=aCd (g8:=g8) (g9:=g9) (s:=s) (R:=R) (Sd:=Sd) (g4:=g4) (g5:=g5) (g10:=g10) K O (Q w) U hs V B b hn (E _ _ dk);exact⟨GL s c R Sd g4 g5 (tD ls) (Z (S w)) g8 g9 g10,_,M',rfl,e,⟨_,_,_,rfl⟩,E.trans d⟩) (ws.map fun w=>S w) (GL s c R Sd g4 g5 (tD ls) g7 g8 g9 g10) M (fun x W=>by
  obtain⟨w,u,rfl⟩:=List.mem_map.mp W;exact⟨w,rfl,(A w u).1,(A w u).2⟩) ⟨⟨g7,g8,g9,rfl⟩,fun _ _ h=>h⟩
 exact⟨o,q,t,M',e,d⟩
noncomputable def exL:Tw (Str×Tc):=[("tie 0 1 1",["tie","0","1","1"]),("side 0",["side","0"]),("places 2",["places","2"])]
abbrev rwL(w:Str):Tc:=(wrL w++exL).map (·.1)
def aIP{w:Str}(h:w="branch"\/w="flow"):∀x∈rwL w,x.length<=10000/\iP bI [S w] x:=fun x o=>by
 obtain⟨p,k,rfl⟩:=List.mem_map.mp o;have l:(wrL w++exL).all (fun p=>decide (p.1.length<=10000))=true:=by rcases h with rfl|rfl<;>decide +kernel
 refine⟨D8<|List.all_eq_true.mp l p k,?_⟩;rcases List.mem_append.mp k with z|z
 .exact aCo (h.elim (fun e=>.inr (.inl e)) fun e=>.inr (.inr e)) p z
 .refine JH (IG (show okL exL=true by decide +kernel) p z) ?_;simp only[exL,List.mem_cons,List.not_mem_nil,or_false]at z;rcases h with rfl|rfl<;>rcases z with rfl|rfl|rfl<;>exact fun M=>rfl
def aAg{s:CD}{ts:Tw Tie}(h:w.length<=100)(l:∀t∈ts,RdT t)(B:ts.length<=100):KC (GL s c (Z (.d (.list (ts.map<|fZ false)))) Sd g4 (Z<|S w) g6 g7 g8 g9 g10) M=Z (.d (.list ((ts.map<|cE w).map .str)),M):=by
 unfold KC;rw[D3];refine jT (OD (k:=false) (ts:=ts) rfl rfl) (by rw[A3];omega) ?_ (by rw[A3];omega);rw[show pV [Z 5,Y] (GL s c (Z (.d (.list (ts.map<|fZ false)))) Sd g4 (Z<|S w) g6 g7 g8 g9 g10)=[Z (S w),Y]from rfl];refine AG (fun t=>.d (fZ false t)) (fun t=>.str (cE w t)) ts Y fun t ht=>?_;obtain⟨o,q,u,A⟩:=(l t ht).bd;exact bA (F:=eC) (aI (show aD 0 [Z (S w),Z (.d (fZ false t))] M=Z (S w,M)from rfl)<|aI (show aD 1 [Z (S w),Z<|CD.d<|fZ false t] M=Z (.d (fZ false t),M)from rfl) aS)<|EC (k:=false) (k':=false) h o q u A
def LV{s:CD}{k:Nat}{Sd g6 g7 g8 g9 g10:Tf}{ts:Tw Tie}(A:w="branch"\/w="flow")(K:Rdr G bI [S w])(O:rdrs[k]?=Z (nm,G))(B:∀t∈ts,RdT t)(U:ts.length<=6)(dk:Dk M c 2):
 ∃C h o q M',zY (GL s c (Z (.d (.list (ts.map<|fZ false)))) Sd (Z<|I (k:Nat)) (Z<|S w) g6 g7 g8 g9 g10) M=Z (.nx (GL s c (Z (.d (.list (ts.map<|fZ false)))) Sd (Z<|I (k:Nat)) (Z<|S w) C h o q g10),M')/\Sv M M':=by
 have H:Wd w:=by rcases A with rfl|rfl<;>exact JX (by decide)
 have E:w.length<=100:=by rcases A with rfl|rfl<;>decide
 obtain⟨h,o,q,M',e,d⟩:=NV (b:=VZ) (EK:=aD 4) (ls:=ts.map<|cE w) (ws:=rwL w) (s:=s) (R:=Z (.d (.list (ts.map<|fZ false)))) (Sd:=Sd) (g4:=Z<|I (k:Nat)) (g5:=Z<|S w) (g7:=g7) (g8:=g8) (g9:=g9) (g10:=g10) rfl K O (fun _ _ _ _=>rfl) (by rw[A3];omega) (fun l u=>by
  obtain⟨t,ht,rfl⟩:=List.mem_map.mp u;exact(HX H E (B t ht)).len) (fun l u=>by
  obtain⟨t,ht,rfl⟩:=List.mem_map.mp u;exact aCN H E (B t ht)) (aIP A) RC dk
 refine⟨tD<|ts.map<|cE w,h,o,q,M',?_,d⟩;unfold zY;rw[aU (bM (i:=6)<|aAg E B (by omega))];have P:=VX (w:=w) (M:=M) (A.elim (fun e=>.inr (.inl e)) fun e=>.inr (.inr e));refine pD (M1:=M) (xs:=(rwL w).map fun w=>S w) ?_ e;have Q:(wrL w).length=31:=rfl;refine(kQ (ds:=(rwL w).map .str)<|bN (bA (F:=dR) (aI (show aD 5 (GL s c (Z (.d (.list (ts.map<|fZ false)))) Sd (Z<|I (k:Nat)) (Z<|S w) (tD<|ts.map<|cE w) g7 g8 g9 g10) M=Z (S w,M)from rfl) aS) P) (aAY _ M)<|(dP (by rw[A3,Q];decide)).trans ?_).trans (by rw[D3];rfl);rw[rwL,D5,D5,D3];rfl
def PU{ss:T0}(q:γ[3]?=Z (Z (.d (.list (ss.map<|sqK false)))))(h:∀s∈ss,RdS s)(B:ss.length<=90):zK γ M=Z (.d (.list (ss.map fun s=>.str (nI s))),M):=by
 have it:=aCH (k:=false) (ss:=ss) (M:=M) q rfl;unfold zK;refine jT it (by rw[A3];omega) ?_ (by rw[A3];omega);rw[show pV [Y] γ=[Y]from rfl];refine oP (fun s=>.d (sqK false s)) (fun s=>.str (nI s)) ss Y fun s hs=>?_;obtain⟨C,l,u⟩:=h s hs;have t:=xJ;have bd:∀k∈s,Bd k:=fun k o=>Bd.of (l k o).1 (by have:=(l k o).2;omega);have A:SU [Z (.d (sqK false s))] M=Z (.d (.list ((s.map sI).map .str)),M):=WO (f:=bD<|aD 0) aCv bd (by omega) rfl;exact XN (aAn _ M) A bd u
def main(ns:T8)(hl:ns.length<=63):∃M',F_law [.d (.list (ns.map .int))] []=Z (.d (.bool true),M'):=by
 obtain⟨c,M0,e0,d0⟩:=aHP ns;obtain⟨h,hs⟩:∃h,CD.d (PyData.list<|ns.map PyData.int)=h:=⟨_,rfl⟩;rw[hs]at e0 ⊢
 have a1:aY (aL jK<|aB (aD 0)<|aB (fC (.int 120)) aG) (hName 1) [Z h,Y,Y,Y,Y,Y,Y,Y,Y,Y,Y] []=Z (.nx (GL h c Y Y Y Y Y Y Y Y Y),M0):=
  bM (bA (F:=jK) (aI (show aD 0 [Z h,Y,Y,Y,Y,Y,Y,Y,Y,Y,Y] []=Z (h,[])from rfl)<|aI bR aS) e0)
 obtain⟨x,q1,q2⟩:=aAT (k:=60) (v:=1) (γ:=GL h c Y Y Y Y Y Y Y Y Y) (l:=bF) (u:=bW<|fC (.int 60)) d0 rfl rfl rfl (fun xs hx=>by
  rw[uW (by decide),U8,show(60:Int).toNat=60 from rfl];omega)
 obtain⟨M1,e1,ae⟩:=aIg<|q2.le (by decide);have d1:Dk M1 c 120:=ae c 120 d0.app<|D1 d0.lt
 have a2:sIf (kX<|gB<|aL jO<|aB (qO (aD 1) bF<|bW<|fC (.int 60)) aG) (bT<|fC (.bool false)) cN (GL h c Y Y Y Y Y Y Y Y Y) M0=Z (.nx (GL h c Y Y Y Y Y Y Y Y Y),M1):=by
  refine(vR (M':=M1) ?_).trans rfl;unfold kX;rw[gJ (bA (F:=jO) (aI q1 aS) e1)];rfl
 obtain⟨x3,q3,q4⟩:=aAT (k:=60) (v:=1) (γ:=GL h c Y Y Y Y Y Y Y Y Y) (l:=bW<|fC (.int 60)) (u:=bF) d1 rfl rfl rfl (fun xs hx=>by
  rw[OP (by decide),A0f,show(60:Int).toNat=60 from rfl];omega)
 have a3:=bM (i:=1) q3;obtain⟨c',af⟩:∃c',M1.length=c':=⟨_,rfl⟩;obtain⟨H,ag⟩:∃H,M1++[x3]=H:=⟨_,rfl⟩;rw[ag,af]at a3 q4;have a3:aY (qO (aD 1) (bW<|fC (.int 60)) bF) (hName 1) (GL h c Y Y Y Y Y Y Y Y Y) M1=Z (.nx (GL h c' Y Y Y Y Y Y Y Y Y),H):=a3;have d3:Dk H c' ((2+35)+1+18+1):=q4.le (by decide);obtain⟨v,M4,p4,d4,o4,v0,v1⟩:=d3.pop;have i0:=D6 v (show(5:Int)≠0 by decide);have i1:=D4 v (show(0:Int)<5 by decide);obtain⟨f,ts,M5,e5,f5,l6,b5,Q,ah⟩:=aEr (c:=c') (n:=v % 5) i0 (by omega) d4
 have a4:aY (lS<|aL hZ<|aB (aD 1)<|aB (fOp bO (bG "list" fE (aD 1) aG)<|fC (.int 5)) aG) (hName 2) (GL h c' Y Y Y Y Y Y Y Y Y) H=Z (.nx (GL h c' (Z (.d (.list (ts.map<|fZ false)))) Y Y Y Y Y Y Y Y),M5.set f .dead):=
  bM (FW (bA (F:=hZ) (aI (show aD 1 (GL h c' Y Y Y Y Y Y Y Y Y) H=Z (.c c',H)from rfl)<|aI (NW (k:=bO) (pop_at (v:=1) rfl d3.ty p4) (bR (i:=5))<|dZ (by decide)) aS) e5) (by rw[f5,D3];rfl))
 have Q:=Q.put (x:=.dead) ah;obtain⟨U,ai⟩:∃U,M5.set f .dead=U:=⟨_,rfl⟩;rw[ai]at a4 Q;obtain⟨u,M7,p7,d7,o7,u0,u1⟩:=Q.pop;have j0:=D6 u (show(5:Int)≠0 by decide);have j1:=D4 u (show(0:Int)<5 by decide);obtain⟨f',ss,M8,e8,f8,l5,b8,O,aj⟩:=aBi (c:=c') (n:=u % 5) j0 (by omega) d7;obtain⟨R,hR⟩:∃R,Z (CD.d (.list (ts.map<|fZ false)))=R:=⟨_,rfl⟩;rw[hR]at a4
 have a5:aY (lS<|aL gF<|aB (aD 1)<|aB (fOp bO (bG "list" fE (aD 1) aG)<|fC (.int 5)) aG) (hName 3) (GL h c' R Y Y Y Y Y Y Y Y) U=Z (.nx (GL h c' R (Z (.d (.list (ss.map<|sqK false)))) Y Y Y Y Y Y Y),M8.set f' .dead):=
  bM (FW (bA (F:=gF) (aI (show aD 1 (GL h c' R Y Y Y Y Y Y Y Y) U=Z (.c c',U)from rfl)<|aI (NW (k:=bO) (pop_at (v:=1) rfl Q.ty p7) (bR (i:=5))<|dZ (by decide)) aS) e8) (by rw[f8,D3];rfl))
 have O:=O.put (x:=.dead) aj;obtain⟨V,ak⟩:∃V,M8.set f' .dead=V:=⟨_,rfl⟩;rw[ak]at a5 O;obtain⟨Sd,W⟩:∃Sd,Z (CD.d (.list (ss.map<|sqK false)))=Sd:=⟨_,rfl⟩;rw[W]at a5;obtain⟨A6,A7,A8,A9,am,X,A⟩:=LV (G:=fR) (s:=h) (k:=1) (Sd:=Sd) (g6:=Y) (g7:=Y) (g8:=Y) (g9:=Y) (g10:=Y) (.inl rfl) (fun pre post w M h1 h2 h3 h4 h5=>aAw h1 h2 h3 h4 h5) rfl b5 l6 O;obtain⟨B6,B,C,E,o,a0,aa⟩:=LV (G:=fB) (s:=h) (k:=2) (Sd:=Sd) (g6:=A6) (g7:=A7) (g8:=A8) (g9:=A9) (g10:=Y) (.inr rfl) (fun pre post w M h1 h2 h3 h4 h5=>aDC h1 h2 h3 h4 h5) rfl b5 l6<|A _ _ O;rw[hR]at X a0
 have a6:rS (bD HE) (gS 2<|bK (hName 4)<|bK (hName 5) gU) zY (GL h c' R Sd Y Y Y Y Y Y Y) V=Z (.nx (GL h c' R Sd (Z<|I ((2:Nat):Int)) (Z<|S "flow") B6 B C E Y),o):=by
  refine pD (kQ<|aCp _ V) ?_;show sW _ _ [.d (.tuple [.int 1,.str "branch"]),.d (.tuple [.int 2,.str "flow"])] _ _=_;rw[qS (γ1:=GL h c' R Sd (Z<|I ((1:Nat):Int)) (Z<|S "branch") Y Y Y Y Y) (M1:=V) rfl X];rw[qS (γ1:=GL h c' R Sd (Z<|I ((2:Nat):Int)) (Z<|S "flow") A6 A7 A8 A9 Y) (M1:=am) rfl a0];rfl
 have ao:Dk o c' 2:=aa _ _<|A _ _ O;obtain⟨q,ap⟩:∃q,Z (I ((2:Nat):Int))=q:=⟨_,rfl⟩;rw[ap]at a6
 have a7:aY zK (hName 6) (GL h c' R Sd q (Z<|S "flow") B6 B C E Y) o=Z (.nx (GL h c' R Sd q (Z<|S "flow") (tD<|ss.map nI) B C E Y),o):=by
  refine(bM<|PU (ss:=ss) (by rw[<- W];rfl) b8 (by omega)).trans ?_;rw[tD,D3];rfl
 obtain⟨P,ab⟩:∃P,CD.d (.list [(.str "side"),(.str "sides 1"),(.str "side 100"),(.str "side 01"),(.str "side 1 00"),(.str "side a"),(.str "side 1 1/2"),(.str "1"),(.str "side1"),(.str "tie 0 1 1")])=P:=⟨_,rfl⟩;have a8:aY IT (hName 10) (GL h c' R Sd q (Z<|S "flow") (tD<|ss.map nI) B C E Y) o=Z (.nx (GL h c' R Sd q (Z<|S "flow") (tD<|ss.map nI) B C E<|Z P),o):=by rw[<- ab];exact bM<|aAj _ o
 obtain⟨C7,C8,C9,ac,aq,ar⟩:=NV (b:=ID) (EK:=fC (.int 3)) (k:=3) (G:=eI) (F:=cZ) (as:=[]) (ls:=ss.map nI) (ws:=sdL.map (·.1)) (s:=h) (R:=R) (Sd:=Sd) (g4:=q) (g5:=Z<|S "flow") (g7:=B) (g8:=C) (g9:=E) (g10:=Z P) rfl (fun pre post w M h1 h2 h3 h4 h5=>ZU h1 h2 h3 h4 h5) rfl (fun _ _ _ _=>rfl) (by rw[A3];omega) (fun l K=>by
  obtain⟨t,ht,rfl⟩:=List.mem_map.mp K;exact(WI (b8 t ht)).len) (fun l K=>by
  obtain⟨t,ht,rfl⟩:=List.mem_map.mp K;exact ZQ (b8 t ht)) (fun x hx=>by
  obtain⟨p,hp,rfl⟩:=List.mem_map.mp hx;have l:sdL.all (fun p=>decide (p.1.length<=10000))=true:=by decide +kernel
  exact⟨D8 (List.all_eq_true.mp l p hp),aJp p hp⟩) aGw ao
 have a9:rS (bD<|fOp bV (aD 10) KG) (hName 7) ID (GL h c' R Sd q (Z<|S "flow") (tD<|ss.map nI) B C E<|Z P) o=Z (.nx (GL h c' R Sd q (Z<|S "flow") (tD<|ss.map nI) C7 C8 C9<|Z P),ac):=by
  refine pD (xs:=(sdL.map (·.1)).map fun w=>S w) (M1:=o) ?_ aq;rw[<- ab];exact(kQ<|bN (show aD 10 (GL h c' R Sd q (Z<|S "flow") (tD<|ss.map nI) B C E<|Z _) o=Z (_,o)from rfl) (aCz _ o)<|dP<|E8 rfl).trans rfl
 refine⟨ac,iS rfl ?_⟩;show VY [Z h,Y,Y,Y,Y,Y,Y,Y,Y,Y,Y] []=_;unfold VY;rw[aU a1,aU a2,aU a3,aU a4,aU a5,aU a6,aU a7,aU a8,aU a9];rfl
end Q70
end
end
open PySem PySem.W PyProof.Rows
set_option maxRecDepth 100000 in
set_option maxHeartbeats 0 in
theorem PySem.Challenge.cw_cutstree_k70_no_lines_holds : PySem.Challenge.rw_cutstree_k70_no_lines.Holds := by
 refine Q70.k_top ?_
 k_fill
 refine L2.law_walk (l:=PySem.Challenge.rw_cutstree_k70_no_lines) (F:=Q70.F_law) (k:=13) (p:="_law_script") (by decide +kernel) rfl rfl ⟨fun _=>rfl,by decide,by decide,rfl⟩ (fun w h a=>PySem.W.kIn_of a) ?T Q70.main (fun _=>by kernel_rfl)
 case T=>
  intro w mg h KX G;refine Q70.fn_law (K:=_) (mg:=mg) ?TT
  refine' Q70.txt_mk KX G ?v0 ?v1 ?v2 ?v3 ?v4 ?v5 ?v6 ?v7 ?v8 ?v9 ?v10 ?v11 ?v12 ?v13 ?v14 ?v15 ?v16 ?v17 ?v18 ?v19 ?v20 ?v21 ?v22 ?v23 ?v24 ?v25 ?v26 ?v27 ?v28 ?v29 ?v30 ?v31 ?v32 ?v33 ?v34 ?v35 ?v36 ?v37 ?v38 ?v39 ?v40 ?v41 ?v42 ?v43 ?v44 ?v45 ?v46 ?v47 ?v48 ?v49 ?v50 ?v51 ?v52 ?v53 ?v54 ?v55 ?v56 ?v57 ?v58 ?v59 ?v60 ?v61 ?v62 ?v63 ?v64 ?v65 ?v66 ?v67 ?v68 ?v69 ?v70 ?v71 ?v72 ?v73 ?v74 ?v75 ?v76 ?v77 ?v78 ?v79 ?v80 ?v81 ?v82 ?v83 ?v84 ?v85 ?v86 ?v87 ?v88 ?v89 ?v90 ?v91 ?v92 ?v93 ?v94 ?v95 ?v96 ?v97 ?v98 ?v99 ?v100 ?v101 ?v102 ?v103 ?v104 ?v105 ?v106 ?v107 ?v108 ?v109 ?v110 ?v111 ?v112 ?v113 ?v114 ?v115 ?v116 ?v117 ?v118 ?v119 ?v120 ?v121 ?v122 ?v123 ?v124 ?v125 ?v126 ?v127 ?v128 ?v129 ?v130 ?v131 ?v132 ?v133 ?v134 ?v135 ?v136 ?v137 ?v138 ?v139 ?v140 ?v141
  (case v0|v1|v2|v3|v4|v5|v6|v7|v8|v9|v10|v11|v12|v13|v14|v15|v16|v17|v18|v19|v20|v21|v22|v23|v25|v26|v27|v28|v29|v30|v31|v32|v34|v35|v36|v37|v38|v44|v48|v49|v53|v54|v55|v56|v57|v58|v62|v63|v64|v66|v67|v68|v69|v74|v76|v77|v78|v79|v81|v83|v84|v85|v86|v89|v93|v94|v95|v96|v97|v98|v99|v100|v103=>k_is)
  (case v24|v33|v39|v40|v41|v42|v43|v45|v46|v47|v50|v51|v52|v59|v60|v61|v65|v70|v71|v72|v73|v75|v80|v82|v87|v88|v90|v91|v92|v101|v102=>kernel_rfl)
  (case v104|v105|v106|v107|v108|v109|v110|v111|v112|v113|v114|v115|v116|v117|v118|v119|v120|v121|v122|v123|v124|v125|v126|v127|v128|v129|v130|v131|v132|v133|v134|v135|v136|v137|v138|v139|v140|v141=>exact L2.def_mk KX G (by k_is) (by k_is) (by k_is) (by k_is))