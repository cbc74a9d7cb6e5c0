import PyProof.Rows.All
import Wide.All
import OpenK.AllK
import Wide.FinOn
import Lean
import PyProof.EqAt
import PyProof.EqKinds
import PyProof.TupleCall
import KE.KSortTup
import KE.KDictSum
import PyProof.Rows.SortStr
import PyProof.AutoSeq1
import PyProof.ZipIter
import PyProof.Rows.FStr
import PyProof.Rows.FStrParts
import PyProof.AttrMissHeap
import KE.KDictOf
import PyProof.StrCalls
import KE.KStrOpen
import KE.KRevIter
import PyProof.WalkInts
import KE.KDictList
import PyProof.Rows.SetFrom
import PyProof.SetRoads
import PyProof.DictCompW
import PyProof.DictItems
import KE.KPairComp
import KE.KEqDict
import PyProof.Rows.Range3
import PyProof.WalksMore
import PyProof.DictWalks
import KE.KMinKey
import PySem.Challenge.RW_restways_k42_whole_runs_by_houses
abbrev C0:=@PySem.wpAny_bind
abbrev D0:=@List.length_map
abbrev F0:=@PySem.Heap.get?_push_of_some
abbrev G0:=@List.getElem?_eq_getElem
abbrev K0:=@PySem.wpAny_pure
abbrev N0:=@if_neg
abbrev O0:=@PySem.Heap.get?_push_size
abbrev P0:=@List.getElem?_map
abbrev Q0:=@List.getElem?_eq_none
abbrev R0:=@Nat.le_refl
abbrev S0:=@PySem.Heap.lt_size
abbrev T0:=@if_pos
abbrev U0:=@of_decide_eq_true
abbrev V0:=@decide_eq_true
abbrev W0:=@List.mem_of_getElem?
abbrev X0:=@List.mem_cons
abbrev Y0:=@List.size_toArray
abbrev Z0:=@List.mem_cons_of_mem
abbrev a0:=@Bool.and_eq_true
abbrev b0:=@decide_eq_false
abbrev o0:=@List.length_append
abbrev C1:=@Nat.ne_of_lt
abbrev D1:=@List.mem_cons_self
abbrev E1:=@Bool.false_ne_true
abbrev F1:=@List.mem_append_right
abbrev J1:=@List.length_cons
abbrev K1:=@Nat.le_trans
abbrev N1:=@List.map_cons
abbrev O1:=@Option.some.inj
abbrev P1:=@Nat.lt_of_lt_of_le
abbrev T1:=@Nat.zero_le
abbrev U1:=@Nat.lt_or_ge
abbrev V1:=@List.mem_map
abbrev W1:=@List.getElem?_eq_some_iff
abbrev X1:=@List.mem_singleton
abbrev Y1:=@PySem.wpAny_newObj_type
abbrev Z1:=@List.length_take
abbrev j1:=@List.not_mem_nil
abbrev y1:=@List.getElem_of_mem
abbrev C2:=@List.all_eq_true
abbrev D2:=@List.nodup_cons
abbrev E2:=@List.map_append
abbrev F2:=@List.mem_filter
abbrev J2:=@List.getElem?_append_right
abbrev K2:=@PySem.F.plainAttrs_list
abbrev N2:=@List.mem_append
abbrev O2:=@PySem.W.mg_none_of
abbrev P2:=@List.getElem?_append_left
abbrev Q2:=@List.take_add_one
abbrev T2:=@congrArg
abbrev U2:=@Bool.false_eq_true
abbrev V2:=@decide_eq_true_iff
abbrev W2:=@Nat.le_of_lt
abbrev X2:=@PySem.wpAny_mono
set_option Elab.async false
set_option linter.all false
set_option maxRecDepth 100000
theorem u3(h:True:=by rfl):True:=h
def v3:Lean.Syntax:=u3._auto_1
theorem u4(h:True:=by decide):True:=h
def v4:Lean.Syntax:=u4._auto_1
theorem w4(h:True:=by intro _;rfl):True:=h
def u5:Lean.Syntax:=w4._auto_1
theorem v5(h:True:=by first|exact .inl rfl|exact .inr rfl|assumption):True:=h
def r6:Lean.Syntax:=v5._auto_1
theorem t6(h:True:=by with_unfolding_all rfl):True:=h
def u6:Lean.Syntax:=t6._auto_1
theorem v6(h:True:=by exact λ_ _=>rfl):True:=h
def w6:Lean.Syntax:=v6._auto_1
local macro_rules | `(())=> `(by lia)
local macro_rules | `(⋯)=> `(by decide)
set_option hygiene false in
local macro_rules
|`(`j2)=>`(by simp)
|`(`Z2)=>`(by decide +kernel)
|`(`Y2)=>`(λcdv A outer s H vs Q E hr h=>?_)
|`(`j3)=>`(⟨rfl,rfl,rfl,`Z2,rfl,`Z2,`Z2⟩)
|`(`Z3)=>`(λz=>nomatch z)
|`(`Y3)=>`(model prog w)
namespace L2
open PySem PySem.Spec PyProof.Rows
variable{α β γ κ:Type}{an od:Option Addr}{x g name qual:Str}{u doc pm cdv oc vl vu acc key ov:Value}{a it l f C sl fa I ga rp dr wl eb rl:Addr}{P:Program}{h':Heap}{pins:List (Addr×Obj)}{s s':Shared}{g':Array GenState}{t' i j c ep c':Nat}{d':Drawn}{M:Model}{E Q:Value->Shared->Prop}{pos pos' px py tpos apos cpos spos p3:Pos}{rest es ifs f1 f2 ifs2 elts:List Expr}{tg iter value elt target t1 i1 t2 i2 tg2 iter2 kx vx:Expr}{lo:Option Int}{tk:Tok}{fp ts wr:List Addr}{body sts:List Stmt}{op op':CmpOp}{its its' ks:List Value}{mA:Str->Option Value}{pl:Sem Bool}{kw:List (Str×Value)}{fd:FuncData}{ps:List (Str×Str)}{scope osc:Scope}{osl:Array (Option Value)}{items:Array Value}{q:Str×Str}{loose N' O ws ms:List Str}{XP:(Str->Option Value)->Heap->Prop}{YP:World->Heap->Prop}{n':Int}{G:Array Nat->Prop}{OK:Heap->Prop}{Y:Prop}{yv xv:Nat->Value}
noncomputable def zab(s:Stmt)(j:Nat):Stmt:=match s with
 | .ClassDef _ _ _ body _ _ _ _ _ _ _=>body.getD j (.Pass ⟨0,0,0,0⟩)
 |_=> .Pass ⟨0,0,0,0⟩
noncomputable def z4(s:Stmt):Arguments:=match s with
 | .FunctionDef _ a _ _ _ _ _ _ _ _=>a
 |_=>{posonlyargs:=[],args:=[],vararg:=none,kwonlyargs:=[],kw_defaults:=[],kwarg:=none,defaults:=[]}
noncomputable def zL(s:Stmt):List Stmt:=match s with
 | .FunctionDef _ _ b _ _ _ _ _ _ _=>b
 |_=> []
noncomputable def ze(s:Stmt):Scope:=match s with
 | .FunctionDef _ _ _ _ _ _ sc _ _ _=>sc
 |_=>{kind:= .function,names:=[],isGenerator:=false,isCoroutine:=false}
section
open PySem.W
noncomputable def zoY(tb:String->Option Builtin)(p:Program)(w:World)(n₀:Nat)(ann:Option Value):Nat->SharedT->Thread->Option SharedT
 |0,_,_=>none
 |n+1,s,t=>match through t with
  |true=>some s
  |false=>match stepOk n₀ ann t with
   |false=>none
   |true=>match stepT (denote tb) p w s t with
    |some (s',t')=>zoY tb p w n₀ ann n s' t'
    |none=>none
theorem zmG{tb:String->Option Builtin}{p:Program}{w:World}{n₀:Nat}{ann:Option Value}:∀{n:Nat} {s s':SharedT} {t:Thread},zoY tb p w n₀ ann n s t=some s'->topRun tb p w n₀ ann n s.abs t=some s'.abs
 |0,_,_,_,h=>by cases h
 |n+1,s,s',t,h=>by
  unfold zoY at h
  unfold topRun
  cases ht:through t with
  |true=>rw[ht] at h;cases h;rfl
  |false=>
   rw[ht] at h
   cases hk:stepOk n₀ ann t with
   |false=>rw[hk] at h;cases h
   |true=>
    rw[hk] at h
    cases hs:stepT (denote tb) p w s t with
    |none=>rw[hs] at h;cases h
    |some r=>obtain ⟨s₂,t₂⟩:=r;rw[hs] at h;rw[stepT_spec hs];exact zmG h
noncomputable def zlD:List Obj->BT->Nat->Option BT
 |[],t,_=>some t
 |o::l,t,n=>match ((t.ins n o).get n).isSome with
  |true=>zlD l (t.ins n o) (n+1)
  |false=>none
theorem zg2{life:Life}:∀{l:List Obj} {t T:BT} {n:Nat},zlD l t n=some T->absHeap T (n+l.length) life=⟨(absHeap t n life).objs ++l.toArray,life⟩
 |[],t,T,n,h=>by cases h;simp[absHeap]
 |o::l,t,T,n,h=>by
  unfold zlD at h
  cases e:((t.ins n o).get n).isSome with
  |false=>rw[e] at h;cases h
  |true=>
   rw[e] at h
   have:=zg2 (life:=life) h
   rw[J1,show n+(l.length+1)=n+1+l.length by lia,this,absHeap_ins e]
   show Heap.mk _ _=Heap.mk _ _
   congr 1
   show(absHeap t n life).objs.push o ++_=_
   apply Array.ext'
   simp
noncomputable def zjy{α:Type}(T:BT):Nat->List Obj->(List Obj->α)->α
 |0,acc,k=>k acc
 |n+1,acc,k=>match T.get n with
  |some o=>zjy T n (o::acc) k
  |none=>zjy T n (default::acc) k
theorem zgl{α:Type}{T:BT}{k:List Obj->α}:∀{n:Nat} {acc:List Obj},zjy T n acc k=k (T.list n ++acc)
 |0,acc=>rfl
 |n+1,acc=>by
  have:T.list (n+1)++acc=T.list n ++((T.get n).getD default::acc):=by
   unfold BT.list
   rw[List.range_succ,E2,List.append_assoc];rfl
  rw[this]
  unfold zjy
  cases e:T.get n with
  |none=>exact zgl
  |some o=>exact zgl
noncomputable def zrQ(g:Shared->α)(s:SharedT):α:=zjy s.tree s.n [] λL=>g ⟨⟨⟨L⟩,s.life⟩,s.gens,s.drawn,s.toks,s.os⟩
theorem zej{g:Shared->α}{s:SharedT}:zrQ g s=g s.abs:=by
 unfold zrQ
 rw[zgl,List.append_nil]
 rfl
noncomputable def look  (p:Program) (w:World) (os:OsState) (m:Nat) (an:Option Value) (N:Nat) (g:Shared->α):Option α:=
 (zlD (boot_heap w.params).objs.toList .nil 0).bind λT=>(zoY treeTable p w m an N ⟨T,m,(boot_heap w.params).life, #[],boot_drawn,boot_toks,os⟩ (topStub p)).map (zrQ g)
theorem look_ends{p:Program}{N m:Nat}{an:Option Value}{g:Shared->α}{w:World}{a:α}
 (op:opening p=plainProg p.main.scope.names) (hN:Nat.ble 600 N=true) (f:∀s,fenceModules? p s=some s)
 (size:((boot_heap w.params).isNs mainGlobals,(boot_heap w.params).objs.size,(boot_heap w.params).nsMap mainGlobals "__annotations__")=(true,m,an))
 (st:∀os,look p w os m an N (λs=>staticsOk (importedModules p.main.body) (boot_heap w.params) s.heap&&namesBound p s.heap&&gensDone s&&laidKept (boot_heap w.params) s.heap)=some true)
 (h:∀os,look p w os m an N g=some a):(openEnds treeTable p w N).map g=some a:=by
 obtain⟨⟨hh,gs,d,k,os⟩,e,e'⟩:=Option.map_eq_some_iff.mp (boot_open op hN f w)
 obtain⟨rfl,rfl,rfl,rfl⟩:hh=boot_heap w.params/\gs=Array.mk []/\d=boot_drawn/\k=boot_toks:=by simpa using e'
 obtain⟨z1,z2,z3⟩:_/\_/\_:=by simpa only[Prod.mk.injEq] using size
 have hs:=st os
 have hl:=h os
 unfold look at hs hl
 obtain⟨T,b,hs⟩:=Option.bind_eq_some_iff.mp hs
 rw[b] at hl
 replace hl:Option.map _ _=_:=hl
 obtain⟨s,r,hs⟩:=Option.map_eq_some_iff.mp hs
 rw[r] at hl
 rw[zej] at hs
 have hl:g s.abs=a:=by simpa[zej] using hl
 have ab:=zg2 (life:=(boot_heap w.params).life) b
 have r:=zmG r
 have l:(boot_heap w.params).objs.toList.length=m:=by rw[Array.length_toList,z2]
 have ea:SharedT.abs ⟨T,m,(boot_heap w.params).life, #[],boot_drawn,boot_toks,os⟩=⟨boot_heap w.params, #[],boot_drawn,boot_toks,os⟩:=by
  unfold SharedT.abs
  dsimp only
  rw[Nat.zero_add,l] at ab
  rw[ab]
  have:(absHeap .nil 0 (boot_heap w.params).life).objs ++(boot_heap w.params).objs.toList.toArray=(boot_heap w.params).objs:=by
   apply Array.ext'
   simp[absHeap,BT.list]
  rw[this]
 rw[ea] at r
 have t:topFrom treeTable p w N ⟨boot_heap w.params,Array.mk [],boot_drawn,boot_toks,os⟩=some s.abs:=by
  unfold topFrom
  dsimp only
  rw[z1,z2,z3,r]
  show(match staticsOk (importedModules p.main.body) (boot_heap w.params) s.abs.heap&&namesBound p s.abs.heap&&gensDone s.abs&&laidKept (boot_heap w.params) s.abs.heap with|true=>_|false=>_)=_
  rw[hs]
 unfold openEnds
 rw[e]
 show(topFrom treeTable p w N _).map _=_
 rw[t]
 exact T2 some hl
theorem vw_sz(w:World):((boot_heap w.params).isNs mainGlobals,(boot_heap w.params).objs.size,(boot_heap w.params).nsMap mainGlobals "__annotations__")=(true,11,some (.ref 6)):=by kernel_rfl
theorem map_two{o:Option α}{f:α->β}{g:α->γ}{a:β}{b:γ}(h:o.map f=some a)(k:o.map g=some b):o.map (λs=>(f s,g s))=some (a,b):=by
 cases o with
 |none=>cases h
 |some x=>cases h;cases k;rfl
theorem look_pair{p:Program}{w:World}{os:OsState}{m N:Nat}{an:Option Value}{g:Shared->α}{g':Shared->β}{a:α}{b:β}(h:look p w os m an N (λs=>(g s,g' s))=some (a,b)):look p w os m an N g=some a/\look p w os m an N g'=some b:=by
 unfold look at h⊢
 obtain⟨T,e,h⟩:=Option.bind_eq_some_iff.mp h
 rw[e]
 show(Option.map _ _=_)/\(Option.map _ _=_)
 obtain⟨s,r,h⟩:=Option.map_eq_some_iff.mp h
 rw[r]
 rw[zej] at h
 cases h
 exact⟨T2 some zej,T2 some zej⟩
end
set_option genInjectivity false in
set_option genSizeOfSpec false in
set_option genSizeOf false in
structure Er(K:W.Frag)(x:Str)(st:Stmt):Type where
 {f9:Addr} {oc9:Value} {od9 an9:Option Addr} {sl9:Array (Option Value)} {kV9 dc9 pm9 cd9 ct9:Value}
 a9:W.nsIn K mainGlobals x=some (some (.ref f9))
 l9:K.lookup f9=some ⟨oc9,od9, .func (W.fnOf x x (z4 st) (zL st) (ze st) .none kV9 dc9 pm9 an9 cd9 ct9),sl9⟩
 c9:W.codeIn K cd9 x=true
 k9:W.keepIn K (.ref f9)=true
set_option genInjectivity false in
set_option genSizeOfSpec false in
set_option genSizeOf false in
structure ErD(K:W.Frag)(x:Str)(st:Stmt):Type where
 {f9:Addr} {oc9:Value} {od9 an9:Option Addr} {sl9:Array (Option Value)} {kV9 dc9 pm9 cd9 ct9:Value} {dt9:Addr} {odd9:Option Addr} {nd9:Nat} {sld9:Array (Option Value)}
 a9:W.nsIn K mainGlobals x=some (some (.ref f9))
 l9:K.lookup f9=some ⟨oc9,od9, .func (W.fnOf x x (z4 st) (zL st) (ze st) (.ref dt9) kV9 dc9 pm9 an9 cd9 ct9),sl9⟩
 c9:W.codeIn K cd9 x=true
 k9:W.keepIn K (.ref f9)=true
 d9:K.lookup dt9=some ⟨.type "tuple",odd9, .seq #[.none] nd9,sld9⟩
set_option genInjectivity false in
set_option genSizeOfSpec false in
set_option genSizeOf false in
structure Em(K:W.Frag)(C:Addr)(x q:Str)(st:Stmt):Type where
 {f9:Addr} {oc9:Value} {od9 an9:Option Addr} {sl9:Array (Option Value)} {kV9 dc9 pm9 cd9 ct9:Value}
 a9:W.findIn K (.ref C) x=some (some (.ref f9))
 i9:W.isFn K (.ref f9)=true
 l9:K.lookup f9=some ⟨oc9,od9, .func (W.fnOf x q (z4 st) (zL st) (ze st) .none kV9 dc9 pm9 an9 cd9 ct9),sl9⟩
 c9:W.codeIn K cd9 q=true
 k9:W.keepIn K (.ref f9)=true
set_option genInjectivity false in
set_option genSizeOfSpec false in
set_option genSizeOf false in
structure Ec(K:W.Frag)(x:Str)(C:Addr):Prop where
 a9:W.nsIn K mainGlobals x=some (some (.ref C))
 pg9:W.plainGet K C Str.empty=true
 hd9:W.hasDictIn K C=true
 po9:W.plainOver K C=true
 sa9:W.findIn K (.ref C) "__setattr__"=some (some (.builtin "object.__setattr__"))
 ms9:W.makesIn K C=true
 kc9:W.keepIn K (.ref C)=true
set_option genInjectivity false in
set_option genSizeOfSpec false in
set_option genSizeOf false in
structure En(K:W.Frag)(x:Str):Type where
 {f9 e9:Addr} {od9 oe9:Option Addr} {sl9 se9:Array (Option Value)} {n9 ne9:Nat} {tk9:Tok}
 a9:W.nsIn K mainGlobals x=some (some (.ref f9))
 l9:K.lookup f9=some ⟨.type "tuple",od9, .seq #[.int 0 tk9, .none, .ref e9] n9,sl9⟩
 d9:K.lookup e9=some ⟨.type "tuple",oe9, .seq #[] ne9,se9⟩
set_option genInjectivity false in
set_option genSizeOfSpec false in
set_option genSizeOf false in
structure Ei(K:W.Frag)(x:Str)(v:Int):Type where
 {tk9:Tok}
 a9:W.nsIn K mainGlobals x=some (some (.int v tk9))
set_option maxHeartbeats 4000000
theorem hidZ{G:Prop}(k:∀γ:Prop,(G->γ)->γ):G:=k G id
local macro_rules | `(tactic|obtain $p:rcasesPatMed:= $e:term)=>do
 if ((p.raw.reprint.getD "").splitOn ",").length≥3 then `(tactic|first|(refine hidZ λγ hγ=>?_;rcases $e:term with $p<;>(refine hγ ?_;clear hγ γ))|rcases $e:term with $p)else `(tactic|rcases $e:term with $p)
noncomputable def top(i:Nat):Stmt:=Challenge.pw_restways_k42_whole_runs_by_houses.main.body.getD i (.Pass ⟨0,0,0,0⟩)
noncomputable abbrev zdB:Stmt:=top 2
noncomputable abbrev zd2:Stmt:=top 3
noncomputable abbrev zhL:Stmt:=top 5
noncomputable abbrev zdY:Stmt:=top 6
noncomputable abbrev zcP:Stmt:=top 8
noncomputable abbrev zd6:Stmt:=top 9
noncomputable abbrev zgf:Stmt:=top 10
noncomputable abbrev zaM:Stmt:=top 15
noncomputable abbrev zgG:Stmt:=top 16
noncomputable abbrev zhE:Stmt:=top 18
noncomputable abbrev zcM:Stmt:=top 19
noncomputable abbrev zbC:Stmt:=top 20
noncomputable abbrev za4:Stmt:=zab (top 23) 0
noncomputable abbrev zdh:Stmt:=zab (top 23) 1
noncomputable abbrev zcj:Stmt:=zab (top 23) 3
noncomputable abbrev zcl:Stmt:=zab (top 23) 4
noncomputable abbrev zcT:Stmt:=zab (top 23) 5
noncomputable abbrev zb1:Stmt:=zab (top 23) 6
noncomputable abbrev zaJ:Stmt:=zab (top 23) 7
noncomputable abbrev zcm:Stmt:=zab (top 23) 8
noncomputable abbrev zck:Stmt:=zab (top 23) 9
noncomputable abbrev zbt:Stmt:=zab (top 23) 10
noncomputable abbrev zd1:Stmt:=top 25
noncomputable abbrev zaU:Stmt:=zab (top 27) 0
noncomputable abbrev zd8:Stmt:=zab (top 27) 1
noncomputable abbrev zbO:Stmt:=zab (top 27) 2
noncomputable abbrev zbp:Stmt:=zab (top 27) 5
noncomputable abbrev zd5:Stmt:=zab (top 27) 6
noncomputable abbrev zd9:Stmt:=zab (top 27) 7
noncomputable abbrev zaN:Stmt:=zab (top 27) 9
noncomputable abbrev zdu:Stmt:=top 29
noncomputable abbrev zdV:Stmt:=top 30
noncomputable abbrev zc9:Stmt:=top 31
noncomputable abbrev zdr:Stmt:=top 32
noncomputable abbrev zbw:Stmt:=top 33
noncomputable abbrev zdy:Stmt:=top 34
noncomputable abbrev zbG:Stmt:=top 35
noncomputable abbrev zbT:Stmt:=top 36
noncomputable abbrev zc0:Stmt:=top 37
noncomputable abbrev zda:Stmt:=top 38
noncomputable abbrev zbh:Stmt:=top 39
noncomputable abbrev zcn:Stmt:=top 40
noncomputable abbrev zaW:Stmt:=top 41
noncomputable abbrev zjh:Stmt:=top 42
noncomputable def vw:Program:={Challenge.pw_restways_k42_whole_runs_by_houses with main:={Challenge.pw_restways_k42_whole_runs_by_houses.main with body:=([0,2,3,8,9,10,12,13,15,16,18,19,20,22,23,25,27,29,30,31,32,33,34,35,36,37,38,39,40,41,42]:List Nat).filterMap λi=>Challenge.pw_restways_k42_whole_runs_by_houses.main.body[i]?}}
set_option maxHeartbeats 0 in
theorem zoa(w:World)(os:OsState):look Challenge.pw_restways_k42_whole_runs_by_houses w os 11 (some (.ref 6)) 5212 (λs=>(W.staticsOk (PySem.importedModules Challenge.pw_restways_k42_whole_runs_by_houses.main.body) (W.boot_heap w.params) s.heap&&W.namesBound Challenge.pw_restways_k42_whole_runs_by_houses s.heap&&W.gensDone s&&W.laidKept (W.boot_heap w.params) s.heap,(λs=>W.openSeen vw [(Str.ofString "holds"),(Str.ofString "all_hold")] (PySem.importedModules Challenge.pw_restways_k42_whole_runs_by_houses.main.body) (λz=>W.xlAt vw [] z&&W.recOk [] z) true s) s))=some (true,W.openGood vw [(Str.ofString "holds"),(Str.ofString "all_hold")]):=by kernel_rfl
theorem zsg:W.opening Challenge.pw_restways_k42_whole_runs_by_houses=W.plainProg Challenge.pw_restways_k42_whole_runs_by_houses.main.scope.names:=by kernel_rfl
theorem zst(s:Shared):fenceModules? Challenge.pw_restways_k42_whole_runs_by_houses s=some s:=by kernel_rfl
theorem vw_any{g:Shared->α}{w:World}{a:α}(h:∀os,look Challenge.pw_restways_k42_whole_runs_by_houses w os 11 (some (.ref 6)) 5212 g=some a):(W.openEnds treeTable Challenge.pw_restways_k42_whole_runs_by_houses w 5212).map g=some a:=look_ends zsg ⋯ zst (vw_sz w) (λos=>(look_pair (zoa w os)).1) h
theorem vw_one(w:World):(W.openEnds treeTable Challenge.pw_restways_k42_whole_runs_by_houses w 5212).map (λs=>W.openSeen vw [(Str.ofString "holds"),(Str.ofString "all_hold")] (PySem.importedModules Challenge.pw_restways_k42_whole_runs_by_houses.main.body) (λz=>W.xlAt vw [] z&&W.recOk [] z) true s)=some (W.openGood vw [(Str.ofString "holds"),(Str.ofString "all_hold")]):=vw_any λos=>(look_pair (zoa w os)).2
set_option maxHeartbeats 0 in
theorem vw_ws:W.OpenLaw.wellSaid Challenge.rw_restways_k42_whole_runs_by_houses=true:=by
 unfold W.OpenLaw.wellSaid W.OpenRow.wellSaid W.OpenRow.partSaid W.looksOpen
 repeat' with_reducible refine W.look_both ?_ ?_
 all_goals decide +kernel
set_option genInjectivity false in
set_option genSizeOfSpec false in
set_option genSizeOf false in
structure Fk(K:W.Frag):Type where
 C_House:Addr
 c_House:Ec K "House" C_House
 n_House_place:W.findIn K (.ref C_House) "place"=some none
 n_House_name:W.findIn K (.ref C_House) "name"=some none
 n_House_hearings:W.findIn K (.ref C_House) "hearings"=some none
 n_House_tellings:W.findIn K (.ref C_House) "tellings"=some none
 n_House_going:W.findIn K (.ref C_House) "going"=some none
 n_House_times:W.findIn K (.ref C_House) "times"=some none
 C_Run:Addr
 c_Run:Ec K "Run" C_Run
 n_Run_place:W.findIn K (.ref C_Run) "place"=some none
 n_Run_people:W.findIn K (.ref C_Run) "people"=some none
 n_Run_waiting:W.findIn K (.ref C_Run) "waiting"=some none
 is_number:Er K "is_number" zdB
 is_whole:Er K "is_whole" zd2
 holds:ErD K "holds" zhL
 all_hold:ErD K "all_hold" zdY
 likings_of:Er K "likings_of" zcP
 hands_of:Er K "hands_of" zd6
 tied:Er K "tied" zgf
 marks_behind:Er K "marks_behind" zaM
 handed:Er K "handed" zgG
 worth:Er K "worth" zhE
 liking_key:Er K "liking_key" zcM
 most_liked:Er K "most_liked" zbC
 House___init__:Em K C_House "__init__" "House.__init__" za4
 House_way:Em K C_House "way" "House.way" zdh
 House_heard:Em K C_House "heard" "House.heard" zcj
 House_begin:Em K C_House "begin" "House.begin" zcl
 House_hear:Em K C_House "hear" "House.hear" zcT
 House_choose:Em K C_House "choose" "House.choose" zb1
 House_open_ways:Em K C_House "open_ways" "House.open_ways" zaJ
 House_go_by:Em K C_House "go_by" "House.go_by" zcm
 House_offer:Em K C_House "offer" "House.offer" zck
 House_letters:Em K C_House "letters" "House.letters" zbt
 at_place:Er K "at_place" zd1
 Run___init__:Em K C_Run "__init__" "Run.__init__" zaU
 Run_road:Em K C_Run "road" "Run.road" zd8
 Run_choice:Em K C_Run "choice" "Run.choice" zbO
 Run_was_heard:Em K C_Run "was_heard" "Run.was_heard" zbp
 Run_come:Em K C_Run "come" "Run.come" zd5
 Run_copy:Em K C_Run "copy" "Run.copy" zd9
 Run_is_still:Em K C_Run "is_still" "Run.is_still" zaN
 _law_hand:Er K "_law_hand" zdu
 _law_all:Er K "_law_all" zdV
 _law_take:Er K "_law_take" zc9
 _law_pick:Er K "_law_pick" zdr
 _law_names:Er K "_law_names" zbw
 _law_cond:Er K "_law_cond" zdy
 _law_conds:Er K "_law_conds" zbG
 _law_likings:Er K "_law_likings" zbT
 _law_hands:Er K "_law_hands" zc0
 _law_ties:Er K "_law_ties" zda
 _law_town:Er K "_law_town" zbh
 _law_is_new:Er K "_law_is_new" zcn
 _law_is_so:Er K "_law_is_so" zaW
 law:Er K "law" zjh
 NOTHING:En K "NOTHING"
 z_all:W.nsIn K mainGlobals "all"=some none
 z_bool:W.nsIn K mainGlobals "bool"=some none
 z_dict:W.nsIn K mainGlobals "dict"=some none
 z_int:W.nsIn K mainGlobals "int"=some none
 z_isinstance:W.nsIn K mainGlobals "isinstance"=some none
 z_len:W.nsIn K mainGlobals "len"=some none
 z_list:W.nsIn K mainGlobals "list"=some none
 z_max:W.nsIn K mainGlobals "max"=some none
 z_min:W.nsIn K mainGlobals "min"=some none
 z_range:W.nsIn K mainGlobals "range"=some none
 z_sorted:W.nsIn K mainGlobals "sorted"=some none
 z_str:W.nsIn K mainGlobals "str"=some none
 z_tuple:W.nsIn K mainGlobals "tuple"=some none
section
open PySem PySem.W PyProof.Rows
local macro_rules | `(tactic|o_head $H)=> `(tactic|(
 refine holds_open (N:=5212) (q:=vw) (loose:=[(Str.ofString "holds"),(Str.ofString "all_hold")]) (YP:=Hook.says $H) (Ya:=Hook.val $H) (Yf:=Hook.obs $H) (XP:=XL vw [])
  (Xt:=λz=>xlAt vw [] z&&recOk [] z) (λw=>map_two (vw_one w) (vw_any (λos=>by kernel_rfl))) (Hook.of $H) (Hook.keeps $H) (λz e=>xl_of z (Bool.and_eq_true_iff.mp e).1) XL.keeps
  (by rfl) (by rfl) (by rfl) (λz e=>recFacts_of (Bool.and_eq_true_iff.mp e).2) (by rfl) (by first|assumption|decide +kernel) `Z2
  ⟨rfl,rfl,rfl,rfl,rfl,`Z2⟩ ?hw ?hc))
set_option maxRecDepth 100000 in
set_option maxHeartbeats 0 in
theorem topE(HW:∀(q:PySem.Program) (loose:List PySem.Str) (XP:(PySem.Str->Option PySem.Value)->PySem.Heap->Prop) (YP:PySem.World->PySem.Heap->Prop) (d:DefRec) (K:PySem.Params->W.Frag),d.params.defaults=[]->d.name="law"->(∀w h,YP w h->(K w.params).In h)->(∀w:PySem.World,Fk (K w.params))->W.WalkO q loose XP YP Challenge.rw_restways_k42_whole_runs_by_houses.row.toRowW d [] (λf vs=>PySem.call f vs)):Challenge.rw_restways_k42_whole_runs_by_houses.Holds:=by
 w_on;refine W.holds_law vw_ws λsaid=>?_;k_head;(case hw=>w_witness2)
 k_fill
 refine HW _ _ _ _ _ _ rfl rfl (λw h Y=>W.kIn_of Y) ?F
 case F=>
  intro w
  refine' Fk.mk _ ?c_House ?_ ?_ ?_ ?_ ?_ ?_ _ ?c_Run ?_ ?_ ?_ ?_ ?_ ?_ ?_ ?_ ?_ ?_ ?_ ?_ ?_ ?_ ?_ ?_ ?_ ?_ ?_ ?_ ?_ ?_ ?_ ?_ ?_ ?_ ?_ ?_ ?_ ?_ ?_ ?_ ?_ ?_ ?_ ?_ ?_ ?_ ?_ ?_ ?_ ?_ ?_ ?_ ?_ ?_ ?_ ?_ ?_ ?_ ?_ ?_ ?_ ?_ ?_ ?_ ?_ ?_ ?_ ?_ ?_
  (case c_House=>
    refine' Ec.mk ?a ?pg ?hd ?po ?sa ?ms ?kc
    (case a=>k_is)
    (case pg=>k_is)
    (case hd=>k_is)
    (case po=>k_is)
    (case sa=>k_is)
    (case ms=>k_is)
    (case kc=>k_is))
  (case c_Run=>
    refine' Ec.mk ?a ?pg ?hd ?po ?sa ?ms ?kc
    (case a=>k_is)
    (case pg=>k_is)
    (case hd=>k_is)
    (case po=>k_is)
    (case sa=>k_is)
    (case ms=>k_is)
    (case kc=>k_is))
  all_goals first
   |k_is
   |(refine' Er.mk ?a ?l ?c ?k
     (case a=>k_is)
     (case l=>k_is)
     (case c=>k_is)
     (case k=>k_is))
   |(refine' Em.mk ?a ?i ?l ?c ?k
     (case a=>k_is)
     (case i=>k_is)
     (case l=>k_is)
     (case c=>k_is)
     (case k=>k_is))
   |(refine' ErD.mk ?a ?l ?c ?k ?d
     (case a=>k_is)
     (case l=>k_is)
     (case c=>k_is)
     (case k=>k_is)
     (case d=>k_is))
   |(refine' En.mk ?a ?l ?d
     (case a=>k_is)
     (case l=>k_is)
     (case d=>k_is))
end
noncomputable abbrev Key:=Sum Int Str
noncomputable def zf9:Key->Value->Bool
 | .inl k,v=>Value.isInt k v
 | .inr x,v=>Value.isStrOf x v
noncomputable def zsD(w:World):Key->Int
 | .inl k=>hashInt k
 | .inr x=>hashStr w x
theorem zV:∀{k:Key} {v:Value},zf9 k v=true->(∃i t,k=Sum.inl i/\v=Value.int i t)\/(∃x t,k=Sum.inr x/\v=Value.str x t)
 | .inl i,v,h=>by
   obtain⟨t,e⟩:=Value.isInt_shape (k:=i) (v:=v) h
   exact .inl ⟨i,t,rfl,e⟩
 | .inr x,v,h=>by
   obtain⟨t,e⟩:=Value.isStrOf_shape (x:=x) (v:=v) h
   exact .inr ⟨x,t,rfl,e⟩
theorem zmn(i:Int)(t:Tok):zf9 (.inl i) (.int i t)=true:=by simp[zf9,Value.isInt]
theorem zmo(x:Str)(t:Tok):zf9 (.inr x) (.str x t)=true:=by simp[zf9,Value.isStrOf]
theorem zqM(a b:Int):decide ((Sum.inl a:Key)=Sum.inl b)=(a==b):=by
 by_cases e:a=b
 ·subst e;simp
 ·have h:¬(Sum.inl a:Key)=Sum.inl b:=λq=>e (Sum.inl.inj q)
  rw[b0 h]
  exact(beq_eq_false_iff_ne.mpr e).symm
theorem zrb(a b:Str):decide ((Sum.inr a:Key)=Sum.inr b)=decide (a=b):=by
 by_cases e:a=b
 ·subst e;simp
 ·have h:¬(Sum.inr a:Key)=Sum.inr b:=λq=>e (Sum.inr.inj q)
  rw[b0 h,b0 e]
theorem zrg(a:Int)(b:Str):decide ((Sum.inl a:Key)=Sum.inr b)=false:=b0 (λq=>nomatch q)
theorem zru(a:Str)(b:Int):decide ((Sum.inr a:Key)=Sum.inl b)=false:=b0 (λq=>nomatch q)
noncomputable def zM(prog:Program)(w:World):PySem.KeyKind prog w Key where
 is:=zf9
 hash:=zsD w
 inj:=λv a b ha hb=>by
  rcases zV ha with⟨i,t,rfl,rfl⟩|⟨x,t,rfl,rfl⟩
  ·rcases zV hb with⟨j,u,rfl,e⟩|⟨y,u,rfl,e⟩
   ·injection e with e1 _;rw[e1]
   ·exact nomatch e
  ·rcases zV hb with⟨j,u,rfl,e⟩|⟨y,u,rfl,e⟩
   ·exact nomatch e
   ·injection e with e1 _;rw[e1]
 byValue:=λk v h=>by
   rcases zV h with⟨i,t,rfl,rfl⟩|⟨x,t,rfl,rfl⟩<;>rfl
 pyHash:=λhv h=>by
  rcases zV hv with⟨i,t,rfl,rfl⟩|⟨x,t,rfl,rfl⟩
  ·exact wpAny_pyHash_int h
  ·exact wpAny_pyHash_str h
 eqBool:=λhu hv h=>by
  rcases zV hu with⟨i,t,rfl,rfl⟩|⟨x,t,rfl,rfl⟩
  ·rcases zV hv with⟨j,u,rfl,rfl⟩|⟨y,u,rfl,rfl⟩
   ·rw[zqM] at h;exact wpAny_eqBool_int h
   ·rw[zrg] at h;exact SeqAt.EqAt.int_str i t y u _ _ _ _ h
  ·rcases zV hv with⟨j,u,rfl,rfl⟩|⟨y,u,rfl,rfl⟩
   ·rw[zru] at h;exact SeqAt.EqAt.str_int x t j u _ _ _ _ h
   ·rw[zrb] at h;exact wpAny_eqBool_str h
 «strs»:=λk x t v h=>by
  rcases zV h with⟨i,u,rfl,e⟩|⟨y,u,rfl,e⟩
  ·exact nomatch e
  ·injection e with e1 _
   subst e1
   cases v<;>rfl
theorem ziC(prog:Program)(w:World)(i:Int)(t:Tok):(zM prog w).is (.inl i) (.int i t)=true:=zmn i t
theorem zfk(prog:Program)(w:World)(x:Str)(t:Tok):(zM prog w).is (.inr x) (.str x t)=true:=zmo x t
inductive V where
 |non|bl (b:Bool)|int (i:Int)|str (x:Str)|byt (b:Array UInt8)|flt (b:UInt64)|ref (a:Addr)|ty (n:String)
 deriving DecidableEq
variable{xs us ys vs dvs us' us2:List V}{v y:V}{kvs kvs' kh:List (Key×V)}
def RelV:V->Value->Prop
 | .non,u=>u=Value.none
 | .bl b,u=>u=Value.bool b
 | .int i,u=>∃t,u=Value.int i t
 | .str x,u=>∃t,u=Value.str x t
 | .byt b,u=>∃t,u=Value.bytes b t
 | .flt b,u=>∃t,u=Value.float b t
 | .ref a,u=>u=Value.ref a
 | .ty n,u=>u=Value.type n
abbrev Vals:List V->List Value->Prop:=Paired RelV
theorem Vals.length{us:List Value}(r:Vals xs us):xs.length=us.length:=Paired.length r
theorem Vals.get:∀{xs:List V} {us:List Value} {i:Nat} {x:V},Vals xs us->xs[i]?=some x->∃u,us[i]?=some u/\RelV x u
 |_,_,_,_, .nil,e=>by simp at e
 |_,_,0,_, .cons r _,e=>by simp at e;subst e;exact⟨_,rfl,r⟩
 |_,_,i+1,x, .cons _ t,e=>by
  obtain⟨u,h1,h2⟩:=Vals.get (i:=i) (x:=x) t (by simpa using e)
  exact⟨u,by simpa using h1,h2⟩
theorem Vals.set{x:V}(r:RelV x u):∀{xs:List V} {us:List Value} (i:Nat),Vals xs us->Vals (xs.set i x) (us.set i u)
 |_,_,_, .nil=> .nil
 |_,_,0, .cons _ t=> .cons r t
 |_,_,i+1, .cons q t=> .cons q (Vals.set r i t)
theorem Vals.append:∀{xs ys:List V} {us ws:List Value},Vals xs us->Vals ys ws->Vals (xs ++ys) (us ++ws)
 |_,_,_,_, .nil,s=>s
 |_,_,_,_, .cons r t,s=> .cons r (Vals.append t s)
theorem Vals.take:∀{xs:List V} {us:List Value} (n:Nat),Vals xs us->Vals (xs.take n) (us.take n)
 |_,_,0,_=> .nil
 |_,_,_+1, .nil=> .nil
 |_,_,n+1, .cons r t=> .cons r (Vals.take n t)
theorem Vals.drop:∀{xs:List V} {us:List Value} (n:Nat),Vals xs us->Vals (xs.drop n) (us.drop n)
 |_,_,0,r=>r
 |_,_,_+1, .nil=> .nil
 |_,_,n+1, .cons _ t=>Vals.drop n t
def RelO:Option V->Option Value->Prop
 |some v,some u=>RelV v u
 |none,none=>True
 |_,_=>False
def KV:List (κ×V)->List (κ×Value)->Prop:=Paired λ(p:κ×V) (q:κ×Value)=>p.1=q.1/\RelV p.2 q.2
noncomputable def kV:Key->V
 | .inl i=> .int i
 | .inr x=> .str x
inductive HO where
 |lst (xs:List V)
 |tup (xs:List V)
 |dK (kvs:List (Key×V))|dT (kvs:List (List Key×V))
 |set (S:Int->Bool) (n:Nat)
 |ins (C dx:Addr) (fs:List (Str×V))
 |own (x:Addr)
 |xd (fs:List (Str×V))
 |met (f x:Addr)
 |rng (lo hi:Int)
 |frz (o:Obj) (u:HO)
 |tbl (ps:Array Value)
 |ext (φ:Heap->Prop)
variable{o':HO}
noncomputable abbrev Hp:=Addr->Option HO
variable{H H' H1 H2 H3:Hp}
noncomputable def upd(H:Hp)(a:Addr)(o:HO):Hp:=λb=>if b=a then some o else H b
theorem zb{o:HO}:upd H a o a=some o:=by unfold upd;rw[T0 rfl]
theorem zc{b:Addr}{o:HO}(h:b≠a):upd H a o b=H b:=by unfold upd;rw[N0 h]
theorem zlm{o u:HO}:upd (upd H a o) a u=upd H a u:=by
 funext b;unfold upd;split<;>rfl
theorem zr{b:Addr}{o u:HO}(h:H a=some o)(h':H b=some u)(d:o≠u):a≠b:=by
 intro e;subst e;rw[h] at h';exact d (O1 h')
theorem zh{b:Addr}{o:HO}(h:H a=some o)(h':H b=none):a≠b:=by
 intro e;subst e;rw[h] at h';cases h'
section
variable(P:Program)(w:World)
def NoDict(h:Heap)(a:Addr):Prop:=∀o,h.get? a=some o->o.dict=none
theorem NoDict.new{h:Heap}{o:Obj}(e:o.dict=none)(f:(h.push o).get? h.objs.size=some o):NoDict (h.push o) h.objs.size:=λo' z=>by rw[f] at z;cases z;exact e
def ObjOk(H:Hp)(h:Heap)(a:Addr):HO->Prop
 | .lst xs=>xs.length<=sizeLine/\∃(its:List Value) (n:Nat),Vals xs its/\h.get? a=some {cls:= .type "list",data:= .seq its.toArray n}
 | .tup xs=>xs.length<=sizeLine/\∃its:List Value,Vals xs its/\IsTup h a its.toArray/\NoDict h a
 | .dK kvs=>kvs.length<=sizeLine/\(a==sysModules)=false/\∃vs,KV kvs vs/\h.DictOf (zM P w) a vs
 | .dT kvs=>kvs.length<=sizeLine/\(a==sysModules)=false/\∃xs:List (List Key×Addr×Value),
    Paired (λ(p:List Key×V) (q:List Key×Addr×Value)=>p.1=q.1/\H q.2.1=some (.tup (p.1.map kV))/\RelV p.2 q.2.2) kvs xs/\
    ∃o es ep,h.get? a=some o/\o.ExactDict/\o.data= .dict es ep/\es.toList=xs.map (entryOfKey (tupleKind (zM P w)))/\(xs.map (·.1)).Nodup
 | .set S n=>h.SetOf (intKind P w) a S n
 | .ins C dx fs=>H dx=some (.own a)/\fs.length<=1000/\dx≠a/\h.get? a=some (W.instObj C dx)/\
    ∃mA,h.Ns1 dx mA/\(∀f,RelO (fs.lookup f) (mA f))/\PySem.Within mA (fs.map (·.1))
 | .own _=>∃o,h.get? a=some o
 | .xd fs=>∃mA,h.Ns1 a mA/\∀f,RelO (fs.lookup f) (mA f)
 | .rng lo hi=>∃t u v,h.get? a=some {cls:= .type "range",data:= .fields #[.int lo t, .int hi u, .int 1 v]}
 | .frz o u=>h.get? a=some o/\ObjOk H h a u
 | .tbl ps=>h.get? a=some {cls:= .none,data:= .fields ps}
 | .met f x=>h.get? a=some (W.methodObj (.ref f) (.ref x))
 | .ext φ=>φ h/\(∃o,h.get? a=some o)/\∀h1 h2:Heap,φ h1->(∀o,h1.get? a=some o->h2.get? a=some o)->φ h2
def HOk(H:Hp)(h:Heap):Prop:=∀a o,H a=some o->ObjOk P w H h a o
end
section
variable{w:World}{h:Heap}{o:HO}
theorem ObjOk.lt(x:ObjOk P w H h a o):a<h.objs.size:=by
 cases o with
 |lst xs=>obtain ⟨_,_,_,_,e⟩:=x;exact S0 e
 |tup xs=>obtain ⟨_,_,_,p,_⟩:=x;exact p.lt
 |dK kvs=>obtain ⟨_,_,_,_,o,_,_,e,_⟩:=x;exact S0 e
 |dT kvs=>obtain ⟨_,_,_,_,o,_,_,e,_⟩:=x;exact S0 e
 |set S n=>obtain ⟨o,_,_,_,e,_⟩:=x;exact S0 e
 |ins C dx fs=>obtain ⟨_,_,_,e,_⟩:=x;exact S0 e
 |own y=>obtain ⟨_,e⟩:=x;exact S0 e
 |xd fs=>obtain ⟨_,⟨_,_,_,e,_⟩,_⟩:=x;exact S0 e
 |rng lo hi=>obtain ⟨_,_,_,e⟩:=x;exact S0 e
 |frz ob u=>obtain ⟨e,_⟩:=x;exact S0 e
 |tbl ps=>exact S0 (show h.get? a=some _ from x)
 |met f y=>exact S0 (show h.get? a=some _ from x)
 |ext φ=>obtain ⟨_,⟨_,e⟩,_⟩:=x;exact S0 e
theorem Paired.mapP{F G:α->β->Prop}:∀{l₁:List α} {l₂:List β},Paired F l₁ l₂->(∀a b,F a b->G a b)->Paired G l₁ l₂
 |_,_, .nil,_=> .nil
 |_,_, .cons r t,f=> .cons (f _ _ r) (Paired.mapP t f)
theorem ObjOk.stay(x:ObjOk P w H h a o)(k:∀b u,(b=a\/H b=some (.own a))->h.get? b=some u->h'.get? b=some u)
 (ho:∀b,H b=some (.own a)->H' b=some (.own a)) (ht:∀b xs,H b=some (.tup xs)->H' b=some (.tup xs)):ObjOk P w H' h' a o:=by
 induction o with
 |lst xs=>obtain ⟨z,its,n,r,e⟩:=x;exact⟨z,its,n,r,k _ _ (.inl rfl) e⟩
 |tup xs=>obtain ⟨z,its,r,⟨ob,e,c⟩,nd⟩:=x;exact⟨z,its,r,⟨ob,k _ _ (.inl rfl) e,c⟩,λo q=>by rw[k _ _ (.inl rfl) e] at q;cases q;exact nd _ e⟩
 |dK kvs=>obtain ⟨z,y,vs,r,ob,es,ep,e,c⟩:=x;exact⟨z,y,vs,r,ob,es,ep,k _ _ (.inl rfl) e,c⟩
 |dT kvs=>
  obtain⟨z,y,xs,r,ob,es,ep,e,c⟩:=x
  exact⟨z,y,xs,Paired.mapP r λp q z=>⟨z.1,ht _ _ z.2.1,z.2.2⟩,ob,es,ep,k _ _ (.inl rfl) e,c⟩
 |set S n=>obtain ⟨ob,es,ep,t,e,c⟩:=x;exact⟨ob,es,ep,t,k _ _ (.inl rfl) e,c⟩
 |ins C dx fs=>
  obtain⟨d,z,ne,e,mA,⟨od,es,ep,e2,c⟩,r⟩:=x
  exact⟨ho _ d,z,ne,k _ _ (.inl rfl) e,mA,⟨od,es,ep,k _ _ (.inr d) e2,c⟩,r⟩
 |own y=>obtain ⟨ob,e⟩:=x;exact⟨ob,k _ _ (.inl rfl) e⟩
 |xd fs=>obtain ⟨mA,⟨od,es,ep,e,c⟩,r⟩:=x;exact⟨mA,⟨od,es,ep,k _ _ (.inl rfl) e,c⟩,r⟩
 |rng lo hi=>obtain ⟨t,u,v,e⟩:=x;exact⟨t,u,v,k _ _ (.inl rfl) e⟩
 |frz ob u ih=>obtain ⟨e,q⟩:=x;exact⟨k _ _ (.inl rfl) e,ih q⟩
 |tbl ps=>
  have e:h.get? a=some {cls:= .none,data:= .fields ps}:=x
  show h'.get? a=some {cls:= .none,data:= .fields ps}
  exact k a _ (.inl rfl) e
 |met f y=>
  have e:h.get? a=some (W.methodObj (.ref f) (.ref y)):=x
  show h'.get? a=some (W.methodObj (.ref f) (.ref y))
  exact k a _ (.inl rfl) e
 |ext φ=>obtain ⟨p,⟨o,e⟩,st⟩:=x;exact⟨st _ _ p λo q=>k _ _ (.inl rfl) q,⟨o,k _ _ (.inl rfl) e⟩,st⟩
theorem HOk.lt(x:HOk P w H h)(e:H a=some o):a<h.objs.size:=(x a o e).lt
theorem HOk.fresh(x:HOk P w H h)(e:h.objs.size<=a):H a=none:=by
 cases q:H a with
 |none=>rfl
 |some u=>exact absurd (P1 (x.lt q) e) (Nat.lt_irrefl _)
theorem HOk.kept(x:HOk P w H h)(k:∀b u,h.get? b=some u->h'.get? b=some u):HOk P w H h':=λa o e=>
 (x a o e).stay (λb u _ q=>k b u q) (λ_ q=>q) λ_ _ q=>q
theorem HOk.laid(x:HOk P w H h)(k:∀b u,h.get? b=some u->h'.get? b=some u)(hp:h.objs.size<=a)(new:ObjOk P w (upd H a o) h' a o):HOk P w (upd H a o) h':=λb u e=>by
 have hn:=x.fresh hp
 by_cases hb:b=a
 ·subst hb;rw[zb] at e;cases e;exact new
 ·rw[zc hb] at e
  exact(x b u e).stay (λc v _ q=>k c v q) (λc q=>by rw[zc (zh q hn)];exact q) λc xs q=>by rw[zc (zh q hn)];exact q
end
def Rd(H:Hp)(a:Addr)(u:HO):Prop:=H a=some u\/∃o,H a=some (.frz o u)
theorem Rd.ok{w:World}{h:Heap}{u:HO}(r:Rd H a u)(x:HOk P w H h):ObjOk P w H h a u:=by
 rcases r with r|⟨o,r⟩
 ·exact x a u r
 ·obtain ⟨_,q⟩:=x a _ r
  exact q
def Mut:Option HO->Prop
 |some (.lst _)=>True
 |some (.dK _)=>True
 |some (.dT _)=>True
 |some (.set _ _)=>True
 |some (.ins _ _ _)=>True
 |some (.ext _)=>True
 |_=>False
section
variable{w:World}{h:Heap}{x e:Addr}
theorem HOk.write(ok:HOk P w H h)(mu:Mut (H x))(he:e=x\/H e=some (.own x))(k:∀b u,b≠e->h.get? b=some u->h'.get? b=some u)(heo:∃u,h'.get? e=some u)
 (new:ObjOk P w (upd H x o') h' x o'):HOk P w (upd H x o') h':=λb u q=>by
 have nown:∀c y,H c=some (.own y)->c≠x:=λc y r z=>by subst z;rw[r] at mu;exact mu
 have ntup:∀c xs,H c=some (.tup xs)->c≠x:=λc xs r z=>by subst z;rw[r] at mu;exact mu
 by_cases hb:b=x
 ·subst hb;rw[zb] at q;cases q;exact new
 ·rw[zc hb] at q
  by_cases hbe:b=e
  ·have q':H b=some (.own x):=by
    rcases he with z|z
    ·exact absurd (hbe.trans z) hb
    ·rw[hbe];exact z
   rw[q] at q';cases q'
   obtain⟨v,hv⟩:=heo
   exact⟨v,by rw[hbe];exact hv⟩
  ·refine (ok b u q).stay (λc v hc r=>k c v ?_ r) (λc r=>by rw[zc (nown c b r)];exact r) λc xs r=>by rw[zc (ntup c xs r)];exact r
   rcases hc with rfl|hc
   ·exact hbe
   ·rintro rfl
    rcases he with z|z
    ·exact nown c b hc z
    ·rw[hc] at z;cases z;exact hb rfl
end
structure Un(fs ex:List Addr)(H H':Hp)(h h':Heap):Prop where
 keep:∀b o,h.get? b=some o->H b=none->b∉fs->b∉ex->h'.get? b=some o
 slot:∀b o,h.get? b=some o->H b=none->b∈fs->b∉ex->∃sl,h'.get? b=some {o with slots:=sl}
 free:∀b o,h.get? b=some o->H b=none->b∉ex->H' b=none
 there:∀b o,h.get? b=some o->b∉ex->∃o',h'.get? b=some o'
 tups:∀b xs,H b=some (.tup xs)->H' b=some (.tup xs)
 frzs:∀b o u,H b=some (.frz o u)->H' b=some (.frz o u)
 tbls:∀b ps,H b=some (.tbl ps)->∃more,H' b=some (.tbl (ps ++more))
section
variable{fs fs' ex ex':List Addr}{h h1 h2:Heap}{x e:Addr}{o:HO}
theorem Un.any(u:Un fs ex H H1 h h1){b:Addr}{ob:Obj}(q:h.get? b=some ob)(n:H b=none)(hx:b∉ex):∃sl,h1.get? b=some {ob with slots:=sl}:=by
 by_cases hb:b∈fs
 ·exact u.slot b ob q n hb hx
 ·exact ⟨ob.slots,u.keep b ob q n hb hx⟩
theorem Un.kept(k:∀b u,h.get? b=some u->h'.get? b=some u):Un fs ex H H h h':=
 ⟨λb ob q _ _ _=>k b ob q,λb ob q _ _ _=>⟨ob.slots,k b ob q⟩,λ_ _ _ n _=>n,λb ob q _=>⟨ob,k b ob q⟩,λ_ _ q=>q,λ_ _ _ q=>q,λ_ ps q=>⟨#[],by rw[q];simp⟩⟩
theorem Un.refl:Un fs ex H H h h:=Un.kept λ_ _ q=>q
theorem Un.laid(k:∀b u,h.get? b=some u->h'.get? b=some u)(hp:h.objs.size<=a)(hn:H a=none):Un fs ex H (upd H a o) h h' where
 keep:=λb u q _ _ _=>k b u q
 slot:=λb u q _ _ _=>⟨u.slots,k b u q⟩
 free:=λb u q n _=>by rw[zc (C1 (P1 (S0 q) hp))];exact n
 there:=λb u q _=>⟨u,k b u q⟩
 tups:=λb xs q=>by rw[zc (zh q hn)];exact q
 frzs:=λb u xs q=>by rw[zc (zh q hn)];exact q
 tbls:=λb ps q=>⟨#[],by rw[zc (zh q hn),q];simp⟩
theorem Un.write(mu:Mut (H x))(he:e=x\/H e=some (.own x))(k:∀b u,b≠e->h.get? b=some u->h'.get? b=some u)(heo:∃u,h'.get? e=some u):Un fs ex H (upd H x o) h h':=by
 have hx:∀b,H b=none->b≠x:=λb n z=>by subst z;rw[n] at mu;exact mu
 have hb:∀b,H b=none->b≠e:=λb n z=>by
  subst z
  rcases he with r|r
  ·exact hx b n r
  ·rw[n] at r;cases r
 have hm:∀b u,H b=some u->¬Mut (some u)->b≠x:=λb u q nm z=>by subst z;rw[q] at mu;exact nm mu
 refine⟨λb u q n _ _=>k b u (hb b n) q,λb u q n _ _=>⟨u.slots,k b u (hb b n) q⟩,λb u q n _=>by rw[zc (hx b n)];exact n,λb u q _=>?_,
  λb xs q=>by rw[zc (hm b _ q λz=>z)];exact q,λb u xs q=>by rw[zc (hm b _ q λz=>z)];exact q,λb ps q=>⟨#[],by rw[zc (hm b _ q λz=>z),q];simp⟩⟩
 by_cases hbe:b=e
 ·subst hbe;exact heo
 ·exact ⟨u,k b u hbe q⟩
end
noncomputable def trk(h:Heap)(H:Hp):List Addr:=(List.range h.objs.size).filter λa=>(H a).isSome
noncomputable def zhW(h:Heap)(H:Hp):Heap:=W.hideAll h (trk h H)
theorem zl0(h:Heap)(H:Hp):(zhW h H).objs.size=h.objs.size:=W.hideAll_size _ _
theorem zm7{h:Heap}{b:Addr}{o:Obj}(e:h.get? b=some o)(n:H b=none):(zhW h H).get? b=some o:=
 W.hideAll_get _ e λhm=>by
  have q:(H b).isSome=true:=(F2.mp hm).2
  rw[n] at q;simp at q
theorem zpR{h:Heap}{b:Addr}{o:Obj}(e:(zhW h H).get? b=some o):h.get? b=some o/\H b=none:=by
 have e':h.get? b=some o:=W.of_hideAll (trk h H) e
 refine⟨e',?_⟩
 cases q:H b with
 |none=>rfl
 |some x=>
  have hm:b∈trk h H:=F2.mpr ⟨List.mem_range.mpr (S0 e'),by simp[q]⟩
  have z:(zhW h H).get? b=none:=W.hideAll_none (trk h H) hm
  rw[z] at e;cases e
structure Mod(K:W.Frag)(mg:Str->Option Value)(base:Heap):Prop where
 kin:K.In base
 glob:base.Ns mainGlobals mg
 blt:∃mb,base.Ns builtinsNs mb/\∀x:Str,x≠"__name__"->mb x=bootBuiltins x
 nolimit:base.NoLimit
structure Cx where
 prog:Program
 w:World
 K:W.Frag
 mg:Str->Option Value
 base:Heap
 A:Around
 N:List Str
 s₀:Shared
 H₀:Hp
 env:Env
 outer:List Env
 stack:List Env
 ex:List Addr
 fn:Str->Bool
 calm:Bool
 pn:List (Addr×Obj)
 xe:Value->Shared->Prop
variable{N:List Str}{w:World}{X:Cx}{A:Around}{K:W.Frag}{prog:Program}{env:Env}{outer:List Env}
noncomputable def frs(l:List Env):List Addr:=l.filterMap (·.frame)
noncomputable abbrev Cx.fs(X:Cx):List Addr:=frs X.outer
variable{fs:List (Str×V)}
def Vis(sc:Scope)(x:Str):Prop:=sc.names.lookup x=some .local\/sc.names.lookup x=some .cell\/sc.names.lookup x=some .free
def Loc(sc:Scope)(x:Str):Prop:=sc.names.lookup x=some .local\/sc.names.lookup x=some .cell
def zsF(env:Env)(h:Heap)(m:Str->Option Value)(x:Str)(u:Value):Prop:=
 (env.kindOf x=some .local/\m x=some u)\/((env.kindOf x=some .cell\/env.kindOf x=some .free)/\∃c,env.cells.lookup x=some c/\h.IsCell c (some u))
structure Cx.Ok(X:Cx):Prop where
 mod:Mod X.K X.mg X.base
 kind:X.env.scope.kind= .function
 glob:X.env.globals=mainGlobals
 blt:X.env.builtins=builtinsNs
 above:X.s₀.heap.objs.size<=X.env.locals
 inj:∀x y c,X.env.cells.lookup x=some c->X.env.cells.lookup y=some c->x=y
 has:∀x,(X.env.kindOf x=some .cell\/X.env.kindOf x=some .free)->∃c,X.env.cells.lookup x=some c
 cab:∀x c,X.fn x=true->X.env.cells.lookup x=some c->X.s₀.heap.objs.size<=c
 hd:X.calm=true->X.A.handled=none
 frames:X.A.frames=some X.stack
 stk:X.stack=X.outer\/(X.stack=X.env::X.outer/\X.env.frame=some X.env.locals)
 exf:∀b∈X.ex,b≠X.env.locals/\∀x c,X.env.cells.lookup x=some c->c≠b
 bs:∀b o,X.base.get? b=some o->X.s₀.heap.get? b=some o/\X.H₀ b=none
 bsz:X.base.objs.size<=X.s₀.heap.objs.size
 noex:∀b o,X.base.get? b=some o->b∉X.ex
 exfs:∀b∈X.ex,b∉X.fs
 funs:X.s₀.heap.FunFrames X.base X.outer
 frf:∀b∈X.fs,X.H₀ b=none
structure Inv(X:Cx)(pins:List (Addr×Obj))(σ:List (Option V))(H:Hp)(s:Shared):Prop where
 ok:X.Ok
 os:s.os=X.s₀.os
 bare:AllBare s.gens
 base:Un X.fs X.ex X.H₀ H X.s₀.heap s.heap
 loc:∃m,s.heap.Ns X.env.locals m/\∀(i:Nat) (x:Str) (v:V),X.N[i]?=some x->σ[i]?=some (some v)->Vis X.env.scope x->∃u,RelV v u/\zsF X.env s.heap m x u
 cell:∀x c,X.env.cells.lookup x=some c->∃v,s.heap.IsCell c v
 free:H X.env.locals=none
 freeC:∀x c,X.env.cells.lookup x=some c->H c=none
 pin:∀p∈X.pn ++pins,s.heap.get? p.1=some p.2/\H p.1=none/\p.1≠X.env.locals/\p.1∉X.fs/\∀v,p.2.data≠ .cell v
 hok:HOk X.prog X.w H s.heap
 len:σ.length=X.N.length
section
variable{σ:List (Option V)}
theorem Cx.Ok.nofr(ok:X.Ok){b:Addr}{o:Obj}(e:X.base.get? b=some o):b∉X.fs:=λhb=>by
 have:=(ok.funs.mem hb).1
 rw[e] at this;cases this
theorem Inv.bs(I:Inv X pins σ H s):∀b o,X.base.get? b=some o->s.heap.get? b=some o/\H b=none:=λb o e=>
 ⟨I.base.keep b o (I.ok.bs b o e).1 (I.ok.bs b o e).2 (I.ok.nofr e) (I.ok.noex b o e),I.base.free b o (I.ok.bs b o e).1 (I.ok.bs b o e).2 (I.ok.noex b o e)⟩
theorem Inv.bk(I:Inv X pins σ H s):∀b o,X.base.get? b=some o->s.heap.get? b=some o:=λb o e=>(I.bs b o e).1
theorem Inv.mod(I:Inv X pins σ H s):Mod X.K X.mg X.base:=I.ok.mod
theorem Inv.kIn(I:Inv X pins σ H s):X.K.In s.heap:=I.ok.mod.kin.keeps I.bk
theorem Inv.lt(I:Inv X pins σ H s):X.env.locals<s.heap.objs.size:=let⟨_,hn,_⟩:=I.loc;hn.lt
theorem Inv.sz(I:Inv X pins σ H s):X.s₀.heap.objs.size<=s.heap.objs.size:=K1 I.ok.above (W2 I.lt)
theorem Inv.nofs(I:Inv X pins σ H s)(h:s.heap.objs.size<=a):a∉X.fs:=λhb=>by
 obtain⟨_,o,ho,_⟩:=I.ok.funs.mem hb
 exact absurd (P1 (S0 ho) (K1 I.sz h)) (Nat.lt_irrefl _)
theorem Inv.cne(I:Inv X pins σ H s):∀x c,X.env.cells.lookup x=some c->c≠X.env.locals:=λx c e z=>by
 obtain⟨v,o,ho,hd⟩:=I.cell x c e
 obtain⟨m,⟨o',es,ep,ho',hd',_⟩,_⟩:=I.loc
 rw[z,ho'] at ho;cases ho;rw[hd'] at hd;cases hd
theorem Inv.funs(I:Inv X pins σ H s):s.heap.FunFrames X.base X.outer:=by
 have all:∀(l:List Env),(∀b∈frs l,b∈X.fs)->X.s₀.heap.FunFrames X.base l->s.heap.FunFrames X.base l:=by
  intro l
  induction l with
  |nil=>intro _ _;trivial
  |cons env r ih=>
   intro hs hl
   obtain⟨hk,⟨L,o,hf,hn,ho,hd⟩,hr⟩:=hl
   have hL:L∈X.fs:=hs L (by unfold frs;rw[List.filterMap_cons,hf];exact D1)
   obtain⟨sl,e⟩:=I.base.slot L o ho (I.ok.frf L hL) hL λz=>I.ok.exfs L z hL
   exact⟨hk,⟨L,_,hf,hn,e,hd⟩,ih (λb hb=>hs b (by unfold frs;rw[List.filterMap_cons,hf];exact Z0 _ hb)) hr⟩
 exact all X.outer (λ_ hb=>hb) I.ok.funs
theorem Inv.stack(I:Inv X pins σ H s):s.heap.FunFrames X.base X.stack:=by
 rcases I.ok.stk with e|⟨e,hf⟩
 ·rw[e];exact I.funs
 ·rw[e]
  obtain⟨m,hn,_⟩:=I.loc
  refine .cons (by rw[I.ok.kind];decide) hf hn ?_ I.funs
  exact Heap.get?_none_of_le (K1 I.ok.bsz I.ok.above)
theorem Inv.stkSub(I:Inv X pins σ H s):∀b∈frs X.stack,b∈X.env.locals::X.fs:=λb hb=>by
 rcases I.ok.stk with e|⟨e,hf⟩
 ·rw[e] at hb;exact Z0 _ hb
 ·rw[e] at hb
  unfold frs at hb
  rw[List.filterMap_cons,hf] at hb
  exact hb
theorem Inv.stkFree(I:Inv X pins σ H s):∀b∈frs X.stack,H b=none:=λb hb=>by
 rcases X0.mp (I.stkSub b hb)with e|hb
 ·rw[e];exact I.free
 ·obtain ⟨_,o,ho,_⟩:=I.ok.funs.mem hb
  exact I.base.free b o ho (I.ok.frf b hb) λz=>I.ok.exfs b z hb
theorem Inv.step{ch:List Addr}(I:Inv X pins σ H s)
 (hch:∀b∈ch,(b∈X.ex\/X.s₀.heap.objs.size<=b)/\b≠X.env.locals/\(∀x c,X.env.cells.lookup x=some c->c≠b)/\∀p∈X.pn ++pins,p.1≠b)
 (keep:∀b o,b≠X.env.locals->b∉X.fs->b∉ch->s.heap.get? b=some o->H b=none->h'.get? b=some o)
 (slot:∀b o,b≠X.env.locals->b∈X.fs->b∉ch->s.heap.get? b=some o->H b=none->∃sl,h'.get? b=some {o with slots:=sl}) (free:∀b o,b∉ch->s.heap.get? b=some o->H b=none->H' b=none)
 (there:∀b o,b∉ch->s.heap.get? b=some o->∃o',h'.get? b=some o')
 (tups:∀b xs,H b=some (.tup xs)->H' b=some (.tup xs)) (frzs:∀b o u,H b=some (.frz o u)->H' b=some (.frz o u)) (tbls:∀b ps,H b=some (.tbl ps)->∃more,H' b=some (.tbl (ps ++more)))
 (ns:∀m,s.heap.Ns X.env.locals m->h'.Ns X.env.locals m) (hok:HOk X.prog X.w H' h') (hg:AllBare g'):
 Inv X pins σ H' {s with heap:=h',gens:=g',drawn:=d',toks:=t'}:=by
 have neL:∀b o,X.s₀.heap.get? b=some o->b≠X.env.locals:=λb o e=>C1 (P1 (S0 e) I.ok.above)
 have neC:∀b o,X.s₀.heap.get? b=some o->b∉X.ex->b∉ch:=λb o e hx hb=>by
  rcases(hch b hb).1 with z|z
  ·exact hx z
  ·exact absurd (P1 (S0 e) z) (Nat.lt_irrefl _)
 have cellK:∀x c,X.env.cells.lookup x=some c->∀v,s.heap.IsCell c v->h'.IsCell c v:=λx c e v ⟨o,ho,hd⟩=>by
  have nch:c∉ch:=λz=>(hch c z).2.2.1 x c e rfl
  by_cases hc:c∈X.fs
  ·obtain ⟨sl,q⟩:=slot c o (I.cne x c e) hc nch ho (I.freeC x c e)
   exact⟨_,q,hd⟩
  ·exact ⟨o,keep c o (I.cne x c e) hc nch ho (I.freeC x c e),hd⟩
 refine⟨I.ok,I.os,hg,⟨λb o e n hb hx=>?_,λb o e n hb hx=>?_,λb o e n hx=>?_,λb o e hx=>?_,λb xs e=>tups b xs (I.base.tups b xs e),λb o xs e=>frzs b o xs (I.base.frzs b o xs e),λb ps e=>?_⟩,?_,λx c e=>?_,?_,λx c e=>?_,λp hp=>?_,hok,I.len⟩
 ·exact keep b o (neL b o e) hb (neC b o e hx) (I.base.keep b o e n hb hx) (I.base.free b o e n hx)
 ·obtain ⟨sl,e1⟩:=I.base.slot b o e n hb hx
  obtain⟨sl',e2⟩:=slot b _ (neL b o e) hb (neC b o e hx) e1 (I.base.free b o e n hx)
  exact⟨sl',e2⟩
 ·obtain ⟨o',e1⟩:=I.base.there b o e hx
  exact free b o' (neC b o e hx) e1 (I.base.free b o e n hx)
 ·obtain ⟨o',e1⟩:=I.base.there b o e hx
  exact there b o' (neC b o e hx) e1
 ·obtain ⟨m1,e1⟩:=I.base.tbls b ps e
  obtain⟨m2,e2⟩:=tbls b _ e1
  exact⟨m1 ++m2,by rw[e2,Array.append_assoc]⟩
 ·obtain ⟨m,hn,hl⟩:=I.loc
  refine⟨m,ns m hn,λi x v e1 e2 e3=>?_⟩
  obtain⟨u,r,l⟩:=hl i x v e1 e2 e3
  refine⟨u,r,?_⟩
  rcases l with l|⟨k,c,e,z⟩
  ·exact .inl l
  ·exact .inr ⟨k,c,e,cellK x c e _ z⟩
 ·obtain ⟨v,z⟩:=I.cell x c e
  exact⟨v,cellK x c e v z⟩
 ·obtain ⟨m,⟨o,_,_,ho,_⟩,_⟩:=I.loc
  exact free _ o (λz=>(hch _ z).2.1 rfl) ho I.free
 ·obtain ⟨v,o,ho,hd⟩:=I.cell x c e
  exact free c o (λz=>(hch c z).2.2.1 x c e rfl) ho (I.freeC x c e)
 ·obtain ⟨e,n,ne,nf,d⟩:=I.pin p hp
  have nch:p.1∉ch:=λz=>(hch p.1 z).2.2.2 p hp rfl
  exact⟨keep p.1 p.2 ne nf nch e n,free p.1 p.2 nch e n,ne,nf,d⟩
theorem Inv.un(I:Inv X pins σ H s)(u:Un X.fs [] H H' s.heap h')(hok:HOk X.prog X.w H' h'):Inv X pins σ H' {s with heap:=h',toks:=t'}:=by
 obtain⟨m,⟨o,es,ep,ho,r⟩,_⟩:=id I.loc
 obtain⟨sl,hL⟩:=u.any ho I.free `j2
 exact I.step (g':=s.gens) (d':=s.drawn) (ch:=[]) (λ_ z=>nomatch z) (λb o _ hb _ e n=>u.keep b o e n hb `j2) (λb o _ hb _ e n=>u.slot b o e n hb `j2) (λb o _ e n=>u.free b o e n `j2) (λb o _ e=>u.there b o e `j2) u.tups u.frzs u.tbls (λm' hm=>by
  obtain⟨o',es',ep',ho',r'⟩:=hm
  rw[ho] at ho';cases ho'
  exact⟨_,es',ep',hL,r'⟩) hok I.bare
theorem Inv.call{ch:List Addr}(I:Inv X pins σ H s)(u:Un (frs X.stack) ch H H' s.heap h')(hok:HOk X.prog X.w H' h')(hg:AllBare g')
 (hch:∀b∈ch,(b∈X.ex\/X.s₀.heap.objs.size<=b)/\b≠X.env.locals/\(∀x c,X.env.cells.lookup x=some c->c≠b)/\∀p∈X.pn ++pins,p.1≠b):
 Inv X pins σ H' {s with heap:=h',gens:=g',drawn:=d',toks:=t'}:=by
 obtain⟨m,⟨o,es,ep,ho,r⟩,_⟩:=id I.loc
 obtain⟨sl,hL⟩:=u.any ho I.free λz=>(hch _ z).2.1 rfl
 exact I.step (ch:=ch) hch (λb o hL hb hc e n=>u.keep b o e n (λz=>(X0.mp (I.stkSub b z)).elim hL hb) hc) (λb o _ _ hc e n=>u.any e n hc) (λb o hc e n=>u.free b o e n hc) (λb o hc e=>u.there b o e hc) u.tups u.frzs u.tbls (λm' hm=>by
  obtain⟨o',es',ep',ho',r'⟩:=hm
  rw[ho] at ho';cases ho'
  exact⟨_,es',ep',hL,r'⟩) hok hg
theorem Inv.turned(I:Inv X pins σ H s)(k:∀b o,b≠it->s.heap.get? b=some o->h'.get? b=some o)(hn:H it=none)(hL:it≠X.env.locals)
 (h1:it∈X.ex\/X.s₀.heap.objs.size<=it) (h2:∀x c,X.env.cells.lookup x=some c->c≠it) (h3:∀p∈X.pn ++pins,p.1≠it):Inv X pins σ H {s with heap:=h',toks:=t'}:=by
 have nit:∀b u,H b=some u->b≠it:=λb u e z=>by rw[z,hn] at e;cases e
 refine I.step (g':=s.gens) (d':=s.drawn) (ch:=[it]) (λb hb=>?_) (λb o _ _ hc e _=>k b o (λz=>hc (by simp[z])) e) (λb o _ _ hc e _=>⟨o.slots,k b o (λz=>hc (by simp[z])) e⟩) (λ_ _ _ _ n=>n)
  (λb o hc e=>⟨o,k b o (λz=>hc (by simp[z])) e⟩) (λ_ _ e=>e) (λ_ _ _ e=>e) (λb ps e=>⟨#[],by rw[e];simp⟩) (λm hm=>?_) (λb u e=>?_) I.bare
 ·have e:b=it:=by simpa using hb
  subst e
  exact⟨h1,hL,h2,h3⟩
 ·obtain ⟨o,es,ep,ho,r⟩:=hm
  exact⟨o,es,ep,k _ o (Ne.symm hL) ho,r⟩
 ·refine (I.hok b u e).stay (λc v hc q=>k c v ?_ q) (λ_ q=>q) λ_ _ q=>q
  rcases hc with z|z
  ·rw[z];exact nit b u e
  ·exact nit c _ z
theorem Inv.tok(I:Inv X pins σ H s)(t:Nat):Inv X pins σ H {s with toks:=t}:=I.un (h':=s.heap) (t':=t) Un.refl I.hok
theorem Inv.kept(I:Inv X pins σ H s)(k:∀b u,s.heap.get? b=some u->h'.get? b=some u):Inv X pins σ H {s with heap:=h',toks:=t'}:=I.un (Un.kept k) (I.hok.kept k)
theorem Inv.laid{o:HO}(I:Inv X pins σ H s)(k:∀b u,s.heap.get? b=some u->h'.get? b=some u)(hp:s.heap.objs.size<=a)(new:ObjOk X.prog X.w (upd H a o) h' a o):
 Inv X pins σ (upd H a o) {s with heap:=h',toks:=t'}:=I.un (Un.laid k hp (I.hok.fresh hp)) (I.hok.laid k hp new)
theorem Inv.write{x e:Addr}{o:HO}(I:Inv X pins σ H s)(mu:Mut (H x))(he:e=x\/H e=some (.own x))(k:∀b u,b≠e->s.heap.get? b=some u->h'.get? b=some u)(heo:∃u,h'.get? e=some u)
 (new:ObjOk X.prog X.w (upd H x o) h' x o):Inv X pins σ (upd H x o) {s with heap:=h',toks:=t'}:=I.un (Un.write mu he k heo) (I.hok.write mu he k heo new)
theorem Inv.pins_of{pins':List (Addr×Obj)}(I:Inv X pins σ H s)(h:∀p∈pins',s.heap.get? p.1=some p.2/\H p.1=none/\p.1≠X.env.locals/\p.1∉X.fs/\∀v,p.2.data≠ .cell v):Inv X pins' σ H s:=
 ⟨I.ok,I.os,I.bare,I.base,I.loc,I.cell,I.free,I.freeC,λp hp=>(N2.mp hp).elim (λz=>I.pin p (List.mem_append_left _ z)) (h p),I.hok,I.len⟩
theorem zjE(hN:N.Nodup)(a:N[i]?=some x)(b:N[j]?=some x):i=j:=by
 obtain⟨h1,e1⟩:=W1.mp a
 obtain⟨h2,e2⟩:=W1.mp b
 exact(List.getElem_inj hN).mp (e1.trans e2.symm)
theorem zmb{Q:Unit->Shared->Prop}(I:Inv X pins σ H s)(hN:X.N.Nodup)(hi:X.N[i]?=some x)(hx:Loc X.env.scope x)(r:RelV v u)
 (h:∀s',Inv X pins (σ.set i (some v)) H s'->(∃a,Heap.SameBut a s.heap s'.heap/\(a=X.env.locals\/X.env.cells.lookup x=some a))->Q Unit.unit s') (hf:autoParam (X.fn x=true\/X.env.scope.names.lookup x=some .local) r6):wpAny M A (storeName X.env x u) Q E s:=by
 obtain⟨m,hn,hl⟩:=id I.loc
 have hcls:(X.env.scope.kind== .class||(X.env.scope.kind== .module&&X.env.locals !=X.env.globals))=false:=by rw[I.ok.kind];rfl
 have hiσ:i<σ.length:=by rw[I.len];exact(W1.mp hi).1
 have cne:=I.cne
 have tracked:∀{a:Addr} {h':Heap},(∃o,s.heap.get? a=some o/\H a=none)->Heap.SameBut a s.heap h'->HOk X.prog X.w H h':=λ{a h'} ha hs b ob e=>by
  obtain⟨_,_,hfree⟩:=ha
  refine(I.hok b ob e).stay (λc w' hc q=>(hs.2 c ?_).trans q) (λ_ q=>q) λ_ _ q=>q
  rintro rfl
  rcases hc with rfl|hc
  ·rw[hfree] at e;cases e
  ·rw[hfree] at hc;cases hc
 rcases hx with hk|hk
 ·refine wpAny_storeName_local hk hn (λh' hn' hs=>?_) hcls
  obtain⟨oL,_,_,hoL,_⟩:=id hn
  refine h _ ⟨I.ok,I.os,I.bare,⟨λb o e n hb hx=>?_,λb o e n hb hx=>?_,I.base.free,λb o e hx=>?_,I.base.tups,I.base.frzs,I.base.tbls⟩,⟨_,hn',λj y v' e1 e2 e3=>?_⟩,λy c e=>?_,I.free,I.freeC,λp hp=>?_,tracked ⟨oL,hoL,I.free⟩ hs,by simpa using I.len⟩ ⟨_,hs, .inl rfl⟩
  ·exact (hs.2 b (C1 (P1 (S0 e) I.ok.above))).trans (I.base.keep b o e n hb hx)
  ·obtain ⟨sl,e1⟩:=I.base.slot b o e n hb hx
   exact⟨sl,(hs.2 b (C1 (P1 (S0 e) I.ok.above))).trans e1⟩
  ·obtain ⟨o',e1⟩:=I.base.there b o e hx
   exact⟨o',(hs.2 b (C1 (P1 (S0 e) I.ok.above))).trans e1⟩
  ·by_cases hj:j=i
   ·subst hj
    rw[hi] at e1;cases e1
    rw[List.getElem?_set_self hiσ] at e2
    cases e2
    exact⟨u,r, .inl ⟨hk,`j2⟩⟩
   ·rw[List.getElem?_set_ne (Ne.symm hj)] at e2
    obtain⟨u',r',q⟩:=hl j y v' e1 e2 e3
    refine⟨u',r',?_⟩
    rcases q with⟨k,e⟩|⟨k,c,e,z⟩
    ·refine .inl ⟨k,?_⟩
     have:y≠x:=λe=>hj (zjE hN e1 (e▸hi))
     simp[this,e]
    ·exact .inr ⟨k,c,e,z.sameBut hs (cne y c e)⟩
  ·obtain ⟨w',z⟩:=I.cell y c e
   exact⟨w',z.sameBut hs (cne y c e)⟩
  ·obtain ⟨e,n,ne,nf,d⟩:=I.pin p hp
   exact⟨(hs.2 p.1 ne).trans e,n,ne,nf,d⟩
 ·have hfn:X.fn x=true:=by
   rcases hf with z|z
   ·exact z
   ·rw[z] at hk;cases hk
  obtain⟨c,hc⟩:=I.ok.has x (.inl hk)
  obtain⟨w',z⟩:=I.cell x c hc
  refine wpAny_storeName_cell I.ok.kind hk hc z (λh' hc' hs=>?_)
  obtain⟨oc,hoc,hocd⟩:=id z
  refine h {s with heap:=h'} ⟨I.ok,I.os,I.bare,⟨λb o e n hb hx=>?_,λb o e n hb hx=>?_,I.base.free,λb o e hx=>?_,I.base.tups,I.base.frzs,I.base.tbls⟩,⟨m,hn.sameBut hs (Ne.symm (cne x c hc)),λj y v' e1 e2 e3=>?_⟩,λy c' e=>?_,I.free,I.freeC,λp hp=>?_,tracked ⟨oc,hoc,I.freeC x c hc⟩ hs,by simpa using I.len⟩ ⟨c,hs, .inr hc⟩
  ·exact (hs.2 b (C1 (P1 (S0 e) (I.ok.cab x c hfn hc)))).trans (I.base.keep b o e n hb hx)
  ·obtain ⟨sl,e1⟩:=I.base.slot b o e n hb hx
   exact⟨sl,(hs.2 b (C1 (P1 (S0 e) (I.ok.cab x c hfn hc)))).trans e1⟩
  ·obtain ⟨o',e1⟩:=I.base.there b o e hx
   exact⟨o',(hs.2 b (C1 (P1 (S0 e) (I.ok.cab x c hfn hc)))).trans e1⟩
  ·by_cases hj:j=i
   ·subst hj
    rw[hi] at e1;cases e1
    rw[List.getElem?_set_self hiσ] at e2
    cases e2
    exact⟨u,r, .inr ⟨.inl hk,c,hc,hc'⟩⟩
   ·rw[List.getElem?_set_ne (Ne.symm hj)] at e2
    obtain⟨u',r',q⟩:=hl j y v' e1 e2 e3
    refine⟨u',r',?_⟩
    rcases q with q|⟨k,c',e,z'⟩
    ·exact .inl q
    ·refine .inr ⟨k,c',e,z'.sameBut hs ?_⟩
     rintro rfl
     exact hj (zjE hN e1 (I.ok.inj _ _ _ e hc▸hi))
  ·by_cases hcc:c'=c
   ·subst hcc;exact⟨_,hc'⟩
   ·obtain ⟨w2,z2⟩:=I.cell y c' e
    exact⟨w2,z2.sameBut hs hcc⟩
  ·obtain ⟨e,n,ne,nf,d⟩:=I.pin p hp
   refine⟨(hs.2 p.1 ?_).trans e,n,ne,nf,d⟩
   intro q
   rw[q,hoc] at e
   have q':oc=p.2:=O1 e
   exact d w' (by rw[←q'];exact hocd)
theorem zdg{Q:Unit->Shared->Prop}(I:Inv X pins σ H s)(hN:X.N.Nodup)(hi:X.N[i]?=some x)(hx:Loc X.env.scope x)(r:RelV v u)
 (h:∀s',Inv X pins (σ.set i (some v)) H s'->Q Unit.unit s') (hf:autoParam (X.fn x=true\/X.env.scope.names.lookup x=some .local) r6):wpAny M A (storeName X.env x u) Q E s:=
 zmb I hN hi hx r (λs' I' _=>h s' I') hf
theorem Inv.call'{ch:List Addr}(I:Inv X pins σ H s)(ho:s'.os=s.os)(u:Un (frs X.stack) ch H H' s.heap s'.heap)(hok:HOk X.prog X.w H' s'.heap)(hg:AllBare s'.gens)
 (hch:∀b∈ch,(b∈X.ex\/X.s₀.heap.objs.size<=b)/\b≠X.env.locals/\(∀x c,X.env.cells.lookup x=some c->c≠b)/\∀p∈X.pn ++pins,p.1≠b):Inv X pins σ H' s':=by
 obtain⟨h',g',d',t',o'⟩:=s'
 have e:o'=s.os:=ho
 subst e
 exact I.call (g':=g') (t':=t') (d':=d') u hok hg hch
end
noncomputable abbrev XK:=Value->Option Addr->Hp->Prop
noncomputable abbrev St:=List (Option V)
variable{σ σr:St}
noncomputable abbrev VK:=V->Hp->Prop
noncomputable abbrev TE:=St->Hp->VK->Prop
variable{te ti tl tv tx tf:TE}
noncomputable abbrev TT:=St->Hp->(Bool->Hp->Prop)->Prop
variable{tc tc2:TT}
noncomputable abbrev TA:=St->Hp->(List V->Hp->Prop)->Prop
variable{ta:TA}
structure Ends where
 nx:St->Hp->Prop
 rt:VK
 bk:St->Hp->Prop:=λ_ _=>False
 ct:St->Hp->Prop:=λ_ _=>False
variable{ct:Value}{De:Ends}
noncomputable abbrev TS:=Ends->St->Hp->Prop
variable{tb sb:TS}
def EP(X:Cx)(pins:List (Addr×Obj))(σ:St)(Q:VK)(u:Value)(s':Shared):Prop:=∃v H',Inv X pins σ H' s'/\RelV v u/\Q v H'
def TP(X:Cx)(pins:List (Addr×Obj))(σ:St)(Q:Bool->Hp->Prop)(b:Bool)(s':Shared):Prop:=∃H',Inv X pins σ H' s'/\Q b H'
def AP(X:Cx)(pins:List (Addr×Obj))(σ:St)(Q:List V->Hp->Prop)(us:List Value)(s':Shared):Prop:=∃vs H',Inv X pins σ H' s'/\Vals vs us/\Q vs H'
def SP(X:Cx)(pins:List (Addr×Obj))(D:Ends)(f:Flow)(s':Shared):Prop:=
 match f with
 | .next=>∃σ' H',Inv X pins σ' H' s'/\D.nx σ' H'
 | .brk=>∃σ' H',Inv X pins σ' H' s'/\D.bk σ' H'
 | .cont=>∃σ' H',Inv X pins σ' H' s'/\D.ct σ' H'
 | .ret u=>∃v σ' H',Inv X pins σ' H' s'/\RelV v u/\D.rt v H'
def PE(X:Cx)(e:Expr)(t:TE):Prop:=
 ∀(pins:List (Addr×Obj)) (s:Shared) (σ:St) (H:Hp) (Q:VK),Inv X pins σ H s->t σ H Q->wpAny (model X.prog X.w) X.A (eval e X.env) (EP X pins σ Q) X.xe s
def PT(X:Cx)(e:Expr)(t:TT):Prop:=
 ∀(pins:List (Addr×Obj)) (s:Shared) (σ:St) (H:Hp) (Q:Bool->Hp->Prop),Inv X pins σ H s->t σ H Q->wpAny (model X.prog X.w) X.A (isTrue e X.env (eval e X.env)) (TP X pins σ Q) X.xe s
def PW(X:Cx)(e:Expr)(t:TT):Prop:=
 ∀(whole:Sem Value) (pins:List (Addr×Obj)) (s:Shared) (σ:St) (H:Hp) (Q:Bool->Hp->Prop),Inv X pins σ H s->t σ H Q->wpAny (model X.prog X.w) X.A (isTrue e X.env whole) (TP X pins σ Q) X.xe s
theorem PW.pt{e:Expr}{t:TT}(h:PW X e t):PT X e t:=h _
variable{pt:Pos}
def PA(X:Cx)(es:List Expr)(t:TA):Prop:=
 ∀(pos:Pos) (pins:List (Addr×Obj)) (s:Shared) (σ:St) (H:Hp) (Q:List V->Hp->Prop),Inv X pins σ H s->t σ H Q->wpAny (model X.prog X.w) X.A (spliced (backTo pos (starEach es X.env))) (AP X pins σ Q) X.xe s
def PS(X:Cx)(st:Stmt)(t:TS):Prop:=
 ∀(pins:List (Addr×Obj)) (s:Shared) (σ:St) (H:Hp) (D:Ends),Inv X pins σ H s->t D σ H->wpAny (model X.prog X.w) X.A (exec st X.env) (SP X pins D) X.xe s
def PSs(X:Cx)(st:List Stmt)(t:TS):Prop:=
 ∀(pins:List (Addr×Obj)) (s:Shared) (σ:St) (H:Hp) (D:Ends),Inv X pins σ H s->t D σ H->wpAny (model X.prog X.w) X.A (execs st X.env) (SP X pins D) X.xe s
theorem thn{t:Sem α}{Q Q':α->Shared->Prop}(h:wpAny M A t Q E s)(hQ:∀a s,Q a s->Q' a s):wpAny M A t Q' E s:=X2 h hQ λ_ _ x=>x
section
noncomputable def zqc(i:Nat):TE:=λσ H Q=>∃v,σ[i]?=some (some v)/\Q v H
noncomputable def tC(v:V):TE:=λ_ H Q=>Q v H
theorem znM(hN:X.N[i]?=some x)(hv:Vis X.env.scope x)(hd:autoParam ((x==("__debug__":Str))=false) v4)(hcd:autoParam ((x==("__classdict__":Str))=false) v4):PE X (.Name x pos) (zqc i):=by
 intro pins s σ H Q I h
 obtain⟨v,e,h⟩:=h
 obtain⟨m,hn,hl⟩:=I.loc
 obtain⟨u,r,l⟩:=hl i x v hN e hv
 have fin:EP X pins σ Q u s:=⟨v,H,I,r,h⟩
 rcases l with⟨hk,hm⟩|⟨hk,c,hc,hcell⟩
 ·exact wpAny_Name (wpAny_loadName_local I.ok.kind hk hn hm fin) hd
 ·rcases hk with hk|hk
  ·exact wpAny_Name (wpAny_loadName_cell I.ok.kind hk hc hcell fin) hd
  ·exact wpAny_Name (wpAny_loadName_free I.ok.kind hk hc hcell fin hcd) hd
theorem znr{i j pos}:PE X (.Constant (.int i) j pos) (tC (.int i)):=λ_ _ _ H _ I h=>wpAny_Constant_int ⟨.int i,H,I.tok _,⟨_,rfl⟩,h⟩
theorem zqv{b j pos}:PE X (.Constant (.bool b) j pos) (tC (.bl b)):=λ_ _ _ H _ I h=>Constant_bool ⟨.bl b,H,I,rfl,h⟩
theorem znB{j pos}:PE X (.Constant .none j pos) (tC .non):=λ_ _ _ H _ I h=>Constant_none ⟨.non,H,I,rfl,h⟩
theorem zm0{x j pos}:PE X (.Constant (.str x) j pos) (tC (.str x)):=λ_ _ _ H _ I h=>Calls.Constant_str ⟨.str x,H,I.tok _,⟨_,rfl⟩,h⟩
def Gl(X:Cx)(x:Str):Prop:=X.env.kindOf x=some .globalImplicit
theorem zie(I:Inv X pins σ H s)(hg:Gl X x)(hm:X.mg x=some u)(h:Q u s)
 (hd:autoParam ((x==("__debug__":Str))=false) v4):wpAny (model X.prog X.w) X.A (eval (.Name x pos) X.env) Q E s:=
 Calls.Name_function_global I.ok.kind hg (Calls.loadGlobal_global (by rw[I.ok.glob];exact I.mod.glob.keeps I.bk) hm h) hd
theorem zfU(I:Inv X pins σ H s)(hg:Gl X x)(hm:X.mg x=none)(hv:bootBuiltins x=some u)(h:Q u s)
 (hn:autoParam (x≠"__name__") v4) (hd:autoParam ((x==("__debug__":Str))=false) v4):wpAny (model X.prog X.w) X.A (eval (.Name x pos) X.env) Q E s:=by
 obtain⟨mb,h1,h2⟩:=I.mod.blt
 exact Calls.Name_function_global I.ok.kind hg (Calls.loadGlobal_builtin (by rw[I.ok.glob];exact I.mod.glob.keeps I.bk) hm (by rw[I.ok.blt];exact h1.keeps I.bk) ((h2 x hn).trans hv) h) hd
theorem zoW(hg:Gl X x)(hm:X.mg x=some u)(r:RelV v u)(hd:autoParam ((x==("__debug__":Str))=false) v4):PE X (.Name x pos) (tC v):=
 λ_ _ _ H _ I h=>zie I hg hm ⟨v,H,I,r,h⟩ hd
theorem zpU(hg:Gl X x)(hm:X.mg x=none)(hv:bootBuiltins x=some u)(r:RelV v u)(hn:autoParam (x≠"__name__") v4)(hd:autoParam ((x==("__debug__":Str))=false) v4):PE X (.Name x pos) (tC v):=
 λ_ _ _ H _ I h=>zfU I hg hm hv ⟨v,H,I,r,h⟩ hn hd
variable{a b:Expr}{ta tb:TE}
noncomputable def tB(t:TE):TT:=λσ H Q=>t σ H λx H1=>∃c,x= .bl c/\Q c H1
theorem zrw{e:Expr}{t:TE}(h:PE X e t)(he:autoParam (∀whole,isTrue e X.env whole=(do let v ←whole;standAt e.pos;holding [v] (truthy v))) u5):PT X e (tB t):=by
 intro pins s σ H Q I hw
 refine isTrue_plain (thn (h pins s σ H _ I hw) λv s1 zq=>?_) (he _)
 obtain⟨x,H1,I1,r1,q1⟩:=zq
 obtain⟨d,rfl,q⟩:=q1
 cases r1
 exact wpAny_truthy_bool ⟨H1,I1,q⟩
variable{tA tB':TT}
noncomputable def tOr(t u:TT):TT:=λσ H Q=>t σ H λc H1=>if c=true then Q true H1 else u σ H1 Q
noncomputable def zr3(t:TT):TT:=λσ H Q=>t σ H λc H1=>Q (!c) H1
theorem zrs(ha:PT X a tA):PW X (.BoolOp .Or [a] pos) tA:=by
 intro wh pins s σ H Q I h
 refine isTrue_or (thn (ha pins s σ H Q I h) λc s1 e=>?_)
 cases c with
 |false=>exact isTrue_or_nil e
 |true=>exact e
theorem zsr(ha:PT X a tA)(hb:PW X (.BoolOp .Or (b::rest) pos) tB'):PW X (.BoolOp .Or (a::b::rest) pos) (tOr tA tB'):=by
 intro wh pins s σ H Q I h
 refine isTrue_or (thn (ha pins s σ H _ I h) λc s1 zq=>?_)
 obtain⟨H1,I1,q1⟩:=zq
 cases c with
 |true=>exact ⟨H1,I1,q1⟩
 |false=>exact hb wh pins s1 σ H1 Q I1 q1
theorem zq6(ha:PT X a tA):PT X (.UnaryOp .Not a pos) (zr3 tA):=by
 intro pins s σ H Q I h
 exact isTrue_not (ha pins s σ H (λc H1=>Q (!c) H1) I h)
noncomputable def zqq(ta tb:TE):TE:=λσ H Q=>ta σ H λx H1=>∃c,x= .bl c/\if c=true then tb σ H1 Q else Q (.bl false) H1
noncomputable def zql(ta:TE):TE:=λσ H Q=>ta σ H λx H1=>∃c,x= .bl c/\Q (.bl (!c)) H1
theorem zqW{op}{t:TE}(h:PE X a t):PE X (.BoolOp op [a] pos) t:=λpins s σ H Q I hw=>BoolOp_one (h pins s σ H Q I hw)
theorem zq7(ha:PE X a ta)(hb:PE X (.BoolOp .And (b::rest) pos) tb):PE X (.BoolOp .And (a::b::rest) pos) (zqq ta tb):=by
 intro pins s σ H Q I h
 refine BoolOp_and (thn (ha pins s σ H _ I h) λv s1 zq=>?_)
 obtain⟨x,H1,I1,r1,q1⟩:=zq
 obtain⟨c,rfl,q1⟩:=q1
 cases r1
 refine wpAny_truthy_bool ?_
 cases c with
 |true=>exact hb pins s1 σ H1 Q I1 q1
 |false=>exact ⟨.bl false,H1,I1,rfl,q1⟩
theorem zrP(ha:PE X a ta):PE X (.UnaryOp .Not a pos) (zql ta):=by
 intro pins s σ H Q I h
 refine UnaryOp_ (thn (ha pins s σ H _ I h) λv s1 zq=>?_)
 obtain⟨x,H1,I1,r1,q1⟩:=zq
 obtain⟨c,rfl,q1⟩:=q1
 cases r1
 exact not_of (wpAny_truthy_bool ⟨.bl (!c),H1,I1,rfl,q1⟩)
noncomputable def tIf(t:TT)(ta tb:TE):TE:=λσ H Q=>t σ H λc H1=>if c=true then ta σ H1 Q else tb σ H1 Q
theorem zn0{c:Expr}(hc:PT X c tA)(ha:PE X a ta)(hb:PE X b tb):PE X (.IfExp c a b pos) (tIf tA ta tb):=by
 intro pins s σ H Q I h
 refine wpAny_IfExp (thn (hc pins s σ H _ I h) λd s1 zq=>?_)
 obtain⟨H1,I1,q1⟩:=zq
 cases d with
 |true=>exact ha pins s1 σ H1 Q I1 q1
 |false=>exact hb pins s1 σ H1 Q I1 q1
end
def SqL(K:W.Frag)(H:Hp)(a:Addr)(xs:List V):Prop:=
 Rd H a (.lst xs)\/
  ∃(o:Obj) (its:Array Value) (n:Nat),K.lookup a=some o/\o.cls= .type "list"/\o.dict=none/\o.data= .seq its n/\its.size<=sizeLine/\Vals xs its.toList
def SqT(K:W.Frag)(H:Hp)(a:Addr)(xs:List V):Prop:=
 Rd H a (.tup xs)\/
  ∃(o:Obj) (its:Array Value) (n:Nat),K.lookup a=some o/\o.cls= .type "tuple"/\o.data= .seq its n/\its.size<=sizeLine/\Vals xs its.toList
noncomputable def zsL:Value->Option V
 | .none=>some .non
 | .bool b=>some (.bl b)
 | .int i _=>some (.int i)
 | .str x _=>some (.str x)
 | .bytes b _=>some (.byt b)
 | .float b _=>some (.flt b)
 | .ref a=>some (.ref a)
 | .type n=>some (.ty n)
 |_=>none
theorem RelV.abs{x:V}(r:RelV x u):zsL u=some x:=by
 cases x with
 |non=>cases r;rfl
 |bl _=>cases r;rfl
 |int _=>obtain ⟨t,rfl⟩:=r;rfl
 |str _=>obtain ⟨t,rfl⟩:=r;rfl
 |byt _=>obtain ⟨t,rfl⟩:=r;rfl
 |flt _=>obtain ⟨t,rfl⟩:=r;rfl
 |ref _=>cases r;rfl
 |ty _=>cases r;rfl
theorem RelV.inj{x:V}(r:RelV x u)(q:RelV y u):x=y:=O1 (r.abs.symm.trans q.abs)
theorem Vals.inj{us:List Value}(h:Vals xs us)(h':Vals ys us):xs=ys:=by
 induction h generalizing ys with
 |nil=>cases h';rfl
 |cons r t ih=>
  cases h' with
  |cons r' t'=>rw[r.inj r',ih t']
theorem SqL.of(h:H a=some (.lst xs)):SqL K H a xs:= .inl (.inl h)
theorem SqT.of(h:H a=some (.tup xs)):SqT K H a xs:= .inl (.inl h)
theorem Inv.list(I:Inv X pins σ H s)(h:SqL X.K H a xs):∃its:List Value,Vals xs its/\PlainL s.heap a its.toArray/\xs.length<=sizeLine:=by
 rcases h with h|⟨o,its,n,hk,hc,hd,hs,hz,r⟩
 ·obtain ⟨z,its,n,r,e⟩:=h.ok I.hok
  exact⟨its,r,⟨_,n,e,rfl,rfl,rfl⟩,z⟩
 ·refine ⟨its.toList,r,⟨o,n,I.kIn a o hk,hc,hd,by simpa using hs⟩,?_⟩
  have e:=r.length
  simp only[Array.length_toList] at e
  lia
theorem Inv.tuple(I:Inv X pins σ H s)(h:SqT X.K H a xs):∃its:List Value,Vals xs its/\IsTup s.heap a its.toArray/\xs.length<=sizeLine:=by
 rcases h with h|⟨o,its,n,hk,hc,hs,hz,r⟩
 ·obtain ⟨z,its,r,p,_⟩:=h.ok I.hok
  exact⟨its,r,p,z⟩
 ·refine ⟨its.toList,r,⟨o,I.kIn a o hk,hc,n,by simpa using hs⟩,?_⟩
  have e:=r.length
  simp only[Array.length_toList] at e
  lia
theorem Inv.list_inj(I:Inv X pins σ H s)(h:SqL X.K H a xs)(h':SqL X.K H a ys):xs=ys:=by
 obtain⟨its,r,⟨o,n,e,_,_,d⟩,_⟩:=I.list h
 obtain⟨its',r',⟨o',n',e',_,_,d'⟩,_⟩:=I.list h'
 rw[e] at e';cases e'
 rw[d] at d'
 injection d' with d1 _
 have:its=its':=by simpa using T2 Array.toList d1
 subst this
 exact r.inj r'
theorem Inv.tuple_inj(I:Inv X pins σ H s)(h:SqT X.K H a xs)(h':SqT X.K H a ys):xs=ys:=by
 obtain⟨its,r,⟨o,e,_,n,d⟩,_⟩:=I.tuple h
 obtain⟨its',r',⟨o',e',_,n',d'⟩,_⟩:=I.tuple h'
 rw[e] at e';cases e'
 rw[d] at d'
 injection d' with d1 _
 have:its=its':=by simpa using T2 Array.toList d1
 subst this
 exact r.inj r'
abbrev Cx.wish(X:Cx)(E:Value->Shared->Prop):Cx:={X with xe:=E}
noncomputable abbrev Cx.nox(X:Cx):Cx:=X.wish λ_ _=>False
theorem Cx.Ok.wish(ok:X.Ok)(E:Value->Shared->Prop):(X.wish E).Ok:=
 ⟨ok.mod,ok.kind,ok.glob,ok.blt,ok.above,ok.inj,ok.has,ok.cab,ok.hd,ok.frames,ok.stk,ok.exf,ok.bs,ok.bsz,ok.noex,ok.exfs,ok.funs,ok.frf⟩
theorem Cx.Ok.unwish(ok:(X.wish E).Ok):X.Ok:=
 ⟨ok.mod,ok.kind,ok.glob,ok.blt,ok.above,ok.inj,ok.has,ok.cab,ok.hd,ok.frames,ok.stk,ok.exf,ok.bs,ok.bsz,ok.noex,ok.exfs,ok.funs,ok.frf⟩
theorem Inv.wish(I:Inv X pins σ H s)(E:Value->Shared->Prop):Inv (X.wish E) pins σ H s:=⟨I.ok.wish E,I.os,I.bare,I.base,I.loc,I.cell,I.free,I.freeC,I.pin,I.hok,I.len⟩
theorem Inv.unwish(I:Inv (X.wish E) pins σ H s):Inv X pins σ H s:=⟨I.ok.unwish,I.os,I.bare,I.base,I.loc,I.cell,I.free,I.freeC,I.pin,I.hok,I.len⟩
theorem SP.unwish{D:Ends}{f:Flow}(h:SP (X.wish E) pins D f s'):SP X pins D f s':=by
 cases f with
 |next=>obtain ⟨σ',H',I,q⟩:=h;exact⟨σ',H',I.unwish,q⟩
 |brk=>obtain ⟨σ',H',I,q⟩:=h;exact⟨σ',H',I.unwish,q⟩
 |cont=>obtain ⟨σ',H',I,q⟩:=h;exact⟨σ',H',I.unwish,q⟩
 |ret u=>obtain ⟨v,σ',H',I,r,q⟩:=h;exact⟨v,σ',H',I.unwish,r,q⟩
theorem PSs.nox{st:List Stmt}{t:TS}(h:PSs X.nox st t):PSs X st t:=λpins s σ H D I hw=>
 X2 (h pins s σ H D (I.wish _) hw) (λ_ _ q=>q.unwish) λ_ _ z=>False.elim z
section
variable{st:Stmt}{rest:List Stmt}{t u:TS}{e:Expr}
noncomputable def zqx:TS:=λD σ H=>D.nx σ H
noncomputable def zrx(t u:TS):TS:=λD σ H=>t {D with nx:=u D} σ H
theorem zo7:PSs X [] zqx:=λ_ _ σ H _ I h=>wpAny_execs_nil ⟨σ,H,I,h⟩
theorem zi3(h1:PS X st t)(h2:PSs X rest u):PSs X (st::rest) (zrx t u):=by
 intro pins s σ H D I h
 refine wpAny_execs_cons (thn (h1 pins s σ H {D with nx:=u D} I h) λf s1 q=>?_)
 cases f with
 |next=>
  obtain⟨σ',H',I',q⟩:=q
  exact h2 pins s1 σ' H' D I' q
 |ret v=>exact q
 |brk=>exact q
 |cont=>exact q
theorem zoH(h1:PS X st t):PSs X [st] t:=by
 intro pins s σ H D I h
 refine wpAny_execs_cons (thn (h1 pins s σ H D I h) λf s1 q=>?_)
 cases f with
 |next=>exact wpAny_execs_nil q
 |ret v=>exact q
 |brk=>exact q
 |cont=>exact q
noncomputable def zqG:TS:=λD σ H=>D.ct σ H
theorem ziZ:PS X (.Continue pos) zqG:=λ_ _ σ H _ I h=>wpAny_Continue ⟨σ,H,I,h⟩
theorem Inv.quiet(I:Inv X pins σ H s):interactive X.env=false:=by simp[interactive,I.ok.kind]
noncomputable def zqs(te:TE):TS:=λD σ H=>te σ H λ_ H1=>D.nx σ H1
theorem zpV(he:PE X e te)(hs:autoParam (swapsWith e none pos.line X.env=pure false) v3):PS X (.Expr e pos) (zqs te):=by
 intro pins s σ H D I h
 refine wpAny_Expr_any (thn (he pins s σ H _ I h) λv s1 zq=>?_) I.quiet hs
 obtain⟨x,H1,I1,r1,q1⟩:=zq
 exact⟨σ,H1,I1,q1⟩
noncomputable def zsp(te:TE):TS:=λD σ H=>te σ H D.rt
theorem zrq(he:PE X e te):PS X (.Return (some e) pos) (zsp te):=by
 intro pins s σ H D I h
 refine wpAny_Return_some (thn (he pins s σ H _ I h) λv s1 zq=>?_)
 obtain⟨x,H1,I1,r1,q1⟩:=zq
 exact⟨x,σ,H1,I1,r1,q1⟩
noncomputable def zrX(c:TT)(t u:TS):TS:=λD σ H=>c σ H λb H1=>if b=true then t D σ H1 else u D σ H1
theorem zso{c:Expr}{a b:List Stmt}(hc:PT X c tc)(ha:PSs X a t)(hb:PSs X b u):PS X (.If c a b pos) (zrX tc t u):=by
 intro pins s σ H D I h
 refine wpAny_If (thn (hc pins s σ H _ I h) λd s1 zq=>?_)
 obtain⟨H1,I1,q1⟩:=zq
 cases d with
 |true=>exact ha pins s1 σ H1 D I1 q1
 |false=>exact hb pins s1 σ H1 D I1 q1
end
noncomputable abbrev TG:=V->St->Hp->(St->Hp->Prop)->Prop
variable{g2:TG}
noncomputable abbrev TGs:=List V->St->Hp->(St->Hp->Prop)->Prop
variable{tgs:TGs}
def PG(X:Cx)(target:Expr)(t:TG):Prop:=
 ∀(pins:List (Addr×Obj)) (s:Shared) (σ:St) (H:Hp) (v:V) (u:Value) (Q:St->Hp->Prop),Inv X pins σ H s->RelV v u->t v σ H Q->
  wpAny (model X.prog X.w) X.A (assign target X.env u) (λ_ s'=>∃σ' H',Inv X pins σ' H' s'/\Q σ' H') X.xe s
def PGs(X:Cx)(ts:List Expr)(t:TGs):Prop:=
 ∀(pins:List (Addr×Obj)) (s:Shared) (σ:St) (H:Hp) (vs:List V) (us:List Value) (Q:St->Hp->Prop),Inv X pins σ H s->Vals vs us->t vs σ H Q->
  wpAny (model X.prog X.w) X.A (assignInOrder ((assignEach ts X.env).map (·.2)) us) (λ_ s'=>∃σ' H',Inv X pins σ' H' s'/\Q σ' H') X.xe s
noncomputable abbrev zoX:=V->V->V->Hp->(Hp->Prop)->Prop
def zro(X:Cx)(t:zoX):Prop:=
 ∀(pins:List (Addr×Obj)) (s:Shared) (σ:St) (H:Hp) (o i v:V) (ov iv u:Value) (Q:Hp->Prop),Inv X pins σ H s->RelV o ov->RelV i iv->RelV v u->t o i v H Q->
  wpAny (model X.prog X.w) X.A (setItem ov iv u) (λ_ s'=>∃H',Inv X pins σ H' s'/\Q H') X.xe s
noncomputable def zb7(i:Nat):TG:=λv σ H Q=>Q (σ.set i (some v)) H
theorem zkV(hN:X.N.Nodup)(hi:X.N[i]?=some x)(hx:Loc X.env.scope x)(hf:autoParam (X.fn x=true\/X.env.scope.names.lookup x=some .local) r6):PG X (.Name x pos) (zb7 i):=by
 intro pins s σ H v u Q I r h
 exact wpAny_assign_Name (zdg I hN hi hx r (λs' I'=>⟨_,H,I',h⟩) hf)
noncomputable def zsm:TGs:=λvs σ H Q=>vs=[]/\Q σ H
noncomputable def zqn(t:TG)(u:TGs):TGs:=λvs σ H Q=>∃v r,vs=v::r/\t v σ H λσ' H'=>u r σ' H' Q
theorem zpy:PGs X [] zsm:=by
 intro pins s σ H vs us Q I r h
 obtain⟨e,h⟩:=h
 subst e
 cases r
 exact assignInOrder_nil ⟨σ,H,I,h⟩
theorem znn{e:Expr}{t:TG}{u:TGs}(h1:PG X e t)(h2:PGs X es u)
 (hs:autoParam ((assignEach (e::es) X.env).map (·.2)=assign e X.env::(assignEach es X.env).map (·.2)) v3):PGs X (e::es) (zqn t u):=by
 intro pins s σ H vs us Q I r h
 obtain⟨v,vr,e1,h⟩:=h
 subst e1
 cases r with
 |cons r rr=>
  rw[hs]
  refine assignInOrder_cons (thn (h1 pins s σ H _ _ _ I r h) λ_ s1 zq=>?_)
  obtain⟨σ1,H1,I1,q1⟩:=zq
  exact h2 pins s1 σ1 H1 _ _ Q I1 rr q1
noncomputable def zrf(K:W.Frag)(n:Nat)(t:TGs):TG:=λv σ H Q=>∃a xs,v= .ref a/\SqT K H a xs/\xs.length=n/\t xs σ H Q
theorem zrL{k:Nat}{t:TGs}{n:Nat}(hc:X.calm=true)(h:PGs X es t)
 (hn:autoParam ((assignEach es X.env).length=n) v3) (hst:autoParam ((assignEach es X.env).findIdx? (·.1)=none) v3):PG X (.Tuple es k pos) (zrf X.K n t):=by
 intro pins s σ H v u Q I r hw
 obtain⟨a,xs,e1,hq,hl,hw⟩:=hw
 subst e1
 cases r
 obtain⟨its,rv,ht,hz⟩:=I.tuple hq
 refine assign_Tuple_tuple (I.ok.hd hc) ht (by simp[hn,←hl,rv.length]) hst λh' hx=>?_
 have I1:Inv X pins σ H {s with heap:=h'}:=I.kept (t':=s.toks) λb o e=>hx b o (C1 (S0 e)) e
 exact h pins _ σ H xs _ Q I1 (by simpa using rv) hw
noncomputable def zr5(to ti:TE)(t:zoX):TG:=λv σ H Q=>to σ H λo H1=>ti σ H1 λi H2=>t o i v H2 λH3=>Q σ H3
theorem zrn{o i:Expr}{to:TE}{t:zoX}(ho:PE X o to)(hi:PE X i ti)(hs:zro X t)
 (ha:autoParam (∀v,assign (.Subscript o i pos) X.env v=(do
   let ov ←holding [v] (eval o X.env)
   let iv ←holding [v,ov] (eval i X.env)
   standAt pos
   holding [v,ov,iv] (setItem ov iv v)
   release [v,ov,iv] [])) u5):PG X (.Subscript o i pos) (zr5 to ti t):=by
 intro pins s σ H v u Q I r h
 rw[ha]
 refine C0 (wpAny_holding (thn (ho pins s σ H _ I h) λov s1 zq=>?_))
 obtain⟨x,H1,I1,r1,q1⟩:=zq
 refine C0 (wpAny_holding (thn (hi pins s1 σ H1 _ I1 q1) λiv s2 zq=>?_))
 obtain⟨y,H2,I2,r2,q2⟩:=zq
 refine C0 (wpAny_standAt (C0 (wpAny_holding (thn (hs pins s2 σ H2 x y v ov iv u _ I2 r1 r2 r q2) λ_ s3 zq=>?_))))
 obtain⟨H3,I3,q3⟩:=zq
 exact wpAny_release ⟨σ,H3,I3,q3⟩
noncomputable def zjU(te:TE)(g:TG):TS:=λD σ H=>te σ H λx H1=>g x σ H1 D.nx
theorem zra{e:Expr}{g:TG}(he:PE X e te)(hg:PG X tg g)(hs:autoParam (swapsWithSole [tg] e pos.line X.env=pure false) v3)(hw:autoParam (swappedStores [tg] e X.env=pure none) v3)
 (h1:autoParam ((assignEach [tg] X.env).map (·.2)=[assign tg X.env]) v3):PS X (.Assign [tg] e pos) (zjU te g):=by
 intro pins s σ H D I h
 refine wpAny_Assign_stores (thn (he pins s σ H _ I h) λv s1 zq=>?_) hs hw
 obtain⟨x,H1,I1,r1,q1⟩:=zq
 rw[h1]
 exact thn (hg pins s1 σ H1 x v _ I1 r1 q1) λ_ s2 q=>q
theorem zoi{e:Expr}(hN:X.N.Nodup)(hi:X.N[i]?=some x)(hx:Loc X.env.scope x)(he:PE X e te)(hs:autoParam (swapsWith e (some (.Name x pos')) pos.line X.env=pure false) v3)(hf:autoParam (X.fn x=true\/X.env.scope.names.lookup x=some .local) r6):
 PS X (.Assign [.Name x pos'] e pos) (zjU te (zb7 i)):=by
 intro pins s σ H D I h
 refine wpAny_Assign_Name (thn (he pins s σ H _ I h) λv s1 zq=>?_) hs
 obtain⟨y,H1,I1,r1,q1⟩:=zq
 exact zdg I1 hN hi hx r1 (λs2 I2=>⟨_,H1,I2,q1⟩) hf
noncomputable def zsd(i j:Nat)(ta:TA):TS:=λD σ H=>ta σ H λvs H1=>∃v w,vs=[v,w]/\D.nx ((σ.set i (some v)).set j (some w)) H1
theorem zqP{y:Str}{a b:Expr}{kt k2 pt2}(hc:X.calm=true)(hN:X.N.Nodup)(hi:X.N[i]?=some x)(hj:X.N[j]?=some y)(hij:i≠j)
 (hx:X.env.scope.names.lookup x=some .local) (hy:X.env.scope.names.lookup y=some .local) (ha:PA X [a,b] ta)
 (hw:swappedStores [.Tuple [.Name x px, .Name y py] kt pt] (.Tuple [a,b] k2 pt2) X.env=pure (some [x,y]))
 (hs:autoParam (swapsWithSole [.Tuple [.Name x px, .Name y py] kt pt] (.Tuple [a,b] k2 pt2) pos.line X.env=pure false) v3):
 PS X (.Assign [.Tuple [.Name x px, .Name y py] kt pt] (.Tuple [a,b] k2 pt2) pos) (zsd i j ta):=by
 intro pins s σ H D I h
 rw[exec_Assign_arm]
 refine C0 (wpAny_standAt ?_)
 rw[hs]
 refine C0 (K0 ?_)
 rw[N0 ⋯]
 refine C0 (Tuple_ (thn (ha _ pins s σ H _ I h) λus s1 zq=>?_))
 obtain⟨vs,H1,I1,r1,q1⟩:=zq
 obtain⟨v,w,e1,q1⟩:=q1
 subst e1
 obtain⟨u1,u2,rfl,rv,rw'⟩:∃u1 u2,us=[u1,u2]/\RelV v u1/\RelV w u2:=by
  cases r1 with
  |cons p q=>
   cases q with
   |cons p' q'=>
    cases q'
    exact⟨_,_,rfl,p,p'⟩
 refine Y1 ?_ (by show 2<=sizeLine;decide)
 have I2:Inv X pins σ H1 {s1 with heap:=s1.heap.push {cls:= .type "tuple",data:= .seq [u1,u2].toArray}}:=I1.kept (t':=s1.toks) λb o e=>F0 _ e
 rw[hw]
 refine C0 (K0 ?_)
 show wpAny (model X.prog X.w) X.A (do rule "assign.swapped-stores";let items ←unpackItems (.ref s1.heap.objs.size) 2 none;assignInOrder [λv=>bindName X.env y v,λv=>bindName X.env x v] items.reverse;pure Flow.next) _ _ _
 refine C0 (wpAny_rule (C0 (unpackItems_tuple (items:= #[u1,u2]) (I.ok.hd hc) (IsTup.new s1.heap _) λh' hx'=>?_)))
 have I3:=I2.kept (h':=h') (t':=s1.toks) λb o e=>hx' b o (C1 (S0 e)) e
 show wpAny _ _ (assignInOrder [λv=>bindName X.env y v,λv=>bindName X.env x v] [u2,u1]>>=λ_=>pure Flow.next) _ _ _
 refine C0 (assignInOrder_cons (wpAny_bindName (zdg I3 hN hj (.inl hy) rw' (λs2 I4=>?_) (.inr hy))))
 refine assignInOrder_cons (wpAny_bindName (zdg I4 hN hi (.inl hx) rv (λs3 I5=>assignInOrder_nil (K0 ?_)) (.inr hx)))
 rw[List.set_comm _ _ (Ne.symm hij)] at I5
 exact⟨_,H1,I5,q1⟩
structure It where
 go:Nat->Hp->Prop
 yld:Nat->Hp->V->Hp->Prop
 stop:Nat->Hp->Prop
variable{J:It}
def zdZ(X:Cx)(pins:List (Addr×Obj))(H:Hp)(b:Addr):Prop:=
 H b=none/\b≠X.env.locals/\b∉X.fs/\(b∈X.ex\/X.s₀.heap.objs.size<=b)/\(∀x c,X.env.cells.lookup x=some c->c≠b)/\∀p∈X.pn ++pins,p.1≠b
theorem Inv.fpOk{b:Addr}(I:Inv X pins σ H s)(hb:s.heap.objs.size<=b)(hn:H' b=none):zdZ X pins H' b:=by
 refine⟨hn,Nat.ne_of_gt (P1 I.lt hb),I.nofs hb, .inr (K1 I.sz hb),λx c e z=>?_,λp hp z=>?_⟩
 ·obtain ⟨v,q⟩:=I.cell x c e
  exact absurd (P1 q.lt (by rw[z];exact hb)) (Nat.lt_irrefl _)
 ·exact absurd (P1 (S0 (I.pin p hp).1) (by rw[z];exact hb)) (Nat.lt_irrefl _)
structure Turn(P:Program)(w:World)(K:W.Frag)(tg:Expr)(J:It)(fp:List Addr)(it:Addr)(tn:Nat->Heap->Prop):Prop where
 mem:it∈fp
 obj:∀i h,tn i h->∀b∈fp,∃o,h.get? b=some o/\∀v,o.data≠ .cell v
 keep:∀i h h',tn i h->(∀b∈fp,∀o,h.get? b=some o->h'.get? b=some o)->tn i h'
 item:∀(X:Cx),X.prog=P->X.w=w->X.K=K->X.calm=true->∀(i:Nat) (pins:List (Addr×Obj)) (s:Shared) (σ:St) (H:Hp) (E:Value->Shared->Prop),Inv X pins σ H s->(∀b∈fp,zdZ X pins H b)->tn i s.heap->J.go i H->
  wpAny (model P w) X.A (pyNext (.ref it)) (λr s1=>∃u,r=some u/\
   wpAny (model P w) X.A (letOwnedTupleGo tg (.ref it) u) (λ_ s2=>∃x H',Inv X pins σ H' s2/\RelV x u/\J.yld i H x H'/\tn (i+1) s2.heap/\∀b∈fp,H' b=none) E s1) E s
 done:∀(X:Cx),X.prog=P->X.w=w->X.K=K->X.calm=true->∀(i:Nat) (pins:List (Addr×Obj)) (s:Shared) (σ:St) (H:Hp) (E:Value->Shared->Prop),Inv X pins σ H s->(∀b∈fp,zdZ X pins H b)->tn i s.heap->J.stop i H->
   wpAny (model P w) X.A (pyNext (.ref it)) (λr s1=>r=none/\Inv X pins σ H s1) E s
 self:∀(A:Around) (i:Nat) (s:Shared) (Q:Value->Shared->Prop) (E:Value->Shared->Prop),tn i s.heap->Q (.ref it) s->wpAny (model P w) A (pyIter (.ref it)) Q E s
noncomputable abbrev TI:=St->Hp->(It->Hp->Prop)->Prop
variable{wi wi2:TI}
def PIE(X:Cx)(pins:List (Addr×Obj))(σ:St)(tg:Expr)(R:It->Hp->Prop)(itv:Value)(s2:Shared):Prop:=
 ∃(it:Addr) (fp:List Addr) (tn:Nat->Heap->Prop) (J:It) (H':Hp),itv= .ref it/\Inv X pins σ H' s2/\Turn X.prog X.w X.K tg J fp it tn/\tn 0 s2.heap/\(∀b∈fp,zdZ X pins H' b)/\R J H'
def PI(X:Cx)(tg iter:Expr)(wi:TI):Prop:=
 ∀(pins:List (Addr×Obj)) (s:Shared) (σ:St) (H:Hp) (R:It->Hp->Prop),Inv X pins σ H s->wi σ H R->
  wpAny (model X.prog X.w) X.A (eval iter X.env) (λv s1=>wpAny (model X.prog X.w) X.A (pyIter v) (PIE X pins σ tg R) X.xe s1) X.xe s
theorem ziD{o:Obj}{n:String}{vs:Array Value}{Q:Unit->Shared->Prop}(ho:s.heap.get? it=some o)(hc:o.cls= .type n)(hd:o.data= .fields vs)
 (hn:["enumerate","zip","dict_itemiterator","dict_reverseitemiterator","odict_iterator","itertools.zip_longest","itertools.pairwise"].contains n=false) (hQ:Q Unit.unit s):wpAny M A (letOwnedTupleGo tg (.ref it) u) Q E s:=by
 unfold letOwnedTupleGo
 cases tg<;>first
  |exact K0 hQ
  |(cases u<;>first
     |exact K0 hQ
     |(refine C0 (wpAny_load ho ?_)
       rw[hc,hd]
       show wpAny M A (if(["enumerate","zip","dict_itemiterator","dict_reverseitemiterator","odict_iterator","itertools.zip_longest","itertools.pairwise"].contains n&&vs[0]?==some (rawInt _))=true then _ else _) Q E s
       rw[N0 (by intro h;rw[hn,Bool.false_and] at h;cases h)]
       exact K0 hQ))
noncomputable def Itl(K:W.Frag)(a:Addr):It:=
 ⟨λi H=>∃xs x,SqL K H a xs/\xs[i]?=some x,λi H x H'=>H'=H/\∀xs,SqL K H a xs->xs[i]?=some x,λi H=>∃xs,SqL K H a xs/\xs.length<=i⟩
noncomputable def Itt(K:W.Frag)(a:Addr):It:=
 ⟨λi H=>∃xs x,SqT K H a xs/\xs[i]?=some x,λi H x H'=>H'=H/\∀xs,SqT K H a xs->xs[i]?=some x,λi H=>∃xs,SqT K H a xs/\xs.length<=i⟩
noncomputable def Itr(lo:Int)(n:Nat):It:=⟨λi _=>i<n,λi H x H'=>H'=H/\x= .int (lo+i),λi _=>n<=i⟩
theorem zl7(a it:Addr):Turn P w K tg (Itl K a) [it] it (λi h=>h.IsListIter it a i) where
 mem:=`j2
 obj:=λi h st b hb=>by
  have e:b=it:=by simpa using hb
  subst e
  obtain⟨o,e,c,d⟩:=st
  exact⟨o,e,λv z=>by rw[d] at z;cases z⟩
 keep:=λi h h' st k=>st.at λo e=>k it `j2 o e
 item:=by
  intro X hP hw hK hc i pins s σ H E I hf st hg
  subst hP hw hK
  obtain⟨xs,x,hq,hx⟩:=hg
  obtain⟨its,rv,p,hz⟩:=I.list hq
  obtain⟨u,hu,ru⟩:=rv.get hx
  obtain⟨f0,f1,f2,f3,f4,f5⟩:=hf it `j2
  refine wpAny_pyNext_list_item st p.isList (x:=u) (by simpa using hu) λh' st' sb=>?_
  have I1:Inv X pins σ H {s with heap:=h'}:=I.turned (t':=s.toks) (λb o hb e=>(sb.2 b hb).trans e) f0 f1 f3 f4 f5
  obtain⟨o,e,c,d⟩:=id st'
  exact⟨u,rfl,ziD (s:={s with heap:=h'}) e c d ⋯ ⟨x,H,I1,ru,⟨rfl,λys hy=>by rw[I.list_inj hy hq];exact hx⟩,st',λb hb=>(hf b hb).1⟩⟩
 done:=by
   intro X hP hw hK hc i pins s σ H E I hf st hg
   subst hP hw hK
   obtain⟨xs,hq,hx⟩:=hg
   obtain⟨its,rv,p,hz⟩:=I.list hq
   obtain⟨f0,f1,f2,f3,f4,f5⟩:=hf it `j2
   have hl:=rv.length
   exact wpAny_pyNext_list_end (I.ok.hd hc) st p.isList (by simp;lia) λh' eb=>⟨rfl,I.turned (t':=s.toks) (λb o hb e=>eb b o hb e) f0 f1 f3 f4 f5⟩
 self:=λ_ _ _ _ _ st h=>wpAny_pyIter_listiter st h
theorem zj6(a it:Addr):Turn P w K tg (Itt K a) [it] it (λi h=>h.IsTupleIter it a i) where
 mem:=`j2
 obj:=λi h st b hb=>by
  have e:b=it:=by simpa using hb
  subst e
  obtain⟨o,e,c,d⟩:=st
  exact⟨o,e,λv z=>by rw[d] at z;cases z⟩
 keep:=λi h h' st k=>st.at λo e=>k it `j2 o e
 item:=by
  intro X hP hw hK hc i pins s σ H E I hf st hg
  subst hP hw hK
  obtain⟨xs,x,hq,hx⟩:=hg
  obtain⟨its,rv,p,hz⟩:=I.tuple hq
  obtain⟨u,hu,ru⟩:=rv.get hx
  obtain⟨f0,f1,f2,f3,f4,f5⟩:=hf it `j2
  refine wpAny_pyNext_tuple_item st (show s.heap.IsTuple a its.toArray from p) (x:=u) (by simpa using hu) λh' st' sb=>?_
  have I1:Inv X pins σ H {s with heap:=h'}:=I.turned (t':=s.toks) (λb o hb e=>(sb.2 b hb).trans e) f0 f1 f3 f4 f5
  obtain⟨o,e,c,d⟩:=id st'
  exact⟨u,rfl,ziD (s:={s with heap:=h'}) e c d ⋯ ⟨x,H,I1,ru,⟨rfl,λys hy=>by rw[I.tuple_inj hy hq];exact hx⟩,st',λb hb=>(hf b hb).1⟩⟩
 done:=by
   intro X hP hw hK hc i pins s σ H E I hf st hg
   subst hP hw hK
   obtain⟨xs,hq,hx⟩:=hg
   obtain⟨its,rv,p,hz⟩:=I.tuple hq
   obtain⟨f0,f1,f2,f3,f4,f5⟩:=hf it `j2
   have hl:=rv.length
   exact wpAny_pyNext_tuple_end (I.ok.hd hc) st (show s.heap.IsTuple a its.toArray from p) (by simp;lia) λh' eb=>⟨rfl,I.turned (t':=s.toks) (λb o hb e=>eb b o hb e) f0 f1 f3 f4 f5⟩
 self:=λ_ _ _ _ _ st h=>wpAny_pyIter_tupleiter st h
theorem zjQ(it:Addr)(lo:Int)(n:Nat):Turn P w K tg (Itr lo n) [it] it (λi h=>IsRangeIter h it (lo+(i:Nat)*1) ((n:Int) -(i:Nat)) 1) where
 mem:=`j2
 obj:=λi h st b hb=>by
  have e:b=it:=by simpa using hb
  subst e
  exact⟨_,st,λv z=>by
   have z':Data.fields _=Data.cell v:=z
   cases z'⟩
 keep:=λi h h' st k=>k it `j2 _ st
 item:=by
  intro X hP hw hK hc i pins s σ H E I hf st hg
  subst hP hw hK
  obtain⟨f0,f1,f2,f3,f4,f5⟩:=hf it `j2
  have W:=Walks.range (prog:=X.prog) (w:=X.w) (I.ok.hd hc) it lo 1 n
  refine W.item i s _ _ hg st λv h' tk hv st' kk=>?_
  obtain⟨t,rfl⟩:=hv
  have I1:Inv X pins σ H {s with heap:=h',toks:=tk}:=I.turned (λb o hb e=>kk b o (by simpa using hb) e) f0 f1 f3 f4 f5
  refine⟨_,rfl,ziD (s:={s with heap:=h',toks:=tk}) (n:="range_iterator") st' rfl rfl ⋯ ⟨.int (lo+i),H,I1,⟨t,?_⟩,⟨rfl,rfl⟩,st',λb hb=>(hf b hb).1⟩⟩
  rw[Int.mul_one]
 done:=by
   intro X hP hw hK hc i pins s σ H E I hf st hg
   subst hP hw hK
   obtain⟨f0,f1,f2,f3,f4,f5⟩:=hf it `j2
   exact wpAny_pyNext_range_end (I.ok.hd hc) st (by have:n<=i:=hg;lia) λh' eb=>⟨rfl,I.turned (t':=s.toks) (λb o hb e=>eb b o hb e) f0 f1 f3 f4 f5⟩
 self:=λ_ _ _ _ _ st h=>wpAny_pyIter_rangeiter st h
noncomputable def zqh(K:W.Frag)(tl:TE):TI:=λσ H R=>tl σ H λx H1=>∃a,x= .ref a/\(∃xs,SqL K H1 a xs)/\R (Itl K a) H1
noncomputable def zrW(K:W.Frag)(tl:TE):TI:=λσ H R=>tl σ H λx H1=>∃a,x= .ref a/\(∃xs,SqT K H1 a xs)/\R (Itt K a) H1
theorem zpz{l:Expr}(hl:PE X l tl):PI X tg l (zqh X.K tl):=by
 intro pins s σ H R I h
 refine thn (hl pins s σ H _ I h) λv s1 zq=>?_
 obtain⟨x,H1,I1,r1,q1⟩:=zq
 obtain⟨a,e,⟨xs,hq⟩,q⟩:=q1
 subst e
 cases r1
 obtain⟨its,rv,p,hz⟩:=I1.list hq
 refine wpAny_pyIter_list p.isList ?_
 refine⟨s1.heap.objs.size,[s1.heap.objs.size],_,_,H1,rfl,I1.kept (t':=s1.toks) λb o e=>F0 _ e,zl7 a _,⟨_,O0 _ rfl,rfl,rfl⟩,λb hb=>?_,q⟩
 have e:b=s1.heap.objs.size:=by simpa using hb
 subst e
 exact I1.fpOk (R0 _) (I1.hok.fresh (R0 _))
theorem zrM{l:Expr}(hl:PE X l tl):PI X tg l (zrW X.K tl):=by
 intro pins s σ H R I h
 refine thn (hl pins s σ H _ I h) λv s1 zq=>?_
 obtain⟨x,H1,I1,r1,q1⟩:=zq
 obtain⟨a,e,⟨xs,hq⟩,q⟩:=q1
 subst e
 cases r1
 obtain⟨its,rv,p,hz⟩:=I1.tuple hq
 refine wpAny_pyIter_tuple (show s1.heap.IsTuple a its.toArray from p) ?_
 refine⟨s1.heap.objs.size,[s1.heap.objs.size],_,_,H1,rfl,I1.kept (t':=s1.toks) λb o e=>F0 _ e,zj6 a _,⟨_,O0 _ rfl,rfl,rfl⟩,λb hb=>?_,q⟩
 have e:b=s1.heap.objs.size:=by simpa using hb
 subst e
 exact I1.fpOk (R0 _) (I1.hok.fresh (R0 _))
theorem zjz{R:It->Hp->Prop}{lo hi:Int}{t u v:Tok}{tk:Nat}(I:Inv X pins σ H s)(h1: -(2^62)<=lo)(h2:lo<2^62)(h3: -(2^62)<=hi)(h4:hi<2^62)
 (q:R (Itr lo (hi -lo).toNat) H):wpAny (model X.prog X.w) X.A (pyIter (.ref s.heap.objs.size)) (PIE X pins σ tg R) E {s with heap:=s.heap.push {cls:= .type "range",data:= .fields #[.int lo t, .int hi u, .int 1 v]},toks:=tk}:=by
 refine wpAny_pyIter_range (IsRange.new ..) (small_one h1 h2 h3 h4) ?_
 have I1:Inv X pins σ H {s with heap:=s.heap.push {cls:= .type "range",data:= .fields #[.int lo t, .int hi u, .int 1 v]},toks:=tk}:=I.kept λb o e=>F0 _ e
 refine⟨(s.heap.push {cls:= .type "range",data:= .fields #[.int lo t, .int hi u, .int 1 v]}).objs.size,[(s.heap.push {cls:= .type "range",data:= .fields #[.int lo t, .int hi u, .int 1 v]}).objs.size],_,_,H,rfl,
  I1.kept (t':=tk) λb o e=>F0 _ e,zjQ _ lo (hi -lo).toNat,?_,λb hb=>?_,q⟩
 ·have e1:lo+((0:Nat):Int)*1=lo:=`j2
  have e2:(((hi -lo).toNat:Nat):Int) -((0:Nat):Int)=Builtin.Range.rangeSize lo hi 1:=by rw[rangeSize_one];split<;>lia
  show IsRangeIter _ _ (lo+((0:Nat):Int)*1) ((((hi -lo).toNat:Nat):Int) -((0:Nat):Int)) 1
  rw[e1,e2]
  exact O0 _ rfl
 ·have e:b=(s.heap.push {cls:= .type "range",data:= .fields #[.int lo t, .int hi u, .int 1 v]}).objs.size:=by simpa using hb
  subst e
  exact I1.fpOk (R0 _) (I1.hok.fresh (R0 _))
noncomputable def zqz(ta:TA):TI:=λσ H R=>ta σ H λvs H1=>∃j:Int,vs=[.int j]/\-(2^62)<=j/\j<2^62/\R (Itr 0 j.toNat) H1
noncomputable def zqm(ta:TA):TI:=λσ H R=>ta σ H λvs H1=>∃i j:Int,vs=[.int i, .int j]/\(-(2^62)<=i/\i<2^62/\-(2^62)<=j/\j<2^62)/\R (Itr i (j -i).toNat) H1
theorem zmg{a:Expr}{p:Pos}(hg:Gl X "range")(hm:X.mg "range"=none)(ha:PA X [a] ta)(hs:autoParam (starEach [a] X.env=[(false,eval a X.env)]) v3):PI X tg (.Call (.Name "range" p) [a] [] pos) (zqz ta):=by
 intro pins s σ H R I h
 refine Call_ (zfU I hg hm boot_range (PyProof.Rows.callWith_type1 (thn (ha pos pins s σ H _ I h) λus s1 zq=>?_) hs rfl))
 obtain⟨vs,H1,I1,r1,q1⟩:=zq
 obtain⟨j,e,q1,q2,q⟩:=q1
 subst e
 cases r1 with
 |cons r rr=>
  cases rr
  obtain⟨t,rfl⟩:=r
  exact call_range_1 (zjz I1 () () q1 q2 (by simpa using q))
theorem zmw{a b:Expr}{p:Pos}(hg:Gl X "range")(hm:X.mg "range"=none)(ha:PA X [a,b] ta)(hs:autoParam (starEach [a,b] X.env=[(false,eval a X.env),(false,eval b X.env)]) v3)(hs2:autoParam (starEach [b] X.env=[(false,eval b X.env)]) v3):
 PI X tg (.Call (.Name "range" p) [a,b] [] pos) (zqm ta):=by
 intro pins s σ H R I h
 refine Call_ (zfU I hg hm boot_range (PyProof.Rows.callWith_type1 (thn (ha pos pins s σ H _ I h) λus s1 ⟨vs,H1,I1,r1,q1⟩=>?_) (by rw[hs,hs2]) (by rw[hs2];rfl)))
 obtain⟨i,j,e,⟨q1,q2,q3,q4⟩,q⟩:=q1
 subst e
 cases r1 with
 |cons r rr=>
  cases rr with
  |cons r' rr=>
   cases rr
   obtain⟨t,rfl⟩:=r
   obtain⟨t',rfl⟩:=r'
   exact call_range_2 (zjz I1 q1 q2 q3 q4 q)
noncomputable def zsK(wi:TI)(g:TG)(tb:TS):TS:=λD σ H=>wi σ H λJ H1=>∃W:Nat->Nat->St->Hp->Prop,(∃m,W 0 m σ H1)/\∀i m σ H,W i m σ H->
 (J.stop i H/\D.nx σ H)\/(J.go i H/\∃N:St->Hp->Prop,(∀σ' H',N σ' H'->∃m',m'<m/\W (i+1) m' σ' H')/\∀x H',J.yld i H x H'->g x σ H' λσ2 H2=>tb {D with nx:=N,ct:=N,bk:=D.nx} σ2 H2)
noncomputable def zee(fp:List Addr)(h:Heap):List (Addr×Obj):=fp.filterMap λb=>(h.get? b).map λo=>(b,o)
theorem zaj{h:Heap}{b:Addr}{o:Obj}(hb:b∈fp)(e:h.get? b=some o):(b,o)∈zee fp h:=List.mem_filterMap.mpr ⟨b,hb,by rw[e];rfl⟩
theorem zmA{h:Heap}{p:Addr×Obj}(hp:p∈zee fp h):p.1∈fp/\h.get? p.1=some p.2:=by
 obtain⟨b,hb,e⟩:=List.mem_filterMap.mp hp
 cases q:h.get? b with
 |none=>rw[q] at e;cases e
 |some o=>
  rw[q] at e
  have e':(b,o)=p:=O1 e
  subst e'
  exact⟨hb,q⟩
theorem Inv.pinned(I:Inv X pins σ H s)(hf:∀b∈fp,zdZ X pins H b)(ho:∀b∈fp,∃o,s.heap.get? b=some o/\∀v,o.data≠ .cell v):Inv X (pins ++zee fp s.heap) σ H s:=
 I.pins_of λp hp=>(N2.mp hp).elim (λz=>I.pin p (F1 _ z)) λz=>by
  obtain⟨hb,e⟩:=zmA z
  obtain⟨f0,f1,f2,_⟩:=hf p.1 hb
  obtain⟨o,e',d⟩:=ho p.1 hb
  rw[e] at e';cases e'
  exact⟨e,f0,f1,f2,d⟩
theorem Inv.unpinned{pl:List (Addr×Obj)}(I:Inv X (pins ++pl) σ H s):Inv X pins σ H s:=I.pins_of λp hp=>I.pin p (F1 _ (List.mem_append_left _ hp))
theorem zqK{g:TG}(hp:PassesOwn (model X.prog X.w) X.A X.env X.xe)(hc:X.calm=true)(hi:PI X tg iter wi)(hg:PG X tg g)(hb:PSs X body tb)
 (hs:autoParam (∀x,foldedSetIterable iter X.env x=pure x) u5):PS X (.For tg iter body [] pos) (zsK wi g tb):=by
 intro pins s σ H D I h
 refine wpAny_For (thn (hi pins s σ H _ I h) λv s1 h1=>thn h1 λitv s2 h2=>?_) hs
 obtain⟨it,fp,tn,J,H2,e,I2,T,st2,f2,W,⟨m0,w0⟩,turn⟩:=h2
 subst e
 have stat:∀{H':Hp},(∀b∈fp,H' b=none)->∀b∈fp,zdZ X pins H' b:=λhn b hb=>⟨hn b hb,(f2 b hb).2⟩
 refine codeAny_forLoop_any (λn s'=>∃i σ' H',Inv X pins σ' H' s'/\tn i s'.heap/\(∀b∈fp,H' b=none)/\W i n σ' H') ?_ m0 ⟨0,σ,H2,I2,st2,λb hb=>(f2 b hb).1,w0⟩
 rintro n s3 ⟨i,σ3,H3,I3,st3,fr3,w3⟩
 rcases turn i n σ3 H3 w3 with⟨stop,qn⟩|⟨go,N,hN,step⟩
 ·refine wpAny_passesOwn hp (thn (T.done X rfl rfl rfl hc i pins s3 σ3 H3 X.xe I3 (stat fr3) st3 stop) λr s4 zq=>?_)
  obtain⟨hr,I4⟩:=zq
  subst hr
  exact wpAny_execs_nil ⟨σ3,H3,I4,qn⟩
 ·refine wpAny_passesOwn hp (thn (T.item X rfl rfl rfl hc i pins s3 σ3 H3 X.xe I3 (stat fr3) st3 go) λr s4 zq=>?_)
  obtain⟨u,hr,h4⟩:=zq
  subst hr
  refine wpAny_passesOwn hp (thn h4 λ_ s5 zq=>?_)
  obtain⟨x,H5,I5,r5,y5,st5,fr5⟩:=zq
  have I5':=I5.pinned (stat fr5) (T.obj _ _ st5)
  refine wpAny_passesOwn hp (thn (hg _ s5 σ3 H5 x u _ I5' r5 (step x H5 y5)) λ_ s6 zq=>?_)
  obtain⟨σ6,H6,I6,q6⟩:=zq
  refine wpAny_passesOwn hp (thn (hb _ s6 σ6 H6 _ I6 q6) λf s7 q7=>?_)
  have again:∀{σ7:St} {H7:Hp},Inv X (pins ++zee fp s5.heap) σ7 H7 s7->N σ7 H7->∃m,m<n/\∃i σ' H',Inv X pins σ' H' s7/\tn i s7.heap/\(∀b∈fp,H' b=none)/\W i m σ' H':=λ{σ7 H7} I7 n7=>by
   obtain⟨m',hm,w7⟩:=hN σ7 H7 n7
   refine⟨m',hm,i+1,σ7,H7,I7.unpinned,T.keep _ _ _ st5 λb hb o e=>(I7.pin (b,o) (F1 _ (F1 _ (zaj hb e)))).1,λb hb=>?_,w7⟩
   obtain⟨o,e,d⟩:=T.obj _ _ st5 b hb
   exact(I7.pin (b,o) (F1 _ (F1 _ (zaj hb e)))).2.1
  cases f with
  |next=>obtain ⟨σ7,H7,I7,n7⟩:=q7;exact again I7 n7
  |cont=>obtain ⟨σ7,H7,I7,n7⟩:=q7;exact again I7 n7
  |brk=>obtain ⟨σ7,H7,I7,q7⟩:=q7;exact⟨σ7,H7,I7.unpinned,q7⟩
  |ret v=>obtain ⟨x7,σ7,H7,I7,r7,q7⟩:=q7;exact⟨x7,σ7,H7,I7.unpinned,r7,q7⟩
noncomputable abbrev R2:=V->V->Hp->VK->Prop
variable{r':R2}
def OpR(X:Cx)(f:Value->Value->Sem Value)(r:R2):Prop:=
 ∀(pins:List (Addr×Obj)) (s:Shared) (σ:St) (H:Hp) (x y:V) (v u:Value) (Q:VK),Inv X pins σ H s->RelV x v->RelV y u->r x y H Q->
  wpAny (model X.prog X.w) X.A (f v u) (EP X pins σ Q) X.xe s
def UnR(X:Cx)(f:Value->Sem Value)(r:V->Hp->VK->Prop):Prop:=
 ∀(pins:List (Addr×Obj)) (s:Shared) (σ:St) (H:Hp) (x:V) (v:Value) (Q:VK),Inv X pins σ H s->RelV x v->r x H Q->
  wpAny (model X.prog X.w) X.A (f v) (EP X pins σ Q) X.xe s
def CallR(X:Cx)(f:Value)(r:List V->Hp->VK->Prop):Prop:=
 ∀(pins:List (Addr×Obj)) (s:Shared) (σ:St) (H:Hp) (xs:List V) (us:List Value) (Q:VK),Inv X pins σ H s->Vals xs us->r xs H Q->
  wpAny (model X.prog X.w) X.A (call f us) (EP X pins σ Q) X.xe s
def zsC(X:Cx)(r:V->Hp->(Bool->Hp->Prop)->Prop):Prop:=
 ∀(pins:List (Addr×Obj)) (s:Shared) (σ:St) (H:Hp) (x:V) (v:Value) (Q:Bool->Hp->Prop),Inv X pins σ H s->RelV x v->r x H Q->
  wpAny (model X.prog X.w) X.A (truthy v) (TP X pins σ Q) X.xe s
noncomputable def tOp(r:R2)(ta tb:TE):TE:=λσ H Q=>ta σ H λx H1=>tb σ H1 λy H2=>r x y H2 Q
def tUn(r:V->Hp->VK->Prop)(ta:TE):TE:=λσ H Q=>ta σ H λx H1=>r x H1 Q
def rI(C:Int->Int->Prop)(g:Int->Int->V):R2:=λx y H Q=>∃i j,x= .int i/\y= .int j/\C i j/\Q (g i j) H
noncomputable def rI0(g:Int->Int->V):R2:=λx y H Q=>∃i j,x= .int i/\y= .int j/\Q (g i j) H
def rU(g:Int->V):V->Hp->VK->Prop:=λx H Q=>∃i,x= .int i/\Q (g i) H
section
variable{a b c:Expr}{ta tb tc:TE}
theorem zrH(ha:PE X a ta)(hb:PE X b tb){R:V->V->Hp->Prop}(I:Inv X pins σ H s)
 (h:ta σ H λx H1=>tb σ H1 λy H2=>R x y H2)  {f:Value->Value->Sem Value}
 (hf:∀v u s2 x y H2,Inv X pins σ H2 s2->RelV x v->RelV y u->R x y H2->wpAny (model X.prog X.w) X.A (f v u) Q X.xe s2):
 wpAny (model X.prog X.w) X.A (eval a X.env) (λv s₁=>wpAny (model X.prog X.w) X.A (eval b X.env) (λu s₂=>wpAny (model X.prog X.w) X.A (f v u) Q X.xe s₂) X.xe s₁) X.xe s:=by
 refine thn (ha pins s σ H _ I h) λv s1 zq=>?_
 obtain⟨x,H1,I1,r1,q1⟩:=zq
 refine thn (hb pins s1 σ H1 _ I1 q1) λu s2 zq=>?_
 obtain⟨y,H2,I2,r2,q2⟩:=zq
 exact hf v u s2 x y H2 I2 r1 r2 q2
theorem zr4{op:Operator}{r:R2}(ho:OpR X (binaryOp op) r)(ha:PE X a ta)(hb:PE X b tb):PE X (.BinOp a op b pos) (tOp r ta tb):=by
 intro pins s σ H Q I h
 exact wpAny_BinOp (zrH ha hb I h λv u s2 x y H2 I2 rx ry q=>ho pins s2 σ H2 x y v u Q I2 rx ry q)
theorem zsw{op:UnaryOp}{r:V->Hp->VK->Prop}(ho:UnR X (unaryOp op) r)(ha:PE X a ta):PE X (.UnaryOp op a pos) (tUn r ta):=by
 intro pins s σ H Q I h
 refine UnaryOp_ (thn (ha pins s σ H _ I h) λv s1 zq=>?_)
 obtain⟨x,H1,I1,r1,q1⟩:=zq
 exact ho pins s1 σ H1 x v Q I1 r1 q1
theorem opI{f:Value->Value->Sem Value}{C:Int->Int->Prop}{g:Int->Int->Int}
 (rule:∀(i j:Int) (t u:Tok) (s:Shared) (Q:Value->Shared->Prop) (E:Value->Shared->Prop),C i j->Q (.int (g i j) s.toks) {s with toks:=s.toks+1}->wpAny (model X.prog X.w) X.A (f (.int i t) (.int j u)) Q E s):
 OpR X f (rI C λi j=> .int (g i j)):=by
 intro pins s σ H x y v u Q I rx ry h
 obtain⟨i,j,rfl,rfl,hc,q⟩:=h
 obtain⟨t,rfl⟩:=rx
 obtain⟨t',rfl⟩:=ry
 exact rule i j t t' s _ _ hc ⟨.int (g i j),H,I.tok _,⟨_,rfl⟩,q⟩
theorem zsh{f:Value->Value->Sem Value}{g:Int->Int->Int}
 (rule:∀(i j:Int) (t u:Tok) (s:Shared) (Q:Value->Shared->Prop) (E:Value->Shared->Prop),Q (.int (g i j) s.toks) {s with toks:=s.toks+1}->wpAny (model X.prog X.w) X.A (f (.int i t) (.int j u)) Q E s):
 OpR X f (rI0 λi j=> .int (g i j)):=by
 intro pins s σ H x y v u Q I rx ry h
 obtain⟨i,j,rfl,rfl,q⟩:=h
 obtain⟨t,rfl⟩:=rx
 obtain⟨t',rfl⟩:=ry
 exact rule i j t t' s _ _ ⟨.int (g i j),H,I.tok _,⟨_,rfl⟩,q⟩
theorem zoO{f:Value->Value->Sem Value}{g:Int->Int->Bool}
 (rule:∀(i j:Int) (t u:Tok) (s:Shared) (Q:Value->Shared->Prop) (E:Value->Shared->Prop),Q (.bool (g i j)) s->wpAny (model X.prog X.w) X.A (f (.int i t) (.int j u)) Q E s):
 OpR X f (rI0 λi j=> .bl (g i j)):=by
 intro pins s σ H x y v u Q I rx ry h
 obtain⟨i,j,rfl,rfl,q⟩:=h
 obtain⟨t,rfl⟩:=rx
 obtain⟨t',rfl⟩:=ry
 exact rule i j t t' s _ _ ⟨.bl (g i j),H,I,rfl,q⟩
def zsz(i j:Int):Prop:=0<j/\j<1073741824
def zsc(i j:Int):Prop:=0<=j/\j<=1000000/\i.natAbs<2^64
def CMul(i j:Int):Prop:=(-(2^64)<i/\i<2^64)\/(-(2^64)<j/\j<2^64)
theorem CMul.ok{i j:Int}(h:CMul i j):IntMulOk i j:=by
 rcases h with⟨h1,h2⟩|⟨h1,h2⟩
 ·exact .of_left (intBits_le_64 h1 h2)
 ·exact .of_right (intBits_le_64 h1 h2)
theorem zj0(k:Nat):(0:Int)<=2^k:=by
 rw[two_pow_cast]
 exact Int.natCast_nonneg _
theorem z8:OpR X (binaryOp .Add) (rI0 λi j=> .int (i+j)):=zsh λ_ _ _ _ _ _ _ q=>add_int q
theorem znC:OpR X (binaryOp .Sub) (rI0 λi j=> .int (i -j)):=zsh λ_ _ _ _ _ _ _ q=>sub_int q
theorem za0:OpR X (binaryOp .Mult) (rI CMul λi j=> .int (i*j)):=opI λ_ _ _ _ _ _ _ hc q=>mul_int q hc.ok
theorem zhI:OpR X (binaryOp .FloorDiv) (rI zsz λi j=> .int (i/j)):=opI λi j _ _ _ _ _ hc q=>by
 have h1:(0:Int)<j:=hc.1
 have h2:j<1073741824:=hc.2
 exact floordiv_int () (by rw[Int.fdiv_eq_ediv_of_nonneg i ()];exact q) (.inl (PyProof.noPylong_small ()))
theorem zbq:OpR X (binaryOp .Mod) (rI (λ_ j=>0<j) λi j=> .int (i%j)):=opI λi j _ _ _ _ _ hc q=>by
 have h1:(0:Int)<j:=hc
 exact mod_int' () (by rw[Int.fmod_eq_emod_of_nonneg i ()];exact q)
theorem zgr:OpR X (binaryOp .Pow) (rI zsc λi j=> .int (i^j.toNat)):=opI λ_ _ _ _ _ _ _ hc q=>pow_int_small hc.1 hc.2.1 hc.2.2 q
theorem unI{f:Value->Sem Value}{g:Int->Int}
 (rule:∀(i:Int) (t:Tok) (s:Shared) (Q:Value->Shared->Prop) (E:Value->Shared->Prop),Q (.int (g i) s.toks) {s with toks:=s.toks+1}->wpAny (model X.prog X.w) X.A (f (.int i t)) Q E s):
 UnR X f (rU λi=> .int (g i)):=by
 intro pins s σ H x v Q I rx h
 obtain⟨i,rfl,q⟩:=h
 obtain⟨t,rfl⟩:=rx
 exact rule i t s _ _ ⟨.int (g i),H,I.tok _,⟨_,rfl⟩,q⟩
theorem zhC:UnR X (unaryOp .USub) (rU λi=> .int (-i)):=unI λ_ _ _ _ _ q=>neg_int q
end
noncomputable def zqQ:V->V->Bool
 | .non, .non=>true| .non, .int _=>true| .int _, .non=>true| .non, .bl _=>true| .bl _, .non=>true| .non, .str _=>true| .str _, .non=>true
 | .int _, .int _=>true| .bl _, .bl _=>true| .str _, .str _=>true| .byt _, .byt _=>true
 | .int _, .str _=>true| .str _, .int _=>true| .bl _, .str _=>true| .str _, .bl _=>true
 |_,_=>false
noncomputable def rEq:R2:=λx y H Q=>zqQ x y=true/\Q (.bl (decide (x=y))) H
noncomputable def rNe:R2:=λx y H Q=>zqQ x y=true/\Q (.bl (!decide (x=y))) H
theorem zkT{i j:Int}:decide (V.int i=V.int j)=(i==j):=by
 rw[Bool.eq_iff_iff]
 simp
theorem znJ{i j:Bool}:decide (V.bl i=V.bl j)=(i==j):=by
 rw[Bool.eq_iff_iff]
 simp
theorem zlr{i j:Str}:decide (V.str i=V.str j)=(i==j):=by
 rw[Bool.eq_iff_iff]
 simp
theorem zkP{i j:Array UInt8}:decide (V.byt i=V.byt j)=(i.toList==j.toList):=by
 rw[Bool.eq_iff_iff]
 cases i
 cases j
 simp
section
variable{a b c:Expr}{ta tb tc:TE}
theorem zE{Q:VK}{k k':Bool}(I:Inv X pins σ H s)(q:Q (.bl k) H)(e:k=k'):EP X pins σ Q (.bool k') s:=by
 subst e
 exact⟨.bl k,H,I,rfl,q⟩
theorem zav:OpR X (compareOp .Eq) rEq:=by
 intro pins s σ H x y v u Q I rx ry h
 obtain⟨hs,q⟩:=h
 cases x with
 |non=>
  cases rx
  cases y with
  |non=>cases ry;exact EqNone.eq_none_none (zE I q `j2)
  |bl j=>cases ry;exact EqNone.eq_none_bool (zE I q `j2)
  |int j=>obtain ⟨t',rfl⟩:=ry;exact EqNone.eq_none_int (zE I q `j2)
  |str j=>obtain ⟨t',rfl⟩:=ry;exact EqNone.eq_none_str (zE I q `j2)
  |_=>exact absurd (show false=true from hs) E1
 |bl i=>
  cases rx
  cases y with
  |non=>cases ry;exact EqNone.eq_bool_none (zE I q `j2)
  |bl j=>cases ry;exact eq_bool (zE I q znJ)
  |str j=>obtain ⟨t',rfl⟩:=ry;exact EqMixed.eq_bool_str (zE I q `j2)
  |_=>exact absurd (show false=true from hs) E1
 |int i=>
  obtain⟨t,rfl⟩:=rx
  cases y with
  |non=>cases ry;exact EqNone.eq_int_none (zE I q `j2)
  |int j=>obtain ⟨t',rfl⟩:=ry;exact eq_int (zE I q zkT)
  |str j=>obtain ⟨t',rfl⟩:=ry;exact EqMixed.eq_int_str (zE I q `j2)
  |_=>exact absurd (show false=true from hs) E1
 |str i=>
  obtain⟨t,rfl⟩:=rx
  cases y with
  |non=>cases ry;exact EqNone.eq_str_none (zE I q `j2)
  |bl j=>cases ry;exact EqMixed.eq_str_bool (zE I q `j2)
  |int j=>obtain ⟨t',rfl⟩:=ry;exact EqMixed.eq_str_int (zE I q `j2)
  |str j=>obtain ⟨t',rfl⟩:=ry;exact eq_str (zE I q zlr)
  |_=>exact absurd (show false=true from hs) E1
 |byt i=>
  obtain⟨t,rfl⟩:=rx
  cases y with
  |byt j=>obtain ⟨t',rfl⟩:=ry;exact W.eq_bytes (zE I q zkP)
  |_=>exact absurd (show false=true from hs) E1
 |_=>cases y<;>exact absurd (show false=true from hs) E1
theorem znL:OpR X (compareOp .NotEq) rNe:=by
 intro pins s σ H x y v u Q I rx ry h
 obtain⟨hs,q⟩:=h
 cases x with
 |non=>
  cases rx
  cases y with
  |non=>cases ry;exact EqNone.ne_none_none (zE I q `j2)
  |bl j=>cases ry;exact EqNone.ne_none_bool (zE I q `j2)
  |int j=>obtain ⟨t',rfl⟩:=ry;exact EqNone.ne_none_int (zE I q `j2)
  |str j=>obtain ⟨t',rfl⟩:=ry;exact EqNone.ne_none_str (zE I q `j2)
  |_=>exact absurd (show false=true from hs) E1
 |bl i=>
  cases rx
  cases y with
  |non=>cases ry;exact EqNone.ne_bool_none (zE I q `j2)
  |bl j=>cases ry;exact ne_bool (zE I q (T2 not znJ))
  |str j=>obtain ⟨t',rfl⟩:=ry;exact EqMixed.ne_bool_str (zE I q `j2)
  |_=>exact absurd (show false=true from hs) E1
 |int i=>
  obtain⟨t,rfl⟩:=rx
  cases y with
  |non=>cases ry;exact EqNone.ne_int_none (zE I q `j2)
  |int j=>obtain ⟨t',rfl⟩:=ry;exact ne_int (zE I q (T2 not zkT))
  |str j=>obtain ⟨t',rfl⟩:=ry;exact EqMixed.ne_int_str (zE I q `j2)
  |_=>exact absurd (show false=true from hs) E1
 |str i=>
  obtain⟨t,rfl⟩:=rx
  cases y with
  |non=>cases ry;exact EqNone.ne_str_none (zE I q `j2)
  |bl j=>cases ry;exact EqMixed.ne_str_bool (zE I q `j2)
  |int j=>obtain ⟨t',rfl⟩:=ry;exact EqMixed.ne_str_int (zE I q `j2)
  |str j=>obtain ⟨t',rfl⟩:=ry;exact ne_str (zE I q (T2 not zlr))
  |_=>exact absurd (show false=true from hs) E1
 |byt i=>
  obtain⟨t,rfl⟩:=rx
  cases y with
  |byt j=>obtain ⟨t',rfl⟩:=ry;exact W.ne_bytes (zE I q (T2 not zkP))
  |_=>exact absurd (show false=true from hs) E1
 |_=>cases y<;>exact absurd (show false=true from hs) E1
theorem zoq:OpR X (compareOp .Lt) (rI0 λi j=> .bl (decide (i<j))):=zoO λ_ _ _ _ _ _ _ q=>lt_int q
theorem zix:OpR X (compareOp .LtE) (rI0 λi j=> .bl (decide (i<=j))):=zoO λ_ _ _ _ _ _ _ q=>le_int q
theorem zli:OpR X (compareOp .Gt) (rI0 λi j=> .bl (decide (j<i))):=zoO λ_ _ _ _ _ _ _ q=>gt_int q
theorem zqt:OpR X (compareOp .GtE) (rI0 λi j=> .bl (decide (j<=i))):=zoO λ_ _ _ _ _ _ _ q=>ge_int q
theorem zj1:OpR X (compareOp .Is) (λx y H Q=>y= .non/\Q (.bl (decide (x= .non))) H):=by
 intro pins s σ H x y v u Q I rx ry h
 obtain⟨rfl,q⟩:=h
 cases ry
 refine is_none_gen (zE I q ?_)
 cases x<;>first
  |(cases rx;rfl)
  |(obtain⟨t,rfl⟩:=rx;rfl)
theorem zp7:OpR X (compareOp .IsNot) (λx y H Q=>y= .non/\Q (.bl (!decide (x= .non))) H):=by
 intro pins s σ H x y v u Q I rx ry h
 obtain⟨rfl,q⟩:=h
 cases ry
 refine isnot_none_gen (zE I q ?_)
 cases x<;>first
  |(cases rx;rfl)
  |(obtain⟨t,rfl⟩:=rx;rfl)
theorem zqb{r:R2}(ho:OpR X (compareOp op) r)(ha:PE X a ta)(hb:PE X b tb)(hm:behindInMarks op b=false):PE X (.Compare a [op] [b] pos) (tOp r ta tb):=by
 intro pins s σ H Q I h
 exact wpAny_Compare1 (zrH ha hb I h λv u s2 x y H2 I2 rx ry q=>ho pins s2 σ H2 x y v u Q I2 rx ry q) hm
noncomputable def zls(t:TE):TT:=λσ H Q=>t σ H λx H'=>∃k,x= .bl k/\Q k H'
theorem zpo{r:R2}(ho:OpR X (compareOp op) r)(ha:PE X a ta)(hb:PE X b tb)(hm:behindInMarks op b=false):PT X (.Compare a [op] [b] pos) (zls (tOp r ta tb)):=by
 intro pins s σ H Q I h
 refine wpAny_isTrue_Compare1 (thn (ha pins s σ H _ I h) λv s1 ⟨x,H1,I1,r1,q1⟩=>thn (hb pins s1 σ H1 _ I1 q1) λu s2 ⟨y,H2,I2,r2,q2⟩=>
  thn (ho pins s2 σ H2 x y v u _ I2 r1 r2 q2) λc s3 ⟨z,H3,I3,r3,k,e,q3⟩=>?_) hm
 subst e
 cases r3
 exact wpAny_truthy_bool ⟨H3,I3,q3⟩
noncomputable def zis(r r':R2)(ta tb tc:TE):TE:=λσ H Q=>ta σ H λx H1=>tb σ H1 λy H2=>r x y H2 λz H3=>∃k,z= .bl k/\
 (if k=true then tc σ H3 λw' H4=>r' y w' H4 Q else Q (.bl false) H3)
theorem znk{r:R2}(ho:OpR X (compareOp op) r)(ho':OpR X (compareOp op') r')(ha:PE X a ta)(hb:PE X b tb)(hc:PE X c tc)
 (hm:autoParam (lastMarks [op,op'] [b,c]=false) u6):PE X (.Compare a [op,op'] [b,c] pos) (zis r r' ta tb tc):=by
 intro pins s σ H Q I h
 refine Compare_chain (thn (ha pins s σ H _ I h) λv s1 ⟨x,H1,I1,r1,q1⟩=>chain_link (thn (hb pins s1 σ H1 _ I1 q1) λu s2 ⟨y,H2,I2,r2,q2⟩=>
  thn (ho pins s2 σ H2 x y v u _ I2 r1 r2 q2) λd s3 ⟨z,H3,I3,r3,k,e,q3⟩=>?_)) hm
 subst e
 cases r3
 refine wpAny_truthy_bool ?_
 cases k with
 |false=>exact ite_ff ⟨.bl false,H3,I3,rfl,q3⟩
 |true=>exact ite_tt (chain_last (thn (hc pins s3 σ H3 _ I3 q3) λw' s4 ⟨z',H4,I4,r4,q4⟩=>ho' pins s4 σ H4 y z' u w' Q I4 r2 r4 q4))
theorem znO{r:R2}(ho:OpR X (compareOp op) r)(ho':OpR X (compareOp op') r')(ha:PE X a ta)(hb:PE X b tb)(hc:PE X c tc)
 (hm:autoParam (lastMarks [op,op'] [b,c]=false) u6):PT X (.Compare a [op,op'] [b,c] pos) (zls (zis r r' ta tb tc)):=by
 intro pins s σ H Q I h
 refine isTrue_chain (thn (ha pins s σ H _ I h) λv s1 ⟨x,H1,I1,r1,q1⟩=>test_link (thn (hb pins s1 σ H1 _ I1 q1) λu s2 ⟨y,H2,I2,r2,q2⟩=>
  thn (ho pins s2 σ H2 x y v u _ I2 r1 r2 q2) λd s3 ⟨z,H3,I3,r3,k,e,q3⟩=>?_)) hm
 subst e
 cases r3
 refine wpAny_truthy_bool ?_
 cases k with
 |false=>
  obtain⟨k',e',q'⟩:=q3
  cases e'
  exact ite_ff ⟨H3,I3,q'⟩
 |true=>
  refine ite_tt (test_last (thn (hc pins s3 σ H3 _ I3 q3) λw' s4 zq=>?_))
  obtain⟨z',H4,I4,r4,q4⟩:=zq
  refine thn (ho' pins s4 σ H4 y z' u w' _ I4 r2 r4 q4) λd' s5 zq1=>?_
  obtain⟨z2,H5,I5,r5,k2,e2,q5⟩:=zq1
  subst e2
  cases r5
  exact wpAny_truthy_bool ⟨H5,I5,q5⟩
def zrm(K:W.Frag)(x:V)(H:Hp)(k:Bool):Prop:=
 match x with
 | .non=>k=false
 | .bl b=>k=b
 | .int i=>k=(i !=0)
 | .str y=>y.length<=sizeLine/\k=((y.length:Int) !=0)
 | .byt y=>y.size<=sizeLine/\k=((y.size:Int) !=0)
 | .ref p=>(∃xs,SqL K H p xs/\k=!xs.isEmpty)\/(∃xs,SqT K H p xs/\k=!xs.isEmpty)\/∃kvs,H p=some (.dK kvs)/\k=!kvs.isEmpty
 |_=>False
theorem zkE{kvs:List (κ×V)}{vs:List (κ×Value)}(r:KV kvs vs):(!vs.isEmpty)=!kvs.isEmpty:=by
 cases r<;>rfl
theorem zga(r:Vals xs its):(!its.toArray.isEmpty)=!xs.isEmpty:=by
 cases r<;>simp
theorem zd7:(sizeLine:Nat)<2^63:=by rw[sizeLine_eq];decide
theorem zrK:zsC X (λx H Q=>∃k,zrm X.K x H k/\Q k H):=by
 intro pins s σ H x v Q I rx h
 obtain⟨k,e,q⟩:=h
 have hl:=zd7
 have hs:sizeLine=16777216:=sizeLine_eq
 cases x with
 |non=>
  cases rx
  have e':k=false:=e
  subst e'
  exact truthy_none ⟨H,I,q⟩
 |bl b=>
  cases rx
  have e':k=b:=e
  subst e'
  exact wpAny_truthy_bool ⟨H,I,q⟩
 |int i=>
  obtain⟨t,rfl⟩:=rx
  have e':k=(i !=0):=e
  subst e'
  exact P.truthy_int ⟨H,I,q⟩
 |str y=>
  obtain⟨t,rfl⟩:=rx
  obtain⟨hy,e'⟩:y.length<=sizeLine/\k=((y.length:Int) !=0):=e
  subst e'
  exact P.truthy_str () ⟨H,I.tok _,q⟩
 |byt y=>
  obtain⟨t,rfl⟩:=rx
  obtain⟨hy,e'⟩:y.size<=sizeLine/\k=((y.size:Int) !=0):=e
  subst e'
  exact W.truthy_bytes () ⟨H,I.tok _,q⟩
 |ref p=>
  cases rx
  have e':(∃xs,SqL X.K H p xs/\k=!xs.isEmpty)\/(∃xs,SqT X.K H p xs/\k=!xs.isEmpty)\/∃kvs,H p=some (.dK kvs)/\k=!kvs.isEmpty:=e
  rcases e' with⟨xs,hx,e'⟩|⟨xs,hx,e'⟩|⟨kvs,hx,e'⟩
  ·subst e'
   obtain⟨its,r,pl,hz⟩:=I.list hx
   have hlen:=r.length
   exact wpAny_truthy_list pl.isList (by simp only[Y0];lia) ⟨H,I.tok _,by rw[zga r];exact q⟩
  ·subst e'
   obtain⟨its,r,pl,hz⟩:=I.tuple hx
   have hlen:=r.length
   exact truthy_tuple pl (by simp only[Y0];lia) ⟨H,I.tok _,by rw[zga r];exact q⟩
  ·subst e'
   obtain⟨hz,hS,vs,r,m⟩:kvs.length<=sizeLine/\(p==sysModules)=false/\∃vs,KV kvs vs/\s.heap.DictOf (zM X.prog X.w) p vs:=I.hok p _ hx
   have hlen:kvs.length=vs.length:=Paired.length r
   exact wpAny_truthy_dict hS m () ⟨H,I.tok _,by rw[zkE r];exact q⟩
 |_=>exact (show False from e).elim
theorem zov(ha:PE X a ta)(he:∀whole,isTrue a X.env whole=(do let v ←whole;standAt a.pos;holding [v] (truthy v))):
 PT X a (λσ H Q=>ta σ H λx H'=>∃k,zrm X.K x H' k/\Q k H'):=by
 intro pins s σ H Q I h
 refine isTrue_plain (thn (ha pins s σ H _ I h) λv s1 zq=>?_) (he _)
 obtain⟨x,H1,I1,r1,q1⟩:=zq
 exact zrK pins s1 σ H1 x v Q I1 r1 q1
theorem zcu{x:V}{us:List Value}(r:Vals [x] us):∃u,us=[u]/\RelV x u:=by
 cases r with
 |cons r1 r2=>cases r2;exact⟨_,rfl,r1⟩
theorem zg1{x:V}{us:List Value}(r:Vals [x,y] us):∃u w',us=[u,w']/\RelV x u/\RelV y w':=by
 cases r with
 |cons r1 r2=>
  cases r2 with
  |cons r3 r4=>cases r4;exact⟨_,_,rfl,r1,r3⟩
theorem ze8(hc:X.calm=true):CallR X (.builtin "min") (λxs H Q=>∃i j,xs=[.int i, .int j]/\Q (.int (if j<i then j else i)) H):=by
 intro pins s σ H xs us Q I r h
 obtain⟨i,j,rfl,q⟩:=h
 obtain⟨u,w',rfl,⟨t,rfl⟩,⟨t',rfl⟩⟩:=zg1 r
 refine min_two_ints (I.ok.hd hc) λh' tk k=>⟨_,H,I.kept k,?_,q⟩
 by_cases hj:j<i
 ·rw[T0 hj,T0 hj];exact⟨_,rfl⟩
 ·rw[N0 hj,N0 hj];exact⟨_,rfl⟩
theorem zdJ:CallR X (.type "int") (λxs H Q=>(∃i,xs=[.int i]/\Q (.int i) H)\/∃k,xs=[.bl k]/\Q (.int (if k then 1 else 0)) H):=by
 intro pins s σ H xs us Q I r h
 rcases h with⟨i,rfl,q⟩|⟨k,rfl,q⟩
 ·obtain ⟨u,rfl,t,rfl⟩:=zcu r
  exact call_int_int ⟨.int i,H,I,⟨_,rfl⟩,q⟩
 ·obtain ⟨u,rfl,r1⟩:=zcu r
  cases r1
  exact call_int_bool ⟨.int (if k then 1 else 0),H,I.tok _,⟨_,rfl⟩,q⟩
end
structure ObjM(h:Heap)(x dx C:Addr)(mA:Str->Option Value):Prop where
 obj:h.get? x=some (W.instObj C dx)
 ns:h.Ns1 dx mA
 ne:dx≠x
theorem zlP{h:Heap}{dx:Addr}(n:h.Ns1 dx mA):∃od,h.get? dx=some od/\∀name,W.lookIn name od=some (mA name):=by
 obtain⟨o,es,ep,ho,hd,hk,_,hm⟩:=n
 refine⟨o,ho,λname=>?_⟩
 have e:=hm name
 unfold nsFind findBy at e
 rw[←Array.find?_toList] at e
 unfold W.lookIn
 rw[hd]
 dsimp only
 split
 ·rename_i y q
  rw[q] at e
  exact T2 some e
 ·rename_i q
  rw[q] at e
  have a:es.toList.any (·.refKey)=false:=by
   rw[List.any_eq_false]
   intro y hy
   obtain⟨z,t,hkey⟩:=hk y (Array.mem_toList_iff.mp hy)
   simp[DictEntry.refKey,hkey]
  have a':¬es.toList.any (·.refKey)=true:=by rw[a];exact E1
  rw[N0 a']
  exact T2 some e
theorem ObjM.look{h:Heap}{x dx:Addr}(I:ObjM h x dx C mA):∃od,W.InstAt h x (W.instObj C dx) C (some od)/\∀name,W.lookIn name od=some (mA name):=
 let⟨od,ho,hl⟩:=zlP I.ns
 ⟨od,⟨I.obj,rfl,rfl,ho⟩,hl⟩
section
variable{x dx:Addr}{v:Value}
theorem zpF{expr:Bool}(X:K.In s.heap)(I:ObjM s.heap x dx C mA)(hg:W.plainGet K C name=true)(hh:W.hasDictIn K C=true)
 (ha:W.findIn K (.ref C) name=some none) (hv:mA name=some v) (hv':W.handedIn v=true) (h:Q v {s with toks:=s.toks+1}):
 wpAny `Y3 A (getAttr (.ref x) name expr) Q E s:=by
 obtain⟨od,J,hl⟩:=I.look
 exact W.get_value X J (W.plainGet_of hg).1 (W.findObj_own hh ha rfl (by rw[hl,hv])) hv' h
theorem zmL{Q:Value×List Value->Shared->Prop}(X:K.In s.heap)(I:ObjM s.heap x dx C mA)(hg:W.plainGet K C name=true)
 (hf:W.findIn K (.ref C) name=some (some (.ref f))) (ht:W.isFn K (.ref f)=true) (hv:mA name=none) (h:Q (.ref f,[.ref x]) s):
 wpAny `Y3 A (getMethod (.ref x) name pl) Q E s:=by
 obtain⟨od,J,hl⟩:=I.look
 exact W.method_fn X J (W.plainGet_of hg).1 (W.plainGet_of hg).2 hf (beq_iff_eq.mp ht) (by show(W.lookIn name od).map (·.isSome)=some false;rw[hl,hv];rfl) h
theorem zp9{ns:List Str}{Q:Unit->Shared->Prop}(X:K.In s.heap)(I:ObjM s.heap x dx C mA)
 (hs:W.findIn K (.ref C) "__setattr__"=some (some (.builtin "object.__setattr__"))) (hp:W.plainOver K C=true) (ht:W.takerIn K C name=some none) (hh:W.hasDictIn K C=true)
 (hw:PySem.Within mA ns) (hsz:ns.length<=sizeLine)
 (h:∀h',ObjM h' x dx C (λy=>if y=name then some v else mA y)->Heap.SameBut dx s.heap h'->Q Unit.unit {s with heap:=h',toks:=s.toks+2}):
 wpAny `Y3 A (setAttr (.ref x) name v) Q E s:=by
 obtain⟨od,J,hl⟩:=I.look
 refine W.set_plain X J hs (W.osa_open (s:={s with toks:=s.toks+1}) (r:=none) X J hp ht λb=>?_)
 obtain⟨cd,hc,hd'⟩:=W.any_some hh
 have hx:s.heap.get? x=some ⟨.ref C,some dx, .plain, #[]⟩:=I.obj
 refine C0 (K0 (C0 (C0 (wpAny_loadPart hx (C0 (W.Looks.here (s:={s with toks:=s.toks+1}) (W.looks_clsIn X hc) ?_))))))
 rw[hd']
 refine K0 (a:=some dx) (C0 (K0 (C0 ?_)))
 refine wpAny_nsSet1 (s:={s with toks:=s.toks+1}) I.ns λh' hn2 hs2=>?_
 obtain⟨oD,esD,epD,hoD,hdD,hcD⟩:=hn2.count (Within.cons name v hw)
 refine C0 (wpAny_lookBehind hoD (by rw[hdD];exact pastItsLine_dict (K1 hcD (by rw[J1];lia))) ?_)
 exact K0 (h _ ⟨(hs2.2 _ (Ne.symm I.ne)).trans I.obj,hn2,I.ne⟩ hs2)
theorem zos{R:Result->Shared->Prop}{vs:List Value}(X:K.In s.heap)(hm:W.makesIn K C=true)
 (hi:W.findIn K (.ref C) "__init__"=some (some (.ref f))) (hf:W.typeIn K (.ref f)=some (.type "function"))
 (h:codeAny `Y3 (A.under (.builtin "type.__call__" ⟨.ref C::vs,kw⟩)) (.call (.ref f) ⟨.ref (s.heap.objs.size+1)::vs,kw⟩) (W.InitBack (s.heap.objs.size+1) R)
   {s with heap:=(s.heap.push W.emptyDict).push (W.instObj C s.heap.objs.size)}):
 codeAny `Y3 A (.call (.ref C) ⟨vs,kw⟩) R s:=by
 obtain⟨hh,g,d,t,os⟩:=s
 exact W.make_core (W.makes_of X hm) (W.looks_findIn X hi) (λself=>W.bind_fn X self hf) (.inl rfl) h
end
noncomputable def zad(f:Str)(v:V):List (Str×V)->List (Str×V)
 |[]=> [(f,v)]
 |(g,x)::r=>if g=f then(g,v)::r else(g,x)::zad f v r
theorem zff(f g:Str)(v:V):∀fs:List (Str×V),(zad f v fs).lookup g=if g=f then some v else fs.lookup g
 |[]=>by
  show List.lookup g [(f,v)]=_
  by_cases h:g=f
  ·have hb:(g==f)=true:=beq_iff_eq.mpr h
   simp only[List.lookup,hb,T0 h]
  ·have hb:(g==f)=false:=beq_eq_false_iff_ne.mpr h
   simp only[List.lookup,hb,N0 h]
 |(k,x)::r=>by
  have ih:=zff f g v r
  rw[show zad f v ((k,x)::r)=(if k=f then(k,v)::r else(k,x)::zad f v r)from rfl]
  by_cases hk:k=f
  ·rw[T0 hk]
   by_cases h:g=k
   ·have hb:(g==k)=true:=beq_iff_eq.mpr h
    simp only[List.lookup,hb,T0 (h.trans hk)]
   ·have hb:(g==k)=false:=beq_eq_false_iff_ne.mpr h
    simp only[List.lookup,hb,N0 (λe:g=f=>h (e.trans hk.symm))]
  ·rw[N0 hk]
   by_cases h:g=k
   ·have hb:(g==k)=true:=beq_iff_eq.mpr h
    simp only[List.lookup,hb,N0 (λe:g=f=>hk (h.symm.trans e))]
   ·have hb:(g==k)=false:=beq_eq_false_iff_ne.mpr h
    simp only[List.lookup,hb]
    exact ih
theorem ze1(f:Str)(v:V):∀fs:List (Str×V),f∈(zad f v fs).map (·.1)/\∀g,g∈fs.map (·.1)->g∈(zad f v fs).map (·.1)
 |[]=>⟨by simp[zad],λg h=>by simp at h⟩
 |(k,x)::r=>by
  obtain⟨i1,i2⟩:=ze1 f v r
  rw[show zad f v ((k,x)::r)=(if k=f then(k,v)::r else(k,x)::zad f v r)from rfl]
  by_cases hk:k=f
  ·rw[T0 hk]
   subst hk
   exact⟨`j2,λg h=>by simpa using h⟩
  ·rw[N0 hk]
   refine⟨?_,λg h=>?_⟩
   ·rw[N1]
    exact Z0 _ i1
   ·rw[N1] at h⊢
    rcases X0.mp h with e|e
    ·exact X0.mpr (.inl e)
    ·exact Z0 _ (i2 g e)
theorem zfn(f:Str)(v:V):∀fs:List (Str×V),(zad f v fs).length<=fs.length+1
 |[]=>by simp[zad]
 |(k,x)::r=>by
  have ih:=zfn f v r
  rw[show zad f v ((k,x)::r)=(if k=f then(k,v)::r else(k,x)::zad f v r)from rfl]
  by_cases hk:k=f
  ·rw[T0 hk,J1,J1];lia
  ·rw[N0 hk,J1,J1];lia
theorem RelO.some_of{o:Option Value}(r:RelO (some v) o):∃u,o=some u/\RelV v u:=by
 cases o with
 |none=>exact (show False from r).elim
 |some u=>exact ⟨u,rfl,r⟩
theorem RelO.none_of{o:Option Value}(r:RelO none o):o=none:=by
 cases o with
 |none=>rfl
 |some u=>exact (show False from r).elim
theorem zlO(r:RelV v u):W.handedIn u=true:=by
 cases v with
 |non=>cases (show u=Value.none from r);rfl
 |bl b=>cases (show u=Value.bool b from r);rfl
 |int i=>obtain ⟨t,e⟩:=(show∃t,u=Value.int i t from r);cases e;rfl
 |str x=>obtain ⟨t,e⟩:=(show∃t,u=Value.str x t from r);cases e;rfl
 |byt b=>obtain ⟨t,e⟩:=(show∃t,u=Value.bytes b t from r);cases e;rfl
 |flt b=>obtain ⟨t,e⟩:=(show∃t,u=Value.float b t from r);cases e;rfl
 |ref a=>cases (show u=Value.ref a from r);rfl
 |ty n=>cases (show u=Value.type n from r);rfl
section
variable{h:Heap}{dx:Addr}{fs':List (Str×V)}
theorem zfC(hok:HOk P w H h)(e:H a=some (.ins C dx fs)):∃mA,ObjM h a dx C mA/\(∀f,RelO (fs.lookup f) (mA f))/\PySem.Within mA (fs.map (·.1))/\fs.length<=1000/\H dx=some (.own a):=by
 obtain⟨d,z,ne,ob,mA,n,r,q⟩:=(show ObjOk P w H h a (.ins C dx fs)from hok a _ e)
 exact⟨mA,⟨ob,n,ne⟩,r,q,z,d⟩
end
structure Cls(K:W.Frag)(C:Addr):Prop where
 pg:W.plainGet K C Str.empty=true
 hd:W.hasDictIn K C=true
 po:W.plainOver K C=true
 sa:W.findIn K (.ref C) "__setattr__"=some (some (.builtin "object.__setattr__"))
variable{sa:TS}
theorem Cls.get(c:Cls K C)(f:Str):W.plainGet K C f=true:=c.pg
def NoAttr(K:W.Frag)(C:Addr)(f:Str):Prop:=W.findIn K (.ref C) f=some none
theorem NoAttr.taker{f:Str}(n:NoAttr K C f):W.takerIn K C f=some none:=by
 unfold W.takerIn
 rw[show W.findIn K (.ref C) f=some none from n]
 rfl
structure Con(K:W.Frag)(C:Addr)(f:Str)(v:V)(u:Value):Prop where
 at_:W.findIn K (.ref C) f=some (some u)
 rel:RelV v u
 get:W.specialIn K u "__get__"=some none
 cp:W.copiedNames.contains f=false
structure Meth(K:W.Frag)(C:Addr)(m:Str)(f:Addr):Prop where
 at_:W.findIn K (.ref C) m=some (some (.ref f))
 fn:W.isFn K (.ref f)=true
 kp:W.keepIn K (.ref f)=true
section
variable{dx:Addr}{f:Str}
theorem zgE{b:Bool}(I:Inv X pins σ H s)(e:H a=some (.ins C dx fs))(c:Cls X.K C)(n:NoAttr X.K C f)(l:fs.lookup f=some v)
 (h:∀u s',Inv X pins σ H s'->RelV v u->Q u s'):wpAny (model X.prog X.w) A (getAttr (.ref a) f b) Q E s:=by
 obtain⟨mA,O,r,_,_,_⟩:=zfC I.hok e
 obtain⟨u,hu,ru⟩:=RelO.some_of (v:=v) (o:=mA f) (by rw[←l];exact r f)
 exact zpF I.kIn O (c.get f) c.hd n hu (zlO ru) (h u _ (I.tok _) ru)
theorem zdW{m:Str}{g:Addr}{Q:Value×List Value->Shared->Prop}(I:Inv X pins σ H s)(e:H a=some (.ins C dx fs))(c:Cls X.K C)(k:Meth X.K C m g)(l:fs.lookup m=none)
 (h:Q (.ref g,[.ref a]) s):wpAny (model X.prog X.w) A (getMethod (.ref a) m pl) Q E s:=by
 obtain⟨mA,O,r,_,_,_⟩:=zfC I.hok e
 have hn:mA m=none:=RelO.none_of (by rw[←l];exact r m)
 exact zmL I.kIn O (c.get m) k.at_ k.fn hn h
theorem zgD{Q:Unit->Shared->Prop}(I:Inv X pins σ H s)(e:H a=some (.ins C dx fs))(c:Cls X.K C)(n:NoAttr X.K C f)(hl:fs.length<1000)(ry:RelV y u)
 (h:∀s',Inv X pins σ (upd H a (.ins C dx (zad f y fs))) s'->Q Unit.unit s'):wpAny (model X.prog X.w) A (setAttr (.ref a) f u) Q E s:=by
 obtain⟨mA,O,r,wi,_,ho⟩:=zfC I.hok e
 have hz:(fs.map (·.1)).length<=sizeLine:=by rw[D0,sizeLine_eq];lia
 refine zp9 I.kIn O c.sa c.po n.taker c.hd wi hz λh' O' sb=>h _ ?_
 have hd:∃o,h'.get? dx=some o:=let⟨o,_,_,e',_⟩:=O'.ns;⟨o,e'⟩
 refine I.write (x:=a) (e:=dx) (by rw[e];exact True.intro) (.inr ho) (λb q hb z=>(sb.2 b hb).trans z) hd ?_
 refine⟨by rw[zc O.ne];exact ho,?_,O.ne,O'.obj,_,O'.ns,λg=>?_,λg hg=>?_⟩
 ·have:=zfn f y fs;lia
 ·show RelO ((zad f y fs).lookup g) (if g=f then some u else mA g)
  rw[zff]
  by_cases q:g=f
  ·rw[T0 q,T0 q];exact ry
  ·rw[N0 q,N0 q];exact r g
 ·by_cases q:g=f
  ·rw[q];exact(ze1 f y fs).1
  ·refine (ze1 f y fs).2 g (wi g λz=>hg ?_)
   show(if g=f then some u else mA g)=none
   rw[N0 q];exact z
theorem Inv.made(I:Inv X pins σ H s):Inv X pins σ (upd (upd H s.heap.objs.size (.own (s.heap.objs.size+1))) (s.heap.objs.size+1) (.ins C s.heap.objs.size []))
 {s with heap:=(s.heap.push W.emptyDict).push (W.instObj C s.heap.objs.size)}:=by
 have e1:(s.heap.push W.emptyDict).get? s.heap.objs.size=some W.emptyDict:=O0 s.heap rfl
 have e2:((s.heap.push W.emptyDict).push (W.instObj C s.heap.objs.size)).get? (s.heap.objs.size+1)=some (W.instObj C s.heap.objs.size):=by
  have:=O0 (s.heap.push W.emptyDict) (o:=W.instObj C s.heap.objs.size) rfl
  rwa[Heap.size_push] at this
 have e3:(s.heap.push W.emptyDict).Ns s.heap.objs.size (λ_=>none):=⟨W.emptyDict, #[],_,e1,rfl,(λe he=>absurd he `j2),λ_=>rfl⟩
 have I1:=I.laid (a:=s.heap.objs.size) (o:= .own (s.heap.objs.size+1)) (h':=s.heap.push W.emptyDict) (t':=s.toks) (λb u q=>F0 _ q) (R0 _) ⟨_,e1⟩
 refine I1.laid (a:=s.heap.objs.size+1) (o:= .ins C s.heap.objs.size []) (t':=s.toks) (λb u q=>F0 _ q) (Nat.le_of_eq (Heap.size_push _ _)) ?_
 have ne:s.heap.objs.size≠s.heap.objs.size+1:=C1 (Nat.lt_succ_self _)
 refine⟨by rw[zc ne,zb],T1 _,ne,e2,λ_=>none,(Heap.Ns1.of_empty e3).at λo q=>F0 _ q,λ_=>True.intro,λy hy=>absurd rfl hy⟩
theorem zpw{e:Expr}{f:Str}(hb:attributeBase e f env (eval e env)=eval e env)
 (h:wpAny `Y3 A (eval e env) (λo s₁=>wpAny `Y3 A (getAttr o f true) Q E s₁) E s):wpAny `Y3 A (eval (.Attribute e f pos) env) Q E s:=
 Attribute_any_ h (by rw[arm_eval_Attribute,hb])
end
noncomputable def zsv(K:W.Frag)(ta:TE)(f:Str):TE:=λσ H Q=>ta σ H λx H1=>∃a C dx fs v,x= .ref a/\H1 a=some (.ins C dx fs)/\Cls K C/\NoAttr K C f/\fs.lookup f=some v/\Q v H1
noncomputable def zrV(K:W.Frag)(ta tv:TE)(f:Str):TS:=λD σ H=>tv σ H λy H1=>ta σ H1 λx H2=>∃a C dx fs,x= .ref a/\H2 a=some (.ins C dx fs)/\Cls K C/\NoAttr K C f/\fs.length<1000/\
 D.nx σ (upd H2 a (.ins C dx (zad f y fs)))
def zrE(X:Cx)(op:Operator)(rd:V->V->Hp->VK->Prop):Prop:=
 ∀(pins:List (Addr×Obj)) (s:Shared) (σ:St) (H:Hp) (x y:V) (u v:Value) (Q:VK),Inv X pins σ H s->RelV x u->RelV y v->rd x y H Q->wpAny (model X.prog X.w) X.A (inplaceOp op u v) (EP X pins σ Q) X.xe s
def zk1(K:W.Frag)(ta tv:TE)(rd:V->V->Hp->VK->Prop)(f:Str):TS:=λD σ H=>ta σ H λx H1=>∃a C dx fs v,x= .ref a/\H1 a=some (.ins C dx fs)/\Cls K C/\NoAttr K C f/\fs.lookup f=some v/\
 tv σ H1 λy H2=>rd v y H2 λz H3=>∃dx' fs',H3 a=some (.ins C dx' fs')/\fs'.length<1000/\D.nx σ (upd H3 a (.ins C dx' (zad f z fs')))
section
variable{o e:Expr}{f:Str}{ta:TE}
theorem zrt(he:PE X e ta)(hb:attributeBase e f X.env (eval e X.env)=eval e X.env):PE X (.Attribute e f pos) (zsv X.K ta f):=by
 intro pins s σ H Q I h
 refine zpw hb (thn (he pins s σ H _ I h) λu s1 zq=>?_)
 obtain⟨x,H1,I1,rx,a,C,dx,fs,v,ex,ea,c,n,l,q⟩:=zq
 subst ex
 obtain rfl:u=Value.ref a:=rx
 exact zgE I1 ea c n l λu' s2 I2 ru=>⟨v,H1,I2,ru,q⟩
theorem zq0(ha:PE X o ta)(hv:PE X value tv)(hs:swapsWith value (some (.Attribute o f pos')) pos.line X.env=pure false):PS X (.Assign [.Attribute o f pos'] value pos) (zrV X.K ta tv f):=by
 intro pins s σ H D I h
 refine plainObj_wpAny_Assign_Attribute (thn (hv pins s σ H _ I h) λu s1 zq=>?_) hs
 obtain⟨y,H1,I1,ry,q⟩:=zq
 refine thn (ha pins s1 σ H1 _ I1 q) λov s2 zq1=>?_
 obtain⟨x,H2,I2,rx,a,C,dx,fs,ex,ea,c,n,l,q2⟩:=zq1
 subst ex
 obtain rfl:ov=Value.ref a:=rx
 exact zgD I2 ea c n l ry λs3 I3=>⟨σ,_,I3,q2⟩
theorem zmB{op:Operator}{rd:V->V->Hp->VK->Prop}(ha:PE X o ta)(hv:PE X value tv)(hop:zrE X op rd):PS X (.AugAssign (.Attribute o f tpos) op value pos) (zk1 X.K ta tv rd f):=by
 intro pins s σ H D I h
 refine wpAny_AugAssign_AttributeAny (thn (ha pins s σ H _ I h) λov s1 zq=>?_)
 obtain⟨x,H1,I1,rx,a,C,dx,fs,v,ex,ea,c,n,l,q⟩:=zq
 subst ex
 obtain rfl:ov=Value.ref a:=rx
 refine zgE I1 ea c n l λu s2 I2 ru=>thn (hv pins s2 σ H1 _ I2 q) λw3 s3 ⟨y,H2,I3,ry,q3⟩=>thn (hop pins s3 σ H2 v y u w3 _ I3 ru ry q3) λw4 s4 ⟨z,H3,I4,rz,dx',fs',ea',l',q4⟩=>?_
 exact zgD I4 ea' c n l' rz λs5 I5=>⟨σ,_,I5,q4⟩
def zsR:V->V->Hp->VK->Prop:=λx y H Q=>∃i j,x= .int i/\y= .int j/\Q (.int (i+j)) H
theorem zrd:zrE X .Add zsR:=by
 rintro pins s σ H x y u v Q I rx ry ⟨i,j,rfl,rfl,q⟩
 obtain⟨t,rfl⟩:=(show∃t,u=Value.int i t from rx)
 obtain⟨t',rfl⟩:=(show∃t',v=Value.int j t' from ry)
 exact PyProof.Rows.iadd_int ⟨.int (i+j),H,I.tok _,⟨_,rfl⟩,q⟩
theorem methcall_of{m:Str}{args:List Expr}(he:PE X e te)(I:Inv X pins σ H s)
 (h:te σ H λx H1=>∃a C dx fs g,x= .ref a/\H1 a=some (.ins C dx fs)/\Cls X.K C/\Meth X.K C m g/\fs.lookup m=none/\
   ∀s1,Inv X pins σ H1 s1->wpAny (model X.prog X.w) X.A (callWith pos (.ref g) [.ref a] (backTo pos (starEach args X.env)) (backToKw pos (keywordEach [] X.env))) Q X.xe s1)
 (ht:eval (.Call (.Attribute e m apos) args [] pos) X.env=(do
   let ov ←eval e X.env
   standAt apos.atName
   let(f,first) ←holding [ov] (getMethod ov m pl)
   callWith pos f first (backTo pos (starEach args X.env)) (backToKw pos (keywordEach [] X.env)))):
 wpAny (model X.prog X.w) X.A (eval (.Call (.Attribute e m apos) args [] pos) X.env) Q X.xe s:=by
 refine W.methodCall_KW (pl:=pl) (thn (he pins s σ H _ I h) λu s1 zq=>?_) ht
 obtain⟨x,H1,I1,rx,a,C,dx,fs,g,ex,ea,c,k,l,q⟩:=zq
 subst ex
 obtain rfl:u=Value.ref a:=rx
 exact zdW I1 ea c k l (q s1 I1)
end
section
variable{c:Value}{b:Bool}
inductive TyOf(K:W.Frag)(H:Hp):V->Value->Prop where
 |non:TyOf K H .non (.type "NoneType")
 |bl (x:Bool):TyOf K H (.bl x) (.type "bool")
 |int (i:Int):TyOf K H (.int i) (.type "int")
 |str (x:Str):TyOf K H (.str x) (.type "str")
 |flt (x:UInt64):TyOf K H (.flt x) (.type "float")
 |lst {a:Addr} {xs:List V} (e:H a=some (.lst xs)):TyOf K H (.ref a) (.type "list")
 |frz {a:Addr} {o:Obj} {xs:List V} (e:H a=some (.frz o (.lst xs))):TyOf K H (.ref a) (.type "list")
 |tup {a:Addr} {xs:List V} (e:H a=some (.tup xs)):TyOf K H (.ref a) (.type "tuple")
 |dK {a:Addr} {kvs:List (Key×V)} (e:H a=some (.dK kvs)):TyOf K H (.ref a) (.type "dict")
 |dT {a:Addr} {kvs:List (List Key×V)} (e:H a=some (.dT kvs)):TyOf K H (.ref a) (.type "dict")
 |ins {a C dx:Addr} {fs:List (Str×V)} (e:H a=some (.ins C dx fs)) (cl:Cls K C) (ha:W.findIn K (.ref C) "__class__"=some (some (.builtin "object.__class__")))
   (hn:W.specialIn K (.builtin "object.__class__") "__get__"=some (some (.builtin "getset_descriptor.__get__"))) (htk:W.takesIn K (.builtin "object.__class__")=some true)
   (hm:W.mroIn K C (.type "object")=some true):TyOf K H (.ref a) (.ref C)
theorem zmj{x:V}{t:Value}(I:Inv X pins σ H s)(rx:RelV x u)(ty:TyOf X.K H x t)(e:W.kitOne X.K t c=some b)(h:∀tk,Q (.bool b) {s with toks:=tk}):
 wpAny (model X.prog X.w) A (call (.builtin "isinstance") [u,c]) Q E s:=by
 cases ty with
 |non=>cases (show u=Value.none from rx);exact W.kia_one W.kitx_none I.kIn True.intro e `Z3 h
 |bl y=>cases (show u=Value.bool y from rx);exact W.kia_one W.kitx_bool I.kIn True.intro e `Z3 h
 |int i=>obtain ⟨t,q⟩:=(show∃t,u=Value.int i t from rx);cases q;exact W.kia_one W.kitx_int I.kIn True.intro e `Z3 h
 |str y=>obtain ⟨t,q⟩:=(show∃t,u=Value.str y t from rx);cases q;exact W.kia_one W.kitx_str I.kIn True.intro e `Z3 h
 |flt y=>obtain ⟨t,q⟩:=(show∃t,u=Value.float y t from rx);cases q;exact W.kia_one W.kitx_float I.kIn True.intro e `Z3 h
 | @lst a xs ea=>
   cases(show u=Value.ref a from rx)
   obtain⟨_,_,n,_,h1⟩:=(show ObjOk X.prog X.w H s.heap a (.lst xs)from I.hok a _ ea)
   exact W.kia_one W.kitx_list I.kIn ⟨_,h1,rfl⟩ e `Z3 h
 | @frz a ob xs ea=>
   cases(show u=Value.ref a from rx)
   obtain⟨_,_,_,n,_,h1⟩:=(show ObjOk X.prog X.w H s.heap a (.frz ob (.lst xs))from I.hok a _ ea)
   exact W.kia_one W.kitx_list I.kIn ⟨_,h1,rfl⟩ e `Z3 h
 | @tup a xs ea=>
   cases(show u=Value.ref a from rx)
   obtain⟨_,_,_,p,_⟩:=(show ObjOk X.prog X.w H s.heap a (.tup xs)from I.hok a _ ea)
   obtain⟨o,h1,h2,_⟩:=p
   exact W.kia_one W.kitx_tuple I.kIn ⟨o,h1,h2⟩ e `Z3 h
 | @dK a kvs ea=>
   cases(show u=Value.ref a from rx)
   obtain⟨_,_,vs,_,p⟩:=(show ObjOk X.prog X.w H s.heap a (.dK kvs)from I.hok a _ ea)
   obtain⟨o,es,ep,h1,h2,_⟩:=p
   exact W.kia_one W.kitx_dict I.kIn ⟨o,h1,h2.1⟩ e `Z3 h
 | @dT a kvs ea=>
   cases(show u=Value.ref a from rx)
   obtain⟨_,_,xs,_,o,es,ep,h1,h2,_⟩:=(show ObjOk X.prog X.w H s.heap a (.dT kvs)from I.hok a _ ea)
   exact W.kia_one W.kitx_dict I.kIn ⟨o,h1,h2.1⟩ e `Z3 h
 | @ins a C dx fs ea cl ha hn htk hm=>
   cases(show u=Value.ref a from rx)
   obtain⟨mA,O,_⟩:=zfC I.hok ea
   obtain⟨od,J,_⟩:=O.look
   exact W.kia_one (W.kitx_own (cl.get _) cl.hd ha hn htk hm) I.kIn J e `Z3 h
end
structure Room(k:Nat)(A:Around):Prop where
 hd:A.handled=none
 dp:A.depth+3*k+5<recursionLimit
 un:A.units+16*k+200<cLine
 gd:A.guards=some []
theorem Room.mono{k:Nat}(r:Room k A)(h:j<=k):Room j A:=⟨r.hd,by have:=r.dp;lia,by have:=r.un;lia,r.gd⟩
theorem Room.deeper{k:Nat}(r:Room (k+1) A)(env:Env):Room k (A.deeper env):=
 ⟨r.hd,by have:=r.dp;show A.depth+1+3*k+5<_;lia,by have:=r.un;show A.units+3+16*k+200<_;lia,r.gd⟩
theorem zjK{us:List Value}:(A.under (.builtin "type.__call__" ⟨.ref C::us,kw⟩)).depth=A.depth+1:=by
 first|rfl|simp[Around.under,Code.weight,Code.isCreation,Code.isGuard,Code.isCaller,Code.frames,Code.isFrame,guardIds]
theorem zkq{us:List Value}:(A.under (.builtin "type.__call__" ⟨.ref C::us,kw⟩)).units=A.units+1:=by
 first|rfl|simp[Around.under,Code.cUnits,Code.frames,Code.isFrame]
theorem Room.make{k:Nat}(r:Room (k+1) A)(C:Addr)(us:List Value)(kw:List (Str×Value)):Room k (A.under (.builtin "type.__call__" ⟨.ref C::us,kw⟩)):=
 ⟨r.hd,by have:=r.dp;rw[zjK];lia,by have:=r.un;rw[zkq];lia,(show(_:Option _)=some [] from r.gd)⟩
theorem Room.depth{k:Nat}(r:Room k A):A.depth<recursionLimit:=by have:=r.dp;lia
theorem Room.units{k:Nat}(r:Room k A):A.units+64<cLine:=by have:=r.un;lia
noncomputable def zmW:TA:=λ_ H Q=>Q [] H
noncomputable def zlE(ta:TE)(tr:TA):TA:=λσ H Q=>ta σ H λx H1=>tr σ H1 λxs H2=>Q (x::xs) H2
section
variable{e:Expr}{t:TA}
theorem zob:PA X [] zmW:=λ_ _ _ _ H Q I h=>Calls.spliced_nil ⟨[],H,I, .nil,h⟩
theorem zlf(ha:PE X e te)(hr:PA X es t)(hs:autoParam (starEach (e::es) X.env=(false,eval e X.env)::starEach es X.env) v3):PA X (e::es) (zlE te t):=by
 intro pos pins s σ H Q I h
 rw[hs]
 show wpAny _ _ (spliced ((false,eval e X.env)::backTo pos (starEach es X.env))) _ _ s
 refine Calls.spliced_cons (thn (ha pins s σ H _ I h) λu s1 zq=>?_)
 obtain⟨x,H1,I1,r1,q1⟩:=zq
 refine thn (hr pos pins s1 σ H1 _ I1 q1) λus s2 zq=>?_
 obtain⟨xs,H2,I2,r2,q2⟩:=zq
 exact⟨x::xs,H2,I2, .cons r1 r2,q2⟩
noncomputable def zrS(t:TA):TE:=λσ H Q=>t σ H λxs H1=>xs.length<=sizeLine/\∀p,H1 p=none->Q (.ref p) (upd H1 p (.tup xs))
noncomputable def zrO(t:TA):TE:=λσ H Q=>t σ H λxs H1=>xs.length<=sizeLine/\∀p,H1 p=none->Q (.ref p) (upd H1 p (.lst xs))
theorem zrR{x1}(h:PA X es t):PE X (.Tuple es x1 pos) (zrS t):=by
 intro pins s σ H Q I hq
 refine wpAny_Tuple_spliced (thn (h pos pins s σ H _ I hq) λus s1 ⟨xs,H1,I1,r,z,q⟩=>⟨by rw[←r.length];exact z,?_⟩)
 have hf:H1 s1.heap.objs.size=none:=I1.hok.fresh (R0 _)
 refine⟨.ref s1.heap.objs.size,upd H1 s1.heap.objs.size (.tup xs),I1.laid (t':=s1.toks) (λb u e=>F0 _ e) (R0 _) ?_,rfl,q _ hf⟩
 exact⟨z,us,r,⟨_,O0 _ rfl,rfl,_,rfl⟩,NoDict.new rfl (O0 _ rfl)⟩
theorem zop(h:PA X es t):PE X (.List es pos) (zrO t):=by
 intro pins s σ H Q I hq
 refine wpAny_List_spliced (thn (h pos pins s σ H _ I hq) λus s1 ⟨xs,H1,I1,r,z,q⟩=>⟨by rw[←r.length];exact z,?_⟩)
 have hf:H1 s1.heap.objs.size=none:=I1.hok.fresh (R0 _)
 refine⟨.ref s1.heap.objs.size,upd H1 s1.heap.objs.size (.lst xs),I1.laid (t':=s1.toks) (λb u e=>F0 _ e) (R0 _) ?_,rfl,q _ hf⟩
 exact⟨z,us,0,r,O0 _ rfl⟩
end
noncomputable abbrev Sp:=List V->Hp->VK->XK->Prop
variable{sp:Sp}
noncomputable abbrev CXT:=List Env->Hp->Shared->XK->Value->Shared->Prop
variable{CX:CXT}
structure Env0(P:Program)(w:World)(K:W.Frag)(mg:Str->Option Value)(base:Heap)(A:Around)(outer:List Env)(s:Shared)(H:Hp):Prop where
 frames:A.frames=some outer
 mod:Mod K mg base
 bs:∀b o,base.get? b=some o->s.heap.get? b=some o/\H b=none
 bsz:base.objs.size<=s.heap.objs.size
 funs:s.heap.FunFrames base outer
 frf:∀b∈frs outer,H b=none
 hok:HOk P w H s.heap
 bare:AllBare s.gens
def CE(outer:List Env)(P:Program)(w:World)(H:Hp)(s:Shared)(Q:VK)(u:Value)(s':Shared):Prop:=
 ∃v H',s'.os=s.os/\AllBare s'.gens/\Un (frs outer) [] H H' s.heap s'.heap/\HOk P w H' s'.heap/\RelV v u/\Q v H'
def CR(CX:CXT)(outer:List Env)(P:Program)(w:World)(H:Hp)(s:Shared)(Q:VK)(E:XK)(r:Result)(s':Shared):Prop:=
 match r with
 | .ok (.ret u)=>CE outer P w H s Q u s'
 | .ok _=>False
 | .error e=>CX outer H s E e s'
structure FnOk(P:Program)(w:World)(K:W.Frag)(mg:Str->Option Value)(base:Heap)(CX:CXT)(k:Nat)(f:Addr)(fd:FuncData)(ps:List Str)(sp:Sp):Prop where
 len:∀vs H Q E,sp vs H Q E->vs.length=ps.length
 run:∀(A:Around) (outer:List Env) (s:Shared) (H:Hp) (args:Args) (us:List Value) (vs:List V) (Q:VK) (E:XK),Room k A->Env0 P w K mg base A outer s H->BindsTo s fd args (ps.zip us)->Vals vs us->sp vs H Q E->
  codeAny (model P w) A (.call (.ref f) args) (CR CX outer P w H s Q E) s
theorem Env0.make{mg:Str->Option Value}{base:Heap}(e:Env0 P w K mg base A outer s H)(C:Addr)(us:List Value)(kw:List (Str×Value)):
 Env0 P w K mg base (A.under (.builtin "type.__call__" ⟨.ref C::us,kw⟩)) outer s H:=⟨by first|exact e.frames|(simpa[Around.under,Code.envs,Code.isFrame,pushEnvs] using e.frames),e.mod,e.bs,e.bsz,e.funs,e.frf,e.hok,e.bare⟩
theorem Inv.env0(I:Inv X pins σ H s):Env0 X.prog X.w X.K X.mg X.base X.A X.stack s H:=
 ⟨I.ok.frames,I.ok.mod,I.bs,K1 I.ok.bsz I.sz,I.stack,I.stkFree,I.hok,I.bare⟩
theorem Inv.after{Q:VK}(I:Inv X pins σ H s)(h:CE X.stack X.prog X.w H s Q u s'):EP X pins σ Q u s':=by
 obtain⟨v,H',os,bare,un,hok,r,q⟩:=h
 obtain⟨hh,g,d,t,os'⟩:=s'
 obtain rfl:os'=s.os:=os
 exact⟨v,H',I.call (h':=hh) (g':=g) (d':=d) (t':=t) (ch:=[]) un hok bare (λb z=>absurd z `j2),r,q⟩
noncomputable def zqA(sp:Sp)(dvs:List V)(E:XK)(t:TA):TE:=λσ H Q=>t σ H λvs H1=>sp (vs ++dvs) H1 Q E
noncomputable def zkU(C:Addr)(m:Str)(sp:Sp)(dvs:List V)(E:XK)(ta:TE)(t:TA):TE:=λσ H Q=>ta σ H λx H1=>∃a dx fs,x= .ref a/\H1 a=some (.ins C dx fs)/\fs.lookup m=none/\
 t σ H1 λvs H2=>sp (x::(vs ++dvs)) H2 Q E
noncomputable def zqF(C:Addr)(sp:Sp)(dvs:List V)(E:XK)(t:TA):TE:=λσ H Q=>t σ H λvs H1=>∀x dx,H1 x=none->H1 dx=none->dx≠x->
 sp (.ref x::(vs ++dvs)) (upd (upd H1 dx (.own x)) x (.ins C dx [])) (λv H2=>v= .non/\Q (.ref x) H2) E
def Binds(K:W.Frag)(fd:FuncData)(ps:List Str)(ds:List Value):Prop:=
 ∀(s:Shared) (us:List Value),K.In s.heap->(us ++ds).length=ps.length->BindsTo s fd ⟨us,[]⟩ (ps.zip (us ++ds))
theorem Binds.all{ps:List Str}(h:∀us:List Value,us.length=ps.length->bindArgs fd ⟨us,[]⟩=pure (ps.zip us)):Binds K fd ps []:=λs us _ hl=>by
 rw[List.append_nil] at hl⊢
 exact .of_eq (h us hl)
def zb2(CX:CXT)(X:Cx)(E:XK):Prop:=∀(pins:List (Addr×Obj)) (σ:St) (H:Hp) (s:Shared) (e:Value) (s':Shared),Inv X pins σ H s->CX X.stack H s E e s'->X.xe e s'
section
variable{k:Nat}{ps:List Str}{ds:List Value}{E:XK}{m:Str}{p:Pos}{e o:Expr}{ta:TE}{t:TA}
theorem zkp{Q:VK}{us:List Value}(F:FnOk X.prog X.w X.K X.mg X.base CX k f fd ps sp)(hr:Room k X.A)(hb:Binds X.K fd ps ds)(hd:Vals dvs ds)(hx:zb2 CX X E)
 (I:Inv X pins σ H s) (r:Vals vs us) (h:sp (vs ++dvs) H Q E):wpAny (model X.prog X.w) X.A (call (.ref f) us) (EP X pins σ Q) X.xe s:=by
 have r2:Vals (vs ++dvs) (us ++ds):=r.append hd
 have hl:(us ++ds).length=ps.length:=by rw[←r2.length];exact F.len _ _ _ _ h
 refine wpAny_call (codeAny_mono (F.run X.A X.stack s H ⟨us,[]⟩ (us ++ds) (vs ++dvs) Q E hr I.env0 (hb s us I.kIn hl) r2 h) λr s' hq=>?_)
 cases r with
 |error e=>exact hx pins σ H s e s' I hq
 |ok fl=>
  cases fl with
  |ret u=>exact I.after hq
  |next=>exact False.elim hq
  |brk=>exact False.elim hq
  |cont=>exact False.elim hq
theorem zpM(F:FnOk X.prog X.w X.K X.mg X.base CX k f fd ps sp)(hr:Room k X.A)(hg:Gl X x)(hm:X.mg x=some (.ref f))(hk:W.keepIn X.K (.ref f)=true)(hb:Binds X.K fd ps ds)(hd:Vals dvs ds)(hx:zb2 CX X E)
 (ha:PA X (e::es) t) (hdb:autoParam ((x==("__debug__":Str))=false) v4) (he:autoParam (starEach (e::es) X.env=(false,eval e X.env)::starEach es X.env) v3) (hpl:autoParam ((backTo pos (starEach es X.env)).any (·.1)=false) v3):
 PE X (.Call (.Name x p) (e::es) [] pos) (zqA sp dvs E t):=by
 intro pins s σ H Q I h
 refine wpAny_Call_Name_kw (zie I hg hm ?_ hdb)
 refine W.callWith_K (h₀:=X.base) I.ok.mod.kin hk (thn (ha pos pins s σ H _ I h) λus s1 zq=>?_) he hpl
 obtain⟨vs,H1,I1,r,q⟩:=zq
 refine⟨I1.kIn,?_⟩
 exact zkp F hr hb hd hx I1 r q
theorem zoV(he:PE X o ta)(c:Cls X.K C)(hm:Meth X.K C m f)(F:FnOk X.prog X.w X.K X.mg X.base CX k f fd ps sp)(hr:Room k X.A)(hb:Binds X.K fd ps ds)(hd:Vals dvs ds)(hx:zb2 CX X E)(ha:PA X (e::es) t)
 (hst:autoParam (starEach (e::es) X.env=(false,eval e X.env)::starEach es X.env) v3) (hpl:autoParam ((backTo pos (starEach es X.env)).any (·.1)=false) v3)
 (ht:autoParam (eval (.Call (.Attribute o m apos) (e::es) [] pos) X.env=(do
   let ov ←eval o X.env
   standAt apos.atName
   let(f,first) ←holding [ov] (getMethod ov m pl)
   callWith pos f first (backTo pos (starEach (e::es) X.env)) (backToKw pos (keywordEach [] X.env)))) v3):
 PE X (.Call (.Attribute o m apos) (e::es) [] pos) (zkU C m sp dvs E ta t):=by
 intro pins s σ H Q I h
 refine W.methodCall_KW (pl:=pl) (thn (he pins s σ H _ I h) λu s1 zq=>?_) ht
 obtain⟨x,H1,I1,rx,a,dx,fs,ex,ea,l,q⟩:=zq
 subst ex
 obtain rfl:u=Value.ref a:=rx
 refine zdW I1 ea c hm l ?_
 refine W.callWith_K (first:=[.ref a]) (h₀:=X.base) I.ok.mod.kin hm.kp (thn (ha pos pins s1 σ H1 _ I1 q) λus s2 zq=>?_) hst hpl
 obtain⟨vs,H2,I2,r,q2⟩:=zq
 refine⟨I2.kIn,?_⟩
 exact zkp (us:= .ref a::us) (vs:= .ref a::vs) F hr hb hd hx I2 (.cons rfl r) q2
theorem znS(he:PE X o ta)(c:Cls X.K C)(hm:Meth X.K C m f)(F:FnOk X.prog X.w X.K X.mg X.base CX k f fd ps sp)(hr:Room k X.A)(hb:Binds X.K fd ps ds)(hd:Vals dvs ds)(hx:zb2 CX X E)
 (ht:autoParam (eval (.Call (.Attribute o m apos) [] [] pos) X.env=(do
   let ov ←eval o X.env
   standAt apos.atName
   let(f,first) ←holding [ov] (getMethod ov m pl)
   callWith pos f first (backTo pos (starEach [] X.env)) (backToKw pos (keywordEach [] X.env)))) v3):
 PE X (.Call (.Attribute o m apos) [] [] pos) (zkU C m sp dvs E ta zmW):=by
 intro pins s σ H Q I h
 refine W.methodCall_KW (pl:=pl) (thn (he pins s σ H _ I h) λu s1 zq=>?_) ht
 obtain⟨x,H1,I1,rx,a,dx,fs,ex,ea,l,q⟩:=zq
 subst ex
 obtain rfl:u=Value.ref a:=rx
 refine zdW I1 ea c hm l ?_
 exact W.callWith_K0 (first:=[.ref a]) I1.kIn hm.kp (zkp (us:=[.ref a]) (vs:=[.ref a]) F hr hb hd hx I1 (.cons rfl .nil) q)
structure Mk(K:W.Frag)(C f:Addr):Prop where
 makes:W.makesIn K C=true
 init:W.findIn K (.ref C) "__init__"=some (some (.ref f))
 fn:W.isFn K (.ref f)=true
 kp:W.keepIn K (.ref C)=true
theorem zm6{Q:VK}{us:List Value}(M:Mk X.K C f)(F:FnOk X.prog X.w X.K X.mg X.base CX k f fd ps sp)(hr:Room (k+1) X.A)(hb:Binds X.K fd ps ds)(hd:Vals dvs ds)
 (hx:zb2 CX X E) (I:Inv X pins σ H s) (r:Vals vs us)
 (h:∀x dx,H x=none->H dx=none->dx≠x->sp (.ref x::(vs ++dvs)) (upd (upd H dx (.own x)) x (.ins C dx [])) (λv H2=>v= .non/\Q (.ref x) H2) E):
 wpAny (model X.prog X.w) X.A (call (.ref C) us) (EP X pins σ Q) X.xe s:=by
 have hq:=h (s.heap.objs.size+1) s.heap.objs.size (I.hok.fresh (Nat.le_succ _)) (I.hok.fresh (R0 _)) (C1 (Nat.lt_succ_self _))
 have I2:=Inv.made (C:=C) I
 have r2:Vals (V.ref (s.heap.objs.size+1)::(vs ++dvs)) (Value.ref (s.heap.objs.size+1)::(us ++ds)):= .cons rfl (r.append hd)
 have hl:(Value.ref (s.heap.objs.size+1)::us ++ds).length=ps.length:=by
  have e:=r2.length
  rw[F.len _ _ _ _ hq] at e
  exact e.symm
 refine wpAny_call (zos (f:=f) I.kIn M.makes M.init (beq_iff_eq.mp M.fn) (codeAny_mono (F.run _ X.stack _ _ ⟨Value.ref (s.heap.objs.size+1)::us,[]⟩ (Value.ref (s.heap.objs.size+1)::(us ++ds)) _ _ E (hr.make C us [])
  (I2.env0.make C us []) (hb _ (Value.ref (s.heap.objs.size+1)::us) I2.kIn hl) r2 hq) λr s' hq'=>?_))
 cases r with
 |error e=>exact hx pins σ _ _ e s' I2 hq'
 |ok fl=>
  cases fl with
  |ret u=>
   obtain⟨v,H',I3,rv,ev,q3⟩:=I2.after hq'
   subst ev
   exact⟨rv,⟨V.ref (s.heap.objs.size+1),H',I3,rfl,q3⟩⟩
  |next=>exact False.elim hq'
  |brk=>exact False.elim hq'
  |cont=>exact False.elim hq'
theorem zpH(M:Mk X.K C f)(F:FnOk X.prog X.w X.K X.mg X.base CX k f fd ps sp)(hr:Room (k+1) X.A)(hg:Gl X x)(hm:X.mg x=some (.ref C))(hb:Binds X.K fd ps ds)(hd:Vals dvs ds)(hx:zb2 CX X E)
 (ha:PA X (e::es) t) (hdb:autoParam ((x==("__debug__":Str))=false) v4) (he:autoParam (starEach (e::es) X.env=(false,eval e X.env)::starEach es X.env) v3) (hpl:autoParam ((backTo pos (starEach es X.env)).any (·.1)=false) v3):
 PE X (.Call (.Name x p) (e::es) [] pos) (zqF C sp dvs E t):=by
 intro pins s σ H Q I h
 refine wpAny_Call_Name_kw (zie I hg hm ?_ hdb)
 refine W.callWith_K (h₀:=X.base) I.ok.mod.kin M.kp (thn (ha pos pins s σ H _ I h) λus s1 zq=>?_) he hpl
 obtain⟨vs,H1,I1,r,q⟩:=zq
 refine⟨I1.kIn,?_⟩
 exact zm6 M F hr hb hd hx I1 r q
end
section
variable{k:Nat}{ps ks:List Str}{E:XK}{m:Str}{p kpos:Pos}{e o:Expr}{kws:List Keyword}{ta:TE}{t tk:TA}{nm:Option Str}
structure KBinds(K:W.Frag)(fd:FuncData)(ps ks:List Str)(g:List Value->List Value->List Value)(gV:List V->List V->List V):Prop where
 to:∀(s:Shared) (us ws:List Value),K.In s.heap->(g us ws).length=ps.length->BindsTo s fd ⟨us,ks.zip ws⟩ (ps.zip (g us ws))
 rel:∀{vs:List V} {us:List Value} {zs:List V} {ws:List Value},Vals vs us->Vals zs ws->Vals (gV vs zs) (g us ws)
variable{g:List Value->List Value->List Value}{gV:List V->List V->List V}
end
structure FnScope(N P:List Str)(sc:Scope):Prop where
 kind:sc.kind= .function
 co:sc.isCoroutine=false
 gen:sc.isGenerator=false
 nd:N.Nodup
 pre:N.take P.length=P
 par:∀x∈P,sc.names.lookup x=some .local\/sc.names.lookup x=some .cell
 nofree:∀y∈sc.names,y.2≠ .free
theorem zg7{kindOf:Str->Option NameKind}{x:Str}:∀{binds:List (Str×Value)} {m:Str->Option Value},(∀v,(x,v)∉binds)->bindL kindOf binds m x=m x
 |[],_,_=>rfl
 |(n,v)::r,m,h=>by
  unfold bindL
  rw[zg7 λw hw=>h w (Z0 _ hw)]
  split
  ·have:x≠n:=by rintro rfl;exact h v D1
   simp[this]
  ·rfl
theorem zhq{kindOf:Str->Option NameKind}{x:Str}:∀{binds:List (Str×Value)} {m:Str->Option Value},(∀v,(x,v)∉binds)->bindC kindOf binds m x=m x
 |[],_,_=>rfl
 |(n,v)::r,m,h=>by
  unfold bindC
  rw[zhq λw hw=>h w (Z0 _ hw)]
  split
  ·rfl
  ·have:x≠n:=by rintro rfl;exact h v D1
   simp[this]
theorem zhn{kindOf:Str->Option NameKind}{x:Str}{v:Value}:∀{P:List Str} {vs:List Value} {i:Nat} {m:Str->Option Value},P.Nodup->P[i]?=some x->vs[i]?=some v->kindOf x=some .local->
 bindL kindOf (P.zip vs) m x=some v
 |[],_,_,_,_,h,_,_=>by simp at h
 |_::_,[],_,_,_,_,h,_=>by simp at h
 |p::P,w::vs,0,m,nd,h1,h2,hk=>by
  simp at h1 h2;subst h1;subst h2
  show bindL kindOf ((p,w)::P.zip vs) m p=_
  unfold bindL
  rw[zg7 λv hv=>(D2.mp nd).1 (List.of_mem_zip hv).1,T0 hk]
  simp
 |p::P,w::vs,i+1,m,nd,h1,h2,hk=>by
  show bindL kindOf ((p,w)::P.zip vs) m x=_
  unfold bindL
  exact zhn (i:=i) (D2.mp nd).2 (by simpa using h1) (by simpa using h2) hk
theorem zhr{kindOf:Str->Option NameKind}{x:Str}{v:Value}:∀{P:List Str} {vs:List Value} {i:Nat} {m:Str->Option Value},P.Nodup->P[i]?=some x->vs[i]?=some v->kindOf x≠some .local->
 bindC kindOf (P.zip vs) m x=some v
 |[],_,_,_,_,h,_,_=>by simp at h
 |_::_,[],_,_,_,_,h,_=>by simp at h
 |p::P,w::vs,0,m,nd,h1,h2,hk=>by
  simp at h1 h2;subst h1;subst h2
  show bindC kindOf ((p,w)::P.zip vs) m p=_
  unfold bindC
  rw[zhq λv hv=>(D2.mp nd).1 (List.of_mem_zip hv).1,N0 hk]
  simp
 |p::P,w::vs,i+1,m,nd,h1,h2,hk=>by
  show bindC kindOf ((p,w)::P.zip vs) m x=_
  unfold bindC
  exact zhr (i:=i) (D2.mp nd).2 (by simpa using h1) (by simpa using h2) hk
noncomputable def zdP(N:List Str)(vs:List V):St:=vs.map some ++List.replicate (N.length -vs.length) none
noncomputable def zjs(CX:CXT)(P:Program)(w:World)(K:W.Frag)(mg:Str->Option Value)(base:Heap)(N:List Str)(qual:Str)(scope:Scope)(f:Addr)(cd:Value)(A:Around)(outer:List Env)(s:Shared)(H:Hp)(E:XK):Cx where
 prog:=P
 w:=w
 K:=K
 mg:=mg
 base:=base
 A:=A.deeper (envOfC qual scope s.heap.objs.size f cd)
 N:=N
 s₀:=s
 H₀:=H
 env:=envOfC qual scope s.heap.objs.size f cd
 outer:=outer
 stack:=envOfC qual scope s.heap.objs.size f cd::outer
 ex:=[]
 calm:=true
 fn:=λ_=>true
 pn:=[]
 xe:=λe s'=>wpAny (model P w) (A.deeper (envOfC qual scope s.heap.objs.size f cd)) (leaving (envOfC qual scope s.heap.objs.size f cd) e) (λ_ s''=>CX outer H s E e s'') (λe' s''=>CX outer H s E e' s'') s'
theorem zi2{sc:Scope}{n:Nat}(h:sc.names.lookup x=some .cell):∃c,(cellsFrom n sc.names []).lookup x=some c:=by
 have q:=W.cellsFrom_some sc.names n [] (.inl h)
 exact Option.isSome_iff_exists.mp q
theorem zmx{mg:Str->Option Value}{base:Heap}{ps:List Str}{cd:Value}{s1:Shared}{E:XK}{us:List Value}
 (S:FnScope N ps scope) (hd:A.handled=none) (e0:Env0 P w K mg base A outer s H) (hl:vs.length=ps.length) (r:Vals vs us)
 (x:InCallC s s.heap.objs.size (bindL (envOfC qual scope s.heap.objs.size f cd).kindOf (ps.zip us) λ_=>none) (cellsFrom (s.heap.objs.size+1) scope.names []) (bindC (envOfC qual scope s.heap.objs.size f cd).kindOf (ps.zip us) λ_=>none) s1):
 Inv (zjs CX P w K mg base N qual scope f cd A outer s H E) [] (zdP N vs) H s1:=by
 have hpl:ps.length<=N.length:=by have:=T2 List.length S.pre;rw[Z1] at this;lia
 obtain⟨h1,tk,rfl,hk⟩:=x.done
 have noA:∀b:Addr,b∉(zjs CX P w K mg base N qual scope f cd A outer s H E).ex:=λb z=>absurd (show b∈([]:List Addr)from z) `j2
 refine⟨⟨e0.mod,S.kind,rfl,rfl,R0 _,λy z c h1 h2=>?_,λy hy=>?_,λy c _ h=>?_,λ_=>hd,Around.frames_deeper e0.frames, .inr ⟨rfl,rfl⟩,λb z=>absurd z (noA b),e0.bs,e0.bsz,λb _ _=>noA b,λb z=>absurd z (noA b),e0.funs,e0.frf⟩,
  rfl,e0.bare,Un.kept hk,⟨_,x.toInCall.ns,λi y v h1 h2 h3=>?_⟩,λy c h=>⟨_,x.cell y c h⟩,e0.hok.fresh (R0 _),λy c h=>?_,λp hp=>absurd (show p∈([]:List (Addr×Obj))from hp) `j2,e0.hok.kept hk,?_⟩
 ·exact name_of_addr x.apart (PySem.mem_of_lookup h1) (PySem.mem_of_lookup h2)
 ·have hy:scope.names.lookup y=some .cell\/scope.names.lookup y=some .free:=hy
  rcases hy with hy|hy
  ·exact zi2 hy
  ·exact absurd rfl (S.nofree _ (PySem.mem_of_lookup hy))
 ·exact W2 (x.above y c (PySem.mem_of_lookup h))
 ·have hi:i<vs.length:=by
   unfold zdP at h2
   by_cases hi:i<vs.length
   ·exact hi
   ·rw[J2 (by simpa using hi)] at h2
    rw[List.getElem?_replicate] at h2
    split at h2<;>cases h2
  have ha:vs[i]?=some v:=by
   unfold zdP at h2
   rw[P2 (by simpa using hi),P0] at h2
   cases e:vs[i]? with
   |none=>rw[e] at h2;cases h2
   |some a=>rw[e] at h2;cases h2;rfl
  obtain⟨u,hu,rv⟩:=r.get ha
  have hp:ps[i]?=some y:=by
   rw[←S.pre,List.getElem?_take_of_lt ()];exact h1
  have ndP:ps.Nodup:=by rw[←S.pre];exact S.nd.sublist (List.take_sublist _ _)
  refine⟨u,rv,?_⟩
  rcases S.par y (W0 hp)with k|k
  ·exact .inl ⟨k,zhn ndP hp hu k⟩
  ·obtain ⟨c,e⟩:=zi2 (n:=s.heap.objs.size+1) k
   refine .inr ⟨.inl k,c,e,?_⟩
   have q:=x.cell y c e
   rw[zhr ndP hp hu (by show scope.names.lookup y≠_;rw[k];decide)] at q
   exact q
 ·exact e0.hok.fresh (W2 (x.above y c (PySem.mem_of_lookup h)))
 ·unfold zdP
  show _=N.length
  rw[o0,D0,List.length_replicate]
  lia
theorem zqE{mg:Str->Option Value}{base:Heap}{k:Nat}{params:Arguments}{dV kV:Value}
  {ps:List Str}  (lk:K.lookup f=some ⟨oc,od, .func (W.fnOf name qual params body scope dV kV doc pm an cdv ct),osl⟩) (hcd:W.codeIn K cdv qual=true) (S:FnScope N ps scope)
 (len:∀vs H Q E,sp vs H Q E->vs.length=ps.length)
 (hbody:∀(A:Around) (outer:List Env) (s:Shared) (H:Hp) (vs:List V) (Q:VK) (E:XK),Room k (A.deeper (envOfC qual scope s.heap.objs.size f cdv))->sp vs H Q E->
   ∃t,PSs (zjs CX P w K mg base N qual scope f cdv A outer s H E) body t/\t {nx:=λ_ H'=>Q .non H',rt:=Q} (zdP N vs) H):
 FnOk P w K mg base CX (k+1) f (W.fnOf name qual params body scope dV kV doc pm an cdv ct) ps sp:=by
 refine⟨len,λA outer s H args us vs Q E hr e0 hb r hsp=>?_⟩
 have hl:=len _ _ _ _ hsp
 have KX:K.In s.heap:=e0.mod.kin.keeps λb o e=>(e0.bs b o e).1
 have lim:s.heap.NoLimit:=e0.mod.nolimit.keeps λb o e=>(e0.bs b o e).1
 have hkind:∀y∈ps.zip us,scope.names.lookup y.1=some .local\/(scope.names.lookup y.1=some .cell/\((cellsFrom (s.heap.objs.size+1) scope.names []).lookup y.1).isSome=true):=λ⟨n,v⟩ hy=>by
  rcases S.par n (List.of_mem_zip hy).1 with q|q
  ·exact .inl q
  ·exact .inr ⟨q,W.cellsFrom_some _ _ _ (.inl q)⟩
 refine codeAny_call_function hr.depth (KX _ _ lk) rfl S.co S.gen rfl (W.codeRec_of KX hcd) (hb _ _ _ _ ?_)
 refine wpAny_newFunctionEnv_cells S.kind hkind λenv he s1 x=>?_
 subst he
 refine⟨lim.keeps x.toInCall.keep,codeAny_func ?_⟩
 obtain⟨t,ht,hq⟩:=hbody A outer s H vs Q E (hr.deeper _) hsp
 have I:Inv (zjs CX P w K mg base N qual scope f cdv A outer s H E) [] (zdP N vs) H s1:=zmx S hr.hd e0 hl r x
 refine X2 (ht [] s1 (zdP N vs) H _ I hq) (λfl s' hs=>?_) λe s' hs=>hs
 have fin:∀{σ':St} {H':Hp} {v:V} {u:Value},Inv (zjs CX P w K mg base N qual scope f cdv A outer s H E) [] σ' H' s'->RelV v u->Q v H'->CE outer P w H s Q u s':=
  λ{σ' H' v u} J rv q=>⟨v,H',J.os,J.bare,J.base,J.hok,rv,q⟩
 cases fl with
 |ret u=>
  obtain⟨v,σ',H',J,rv,q⟩:=hs
  exact fin J rv q
 |next=>
  obtain⟨σ',H',J,q⟩:=hs
  exact fin (v:=V.non) (u:=Value.none) J rfl q
 |brk=>
  obtain⟨_,_,_,q⟩:=hs
  exact False.elim q
 |cont=>
  obtain⟨_,_,_,q⟩:=hs
  exact False.elim q
section
variable{p:Pos}{e:Expr}{t:TA}{id T:String}{r:List V->Hp->VK->Prop}
def tCB(r:List V->Hp->VK->Prop)(t:TA):TE:=λσ H Q=>t σ H λvs H1=>r vs H1 Q
theorem zoh(hc:CallR X (.builtin id) r)(hg:Gl X x)(hm:X.mg x=none)(hv:bootBuiltins x=some (.builtin id))(ha:PA X (e::es) t)(hn:autoParam (x≠"__name__") v4)(hdb:autoParam ((x==("__debug__":Str))=false) v4)
 (he:autoParam (starEach (e::es) X.env=(false,eval e X.env)::starEach es X.env) v3) (hpl:autoParam ((backTo pos (starEach es X.env)).any (·.1)=false) v3):PE X (.Call (.Name x p) (e::es) [] pos) (tCB r t):=by
 intro pins s σ H Q I h
 refine wpAny_Call_Name_kw (zfU I hg hm hv ?_ hn hdb)
 refine PyProof.Rows.callWith_builtin1 (thn (ha pos pins s σ H _ I h) λus s1 zq=>?_) he hpl
 obtain⟨vs,H1,I1,r1,q1⟩:=zq
 exact hc pins s1 σ H1 vs us Q I1 r1 q1
theorem zmh(hc:CallR X (.type T) r)(hg:Gl X x)(hm:X.mg x=none)(hv:bootBuiltins x=some (.type T))(ha:PA X (e::es) t)(hn:autoParam (x≠"__name__") v4)(hdb:autoParam ((x==("__debug__":Str))=false) v4)
 (he:autoParam (starEach (e::es) X.env=(false,eval e X.env)::starEach es X.env) v3) (hpl:autoParam ((backTo pos (starEach es X.env)).any (·.1)=false) v3):PE X (.Call (.Name x p) (e::es) [] pos) (tCB r t):=by
 intro pins s σ H Q I h
 refine wpAny_Call_Name_kw (zfU I hg hm hv ?_ hn hdb)
 refine PyProof.Rows.callWith_type1 (thn (ha pos pins s σ H _ I h) λus s1 zq=>?_) he hpl
 obtain⟨vs,H1,I1,r1,q1⟩:=zq
 exact hc pins s1 σ H1 vs us Q I1 r1 q1
end
section
open PySem.SeqAt
open PySem.AutoSeq1 (wpAny_loadPart')
open PySem.MeetsSeq PySem.MeetsSeq2 PySem.MeetsSeq3
end
theorem cat_tup{t b:Addr}{vs ws:List Value}(ht:IsTup s.heap t vs.toArray)(hb:IsTup s.heap b ws.toArray)(hv:vs≠ [])
 (h1:ws=[]->Q (.ref t) s) (h2:ws≠ []->Q (.ref s.heap.objs.size) {s with heap:=s.heap.push {cls:= .type "tuple",data:= .seq (vs ++ws).toArray}})
 (hsz:vs.length+ws.length<=sizeLine):wpAny `Y3 A (binaryOp .Add (.ref t) (.ref b)) Q E s:=by
 obtain⟨⟨cls,dd,data,sl⟩,ho,hc,n,hd⟩:=id ht
 obtain⟨⟨cls2,dd2,data2,sl2⟩,ho2,hc2,n2,hd2⟩:=id hb
 simp only at hc hd hc2 hd2
 subst hc hd hc2 hd2
 have e:vs.toArray ++ws.toArray=(vs ++ws).toArray:=`j2
 by_cases hw:ws=[]
 ·exact concat_meets ⟨_,ho,rfl⟩ ⟨_,ho2,rfl⟩ noFill_tuple_add seq_tuple_add F.slot_tuple_add F.entry_tuple_add (F.args_tuple_add_2 _ _)
   (tuple_addW1 t b vs.toArray ws.toArray n n2 dd dd2 sl sl2 (by simpa using hv) (by simp[hw])) ⟨ho,ho2,h1 hw⟩
 ·refine concat_meets ⟨_,ho,rfl⟩ ⟨_,ho2,rfl⟩ noFill_tuple_add seq_tuple_add F.slot_tuple_add F.entry_tuple_add (F.args_tuple_add_2 _ _)
   (tuple_addW2 t b vs.toArray ws.toArray n n2 dd dd2 sl sl2 (by simpa using hv) (by simpa using hw) (by rw[Y0,Y0];exact hsz)) ⟨ho,ho2,?_⟩
  rw[e]
  exact h2 hw
noncomputable def sIx(n d:Nat):Option Int->Nat
 |none=>d
 |some v=>if v<0 then(v+(n:Int)).toNat else min v.toNat n
theorem zrl(n d:Nat)(hd:d<=n)(o:Option Int):sIx n d o<=n:=by
 cases o with
 |none=>exact hd
 |some v=>
  show(if v<0 then(v+(n:Int)).toNat else min v.toNat n)<=n
  by_cases hv:v<0
  ·rw[T0 hv];lia
  ·rw[N0 hv];exact Nat.min_le_right _ _
theorem zk5(v:Int)(n d:Nat):(if v<0 then max (v+(n:Int)) 0 else min v (n:Int))=((sIx n d (some v):Nat):Int):=by
 show(if v<0 then max (v+(n:Int)) 0 else min v (n:Int))=(((if v<0 then(v+(n:Int)).toNat else min v.toNat n):Nat):Int)
 by_cases hv:v<0
 ·simp only[T0 hv];lia
 ·simp only[N0 hv];lia
theorem zkw(lo hi:Option Int)(n:Nat):Builtin.Slice.sliceAdjust lo hi 1 (n:Int)=(((sIx n 0 lo:Nat):Int),((sIx n n hi:Nat):Int)):=by
 have h1:¬((1:Int)<0):=()
 unfold Builtin.Slice.sliceAdjust
 simp only[h1,if_false]
 refine Prod.ext ?_ ?_
 ·cases lo with
  |none=>rfl
  |some v=>exact zk5 v n 0
 ·cases hi with
  |none=>rfl
  |some v=>exact zk5 v n n
theorem zko(i j:Nat):Builtin.Slice.slicePlaces (i:Int) (j:Int) 1=j -i:=by
 unfold Builtin.Slice.slicePlaces
 have h1:(1:Int)>0:=()
 simp only[h1,if_true,Int.ediv_one]
 split<;>lia
theorem zge{v:Value}{o:Option Int}{Q:Option Int->Shared->Prop}(p:IsPart v o)(h:Q o s):wpAny `Y3 A (Builtin.Slice.slicePartIndex v) Q E s:=by
 cases p with
 |none=>exact slicePart_none h
 |int i t=>exact slicePart_int h
theorem zcw{hi:Option Int}{n:Nat}{Q:Int×Int×Nat->Shared->Prop}(hs:s.heap.IsSliceOf sl vl vu .none)(pl:IsPart vl lo)(pu:IsPart vu hi)
 (h:Q (((sIx n 0 lo:Nat):Int),1,sIx n n hi -sIx n 0 lo) s):wpAny `Y3 A (Builtin.Slice.sliceApplied (.ref sl) (pure (n:Int))) Q E s:=by
 obtain⟨os,hos,hcs,hds⟩:=id hs
 unfold Builtin.Slice.sliceApplied Builtin.Slice.sliceFields
 refine C0 (C0 (wpAny_field hos hds (x:=vl) rfl (C0 (wpAny_field hos hds (x:=vu) rfl (C0 (wpAny_field hos hds (x:= .none) rfl (K0 ?_)))))))
 refine C0 (slicePart_none ?_)
 show wpAny _ _ (if((1:Int)==0)=true then _ else _) _ _ s
 rw[N0 ⋯]
 refine C0 (zge pl (C0 (zge pu (C0 (K0 ?_)))))
 show wpAny _ _ (match Builtin.Slice.sliceAdjust lo hi 1 (n:Int)with|(lo,hi)=>pure (lo,(1:Int),Builtin.Slice.slicePlaces lo hi 1)) _ _ s
 rw[zkw lo hi n]
 show wpAny _ _ (pure (((sIx n 0 lo:Nat):Int),(1:Int),Builtin.Slice.slicePlaces ((sIx n 0 lo:Nat):Int) ((sIx n n hi:Nat):Int) 1)) _ _ s
 rw[zko]
 exact K0 h
theorem zn7(xs:Array Value)(i k:Nat):((List.range k).filterMap λ(m:Nat)=>xs[((i:Int)+(m:Int)*1).toNat]?).toArray=((xs.toList.drop i).take k).toArray:=by
 have e:(λ(m:Nat)=>xs[((i:Int)+(m:Int)*1).toNat]?)=λm=>xs[i+m]?:=by
  funext m
  have:((i:Int)+(m:Int)*1).toNat=i+m:=()
  rw[this]
 rw[e]
 have:=pick_run xs i k
 rw[List.filterMap_map] at this
 have e2:((λx=>xs[x]?)∘λx=>i+x)=λm=>xs[i+m]?:=rfl
 rw[e2] at this
 rw[this]
theorem getItem_tuple_cut{t:Addr}{hi:Option Int}(ht:IsTup s.heap t items)(hs:s.heap.IsSliceOf sl vl vu .none)(pl:IsPart vl lo)(pu:IsPart vu hi)
 (hw:¬(sIx items.size 0 lo=0/\sIx items.size items.size hi=items.size))
 (h:Q (.ref s.heap.objs.size) {s with heap:=s.heap.push {cls:= .type "tuple",data:= .seq ((items.toList.drop (sIx items.size 0 lo)).take (sIx items.size items.size hi -sIx items.size 0 lo)).toArray}})
 (hsz:items.size<=sizeLine):wpAny `Y3 A (getItem (.ref t) (.ref sl)) Q E s:=by
 have htake:sizeOk (.seq ((items.toList.drop (sIx items.size 0 lo)).take (sIx items.size items.size hi -sIx items.size 0 lo)).toArray):=by
  show((items.toList.drop (sIx items.size 0 lo)).take (sIx items.size items.size hi -sIx items.size 0 lo)).toArray.size<=sizeLine
  rw[Y0,Z1,List.length_drop,Array.length_toList]
  lia
 have hj:sIx items.size items.size hi<=items.size:=zrl _ _ (R0 _) hi
 obtain⟨os,hos,hcs,hds⟩:=id hs
 have hTs:s.TypeIs (.ref sl) "slice":=⟨os,hos,hcs⟩
 unfold getItem
 try with_reducible refine wpAny_holding ?_
 first|refine C0 (K0 ?_)|skip
 refine C0 (wpAny_sequenceKey ht.typeIs ⋯ ?_)
 refine C0 (wpAny_callSpecial?_slot (name:=Str.ofString "__getitem__") ht.typeIs PyProof.Rows.slot_tuple_getitem
  (wpAny_call_entry PyProof.Rows.slot_tuple_getitem ht.typeIs entry_tuple_getitem ?_ (args_tuple_getitem _ _)))
 show wpAny _ _ (Builtin.Tuple.tupleItemsOf (.ref t)>>=_) _ _ s
 refine C0 (tupleItemsOf_ ht ?_)
 refine C0 (wpAny_typeOf hTs ?_)
 rw[T0 ⋯]
 refine C0 (zcw hs pl pu ?_)
 have hno:¬((((sIx items.size 0 lo:Nat):Int)==0&&(1:Int)==1&&(sIx items.size items.size hi -sIx items.size 0 lo)==items.size)=true):=by
  intro q
  rw[a0,a0] at q
  have q1:((sIx items.size 0 lo:Nat):Int)=0:=eq_of_beq q.1.1
  have q2:sIx items.size items.size hi -sIx items.size 0 lo=items.size:=eq_of_beq q.2
  exact hw ⟨(),()⟩
 show wpAny _ _ (if(((sIx items.size 0 lo:Nat):Int)==0&&(1:Int)==1&&(sIx items.size items.size hi -sIx items.size 0 lo)==items.size)=true then _ else _) _ _ s
 rw[N0 hno,zn7]
 first
  |exact C0 (m:=Builtin.Tuple.tupleExact _) (Y1 (K0 ⟨_,rfl,K0 h⟩) htake)
  |exact C0 (m:=Builtin.Tuple.tupleExact _) (Y1 (C0 (K0 (K0 ⟨_,rfl,K0 h⟩))) htake)
  |exact C0 (C0 (m:=Builtin.Tuple.tupleExact _) (Y1 (K0 (K0 ⟨_,rfl,K0 h⟩)) htake))
  |exact C0 (C0 (m:=Builtin.Tuple.tupleExact _) (Y1 (K0 ⟨_,rfl,K0 h⟩) htake))
noncomputable abbrev TO:=St->Hp->(Option Int->Hp->Prop)->Prop
def PO(X:Cx)(e:Option Expr)(t:TO):Prop:=
 ∀(pins:List (Addr×Obj)) (s:Shared) (σ:St) (H:Hp) (Q:Option Int->Hp->Prop),Inv X pins σ H s->t σ H Q->
  wpAny (model X.prog X.w) X.A (evalPart e X.env) (λu s'=>∃o H',Inv X pins σ H' s'/\IsPart u o/\Q o H') X.xe s
noncomputable def zlC:TO:=λ_ H Q=>Q none H
noncomputable def zqp(t:TE):TO:=λσ H Q=>t σ H λx H1=>∃i,x= .int i/\Q (some i) H1
section
variable{e:Expr}{lo hi:Option Expr}{tl th:TO}{p2:Pos}
theorem zpC:PO X none zlC:=by
 intro pins s σ H Q I h
 rw[evalPart_none]
 exact K0 ⟨none,H,I, .none,h⟩
theorem zoI(h:PE X e te):PO X (some e) (zqp te):=by
 intro pins s σ H Q I hw
 rw[evalPart_some]
 refine thn (h pins s σ H _ I hw) λu s1 zq=>?_
 obtain⟨x,H1,I1,r1,q1⟩:=zq
 obtain⟨i,rfl,q⟩:=q1
 obtain⟨t,rfl⟩:=r1
 exact⟨some i,H1,I1, .int i t,q⟩
def SlR(X:Cx)(r:V->Option Int->Option Int->Hp->VK->Prop):Prop:=
 ∀(pins:List (Addr×Obj)) (s:Shared) (σ:St) (H:Hp) (x:V) (v vl vu:Value) (lo hi:Option Int) (sl:Addr) (Q:VK),Inv X pins σ H s->RelV x v->s.heap.IsSliceOf sl vl vu .none->IsPart vl lo->IsPart vu hi->r x lo hi H Q->
  ∃T id,typeLookup (.type T) "__getitem__"=pure (some (.builtin id))/\s.TypeIs v T/\wpAny (model X.prog X.w) X.A (getItem v (.ref sl)) (EP X pins σ Q) X.xe s
def tSl(r:V->Option Int->Option Int->Hp->VK->Prop)(te:TE)(tl th:TO):TE:=λσ H Q=>te σ H λx H1=>tl σ H1 λl H2=>th σ H2 λu H3=>r x l u H3 Q
theorem znp{r:V->Option Int->Option Int->Hp->VK->Prop}(hr:SlR X r)(he:PE X e te)(hl:PO X lo tl)(hu:PO X hi th):PE X (.Subscript e (.Slice lo hi none p2) pos) (tSl r te tl th):=by
 intro pins s σ H Q I h
 refine Subscript_ (thn (he pins s σ H _ I h) λv s1 zq=>?_)
 obtain⟨x,H1,I1,r1,q1⟩:=zq
 refine wpAny_Slice (thn (hl pins s1 σ H1 _ I1 q1) λvl s2 zq=>?_)
 obtain⟨l,H2,I2,pl,q2⟩:=zq
 refine thn (hu pins s2 σ H2 _ I2 q2) λvu s3 zq1=>?_
 obtain⟨u,H3,I3,pu,q3⟩:=zq1
 rw[evalPart_none]
 refine K0 ?_
 have I4:Inv X pins σ H3 {s3 with heap:=s3.heap.push {cls:= .type "slice",data:= .fields #[vl,vu, .none]}}:=I3.kept (t':=s3.toks) λb ob q=>F0 _ q
 obtain⟨T,id,hT,ht,hg⟩:=hr pins {s3 with heap:=s3.heap.push {cls:= .type "slice",data:= .fields #[vl,vu, .none]}} σ H3 x v vl vu l u s3.heap.objs.size Q I4 r1 (Heap.IsSliceOf.new ..) pl pu q3
 show wpAny (model X.prog X.w) X.A (subscriptTail e (.Slice lo hi none p2) v (.ref s3.heap.objs.size)) (EP X pins σ Q) X.xe {s3 with heap:=s3.heap.push {cls:= .type "slice",data:= .fields #[vl,vu, .none]}}
 exact tail_any (ops:=[.ref s3.heap.objs.size,v]) ht hT hg (by with_unfolding_all rfl)
noncomputable def zco(xs:List V)(lo hi:Option Int):List V:=(xs.drop (sIx xs.length 0 lo)).take (sIx xs.length xs.length hi -sIx xs.length 0 lo)
theorem zfh(xs:List V)(lo hi:Option Int):(zco xs lo hi).length<=xs.length:=by
 unfold zco
 rw[Z1,List.length_drop]
 lia
def zsB(K:W.Frag):V->Option Int->Option Int->Hp->VK->Prop:=λx lo hi H Q=>∃a xs,x= .ref a/\SqT K H a xs/\
 ¬(sIx xs.length 0 lo=0/\sIx xs.length xs.length hi=xs.length)/\∀p,H p=none->Q (.ref p) (upd H p (.tup (zco xs lo hi)))
theorem zq4:SlR X (zsB X.K):=by
 intro pins s σ H x v vl vu lo hi sl Q I rx hs pl pu h
 obtain⟨a,xs,rfl,hx,hw,q⟩:=h
 cases rx
 obtain⟨its,r,ht,hz⟩:=I.tuple hx
 have hlen:its.toArray.size=xs.length:=by rw[Y0];exact r.length.symm
 refine⟨"tuple",_,PyProof.Rows.slot_tuple_getitem.lookup,ht.typeIs,?_⟩
 refine getItem_tuple_cut ht hs pl pu (by rw[hlen];exact hw) ?_ (by rw[hlen];exact hz)
 rw[hlen]
 refine⟨.ref s.heap.objs.size,_,I.laid (t':=s.toks) (o:= .tup (zco xs lo hi)) (λb ob q=>F0 _ q) (R0 _) ?_,rfl,q _ (I.hok.fresh (R0 _))⟩
 exact⟨K1 (zfh xs lo hi) hz,_,(r.drop (sIx xs.length 0 lo)).take (sIx xs.length xs.length hi -sIx xs.length 0 lo),IsTup.new _ _,NoDict.new rfl (O0 _ rfl)⟩
noncomputable def zr2(K:W.Frag):R2:=λx y H Q=>∃a b xs ys,x= .ref a/\y= .ref b/\SqT K H a xs/\SqT K H b ys/\xs≠ []/\xs.length+ys.length<=sizeLine/\
 (ys=[]->Q (.ref a) H)/\(ys≠ []->∀p,H p=none->Q (.ref p) (upd H p (.tup (xs ++ys))))
theorem Vals.nil_iff{us:List Value}(r:Vals xs us):us=[]↔xs=[]:=by
 cases r with
 |nil=>simp
 |cons _ _=>simp
theorem zpE:OpR X (binaryOp .Add) (zr2 X.K):=by
 intro pins s σ H x y v u Q I rx ry h
 obtain⟨a,b,xs,ys,rfl,rfl,ha,hb,hx,hz,q1,q2⟩:=h
 cases rx
 cases ry
 obtain⟨its,r1,p1,_⟩:=I.tuple ha
 obtain⟨its2,r2,p2,_⟩:=I.tuple hb
 refine cat_tup p1 p2 (λz=>hx (r1.nil_iff.mp z)) (λz=>⟨.ref a,H,I,rfl,q1 (r2.nil_iff.mp z)⟩) (λz=>?_) (by rw[←r1.length,←r2.length];exact hz)
 refine⟨.ref s.heap.objs.size,_,I.laid (t':=s.toks) (o:= .tup (xs ++ys)) (λb ob q=>F0 _ q) (R0 _) ?_,rfl,q2 (λw=>z (r2.nil_iff.mpr w)) _ (I.hok.fresh (R0 _))⟩
 exact⟨by rw[o0];exact hz,_,r1.append r2,IsTup.new _ _,NoDict.new rfl (O0 _ rfl)⟩
end
noncomputable def ixN(n:Nat)(i:Int):Option Nat:=if 0<=i then(if i<n then some i.toNat else none)else if -(n:Int)<=i then some (i+n).toNat else none
noncomputable def atI(xs:List α)(i:Int):Option α:=(ixN xs.length i).bind λj=>xs[j]?
theorem zk2{n:Nat}{i:Int}(h:ixN n i=some j):seqIndex? i n=some j/\j<n/\-(n:Int)<=i/\i<n:=by
 unfold ixN at h
 by_cases h0:0<=i
 ·rw[T0 h0] at h
  by_cases h1:i<n
  ·rw[T0 h1] at h
   have e:i.toNat=j:=O1 h
   exact⟨by rw[seqIndex_of h0 h1,e],(),(),h1⟩
  ·rw[N0 h1] at h;cases h
 ·rw[N0 h0] at h
  by_cases h1: -(n:Int)<=i
  ·rw[T0 h1] at h
   have e:(i+n).toNat=j:=O1 h
   exact⟨by rw[seqIndex_neg () h1,e],(),h1,()⟩
  ·rw[N0 h1] at h;cases h
theorem zic{xs:List α}{i:Int}{v:α}(h:atI xs i=some v):∃j,seqIndex? i xs.length=some j/\xs[j]?=some v/\j<xs.length/\-(xs.length:Int)<=i/\i<xs.length:=by
 unfold atI at h
 cases e:ixN xs.length i with
 |none=>rw[e] at h;cases h
 |some j=>
  rw[e] at h
  obtain⟨h1,h2,h3,h4⟩:=zk2 e
  exact⟨j,h1,h,h2,h3,h4⟩
theorem zF{xs:List α}{v:α}(h:xs[j]?=some v):atI xs (j:Int)=some v:=by
 have hj:j<xs.length:=(W1.mp h).1
 have e:ixN xs.length (j:Int)=some j:=by
  unfold ixN
  rw[T0 (),T0 ()];simp
 unfold atI;rw[e];exact h
def zkN(b:Expr):Prop:=∀o i,subscripted b false o i=operate [o,i] (getItem o i)
def IxR(X:Cx)(r:R2):Prop:=
 ∀(value slice:Expr) (pins:List (Addr×Obj)) (s:Shared) (σ:St) (H:Hp) (x y:V) (v u:Value) (Q:VK),Inv X pins σ H s->RelV x v->RelV y u->r x y H Q->
  subscripted slice false v u=operate [v,u] (getItem v u)->wpAny (model X.prog X.w) X.A (subscriptTail value slice v u) (EP X pins σ Q) X.xe s
def MtR(X:Cx)(id:String)(r:V->List V->Hp->VK->Prop):Prop:=
 ∀(pins:List (Addr×Obj)) (s:Shared) (σ:St) (H:Hp) (x:V) (xs:List V) (v:Value) (us:List Value) (Q:VK),Inv X pins σ H s->RelV x v->Vals xs us->r x xs H Q->
  wpAny (model X.prog X.w) X.A (call (.builtin id) (v::us)) (EP X pins σ Q) X.xe s
section
variable{a b:Expr}{ta tb:TE}
theorem IxR.or{r:R2}(h:IxR X r)(h':IxR X r'):IxR X (λx y H Q=>r x y H Q\/r' x y H Q):=by
 intro value slice pins s σ H x y v u Q I rx ry q hs
 rcases q with q|q
 ·exact h value slice pins s σ H x y v u Q I rx ry q hs
 ·exact h' value slice pins s σ H x y v u Q I rx ry q hs
theorem zrY{r:R2}(hr:IxR X r)(ha:PE X a ta)(hb:PE X b tb)(hs:zkN b):PE X (.Subscript a b pos) (tOp r ta tb):=by
 intro pins s σ H Q I h
 exact Subscript_ (zrH ha hb I h λv u s2 x y H2 I2 rx ry q=>hr a b pins s2 σ H2 x y v u Q I2 rx ry q (hs _ _))
noncomputable def zr1(K:W.Frag):R2:=λx y H Q=>∃p xs i v,x= .ref p/\y= .int i/\SqL K H p xs/\atI xs i=some v/\Q v H
noncomputable def zr0(K:W.Frag):R2:=λx y H Q=>∃p xs i v,x= .ref p/\y= .int i/\SqT K H p xs/\atI xs i=some v/\Q v H
noncomputable def zrU:R2:=λx y H Q=>∃z i c,x= .str z/\y= .int i/\z.length<=sizeLine/\atI z.cps.toList i=some c/\Q (.str ⟨#[c]⟩) H
theorem zU:IxR X (zr1 X.K):=by
 intro value slice pins s σ H x y v u Q I rx ry h hs
 obtain⟨p,xs,i,z,rfl,rfl,hq,he,q⟩:=h
 cases rx
 obtain⟨t,rfl⟩:=ry
 obtain⟨its,r,pl,hz⟩:=I.list hq
 obtain⟨j,h1,h2,h3,h4,h5⟩:=zic he
 obtain⟨w,ew,rw'⟩:=r.get h2
 have hl:=r.length
 have hn:=zd7
 have fin:EP X pins σ Q w s:=⟨z,H,I,rw',q⟩
 by_cases h0:0<=i
 ·have hj:i.toNat=j:=by
   rw[seqIndex_of h0 h5] at h1
   exact O1 h1
  exact item_listR pl.isList h0 () (by rw[hj];simpa using ew) fin hs
 ·have hj:(i+(its.toArray.size:Int)).toNat=j:=by
   rw[seqIndex_neg () h4] at h1
   rw[Y0,←hl]
   exact O1 h1
  exact subscriptTail_builtinR (x:=w) pl.isList.typeIs slot_list_getitem.lookup
   (wpAny_getItem_list_neg (Q:=λr s'=>r=w/\EP X pins σ Q r s') pl.isList () (by rw[Y0]<;>lia) () (by rw[hj];simpa using ew) ⟨rfl,fin⟩) hs
theorem zG:IxR X (zr0 X.K):=by
 intro value slice pins s σ H x y v u Q I rx ry h hs
 obtain⟨p,xs,i,z,rfl,rfl,hq,he,q⟩:=h
 cases rx
 obtain⟨t,rfl⟩:=ry
 obtain⟨its,r,pl,hz⟩:=I.tuple hq
 obtain⟨j,h1,h2,h3,h4,h5⟩:=zic he
 obtain⟨w,ew,rw'⟩:=r.get h2
 have hl:=r.length
 have hn:=zd7
 have fin:EP X pins σ Q w s:=⟨z,H,I,rw',q⟩
 exact subscriptTail_builtinR (x:=w) pl.typeIs slot_tuple_getitem.lookup
  (getItem_tuple (j:=j) (Q:=λr s'=>r=w/\EP X pins σ Q r s') pl () () (by rw[Y0,←hl];exact h1) (by simpa using ew) ⟨rfl,fin⟩) hs
theorem zmT:IxR X zrU:=by
 intro value slice pins s σ H x y v u Q I rx ry h hs
 obtain⟨z,i,c,rfl,rfl,hz,he,q⟩:=h
 obtain⟨t,rfl⟩:=rx
 obtain⟨t',rfl⟩:=ry
 obtain⟨j,h1,h2,h3,h4,h5⟩:=zic he
 have hl:z.cps.toList.length=z.length:=by simp[Str.length]
 rw[hl] at h1 h4 h5
 have hn:=zd7
 exact tail_any (typeIs_str s z t) slot_str_getitem.lookup (getItem_str (c:=c) (by
  have e1:decide (i< -(2^63:Int))=false:=b0 ()
  have e2:decide (i≥2^63)=false:=b0 ()
  rw[e1,e2,Bool.or_false]) (by rw[h1];simpa using h2) ⟨.str ⟨#[c]⟩,H,I.tok _,⟨_,rfl⟩,q⟩) hs
noncomputable def rIx(K:W.Frag):R2:=λx y H Q=>zr1 K x y H Q\/zr0 K x y H Q\/zrU x y H Q
theorem znH:IxR X (rIx X.K):=zU.or (zG.or zmT)
theorem zkF(its:List Value)(n j:Nat)(u:Value):Obj.mapSeq (·.setIfInBounds j u) {cls:= .type "list",data:= .seq its.toArray n}={cls:= .type "list",data:= .seq (its.set j u).toArray n}:=by
 simp[Obj.mapSeq]
theorem Inv.lst{pins:List (Addr×Obj)}{σ:St}{H:Hp}{s:Shared}{p:Addr}{xs:List V}(I:Inv X pins σ H s)(h:H p=some (.lst xs)):
 ∃(its:List Value) (n:Nat),Vals xs its/\s.heap.get? p=some {cls:= .type "list",data:= .seq its.toArray n}/\xs.length<=sizeLine:=by
 obtain⟨z,its,n,r,e⟩:=I.hok p _ h
 exact⟨its,n,r,e,z⟩
theorem Inv.lstUpd{p:Addr}{n n':Nat}{f:Obj->Obj}(I:Inv X pins σ H s)(h:H p=some (.lst xs))
 (ho:s.heap.get? p=some {cls:= .type "list",data:= .seq its.toArray n}) (hf:f {cls:= .type "list",data:= .seq its.toArray n}={cls:= .type "list",data:= .seq its'.toArray n'}) (r:Vals ys its') (hz:ys.length<=sizeLine) (t:Nat):
 Inv X pins σ (upd H p (.lst ys)) {s with heap:=s.heap.update p f,toks:=t}:=by
 have e:(s.heap.update p f).get? p=some {cls:= .type "list",data:= .seq its'.toArray n'}:=by
  rw[Heap.get?_update_self f ho (by rw[hf]<;>rfl),hf]
 refine I.write (x:=p) (e:=p) (by rw[h];trivial) (.inl rfl) (λb u hb q=>(Heap.get?_update_other _ _ (Ne.symm hb)).trans q) ⟨_,e⟩ ?_
 exact⟨hz,its',n',r,e⟩
def zsi:V->V->V->Hp->(Hp->Prop)->Prop:=λo i v H Q=>∃p xs k j,o= .ref p/\i= .int k/\H p=some (.lst xs)/\ixN xs.length k=some j/\Q (upd H p (.lst (xs.set j v)))
theorem zc8:zro X zsi:=by
 intro pins s σ H o i v ov iv u Q I ro ri rv h
 obtain⟨p,xs,k,j,rfl,rfl,hp,hj,q⟩:=h
 cases ro
 obtain⟨t,rfl⟩:=ri
 obtain⟨its,n,r,ho,hz⟩:=I.lst hp
 obtain⟨h1,h2,h3,h4⟩:=zk2 hj
 have hl:=r.length
 have hn:=zd7
 have I':Inv X pins σ (upd H p (.lst (xs.set j v))) {s with heap:=s.heap.update p (Obj.mapSeq (·.setIfInBounds j u))}:=
  I.lstUpd hp ho (zkF its n j u) (r.set rv j) (by rw[List.length_set];exact hz) s.toks
 by_cases h0:0<=k
 ·have hk:k.toNat=j:=by
   rw[seqIndex_of h0 h4] at h1
   exact O1 h1
  exact W.ki_setAt ho h0 () (by rw[Y0,←hl];exact h4) (by rw[hk];exact⟨_,I',q⟩)
 ·have hk:(k+(its.toArray.size:Int)).toNat=j:=by
   rw[seqIndex_neg () h3] at h1
   rw[Y0,←hl]
   exact O1 h1
  exact W.ki_setBack ho () (by rw[Y0,←hl];exact h3) () (by rw[hk];exact⟨_,I',q⟩)
theorem zhQ(lo hi:Option Int)(n:Nat):(sliceBounds lo hi none n).1=((sIx n 0 lo:Nat):Int)/\(sliceBounds lo hi none n).2.1=((sIx n n hi:Nat):Int)/\(sliceBounds lo hi none n).2.2=1:=by
 refine⟨?_,?_,rfl⟩
 ·cases lo with
  |none=>simp[sliceBounds,sIx]
  |some i=>
   simp only[sliceBounds,sIx,Option.getD_none,show(1:Int)>0 by decide,if_true]
   by_cases h:i<0
   ·simp only[h,if_true]<;>lia
   ·simp only[h,if_false]<;>lia
 ·cases hi with
  |none=>simp[sliceBounds,sIx]
  |some i=>
   simp only[sliceBounds,sIx,Option.getD_none,show(1:Int)>0 by decide,if_true]
   by_cases h:i<0
   ·simp only[h,if_true]<;>lia
   ·simp only[h,if_false]<;>lia
theorem zgM(its:List Value)(lo hi:Option Int):slicePick its.toArray lo hi none=((its.drop (sIx its.length 0 lo)).take (sIx its.length its.length hi -sIx its.length 0 lo)).toArray:=by
 obtain⟨h1,h2,h3⟩:=zhQ lo hi its.toArray.size
 unfold slicePick
 rw[h1,h2,h3]
 simp only[sliceRange_one,pick_run,Y0]<;>rfl
def zsM(K:W.Frag):V->Option Int->Option Int->Hp->VK->Prop:=λx lo hi H Q=>∃a xs,x= .ref a/\SqL K H a xs/\∀p,H p=none->Q (.ref p) (upd H p (.lst (zco xs lo hi)))
theorem zlh:SlR X (zsM X.K):=by
 intro pins s σ H x v vl vu lo hi sl Q I rx hs pl pu h
 obtain⟨a,xs,rfl,hx,q⟩:=h
 cases rx
 obtain⟨its,r,ht,hz⟩:=I.list hx
 have hlen:=r.length
 refine⟨"list",_,slot_list_getitem.lookup,ht.isList.typeIs,?_⟩
 refine wpAny_getItem_list_slice ht.isList hs pl pu .none `j2 ?_ (by rw[Y0]<;>lia)
 rw[zgM,←hlen]
 refine⟨.ref s.heap.objs.size,_,I.laid (t':=s.toks) (o:= .lst (zco xs lo hi)) (λb ob q=>F0 _ q) (R0 _) ?_,rfl,q _ (I.hok.fresh (R0 _))⟩
 exact⟨K1 (zfh xs lo hi) hz,_,0,(r.drop (sIx xs.length 0 lo)).take (sIx xs.length xs.length hi -sIx xs.length 0 lo),O0 _ rfl⟩
noncomputable def zdM:V->Bool
 | .non=>true
 | .bl _=>true
 | .int _=>true
 | .str _=>true
 |_=>false
noncomputable def eqV:V->V->Bool
 | .non, .non=>true
 | .bl a, .bl b=>a==b
 | .bl a, .int b=>(if a then 1 else 0)==b
 | .int a, .bl b=>a==(if b then 1 else 0)
 | .int a, .int b=>a==b
 | .str a, .str b=>a==b
 |_,_=>false
theorem zqV{x:V}{v:Value}(ry:RelV y u)(rx:RelV x v)(fy:zdM y=true)(fx:zdM x=true):SeqAt.EqAt A s u v (eqV y x):=by
 cases y with
 |non=>
  cases ry
  cases x with
  |non=>cases rx;exact SeqAt.EqAt.same _
  |bl b=>cases rx;exact SeqAt.EqAt.none_bool b
  |int b=>obtain ⟨t,rfl⟩:=rx;exact SeqAt.EqAt.none_int b t
  |str b=>obtain ⟨t,rfl⟩:=rx;exact SeqAt.EqAt.none_str b t
  |_=>exact absurd (show false=true from fx) E1
 |bl a=>
  cases ry
  cases x with
  |non=>cases rx;exact SeqAt.EqAt.bool_none a
  |bl b=>cases rx;exact SeqAt.EqAt.bool_bool a b
  |int b=>obtain ⟨t,rfl⟩:=rx;exact SeqAt.EqAt.bool_int a b t
  |str b=>obtain ⟨t,rfl⟩:=rx;exact SeqAt.EqAt.bool_str a b t
  |_=>exact absurd (show false=true from fx) E1
 |int a=>
  obtain⟨t',rfl⟩:=ry
  cases x with
  |non=>cases rx;exact SeqAt.EqAt.int_none a t'
  |bl b=>cases rx;exact SeqAt.EqAt.int_bool a t' b
  |int b=>obtain ⟨t,rfl⟩:=rx;exact SeqAt.EqAt.int_int a t' b t
  |str b=>obtain ⟨t,rfl⟩:=rx;exact SeqAt.EqAt.int_str a t' b t
  |_=>exact absurd (show false=true from fx) E1
 |str a=>
  obtain⟨t',rfl⟩:=ry
  cases x with
  |non=>cases rx;exact SeqAt.EqAt.str_none a t'
  |bl b=>cases rx;exact SeqAt.EqAt.str_bool a t' b
  |int b=>obtain ⟨t,rfl⟩:=rx;exact SeqAt.EqAt.str_int a t' b t
  |str b=>obtain ⟨t,rfl⟩:=rx;exact SeqAt.EqAt.str_str a t' b t
  |_=>exact absurd (show false=true from fx) E1
 |_=>exact absurd (show false=true from fy) E1
noncomputable def eqU(x:V)(u:Value):Bool:=match u with
 | .none=>eqV .non x
 | .bool b=>eqV (.bl b) x
 | .int i _=>eqV (.int i) x
 | .str z _=>eqV (.str z) x
 |_=>false
theorem zmP{x:V}(r:RelV y u)(f:zdM y=true):eqU x u=eqV y x:=by
 cases y with
 |non=>cases r;rfl
 |bl b=>cases r;rfl
 |int i=>obtain ⟨t,rfl⟩:=r;rfl
 |str z=>obtain ⟨t,rfl⟩:=r;rfl
 |_=>exact absurd (show false=true from f) E1
theorem zeI{x:V}:∀{xs:List V} {us:List Value},Vals xs us->xs.all zdM=true->us.any (eqU x)=xs.any λy=>eqV y x
 |_,_, .nil,_=>rfl
 |y::xs,u::us, .cons r t,f=>by
  rw[List.all_cons,a0] at f
  rw[List.any_cons,List.any_cons,zmP r f.1,zeI t f.2]
theorem zdi{A:Around}{s:Shared}{x:V}{v:Value}(rx:RelV x v)(fx:zdM x=true):∀{xs:List V} {us:List Value},Vals xs us->xs.all zdM=true->∀u∈us,SeqAt.EqAt A s u v (eqU x u)
 |_,_, .nil,_=>λu hu=>by cases hu
 |y::xs,u::us, .cons r t,f=>λu' hu=>by
  rw[List.all_cons,a0] at f
  rcases X0.mp hu with rfl|hu
  ·rw[zmP r f.1];exact zqV r rx f.1 fx
  ·exact zdi rx fx t f.2 u' hu
noncomputable def inV(x:V)(xs:List V):Bool:=xs.any λy=>eqV y x
noncomputable def rIn(K:W.Frag)(neg:Bool):R2:=λx y H Q=>∃p xs,y= .ref p/\(SqL K H p xs\/SqT K H p xs)/\zdM x=true/\xs.all zdM=true/\Q (.bl (if neg then !inV x xs else inV x xs)) H
theorem ze3:OpR X (compareOp .In) (rIn X.K false):=by
 intro pins s σ H x y v u Q I rx ry h
 obtain⟨p,xs,rfl,hq,fx,fs,q⟩:=h
 cases ry
 rcases hq with hq|hq
 ·obtain ⟨its,r,pl,hz⟩:=I.list hq
  refine SeqAt.in_listAt (eqU x) pl.isList (λw hw=>zdi rx fx r fs w (by simpa using hw)) ⟨.bl _,H,I,rfl,?_⟩
  rw[show its.toArray.any (eqU x)=its.any (eqU x) by simp,zeI r fs]
  exact q
 ·obtain ⟨its,r,pl,hz⟩:=I.tuple hq
  refine SeqAt.in_tupleAt (eqU x) pl (λw hw=>zdi rx fx r fs w (by simpa using hw)) ⟨.bl _,H,I,rfl,?_⟩
  rw[show its.toArray.any (eqU x)=its.any (eqU x) by simp,zeI r fs]
  exact q
theorem zil:OpR X (compareOp .NotIn) (rIn X.K true):=by
 intro pins s σ H x y v u Q I rx ry h
 obtain⟨p,xs,rfl,hq,fx,fs,q⟩:=h
 cases ry
 rcases hq with hq|hq
 ·obtain ⟨its,r,pl,hz⟩:=I.list hq
  refine SeqAt.notIn_listAt (eqU x) pl.isList (λw hw=>zdi rx fx r fs w (by simpa using hw)) ⟨.bl _,H,I,rfl,?_⟩
  rw[show its.toArray.any (eqU x)=its.any (eqU x) by simp,zeI r fs]
  exact q
 ·obtain ⟨its,r,pl,hz⟩:=I.tuple hq
  refine SeqAt.notIn_tupleAt (eqU x) pl (λw hw=>zdi rx fx r fs w (by simpa using hw)) ⟨.bl _,H,I,rfl,?_⟩
  rw[show its.toArray.any (eqU x)=its.any (eqU x) by simp,zeI r fs]
  exact q
theorem zhY:CallR X (.builtin "len") (λxs H Q=>∃p ys,xs=[.ref p]/\(SqL X.K H p ys\/SqT X.K H p ys)/\Q (.int ys.length) H):=by
 intro pins s σ H xs us Q I r h
 obtain⟨p,ys,rfl,hq,q⟩:=h
 obtain⟨u,rfl,rx⟩:=zcu r
 cases rx
 have hn:=zd7
 rcases hq with hq|hq
 ·obtain ⟨its,r',pl,hz⟩:=I.list hq
  have hlen:=r'.length
  exact Calls.call_len_list pl.isList (by simp only[Y0]<;>lia) ⟨.int ys.length,H,I.tok _,⟨s.toks+1,by rw[Y0,hlen]⟩,q⟩
 ·obtain ⟨its,r',pl,hz⟩:=I.tuple hq
  have hlen:=r'.length
  exact len_tuple pl (by simp only[Y0]<;>lia) ⟨.int ys.length,H,I.tok _,⟨s.toks+1,by rw[Y0,hlen]⟩,q⟩
theorem zh1:CallR X (.builtin "len") (λxs H Q=>∃z,xs=[.str z]/\z.length<=sizeLine/\Q (.int z.length) H):=by
 intro pins s σ H xs us Q I r h
 obtain⟨z,rfl,hz,q⟩:=h
 obtain⟨u,rfl,t,rfl⟩:=zcu r
 have hn:=zd7
 exact len_str () ⟨.int z.length,H,I.tok _,⟨_,rfl⟩,q⟩
theorem CallR.or{f:Value}{r r':List V->Hp->VK->Prop}(h:CallR X f r)(h':CallR X f r'):CallR X f (λxs H Q=>r xs H Q\/r' xs H Q):=by
 intro pins s σ H xs us Q I rs q
 rcases q with q|q
 ·exact h pins s σ H xs us Q I rs q
 ·exact h' pins s σ H xs us Q I rs q
theorem zh8:CallR X (.type "list") (λxs H Q=>∃p ys,xs=[.ref p]/\(SqL X.K H p ys\/SqT X.K H p ys)/\∀l,H l=none->Q (.ref l) (upd H l (.lst ys))):=by
 intro pins s σ H xs us Q I r h
 obtain⟨p,ys,rfl,hq,q⟩:=h
 obtain⟨u,rfl,rx⟩:=zcu r
 cases rx
 have fin:∀(its:List Value),Vals ys its->ys.length<=sizeLine->∀(h':Heap) (c':Nat),(∀b o',s.heap.get? b=some o'->h'.get? b=some o')->
  h'.get? s.heap.objs.size=some {cls:= .type "list",dict:=none,data:= .seq its.toArray c',slots:= #[]}->EP X pins σ Q (.ref s.heap.objs.size) {s with heap:=h'}:=λits r' hz h' c' kp e=>
  ⟨.ref s.heap.objs.size,_,I.laid (t':=s.toks) kp (R0 _) (show ObjOk X.prog X.w _ h' _ (.lst ys)from⟨hz,its,c',r',e⟩),rfl,q _ (I.hok.fresh (R0 _))⟩
 rcases hq with hq|hq
 ·obtain ⟨its,r',pl,hz⟩:=I.list hq
  have hlen:=r'.length
  obtain⟨o,ho,hc,n,hd⟩:=pl.isList
  exact call_list_seq p (.inl rfl) ho hc hd (λh' c' kp e=>fin its r' hz h' c' kp e) (by simp only[Y0]<;>lia)
 ·obtain ⟨its,r',pl,hz⟩:=I.tuple hq
  have hlen:=r'.length
  obtain⟨o,ho,hc,n,hd⟩:=pl
  exact call_list_seq p (.inr rfl) ho hc hd (λh' c' kp e=>fin its r' hz h' c' kp e) (by simp only[Y0]<;>lia)
theorem zW:CallR X (.type "tuple") (λxs H Q=>∃p ys,xs=[.ref p]/\((SqL X.K H p ys/\∀l,H l=none->Q (.ref l) (upd H l (.tup ys)))\/(SqT X.K H p ys/\Q (.ref p) H))):=by
 intro pins s σ H xs us Q I r h
 obtain⟨p,ys,rfl,h⟩:=h
 obtain⟨u,rfl,rx⟩:=zcu r
 cases rx
 rcases h with⟨hq,q⟩|⟨hq,q⟩
 ·obtain ⟨its,r',pl,hz⟩:=I.list hq
  have hlen:=r'.length
  refine call_tuple_list pl.isList (λh' kp=>?_) (by simp only[Y0]<;>lia)
  have I1:Inv X pins σ H {s with heap:=h'}:=I.kept (t':=s.toks) kp
  have I2:Inv X pins σ (upd H h'.objs.size (.tup ys)) {s with heap:=h'.push {cls:= .type "tuple",data:= .seq its.toArray}}:=
   I1.laid (t':=s.toks) (λb o e=>F0 _ e) (R0 _) (show ObjOk X.prog X.w _ _ _ (.tup ys)from⟨hz,its,r',IsTup.new _ _,NoDict.new rfl (O0 _ rfl)⟩)
  exact⟨.ref h'.objs.size,_,I2,rfl,q _ (I1.hok.fresh (R0 _))⟩
 ·obtain ⟨its,r',pl,hz⟩:=I.tuple hq
  exact call_tuple_same pl ⟨.ref p,H,I,rfl,q⟩
def tyV(K:W.Frag)(T:String)(x:V)(H:Hp):Prop:=match x with
 | .str _=>T="str"
 | .int _=>T="int"
 | .ref p=>(T="list"/\∃xs,SqL K H p xs)\/(T="tuple"/\∃o,K.lookup p=some o/\o.cls= .type "tuple"/\o.dict=none)\/
    (T="dict"/\((∃kvs,H p=some (.dK kvs))\/∃kvs,H p=some (.dT kvs)))\/(T="set"/\∃S n,H p=some (.set S n))\/(T="tuple"/\∃xs,H p=some (.tup xs))
 |_=>False
theorem zqO{T:String}{x:V}{v:Value}(I:Inv X pins σ H s)(r:RelV x v)(ty:tyV X.K T x H):
 s.TypeIs v T/\∀a,v= .ref a->∃ob,s.heap.get? a=some ob/\ob.dict=none:=by
 cases x with
 |str z=>
  obtain⟨t,rfl⟩:=r
  cases(show T="str"from ty)
  exact⟨typeIs_str s z t,λ_ e=>nomatch e⟩
 |int i=>
  obtain⟨t,rfl⟩:=r
  cases(show T="int"from ty)
  exact⟨typeIs_int s i t,λ_ e=>nomatch e⟩
 |ref p=>
  cases r
  rcases ty with⟨rfl,xs,hq⟩|⟨rfl,o,hk,hc,hd⟩|⟨rfl,hk⟩|⟨rfl,S,n,hk⟩|⟨rfl,xs,hk⟩
  ·obtain ⟨its,_,pl,_⟩:=I.list hq
   refine⟨pl.isList.typeIs,λa e=>?_⟩
   cases e
   obtain⟨o,n,e,c,hd,_⟩:=pl
   exact⟨o,e,hd⟩
  ·refine ⟨⟨o,I.kIn p o hk,hc⟩,λa e=>?_⟩
   cases e
   exact⟨o,I.kIn _ o hk,hd⟩
  ·have z:∃o,s.heap.get? p=some o/\o.ExactDict:=by
    rcases hk with⟨kvs,hk⟩|⟨kvs,hk⟩
    ·obtain ⟨_,_,_,_,o,_,_,e,ex,_⟩:=I.hok p _ hk
     exact⟨o,e,ex⟩
    ·obtain ⟨_,_,_,_,o,_,_,e,ex,_⟩:=I.hok p _ hk
     exact⟨o,e,ex⟩
   obtain⟨o,e,ex⟩:=z
   refine⟨⟨o,e,ex.1⟩,λa e2=>?_⟩
   cases e2
   exact⟨o,e,ex.2.1⟩
  ·obtain ⟨o,_,_,_,e,ex,_⟩:=I.hok p _ hk
   refine⟨⟨o,e,ex.1⟩,λa e2=>?_⟩
   cases e2
   exact⟨o,e,ex.2.1⟩
  ·obtain ⟨_,_,_,⟨o,e,c,_⟩,nd⟩:=I.hok p _ hk
   refine⟨⟨o,e,c⟩,λa e2=>?_⟩
   cases e2
   exact⟨o,e,nd o e⟩
 |_=>exact False.elim ty
def tBM(K:W.Frag)(T:String)(r:V->List V->Hp->VK->Prop)(to:TE)(t:TA):TE:=λσ H Q=>to σ H λx H1=>tyV K T x H1/\t σ H1 λxs H2=>r x xs H2 Q
variable{o e:Expr}{to:TE}{t:TA}{T id:String}{r:V->List V->Hp->VK->Prop}
theorem zsx(pa:PlainAttrs T)(slot:Slot T name id)(hty:typeOf (.builtin id)=pure (.type "method_descriptor"))(hm:MtR X id r)(ho:PE X o to)(ha:PA X (e::es) t)
 (hbase:autoParam (attributeBase o name X.env (eval o X.env)=eval o X.env) v3)
 (hfew:autoParam (((backTo cpos (starEach (e::es) X.env)).all (λx=>!x.1)&&(backToKw cpos (keywordEach [] X.env)).all (λx=>x.1.isSome)
   &&decide ((e::es).length+([]:List Keyword).length+(if([]:List Keyword).isEmpty then 0 else 1)<30))=true) v3)
 (hline:autoParam ((apos.endLine==cpos.line)=true) v3) (hs:autoParam (starEach (e::es) X.env=(false,eval e X.env)::starEach es X.env) v3) (hplain:autoParam ((backTo cpos (starEach es X.env)).any (·.1)=false) v3):
 PE X (.Call (.Attribute o name apos) (e::es) [] cpos) (tBM X.K T r to t):=by
 intro pins s σ H Q I h
 refine wpAny_Call_method_late hbase hfew hline rfl (thn (ho pins s σ H _ I h) λv s1 zq=>?_)
 obtain⟨x,H1,I1,r1,ty,q1⟩:=zq
 obtain⟨h1,h2⟩:=zqO I1 r1 ty
 refine⟨T,id,pa,slot,hty,h1,h2,?_⟩
 have hA:=ha cpos pins s1 σ H1 _ I1 q1
 rw[hs] at hA⊢
 refine Calls.callWith_builtin (by show(false||(backTo cpos (starEach es X.env)).any (·.1))=false;rw[hplain]<;>rfl) (Calls.evalArgs_plain ?_)
 refine thn hA λus s2 zq=>?_
 obtain⟨vs,H2,I2,r2,q2⟩:=zq
 exact hm pins s2 σ H2 x vs v us Q I2 r1 r2 q2
end
def MtM(X:Cx)(id:String)(r:V->List V->Hp->VK->Prop):Prop:=
 ∀(pins:List (Addr×Obj)) (s:Shared) (σ:St) (H:Hp) (x:V) (xs:List V) (v:Value) (us:List Value) (Q:VK),Inv X pins σ H s->RelV x v->Vals xs us->r x xs H Q->
  wpAny (model X.prog X.w) X.A (call (.builtin id) (v::us)) (EP X pins σ Q) X.xe s
theorem Vals.one{x:V}{us:List Value}(h:Vals [x] us):∃u,us=[u]/\RelV x u:=by
 cases h with
 |cons r t=>cases t;exact⟨_,rfl,r⟩
theorem Vals.eraseIdx:∀{xs:List V} {us:List Value} (i:Nat),Vals xs us->Vals (xs.eraseIdx i) (us.eraseIdx i)
 |_,_,_, .nil=> .nil
 |_,_,0, .cons _ t=>t
 |_,_,i+1, .cons r t=> .cons r (Vals.eraseIdx i t)
theorem zhd{α:Type}:∀(l:List α) (i:Nat),(l.eraseIdx i).length<=l.length
 |[],_=>R0 _
 |_::_,0=>Nat.le_succ _
 |_::r,i+1=>Nat.succ_le_succ (zhd r i)
section
variable{b:Addr}{zs:List V}
theorem Inv.lset{n:Nat}{f:Array Value->Array Value}(I:Inv X pins σ H s)(hH:H l=some (.lst xs))
 (e:s.heap.get? l=some {cls:= .type "list",data:= .seq its.toArray n}) (hf:f its.toArray=its'.toArray) (hv:Vals ys its') (hz:ys.length<=sizeLine):
 Inv X pins σ (upd H l (.lst ys)) {s with heap:=s.heap.update l (Obj.mapSeq f),toks:=t'}:=by
 have q:=IsL.update e f
 rw[hf] at q
 refine I.write (x:=l) (e:=l) (by rw[hH];exact trivial) (.inl rfl) (λb' u hb hu=>(Heap.get?_update_other s.heap (Obj.mapSeq f) (Ne.symm hb)).trans hu) ⟨_,q⟩ ?_
 exact⟨hz,its',_,hv,q⟩
theorem Inv.lnew(I:Inv X pins σ H s)(hv:Vals ys its)(hz:ys.length<=sizeLine):
 Inv X pins σ (upd H s.heap.objs.size (.lst ys)) {s with heap:=s.heap.push {cls:= .type "list",data:= .seq its.toArray},toks:=t'}:=
 I.laid (λ_ _ q=>F0 _ q) (R0 _) ⟨hz,its,0,hv,O0 _ rfl⟩
theorem Inv.fresh(I:Inv X pins σ H s):H s.heap.objs.size=none:=I.hok.fresh (R0 _)
theorem Inv.lstM(I:Inv X pins σ H s)(hH:H l=some (.lst xs)):xs.length<=sizeLine/\∃(its:List Value) (n:Nat),Vals xs its/\xs.length=its.length/\s.heap.get? l=some {cls:= .type "list",data:= .seq its.toArray n}:=by
 obtain⟨z,its,n,r,e⟩:=I.hok l _ hH
 exact⟨z,its,n,r,r.length,e⟩
theorem zn1{n:Nat}(h:n<=sizeLine):Builtin.List.listTooLong n=false:=by
 unfold Builtin.List.listTooLong
 exact b0 ()
end
def zpL:V->List V->Hp->VK->Prop:=λx vs H Q=>∃l xs y,x= .ref l/\vs=[y]/\H l=some (.lst xs)/\xs.length<sizeLine/\Q .non (upd H l (.lst (xs ++ [y])))
theorem za2:MtM X "list.append" zpL:=by
 intro pins s σ H x vs v us Q I rx rv h
 obtain⟨l,xs,y,rfl,rfl,hH,hz,q⟩:=h
 cases rx
 obtain⟨u,rfl,ru⟩:=rv.one
 obtain⟨z,its,n,r,hl,e⟩:=I.lstM hH
 refine call_meets F.slot_list_append ⟨_,e,rfl⟩ F.entry_list_append (F.args_list_append_2 _ _) (PySem.list_append l its.toArray n u (by rw[Y0];lia)) ⟨e,?_⟩
 refine⟨.non,_,I.lset (its':=its ++ [u]) hH e `j2 (r.append (.cons ru .nil)) ?_,rfl,q⟩
 rw[o0,List.length_singleton]
 lia
def zp5:V->List V->Hp->VK->Prop:=λx vs H Q=>∃l b xs zs,x= .ref l/\vs=[.ref b]/\H l=some (.lst xs)/\H b=some (.lst zs)/\xs.length+zs.length<=sizeLine/\Q .non (upd H l (.lst (xs ++zs)))
theorem ze4:MtM X "list.extend" zp5:=by
 intro pins s σ H x vs v us Q I rx rv h
 obtain⟨l,b,xs,zs,rfl,rfl,hH,hB,hz,q⟩:=h
 cases rx
 obtain⟨u,rfl,ru⟩:=rv.one
 cases ru
 obtain⟨z,its,n,r,hl,e⟩:=I.lstM hH
 obtain⟨z2,its2,n2,r2,hl2,e2⟩:=I.lstM hB
 have hsz:its.toArray.size+its2.toArray.size<=sizeLine:=by rw[Y0,Y0];lia
 have hlong:¬(!its.toArray.isEmpty&&Builtin.List.listTooLong (its.toArray.size+its2.toArray.size))=true:=by
  rw[zn1 hsz,Bool.and_false]
  exact E1
 refine call_meets F.slot_list_extend ⟨_,e,rfl⟩ F.entry_list_extend (F.args_list_extend_2 _ _)
  (AutoSeq1.list_extend_list_list_0 l its.toArray n b its2.toArray n2 hlong (by rw[Y0];lia) ()) ⟨e,e2,?_⟩
 refine⟨.non,_,I.lset (its':=its ++its2) hH e `j2 (r.append r2) ?_,rfl,q⟩
 rw[o0]
 lia
def zq9:V->List V->Hp->VK->Prop:=λx vs H Q=>∃l xs i k y,x= .ref l/\vs=[.int i]/\H l=some (.lst xs)/\-(2^63)<=i/\i<2^63/\seqIndex? i xs.length=some k/\xs[k]?=some y/\Q y (upd H l (.lst (xs.eraseIdx k)))
theorem zje:MtM X "list.pop" zq9:=by
 intro pins s σ H x vs v us Q I rx rv h
 obtain⟨l,xs,i,k,y,rfl,rfl,hH,h1,h2,hk,hy,q⟩:=h
 cases rx
 obtain⟨u,rfl,ru⟩:=rv.one
 obtain⟨t,rfl⟩:=ru
 obtain⟨z,its,n,r,hl,e⟩:=I.lstM hH
 obtain⟨w,hw,rw'⟩:=r.get hy
 refine call_meets F.slot_list_pop ⟨_,e,rfl⟩ F.entry_list_pop (F.args_list_pop_2 _ _)
  (MeetsSeq.list_pop_at l its.toArray n i t k w (fitsIndex_both h1 h2) (by rw[Y0,←hl];exact hk) (by rw[←Array.getElem?_toList];exact hw) (by rw[Y0];lia)) ⟨e,?_⟩
 refine⟨y,_,I.lset (its':=its.eraseIdx k) hH e ?_ (r.eraseIdx k) ?_,rw',q⟩
 ·show its.toArray.eraseIdxIfInBounds k=(its.eraseIdx k).toArray
  rw[List.eraseIdxIfInBounds_toArray]
 ·have:=zhd xs k
  lia
noncomputable def zsI:R2:=λx y H Q=>∃l b xs zs,x= .ref l/\y= .ref b/\H l=some (.lst xs)/\H b=some (.lst zs)/\xs.length+zs.length<=sizeLine/\∀p,H p=none->Q (.ref p) (upd H p (.lst (xs ++zs)))
theorem zkr:OpR X (binaryOp .Add) zsI:=by
 intro pins s σ H x y v u Q I rx ry h
 obtain⟨l,b,xs,zs,rfl,rfl,hH,hB,hz,q⟩:=h
 cases rx
 cases ry
 obtain⟨z,its,n,r,hl,e⟩:=I.lstM hH
 obtain⟨z2,its2,n2,r2,hl2,e2⟩:=I.lstM hB
 refine P.add_list e e2 ?_ (by rw[Y0,Y0];lia)
 have ea:its.toArray ++its2.toArray=(its ++its2).toArray:=`j2
 rw[ea]
 exact⟨.ref _,_,I.lnew (t':=s.toks) (r.append r2) (by rw[o0];lia),rfl,q _ I.fresh⟩
section
set_option maxRecDepth 100000 in
end
section
open PySem.W PySem.Calls
theorem zfu{P:Params}{h:Heap}:∀(ns:List Int) (vs:List Value),WellAll P h vs (ns.map WData.int)->IntsAre vs ns:=by
 intro ns
 induction ns with
 |nil=>
  intro vs w
  rw[List.map_nil] at w
  cases w
  exact .nil
 |cons n ns ih=>
  intro vs w
  rw[N1] at w
  cases w with
  |cons a b=>
   cases a
   exact .cons _ _ (ih _ b)
theorem zl1{l:OpenLaw}{n:Nat}(hn:l.most=some n){P:Params}{h:Heap}{args:List WData}{vals:List Value}
 (hpre:l.row.toRowW.claim.pre args=true) (hwl:WellAll P h vals args):
 ∃a vs ns,vals=[Value.ref a]/\args=[WData.list (ns.map WData.int)]/\h.get? a=some {cls:= .type "list",data:= .seq vs.toArray}/\IntsAre vs ns/\ns.length<=n:=by
 have hsh:WShape.hasAll [] args [.list .int]=true:=(pre_splitW hpre).1
 have hc:l.pre.holds [] {args:=args}=true:=(pre_splitW hpre).2
 obtain⟨d,r,rfl,h1,h2⟩:=hasAllW_cons hsh
 obtain rfl:=hasAllW_nil h2
 obtain⟨xs,rfl,h3⟩:=hasW_list h1
 obtain⟨ns,rfl⟩:=items_int h3
 have hlen:ns.length<=n:=by
  unfold OpenLaw.pre at hc
  have h4:(WTm.not (.lt (.lit (.int (n:Int))) (.len (.arg 0)))).holds [] {args:=[.list (ns.map .int)]}=true:=by
   have h4:=(holds_andW hc).1
   rw[hn] at h4
   exact h4
  have h5:=condW_of h4 (w_not (w_lt w_lit (w_len_list (w_arg rfl))))
  rw[D0] at h5
  refine Nat.le_of_not_lt λq=>?_
  have q':(n:Int)<((ns.length:Nat):Int):=()
  first
   |(rw[V0 q'] at h5;exact absurd h5 ⋯)
   |(simp at h5;lia)
 cases hwl with
 |cons w1 w2=>
  cases w2
  cases w1 with
  |list ho hall=>exact ⟨_,_,ns,rfl,rfl,ho,zfu ns _ hall,hlen⟩
theorem zmz(l:OpenLaw)(args:List WData):l.row.toRowW.claim.post args (.bool true) args=true:=
 postW_of (r:=l.row.toRowW) (X:=(true==true))
  (show WShape.has [] (.bool true) .bool=true by first|rfl|decide|simp[WShape.has,WShape.arms,WShape.armsAll])
  (show(WTm.eq .res (.lit (.bool true))).value [] {args:=args,res:=some (.bool true),after:=args}=some (.bool (true==true))from w_eq_bool (w_res rfl) w_lit) rfl
theorem attach_call{l:OpenLaw}{n:Nat}{q:Program}{d:DefRec}
 (hn:l.most=some n) (hdf:d.params.defaults=[])
 (call:∀(w:World) (s₀ s₁:Shared) (mg mb:Str->Option Value) (fa:Addr) (o:Obj) (pm cd doc:Value) (a:Addr) (vs:List Value) (ns:List Int),
   Ground q loose [] XP w s₀ mg mb s₁.heap->YP w s₁.heap->
   s₁.heap.get? fa=some o->o.data= .func (docDef d.name d.params d.body d.scope pm cd doc)->s₁.heap.CodeRec cd d.name->mg d.name=some (.ref fa)->
   s₁.heap.get? a=some {cls:= .type "list",data:= .seq vs.toArray}->IntsAre vs ns->ns.length<=n->s₁.gens= #[]->
   codeAny (model l.prog w) callerA (.call (.ref fa) ⟨[.ref a],[]⟩) (λr s'=>r= .ok (.ret (.bool true))/\OldK s₁.heap s'.heap/\s'.os=s₁.os/\AllBare s'.gens) s₁):
 WalkO q loose XP YP l.row.toRowW d [] (λf vs=>PySem.call f vs):=by
 intro w s₀ s₁ mg mb G Y fa o pm cd doc dV kV ho hd hcd hD hmg hg args vals as hpre hlay hrd hwl hlo
 obtain rfl:dV= .none:=Dflts.none hD hdf
 obtain rfl:kV= .none:=Dflts.noKw hD
 obtain⟨a,vs,ns,rfl,rfl,hobj,hints,hlen⟩:=zl1 hn hpre hwl
 refine enter_call (codeAny_mono (call w s₀ s₁ mg mb fa o pm cd doc a vs ns G Y ho (fd_plain hd) hcd hmg hobj hints hlen hg) λr s' hq=>?_)
 obtain⟨rfl,h2,h3,h4⟩:=hq
 exact⟨.inl ⟨.bool true, .bool true,[],rfl,λ_=>rfl, .bool true,zmz l _,λ_=>⟨List.Pairwise.nil,λ_ hm=>(nomatch hm)⟩⟩,h2,h3,h4⟩
section
variable{K:Frag}
end
end
theorem zhs:∀{vs:List Value} {ns:List Int},IntsAre vs ns->Vals (ns.map V.int) vs
 |_,_, .nil=> .nil
 |_,_, .cons n t h=> .cons ⟨t,rfl⟩ (zhs h)
def zq5(H:Hp):Prop:=∀b,H b=none\/∃o xs,H b=some (.frz o (.lst xs))
theorem znZ{mg mb:Str->Option Value}{k:Nat}{s₁:Shared}{vs:List Value}{ns:List Int}
 (KX:K.In s₁.heap) (hns:s₁.heap.Ns mainGlobals mg) (hb:s₁.heap.Ns builtinsNs mb) (hbb:∀x:Str,x≠"__name__"->mb x=bootBuiltins x) (hlim:s₁.heap.NoLimit) (hg:s₁.gens= #[])
 (ha:s₁.heap.get? a=some {cls:= .type "list",data:= .seq vs.toArray}) (hi:IntsAre vs ns) (hl:ns.length<=sizeLine) (hr:Room k callerA)
 (F:∀base:Heap,K.In base->base.Ns mainGlobals mg->FnOk P w K mg base CX k fa fd [x] sp) (hbind:∀(s:Shared) (u:Value),BindsTo s fd ⟨[u],[]⟩ [(x,u)])
 (hsp:∀H:Hp,zq5 H->SqL K H a (ns.map V.int)->sp [.ref a] H (λv _=>v= .bl true) λ_ _ _=>False)
 (hCX:∀H e s',CX [] H s₁ (λ_ _ _=>False) e s'->False):
 codeAny (model P w) callerA (.call (.ref fa) ⟨[.ref a],[]⟩) (λr s'=>r= .ok (.ret (.bool true))/\OldK s₁.heap s'.heap/\s'.os=s₁.os/\AllBare s'.gens) s₁:=by
 have rv:=zhs hi
 have lenV:=hi.length
 have core:∀H:Hp,zq5 H->SqL K H a (ns.map V.int)->HOk P w H s₁.heap->(∀b,H b≠none->b=a)->(H a≠none->K.lookup a=none)->
  codeAny (model P w) callerA (.call (.ref fa) ⟨[.ref a],[]⟩) (λr s'=>r= .ok (.ret (.bool true))/\OldK s₁.heap s'.heap/\s'.os=s₁.os/\AllBare s'.gens) s₁:=by
  intro H hO hS hok hA hK
  have base_of:∀{b:Addr} {o:Obj},s₁.heap.get? b=some o->H b=none->(zhW s₁.heap H).get? b=some o:=λe n=>zm7 e n
  have noA:∀{b:Addr} {o:Obj} {es:Array DictEntry} {ep:Nat},s₁.heap.get? b=some o->o.data= .dict es ep->H b=none:=λ{b o es ep} e d=>by
   cases q:H b with
   |none=>rfl
   |some u=>
    have e':b=a:=hA b (by rw[q];simp)
    subst e'
    rw[ha] at e;cases e
    have d':Data.seq vs.toArray _=Data.dict es ep:=d
    cases d'
  have nsK:∀{b:Addr} {m:Str->Option Value},s₁.heap.Ns b m->(zhW s₁.heap H).Ns b m:=λ{b m} ⟨o,es,ep,e,d,r⟩=>⟨o,es,ep,base_of e (noA e d),d,r⟩
  have hKb:K.In (zhW s₁.heap H):=λb o e=>base_of (KX b o e) (by
   cases q:H b with
   |none=>rfl
   |some u=>
    have e':b=a:=hA b (by rw[q];simp)
    subst e'
    rw[hK (by rw[q];simp)] at e;cases e)
  have hM:Mod K mg (zhW s₁.heap H):=⟨hKb,nsK hns,⟨mb,nsK hb,hbb⟩,let⟨mc,h1,h2⟩:=hlim;⟨mc,nsK h1,h2⟩⟩
  have e0:Env0 P w K mg (zhW s₁.heap H) callerA [] s₁ H:=⟨rfl,hM,λb o e=>zpR e,Nat.le_of_eq (zl0 _ _),trivial,λb hb=>absurd (show b∈([]:List Addr)from hb) `j2,hok, .of_eq hg⟩
  refine codeAny_mono ((F _ hKb (nsK hns)).run callerA [] s₁ H ⟨[.ref a],[]⟩ [.ref a] [.ref a] _ _ hr e0 (hbind s₁ (.ref a)) (.cons rfl .nil) (hsp H hO hS)) λr s' h=>?_
  cases r with
  |error e=>exact (hCX H e s' h).elim
  |ok fl=>
   cases fl with
   |next=>exact False.elim h
   |brk=>exact False.elim h
   |cont=>exact False.elim h
   |ret u=>
    obtain⟨v,H',os,bare,un,hok',r',q⟩:=h
    have q':v= .bl true:=q
    subst q'
    obtain rfl:u=Value.bool true:=r'
    refine⟨rfl,OldK.of_keep λb o e=>?_,os,bare⟩
    cases q:H b with
    |none=>exact un.keep b o e q (by intro z;exact absurd (show b∈([]:List Addr)from z) `j2) `j2
    |some u=>
     rcases hO b with z|⟨ob,xs,z⟩
     ·rw[q] at z;cases z
     ·have z2:=un.frzs b ob _ z
      obtain⟨e1,_⟩:=hok b _ z
      obtain⟨e2,_⟩:=hok' b _ z2
      rw[e] at e1;cases e1
      exact e2
 cases hk:K.lookup a with
 |some o=>
  have e:=KX a o hk
  rw[ha] at e
  cases e
  refine core (λ_=>none) (λ_=> .inl rfl) (.inr ⟨_,vs.toArray,_,hk,rfl,rfl,rfl,by rw[Y0,lenV];exact hl,by simpa using rv⟩) (λb u z=>by have z':(none:Option HO)=some u:=z;cases z') (λb z=>absurd rfl z) λz=>absurd rfl z
 |none=>
  refine core (λb=>if b=a then some (.frz {cls:= .type "list",data:= .seq vs.toArray} (.lst (ns.map V.int)))else none) (λb=>?_) (.inl (.inr ⟨{cls:= .type "list",data:= .seq vs.toArray},T0 rfl⟩)) (λb u z=>?_) (λb z=>?_) λ_=>hk
  ·by_cases hb:b=a
   ·exact .inr ⟨_,_,T0 hb⟩
   ·exact .inl (N0 hb)
  ·by_cases hb:b=a
   ·have z':=(T0 hb).symm.trans z
    cases z'
    subst hb
    exact⟨ha,by rw[D0];exact hl,vs,_,rv,ha⟩
   ·have z':=(N0 hb).symm.trans z
    cases z'
  ·by_cases hb:b=a
   ·exact hb
   ·exact absurd (N0 hb) z
theorem walk_of{l:W.OpenLaw}{n k:Nat}{q:Program}{d:DefRec}{K:Params->W.Frag}{CX:World->CXT}{sp:World->Sp}
 (hn:l.most=some n) (hn2:n<=sizeLine) (hdf:d.params.defaults=[]) (hr:Room k callerA)
 (hY:∀(w:World) (h:Heap),YP w h->(K w.params).In h)
 (F:∀(w:World) (mg:Str->Option Value) (fa:Addr) (h:Heap),(K w.params).In h->h.Ns mainGlobals mg->mg d.name=some (.ref fa)->
   ∃fd:FuncData,(∀(s:Shared) (u:Value),BindsTo s fd ⟨[u],[]⟩ [(x,u)])/\
    ∀base:Heap,(K w.params).In base->base.Ns mainGlobals mg->FnOk l.prog w (K w.params) mg base (CX w) k fa fd [x] (sp w))
 (hsp:∀(w:World) (H:Hp) (a:Addr) (ns:List Int),ns.length<=n->zq5 H->SqL (K w.params) H a (ns.map V.int)->sp w [.ref a] H (λv _=>v= .bl true) λ_ _ _=>False)
 (hCX:∀(w:World) (H:Hp) (s:Shared) (e:Value) (s':Shared),CX w [] H s (λ_ _ _=>False) e s'->False):
 W.WalkO q loose XP YP l.row.toRowW d [] (λf vs=>PySem.call f vs):=by
 refine attach_call hn hdf λw s₀ s₁ mg mb fa o pm cd doc a vs ns G Y ho hd hcd hmg hobj hints hlen hg=>?_
 have KX:=hY w _ Y
 obtain⟨fd,hb,hF⟩:=F w mg fa _ KX G.T.g hmg
 exact znZ KX G.T.g G.T.b G.T.builtins G.T.nolimit hg hobj hints (K1 hlen hn2) hr hF hb (λH hO hS=>hsp w H a ns hlen hO hS) λH e s'=>hCX w H s₁ e s'
noncomputable abbrev CX0:CXT:=λ_ _ _ _ _ _=>False
noncomputable abbrev E0:XK:=λ_ _ _=>False
theorem zk:zb2 CX0 X E0:=λ_ _ _ _ _ _ _ h=>h.elim
structure Fun(K:W.Frag)(x qual:Str)(st:Stmt)(f:Addr)(fd:FuncData):Prop where
 ex:∃(oc:Value) (od:Option Addr) (kV doc pm:Value) (an:Option Addr) (cdv ct:Value) (osl:Array (Option Value)),
  fd=W.fnOf x qual (z4 st) (zL st) (ze st) .none kV doc pm an cdv ct/\K.lookup f=some ⟨oc,od, .func fd,osl⟩/\W.codeIn K cdv qual=true
 kp:W.keepIn K (.ref f)=true
section
variable{mg:Str->Option Value}{base:Heap}
theorem Fun.ok{st:Stmt}{ps:List Str}{k:Nat}(F:Fun K x qual st f fd)(S:FnScope N ps (ze st))(len:∀vs H Q E,sp vs H Q E->vs.length=ps.length)
 (hbody:∀(cdv:Value) (A:Around) (outer:List Env) (s:Shared) (H:Hp) (vs:List V) (Q:VK) (E:XK),Room k (A.deeper (envOfC qual (ze st) s.heap.objs.size f cdv))->sp vs H Q E->
   ∃t,PSs (zjs CX0 P w K mg base N qual (ze st) f cdv A outer s H E).nox (zL st) t/\t {nx:=λ_ H'=>Q .non H',rt:=Q} (zdP N vs) H):FnOk P w K mg base CX0 (k+1) f fd ps sp:=by
 obtain⟨oc,od,kV,doc,pm,an,cdv,ct,osl,rfl,lk,hcd⟩:=F.ex
 refine zqE lk hcd S len λA outer s H vs Q E hr hsp=>?_
 obtain⟨t,h,q⟩:=hbody cdv A outer s H vs Q E hr hsp
 exact⟨t,h.nox,q⟩
theorem Fun.binds{st:Stmt}{ps:List Str}(F:Fun K x qual st f fd)
 (h:∀(kV doc pm:Value) (an:Option Addr) (cdv ct:Value) (us:List Value),us.length=ps.length->bindArgs (W.fnOf x qual (z4 st) (zL st) (ze st) .none kV doc pm an cdv ct) ⟨us,[]⟩=pure (ps.zip us)):Binds K fd ps []:=by
 obtain⟨oc,od,kV,doc,pm,an,cdv,ct,osl,rfl,lk,hcd⟩:=F.ex
 exact .all (h kV doc pm an cdv ct)
theorem zhM{st:Stmt}{kV:Value}(l:K.lookup f=some ⟨oc,od, .func (W.fnOf x qual (z4 st) (zL st) (ze st) .none kV doc pm an cdv ct),osl⟩)
 (c:W.codeIn K cdv qual=true) (k:W.keepIn K (.ref f)=true):Fun K x qual st f (W.fnOf x qual (z4 st) (zL st) (ze st) .none kV doc pm an cdv ct):=⟨⟨oc,od,kV,doc,pm,an,cdv,ct,osl,rfl,l,c⟩,k⟩
end
theorem zn{n:Nat}(h:n<=1000):n<sizeLine:=Nat.lt_of_le_of_lt h ⋯
theorem zcZ{c A B:Prop}[Decidable c](h1:c->A)(h2:¬c->B):if c then A else B:=by
 by_cases h:c
 ·rw[T0 h]
  exact h1 h
 ·rw[N0 h]
  exact h2 h
def Same(H H':Hp):Prop:=∀b o,H b=some o->H' b=some o
theorem Same.refl(H:Hp):Same H H:=λ_ _ h=>h
theorem Same.trans(a:Same H H1)(b:Same H1 H2):Same H H2:=λc o h=>b c o (a c o h)
theorem Same.free(e:Same H H')(h:H' l=Option.none):H l=Option.none:=by
 cases q:H l with
 |none=>rfl
 |some o=>
  rw[e l o q] at h
  cases h
theorem Same.seq(e:Same H H')(h:SqL K H a xs):SqL K H' a xs:=by
 rcases h with(h|⟨o,h⟩)|h
 ·exact .inl (.inl (e _ _ h))
 ·exact .inl (.inr ⟨o,e _ _ h⟩)
 ·exact .inr h
noncomputable def zx(X:Cx)(N':List Str)(scope:Scope)(cl:List (Str×Addr))(C:Addr)(s₀:Shared)(H₀:Hp)(fp:List Addr):Cx:=
 {prog:=X.prog,w:=X.w,K:=X.K,mg:=X.mg,base:=X.base,A:=X.A,N:=N',s₀:=s₀,H₀:=H₀,env:=compEnvC scope cl C X.env,outer:=X.stack,stack:=X.stack,ex:=fp,fn:=λ_=>false,
  calm:=X.calm,pn:=[],xe:=λ_ _=>False}
structure CompOk(N:List Str)(osc:Scope)(N':List Str)(src:List (Option Nat))(scope:Scope):Prop where
 kind:scope.kind= .function
 nocell:∀y∈scope.names,y.2≠ .cell
 loc:∀y∈scope.names,y.2= .local->scope.names.lookup y.1=some .local
 frees:∀y∈scope.names,y.2= .free->osc.names.lookup y.1=some .cell\/osc.names.lookup y.1=some .free
 nd:N'.Nodup
 len:src.length=N'.length
 src:∀q∈src.zip N',∀j∈q.1.toList,N[j]?=some q.2/\scope.names.lookup q.2=some .free
theorem zd4{env:Env}:∀(l:List (Str×NameKind)) (acc:List (Str×Addr)),(∀x c,acc.lookup x=some c->env.cells.lookup x=some c)->(∀y∈l,y.2= .free->∃c,env.cells.lookup y.1=some c)->
 ∃cl,(forIn l acc λ(x:Str×NameKind) (r:List (Str×Addr))=>(if(x.2==NameKind.free)=true then(cellOf env x.1>>=λa=>pure (ForInStep.yield ((x.1,a)::r)))else pure (ForInStep.yield r):Sem (ForInStep (List (Str×Addr)))))=pure cl/\
  (∀x c,cl.lookup x=some c->env.cells.lookup x=some c)/\(∀y∈l,y.2= .free->∃c,cl.lookup y.1=some c)/\(∀x c,acc.lookup x=some c->∃d,cl.lookup x=some d)
 |[],acc,h,_=>⟨acc,rfl,h,λ_ z=>(nomatch z),λx c e=>⟨c,e⟩⟩
 |(n,k)::l,acc,h,hf=>by
  by_cases hk:k= .free
  ·subst hk
   obtain⟨c,hc⟩:=hf (n, .free) D1 rfl
   have hacc:∀x d,((n,c)::acc).lookup x=some d->env.cells.lookup x=some d:=λx d e=>by
    rw[List.lookup_cons] at e
    cases hx:x==n with
    |true=>
     rw[hx] at e
     have e1:x=n:=by simpa using hx
     have e2:c=d:=by simpa using e
     rw[e1,←e2];exact hc
    |false=>
     rw[hx] at e
     exact h x d e
   obtain⟨cl,e1,e2,e3,e4⟩:=zd4 l ((n,c)::acc) hacc λy hy=>hf y (Z0 _ hy)
   refine⟨cl,?_,e2,λy hy hyf=>?_,λx d e=>?_⟩
   ·rw[List.forIn_cons]
    have:cellOf env n=pure c:=by unfold cellOf;rw[hc]
    simp only[beq_self_eq_true,if_true,this,pure_bind]
    exact e1
   ·rcases X0.mp hy with rfl|hy
    ·exact e4 n c `j2
    ·exact e3 y hy hyf
   ·by_cases hx:x=n
    ·subst hx;exact e4 x c `j2
    ·have hb:(x==n)=false:=by simpa using hx
     exact e4 x d (by rw[List.lookup_cons,hb];exact e)
  ·obtain ⟨cl,e1,e2,e3,e4⟩:=zd4 l acc h λy hy=>hf y (Z0 _ hy)
   refine⟨cl,?_,e2,λy hy hyf=>?_,e4⟩
   ·rw[List.forIn_cons]
    have hb:(k==NameKind.free)=false:=by simpa using hk
    simp only[hb,U2,if_false,pure_bind]
    exact e1
   ·rcases X0.mp hy with rfl|hy
    ·exact absurd hyf hk
    ·exact e3 y hy hyf
theorem zd3(hf:∀y∈scope.names,y.2= .free->∃c,env.cells.lookup y.1=some c):
 ∃cl,closureFor scope env=pure cl/\(∀x c,cl.lookup x=some c->env.cells.lookup x=some c)/\∀y∈scope.names,y.2= .free->∃c,cl.lookup y.1=some c:=by
 obtain⟨cl,e1,e2,e3,_⟩:=zd4 (env:=env) scope.names [] (λ_ _ z=>by simp at z) hf
 refine⟨cl,?_,e2,e3⟩
 unfold closureFor
 refine Eq.trans ?_ (T2 (λt=>t>>=λc=>(pure c:Sem (List (Str×Addr)))) e1)
 first
  |rfl
  |(congr 1)
theorem zit:∀{x:Str},(relabel scope env).names.lookup x=some .cell\/(relabel scope env).names.lookup x=some .free->(∀y∈scope.names,y.2≠ .cell)->(x,NameKind.free)∈scope.names:=by
 intro x h hc
 have key:∀(l:List (Str×NameKind)),(∀y∈l,y.2≠ .cell)->((l.map λ(n,k)=>if (k==NameKind.free&&env.scope.kind== .function&&env.kindOf n==some .cell)then(n,NameKind.cell)else(n,k)).lookup x=some .cell\/
  (l.map λ(n,k)=>if (k==NameKind.free&&env.scope.kind== .function&&env.kindOf n==some .cell)then(n,NameKind.cell)else(n,k)).lookup x=some .free)->(x,NameKind.free)∈l:=by
  intro l
  induction l with
  |nil=>intro _ h;simp at h
  |cons y l ih=>
   obtain⟨n,k⟩:=y
   intro hc h
   have hc':∀y∈l,y.2≠ .cell:=λy hy=>hc y (Z0 _ hy)
   have hk:k≠ .cell:=hc (n,k) D1
   rw[N1] at h
   by_cases hx:x=n
   ·subst hx
    by_cases hf:k= .free
    ·subst hf;exact D1
    ·exfalso
     have hb:(k==NameKind.free)=false:=by simpa using hf
     simp only[hb,Bool.false_and,U2,if_false,List.lookup_cons,beq_self_eq_true] at h
     rcases h with h|h
     ·exact hk (O1 h)
     ·exact hf (O1 h)
   ·refine Z0 _ (ih hc' ?_)
    have hb:(x==n)=false:=by simpa using hx
    by_cases hq:(k==NameKind.free&&env.scope.kind== .function&&env.kindOf n==some .cell)=true
    ·simp only[hq,if_true,List.lookup_cons,hb] at h
     exact h
    ·simp only[hq,U2,if_false,List.lookup_cons,hb] at h
     exact h
 exact key _ hc h
theorem zhH(h:scope.names.lookup x=some .free):(relabel scope env).names.lookup x=some .cell\/(relabel scope env).names.lookup x=some .free:=by
 have key:∀(l:List (Str×NameKind)),l.lookup x=some .free->((l.map λ(n,k)=>if (k==NameKind.free&&env.scope.kind== .function&&env.kindOf n==some .cell)then(n,NameKind.cell)else(n,k)).lookup x=some .cell\/
  (l.map λ(n,k)=>if (k==NameKind.free&&env.scope.kind== .function&&env.kindOf n==some .cell)then(n,NameKind.cell)else(n,k)).lookup x=some .free):=by
  intro l
  induction l with
  |nil=>intro h;simp at h
  |cons y l ih=>
   obtain⟨n,k⟩:=y
   intro h
   rw[N1]
   rw[List.lookup_cons] at h
   cases hx:x==n with
   |true=>
    rw[hx] at h
    have hk:k= .free:=O1 h
    subst hk
    by_cases hq:(NameKind.free==NameKind.free&&env.scope.kind== .function&&env.kindOf n==some .cell)=true
    ·simp only[hq,if_true,List.lookup_cons,hx];exact .inl trivial
    ·simp only[hq,U2,if_false,List.lookup_cons,hx];exact .inr trivial
   |false=>
    rw[hx] at h
    by_cases hq:(k==NameKind.free&&env.scope.kind== .function&&env.kindOf n==some .cell)=true
    ·simp only[hq,if_true,List.lookup_cons,hx];exact ih h
    ·simp only[hq,U2,if_false,List.lookup_cons,hx];exact ih h
 exact key _ h
noncomputable def zeo(src:List (Option Nat))(σ:St):St:=src.map λo=>o.bind λj=>(σ[j]?).join
section
variable{src:List (Option Nat)}{cl:List (Str×Addr)}
theorem zeb{h₁:Heap}{tk:Nat}(I:Inv X pins σ H s)(hf:∀b∈fp,zdZ X pins H b)(hlt:∀b∈fp,b<s.heap.objs.size)(ok:CompOk X.N osc N' src scope)(hsc:X.env.scope=osc)
 (c1:∀x c,cl.lookup x=some c->X.env.cells.lookup x=some c) (c2:∀y∈scope.names,y.2= .free->∃c,cl.lookup y.1=some c)
 (hn:h₁.Ns s.heap.objs.size λ_=>none) (hk:∀b o,s.heap.get? b=some o->h₁.get? b=some o):
 Inv (zx X N' scope cl s.heap.objs.size s H fp) [] (zeo src σ) H {s with heap:=h₁,toks:=tk}:=by
 have hkind:(relabel scope X.env).kind= .function:=ok.kind
 refine⟨⟨I.ok.mod,hkind,I.ok.glob,I.ok.blt,R0 _,λx y c h1 h2=>I.ok.inj x y c (c1 x c h1) (c1 y c h2),λx hx=>?_,λx c z _=>(by cases z),I.ok.hd,I.ok.frames, .inl rfl,λb hb=>?_,I.bs,K1 I.ok.bsz I.sz,λb o e hb=>?_,λb hb z=>?_,I.stack,I.stkFree⟩,
  rfl,I.bare,Un.kept hk,⟨_,hn,λi x v h1 h2 h3=>?_⟩,λx c e=>?_,I.hok.fresh (R0 _),λx c e=>I.freeC x c (c1 x c e),λp hp=>absurd (show p∈([]:List (Addr×Obj))from hp) `j2,I.hok.kept hk,?_⟩
 ·exact c2 _ (zit (env:=X.env) (scope:=scope) (x:=x) hx ok.nocell) rfl
 ·obtain ⟨f0,f1,f2,f3,f4,f5⟩:=hf b hb
  exact⟨λz=>absurd (hlt b hb) (by rw[z];exact Nat.lt_irrefl _),λx c e=>f4 x c (c1 x c e)⟩
 ·obtain ⟨f0,f1,f2,f3,f4,f5⟩:=hf b hb
  rcases f3 with z|z
  ·exact I.ok.noex b o e z
  ·exact absurd (P1 (S0 e) (K1 I.ok.bsz z)) (Nat.lt_irrefl _)
 ·obtain ⟨f0,f1,f2,f3,f4,f5⟩:=hf b hb
  rcases X0.mp (I.stkSub b z)with q|q
  ·exact f1 q
  ·exact f2 q
 ·
  have hi:∃j,src[i]?=some (some j)/\σ[j]?=some (some v):=by
   unfold zeo at h2
   rw[P0] at h2
   cases e:src[i]? with
   |none=>rw[e] at h2;cases h2
   |some o=>
    rw[e] at h2
    cases o with
    |none=>cases h2
    |some j=>
     refine⟨j,rfl,?_⟩
     have h2':(σ[j]?).join=some v:=O1 h2
     cases e2:σ[j]? with
     |none=>rw[e2] at h2';cases h2'
     |some w=>rw[e2] at h2';exact T2 some h2'
  obtain⟨j,e1,e2⟩:=hi
  have hz:(some j,x)∈src.zip N':=by
   refine List.mem_iff_getElem?.mpr ⟨i,?_⟩
   rw[List.getElem?_zip_eq_some]
   exact⟨e1,h1⟩
  obtain⟨q1,q2⟩:=ok.src _ hz j `j2
  have hfr:=PySem.mem_of_lookup q2
  have hk0:=ok.frees _ hfr rfl
  rw[←hsc] at hk0
  obtain⟨m,hns,hl⟩:=I.loc
  obtain⟨u,r,l⟩:=hl j x v q1 e2 (hk0.elim (λz=> .inr (.inl z)) λz=> .inr (.inr z))
  refine⟨u,r,?_⟩
  rcases l with⟨l1,_⟩|⟨_,c,l2,l3⟩
  ·exfalso
   have l1':X.env.scope.names.lookup x=some .local:=l1
   rcases hk0 with z|z
   ·rw[l1'] at z;cases z
   ·rw[l1'] at z;cases z
  ·obtain ⟨d,hd⟩:=c2 _ hfr rfl
   have:d=c:=by
    have:=(c1 _ _ hd).symm.trans l2
    exact O1 this
   subst this
   obtain⟨o,ho,hod⟩:=l3
   exact .inr ⟨zhH q2,d,hd,o,hk _ _ ho,hod⟩
 ·obtain ⟨v,o,ho,hod⟩:=I.cell x c (c1 x c e)
  exact⟨v,o,hk _ _ ho,hod⟩
 ·show (zeo src σ).length=N'.length
  unfold zeo
  rw[D0]
  exact ok.len
theorem zd0{σ':St}(I:Inv X pins σ H s)(hf:∀b∈fp,zdZ X pins H b)(hC:s.heap.objs.size<=C)(J:Inv (zx X N' scope cl C s H fp) [] σ' H' s')(hs:Heap.SameBut C s'.heap h'):
 Inv X pins σ H' {s' with heap:=h'}:=by
 have nC:∀b o,s.heap.get? b=some o->b≠C:=λb o e z=>absurd (P1 (S0 e) (by rw[z];exact hC)) (Nat.lt_irrefl _)
 have B:Un (frs X.stack) fp H H' s.heap s'.heap:=J.base
 refine I.call' (ch:=fp) J.os ⟨λb o e n hb hx=>(hs.2 b (nC b o e)).trans (B.keep b o e n hb hx),λb o e n hb hx=>?_,B.free,λb o e hx=>?_,B.tups,B.frzs,B.tbls⟩ (λb ob e=>?_) J.bare λb hb=>?_
 ·obtain ⟨sl,e1⟩:=B.slot b o e n hb hx
  exact⟨sl,(hs.2 b (nC b o e)).trans e1⟩
 ·obtain ⟨o',e1⟩:=B.there b o e hx
  exact⟨o',(hs.2 b (nC b o e)).trans e1⟩
 ·refine (J.hok b ob e).stay (λc w' hc q=>(hs.2 c ?_).trans q) (λ_ q=>q) λ_ _ q=>q
  have hfree:H' C=none:=J.free
  rintro rfl
  rcases hc with rfl|hc
  ·rw[hfree] at e;cases e
  ·rw[hfree] at hc;cases hc
 ·obtain ⟨f0,f1,f2,f3,f4,f5⟩:=hf b hb
  exact⟨f3,f1,f4,f5⟩
end
noncomputable def zhG(ifs:List Expr)(env:Env):Sem Bool:=forIn ifs true λc r=>if r=true then do let ok ←isTrue c env (eval c env);pure (ForInStep.yield ok)else pure (ForInStep.yield r)
def PIf(X:Cx)(ifs:List Expr)(t:TT):Prop:=
 ∀(pins:List (Addr×Obj)) (s:Shared) (σ:St) (H:Hp) (Q:Bool->Hp->Prop),Inv X pins σ H s->t σ H Q->wpAny (model X.prog X.w) X.A (zhG ifs X.env) (TP X pins σ Q) X.xe s
noncomputable def zn9:TT:=λ_ H Q=>Q true H
theorem zpI:PIf X [] zn9:=λpins s σ H Q I h=>wpAny_tests_nil ⟨H,I,h⟩
theorem zp3{c:Expr}{t:TT}(h:PT X c t):PIf X [c] t:=λpins s σ H Q I hq=>wpAny_tests_one (h pins s σ H Q I hq)
theorem zeD{R:Result->Shared->Prop}{it:Value}(I:Nat->Shared->Prop)
 (turn:∀n s,I n s->wpAny `Y3 A (pyNext it) (λr s1=>match r with
   |none=>R (.ok .next) s1
   |some v=>wpAny `Y3 A (letOwnedTupleGo target it v) (λ_ s1'=>wpAny `Y3 A (assign target env v) (λ_ s2=>wpAny `Y3 A (zhG ifs env) (λok s3=>
     if ok=true then wpAny `Y3 A (eval elt env) (λx s4=>wpAny `Y3 A (call (.builtin "list.append") [acc,x]) (λ_ s5=>∃m,m<n/\I m s5) (λ_ _=>False) s4) (λ_ _=>False) s3
     else∃m,m<n/\I m s3) (λ_ _=>False) s2) (λ_ _=>False) s1') (λ_ _=>False) s1) (λ_ _=>False) s)
 (n:Nat) (h:I n s):codeAny `Y3 A (.compLoop (.ListComp elt [⟨target,iter,ifs,0⟩] scope pos) 0 it acc env) R s:=by
 have no:∀{E:Value->Shared->Prop} (e:Value) (s:Shared),(λ(_:Value) (_:Shared)=>False) e s->E e s:=λ_ _ z=>False.elim z
 refine codeAny_loop rfl I (λn s hI=>?_) n h
 show wpAny _ A ((compTurn (.ListComp elt [⟨target,iter,ifs,0⟩] scope pos) 0 it acc env).onRaise (λx=>do noteFrame x env;theTreesLotGoes x)) _ _ s
 refine wpAny_noted ?_
 rw[compTurn_list]
 refine C0 (wpAny_standAt (C0 (X2 (turn n s hI) (λr s₁ h₁=>?_) no)))
 cases r with
 |none=>exact K0 h₁
 |some v=>
  refine C0 (X2 h₁ (λ_ s1' h1'=>?_) no)
  refine C0 (X2 h1' (λ_ s₂ h₂=>C0 (X2 h₂ (λok s₃ h₃=>?_) no)) no)
  cases ok with
  |false=>exact K0 ⟨rfl,h₃⟩
  |true=>
   exact C0 (C0 (X2 h₃ (λx s₄ h₄=>C0 (X2 h₄ (λ_ s₅ h₅=>K0 (K0 ⟨rfl,h₅⟩)) no)) no))
def zdU(g:TG)(tc:TT)(te:TE)(src:List (Option Nat))(σ:St)(Q:VK)(J:It)(H1:Hp):Prop:=∀l,H1 l=none->
 ∃W:Nat->Nat->List V->St->Hp->Prop,(∃m,W 0 m [] (zeo src σ) (upd H1 l (.lst [])))/\∀i m ys σ' H',W i m ys σ' H'->H' l=some (.lst ys)->
  (J.stop i H'/\Q (.ref l) H')\/(J.go i H'/\∃N:List V->St->Hp->Prop,(∀zs σ2 H2,N zs σ2 H2->∃m',m'<m/\W (i+1) m' zs σ2 H2)/\∀x H2,J.yld i H' x H2->g x σ' H2 λσ2 H3=>tc σ2 H3 λb H4=>
    if b=true then te σ2 H4 λy H5=>H5 l=some (.lst ys)/\ys.length<sizeLine/\N (ys ++ [y]) σ2 (upd H5 l (.lst (ys ++ [y])))
    else H4 l=some (.lst ys)/\N ys σ2 H4)
noncomputable def zlz(wi:TI)(g:TG)(tc:TT)(te:TE)(src:List (Option Nat)):TE:=λσ H Q=>wi σ H (zdU g tc te src σ Q)
def zqI(g:TG)(tb:TS)(D:Ends)(σ:St)(J:It)(H1:Hp):Prop:=∃W:Nat->Nat->St->Hp->Prop,(∃m,W 0 m σ H1)/\∀i m σ H,W i m σ H->
 (J.stop i H/\D.nx σ H)\/(J.go i H/\∃N:St->Hp->Prop,(∀σ' H',N σ' H'->∃m',m'<m/\W (i+1) m' σ' H')/\∀x H',J.yld i H x H'->g x σ H' λσ2 H2=>tb {D with nx:=N,ct:=N,bk:=D.nx} σ2 H2)
noncomputable def zqw(wi:TI)(g:TG)(tb:TS):TS:=λD σ H=>wi σ H (zqI g tb D σ)
theorem zpQ{g:TG}(hp:PassesOwn (model X.prog X.w) X.A X.env X.xe)(hc:X.calm=true)(hi:PI X tg iter wi)(hg:PG X tg g)(hb:PSs X body tb)
 (hs:autoParam (∀x,foldedSetIterable iter X.env x=pure x) u5):PS X (.For tg iter body [] pos) (zqw wi g tb):=zqK hp hc hi hg hb hs
section
variable{src:List (Option Nat)}{g:TG}
theorem zpX(ok:CompOk X.N osc N' src scope)(hsc:X.env.scope=osc)(hc:X.calm=true)(hi:PI X tg iter wi)
 (hg:∀cl C s₀ H₀ fp,PG (zx X N' scope cl C s₀ H₀ fp) tg g) (ht:∀cl C s₀ H₀ fp,PIf (zx X N' scope cl C s₀ H₀ fp) ifs tc) (he:∀cl C s₀ H₀ fp,PE (zx X N' scope cl C s₀ H₀ fp) elt te)
 (hs:autoParam (∀x,foldedSetIterable iter X.env x=pure x) u5):PE X (.ListComp elt [⟨tg,iter,ifs,0⟩] scope pos) (zlz wi g tc te src):=by
 intro pins s σ H Q I h
 obtain⟨cl,hcl,c1,c2⟩:=zd3 (scope:=scope) (env:=X.env) λy hy hyf=>I.ok.has y.1 (by
  have z:=ok.frees y hy hyf
  rw[←hsc] at z
  exact z)
 rw[eval_ListComp]
 refine wpAny_comprehension_free (use:=none) rfl hs hcl ok.kind ok.loc (thn (hi pins s σ H _ I h) λv s1 h1=>thn h1 λitv s2 h2=>?_)
 obtain⟨it,fp,tn,J,H2,e,I2,T,st2,f2,q2⟩:=h2
 subst e
 have hlt2:∀b∈fp,b<s2.heap.objs.size:=λb hb=>by
  obtain⟨o,e,_⟩:=T.obj _ _ st2 b hb
  exact S0 e
 refine Y1 ?_
 have hl:H2 s2.heap.objs.size=none:=I2.hok.fresh (R0 _)
 have I3:Inv X pins σ (upd H2 s2.heap.objs.size (.lst [])) {s2 with heap:=s2.heap.push {cls:= .type "list",dict:=none,data:= .seq ([]:List Value).toArray}}:=
  I2.laid (t':=s2.toks) (λb u e=>F0 _ e) (R0 _) ⟨T1 _,[],0, .nil,O0 _ rfl⟩
 obtain⟨W,⟨m0,w0⟩,turn⟩:=q2 _ hl
 generalize hl2:s2.heap.objs.size=l at *
 generalize hs3:({s2 with heap:=s2.heap.push {cls:= .type "list",dict:=none,data:= .seq ([]:List Value).toArray}}:Shared)=s3 at *
 have f3:∀b∈fp,zdZ X pins (upd H2 l (.lst [])) b:=λb hb=>⟨by rw[zc (C1 (hlt2 b hb))];exact(f2 b hb).1,(f2 b hb).2⟩
 have k3:∀b o,s2.heap.get? b=some o->s3.heap.get? b=some o:=λb o e=>by rw[←hs3];exact F0 _ e
 have hlt3:∀b∈fp,b<s3.heap.objs.size:=λb hb=>by
  obtain⟨o,e,_⟩:=T.obj _ _ st2 b hb
  exact S0 (k3 b o e)
 refine wpAny_newFunctionEnv ok.nocell (by intro y hy;simp at hy) (λh₁ hns₁ hsb₁=>?_) ok.kind
 have k4:∀b o,s3.heap.get? b=some o->h₁.get? b=some o:=λb o e=>(hsb₁.2 b (C1 (S0 e))).trans (F0 _ e)
 have J0:=zeb (tk:=s3.toks+([]:List (Str×Value)).length) I3 f3 hlt3 ok hsc c1 c2 hns₁ k4
 have st4:tn 0 h₁:=T.keep _ _ _ st2 λb hb o e=>k4 b o (k3 b o e)
 generalize hC:s3.heap.objs.size=C at *
 have stat:∀{H':Hp},(∀b∈fp,H' b=none)->∀b∈fp,zdZ (zx X N' scope cl C s3 (upd H2 l (.lst [])) fp) [] H' b:=λ{H'} hn b hb=>
  ⟨hn b hb,(J0.ok.exf b hb).1,J0.ok.exfs b hb, .inl hb,(J0.ok.exf b hb).2,λp hp=>absurd (show p∈([]:List (Addr×Obj))from hp) `j2⟩
 have loop:codeAny (model X.prog X.w) X.A (.compLoop (.ListComp elt [⟨tg,iter,ifs,0⟩] scope pos) 0 (.ref it) (.ref l) (compEnvC scope cl C X.env))
  (compPost (model X.prog X.w) X.A X.xe none (EP X pins σ Q) (.ref l) C) {s3 with heap:=h₁,toks:=s3.toks+([]:List (Str×Value)).length}:=by
  refine zeD (λn s'=>∃i ys σ' H',Inv (zx X N' scope cl C s3 (upd H2 l (.lst [])) fp) [] σ' H' s'/\tn i s'.heap/\(∀b∈fp,H' b=none)/\H' l=some (.lst ys)/\W i n ys σ' H') ?_ m0
   ⟨0,[],_,_,J0,st4,λb hb=>(f3 b hb).1,zb,w0⟩
  rintro n s5 ⟨i,ys,σ5,H5,I5,st5,fr5,hl5,w5⟩
  rcases turn i n ys σ5 H5 w5 hl5 with⟨stop,qn⟩|⟨go,N,hN,step⟩
  ·refine thn (T.done (zx X N' scope cl C s3 (upd H2 l (.lst [])) fp) rfl rfl rfl hc i [] s5 σ5 H5 (λ_ _=>False) I5 (stat fr5) st5 stop) λr s6 ⟨hr,I6⟩=>?_
   subst hr
   obtain⟨m,hn,_⟩:=I6.loc
   exact⟨m,hn,λh' hsb=>⟨.ref l,H5,zd0 I3 f3 (by rw[←hC];exact R0 _) I6 hsb,rfl,qn⟩⟩
  ·refine thn (T.item (zx X N' scope cl C s3 (upd H2 l (.lst [])) fp) rfl rfl rfl hc i [] s5 σ5 H5 (λ_ _=>False) I5 (stat fr5) st5 go) λr s6 ⟨u,hr,h6⟩=>?_
   subst hr
   refine thn h6 λ_ s7 zq=>?_
   obtain⟨x,H7,I7,r7,y7,st7,fr7⟩:=zq
   have I7':=I7.pinned (stat fr7) (T.obj _ _ st7)
   refine thn (hg cl C s3 _ fp _ s7 σ5 H7 x u _ I7' r7 (step x H7 y7)) λ_ s8 zq=>?_
   obtain⟨σ8,H8,I8,q8⟩:=zq
   refine thn (ht cl C s3 _ fp _ s8 σ8 H8 _ I8 q8) λb s9 zq=>?_
   obtain⟨H9,I9,q9⟩:=zq
   have back:∀{s':Shared} {H':Hp},Inv (zx X N' scope cl C s3 (upd H2 l (.lst [])) fp) ([]++zee fp s7.heap) σ8 H' s'->tn (i+1) s'.heap/\∀b∈fp,H' b=none:=λ{s' H'} I'=>by
    refine⟨T.keep _ _ _ st7 λb hb o e=>(I'.pin (b,o) (F1 _ (F1 _ (zaj hb e)))).1,λb hb=>?_⟩
    obtain⟨o,e,d⟩:=T.obj _ _ st7 b hb
    exact(I'.pin (b,o) (F1 _ (F1 _ (zaj hb e)))).2.1
   cases b with
   |false=>
    obtain⟨hl9,n9⟩:=q9
    obtain⟨m',hm,w9⟩:=hN _ _ _ n9
    obtain⟨t9,fr9⟩:=back I9
    exact⟨m',hm,i+1,ys,σ8,H9,I9.unpinned,t9,fr9,hl9,w9⟩
   |true=>
    refine thn (he cl C s3 _ fp _ s9 σ8 H9 _ I9 q9) λxv s10 zq=>?_
    obtain⟨y,H10,I10,r10,hl10,hz,n10⟩:=zq
    obtain⟨m',hm,w10⟩:=hN _ _ _ n10
    refine thn (za2 (X:=zx X N' scope cl C s3 (upd H2 l (.lst [])) fp) _ s10 σ8 H10 (.ref l) [y] (.ref l) [xv] (λv H'=>H'=upd H10 l (.lst (ys ++ [y]))) I10 rfl (.cons r10 .nil) ⟨l,ys,y,rfl,rfl,hl10,hz,rfl⟩) λ_ s11 ⟨_,H11,I11,_,e11⟩=>?_
    subst e11
    obtain⟨t11,fr11⟩:=back I11
    exact⟨m',hm,i+1,ys ++ [y],σ8,_,I11.unpinned,t11,fr11,zb,w10⟩
 exact codeAny_compStart_list loop (T.self _ 0 _ _ _ st4 loop)
end
section
variable[DecidableEq κ]
noncomputable def zaF(kvs:List (κ×V))(k:κ):Option V:=(kvs.find? λkv=>decide (kv.1=k)).map (·.2)
noncomputable def zah(kvs:List (κ×V))(k:κ)(v:V):List (κ×V):=
 if(kvs.any λkv=>decide (kv.1=k))=true then kvs.map (λkv=>if kv.1=k then(kv.1,v)else kv)else kvs ++ [(k,v)]
theorem zdo{p:κ×V}{r:List (κ×V)}{k:κ}(e:p.1=k):zaF (p::r) k=some p.2:=by simp[zaF,List.find?_cons,e]
theorem zbZ{p:κ×V}{r:List (κ×V)}{k:κ}(e:¬p.1=k):zaF (p::r) k=zaF r k:=by simp[zaF,List.find?_cons,e]
theorem zeN(k:κ):∀kvs:List (κ×V),(kvs.any λkv=>decide (kv.1=k))=(zaF kvs k).isSome
 |[]=>rfl
 |p::r=>by
  rw[List.any_cons]
  by_cases e:p.1=k
  ·simp only[zdo e,V0 e,Bool.true_or,Option.isSome_some]
  ·rw[zbZ e,b0 e,Bool.false_or];exact zeN k r
theorem zdj(kvs:List (κ×V))(k:κ)(v:V):(zah kvs k v).length<=kvs.length+1:=by
 unfold zah
 split
 ·rw[D0];lia
 ·rw[o0,J1,List.length_nil];lia
theorem zfX{kvs:List (κ×V)}{k:κ}(v:V)(h:zaF kvs k=none):zah kvs k v=kvs ++ [(k,v)]:=by
 unfold zah
 rw[zeN,h]
 exact N0 ⋯
theorem RelO.isSome_eq{o:Option V}{u:Option Value}(r:RelO o u):o.isSome=u.isSome:=by
 cases o with
 |none=>cases u with
  |none=>rfl
  |some _=>exact (show False from r).elim
 |some _=>cases u with
  |none=>exact (show False from r).elim
  |some _=>rfl
theorem RelO.getD{o:Option V}{u:Option Value}{d:V}{d':Value}(r:RelO o u)(rd:RelV d d'):RelV (o.getD d) (u.getD d'):=by
 cases o with
 |none=>cases u with
  |none=>exact rd
  |some _=>exact (show False from r).elim
 |some _=>cases u with
  |none=>exact (show False from r).elim
  |some _=>exact r
theorem KV.val{kvs:List (κ×V)}{vs:List (κ×Value)}(r:KV kvs vs)(k:κ):RelO (zaF kvs k) (valueAt vs k):=by
 unfold KV at r
 induction r with
 |nil=>exact True.intro
 | @cons p q ps qs h t ih=>
   obtain⟨h1,h2⟩:=h
   by_cases e:p.1=k
   ·have e':q.1=k:=h1.symm.trans e
    have b:valueAt (q::qs) k=some q.2:=by simp[valueAt,List.find?_cons,e']
    rw[zdo e,b];exact h2
   ·have e':¬q.1=k:=λz=>e (h1.trans z)
    have b:valueAt (q::qs) k=valueAt qs k:=by simp[valueAt,List.find?_cons,e']
    rw[zbZ e,b];exact ih
theorem KV.any{kvs:List (κ×V)}{vs:List (κ×Value)}(r:KV kvs vs)(k:κ):(kvs.any λkv=>decide (kv.1=k))=vs.any λkv=>decide (kv.1=k):=by
 unfold KV at r
 induction r with
 |nil=>rfl
 |cons h t ih=>rw[List.any_cons,List.any_cons,ih,h.1]
theorem KV.repl{kvs:List (κ×V)}{vs:List (κ×Value)}(r:KV kvs vs)(k:κ)(ry:RelV y u):
 KV (kvs.map λkv=>if kv.1=k then(kv.1,y)else kv) (vs.map λkv=>if kv.1=k then(kv.1,u)else kv):=by
 unfold KV at r⊢
 induction r with
 |nil=>exact .nil
 | @cons p q ps qs h t ih=>
   rw[N1,N1]
   refine .cons ?_ ih
   obtain⟨h1,h2⟩:=h
   by_cases e:p.1=k
   ·rw[T0 e,T0 (h1.symm.trans e)];exact⟨h1,ry⟩
   ·rw[N0 e,N0 (λz=>e (h1.trans z))];exact⟨h1,h2⟩
theorem KV.put{kvs:List (κ×V)}{vs:List (κ×Value)}(r:KV kvs vs)(k:κ)(ry:RelV y u):KV (zah kvs k y) (stored vs k u):=by
 unfold zah stored
 rw[r.any k]
 by_cases e:(vs.any λkv=>decide (kv.1=k))=true
 ·rw[T0 e,T0 e];exact r.repl k ry
 ·rw[N0 e,N0 e];exact Paired.snoc r ⟨rfl,ry⟩
theorem KV.length{kvs:List (κ×V)}{vs:List (κ×Value)}(r:KV kvs vs):kvs.length=vs.length:=Paired.length r
end
theorem ziO{k:Key}(r:RelV (kV k) u):(zM P w).is k u=true:=by
 cases k with
 |inl i=>obtain ⟨t,e⟩:=(show∃t,u=Value.int i t from r);subst e;exact ziC P w i t
 |inr x=>obtain ⟨t,e⟩:=(show∃t,u=Value.str x t from r);subst e;exact zfk P w x t
theorem zha{P:Program}{w:World}:∀{ks:List Key} {us:List Value},Vals (ks.map kV) us->ItemsAre (zM P w) ks us
 |[],_,r=>by rw[List.map_nil] at r;cases r;exact .nil
 |k::ks,_,r=>by
  rw[N1] at r
  cases r with
  |cons h t=>exact .cons (ziO h) (zha t)
abbrev KT(H:Hp):List (List Key×V)->List (List Key×Addr×Value)->Prop:=Paired λp q=>p.1=q.1/\H q.2.1=some (.tup (p.1.map kV))/\RelV p.2 q.2.2
theorem KT.val{kvs:List (List Key×V)}{xs:List (List Key×Addr×Value)}(r:KT H kvs xs)(k:List Key):RelO (zaF kvs k) ((atKey xs k).map (·.2)):=by
 induction r with
 |nil=>exact True.intro
 | @cons p q ps qs h t ih=>
   obtain⟨h1,_,h2⟩:=h
   by_cases e:p.1=k
   ·have e':q.1=k:=h1.symm.trans e
    have b:atKey (q::qs) k=some q.2:=by simp[atKey,List.find?_cons,e']
    rw[zdo e,b];exact h2
   ·have e':¬q.1=k:=λz=>e (h1.trans z)
    have b:atKey (q::qs) k=atKey qs k:=by simp[atKey,List.find?_cons,e']
    rw[zbZ e,b];exact ih
theorem KT.repl{kvs:List (List Key×V)}{xs:List (List Key×Addr×Value)}(r:KT H kvs xs)(k:List Key)(ry:RelV y u):
 KT H (kvs.map λkv=>if kv.1=k then(kv.1,y)else kv) (xs.map (putAt k u)):=by
 induction r with
 |nil=>exact .nil
 | @cons p q ps qs h t ih=>
   rw[N1,N1]
   refine .cons ?_ ih
   obtain⟨h1,h2,h3⟩:=h
   unfold putAt
   by_cases e:p.1=k
   ·rw[T0 e,T0 (h1.symm.trans e)];exact⟨h1,h2,ry⟩
   ·rw[N0 e,N0 (λz=>e (h1.trans z))];exact⟨h1,h2,h3⟩
theorem KT.put{kvs:List (List Key×V)}{xs:List (List Key×Addr×Value)}(r:KT H kvs xs)(k:List Key){b:Addr}(hb:H b=some (.tup (k.map kV)))(ry:RelV y u):
 KT H (zah kvs k y) (storedH xs k b u):=by
 have e:(kvs.any λkv=>decide (kv.1=k))=(atKey xs k).isSome:=by
  rw[zeN,(r.val k).isSome_eq,Option.isSome_map]
 unfold zah storedH
 rw[e]
 by_cases q:(atKey xs k).isSome=true
 ·rw[T0 q,T0 q];exact r.repl k ry
 ·rw[N0 q,N0 q];exact Paired.snoc r ⟨rfl,hb,ry⟩
theorem KT.keeps{kvs:List (List Key×V)}{xs:List (List Key×Addr×Value)}(r:KT H kvs xs)(ht:∀b ys,H b=some (.tup ys)->H' b=some (.tup ys)):KT H' kvs xs:=
 Paired.mapP r λ_ _ z=>⟨z.1,ht _ _ z.2.1,z.2.2⟩
section
variable{h:Heap}
theorem zqk{u:HO}(ok:HOk P w H h)(e:Rd H a u):ObjOk P w H h a u:=e.ok ok
theorem zjF(ok:HOk P w H h)(e:Rd H a (.dK kvs)):kvs.length<=sizeLine/\(a==sysModules)=false/\∃vs,KV kvs vs/\h.DictOf (zM P w) a vs:=
 show ObjOk P w H h a (.dK kvs)from zqk ok e
theorem zf0(ok:HOk P w H h)(e:H a=some (.dK kvs)):kvs.length<=sizeLine/\(a==sysModules)=false/\∃vs,KV kvs vs/\h.DictOf (zM P w) a vs:=zjF ok (.inl e)
theorem zih{ks:List Key}(ok:HOk P w H h)(e:H a=some (.tup (ks.map kV))):(tupleKind (zM P w)).is h ks a:=by
 obtain⟨_,its,r,⟨o,h1,h2,n,h3⟩,_⟩:=(show ObjOk P w H h a (.tup (ks.map kV))from ok a _ e)
 exact⟨o,its.toArray,n,h1,h2,h3,by simpa using zha r⟩
theorem ziN{kvs:List (List Key×V)}(ok:HOk P w H h)(e:Rd H a (.dT kvs)):kvs.length<=sizeLine/\(a==sysModules)=false/\
 ∃xs,KT H kvs xs/\h.DictOfH (tupleKind (zM P w)) a xs:=by
 obtain⟨z,y,xs,r,o,es,ep,h1,h2,h3,h4,h5⟩:=(show ObjOk P w H h a (.dT kvs)from zqk ok e)
 refine⟨z,y,xs,r,o,es,ep,h1,h2,h3,h4,λx hx=>?_,h5⟩
 have all:∀{l:List (List Key×V)} {m:List (List Key×Addr×Value)},KT H l m->∀x∈m,(tupleKind (zM P w)).is h x.1 x.2.1:=by
  intro l m q
  induction q with
  |nil=>intro x hx;exact nomatch hx
  | @cons p q ps qs hq t ih=>
    intro x hx
    rcases X0.mp hx with e|hx
    ·subst e
     exact zih ok (by rw[←hq.1];exact hq.2.1)
    ·exact ih x hx
 exact all r x hx
theorem zsy{kvs:List (List Key×V)}(ok:HOk P w H h)(e:H a=some (.dT kvs)):kvs.length<=sizeLine/\(a==sysModules)=false/\
 ∃xs,KT H kvs xs/\h.DictOfH (tupleKind (zM P w)) a xs:=ziN ok (.inl e)
end
def DGet(H:Hp)(a:Addr)(y:V)(r:Option V):Prop:=
 (∃kvs k,Rd H a (.dK kvs)/\y=kV k/\r=zaF kvs k)\/∃kvs k b,Rd H a (.dT kvs)/\y= .ref b/\H b=some (.tup (k.map kV))/\r=zaF kvs k
def DPut(H:Hp)(a:Addr)(y v:V)(H':Hp):Prop:=
 (∃kvs k,H a=some (.dK kvs)/\y=kV k/\kvs.length<sizeLine/\H'=upd H a (.dK (zah kvs k v)))\/
 ∃kvs k b,H a=some (.dT kvs)/\y= .ref b/\H b=some (.tup (k.map kV))/\kvs.length<sizeLine/\H'=upd H a (.dT (zah kvs k v))
theorem DGet.k{H:Hp}{a:Addr}{kvs:List (Key×V)}{k:Key}(e:H a=some (.dK kvs)):DGet H a (kV k) (zaF kvs k):= .inl ⟨kvs,k, .inl e,rfl,rfl⟩
theorem DPut.t{b:Addr}{kvs:List (List Key×V)}{k:List Key}(e:H a=some (.dT kvs))(eb:H b=some (.tup (k.map kV)))(hl:kvs.length<sizeLine):
 DPut H a (.ref b) v (upd H a (.dT (zah kvs k v))):= .inr ⟨kvs,k,b,e,rfl,eb,hl,rfl⟩
variable{t:List Str}
section
variable{r:Value}{o:Option V}
theorem Inv.big(I:Inv X pins σ H s):sysModules<s.heap.objs.size:=by
 have h:mainGlobals<s.heap.objs.size:=(I.mod.glob.keeps I.bk).lt
 exact Nat.lt_trans ⋯ h
theorem zmk(hu:A.units+1<cLine)(I:Inv X pins σ H s)(g:DGet H a y (some v))(ry:RelV y u)(h:∀w' s',Inv X pins σ H s'->RelV v w'->Q w' s'):
 wpAny (model X.prog X.w) A (getItem (.ref a) u) Q E s:=by
 rcases g with⟨kvs,k,e,ey,l⟩|⟨kvs,k,b,e,ey,eb,l⟩
 ·subst ey
  obtain⟨z,hd,vs,rel,dd⟩:=zjF I.hok e
  obtain⟨w',hw,rw'⟩:=RelO.some_of (v:=v) (o:=valueAt vs k) (by rw[l];exact rel.val k)
  exact wpAny_getItem_of (ziO ry) dd.mapOf hw (h w' _ (I.tok _) rw')
 ·subst ey
  cases(show u=Value.ref b from ry)
  obtain⟨z,hd,xs,rel,dd⟩:=ziN I.hok e
  obtain⟨w',hw,rw'⟩:=RelO.some_of (v:=v) (o:=(atKey xs k).map (·.2)) (by rw[l];exact rel.val k)
  obtain⟨p,hp,hp2⟩:=Option.map_eq_some_iff.mp hw
  refine wpAny_getItem_heap (tupleKind_room_in1 hu) (zih I.hok eb) dd hp ?_
  rw[hp2]
  exact h w' _ (I.tok _) rw'
theorem zh0{ob:HO}(I:Inv X pins σ H s)(mu:Mut (H a))(hs:Heap.SameBut a s.heap h')(he:∃q,h'.get? a=some q)(new:ObjOk X.prog X.w (upd H a ob) h' a ob):
 Inv X pins σ (upd H a ob) {s with heap:=h',toks:=t'}:=
 I.write (x:=a) (e:=a) mu (.inl rfl) (λb q hb z=>(hs.2 b hb).trans z) he new
theorem zkv{vs:List (Key×Value)}(z:kvs.length<=sizeLine)(hd:(a==sysModules)=false)(rel:KV kvs vs)(dd:h'.DictOf (zM P w) a vs):
 ObjOk P w H' h' a (.dK kvs):=⟨z,hd,vs,rel,dd⟩
theorem zlY{Q:Unit->Shared->Prop}(hu:A.units+1<cLine)(I:Inv X pins σ H s)(g:DPut H a y v H')(ry:RelV y u)(rv:RelV v r)(h:∀s',Inv X pins σ H' s'->Q Unit.unit s'):
 wpAny (model X.prog X.w) A (setItem (.ref a) u r) Q E s:=by
 rcases g with⟨kvs,k,e,ey,l,eH⟩|⟨kvs,k,b,e,ey,eb,l,eH⟩
 ·subst ey eH
  obtain⟨z,hd,vs,rel,dd⟩:=zf0 I.hok e
  have hz:vs.length<=sizeLine:=by rw[←rel.length];exact z
  have hl:(zah kvs k v).length<=sizeLine:=by have:=zdj kvs k v;lia
  refine wpAny_setItem_pairs (hsz:=hz) (ziO ry) dd λh' dd' hs=>h _ ?_
  have he:∃q,h'.get? a=some q:=let⟨q,_,_,hq,_⟩:=dd';⟨q,hq⟩
  exact zh0 I (by rw[e];exact True.intro) hs he (zkv hl hd (rel.put k rv) dd')
 ·subst ey eH
  cases(show u=Value.ref b from ry)
  obtain⟨z,hd,xs,rel,dd⟩:=zsy I.hok e
  have hz:xs.length<=sizeLine:=by rw[←Paired.length rel];exact z
  have hl:(zah kvs k v).length<=sizeLine:=by have:=zdj kvs k v;lia
  refine wpAny_setItem_heap (hsz:=hz) (tupleKind_room_in1 hu) (zih I.hok eb) dd λh' dd' hs=>h _ ?_
  obtain⟨q,es,ep,hq,h2,h3,h4,_,h5⟩:=dd'
  refine zh0 I (by rw[e];exact True.intro) hs ⟨q,hq⟩ ⟨hl,hd,_,(rel.put k eb rv).keeps λc ys ec=>?_,q,es,ep,hq,h2,h3,h4,h5⟩
  rw[zc (zr ec e `Z3)]
  exact ec
end
section
variable{k:Key}
end
def zrI(i:Expr):Prop:=∀ov iv,subscripted i false ov iv=operate [ov,iv] (getItem ov iv)
theorem zoG{slice:Expr}{T id:String}
 (hl:typeLookup (.type T) "__getitem__"=pure (some (.builtin id))) (hs:zrI slice)
 (h:wpAny `Y3 A (eval value env) (λo s₁=>wpAny `Y3 A (eval slice env) (λi s₂=>s₂.TypeIs o T/\wpAny `Y3 A (getItem o i) Q E s₂) E s₁) E s):
 wpAny `Y3 A (eval (.Subscript value slice pos) env) Q E s:=by
 refine Subscript_ (X2 h (λo s₁ h₁=>X2 h₁ (λi s₂ h₂=>?_) λ_ _ x=>x) λ_ _ x=>x)
 obtain⟨hT,h₂⟩:=h₂
 unfold subscriptTail
 refine C0 ?_
 rw[getitemInPython_of_ne hT.not_modules]
 refine C0 (wpAny_specialOf hT hl ?_)
 have fin:wpAny `Y3 A (subscripted slice false o i) (λr s₃=>wpAny `Y3 A (letTemporaryGo value o r>>=λ_=>pure r) Q E s₃) E s₂:=by
  rw[hs o i]
  exact wpAny_operating (X2 h₂ (λr s₃ h₃=>C0 (wpAny_letTemporaryGo (K0 h₃))) λ_ _ x=>x)
 first
  |exact K0 (C0 fin)
  |exact C0 (K0 (C0 fin))
  |exact C0 fin
theorem zi0{o:Option V}(I:Inv X pins σ H s)(g:DGet H a y o):s.TypeIs (.ref a) "dict":=by
 rcases g with⟨kvs,k,e,_,_⟩|⟨kvs,k,b,e,_,_,_⟩
 ·obtain ⟨_,_,vs,_,dd⟩:=zjF I.hok e
  exact dd.typeIs
 ·obtain ⟨_,_,xs,_,dd⟩:=ziN I.hok e
  exact dd.typeIs
noncomputable def zqD(td ty:TE):TE:=λσ H Q=>td σ H λx H1=>ty σ H1 λy H2=>∃a v,x= .ref a/\DGet H2 a y (some v)/\Q v H2
noncomputable def zqg(td ty tv:TE):TS:=λD σ H=>tv σ H λv H1=>td σ H1 λx H2=>ty σ H2 λy H3=>∃a H4,x= .ref a/\DPut H3 a y v H4/\D.nx σ H4
section
variable{o i e:Expr}{td ty:TE}
theorem zo5(hu:X.A.units+1<cLine)(ho:PE X o td)(hi:PE X i ty)(hs:zrI i):PE X (.Subscript o i pos) (zqD td ty):=by
 intro pins s σ H Q I h
 refine zoG F.slot_dict_getitem.lookup hs (thn (ho pins s σ H _ I h) λu s1 zq=>?_)
 obtain⟨x,H1,I1,rx,q1⟩:=zq
 refine thn (hi pins s1 σ H1 _ I1 q1) λiv s2 zq1=>?_
 obtain⟨y,H2,I2,ry,a,v,ex,g,q2⟩:=zq1
 subst ex
 obtain rfl:u=Value.ref a:=rx
 exact⟨zi0 I2 g,zmk hu I2 g ry λw' s3 I3 rw'=>⟨v,H2,I3,rw',q2⟩⟩
theorem zqe(hu:X.A.units+1<cLine)(ho:PE X o td)(hi:PE X i ty)(hv:PE X value tv)(hs:swapsWith value (some (.Subscript o i pos')) pos.line X.env=pure false):
 PS X (.Assign [.Subscript o i pos'] value pos) (zqg td ty tv):=by
 intro pins s σ H D I h
 refine wpAny_Assign_Subscript (thn (hv pins s σ H _ I h) λr s1 zq=>?_) hs
 obtain⟨v,H1,I1,rv,q1⟩:=zq
 refine thn (ho pins s1 σ H1 _ I1 q1) λu s2 zq1=>?_
 obtain⟨x,H2,I2,rx,q2⟩:=zq1
 refine thn (hi pins s2 σ H2 _ I2 q2) λiv s3 zq2=>?_
 obtain⟨y,H3,I3,ry,a,H4,ex,g,q3⟩:=zq2
 subst ex
 obtain rfl:u=Value.ref a:=rx
 exact zlY hu I3 g ry rv λs4 I4=>⟨σ,H4,I4,q3⟩
end
theorem zjp(h:Heap)(hb:sysModules<h.objs.size):ObjOk P w H (h.push {cls:= .type "dict",data:= .dict #[]}) h.objs.size (.dK []):=
 ⟨T1 _,beq_eq_false_iff_ne.mpr (Ne.symm (C1 hb)),[], .nil,Heap.DictOf.new h⟩
theorem zm5(h:Heap)(hb:sysModules<h.objs.size):ObjOk P w H (h.push {cls:= .type "dict",data:= .dict #[]}) h.objs.size (.dT []):=
 ⟨T1 _,beq_eq_false_iff_ne.mpr (Ne.symm (C1 hb)),[], .nil,_, #[],0,O0 _ rfl,⟨rfl,rfl,rfl⟩,rfl,rfl,List.nodup_nil⟩
noncomputable def zm9:TE:=λ_ H Q=>∀p,H p=none->Q (.ref p) (upd H p (.dK []))
noncomputable def zmI:TE:=λ_ H Q=>∀p,H p=none->Q (.ref p) (upd H p (.dT []))
theorem zng:PE X (.Dict [] [] pos) zm9:=λpins s σ H Q I h=>
 wpAny_Dict_empty ⟨.ref s.heap.objs.size,_,I.laid (a:=s.heap.objs.size) (o:= .dK []) (t':=s.toks) (λ_ _ q=>F0 _ q) (R0 _) (zjp s.heap I.big),rfl,h _ (I.hok.fresh (R0 _))⟩
theorem znK:PE X (.Dict [] [] pos) zmI:=λpins s σ H Q I h=>
 wpAny_Dict_empty ⟨.ref s.heap.objs.size,_,I.laid (a:=s.heap.objs.size) (o:= .dT []) (t':=s.toks) (λ_ _ q=>F0 _ q) (R0 _) (zm5 s.heap I.big),rfl,h _ (I.hok.fresh (R0 _))⟩
def znQ:List (TE×TE)->St->Hp->(List (V×V)->Hp->Prop)->Prop
 |[],_,H,Q=>Q [] H
 |(tk,tv)::r,σ,H,Q=>tk σ H λx H1=>tv σ H1 λy H2=>znQ r σ H2 λps H3=>Q ((x,y)::ps) H3
abbrev VV:List (V×V)->List (Value×Value)->Prop:=Paired λp q=>RelV p.1 q.1/\RelV p.2 q.2
def PPs(X:Cx)(pos:Pos)(keys:List (Option Expr))(values:List Expr)(trs:List (TE×TE)):Prop:=
 ∀(pins:List (Addr×Obj)) (s:Shared) (σ:St) (H:Hp) (Q:List (V×V)->Hp->Prop),Inv X pins σ H s->znQ trs σ H Q->
  wpAny (model X.prog X.w) X.A (evalPairs (pairTrees keys values X.env pos)) (λvs s'=>∃ps H',Inv X pins σ H' s'/\VV ps vs/\Q ps H') X.xe s
structure M1(X:Cx)(o:Expr)(m:Str)(apos:Pos)(e:Expr)(cpos:Pos):Prop where
 base:attributeBase o m X.env (eval o X.env)=eval o X.env
 few:((backTo cpos (starEach [e] X.env)).all (λx=>!x.1)&&(backToKw cpos (keywordEach [] X.env)).all (λx=>x.1.isSome)
  &&decide (([e]:List Expr).length+([]:List Keyword).length+(if([]:List Keyword).isEmpty then 0 else 1)<30))=true
 line:(apos.endLine==cpos.line)=true
 trees:backTo cpos (starEach [e] X.env)=[(false,eval e X.env)]
structure M2(X:Cx)(o:Expr)(m:Str)(apos:Pos)(e f:Expr)(cpos:Pos):Prop where
 base:attributeBase o m X.env (eval o X.env)=eval o X.env
 few:((backTo cpos (starEach [e,f] X.env)).all (λx=>!x.1)&&(backToKw cpos (keywordEach [] X.env)).all (λx=>x.1.isSome)
  &&decide (([e,f]:List Expr).length+([]:List Keyword).length+(if([]:List Keyword).isEmpty then 0 else 1)<30))=true
 line:(apos.endLine==cpos.line)=true
 trees:backTo cpos (starEach [e,f] X.env)=[(false,eval e X.env),(false,eval f X.env)]
variable{base:Heap}
def IsD(H:Hp)(a:Addr):Prop:=(∃kvs,Rd H a (.dK kvs))\/∃kvs,Rd H a (.dT kvs)
theorem zrv(I:Inv X pins σ H s)(d:IsD H a):
 s.TypeIs (.ref a) "dict"/\(∀b,Value.ref a= .ref b->∃ob,s.heap.get? b=some ob/\ob.dict=none)/\(a==sysModules)=false:=by
 rcases d with⟨kvs,e⟩|⟨kvs,e⟩
 ·obtain ⟨_,hd,vs,_,dd⟩:=zjF I.hok e
  refine⟨dd.typeIs,λb q=>?_,hd⟩
  cases q
  obtain⟨ob,_,_,h1,h2,_⟩:=dd
  exact⟨ob,h1,h2.2.1⟩
 ·obtain ⟨_,hd,xs,_,dd⟩:=ziN I.hok e
  refine⟨dd.typeIs,λb q=>?_,hd⟩
  cases q
  obtain⟨ob,_,_,h1,h2,_⟩:=dd
  exact⟨ob,h1,h2.2.1⟩
section
variable{d:V}{r:Value}{o:Option V}
theorem zrc(hu:A.units+1<cLine)(I:Inv X pins σ H s)(g:DGet H a y o)(ry:RelV y u)(rd:RelV d r)(h:∀w' s',Inv X pins σ H s'->RelV (o.getD d) w'->Q w' s'):
 wpAny (model X.prog X.w) A (call (.builtin "dict.get") [.ref a,u,r]) Q E s:=by
 rcases g with⟨kvs,k,e,ey,l⟩|⟨kvs,k,b,e,ey,eb,l⟩
 ·subst ey
  obtain⟨z,hd,vs,rel,dd⟩:=zjF I.hok e
  refine call_meetsIn F.slot_dict_get dd.typeIs F.entry_dict_get (F.args_dict_get_3 _ _ _) (meets_dict_get_default (zM X.prog X.w) a (ziO ry) hd r) ⟨_,dd.mapOf,h _ _ (I.tok _) ?_⟩
  rw[l]
  exact(rel.val k).getD rd
 ·subst ey
  cases(show u=Value.ref b from ry)
  obtain⟨z,hd,xs,rel,dd⟩:=ziN I.hok e
  refine call_meetsIn F.slot_dict_get dd.typeIs F.entry_dict_get (F.args_dict_get_3 _ _ _) (meetsH_dict_get_default (tupleKind (zM X.prog X.w)) a b hd r) ⟨tupleKind_room_in1 hu,k,xs,zih I.hok eb,dd,h _ _ (I.tok _) ?_⟩
  rw[l]
  exact(rel.val k).getD rd
end
noncomputable def zm8(td ty tx:TE):TE:=λσ H Q=>td σ H λx H1=>∃a,x= .ref a/\IsD H1 a/\ty σ H1 λy H2=>tx σ H2 λz H3=>∃o,DGet H3 a y o/\Q (o.getD z) H3
section
variable{o e f:Expr}{td ty:TE}
theorem zow(hu:X.A.units+1<cLine)(ho:PE X o td)(he:PE X e ty)(hf:PE X f tx)(m:M2 X o "get" apos e f cpos):PE X (.Call (.Attribute o "get" apos) [e,f] [] cpos) (zm8 td ty tx):=by
 intro pins s σ H Q I h
 refine wpAny_Call_method m.base m.few m.line F.plainAttrs_dict F.slot_dict_get F.type_dict_get (thn (ho pins s σ H _ I h) λu s1 zq=>?_)
 obtain⟨x,H1,I1,rx,a,ex,d,q1⟩:=zq
 subst ex
 obtain rfl:u=Value.ref a:=rx
 obtain⟨t1,t2,_⟩:=zrv I1 d
 refine⟨t1,t2,?_⟩
 rw[m.trees]
 refine Calls.callWith_builtin rfl (Calls.evalArgs_plain (Calls.spliced_cons (thn (he pins s1 σ H1 _ I1 q1) λiv s2 ⟨y,H2,I2,ry,q2⟩=>
  Calls.spliced_cons (thn (hf pins s2 σ H2 _ I2 q2) λfv s3 ⟨z,H3,I3,rz,ov,g,q3⟩=>Calls.spliced_nil ?_))))
 exact zrc hu I3 g ry rz λw' s4 I4 rw'=>⟨_,H3,I4,rw',q3⟩
end
theorem zkX:∀{bs:List Bool} {us:List Value} {i:Nat} {v:Value},Vals (bs.map V.bl) us->us[i]?=some v->∃b,bs[i]?=some b/\v= .bool b
 |[],_,_,_, .nil,e=>by simp at e
 |b::bs,_,0,v, .cons r _,e=>by
  simp at e
  subst e
  exact⟨b,rfl,r⟩
 |b::bs,_,i+1,v, .cons _ t,e=>by
  obtain⟨c,h1,h2⟩:=zkX (i:=i) t (by simpa using e)
  exact⟨c,by simpa using h1,h2⟩
noncomputable def atB(bs:List Bool)(j:Nat):Bool:=match bs[j]? with|some b=>b|none=>true
theorem zhO(bs:List Bool):(List.range bs.length).all (atB bs)=bs.all id:=by
 refine Eq.trans ?_ (PyProof.Rows.all_rangeD bs (id:Bool->Bool))
 congr 1
 funext j
 unfold atB
 cases bs[j]?<;>rfl
theorem zl4(hc:X.calm=true):CallR X (.builtin "all") (λxs H Q=>∃(p:Addr) (bs:List Bool),xs=[.ref p]/\SqL X.K H p (bs.map V.bl)/\Q (.bl (bs.all id)) H):=by
 intro pins s σ H xs us Q I r h
 obtain⟨p,bs,rfl,hq,q⟩:=h
 obtain⟨u,rfl,ru⟩:=zcu r
 cases ru
 obtain⟨its,rv,pl,hz⟩:=I.list hq
 have hp:p≠s.heap.objs.size:=C1 pl.lt
 refine call_all_walk (wpAny_pyIter_list pl.isList ?_)
 refine⟨s.heap.objs.size,_,_,_,_,_,atB bs,rfl,Walks.list (A:=X.A.in1) (show X.A.in1.handled=none from I.ok.hd hc) _ p hp its.toArray,⟨⟨_,O0 _ rfl,rfl,rfl⟩,?_⟩,?_,λh' tk hk=>?_⟩
 ·obtain ⟨o,n,e,c,_,d⟩:=pl
  exact⟨o,F0 _ e,c,n,d⟩
 ·intro i v s' Q' E' hP hQ
  obtain⟨b,h1,rfl⟩:=zkX (i:=i) (v:=v) rv (by simpa using hP)
  refine wpAny_truthy_bool ?_
  have e:atB bs i=b:=by unfold atB;rw[h1]
  rw[e] at hQ
  exact hQ
 ·have hl:its.toArray.size=bs.length:=by
   have:=rv.length
   simp at this
   simp[this]
  rw[hl,zhO]
  refine⟨.bl (bs.all id),H,I.kept λb o e=>hk b o ?_ (F0 _ e),rfl,q⟩
  intro z
  have:b=s.heap.objs.size:=by simpa using z
  exact absurd (S0 e) (by rw[this];exact Nat.lt_irrefl _)
theorem za6:∀{ys:List Str} {us:List Value},Vals (ys.map V.str) us->StrsAre us ys
 |[],_, .nil=>by first|exact .nil|trivial
 |y::ys,_, .cons r t=>by
  obtain⟨k,rfl⟩:=r
  first
   |exact .cons _ _ (za6 t)
   |exact .cons (za6 t)
   |exact⟨⟨k,rfl⟩,za6 t⟩
noncomputable def zfL(z:Str)(n:Nat):Str:=⟨(List.replicate n z.cps).foldl (·++·) #[]⟩
theorem zjV:OpR X (binaryOp .Mult) (λx y H Q=>∃z n,x= .str z/\y= .int n/\1<n/\n<=1000/\0<z.length/\z.length<=1000/\Q (.str (zfL z n.toNat)) H):=by
 intro pins s σ H x y v u Q I rx ry h
 obtain⟨z,n,rfl,rfl,h1,h2,h3,h4,q⟩:=h
 obtain⟨t,rfl⟩:=rx
 obtain⟨t',rfl⟩:=ry
 have e1:¬n<1:=()
 have e2:(n==1||z.length==0)=false:=by
  have a:(n==1)=false:=beq_eq_false_iff_ne.mpr ()
  have b:(z.length==0)=false:=beq_eq_false_iff_ne.mpr ()
  rw[a,b];rfl
 have hz:z.length*n.toNat<=1000*1000:=Nat.mul_le_mul h4 ()
 refine P.mul_str ?_ (λ_ _=>?_) (λ_ _=>?_) ?_
 ·have a:decide (n< -(2^63:Int))=false:=b0 ()
  have b:decide (n≥2^63)=false:=b0 ()
  rw[a,b];rfl
 ·have hd:(1000:Int)<=(2^63 -1)/n:=by
   apply Int.le_ediv_of_mul_le ()
   lia
  lia
 ·have hb:z.length*n.toNat<=sizeLine:=K1 hz ⋯
  unfold Builtin.Str.tooLong
  exact b0 ()
 ·rw[N0 e1,e2]
  simp only[U2,if_false]
  refine⟨?_,⟨.str _,H,I.tok _,⟨_,rfl⟩,q⟩⟩
  have key:∀(k:Nat) (acc:Array Nat),((List.replicate k z.cps).foldl (·++·) acc).size=acc.size+k*z.cps.size:=by
   intro k
   induction k with
   |zero=>intro acc;simp
   |succ k ih=>intro acc;rw[List.replicate_succ,List.foldl_cons,ih,Array.size_append,Nat.succ_mul];lia
  have hk:=key n.toNat #[]
  have hz':n.toNat *z.cps.size<=1000*1000:=Nat.mul_le_mul () h4
  have hsl:1000*1000<=sizeLine:=⋯
  show((List.replicate n.toNat z.cps).foldl (·++·) #[]).size<=sizeLine
  rw[hk]
  simp only[Array.size_empty]
  lia
theorem ziR:CallR X (.builtin "isinstance") (λxs H Q=>∃x T t b,xs=[x, .ty T]/\TyOf X.K H x t/\W.kitOne X.K t (.type T)=some b/\Q (.bl b) H):=by
 intro pins s σ H xs us Q I r h
 obtain⟨x,T,t,b,rfl,ht,hk,q⟩:=h
 obtain⟨u,w',rfl,ru,rw'⟩:=zg1 r
 cases rw'
 exact zmj I ru ht hk λtk=>⟨.bl b,H,I.tok _,rfl,q⟩
theorem zbr:bootBuiltins "len"=some (.builtin "len"):=`Z2
theorem zrG:bootBuiltins "all"=some (.builtin "all"):=`Z2
theorem zdS:bootBuiltins "isinstance"=some (.builtin "isinstance"):=`Z2
theorem zn2:bootBuiltins "max"=some (.builtin "max"):=`Z2
theorem zeO:bootBuiltins "min"=some (.builtin "min"):=`Z2
theorem zdH:bootBuiltins "sorted"=some (.builtin "sorted"):=`Z2
theorem zgi:bootBuiltins "int"=some (.type "int"):=`Z2
theorem zbg:bootBuiltins "tuple"=some (.type "tuple"):=`Z2
theorem zoS:bootBuiltins "list"=some (.type "list"):=`Z2
theorem zpZ:bootBuiltins "bool"=some (.type "bool"):=`Z2
theorem few{xs:List α}(h:Nat.ble xs.length 1000=true):xs.length<=sizeLine:=W2 (zn (Nat.le_of_ble_eq_true h))
noncomputable def ze6:Expr->Option V
 | .Constant (.str x) _ _=>some (.str x)
 | .Constant (.int i) _ _=>some (.int i)
 | .Constant (.bool b) _ _=>some (.bl b)
 | .Constant .none _ _=>some .non
 |_=>none
theorem zmN{e:Expr}(h:ze6 e=some v):PE X e (tC v)/\∀es,starEach (e::es) X.env=(false,eval e X.env)::starEach es X.env:=by
 cases e with
 |Constant c j pos=>
  cases c with
  |str x=>cases h;exact⟨zm0,λ_=>rfl⟩
  |int x=>cases h;exact⟨znr,λ_=>rfl⟩
  |bool x=>cases h;exact⟨zqv,λ_=>rfl⟩
  |none=>cases h;exact⟨znB,λ_=>rfl⟩
  |_=>cases h
 |_=>cases h
noncomputable def zsH(vs:List V):TA:=λ_ H Q=>Q vs H
theorem zex:∀{es:List Expr} {vs:List V},es.mapM ze6=some vs->PA X es (zsH vs)
 |[],vs,h=>by
  have e:vs=[]:=by simpa using h.symm
  subst e
  exact zob
 |e::es,vs,h=>by
  rw[List.mapM_cons] at h
  cases h1:ze6 e with
  |none=>rw[h1] at h;cases h
  |some v=>
   rw[h1] at h
   cases h2:es.mapM ze6 with
   |none=>rw[h2] at h;cases h
   |some us=>
    rw[h2] at h
    have e1:v::us=vs:=O1 h
    subst e1
    obtain⟨p,st⟩:=zmN (X:=X) h1
    have q:=zlf p (zex (es:=es) h2) (st es)
    exact q
noncomputable def zqB(vs:List V):TE:=λ_ H Q=>vs.length<=sizeLine/\∀p,H p=none->Q (.ref p) (upd H p (.lst vs))
theorem zps(vs:List V)(h:es.mapM ze6=some vs):PE X (.List es pos) (zqB vs):=zop (zex h)
structure Wk(J:It)(n:Nat)(P:Nat->V->Prop)(ok:Hp->Prop):Prop where
 stop:∀i H,ok H->n<=i->J.stop i H
 go:∀i H,ok H->i<n->J.go i H
 yld:∀i H x H',ok H->i<n->J.yld i H x H'->H'=H/\P i x
theorem zfH:Wk (Itl K a) xs.length (λi x=>xs[i]?=some x) (λH=>SqL K H a xs) where
 stop:=λi H h l=>⟨xs,h,l⟩
 go:=λi H h l=>⟨xs,xs[i],h,by simp[l]⟩
 yld:=λi H x H' h l y=>⟨y.1,y.2 xs h⟩
theorem zbs:Wk (Itt K a) xs.length (λi x=>xs[i]?=some x) (λH=>SqT K H a xs) where
 stop:=λi H h l=>⟨xs,h,l⟩
 go:=λi H h l=>⟨xs,xs[i],h,by simp[l]⟩
 yld:=λi H x H' h l y=>⟨y.1,y.2 xs h⟩
theorem zcO{lo:Int}{n:Nat}:Wk (Itr lo n) n (λi x=>x= .int (lo+i)) (λ_=>True) where
 stop:=λi H h l=>l
 go:=λi H h l=>l
 yld:=λi H x H' h l y=>y
theorem zbB{n:Nat}{P:Nat->V->Prop}{ok:Hp->Prop}{g:TG}{src:List (Option Nat)}{Q:VK}(wk:Wk J n P ok)(Pv:Addr->Nat->List V->St->Hp->Prop)
 (h0:∀l,H1 l=none->Pv l 0 [] (zeo src σ) (upd H1 l (.lst []))) (hok:∀l i ys σ H,H1 l=none->Pv l i ys σ H->ok H)
 (hs:∀l i x ys σ H,H1 l=none->i<n->P i x->Pv l i ys σ H->H l=some (.lst ys)->g x σ H λσ2 H3=>tc σ2 H3 λb H4=>
   if b=true then te σ2 H4 λy H5=>H5 l=some (.lst ys)/\ys.length<sizeLine/\Pv l (i+1) (ys ++ [y]) σ2 (upd H5 l (.lst (ys ++ [y])))else H4 l=some (.lst ys)/\Pv l (i+1) ys σ2 H4)
 (hd:∀l ys σ H,H1 l=none->Pv l n ys σ H->H l=some (.lst ys)->Q (.ref l) H):
 zdU g tc te src σ Q J H1:=by
 intro l hl
 refine⟨λi m ys σ H=>m=n -i/\i<=n/\Pv l i ys σ H,⟨n,`j2,T1 _,h0 l hl⟩,?_⟩
 rintro i m ys σ' H' ⟨rfl,hi,p⟩ hl'
 by_cases hlt:i<n
 ·refine .inr ⟨wk.go i H' (hok l i ys σ' H' hl p) hlt,Pv l (i+1),λzs σ2 H2 q=>⟨n -(i+1),(),rfl,hlt,q⟩,λx H2 y=>?_⟩
  obtain⟨rfl,px⟩:=wk.yld i H' x H2 (hok l i ys σ' H' hl p) hlt y
  exact hs l i x ys σ' _ hl hlt px p hl'
 ·have e:i=n:=()
  subst e
  exact .inl ⟨wk.stop _ _ (hok l _ ys σ' H' hl p) (R0 _),hd l ys σ' H' hl p hl'⟩
theorem zaX{n:Nat}{P:Nat->V->Prop}{ok:Hp->Prop}{g:TG}{D:Ends}(wk:Wk J n P ok)(Pv:Nat->St->Hp->Prop)(h0:Pv 0 σ H)(hok:∀i σ H,Pv i σ H->ok H)
 (hs:∀i x σ H,i<n->P i x->Pv i σ H->g x σ H λσ2 H2=>tb {D with nx:=Pv (i+1),ct:=Pv (i+1),bk:=D.nx} σ2 H2) (hd:∀σ H,Pv n σ H->D.nx σ H):
 zqI g tb D σ J H:=by
 refine⟨λi m σ H=>m=n -i/\i<=n/\Pv i σ H,⟨n,`j2,T1 _,h0⟩,?_⟩
 rintro i m σ H ⟨rfl,hi,p⟩
 by_cases hlt:i<n
 ·refine .inr ⟨wk.go i H (hok i σ H p) hlt,Pv (i+1),λσ' H' q=>⟨n -(i+1),(),rfl,hlt,q⟩,λx H' y=>?_⟩
  obtain⟨rfl,px⟩:=wk.yld i H x H' (hok i σ H p) hlt y
  exact hs i x σ _ hlt px p
 ·have e:i=n:=()
  subst e
  exact .inl ⟨wk.stop _ _ (hok _ σ H p) (R0 _),hd σ H p⟩
structure QE(X:Cx)(e:Expr)(t:TE):Prop where o:PE X e t
structure QT(X:Cx)(e:Expr)(t:TT):Prop where o:PT X e t
structure QW(X:Cx)(e:Expr)(t:TT):Prop where o:PW X e t
structure QA(X:Cx)(es:List Expr)(t:TA):Prop where o:PA X es t
structure QS(X:Cx)(s:Stmt)(t:TS):Prop where o:PS X s t
structure QB(X:Cx)(s:List Stmt)(t:TS):Prop where o:PSs X s t
structure QI(X:Cx)(tg iter:Expr)(t:TI):Prop where o:PI X tg iter t
structure QG(X:Cx)(tg:Expr)(t:TG):Prop where o:PG X tg t
structure QGs(X:Cx)(tg:List Expr)(t:TGs):Prop where o:PGs X tg t
structure QF(X:Cx)(ifs:List Expr)(t:TT):Prop where o:PIf X ifs t
structure QO(X:Cx)(e:Option Expr)(t:TO):Prop where o:PO X e t
structure QPs(X:Cx)(pos:Pos)(keys:List (Option Expr))(values:List Expr)(trs:List (TE×TE)):Prop where o:PPs X pos keys values trs
section
variable{a b c e o i:Expr}{ta tb tc to:TE}{t u:TA}{p:Pos}{q q':TT}
theorem qv(i:Nat)(hN:autoParam (X.N[i]?=some x) v3)(hv:Vis X.env.scope x:=by exact Or.inl rfl)(hd:autoParam ((x==("__debug__":Str))=false) v4)
 (hcd:autoParam ((x==("__classdict__":Str))=false) v4):QE X (.Name x pos) (zqc i):=⟨znM hN hv hd hcd⟩
theorem qc(i:Nat)(hN:autoParam (X.N[i]?=some x) v3)(hv:autoParam (X.env.scope.names.lookup x=some .cell) v3)(hd:autoParam ((x==("__debug__":Str))=false) v4)
 (hcd:autoParam ((x==("__classdict__":Str))=false) v4):QE X (.Name x pos) (zqc i):=⟨znM hN (.inr (.inl hv)) hd hcd⟩
theorem zf{k:Int}:QE X (.Constant (.int k) j pos) (tC (.int k)):=⟨znr⟩
theorem zbk{k:Str}:QE X (.Constant (.str k) j pos) (tC (.str k)):=⟨zm0⟩
theorem zir{k:Bool}:QE X (.Constant (.bool k) j pos) (tC (.bl k)):=⟨zqv⟩
theorem zdN:QE X (.Constant .none j pos) (tC .non):=⟨znB⟩
theorem zor{u:Value}(hm:X.mg x=some u)(r:RelV v u)(hg:autoParam (Gl X x) v3)(hd:autoParam ((x==("__debug__":Str))=false) v4):QE X (.Name x pos) (tC v):=⟨zoW hg hm r hd⟩
theorem zr6{T:String}(hm:X.mg x=none)(hv:bootBuiltins x=some (.type T))(hg:autoParam (Gl X x) v3)(hn:autoParam (x≠"__name__") v4)(hd:autoParam ((x==("__debug__":Str))=false) v4):QE X (.Name x pos) (tC (.ty T)):=⟨zpU hg hm hv rfl hn hd⟩
theorem zC{op:Operator}{r:R2}(ho:OpR X (binaryOp op) r)(ha:QE X a ta)(hb:QE X b tb):QE X (.BinOp a op b pos) (tOp r ta tb):=⟨zr4 ho ha.o hb.o⟩
theorem zo8{op:UnaryOp}{r:V->Hp->VK->Prop}(ho:UnR X (unaryOp op) r)(ha:QE X a ta):QE X (.UnaryOp op a pos) (tUn r ta):=⟨zsw ho ha.o⟩
theorem zcA{r:R2}(ho:OpR X (compareOp op) r)(ha:QE X a ta)(hb:QE X b tb)(hm:autoParam (behindInMarks op b=false) v3):QE X (.Compare a [op] [b] pos) (tOp r ta tb):=⟨zqb ho ha.o hb.o hm⟩
theorem zQ{r:R2}(ho:OpR X (compareOp op) r)(ha:QE X a ta)(hb:QE X b tb)(hm:autoParam (behindInMarks op b=false) v3):QT X (.Compare a [op] [b] pos) (zls (tOp r ta tb)):=⟨zpo ho ha.o hb.o hm⟩
theorem zp2{r:R2}(ho:OpR X (compareOp op) r)(ho':OpR X (compareOp op') r')(ha:QE X a ta)(hb:QE X b tb)(hc:QE X c tc)
 (hm:autoParam (lastMarks [op,op'] [b,c]=false) u6):QE X (.Compare a [op,op'] [b,c] pos) (zis r r' ta tb tc):=⟨znk ho ho' ha.o hb.o hc.o hm⟩
theorem zoF{r:R2}(ho:OpR X (compareOp op) r)(ho':OpR X (compareOp op') r')(ha:QE X a ta)(hb:QE X b tb)(hc:QE X c tc)
 (hm:autoParam (lastMarks [op,op'] [b,c]=false) u6):QT X (.Compare a [op,op'] [b,c] pos) (zls (zis r r' ta tb tc)):=⟨znO ho ho' ha.o hb.o hc.o hm⟩
theorem znl{op:BoolOp}(h:QE X a ta):QE X (.BoolOp op [a] pos) ta:=⟨zqW h.o⟩
theorem znW(ha:QE X a ta)(hb:QE X (.BoolOp .And (b::rest) pos) tb):QE X (.BoolOp .And (a::b::rest) pos) (zqq ta tb):=⟨zq7 ha.o hb.o⟩
theorem zqH(ha:QE X a ta):QE X (.UnaryOp .Not a pos) (zql ta):=⟨zrP ha.o⟩
theorem zr8(hc:QT X c q)(ha:QE X a ta)(hb:QE X b tb):QE X (.IfExp c a b pos) (tIf q ta tb):=⟨zn0 hc.o ha.o hb.o⟩
theorem znT(ha:QT X a q):QW X (.BoolOp .Or [a] pos) q:=⟨zrs ha.o⟩
theorem zqZ(ha:QT X a q)(hb:QW X (.BoolOp .Or (b::rest) pos) q'):QW X (.BoolOp .Or (a::b::rest) pos) (tOr q q'):=⟨zsr ha.o hb.o⟩
theorem t_w(h:QW X a q):QT X a q:=⟨h.o.pt⟩
theorem zjt(ha:QT X a q):QT X (.UnaryOp .Not a pos) (zr3 q):=⟨zq6 ha.o⟩
theorem ziK(h:QE X e te)(he:autoParam (∀whole,isTrue e X.env whole=(do let v ←whole;standAt e.pos;holding [v] (truthy v))) u5):QT X e (tB te):=⟨zrw h.o he⟩
theorem zpJ(h:QE X e te)(he:autoParam (∀whole,isTrue e X.env whole=(do let v ←whole;standAt e.pos;holding [v] (truthy v))) u5):QT X e (λσ H Q=>te σ H λx H'=>∃k,zrm X.K x H' k/\Q k H'):=⟨zov h.o he⟩
theorem zd:QA X [] zmW:=⟨zob⟩
theorem za(ha:QE X e te)(hr:QA X es t)(hs:autoParam (starEach (e::es) X.env=(false,eval e X.env)::starEach es X.env) v3):QA X (e::es) (zlE te t):=⟨zlf ha.o hr.o hs⟩
theorem zK{k:Nat}(h:QA X es t):QE X (.Tuple es k pos) (zrS t):=⟨zrR h.o⟩
theorem zdx(h:QA X es t):QE X (.List es pos) (zrO t):=⟨zop h.o⟩
theorem zgz(vs:List V)(h:es.mapM ze6=some vs):QE X (.List es pos) (zqB vs):=⟨zps vs h⟩
theorem zm{k:Nat}{ps:List Str}{ds:List Value}{E:XK}(F:FnOk X.prog X.w X.K X.mg X.base CX k f fd ps sp)(hr:Room k X.A)(hm:X.mg x=some (.ref f))(hk:W.keepIn X.K (.ref f)=true)(hb:Binds X.K fd ps ds)(hd:Vals dvs ds)(hx:zb2 CX X E)
 (ha:QA X (e::es) t) (hg:autoParam (Gl X x) v3) (hdb:autoParam ((x==("__debug__":Str))=false) v4) (he:autoParam (starEach (e::es) X.env=(false,eval e X.env)::starEach es X.env) v3) (hpl:autoParam ((backTo pos (starEach es X.env)).any (·.1)=false) v3):
 QE X (.Call (.Name x p) (e::es) [] pos) (zqA sp dvs E t):=⟨zpM F hr hg hm hk hb hd hx ha.o hdb he hpl⟩
theorem zz{id:String}{r:List V->Hp->VK->Prop}(hc:CallR X (.builtin id) r)(hm:X.mg x=none)(hv:bootBuiltins x=some (.builtin id))(ha:QA X (e::es) t)(hg:autoParam (Gl X x) v3)(hn:autoParam (x≠"__name__") v4)(hdb:autoParam ((x==("__debug__":Str))=false) v4)
 (he:autoParam (starEach (e::es) X.env=(false,eval e X.env)::starEach es X.env) v3) (hpl:autoParam ((backTo pos (starEach es X.env)).any (·.1)=false) v3):QE X (.Call (.Name x p) (e::es) [] pos) (tCB r t):=⟨zoh hc hg hm hv ha.o hn hdb he hpl⟩
theorem zZ{T:String}{r:List V->Hp->VK->Prop}(hc:CallR X (.type T) r)(hm:X.mg x=none)(hv:bootBuiltins x=some (.type T))(ha:QA X (e::es) t)(hg:autoParam (Gl X x) v3)(hn:autoParam (x≠"__name__") v4)(hdb:autoParam ((x==("__debug__":Str))=false) v4)
 (he:autoParam (starEach (e::es) X.env=(false,eval e X.env)::starEach es X.env) v3) (hpl:autoParam ((backTo pos (starEach es X.env)).any (·.1)=false) v3):QE X (.Call (.Name x p) (e::es) [] pos) (tCB r t):=⟨zmh hc hg hm hv ha.o hn hdb he hpl⟩
theorem zS{r:R2}(hr:IxR X r)(ha:QE X a ta)(hb:QE X b tb)(hs:autoParam (zkN b) w6):QE X (.Subscript a b pos) (tOp r ta tb):=⟨zrY hr ha.o hb.o hs⟩
theorem zkH:QO X none zlC:=⟨zpC⟩
theorem zkL(h:QE X e te):QO X (some e) (zqp te):=⟨zoI h.o⟩
theorem zqS{r:V->Option Int->Option Int->Hp->VK->Prop}{lo hi:Option Expr}{tl th:TO}(hr:SlR X r)(he:QE X e te)(hl:QO X lo tl)(hu:QO X hi th):QE X (.Subscript e (.Slice lo hi none p) pos) (tSl r te tl th):=⟨znp hr he.o hl.o hu.o⟩
theorem zfs{T id:String}{r:V->List V->Hp->VK->Prop}(pa:PlainAttrs T)(slot:Slot T name id)(hty:typeOf (.builtin id)=pure (.type "method_descriptor"))(hm:MtR X id r)(ho:QE X o to)(ha:QA X (e::es) t)
 (hbase:autoParam (attributeBase o name X.env (eval o X.env)=eval o X.env) v3)
 (hfew:autoParam (((backTo cpos (starEach (e::es) X.env)).all (λx=>!x.1)&&(backToKw cpos (keywordEach [] X.env)).all (λx=>x.1.isSome)
   &&decide ((e::es).length+([]:List Keyword).length+(if([]:List Keyword).isEmpty then 0 else 1)<30))=true) v3)
 (hline:autoParam ((apos.endLine==cpos.line)=true) v3) (hs:autoParam (starEach (e::es) X.env=(false,eval e X.env)::starEach es X.env) v3) (hplain:autoParam ((backTo cpos (starEach es X.env)).any (·.1)=false) v3):
 QE X (.Call (.Attribute o name apos) (e::es) [] cpos) (tBM X.K T r to t):=⟨zsx pa slot hty hm ho.o ha.o hbase hfew hline hs hplain⟩
theorem zhF(h:QE X e te):QI X tg e (zqh X.K te):=⟨zpz h.o⟩
theorem zc1(h:QE X e te):QI X tg e (zrW X.K te):=⟨zrM h.o⟩
theorem zec(hm:X.mg "range"=none)(ha:QA X [a] t)(hg:autoParam (Gl X "range") v3)(hs:autoParam (starEach [a] X.env=[(false,eval a X.env)]) v3):QI X tg (.Call (.Name "range" p) [a] [] pos) (zqz t):=⟨zmg hg hm ha.o hs⟩
theorem zoA(hm:X.mg "range"=none)(ha:QA X [a,b] t)(hg:autoParam (Gl X "range") v3)(hs:autoParam (starEach [a,b] X.env=[(false,eval a X.env),(false,eval b X.env)]) v3)(hs2:autoParam (starEach [b] X.env=[(false,eval b X.env)]) v3):QI X tg (.Call (.Name "range" p) [a,b] [] pos) (zqm t):=⟨zmw hg hm ha.o hs hs2⟩
theorem zp(k:Nat)(hN:X.N.Nodup)(hi:autoParam (X.N[k]?=some x) v3)(hx:autoParam (X.env.scope.names.lookup x=some .local) v3):QG X (.Name x pos) (zb7 k):=⟨zkV hN hi (.inl hx) (.inr hx)⟩
theorem zaE:QGs X [] zsm:=⟨zpy⟩
theorem zt{tg:TG}(h1:QG X e tg)(h2:QGs X es tgs)(hs:autoParam ((assignEach (e::es) X.env).map (·.2)=assign e X.env::(assignEach es X.env).map (·.2)) v3):QGs X (e::es) (zqn tg tgs):=⟨znn h1.o h2.o hs⟩
theorem zc3(n:Nat){k:Nat}(hc:X.calm=true)(h:QGs X es tgs)(hn:autoParam ((assignEach es X.env).length=n) v3)(hst:autoParam ((assignEach es X.env).findIdx? (·.1)=none) v3):QG X (.Tuple es k pos) (zrf X.K n tgs):=⟨zrL hc h.o hn hst⟩
theorem zc5:QF X [] zn9:=⟨zpI⟩
theorem zn6(h:QT X c q):QF X [c] q:=⟨zp3 h.o⟩
theorem z7:QB X [] zqx:=⟨zo7⟩
theorem zg{st:Stmt}(h1:QS X st sa)(h2:QB X sts sb):QB X (st::sts) (zrx sa sb):=⟨zi3 h1.o h2.o⟩
theorem zj{st:Stmt}(h1:QS X st sa):QB X [st] sa:=⟨zoH h1.o⟩
theorem zaw{A B:List Stmt}(hc:QT X c q)(ha:QB X A sa)(hb:QB X B sb):QS X (.If c A B pos) (zrX q sa sb):=⟨zso hc.o ha.o hb.o⟩
theorem zv(h:QE X e te):QS X (.Return (some e) pos) (zsp te):=⟨zrq h.o⟩
theorem zaV(he:QE X e te)(hs:autoParam (swapsWith e none pos.line X.env=pure false) v3):QS X (.Expr e pos) (zqs te):=⟨zpV he.o hs⟩
theorem znY:QS X (.Continue pos) zqG:=⟨ziZ⟩
theorem zy(k:Nat)(hN:X.N.Nodup)(he:QE X e te)(hi:autoParam (X.N[k]?=some x) v3)(hx:autoParam (X.env.scope.names.lookup x=some .local) v3)(hs:autoParam (swapsWith e (some (.Name x pos')) pos.line X.env=pure false) v3):
 QS X (.Assign [.Name x pos'] e pos) (zjU te (zb7 k)):=⟨zoi hN hi (.inl hx) he.o hs (.inr hx)⟩
theorem zf4(k:Nat)(hN:X.N.Nodup)(he:QE X e te)(hi:autoParam (X.N[k]?=some x) v3)(hx:autoParam (X.env.scope.names.lookup x=some .cell) v3)(hf:autoParam (X.fn x=true) v3)(hs:autoParam (swapsWith e (some (.Name x pos')) pos.line X.env=pure false) v3):
 QS X (.Assign [.Name x pos'] e pos) (zjU te (zb7 k)):=⟨zoi hN hi (.inr hx) he.o hs (.inl hf)⟩
theorem zb9{g:TG}(hp:PassesOwn (model X.prog X.w) X.A X.env X.xe)(hc:X.calm=true)(hi:QI X tg iter wi)(hg:QG X tg g)(hb:QB X body sa)
 (hs:autoParam (∀x,foldedSetIterable iter X.env x=pure x) u5):QS X (.For tg iter body [] pos) (zqw wi g sa):=⟨zpQ hp hc hi.o hg.o hb.o hs⟩
end
section
variable{src:List (Option Nat)}{g:TG}
theorem zcQ(ok:CompOk X.N osc N' src scope)(hsc:X.env.scope=osc)(hc:X.calm=true)(hi:QI X tg iter wi)
 (hg:∀cl C s₀ H₀ fp,QG (zx X N' scope cl C s₀ H₀ fp) tg g) (ht:∀cl C s₀ H₀ fp,QF (zx X N' scope cl C s₀ H₀ fp) ifs tc) (he:∀cl C s₀ H₀ fp,QE (zx X N' scope cl C s₀ H₀ fp) elt te)
 (hs:autoParam (∀x,foldedSetIterable iter X.env x=pure x) u5):QE X (.ListComp elt [⟨tg,iter,ifs,0⟩] scope pos) (zlz wi g tc te src):=
 ⟨zpX ok hsc hc hi.o (λcl C s₀ H₀ fp=>(hg cl C s₀ H₀ fp).o) (λcl C s₀ H₀ fp=>(ht cl C s₀ H₀ fp).o) (λcl C s₀ H₀ fp=>(he cl C s₀ H₀ fp).o) hs⟩
end
theorem Fun.okQ{mg:Str->Option Value}{st:Stmt}{ps:List Str}{k:Nat}(F:Fun K x qual st f fd)(S:FnScope N ps (ze st))(len:∀vs H Q E,sp vs H Q E->vs.length=ps.length)
 (hbody:∀(cdv:Value) (A:Around) (outer:List Env) (s:Shared) (H:Hp) (vs:List V) (Q:VK) (E:XK),Room k (A.deeper (envOfC qual (ze st) s.heap.objs.size f cdv))->sp vs H Q E->
   ∃t,QB (zjs CX0 P w K mg base N qual (ze st) f cdv A outer s H E).nox (zL st) t/\t {nx:=λ_ H'=>Q .non H',rt:=Q} (zdP N vs) H):FnOk P w K mg base CX0 (k+1) f fd ps sp:=
 F.ok S len λcdv A outer s H vs Q E hr h=>let ⟨t,a,b⟩:=hbody cdv A outer s H vs Q E hr h;⟨t,a.o,b⟩
theorem zrj{h:Heap}{m:Str->Option Value}(hn:h.Ns a m):∃o,h.get? a=some o/\∀v,o.data≠ .cell v:=
 let⟨o,es,ep,e,d,_⟩:=hn;⟨o,e,λv z=>by rw[d] at z;cases z⟩
theorem zpt{h:Heap}{m:Str->Option Value}{o:Obj}(hn:h.Ns a m)(e:h.get? a=some o)(e':h'.get? a=some o):h'.Ns a m:=by
 obtain⟨o',es,ep,e1,r⟩:=hn
 rw[e] at e1
 cases e1
 exact⟨o,es,ep,e',r⟩
section
variable{src:List (Option Nat)}{g:TG}{y:Str}{k:Nat}
theorem zjI(ok:CompOk X.N osc N' src scope)(hsc:X.env.scope=osc)(hc:X.calm=true)(hi:PI X tg iter wi)
 (hg:∀cl C s₀ H₀ fp,PG (zx X N' scope cl C s₀ H₀ fp) tg g) (ht:∀cl C s₀ H₀ fp,PIf (zx X N' scope cl C s₀ H₀ fp) ifs tc) (he:∀cl C s₀ H₀ fp,PE (zx X N' scope cl C s₀ H₀ fp) elt te)
 (hN:X.N.Nodup) (hk:X.N[k]?=some y) (hx:X.env.scope.names.lookup y=some .local) (hsw:swapsWith (.ListComp elt [⟨tg,iter,ifs,0⟩] scope pos) (some (.Name y py)) spos.line X.env=pure true)
 (hs:autoParam (∀x,foldedSetIterable iter X.env x=pure x) u5):PS X (.Assign [.Name y py] (.ListComp elt [⟨tg,iter,ifs,0⟩] scope pos) spos) (zjU (zlz wi g tc te src) (zb7 k)):=by
 intro pins s σ H D I h
 obtain⟨cl,hcl,c1,c2⟩:=zd3 (scope:=scope) (env:=X.env) λy hy hyf=>I.ok.has y.1 (by
  have z:=ok.frees y hy hyf
  rw[←hsc] at z
  exact z)
 rw[exec_Assign_Name_used _ _ _ _ hsw]
 refine C0 (wpAny_standAt (C0 ?_))
 show wpAny _ X.A (do let _ ←comprehension (.ListComp elt [⟨tg,iter,ifs,0⟩] scope pos) scope X.env _ (newList []) false (eval iter X.env) (some (assign (.Name y py) X.env))) _ _ s
 refine C0 (X2 (wpAny_comprehension_free (use:=some (assign (.Name y py) X.env)) (Q:=λ_ s'=>∃σ' H',Inv X pins σ' H' s'/\D.nx σ' H') rfl hs hcl ok.kind ok.loc
  (thn (hi pins s σ H _ I h) λv s1 h1=>thn h1 λitv s2 h2=>?_)) (λ_ s' hq=>K0 (K0 hq)) λ_ _ e=>e)
 obtain⟨it,fp,tn,J,H2,e,I2,T,st2,f2,q2⟩:=h2
 subst e
 have hlt2:∀b∈fp,b<s2.heap.objs.size:=λb hb=>by
  obtain⟨o,e,_⟩:=T.obj _ _ st2 b hb
  exact S0 e
 refine Y1 ?_
 have hl:H2 s2.heap.objs.size=none:=I2.hok.fresh (R0 _)
 have I3:Inv X pins σ (upd H2 s2.heap.objs.size (.lst [])) {s2 with heap:=s2.heap.push {cls:= .type "list",dict:=none,data:= .seq ([]:List Value).toArray}}:=
  I2.laid (t':=s2.toks) (λb u e=>F0 _ e) (R0 _) ⟨T1 _,[],0, .nil,O0 _ rfl⟩
 obtain⟨W,⟨m0,w0⟩,turn⟩:=q2 _ hl
 generalize hl2:s2.heap.objs.size=l at *
 generalize hs3:({s2 with heap:=s2.heap.push {cls:= .type "list",dict:=none,data:= .seq ([]:List Value).toArray}}:Shared)=s3 at *
 have f3:∀b∈fp,zdZ X pins (upd H2 l (.lst [])) b:=λb hb=>⟨by rw[zc (C1 (hlt2 b hb))];exact(f2 b hb).1,(f2 b hb).2⟩
 have k3:∀b o,s2.heap.get? b=some o->s3.heap.get? b=some o:=λb o e=>by rw[←hs3];exact F0 _ e
 have hlt3:∀b∈fp,b<s3.heap.objs.size:=λb hb=>by
  obtain⟨o,e,_⟩:=T.obj _ _ st2 b hb
  exact S0 (k3 b o e)
 refine wpAny_newFunctionEnv ok.nocell (by intro y hy;simp at hy) (λh₁ hns₁ hsb₁=>?_) ok.kind
 have k4:∀b o,s3.heap.get? b=some o->h₁.get? b=some o:=λb o e=>(hsb₁.2 b (C1 (S0 e))).trans (F0 _ e)
 have J0:=zeb (tk:=s3.toks+([]:List (Str×Value)).length) I3 f3 hlt3 ok hsc c1 c2 hns₁ k4
 have st4:tn 0 h₁:=T.keep _ _ _ st2 λb hb o e=>k4 b o (k3 b o e)
 generalize hC:s3.heap.objs.size=C at *
 have stat:∀{H':Hp},(∀b∈fp,H' b=none)->∀b∈fp,zdZ (zx X N' scope cl C s3 (upd H2 l (.lst [])) fp) [] H' b:=λ{H'} hn b hb=>
  ⟨hn b hb,(J0.ok.exf b hb).1,J0.ok.exfs b hb, .inl hb,(J0.ok.exf b hb).2,λp hp=>absurd (show p∈([]:List (Addr×Obj))from hp) `j2⟩
 have loop:codeAny (model X.prog X.w) X.A (.compLoop (.ListComp elt [⟨tg,iter,ifs,0⟩] scope pos) 0 (.ref it) (.ref l) (compEnvC scope cl C X.env))
  (compPost (model X.prog X.w) X.A X.xe (some (assign (.Name y py) X.env)) (λ_ s'=>∃σ' H',Inv X pins σ' H' s'/\D.nx σ' H') (.ref l) C) {s3 with heap:=h₁,toks:=s3.toks+([]:List (Str×Value)).length}:=by
  refine zeD (λn s'=>∃i ys σ' H',Inv (zx X N' scope cl C s3 (upd H2 l (.lst [])) fp) [] σ' H' s'/\tn i s'.heap/\(∀b∈fp,H' b=none)/\H' l=some (.lst ys)/\W i n ys σ' H') ?_ m0
   ⟨0,[],_,_,J0,st4,λb hb=>(f3 b hb).1,zb,w0⟩
  rintro n s5 ⟨i,ys,σ5,H5,I5,st5,fr5,hl5,w5⟩
  rcases turn i n ys σ5 H5 w5 hl5 with⟨stop,qn⟩|⟨go,N,hN,step⟩
  ·refine thn (T.done (zx X N' scope cl C s3 (upd H2 l (.lst [])) fp) rfl rfl rfl hc i [] s5 σ5 H5 (λ_ _=>False) I5 (stat fr5) st5 stop) λr s6 ⟨hr,I6⟩=>?_
   subst hr
   obtain⟨m,hn,_⟩:=I6.loc
   have hCs:s3.heap.objs.size<=C:=by rw[←hC];exact R0 _
   have I7:Inv X pins σ H5 s6:=zd0 (h':=s6.heap) I3 f3 hCs I6 ⟨rfl,λ_ _=>rfl⟩
   have fC:zdZ X pins H5 C:=I3.fpOk hCs I6.free
   obtain⟨oC,eC,dC⟩:∃o,s6.heap.get? C=some o/\∀v,o.data≠ .cell v:=by
    obtain⟨o,e,d⟩:=zrj hn
    exact⟨o,e,d⟩
   have I8:=I7.pinned (fp:=[C]) (λb hb=>by rw[X1.mp hb];exact fC) (λb hb=>by rw[X1.mp hb];exact⟨oC,eC,dC⟩)
   refine wpAny_assign_Name (zdg (v:= .ref l) I8 hN hk (.inl hx) rfl (λs9 I9=>?_) (.inr hx))
   have p9:=(I9.pin (C,oC) (F1 _ (F1 _ (zaj (X1.mpr rfl) eC)))).1
   refine⟨m,zpt hn eC p9,λh' hsb=>⟨_,H5,?_,qn⟩⟩
   obtain⟨f0,f1,f2,f3',f4,f5⟩:=fC
   exact I9.unpinned.turned (t':=s9.toks) (λb o hb e=>(hsb.2 b hb).trans e) f0 f1 f3' f4 f5
  ·refine thn (T.item (zx X N' scope cl C s3 (upd H2 l (.lst [])) fp) rfl rfl rfl hc i [] s5 σ5 H5 (λ_ _=>False) I5 (stat fr5) st5 go) λr s6 ⟨u,hr,h6⟩=>?_
   subst hr
   refine thn h6 λ_ s7 zq=>?_
   obtain⟨x,H7,I7,r7,y7,st7,fr7⟩:=zq
   have I7':=I7.pinned (stat fr7) (T.obj _ _ st7)
   refine thn (hg cl C s3 _ fp _ s7 σ5 H7 x u _ I7' r7 (step x H7 y7)) λ_ s8 zq=>?_
   obtain⟨σ8,H8,I8,q8⟩:=zq
   refine thn (ht cl C s3 _ fp _ s8 σ8 H8 _ I8 q8) λb s9 zq=>?_
   obtain⟨H9,I9,q9⟩:=zq
   have back:∀{s':Shared} {H':Hp},Inv (zx X N' scope cl C s3 (upd H2 l (.lst [])) fp) ([]++zee fp s7.heap) σ8 H' s'->tn (i+1) s'.heap/\∀b∈fp,H' b=none:=λ{s' H'} I'=>by
    refine⟨T.keep _ _ _ st7 λb hb o e=>(I'.pin (b,o) (F1 _ (F1 _ (zaj hb e)))).1,λb hb=>?_⟩
    obtain⟨o,e,d⟩:=T.obj _ _ st7 b hb
    exact(I'.pin (b,o) (F1 _ (F1 _ (zaj hb e)))).2.1
   cases b with
   |false=>
    obtain⟨hl9,n9⟩:=q9
    obtain⟨m',hm,w9⟩:=hN _ _ _ n9
    obtain⟨t9,fr9⟩:=back I9
    exact⟨m',hm,i+1,ys,σ8,H9,I9.unpinned,t9,fr9,hl9,w9⟩
   |true=>
    refine thn (he cl C s3 _ fp _ s9 σ8 H9 _ I9 q9) λxv s10 zq=>?_
    obtain⟨y,H10,I10,r10,hl10,hz,n10⟩:=zq
    obtain⟨m',hm,w10⟩:=hN _ _ _ n10
    refine thn (za2 (X:=zx X N' scope cl C s3 (upd H2 l (.lst [])) fp) _ s10 σ8 H10 (.ref l) [y] (.ref l) [xv] (λv H'=>H'=upd H10 l (.lst (ys ++ [y]))) I10 rfl (.cons r10 .nil) ⟨l,ys,y,rfl,rfl,hl10,hz,rfl⟩) λ_ s11 ⟨_,H11,I11,_,e11⟩=>?_
    subst e11
    obtain⟨t11,fr11⟩:=back I11
    exact⟨m',hm,i+1,ys ++ [y],σ8,_,I11.unpinned,t11,fr11,zb,w10⟩
 exact codeAny_compStart_list loop (T.self _ 0 _ _ _ st4 loop)
theorem ze0(k:Nat)(ok:CompOk X.N osc N' src scope)(hsc:X.env.scope=osc)(hc:X.calm=true)(hN:X.N.Nodup)(hi:QI X tg iter wi)
 (hg:∀cl C s₀ H₀ fp,QG (zx X N' scope cl C s₀ H₀ fp) tg g) (ht:∀cl C s₀ H₀ fp,QF (zx X N' scope cl C s₀ H₀ fp) ifs tc) (he:∀cl C s₀ H₀ fp,QE (zx X N' scope cl C s₀ H₀ fp) elt te)
 (hk:autoParam (X.N[k]?=some y) v3) (hx:autoParam (X.env.scope.names.lookup y=some .local) v3) (hsw:autoParam (swapsWith (.ListComp elt [⟨tg,iter,ifs,0⟩] scope pos) (some (.Name y py)) spos.line X.env=pure true) v3)
 (hs:autoParam (∀x,foldedSetIterable iter X.env x=pure x) u5):QS X (.Assign [.Name y py] (.ListComp elt [⟨tg,iter,ifs,0⟩] scope pos) spos) (zjU (zlz wi g tc te src) (zb7 k)):=
 ⟨zjI ok hsc hc hi.o (λcl C s₀ H₀ fp=>(hg cl C s₀ H₀ fp).o) (λcl C s₀ H₀ fp=>(ht cl C s₀ H₀ fp).o) (λcl C s₀ H₀ fp=>(he cl C s₀ H₀ fp).o) hN hk hx hsw hs⟩
end
section
variable{e o i:Expr}{to:TE}{g:TG}{t:zoX}
theorem zcC(he:QE X e te)(hg:QG X tg g)(hs:autoParam (swapsWithSole [tg] e pos.line X.env=pure false) v3)(hw:autoParam (swappedStores [tg] e X.env=pure none) v3)
 (h1:autoParam ((assignEach [tg] X.env).map (·.2)=[assign tg X.env]) v3):QS X (.Assign [tg] e pos) (zjU te g):=⟨zra he.o hg.o hs hw h1⟩
theorem ziz(ho:QE X o to)(hi:QE X i ti)(hs:zro X t)(ha:autoParam (∀v,assign (.Subscript o i pos) X.env v=(do
 let ov ←holding [v] (eval o X.env)
 let iv ←holding [v,ov] (eval i X.env)
 standAt pos
 holding [v,ov,iv] (setItem ov iv v)
 release [v,ov,iv] [])) u5):QG X (.Subscript o i pos) (zr5 to ti t):=⟨zrn ho.o hi.o hs ha⟩
theorem zkO(k:Nat)(hN:X.N.Nodup)(hi:autoParam (X.N[k]?=some x) v3)(hx:autoParam (X.env.scope.names.lookup x=some .cell) v3)(hf:autoParam (X.fn x=true) v3):QG X (.Name x pos) (zb7 k):=⟨zkV hN hi (.inr hx) (.inl hf)⟩
end
noncomputable def zsP(t u:TS):TS:=λD σ H=>∃R:St->Hp->Prop,t {D with nx:=R} σ H/\∀σ' H',R σ' H'->u D σ' H'
theorem zfg{st:Stmt}(h1:QS X st sa)(h2:QB X sts sb):QB X (st::sts) (zsP sa sb):=by
 refine⟨λpins s σ H D I h=>?_⟩
 obtain⟨R,ha,hb⟩:=h
 have h3:PSs X sts (λD' σ' H'=>D'=D/\R σ' H'):=λpins s σ' H' D' I h=>by
  obtain⟨rfl,hR⟩:=h
  exact h2.o pins s σ' H' D' I (hb σ' H' hR)
 have e:(λσ' H'=>D=D/\R σ' H')=R:=by
  funext σ' H'
  simp
 refine zi3 h1.o h3 pins s σ H D I ?_
 show sa {D with nx:=λσ' H'=>D=D/\R σ' H'} σ H
 rw[e]
 exact ha
theorem zns(z:Str):zfL z 1=z:=by
 unfold zfL
 simp
theorem ziH:OpR X (binaryOp .Mult) (λx y H Q=>∃z n,x= .str z/\y= .int n/\1<=n/\n<=1000/\0<z.length/\z.length<=1000/\Q (.str (zfL z n.toNat)) H):=by
 intro pins s σ H x y v u Q I rx ry h
 obtain⟨z,n,rfl,rfl,h1,h2,h3,h4,q⟩:=h
 by_cases h:1<n
 ·exact zjV pins s σ H _ _ v u Q I rx ry ⟨z,n,rfl,rfl,h,h2,h3,h4,q⟩
 ·have e:n=1:=()
  subst e
  obtain⟨t,rfl⟩:=rx
  obtain⟨t',rfl⟩:=ry
  refine P.mul_str ⋯ (λ_ z=>by simp at z) (λ_ z=>by simp at z) ?_
  simp only[show¬(1:Int)<1 by decide,if_false,beq_self_eq_true,Bool.true_or,if_true]
  refine⟨.str _,H,I,⟨_,rfl⟩,?_⟩
  have e:zfL z (1:Int).toNat=z:=zns z
  rw[e] at q
  exact q
theorem z9:CallR X (.builtin "len") (λxs H Q=>(∃p ys,xs=[.ref p]/\(SqL X.K H p ys\/SqT X.K H p ys)/\Q (.int ys.length) H)\/∃z,xs=[.str z]/\z.length<=sizeLine/\Q (.int z.length) H):=zhY.or zh1
theorem zh7(n:Nat){k:Nat}(hK:X.K=K)(hc:X.calm=true)(h:QGs X es tgs)(hn:autoParam ((assignEach es X.env).length=n) v3)(hst:autoParam ((assignEach es X.env).findIdx? (·.1)=none) v3):QG X (.Tuple es k pos) (zrf K n tgs):=by subst hK;exact zc3 n hc h hn hst
noncomputable def zk4(c:Nat):Bool:=decide (97<=c)&&decide (c<=122)
noncomputable def zry:List Str:=["if","and","not","never"]
noncomputable def zi(x:Str):Bool:=decide (1<=x.length)&&decide (x.length<=8)&&x.cps.toList.all zk4&&!(zry.any λy=>decide (y=x))
def Hand(H:Hp)(a:Addr)(n:Int):Prop:=∃x m t:Int,H a=some (.lst [.int x, .int m, .int t])/\0<=m/\m<2^63/\0<=t/\t<=n
def Keep(a:Addr)(H H':Hp):Prop:=∀b o,b≠a->H b=some o->H' b=some o
theorem Keep.refl(a:Addr)(H:Hp):Keep a H H:=λ_ _ _ h=>h
theorem Keep.trans(x:Keep a H H1)(y:Keep a H1 H2):Keep a H H2:=λb o n h=>y b o n (x b o n h)
theorem Keep.upd(a:Addr)(H:Hp)(o:HO):Keep a H (L2.upd H a o):=λb u n h=>by rw[zc n];exact h
theorem Keep.new{p:Addr}{o:HO}(h:H p=none):Keep a H (L2.upd H p o):=λb u n e=>by rw[zc (zh e h)];exact e
theorem Keep.of(h:Same H H'):Keep a H H':=λb o _ e=>h b o e
theorem Hand.ne{p:Addr}{n:Int}(h:Hand H a n)(e:H p=none):p≠a:=by
 obtain⟨x,m,t,h,_⟩:=h
 exact λz=>by rw[z,h] at e;cases e
theorem Hand.new{p:Addr}{n:Int}{o:HO}(h:Hand H a n)(e:H p=none):Hand (upd H p o) a n:=by
 have ne:=h.ne e
 obtain⟨x,m,t,h,r⟩:=h
 exact⟨x,m,t,by rw[zc (Ne.symm ne)];exact h,r⟩
theorem Hand.same{n:Int}(h:Hand H a n)(s:Same H H'):Hand H' a n:=by
 obtain⟨x,m,t,h,r⟩:=h
 exact⟨x,m,t,s _ _ h,r⟩
theorem Hand.mono{n:Int}(h:Hand H a n)(l:n<=n'):Hand H a n':=by
 obtain⟨x,m,t,h,h1,h2,h3,h4⟩:=h
 exact⟨x,m,t,h,h1,h2,h3,()⟩
theorem Keep.sqL{b:Addr}(k:Keep a H H')(n:b≠a)(h:SqL K H b xs):SqL K H' b xs:=by
 rcases h with(h|⟨o,h⟩)|h
 ·exact .inl (.inl (k _ _ n h))
 ·exact .inl (.inr ⟨o,k _ _ n h⟩)
 ·exact .inr h
theorem Hand.updNe{p:Addr}{n:Int}{o:HO}(h:Hand H a n)(e:p≠a):Hand (upd H p o) a n:=by
 obtain⟨x,m,t,h,r⟩:=h
 exact⟨x,m,t,by rw[zc (Ne.symm e)];exact h,r⟩
theorem Keep.updNew{p:Addr}{o:HO}(k:Keep a H H')(e:H p=none):Keep a H (L2.upd H' p o):=λb u n h=>by
 rw[zc (zh h e)]
 exact k b u n h
noncomputable def zbn:Str:="abcdefghijklmnopqrstuvwxyz"
noncomputable def one(c:Nat):Str:=⟨#[c]⟩
theorem Same.new{p:Addr}{o:HO}(h:H p=none):Same H (upd H p o):=λb u e=>by rw[zc (zh e h)];exact e
structure At(K:W.Frag)(mg:Str->Option Value)(x:Str)(st:Stmt)(ps:List Str)(f:Addr)(fd:FuncData):Prop where
 fn:Fun K x x st f fd
 b:Binds K fd ps []
 mg:mg x=some (.ref f)
 kp:W.keepIn K (.ref f)=true
theorem zfG{xs:List α}{d:Int}(h0:0<=d)(h1:d<xs.length):∃v,atI xs d=some v/\v∈xs:=by
 obtain⟨k,rfl⟩:∃k:Nat,d=(k:Int):=⟨d.toNat,()⟩
 have hk:k<xs.length:=()
 exact⟨xs[k],zF (by simp[hk]),List.getElem_mem hk⟩
theorem at0{x:α}{xs:List α}:atI (x::xs) 0=some x:=zF (j:=0) rfl
theorem at1{x y:α}{xs:List α}:atI (x::y::xs) 1=some y:=zF (j:=1) rfl
inductive D where
 |non|bl (b:Bool)|int (i:Int)|str (x:Str)|tup (ds:List D)|oth
variable{ds lks hds cs rs:List D}{d:D}{Pd:Nat->D->Prop}
inductive Rep(H:Hp):V->D->Prop where
 |non:Rep H .non .non
 |bl (b:Bool):Rep H (.bl b) (.bl b)
 |int (i:Int):Rep H (.int i) (.int i)
 |str (x:Str) (h:x.length<=1000):Rep H (.str x) (.str x)
 |tup {p:Addr} {vs:List V} {ds:List D} (h:H p=some (.tup vs)) (l:vs.length=ds.length) (b:ds.length<=1000) (r:∀(i:Nat) (v:V) (d:D),vs[i]?=some v->ds[i]?=some d->Rep H v d):Rep H (.ref p) (.tup ds)
 |lst {p:Addr} {vs:List V} (h:H p=some (.lst vs)):Rep H (.ref p) .oth
 |dK {p:Addr} {kvs:List (Key×V)} (h:H p=some (.dK kvs)):Rep H (.ref p) .oth
structure Mono(H H':Hp):Prop where
 tup:∀p xs,H p=some (.tup xs)->H' p=some (.tup xs)
 lst:∀p xs,H p=some (.lst xs)->∃ys,H' p=some (.lst ys)
 dK:∀p xs,H p=some (.dK xs)->∃ys,H' p=some (.dK ys)
theorem Mono.trans(a:Mono H H1)(b:Mono H1 H2):Mono H H2:=⟨λp xs h=>b.tup p xs (a.tup p xs h),λp xs h=>let ⟨ys,e⟩:=a.lst p xs h;b.lst p ys e,λp xs h=>let ⟨ys,e⟩:=a.dK p xs h;b.dK p ys e⟩
theorem Mono.of(s:Same H H'):Mono H H':=⟨λp xs h=>s _ _ h,λp xs h=>⟨xs,s _ _ h⟩,λp xs h=>⟨xs,s _ _ h⟩⟩
theorem Mono.new{p:Addr}{o:HO}(h:H p=none):Mono H (upd H p o):= .of (Same.new h)
theorem Mono.lset{p:Addr}(h:H p=some (.lst xs)):Mono H (upd H p (.lst ys)):=by
 refine⟨λq zs e=>?_,λq zs e=>?_,λq zs e=>?_⟩
 ·by_cases hq:q=p
  ·subst hq;rw[h] at e;cases e
  ·rw[zc hq];exact e
 ·by_cases hq:q=p
  ·subst hq;exact⟨ys,zb⟩
  ·rw[zc hq];exact⟨zs,e⟩
 ·by_cases hq:q=p
  ·subst hq;rw[h] at e;cases e
  ·rw[zc hq];exact⟨zs,e⟩
theorem Mono.keep{n m:Int}(k:Keep a H H')(h:Hand H a n)(h':Hand H' a m):Mono H H':=by
 obtain⟨x,y,z,h,_⟩:=h
 obtain⟨x',y',z',h',_⟩:=h'
 refine⟨λq zs e=>?_,λq zs e=>?_,λq zs e=>?_⟩
 ·exact k q _ (λhq=>by subst hq;rw[h] at e;cases e) e
 ·by_cases hq:q=a
  ·subst hq;exact⟨_,h'⟩
  ·exact ⟨zs,k q _ hq e⟩
 ·exact ⟨zs,k q _ (λhq=>by subst hq;rw[h] at e;cases e) e⟩
theorem Rep.mono(h:Rep H v d)(m:Mono H H'):Rep H' v d:=by
 induction h with
 |non=>exact .non
 |bl b=>exact .bl b
 |int i=>exact .int i
 |str x h=>exact .str x h
 |tup h l b _ ih=>exact .tup (m.tup _ _ h) l b ih
 |lst h=>obtain ⟨ys,e⟩:=m.lst _ _ h;exact .lst e
 |dK h=>obtain ⟨ys,e⟩:=m.dK _ _ h;exact .dK e
theorem Rep.same(h:Rep H v d)(s:Same H H'):Rep H' v d:=h.mono (.of s)
def RepL(H:Hp)(vs:List V)(ds:List D):Prop:=vs.length=ds.length/\∀(i:Nat) (v:V) (d:D),vs[i]?=some v->ds[i]?=some d->Rep H v d
theorem RepL.nil:RepL H [] []:=⟨rfl,λi v d e=>by simp at e⟩
theorem RepL.cons{H:Hp}{v:V}{d:D}{vs:List V}{ds:List D}(h:Rep H v d)(r:RepL H vs ds):RepL H (v::vs) (d::ds):=by
 refine⟨by simp[r.1],λi w e h1 h2=>?_⟩
 cases i with
 |zero=>simp at h1 h2;subst h1;subst h2;exact h
 |succ i=>exact r.2 i w e (by simpa using h1) (by simpa using h2)
theorem RepL.head(r:RepL H (v::vs) (d::ds)):Rep H v d/\RepL H vs ds:=
 ⟨r.2 0 v d rfl rfl,by have:=r.1;simp at this;exact this,λi w e h1 h2=>r.2 (i+1) w e (by simpa using h1) (by simpa using h2)⟩
theorem RepL.mono(r:RepL H vs ds)(m:Mono H H'):RepL H' vs ds:=⟨r.1,λi v d h1 h2=>(r.2 i v d h1 h2).mono m⟩
theorem RepL.append{es:List D}(r:RepL H vs ds)(q:RepL H us es):RepL H (vs ++us) (ds ++es):=by
 refine⟨by rw[o0,o0,r.1,q.1],λi v d h1 h2=>?_⟩
 by_cases hi:i<vs.length
 ·rw[P2 hi] at h1
  rw[P2 (by rw[←r.1];exact hi)] at h2
  exact r.2 i v d h1 h2
 ·rw[J2 ()] at h1
  rw[J2 (by rw[←r.1];lia),←r.1] at h2
  exact q.2 _ v d h1 h2
theorem RepL.get(r:RepL H vs ds)(h:vs[i]?=some v):∃d,ds[i]?=some d/\Rep H v d:=by
 have hi:i<vs.length:=by
  rcases U1 i vs.length with q|q
  ·exact q
  ·rw[Q0 q] at h;cases h
 have hd:i<ds.length:=by rw[←r.1];exact hi
 exact⟨ds[i],by simp[hd],r.2 i v _ h (by simp[hd])⟩
theorem Rep.mkL{p:Addr}(h:H p=some (.tup vs))(b:ds.length<=1000)(r:RepL H vs ds):Rep H (.ref p) (.tup ds):= .tup h r.1 b r.2
theorem Rep.ofT(h:Rep H v (.tup ds)):∃p vs,v= .ref p/\H p=some (.tup vs)/\RepL H vs ds/\ds.length<=1000:=by
 cases h with
 |tup h l b r=>exact ⟨_,_,rfl,h,⟨l,r⟩,b⟩
theorem Rep.of2{e:D}(h:Rep H v (.tup [d,e])):∃p x y,v= .ref p/\H p=some (.tup [x,y])/\Rep H x d/\Rep H y e:=by
 obtain⟨p,vs,rfl,hp,r,_⟩:=h.ofT
 match vs,r with
 |[x,y],r=>exact ⟨p,x,y,rfl,hp,r.head.1,r.head.2.head.1⟩
 |[],r=>exact absurd r.1 `j2
 |[_],r=>exact absurd r.1 `j2
 |_::_::_::_,r=>exact absurd r.1 `j2
theorem Rep.mk1{p:Addr}{x:V}(h:H p=some (.tup [x]))(a:Rep H x d):Rep H (.ref p) (.tup [d]):= .mkL h `j2 (.cons a .nil)
theorem Rep.mk2{p:Addr}{x:V}{e:D}(h:H p=some (.tup [x,y]))(a:Rep H x d)(b:Rep H y e):Rep H (.ref p) (.tup [d,e]):= .mkL h `j2 (.cons a (.cons b .nil))
noncomputable def zrJ:D->Bool| .tup _=>true|_=>false
noncomputable def zre:D->Bool| .int _=>true| .bl _=>true|_=>false
noncomputable def zsu:D->Bool| .bl _=>true|_=>false
noncomputable def zq3:D->Bool| .str _=>true|_=>false
theorem Rep.isi(h:Rep H v d):∃t,TyOf K H v t/\W.kitOne K t (.type "tuple")=some (zrJ d)/\W.kitOne K t (.type "int")=some (zre d)/\W.kitOne K t (.type "bool")=some (zsu d)/\W.kitOne K t (.type "str")=some (zq3 d):=by
 cases h with
 |non=>exact ⟨_, .non,rfl,rfl,rfl,rfl⟩
 |bl b=>exact ⟨_, .bl b,rfl,rfl,rfl,rfl⟩
 |int i=>exact ⟨_, .int i,rfl,rfl,rfl,rfl⟩
 |str x _=>exact ⟨_, .str x,rfl,rfl,rfl,rfl⟩
 |tup h _ _ _=>exact ⟨_, .tup h,rfl,rfl,rfl,rfl⟩
 |lst h=>exact ⟨_, .lst h,rfl,rfl,rfl,rfl⟩
 |dK h=>exact ⟨_, .dK h,rfl,rfl,rfl,rfl⟩
noncomputable def isNumB:D->Bool| .int _=>true|_=>false
noncomputable def zfZ(d:D)(lo hi:Int):Bool:=match d with| .int i=>decide (lo<=i)&&decide (i<=hi)|_=>false
noncomputable def headStrB:D->Bool| .tup (.str _::_)=>true|_=>false
noncomputable def zdI:D->Bool| .str x=>zi x|_=>false
noncomputable def zbF:List Str:=["by","from","to","mark"]
noncomputable def zB:D->Bool
 | .tup [.str w,x]=>if w="long"then zfZ x 0 99 else(zbF.any λy=>decide (y=w))&&zdI x
 |_=>false
noncomputable def zA(d:D):Bool:=match d with
 | .tup [.str w,x]=>if w="not"then zB x else zB d
 |_=>false
noncomputable def zan:D->Bool| .tup ds=>decide (ds.length<=4)&&ds.all zA|_=>false
noncomputable def zfm:D->Bool| .tup [.str w,_]=>decide (w="to")|_=>false
noncomputable def zeK:D->Bool| .tup [.str w,x]=>if w="not"then zfm x else decide (w="to")|_=>false
noncomputable def zbm:D->Bool| .non=>true|d=>zfZ d (-999) 999
noncomputable def zek:D->Bool| .tup ds=>ds.any zeK|_=>false
noncomputable def zJ:D->Bool| .tup [c,x]=>zan c&&zbm x&&!zek c|_=>false
noncomputable def zbV:D->Bool
 | .tup [.str w]=>decide (w="keep")
 | .tup [.str w,x]=>(decide (w="put")||decide (w="strike"))&&zdI x
 |_=>false
noncomputable def zbd:D->Bool| .tup [c,x]=>zan c&&zbV x|_=>false
theorem zeB{w:Str}{x:D}:zB (.tup [.str w,x])=if w="long"then zfZ x 0 99 else(zbF.any λy=>decide (y=w))&&zdI x:=rfl
theorem zes{w:Str}{x:D}:zA (.tup [.str w,x])=if w="not"then zB x else zB (.tup [.str w,x]):=rfl
theorem zju:zan (.tup ds)=(decide (ds.length<=4)&&ds.all zA):=rfl
theorem zmv{c x:D}:zJ (.tup [c,x])=(zan c&&zbm x&&!zek c):=rfl
theorem zpm{c x:D}:zbd (.tup [c,x])=(zan c&&zbV x):=rfl
theorem zqN{w:Str}{x:D}:zbV (.tup [.str w,x])=((decide (w="put")||decide (w="strike"))&&zdI x):=rfl
theorem ziS:zdI (.str x)=zi x:=rfl
theorem zcx{y:Str}:decide (V.str x=V.str y)=decide (x=y):=by
 by_cases h:x=y
 ·subst h;rw[V0 rfl,V0 rfl]
 ·rw[b0 h,b0 λz=>h (V.str.inj z)]
theorem zbY(d:D)(h:zB d=true):∃x e,d= .tup [.str x,e]:=by
 unfold zB at h
 split at h
 ·exact ⟨_,_,rfl⟩
 ·cases h
theorem zhj(d:D)(h:zA d=true):∃x e,d= .tup [.str x,e]:=by
 unfold zA at h
 split at h
 ·exact ⟨_,_,rfl⟩
 ·cases h
theorem zdF{e:D}:zB (.tup [.str "not",e])=false:=by
 have h1:¬("not":Str)="long":=`Z2
 have h2:(zbF.any λy=>decide (y=("not":Str)))=false:=`Z2
 rw[zeB,N0 h1,h2];rfl
theorem znt{n:Nat}:zco xs none (some (n:Int))=xs.take n:=by
 unfold zco
 have e1:sIx xs.length 0 none=0:=rfl
 have e2:sIx xs.length xs.length (some (n:Int))=min n xs.length:=by
  unfold sIx
  have h:¬(n:Int)<0:=()
  simp only[N0 h,Int.toNat_natCast]
 rw[e1,e2,List.drop_zero,Nat.sub_zero,List.take_eq_take_iff]
 lia
theorem zkx{N:Nat}{m c:Int}{src:List (Option Nat)}{Q:VK}(hs:zeo src σ=none::σr)(hH:Hand H a m)(hN:N<=900)(hc:0<=c)
 (he:∀(i:Nat) (H1:Hp) (Q1:VK),i<N->Hand H1 a (m+c*i)->Keep a H H1->(∀v d H2,Rep H2 v d->Pd i d->Hand H2 a (m+c*i+c)->Keep a H1 H2->Q1 v H2)->te (some (.int (i:Int))::σr) H1 Q1)
 (q:∀l vs ds H',H l=none->H' l=some (.lst vs)->RepL H' vs ds->ds.length=N->(∀i d,ds[i]?=some d->Pd i d)->Hand H' a (m+c*N)->Keep a H H'->Q (.ref l) H'):zdU (zb7 0) zn9 te src σ Q (Itr 0 N) H:=by
 refine zbB zcO (λl i ys σ' H'=>(∃o,σ'=o::σr)/\(∃ds:List D,RepL H' ys ds/\ds.length=i/\∀j d,ds[j]?=some d->Pd j d)/\Hand H' a (m+c*i)/\Keep a H H') ?_ (λ_ _ _ _ _ _ _=>trivial) ?_ ?_
 ·exact λl hl=>⟨⟨_,hs⟩,⟨[],RepL.nil,rfl,λj d z=>by simp at z⟩,(hH.new hl).mono `j2,Keep.new hl⟩
 ·rintro l i y ys σ' H1 hl hi rfl ⟨⟨o,rfl⟩,⟨ds,hr,hl2,hp⟩,hH1,k1⟩ hl'
  have nl:=hH.ne hl
  rw[Int.zero_add]
  refine he i H1 _ hi hH1 k1 λv d H2 rv pd hH2 k2=>?_
  have hl2':H2 l=some (.lst ys):=k2 _ _ nl hl'
  have m2:Mono H1 H2:=Mono.keep k2 hH1 hH2
  have m3:Mono H2 (upd H2 l (.lst (ys ++ [v]))):=Mono.lset hl2'
  refine⟨hl2',?_,⟨_,rfl⟩,⟨ds ++ [d],((hr.mono m2).append (.cons rv .nil)).mono m3,?_,?_⟩,(hH2.updNe nl).mono ?_,(k1.trans k2).updNew hl⟩
  ·have:=hr.1
   exact zn ()
  ·rw[o0,hl2];rfl
  ·intro j e he
   by_cases hj:j<ds.length
   ·rw[P2 hj] at he
    exact hp j e he
   ·rw[J2 ()] at he
    have hj2:j=ds.length:=by
     rcases U1 ds.length j with z|z
     ·rw[Q0 (by simp;lia)] at he;cases he
     ·lia
    subst hj2
    simp at he
    subst he
    rw[hl2];exact pd
  ·rw[show((i+1:Nat):Int)=(i:Int)+1 by lia,Int.mul_add,Int.mul_one]
   lia
 ·rintro l ys σ' H1 hl ⟨⟨o,rfl⟩,⟨ds,hr,hl2,hp⟩,hH1,k1⟩ hl'
  exact q l ys ds H1 hl hl' hr hl2 hp hH1 k1
section
open Sem (wp)
open MeetsSeq MeetsSeq2 MeetsSeq3 Builtin
end
theorem znN:QE X (.Dict [] [] pos) zm9:=⟨zng⟩
def Dsp(te:TE)(σ:St)(H:Hp)(d:D):Prop:=∀(H1:Hp) (Q:VK),Same H H1->(∀v H2,Same H1 H2->Rep H2 v d->Q v H2)->te σ H1 Q
def zo6(ta:TA)(σ:St)(H:Hp)(ds:List D):Prop:=∀(H1:Hp) (Q:List V->Hp->Prop),Same H H1->(∀vs H2,Same H1 H2->RepL H2 vs ds->Q vs H2)->ta σ H1 Q
def zrZ(te:TE)(σ:St)(H:Hp)(ds:List D):Prop:=∀(H1:Hp) (Q:VK),Same H H1->(∀l vs H2,Same H1 H2->H2 l=some (.lst vs)->RepL H2 vs ds->Q (.ref l) H2)->te σ H1 Q
section
variable{es:List D}
theorem zqf{i:Int}:Dsp (tC (.int i)) σ H (.int i):=λH1 Q s q=>q _ H1 (Same.refl _) (.int i)
theorem zoZ:Dsp (tC .non) σ H .non:=λH1 Q s q=>q _ H1 (Same.refl _) .non
theorem zpq{i:Int}:Dsp (tUn (rU λi=> .int (-i)) (tC (.int i))) σ H (.int (-i)):=λH1 Q s q=>⟨i,rfl,q _ H1 (Same.refl _) (.int (-i))⟩
theorem zoJ(h:σ[i]?=some (some v))(r:Rep H v d):Dsp (zqc i) σ H d:=λH1 Q s q=>⟨v,h,q v H1 (Same.refl _) (r.same s)⟩
theorem zoc:zo6 zmW σ H []:=λH1 Q s q=>q [] H1 (Same.refl _) RepL.nil
theorem zmd(h:Dsp te σ H d)(r:zo6 ta σ H ds):zo6 (zlE te ta) σ H (d::ds):=λH1 Q s q=>
 h H1 _ s λv H2 s2 rv=>r H2 _ (s.trans s2) λvs H3 s3 rs=>q (v::vs) H3 (s2.trans s3) (.cons (rv.same s3) rs)
theorem zno(h:zo6 ta σ H ds)(hl:ds.length<=1000):zrZ (zrO ta) σ H ds:=λH1 Q s q=>
 h H1 _ s λvs H2 s2 rs=>⟨W2 (zn (by rw[rs.1];exact hl)),λp hp=>q p vs _ (s2.trans (Same.new hp)) zb (rs.mono (.new hp))⟩
end
section
variable{tr:TA}{k:Nat}
theorem zrD{Q:List V->Hp->Prop}(h:zrZ te σ H ds)(q:∀l vs H2,Same H H2->H2 l=some (.lst vs)->RepL H2 vs ds->tr σ H2 λxs H3=>Q (.ref l::xs) H3):zlE te tr σ H Q:=h H _ (Same.refl H) q
end
theorem zkk{p:α->Prop}:∀d∈([]:List α),p d:=λ_ z=>nomatch z
theorem zkg{n:Int}(h:Hand H a n)(e:H l=some (.lst vs))(r:RepL H vs ds)(h3:ds.length≠3):l≠a:=λz=>by
 obtain⟨x,m,t,hh,_⟩:=h
 rw[z,hh] at e
 cases e
 exact h3 r.1.symm
section
open PySem.W
section
variable{N:Nat}{lt:Nat->Nat->Bool}
def OkT(N:Nat)(lt:Nat->Nat->Bool){α:Type}:KasT α->(α->Prop)->Prop
 | .ret a,P=>P a
 | .ask i j k,P=>i<N/\j<N/\OkT N lt (k (lt i j)) P
theorem OkT.mono{P Q:α->Prop}(h:∀a,P a->Q a):∀{t:KasT α},OkT N lt t P->OkT N lt t Q
 | .ret a,q=>h a q
 | .ask i j k,⟨h1,h2,q⟩=>⟨h1,h2,OkT.mono h q⟩
theorem OkT.bind{f:α->KasT β}{P:β->Prop}:∀{t:KasT α},OkT N lt t (λa=>OkT N lt (f a) P)->OkT N lt (t.bind f) P
 | .ret a,q=>q
 | .ask i j k,⟨h1,h2,q⟩=>⟨h1,h2,OkT.bind q⟩
theorem OkT.wp{cmp:Nat->Nat->(Bool->Shared->Prop)->Shared->Prop}{I:Shared->Prop}(hc:∀i j (C:Bool->Shared->Prop) s,i<N->j<N->I s->(∀s',I s'->C (lt i j) s')->cmp i j C s){P:α->Prop}{Q:α->Shared->Prop}(hq:∀a s,P a->I s->Q a s):
 ∀{t:KasT α} {s:Shared},I s->OkT N lt t P->t.kasWp cmp Q s
 | .ret a,s,hs,q=>hq a s q hs
 | .ask i j k,s,hs,⟨h1,h2,q⟩=>hc i j _ s h1 h2 hs λs' hs'=>OkT.wp hc hq hs' q
noncomputable abbrev gd(p:Array Nat)(i:Nat):Nat:=p.getD i 0
structure Strict(N:Nat)(lt:Nat->Nat->Bool):Prop where
 tot:∀i j,i<N->j<N->i≠j->lt i j=false->lt j i=true
 tr:∀i j k,i<N->j<N->k<N->lt i j=true->lt j k=true->lt i k=true
 asy:∀i j,i<N->j<N->lt i j=true->lt j i=false
def PermN(N:Nat)(p:Array Nat):Prop:=p.toList.Perm (List.range N)
theorem PermN.size{p:Array Nat}(h:PermN N p):p.size=N:=by
 have:=h.length_eq
 simpa using this
theorem gd_get{p:Array Nat}(h:i<p.size):gd p i=p[i]:=by simp[gd,Array.getD,h]
theorem zhV{p q:Array Nat}(h:p[i]?=q[j]?):gd p i=gd q j:=by
 simp only[gd,Array.getD_eq_getD_getElem?,h]
theorem PermN.bd{p:Array Nat}(h:PermN N p)(hi:i<N):gd p i<N:=by
 have hs:=h.size
 rw[gd_get ()]
 have:p[i]∈p.toList:=`j2
 exact List.mem_range.mp (h.mem_iff.mp this)
theorem PermN.inj{p:Array Nat}(h:PermN N p)(hi:i<N)(hj:j<N)(hij:i≠j):gd p i≠gd p j:=by
 have hs:=h.size
 have nd:p.toList.Nodup:=h.nodup_iff.mpr List.nodup_range
 rw[gd_get (),gd_get ()]
 intro z
 exact hij ((List.getElem_inj (i:=i) (j:=j) (h₀:=by simp;lia) (h₁:=by simp;lia) nd).mp (by simpa using z))
def Sor(lt:Nat->Nat->Bool)(p:Array Nat)(m:Nat):Prop:=∀i j,i<j->j<m->lt (gd p i) (gd p j)=true
def Des(lt:Nat->Nat->Bool)(p:Array Nat)(m:Nat):Prop:=∀i j,i<j->j<m->lt (gd p j) (gd p i)=true
theorem Sor.snoc{p:Array Nat}{n:Nat}(S:Strict N lt)(hp:PermN N p)(h:Sor lt p n)(h1:1<=n)(hn:n<N)(e:lt (gd p (n -1)) (gd p n)=true):Sor lt p (n+1):=by
 intro i j hij hj
 by_cases hjn:j<n
 ·exact h i j hij hjn
 ·have ej:j=n:=()
  subst ej
  by_cases hi:i=j -1
  ·subst hi;exact e
  ·exact S.tr _ _ _ (hp.bd ()) (hp.bd ()) (hp.bd hn) (h i (j -1) () ()) e
theorem Des.snoc{p:Array Nat}{n:Nat}(S:Strict N lt)(hp:PermN N p)(h:Des lt p n)(h1:1<=n)(hn:n<N)(e:lt (gd p n) (gd p (n -1))=true):Des lt p (n+1):=by
 intro i j hij hj
 by_cases hjn:j<n
 ·exact h i j hij hjn
 ·have ej:j=n:=()
  subst ej
  by_cases hi:i=j -1
  ·subst hi;exact e
  ·exact S.tr _ _ _ (hp.bd hn) (hp.bd ()) (hp.bd ()) e (h i (j -1) () ())
theorem zjX{p:Array Nat}(S:Strict N lt)(hp:PermN N p):∀f n,1<=n->n+f<=N->Sor lt p n->OkT N lt (kas_asc p f n) (λm=>n<=m/\m<=n+f/\Sor lt p m/\(m<n+f->lt (gd p m) (gd p (m -1))=true))
 |0,n,_,_,hs=>⟨R0 _,R0 _,hs,λh=>()⟩
 |f+1,n,h1,hn,hs=>by
  refine⟨hp.bd (),hp.bd (),?_⟩
  cases hc:lt (gd p n) (gd p (n -1))with
  |true=>
   show OkT N lt (if true=true then _ else _) _
   rw[T0 rfl]
   exact⟨R0 _,(),hs,λ_=>hc⟩
  |false=>
   show OkT N lt (if false=true then _ else _) _
   rw[N0 ⋯]
   refine OkT.mono (λm hm=>⟨(),(),hm.2.2.1,λh=>hm.2.2.2 ()⟩) (zjX S hp f (n+1) () () (hs.snoc S hp h1 () (S.tot _ _ (hp.bd ()) (hp.bd ()) (hp.inj () () ()) hc)))
theorem zkZ{p:Array Nat}(S:Strict N lt)(hp:PermN N p):∀f n,1<=n->n+f<=N->Des lt p n->OkT N lt (kas_desc f p n 0) (λr=>r.1=p/\n<=r.2.1/\r.2.1<=n+f/\Des lt p r.2.1/\r.2.2=0)
 |0,n,_,_,hs=>⟨rfl,R0 _,R0 _,hs,rfl⟩
 |f+1,n,h1,hn,hs=>by
  refine⟨hp.bd (),hp.bd (),?_⟩
  cases hc:lt (gd p n) (gd p (n -1))with
  |true=>
   show OkT N lt (if true=true then(if 0>0 then _ else _)else _) _
   rw[T0 rfl,N0 ⋯]
   exact OkT.mono (λm hm=>⟨hm.1,(),(),hm.2.2.2⟩) (zkZ S hp f (n+1) () () (hs.snoc S hp h1 () hc))
  |false=>
   show OkT N lt (if false=true then _ else _) _
   rw[N0 ⋯]
   refine⟨hp.bd (),hp.bd (),?_⟩
   have hd:lt (gd p (n -1)) (gd p n)=true:=S.tot _ _ (hp.bd ()) (hp.bd ()) (hp.inj () () ()) hc
   show OkT N lt (if lt (gd p (n -1)) (gd p n)=true then _ else _) _
   rw[T0 hd]
   exact⟨rfl,R0 _,by show n<=n+(f+1);lia,hs,rfl⟩
theorem zjd{p:Array Nat}(hp:PermN N p)(n:Nat):PermN N (kas_rev p 0 n):=(Array.perm_iff_toList_perm.mp (mirror_perm p 0 n _)).trans hp
theorem zpW{p:Array Nat}{n:Nat}(hp:PermN N p)(hn:n<=N)(h:Des lt p n):Sor lt (kas_rev p 0 n) n:=by
 have hs:=hp.size
 have e:∀k,k<n->gd (kas_rev p 0 n) k=gd p (n -1 -k):=λk hk=>by
  refine zhV ?_
  show(mirror p 0 n ((n -0)/2))[k]?=_
  rw[getElem?_mirror_all (),T0 ⟨T1 _,hk⟩,Nat.zero_add]
 intro i j hij hj
 rw[e i (),e j hj]
 exact h (n -1 -j) (n -1 -i) () ()
def zmK(N:Nat)(lt:Nat->Nat->Bool)(r:Nat×Array Nat):Prop:=PermN N r.2/\Sor lt r.2 r.1/\1<=r.1/\r.1<=N
theorem znA{p:Array Nat}{n:Nat}(S:Strict N lt)(hp:PermN N p)(h1:1<=n)(hn:n<=N)(h:Des lt p n):OkT N lt (kas_tail3 n N p) (zmK N lt):=by
 refine OkT.bind (OkT.mono (λm hm=>?_) (zjX S (zjd hp n) (N -n) n h1 () (zpW hp hn h)))
 exact⟨zjd hp n,hm.2.2.1,by have:=hm.1;lia,by have:=hm.2.1;lia⟩
theorem zm3{p:Array Nat}(S:Strict N lt)(hp:PermN N p)(h1:1<=N):OkT N lt (kas_count N p) (zmK N lt):=by
 refine OkT.bind (OkT.mono (λn hn=>?_) (zjX S hp (N -1) 1 (R0 _) () (λi j hij hj=>())))
 obtain⟨n1,n2,hs,hl⟩:=hn
 by_cases hN:(n==N)=true
 ·rw[T0 hN]
  exact⟨hp,hs,n1,()⟩
 ·have hne:n≠N:=by simpa using hN
  rw[N0 hN]
  by_cases h2:n>1
  ·rw[T0 h2]
   refine⟨hp.bd (),hp.bd (),?_⟩
   show OkT N lt (if lt (gd p 0) (gd p (n -1))=true then _ else _) _
   rw[T0 (hs 0 (n -1) () ())]
   exact⟨hp,hs,n1,()⟩
  ·rw[N0 h2]
   have e1:n=1:=()
   subst e1
   have hd:Des lt p 2:=λi j hij hj=>by
    have ei:i=0:=()
    have ej:j=1:=()
    subst ei ej
    exact hl ()
   refine OkT.bind (OkT.mono (λr hr=>?_) (zkZ S hp (N -(1+1)) (1+1) () () hd))
   obtain⟨e1,r1,r2,r3,r4⟩:=hr
   rw[N0 (),e1]
   exact znA S hp () () r3
theorem zgn{p:Array Nat}{k:Nat}(S:Strict N lt)(hp:PermN N p)(hs:Sor lt p k)(hk:k<N):∀f l r,l<=r->r<=k->r -l<=f->(∀i,i<l->lt (gd p i) (gd p k)=true)->(∀i,r<=i->i<k->lt (gd p k) (gd p i)=true)->
 OkT N lt (kas_place p k f l r) (λm=>m<=k/\(∀i,i<m->lt (gd p i) (gd p k)=true)/\∀i,m<=i->i<k->lt (gd p k) (gd p i)=true)
 |0,l,r,h1,h2,h3,ha,hb=>⟨(),ha,λi hi=>hb i ()⟩
 |f+1,l,r,h1,h2,h3,ha,hb=>by
  by_cases hlr:l≥r
  ·show OkT N lt (if l≥r then _ else _) _
   rw[T0 hlr]
   exact⟨(),ha,λi hi=>hb i ()⟩
  ·show OkT N lt (if l≥r then _ else _) _
   rw[N0 hlr]
   refine⟨hp.bd hk,hp.bd (),?_⟩
   cases hc:lt (gd p k) (gd p ((l+r)/2))with
   |true=>
    show OkT N lt (if true=true then _ else _) _
    rw[T0 rfl]
    refine zgn S hp hs hk f l ((l+r)/2) () () () ha λi hi hik=>?_
    by_cases e:i=(l+r)/2
    ·subst e;exact hc
    ·exact S.tr _ _ _ (hp.bd hk) (hp.bd ()) (hp.bd ()) hc (hs ((l+r)/2) i () hik)
   |false=>
    show OkT N lt (if false=true then _ else _) _
    rw[N0 ⋯]
    have hm:lt (gd p ((l+r)/2)) (gd p k)=true:=S.tot _ _ (hp.bd hk) (hp.bd ()) (hp.inj hk () ()) hc
    refine zgn S hp hs hk f ((l+r)/2+1) r () h2 () (λi hi=>?_) hb
    by_cases e:i=(l+r)/2
    ·subst e;exact hm
    ·exact S.tr _ _ _ (hp.bd ()) (hp.bd ()) (hp.bd hk) (hs i ((l+r)/2) () ()) hm
theorem zjT{p:Array Nat}{k l:Nat}(hp:PermN N p)(hk:k<N)(hl:l<=k)(hs:Sor lt p k)(ha:∀i,i<l->lt (gd p i) (gd p k)=true)(hb:∀i,l<=i->i<k->lt (gd p k) (gd p i)=true):Sor lt (bubble p k (k -l)) (k+1):=by
 have hz:=hp.size
 have g:∀i,(bubble p k (k -l))[i]?=if i=l then p[k]? else if l<i/\i<=k then p[i -1]? else p[i]?:=λi=>by
  rw[getElem?_bubble () (k -l) (),show k -(k -l)=l by lia]
 have g1:gd (bubble p k (k -l)) l=gd p k:=zhV (by rw[g,T0 rfl])
 have g2:∀i,l<i->i<=k->gd (bubble p k (k -l)) i=gd p (i -1):=λi h1 h2=>zhV (by rw[g,N0 (),T0 ⟨h1,h2⟩])
 have g3:∀i,i<l->gd (bubble p k (k -l)) i=gd p i:=λi h1=>zhV (by rw[g,N0 (),N0 ()])
 intro i j hij hj
 rcases Nat.lt_trichotomy i l with hi|hi|hi
 ·rw[g3 i hi]
  rcases Nat.lt_trichotomy j l with h|h|h
  ·rw[g3 j h];exact hs i j hij ()
  ·subst h;rw[g1];exact ha i hi
  ·rw[g2 j h ()];exact hs i (j -1) () ()
 ·subst hi
  rw[g1,g2 j hij ()]
  exact hb (j -1) () ()
 ·rw[g2 i hi (),g2 j () ()]
  exact hs (i -1) (j -1) () ()
theorem zof(S:Strict N lt):∀f (p:Array Nat) k,PermN N p->Sor lt p k->k+f=N->OkT N lt (kas_bin f p k) (λp'=>PermN N p'/\Sor lt p' N)
 |0,p,k,hp,hs,hk=>⟨hp,by have:k=N:=()
                         rw[←this];exact hs⟩
 |f+1,p,k,hp,hs,hk=>by
  refine OkT.bind (OkT.mono (λl hl=>?_) (zgn S hp hs () k 0 k (T1 _) (R0 _) () (λi hi=>()) (λi hi hik=>())))
  exact zof S f _ (k+1) ((Array.perm_iff_toList_perm.mp (bubble_perm p k _)).trans hp) (zjT hp () hl.1 hs hl.2.1 hl.2.2) ()
theorem sort_ok(S:Strict N lt)(h1:1<=N):OkT N lt (kas_sort N) (λp=>PermN N p/\Sor lt p N):=by
 have h0:PermN N (List.toArray (List.range N)):=by show(List.range N).Perm _;exact List.Perm.refl _
 refine OkT.bind (OkT.mono (λr hr=>?_) (zm3 S h0 h1))
 obtain⟨c1,c2,c3,c4⟩:=hr
 by_cases h:r.1<N
 ·rw[T0 h]
  have e:max r.1 1=r.1:=()
  rw[e]
  exact zof S _ _ _ c1 c2 ()
 ·rw[N0 h]
  have e:r.1=N:=()
  rw[e] at c2
  exact⟨c1,c2⟩
end
def RawD(h:Heap)(d:Addr)(ks:List Value)(ep:Nat):Prop:=∃o es,h.get? d=some o/\o.ExactDict/\o.data= .dict es ep/\es.toList.map (·.key)=ks
theorem RawD.at{h:Heap}{d:Addr}(x:RawD h d ks ep)(e:∀o,h.get? d=some o->h'.get? d=some o):RawD h' d ks ep:=let⟨o,es,ho,r⟩:=x;⟨o,es,e _ ho,r⟩
theorem RawD.ty{d:Addr}(x:RawD s.heap d ks ep):s.TypeIs (.ref d) "dict":=let⟨o,_,ho,hc,_⟩:=x;⟨o,ho,hc.1⟩
theorem RawD.lt{h:Heap}{d:Addr}(x:RawD h d ks ep):d<h.objs.size:=let⟨_,_,ho,_⟩:=x;S0 ho
section
variable{d:Addr}
theorem ziT{R:Value->Shared->Prop}(nsys:(d==sysModules)=false)(x:RawD s.heap d ks ep)(q:R (.ref s.heap.objs.size) {s with heap:=s.heap.push {cls:= .type "dict_keyiterator",data:= .fields #[.ref d, .int 0 0, .int ks.length 0, .int ep 0]}}):
 wpAny `Y3 A (pyIter (.ref d)) R E s:=by
 have ty:=x.ty
 obtain⟨o,es,ho,_,hdat,hks⟩:=x
 refine wpAny_pyIter_slot ty F.slot_dict_iter (wpAny_call_entry F.slot_dict_iter ty F.entry_dict_iter ?_ (F.args_dict_iter_1 _))
 unfold Builtin.«dict.__iter__»
 refine C0 (by unfold Builtin.Dict.dictSlotNone;refine C0 (wpAny_notOrdered_dict ty ?_);show wpAny _ _ (pure (Value.ref d)) _ _ s;exact K0 (by
  show wpAny _ _ (Builtin.Dict.showsAll d>>=_) _ _ s
  unfold Builtin.Dict.showsAll
  rw[N0 (λz=>by rw[nsys] at z;cases z)]
  refine C0 (K0 (C0 (wpAny_dictEntries ho hdat (C0 (wpAny_dictEpoch ho hdat ?_)))))
  have sz:es.size=ks.length:=by rw[←hks];simp
  refine C0 (Y1 (K0 ⟨_,rfl,"dict_keyiterator",_,⟨_,O0 _ rfl,rfl⟩,F.slot_dict_keyiterator_next.lookup,?_⟩))
  simpa[rawInt,sz] using q))
theorem ziF{R:Option Value->Shared->Prop}(y:s.heap.IsKeyIter it d i ks.length ep)(x:RawD s.heap d ks ep)(hx:ks[i]?=some key)
 (q:∀h',h'.IsKeyIter it d (i+1) ks.length ep->Heap.SameBut it s.heap h'->R (some key) {s with heap:=h'}):wpAny `Y3 A (pyNext (.ref it)) R E s:=by
 obtain⟨o,ho,hc,hd⟩:=id y
 obtain⟨od,es,hod,_,hdd,hks⟩:=x
 have sz:es.size=ks.length:=by rw[←hks];simp
 have li:i<ks.length:=by
  rcases U1 i ks.length with h|h
  ·exact h
  ·rw[Q0 h] at hx;cases hx
 have li':i<es.size:=()
 have ek:es[i].key=key:=by
  have e1:ks[i]?=some es[i].key:=by rw[←hks];simp[li']
  rw[e1] at hx;exact O1 hx
 unfold pyNext
 refine C0 (wpAny_attempt (wpAny_callSpecial?_slot (name:=Str.ofString "__next__") y.typeIs F.slot_dict_keyiterator_next (wpAny_call_entry F.slot_dict_keyiterator_next y.typeIs F.entry_dict_keyiterator_next ?_ (F.args_dict_keyiterator_next_1 _))))
 refine C0 (K0 (C0 (C0 ?_)))
 first|refine C0 (wpAny_typeNameOfWhole_keyiter y.typeIs (K0 ?_))|refine C0 (wpAny_typeNameOf_keyiter y.typeIs (K0 ?_))
 refine C0 (wpAny_fieldsOf ho hd ?_)
 simp only[(by decide:Builtin.Dict_items.ownsTuple "dict_keyiterator"=false),U2,if_false]
 show wpAny _ _ (if(Value.ref d==Value.none)=true then _ else _) _ _ s
 rw[N0 `Z3]
 refine C0 (K0 (C0 (wpAny_dictEntries hod hdd ?_)))
 rw[N0 (λz=>by rw[sz] at z;simp at z)]
 refine C0 (K0 (C0 (wpAny_dictEpoch hod hdd ?_)))
 rw[N0 (λz=>by simp at z)]
 refine K0 ?_
 simp only[(by lia:¬((i:Int)<0)),if_false,Int.toNat_natCast,Array.getElem?_eq_getElem li']
 refine C0 ?_
 first|refine C0 (wpAny_typeNameOfWhole_keyiter y.typeIs (K0 ?_))|refine C0 (wpAny_typeNameOf_keyiter y.typeIs (K0 ?_))
 refine C0 (wpAny_isOneOf_keyiter y.typeIs ?_)
 show wpAny _ _ (setField (.ref it) 1 (rawInt ((i:Int)+1))>>=_) _ _ s
 refine C0 (wpAny_setField ho hd `j2 ?_)
 have y':(s.heap.update it (Obj.mapFields (·.setIfInBounds 1 (rawInt ((i:Int)+1))))).IsKeyIter it d (i+1) ks.length ep:=⟨_,Heap.get?_update_self _ ho (Obj.isFreed_of_fields (Obj.data_mapFields hd _)),(Obj.cls_mapFields ..).trans hc,by rw[Obj.data_mapFields hd];simp[rawInt]⟩
 refine C0 (wpAny_holding (C0 (wpAny_isOneOf_keyiter (s:={s with heap:=s.heap.update it (Obj.mapFields (·.setIfInBounds 1 (rawInt ((i:Int)+1))))}) y'.typeIs ?_)))
 show wpAny _ _ (pure es[i].key) _ _ _
 rw[ek]
 exact K0 (K0 ⟨_,rfl,K0 (q _ y' (Heap.SameBut.update ..))⟩)
theorem zk6{R:Option Value->Shared->Prop}(hh:A.handled=none)(y:s.heap.IsKeyIter it d ks.length ks.length ep)(x:RawD s.heap d ks ep)(q:∀h',Heap.ExtBut it s.heap h'->R none {s with heap:=h'}):wpAny `Y3 A (pyNext (.ref it)) R E s:=by
 obtain⟨o,ho,hc,hd⟩:=id y
 obtain⟨od,es,hod,_,hdd,hks⟩:=x
 have sz:es.size=ks.length:=by rw[←hks];simp
 unfold pyNext
 refine C0 (wpAny_attempt (wpAny_callSpecial?_slot (name:=Str.ofString "__next__") y.typeIs F.slot_dict_keyiterator_next (wpAny_call_entry F.slot_dict_keyiterator_next y.typeIs F.entry_dict_keyiterator_next ?_ (F.args_dict_keyiterator_next_1 _))))
 refine C0 (K0 (C0 (C0 ?_)))
 first|refine C0 (wpAny_typeNameOfWhole_keyiter y.typeIs (K0 ?_))|refine C0 (wpAny_typeNameOf_keyiter y.typeIs (K0 ?_))
 refine C0 (wpAny_fieldsOf ho hd ?_)
 simp only[(by decide:Builtin.Dict_items.ownsTuple "dict_keyiterator"=false),U2,if_false]
 show wpAny _ _ (if(Value.ref d==Value.none)=true then _ else _) _ _ s
 rw[N0 `Z3]
 refine C0 (K0 (C0 (wpAny_dictEntries hod hdd ?_)))
 rw[N0 (λz=>by rw[sz] at z;simp at z)]
 refine C0 (K0 (C0 (wpAny_dictEpoch hod hdd ?_)))
 rw[N0 (λz=>by simp at z)]
 refine K0 ?_
 simp only[(by lia:¬((ks.length:Int)<0)),if_false,Int.toNat_natCast,Array.getElem?_eq_none (show es.size<=ks.length by lia)]
 refine C0 ?_
 first|refine C0 (wpAny_typeNameOfWhole_keyiter y.typeIs (K0 ?_))|refine C0 (wpAny_typeNameOf_keyiter y.typeIs (K0 ?_))
 show wpAny _ _ (setField (.ref it) 0 .none>>=_) _ _ s
 refine C0 (wpAny_setField ho hd `j2 ?_)
 show wpAny _ _ (newExc (.type "StopIteration") []>>=_) _ _ _
 refine C0 (by
  simp only[newExc,newTuple]
  refine C0 (Y1 (C0 (m:=firstArgMember _ _) (wpAny_of_eq (a:=Value.none) (by first|rfl|(simp only[firstArgMember];rfl)) (Y1 ?_ (by size_fits)))) (by size_fits))
  simp only[raiseNew]
  refine C0 (wpAny_handled ?_)
  rw[show A.in1.handled=none from hh]
  refine C0 (K0 (wpAny_throw ?_));refine C0 (wpAny_isInstance (T:="StopIteration") (b:=true) ⟨_,O0 _ rfl,rfl⟩ isSubtype_stop ?_)
  exact K0 (q _ (((Heap.SameBut.update ..).extBut.push _).push _)))
theorem zlW(hh:A.handled=none)(hne:d≠it):Walks prog w A it [it,d] [it] ks.length (λi v=>ks[i]?=some v) (λi h=>h.IsKeyIter it d i ks.length ep/\RawD h d ks ep) where
 sub:=λb hb=>by simp at hb;simp[hb]
 frame:=λ_ _ _ st hk=>⟨st.1.at λo e=>hk it `j2 o e,st.2.at λo e=>hk d `j2 o e⟩
 item:=λi s Q E hi st hQ=>ziF st.1 st.2 (show ks[i]?=some ks[i] by simp[hi]) λh' y' hs=>hQ _ h' s.toks (by simp[hi]) ⟨y',st.2.at λo e=>hs.extBut d o hne e⟩ λb o hb e=>hs.extBut b o (λh=>hb (by simp[h])) e
 done:=λs Q E st hQ=>zk6 hh st.1 st.2 λh' he=>hQ h' s.toks λb o hb e=>he b o (λh=>hb (by simp[h])) e
 self:=λ_ _ _ _ st hQ=>wpAny_pyIter_keyiter st.1 hQ
theorem zoQ(nsys:(d==sysModules)=false):KdlSrc prog w "dict" d d ks.length (λi v=>ks[i]?=some v) (λh=>RawD h d ks ep) where
 type:=λ_ hm=>hm.ty
 there:=λ_ hm=>⟨hm.lt,hm.lt⟩
 keep:=λ_ _ hm hk=>hm.at λo e=>hk d (.inl rfl) o e
 notList:=⋯
 notTuple:=⋯
 hint:=λ_ _ _ _ hm hq=>kdl_hint_dict hm.ty hq
 iter:=λ_ _ hh hm=>⟨_,_,(λ_ _ hq=>ziT nsys hm hq),zlW hh (C1 hm.lt),⟨⟨_,O0 _ rfl,rfl,rfl⟩,hm.at λo e=>F0 _ e⟩⟩
end
def Kp(a:Addr)(s s1:Shared):Prop:=s1={s with heap:=s1.heap}/\∀b o,b≠a->s.heap.get? b=some o->s1.heap.get? b=some o
theorem zmr{vs:List Value}{n:Nat}{R:PySem.Fin->Shared->Prop}{κ:SortKind}(ho:s.heap.get? a=some (seqObj "list" vs.toArray n))(h64:vs.length<64)
 (hk:2<=vs.length->∀s1:Shared,Kp a s s1->(∀C:SortKind->Shared->Prop,C κ s1->wpAny `Y3 A (keyKind' vs.toArray) C E s1)/\(kas_sort vs.length).kasWp (kas_ask prog w A κ vs) (λp s'=>s'=s1/\G p) s1)
 (q:∀(out:List Value) (h':Heap) (c:Nat),(vs.length<2/\out=vs\/∃p:Array Nat,p.size=vs.length/\G p/\out=p.toList.map λi=>vs.getD i Value.none)->(∀b o,b≠a->s.heap.get? b=some o->h'.get? b=some o)->
   h'.get? a=some (seqObj "list" out.toArray c)->R (.done (.ret .none)) {s with heap:=h'}):wpAny `Y3 A (Builtin.«list.sort» ⟨[.ref a],[]⟩) R E s:=by
 have la:a<s.heap.objs.size:=S0 ho
 have lz:vs.toArray.size=vs.length:=Y0 ..
 have u1:=Heap.SameBut.update s.heap a (Obj.mapSeq λ_=>(#[]:Array Value))
 obtain⟨e1,g1⟩:∃e1,(s.heap.update a (Obj.mapSeq λ_=>(#[]:Array Value))).get? a=some (seqObj "list" #[] e1):=⟨_,get?_update_seq ho λ_=> #[]⟩
 rw[list_sort_plain]
 refine C0 (listItems_at ho rfl (C0 (listUpdate_at ho rfl (C0 (seqEpoch_at g1 rfl (C0 (wpAny_newTuple (C0 (wpAny_newList (wpAny_holding ?_) (T1 _))) (by show vs.length<=_;rw[sizeLine_eq];lia))))) (by rw[lz,sizeLine_eq];lia) (T1 _))))
 generalize hs1:({s with heap:=((s.heap.update a (Obj.mapSeq λ_=>(#[]:Array Value))).push (seqObj "tuple" vs.toArray 0)).push (seqObj "list" #[] 0)}:Shared)=s1
 have kp:∀b o,(s.heap.update a (Obj.mapSeq λ_=>(#[]:Array Value))).get? b=some o->s1.heap.get? b=some o:=λb o e=>by rw[←hs1];exact F0 _ (F0 _ e)
 have k1:Kp a s s1:=⟨by rw[←hs1],λb o nb e=>kp b o ((u1.2 b nb).trans e)⟩
 have g2:s1.heap.get? a=some (seqObj "list" #[] e1):=kp a _ g1
 dsimp only
 have fin:∀(st:SortSt) (out:List Value),(arrOf st).map (·.2)=out.toArray->failedOf st=none->out.length<64->(vs.length<2/\out=vs\/∃p:Array Nat,p.size=vs.length/\G p/\out=p.toList.map λi=>vs.getD i Value.none)->
  wpAny `Y3 A (do
   let touched:=(←seqEpoch a) !=e1
   Builtin.List.listUpdate (.ref a) λ_=>(arrOf st).map (·.2)
   if let some e:=failedOf st then rule "list.sort.comparison-raised";throw e
   if touched then rule "list.sort.modified";raiseError "ValueError" "list modified during sort"
   ret .none) R E s1:=by
  intro st out ho hf hl hc
  rw[ho]
  have u2:=Heap.SameBut.update s1.heap a (Obj.mapSeq λ_=>out.toArray)
  obtain⟨c2,g3⟩:∃c2,(s1.heap.update a (Obj.mapSeq λ_=>out.toArray)).get? a=some (seqObj "list" out.toArray c2):=⟨_,get?_update_seq g2 λ_=>out.toArray⟩
  refine C0 (seqEpoch_at g2 rfl (C0 (listUpdate_at g2 rfl ?_ (T1 _) (by show out.toArray.size<=_;rw[Y0,sizeLine_eq];lia))))
  rw[hf]
  simp only[bne_self_eq_false,U2,if_false]
  have:=q out _ c2 hc (λb o nb e=>(u2.2 b nb).trans (k1.2 b o nb e)) g3
  rw[k1.1]
  exact K0 this
 by_cases h2:vs.toArray.size<2
 ·rw[T0 h2,T0 h2]
  refine C0 (K0 ?_)
  rw[StateT.run_pure]
  refine C0 (K0 ?_)
  refine fin _ vs ?_ rfl h64 (.inl ⟨(),rfl⟩)
  apply Array.toList_inj.mp
  show((vs.toArray.zip vs.toArray).map (·.2)).toList=_
  rw[Array.toList_map,Array.toList_zip]
  exact List.map_snd_zip (R0 _)
 ·rw[N0 h2,N0 h2]
  obtain⟨hkk,hw⟩:=hk () s1 k1
  refine C0 (hkk _ ?_)
  refine C0 (X2 (kat_run (E:=E) (Q:=λst' s'=>s'=s1/\∃p:Array Nat,p.size=vs.length/\arrOf st'=p.map (kas_item (vs.toArray.zip vs.toArray))/\failedOf st'=none/\G p) rfl () h64 (λp st' s' x1 x2 x3 x4=>⟨x4.1,p,x1,x2,x3,x4.2⟩) hw) ?_ λ_ _ e=>e)
  rintro⟨⟨⟩,st'⟩ s' ⟨rfl,p,hp,har,hf,hG⟩
  refine fin st' (p.toList.map λi=>vs.getD i Value.none) (kat_snds rfl har) hf (by rw[D0,Array.length_toList,hp];exact h64) (.inr ⟨p,hp,hG,rfl⟩)
theorem zjS{r d:Addr}{T:String}{n:Nat}{Pn:Nat->Value->Prop}{R:List Value->Shared->Prop}(K:KdlSrc prog w T r d n Pn OK)(hh:A.handled=none)(hok:OK s.heap)(hn:n<=sizeLine)
 (q:∀(h':Heap) (tk:Nat) (acc:Array Value),(∀b o,s.heap.get? b=some o->h'.get? b=some o)->s.heap.objs.size<h'.objs.size->ItemsOf Pn acc n->R acc.toList {s with heap:=h',toks:=tk}):wpAny `Y3 A (collect (.ref r)) R E s:=by
 have lt:=K.there _ hok
 have g0:(s.heap.push {cls:= .type "list",data:= .seq ([]:List Value).toArray}).get? s.heap.objs.size=some {cls:= .type "list",data:= .seq #[]}:=O0 _ rfl
 have key:=kdl_extend (A:=A) (s:={s with heap:=s.heap.push {cls:= .type "list",data:= .seq ([]:List Value).toArray}}) (R:=λ(f:Result) (s':Shared)=>∃(h':Heap) (tk:Nat) (acc':Array Value) (c':Nat),f= .ok (.ret (.ref s.heap.objs.size))/\s'={s with heap:=h',toks:=tk}/\(∀b o,s.heap.get? b=some o->h'.get? b=some o)/\h'.get? s.heap.objs.size=some {cls:= .type "list",dict:=none,data:= .seq acc' c',slots:= #[]}/\ItemsOf Pn acc' n)
  K hh (K.keep _ _ hok λb _ o e=>F0 _ e) s.heap.objs.size (Nat.ne_of_gt lt.1) (Nat.ne_of_gt lt.2) (.ref s.heap.objs.size) 0 g0 (λh' tk acc' c' kp gS ia=>⟨h',tk,acc',c',rfl,rfl,λb o e=>kp b o (C1 (S0 e)) (F0 _ e),gS,ia⟩) hn
 unfold collect
 refine C0 (wpAny_runValue (codeAny_builtin entry_proto_collect' (by
  rw[Around.under_plainId F.plain_proto_collect _]
  show wpAny _ A.in1 (newList []>>=λl=>again (.builtin "list.__iadd__" ⟨[l, .ref r],[]⟩)) _ _ s
  refine C0 (Y1 (K0 ⟨plainId_quiet F.plain_list_iadd _,codeAny_builtin entry_list_iadd' (by
   rw[Around.under_plainId F.plain_list_iadd _]
   show wpAny _ A.in1 (Builtin.List.listExtendWith (.ref s.heap.objs.size) (.ref r) (.ref s.heap.objs.size)) _ _ _
   refine X2 key (λfin s' x=>?_) λe s' x=>?_
   ·cases fin with
    |done f=>
     obtain⟨h',tk,acc',c',e,rfl,kp,gS,ia⟩:=x;cases e
     show wpAny _ A (load s.heap.objs.size>>=_) _ _ _
     exact C0 (wpAny_load gS (K0 (q h' tk acc' kp (S0 gS) ia)))
    |again c₁=>
     refine⟨x.1,codeAny_mono x.2 λf s₂ y=>?_⟩
     obtain⟨h',tk,acc',c',rfl,rfl,kp,gS,ia⟩:=y
     show wpAny _ A (load s.heap.objs.size>>=_) _ _ _
     exact C0 (wpAny_load gS (K0 (q h' tk acc' kp (S0 gS) ia)))
   ·obtain ⟨_,_,_,_,e',_⟩:=x
    cases e')⟩)))))
theorem zkI{r d:Addr}{T:String}{R:Value->Shared->Prop}{κ:SortKind}(K:KdlSrc prog w T r d ks.length (λi v=>ks[i]?=some v) OK)(hh:A.handled=none)(hok:OK s.heap)(h64:ks.length<64)
 (hk:2<=ks.length->∀s1:Shared,(∀b o,s.heap.get? b=some o->s1.heap.get? b=some o)->(∀C:SortKind->Shared->Prop,C κ s1->wpAny `Y3 A.in1.in1 (keyKind' ks.toArray) C (λ_ _=>False) s1)/\(kas_sort ks.length).kasWp (kas_ask prog w A.in1.in1 κ ks) (λp s'=>s'=s1/\G p) s1)
 (q:∀(D:Addr) (out:List Value) (h':Heap) (tk c:Nat),(ks.length<2/\out=ks\/∃p:Array Nat,p.size=ks.length/\G p/\out=p.toList.map λi=>ks.getD i Value.none)->(∀b o,s.heap.get? b=some o->h'.get? b=some o)->
   s.heap.objs.size<=D->h'.get? D=some (seqObj "list" out.toArray c)->R (.ref D) {s with heap:=h',toks:=tk}):wpAny `Y3 A (call (.builtin "sorted") [.ref r]) R E s:=by
 refine Calls.call_function_entry kind_sorted plain_sorted entry_sorted (args_sorted1 _) ?_
 unfold Builtin.«sorted»
 refine C0 (m:=checkCount "sorted" 1 1 _) (K0 (C0 (zjS (A:=A.in1) K hh hok (by rw[sizeLine_eq];lia) λh1 tk acc kp gr0 hacc=>?_)))
 have ea:acc.toList=ks:=by
  apply List.ext_getElem?
  intro i
  rcases U1 i ks.length with h|h
  ·have hi:i<acc.size:=by rw[hacc.1];exact h
   rw[Array.getElem?_toList,Array.getElem?_eq_getElem hi]
   exact(hacc.2 i acc[i] (by rw[Array.getElem?_eq_getElem hi])).symm
  ·rw[Q0 h,Q0 (by rw[Array.length_toList,hacc.1];exact h)]
 rw[ea]
 refine C0 (wpAny_newList ?_ (by rw[sizeLine_eq];lia))
 have hD:(h1.push (seqObj "list" ks.toArray 0)).get? h1.objs.size=some (seqObj "list" ks.toArray 0):=O0 _ rfl
 have k2:∀b o,s.heap.get? b=some o->(h1.push (seqObj "list" ks.toArray 0)).get? b=some o:=λb o e=>F0 _ (kp b o e)
 have gr:s.heap.objs.size<=h1.objs.size:=W2 gr0
 show wpAny _ _ _ _ _ {s with heap:=h1.push (seqObj "list" ks.toArray 0),toks:=tk}
 refine C0 (wpAny_holding (wpAny_call_entry slot_list_sort ⟨_,hD,rfl⟩ entry_list_sort (zmr (G:=G) (κ:=κ) (s:={s with heap:=h1.push (seqObj "list" ks.toArray 0),toks:=tk}) hD h64 (λh2 s1 k1=>?_) λout h' c hc hkp hg=>?_) (args_list_sort _)))
 ·obtain ⟨x1,x2⟩:=hk h2 s1 λb o e=>k1.2 b o (C1 (P1 (S0 e) gr)) (k2 b o e)
  exact⟨λC hC=>X2 (x1 C hC) (λ_ _ z=>z) λ_ _ z=>z.elim,x2⟩
 ·exact ⟨_,rfl,K0 ⟨_,rfl,q h1.objs.size out h' tk c hc (λb o e=>hkp b o (C1 (P1 (S0 e) gr)) (k2 b o e)) gr hg⟩⟩
noncomputable abbrev ltS(x y:Str):Bool:=decide (x.cps.toList<y.cps.toList)
noncomputable def ltP(p q:Str×Str):Bool:=if p.1=q.1 then(if p.2=q.2 then false else ltS p.2 q.2)else ltS p.1 q.1
theorem zlw:∀(a b:List Nat),a≠b->¬a<b->b<a
 |[],[],h,_=>absurd rfl h
 |[],b::bs,_,h=>absurd (List.nil_lt_cons b bs) h
 |a::as,[],_,_=>List.nil_lt_cons a as
 |a::as,b::bs,h,hn=>by
  rw[List.cons_lt_cons_iff] at hn⊢
  rcases Nat.lt_trichotomy a b with q|q|q
  ·exact absurd (.inl q) hn
  ·subst q
   exact .inr ⟨rfl,zlw as bs (λz=>h (by rw[z])) (λz=>hn (.inr ⟨rfl,z⟩))⟩
  ·exact .inl q
theorem zjZ:∀{a b c:List Nat},a<b->b<c->a<c
 |_,[],_,h,_=>absurd h `j2
 |_,_::_,[],_,h=>absurd h `j2
 |[],_::_,c::cs,_,_=>List.nil_lt_cons c cs
 |a::as,b::bs,c::cs,h1,h2=>by
  rw[List.cons_lt_cons_iff] at h1 h2⊢
  rcases h1 with h1|⟨rfl,h1⟩
  ·rcases h2 with h2|⟨rfl,h2⟩
   ·exact .inl ()
   ·exact .inl h1
  ·rcases h2 with h2|⟨rfl,h2⟩
   ·exact .inl h2
   ·exact .inr ⟨rfl,zjZ h1 h2⟩
theorem zhB:∀(a:List Nat),¬a<a
 |[],h=>absurd h `j2
 |a::as,h=>by
  rw[List.cons_lt_cons_iff] at h
  rcases h with h|⟨_,h⟩
  ·lia
  ·exact zhB as h
theorem zqa{y:Str}(h:x.cps.toList=y.cps.toList):x=y:=by
 cases x;cases y
 simp only[Str.mk.injEq]
 exact Array.toList_inj.mp h
theorem zcS{y:Str}(h:x≠y)(e:ltS x y=false):ltS y x=true:=V0 (zlw _ _ (λz=>h (zqa z)) (of_decide_eq_false e))
theorem zgC{y z:Str}(h1:ltS x y=true)(h2:ltS y z=true):ltS x z=true:=V0 (zjZ (U0 h1) (U0 h2))
theorem zfz(x:Str):ltS x x=false:=b0 (zhB _)
theorem zfx{y:Str}(h:ltS x y=true):ltS y x=false:=b0 λz=>zhB _ (zjZ (U0 h) z)
theorem zjN{y:Str}(h:ltS x y=true):x≠y:=λz=>by rw[z,zfz] at h;cases h
theorem zpb{p:Str×Str}(h:p≠q)(e:ltP p q=false):ltP q p=true:=by
 unfold ltP at e⊢
 by_cases h1:p.1=q.1
 ·rw[T0 h1] at e
  rw[T0 h1.symm]
  have h2:p.2≠q.2:=λz=>h (Prod.ext h1 z)
  rw[N0 h2] at e
  rw[N0 (Ne.symm h2)]
  exact zcS h2 e
 ·rw[N0 h1] at e
  rw[N0 (Ne.symm h1)]
  exact zcS h1 e
theorem zog{p r:Str×Str}(h1:ltP p q=true)(h2:ltP q r=true):ltP p r=true:=by
 unfold ltP at h1 h2⊢
 by_cases e1:p.1=q.1
 ·rw[T0 e1] at h1
  by_cases e2:q.1=r.1
  ·rw[T0 e2] at h2
   rw[T0 (e1.trans e2)]
   by_cases f1:p.2=q.2
   ·rw[T0 f1] at h1;cases h1
   ·by_cases f2:q.2=r.2
    ·rw[T0 f2] at h2;cases h2
    ·rw[N0 f1] at h1
     rw[N0 f2] at h2
     have:=zgC h1 h2
     rw[N0 (zjN this)];exact this
  ·rw[N0 e2] at h2
   rw[N0 (by rw[e1];exact e2),e1];exact h2
 ·rw[N0 e1] at h1
  by_cases e2:q.1=r.1
  ·rw[N0 (by rw[←e2];exact e1),←e2];exact h1
  ·rw[N0 e2] at h2
   have:=zgC h1 h2
   rw[N0 (zjN this)];exact this
theorem zib(p:Str×Str):ltP p p=false:=by unfold ltP;rw[T0 rfl,T0 rfl]
theorem zoE{p:Str×Str}(h:ltP p q=true):ltP q p=false:=by
 cases e:ltP q p with
 |false=>rfl
 |true=>have:=zog h e;rw[zib] at this;cases this
theorem ziq:∀(l:List Str),sortedS l=true->l.Nodup->l.Pairwise (λa b=>ltS a b=true)
 |[],_,_=> .nil
 |[x],_,_=>`j2
 |x::y::r,h,hn=>by
  have h':(!ltCps y.cps.toList x.cps.toList&&risingS y r)=true:=h
  rw[a0] at h'
  have hr:sortedS (y::r)=true:=h'.2
  have ih:=ziq (y::r) hr (D2.mp hn).2
  have hxy:ltS x y=true:=by
   have h1:ltS y x=false:=by
    have:=h'.1
    rw[ltCps_eq] at this
    simpa using this
   exact zcS (λz=>(D2.mp hn).1 (by rw[z];exact D1)) h1
  refine List.pairwise_cons.mpr ⟨λz hz=>?_,ih⟩
  rcases X0.mp hz with rfl|hz
  ·exact hxy
  ·exact zgC hxy ((List.pairwise_cons.mp ih).1 z hz)
theorem zhZ:CallR X (.builtin "sorted") (λxs H Q=>∃(p:Addr) (ss:List Str),xs=[.ref p]/\SqL X.K H p (ss.map V.str)/\ss.length<64/\ss.Nodup/\∀(ss':List Str) l,ss'.Perm ss->ss'.Pairwise (λa b=>ltS a b=true)->H l=none->Q (.ref l) (upd H l (.lst (ss'.map V.str)))):=by
 intro pins s σ H xs us Q I r h
 obtain⟨p,ss,rfl,hq,h64,hnd,q⟩:=h
 obtain⟨u,rfl,ru⟩:=zcu r
 cases ru
 obtain⟨its,rv,pl,hz⟩:=I.list hq
 have hS:=za6 rv
 have hl:=rv.length
 rw[D0] at hl
 refine sorted_strs pl.isList hS () λout ss' a1 a2 a3=>?_
 have nl:H (s.heap.objs.size+1)=none:=I.hok.fresh (Nat.le_succ _)
 obtain⟨e,he⟩:=sortedAll_at s.heap its out
 have hn':ss'.Nodup:=a2.nodup_iff.mpr hnd
 refine⟨.ref _,_,I.laid (a:=s.heap.objs.size+1) (o:= .lst (ss'.map V.str)) (t':=s.toks) (λb o hb=>sortedAll_old hb) (Nat.le_succ _) ⟨?_,out.toList,e,?_,?_⟩,rfl,q ss' _ a2 (ziq ss' a3 hn') nl⟩
 ·rw[D0,a2.length_eq];exact W2 (zn ())
 ·have mk:∀{vs:List Value} {zs:List Str},StrsAre vs zs->Vals (zs.map V.str) vs:=by
   intro vs zs h
   induction h with
   |nil=>exact .nil
   |cons x t _ ih=>exact .cons ⟨t,rfl⟩ ih
  exact mk a1
 ·rw[Array.toArray_toList];exact he
def zp6(H:Hp)(vs:List V)(ps:List (Str×Str)):Prop:=vs.length=ps.length/\∀(i:Nat) (v:V) (p:Str×Str),vs[i]?=some v->ps[i]?=some p->∃b,v= .ref b/\H b=some (.tup [.str p.1, .str p.2])
noncomputable def zgK(p:Str×Str):List Key:=[.inr p.1, .inr p.2]
def TupAt(h:Heap)(u:Value)(p:Str×Str):Prop:=∃b o n t1 t2,u= .ref b/\h.get? b=some o/\o.cls= .type "tuple"/\o.data= .seq #[.str p.1 t1, .str p.2 t2] n
theorem TupAt.keeps{h:Heap}{p:Str×Str}(x:TupAt h u p)(k:∀b o,h.get? b=some o->h'.get? b=some o):TupAt h' u p:=let⟨b,o,n,t1,t2,e,g,r⟩:=x;⟨b,o,n,t1,t2,e,k _ _ g,r⟩
theorem zmD{v:Value}{p:Str×Str}{C:Bool->Shared->Prop}(x:TupAt s.heap u p)(y:TupAt s.heap v q)(h:C (ltP p q) s):wpAny `Y3 A (keyLt' (tuples' true) u v) C E s:=by
 obtain⟨b,o,n,t1,t2,rfl,g,_,d⟩:=x
 obtain⟨b',o',n',t3,t4,rfl,g',_,d'⟩:=y
 refine kat_lt g d g' d' ?_
 show KatLex prog w A true (decide (2<2)) C [(.str p.1 t1, .str q.1 t3),(.str p.2 t2, .str q.2 t4)] 0 s
 unfold ltP at h
 refine kat_cons (wpAny_eqBool_str ?_)
 by_cases e1:p.1=q.1
 ·rw[T0 e1] at h
  rw[V0 e1]
  refine kat_yes (kat_cons (wpAny_eqBool_str ?_))
  by_cases e2:p.2=q.2
  ·rw[T0 e2] at h
   rw[V0 e2]
   exact kat_yes (kat_nil h)
  ·rw[N0 e2] at h
   rw[b0 e2]
   refine kat_no ?_
   show wpAny `Y3 A (oneLt' false (.str p.2 t2) (.str q.2 t4)) C _ s
   exact kat_one _ _ (lt_str h)
 ·rw[N0 e1] at h
  rw[b0 e1]
  refine kat_no ?_
  show wpAny `Y3 A (oneLt' true (.str p.1 t1) (.str q.1 t3)) C _ s
  exact oneLt_str h
theorem zk0{h:Heap}:∀{us:List Value} {ps:List (Str×Str)},us.length=ps.length->(∀(i:Nat) (u:Value) (p:Str×Str),us[i]?=some u->ps[i]?=some p->TupAt h u p)->∃fs,KatTups h us fs/\fs.length=us.length/\∀f∈fs,∃x t,f=Value.str x t
 |[],[],_,_=>⟨[],trivial,rfl,λ_ z=>nomatch z⟩
 |[],_::_,z,_=>by simp at z
 |_::_,[],z,_=>by simp at z
 |u::us,p::ps,hl,hx=>by
  obtain⟨fs,h1,h2,h3⟩:=zk0 (us:=us) (ps:=ps) (by simpa using hl) λi u p e1 e2=>hx (i+1) u p (by simpa using e1) (by simpa using e2)
  obtain⟨b,o,n,t1,t2,rfl,g,c,d⟩:=hx 0 u p rfl rfl
  refine⟨.str p.1 t1::fs,KatTups.cons g c d rfl h1,by simp[h2],λf hf=>?_⟩
  rcases X0.mp hf with rfl|hf
  ·exact ⟨_,_,rfl⟩
  ·exact h3 f hf
noncomputable def pAt(ps:List (Str×Str))(i:Nat):Str×Str:=ps.getD i (⟨#[]⟩,⟨#[]⟩)
theorem zhR(hn:ps.Nodup):Strict ps.length (λi j=>ltP (pAt ps i) (pAt ps j)) where
 tot:=λi j hi hj hij e=>zpb (λz=>hij ((List.getElem_inj hn (h₀:=hi) (h₁:=hj)).mp (by unfold pAt at z;simpa[hi,hj] using z))) e
 tr:=λi j k _ _ _ h1 h2=>zog h1 h2
 asy:=λi j _ _ h=>zoE h
theorem zmt{p:Array Nat}(hp:PermN ps.length p)(hs:Sor (λi j=>ltP (pAt ps i) (pAt ps j)) p ps.length):(p.toList.map (pAt ps)).Perm ps/\(p.toList.map (pAt ps)).Pairwise (λa b=>ltP a b=true):=by
 constructor
 ·have h1:=hp.map (pAt ps)
  have h2:(List.range ps.length).map (pAt ps)=ps:=by
   apply List.ext_getElem?
   intro i
   rw[P0]
   rcases U1 i ps.length with h|h
   ·rw[List.getElem?_range h]
    show some (pAt ps i)=_
    unfold pAt
    simp[h]
   ·rw[Q0 (by simpa using h),Q0 h];rfl
  rwa[h2] at h1
 ·have hz:=hp.size
  rw[List.pairwise_iff_getElem]
  intro i j hi hj hij
  have hi':i<p.size:=by simpa using hi
  have hj':j<p.size:=by simpa using hj
  have h:=hs i j hij ()
  rw[gd_get hi',gd_get hj'] at h
  simpa using h
theorem zcV{α β:Type}{R:α->β->Prop}:∀{as:List α} {bs:List β},Paired R as bs->as.length=bs.length/\∀(i:Nat) (a:α) (b:β),as[i]?=some a->bs[i]?=some b->R a b
 |_,_, .nil=>⟨rfl,λi a b e=>by simp at e⟩
 |_,_, .cons h t=>by
  obtain⟨h1,h2⟩:=zcV t
  refine⟨by simp[h1],λi a b e1 e2=>?_⟩
  cases i with
  |zero=>simp at e1 e2;subst e1;subst e2;exact h
  |succ i=>exact h2 i a b (by simpa using e1) (by simpa using e2)
theorem zia(hc:X.calm=true):CallR X (.builtin "sorted") (λxs H Q=>∃(d:Addr) (kvs:List (List Key×V)) (ps:List (Str×Str)),xs=[.ref d]/\H d=some (.dT kvs)/\kvs.map (·.1)=ps.map zgK/\ps.length<64/\
 ∀(ps':List (Str×Str)) (vs:List V) l,ps'.Perm ps->ps'.Pairwise (λa b=>ltP a b=true)->zp6 H vs ps'->H l=none->Q (.ref l) (upd H l (.lst vs))):=by
 intro pins s σ H xs us Q I r h
 obtain⟨d,kvs,ps,rfl,hd,hk,h64,q⟩:=h
 obtain⟨u,rfl,ru⟩:=zcu r
 cases ru
 obtain⟨_,nsys,zs,hp,o,es,ep,g,ex,dat,hes,hnd⟩:=(show ObjOk X.prog X.w H s.heap d (.dT kvs)from I.hok d _ hd)
 obtain⟨hl,hget⟩:=zcV hp
 have hlk:kvs.length=ps.length:=by have:=T2 List.length hk;simpa using this
 have hnp:ps.Nodup:=by
  have e:zs.map (·.1)=kvs.map (·.1):=by
   apply List.ext_getElem?
   intro i
   rw[P0,P0]
   rcases U1 i kvs.length with h|h
   ·have h':i<zs.length:=()
    have:=(hget i kvs[i] zs[i] (by simp[h]) (by simp[h'])).1
    simp[h,h',this]
   ·rw[Q0 h,Q0 ()];rfl
  rw[e,hk] at hnd
  exact(List.pairwise_map.mp hnd).imp λh z=>h (by rw[z])
 have kz:(zs.map λq=>Value.ref q.2.1).length=ps.length:=by rw[D0];lia
 have raw:RawD s.heap d (zs.map λq=>Value.ref q.2.1) ep:=⟨o,es,g,ex,dat,by rw[hes,List.map_map];rfl⟩
 have keyA:∀i (h:i<ps.length),∃b,(zs.map λq=>Value.ref q.2.1)[i]?=some (.ref b)/\H b=some (.tup [.str ps[i].1, .str ps[i].2]):=λi h=>by
  have h1:i<kvs.length:=()
  have h2:i<zs.length:=()
  have hr:=hget i kvs[i] zs[i] (by simp[h1]) (by simp[h2])
  refine⟨zs[i].2.1,by simp[h2],?_⟩
  have ek:kvs[i].1=zgK ps[i]:=by
   have e1:(kvs.map (·.1))[i]?=some kvs[i].1:=by simp[h1]
   rw[hk] at e1
   have e2:(ps.map zgK)[i]?=some (zgK ps[i]):=by simp[h]
   rw[e1] at e2
   exact O1 e2
  rw[hr.2.1,ek]
  rfl
 have keyT:∀(i:Nat) (u:Value) (p:Str×Str),(zs.map λq=>Value.ref q.2.1)[i]?=some u->ps[i]?=some p->TupAt s.heap u p:=λi u p e1 e2=>by
  have hi:i<ps.length:=by
   rcases U1 i ps.length with z|z
   ·exact z
   ·rw[Q0 z] at e2;cases e2
  obtain⟨b,f1,f2⟩:=keyA i hi
  rw[f1] at e1
  cases e1
  have ep':ps[i]=p:=by simpa[hi] using e2
  rw[ep'] at f2
  obtain⟨_,its,rv,⟨o',g',c',n',d'⟩,_⟩:=(show ObjOk X.prog X.w H s.heap b (.tup [.str p.1, .str p.2])from I.hok b _ f2)
  cases rv with
  |cons r1 rv=>cases rv with
   |cons r2 rv=>cases rv with
    |nil=>
     obtain⟨t1,rfl⟩:=r1
     obtain⟨t2,rfl⟩:=r2
     exact⟨b,o',n',t1,t2,rfl,g',c',d'⟩
 generalize hks:(zs.map λq=>Value.ref q.2.1)=ks at *
 refine zkI (A:=X.A) (G:=λp=>PermN ps.length p/\Sor (λi j=>ltP (pAt ps i) (pAt ps j)) p ps.length) (κ:=tuples' true) (zoQ (ks:=ks) (ep:=ep) nsys) (I.ok.hd hc) raw () (λh2 s1 k1=>?_) (λD out h' tk c ho kp hD gD=>?_)
 ·have keyT1:∀(i:Nat) (u:Value) (p:Str×Str),ks[i]?=some u->ps[i]?=some p->TupAt s1.heap u p:=λi u p e1 e2=>(keyT i u p e1 e2).keeps k1
  obtain⟨fs,ft,fl,fa⟩:=zk0 kz keyT1
  refine⟨λC hC=>kat_kind (T:= .type "str") ft () (λf hf=>?_) rfl hC,?_⟩
  ·obtain ⟨x,t,rfl⟩:=fa f hf
   exact Looks.of_pure rfl
  ·rw[kz]
   refine OkT.wp (N:=ps.length) (lt:=λi j=>ltP (pAt ps i) (pAt ps j)) (I:=λs'=>s'=s1) (λi j C s' hi hj e hC=>?_) (λp s' hp e=>⟨e,hp⟩) rfl (sort_ok (zhR hnp) ())
   subst e
   have gi:∀i,i<ps.length->TupAt s'.heap (ks.getD i Value.none) (pAt ps i):=λi hi=>by
    have hi':i<ks.length:=()
    refine keyT1 i _ _ ?_ ?_
    ·simp[hi']
    ·unfold pAt;simp[hi]
   exact zmD (gi i hi) (gi j hj) (hC s' rfl)
 ·
  have nD:H D=none:=I.hok.fresh hD
  obtain⟨ps',hperm,hpw,hout⟩:∃ps':List (Str×Str),ps'.Perm ps/\ps'.Pairwise (λa b=>ltP a b=true)/\out.length=ps'.length/\∀(i:Nat) (u:Value) (p:Str×Str),out[i]?=some u->ps'[i]?=some p->∃b,u= .ref b/\H b=some (.tup [.str p.1, .str p.2]):=by
   rcases ho with⟨hlt,rfl⟩|⟨p,hp,⟨hP,hS⟩,rfl⟩
   ·refine ⟨ps, .refl _,?_,kz,λi u p e1 e2=>?_⟩
    ·match ps,(show ps.length<2 by lia)with
     |[],_=>exact .nil
     |[x],_=>exact List.pairwise_singleton _ _
    ·have hi:i<ps.length:=by
      rcases U1 i ps.length with z|z
      ·exact z
      ·rw[Q0 z] at e2;cases e2
     obtain⟨b,f1,f2⟩:=keyA i hi
     rw[f1] at e1;cases e1
     have ep':ps[i]=p:=by simpa[hi] using e2
     rw[ep'] at f2
     exact⟨b,rfl,f2⟩
   ·obtain ⟨o1,o2⟩:=zmt hP hS
    refine⟨p.toList.map (pAt ps),o1,o2,by rw[D0,D0],λi u q e1 e2=>?_⟩
    rw[P0] at e1 e2
    cases hpi:p.toList[i]? with
    |none=>rw[hpi] at e1;cases e1
    |some j=>
     rw[hpi] at e1 e2
     have hj:j<ps.length:=List.mem_range.mp (hP.mem_iff.mp (W0 hpi))
     obtain⟨b,f1,f2⟩:=keyA j hj
     have hj':j<ks.length:=()
     have eu:ks.getD j Value.none= .ref b:=by
      rw[List.getD_eq_getElem?_getD,f1];rfl
     have e1':some (ks.getD j Value.none)=some u:=e1
     rw[eu] at e1'
     have e2':some (pAt ps j)=some q:=e2
     have eq:pAt ps j=ps[j]:=by unfold pAt;simp[hj]
     rw[eq] at e2'
     cases e1'
     cases e2'
     exact⟨b,rfl,f2⟩
  obtain⟨hol,hog⟩:=hout
  have hall:∀u∈out,∃b,u=Value.ref b:=λu hu=>by
   obtain⟨i,hi,rfl⟩:=y1 hu
   obtain⟨b,e,_⟩:=hog i out[i] (ps'[i]'()) (by simp[hi]) (by simp[show i<ps'.length by lia])
   exact⟨b,e⟩
  obtain⟨vs,rvs⟩:∃vs:List V,Vals vs out/\∀(i:Nat) (b:Addr),out[i]?=some (.ref b)->vs[i]?=some (.ref b):=by
   clear hog hol gD ho
   induction out with
   |nil=>exact ⟨[], .nil,λi b e=>by simp at e⟩
   |cons u out ih=>
    obtain⟨vs,h1,h2⟩:=ih λu hu=>hall u (Z0 _ hu)
    obtain⟨b,rfl⟩:=hall u D1
    refine⟨.ref b::vs, .cons rfl h1,λi b' e=>?_⟩
    cases i with
    |zero=>simpa using e
    |succ i=>exact h2 i b' (by simpa using e)
  have lv:vs.length=out.length:=rvs.1.length
  refine⟨.ref D,_,I.laid (a:=D) (o:= .lst vs) (t':=tk) kp hD ⟨by rw[lv,hol,hperm.length_eq];exact W2 (zn ()),out,c,rvs.1,gD⟩,rfl,q ps' vs D hperm hpw ⟨(),λi v p e1 e2=>?_⟩ nD⟩
  have hi:i<out.length:=by
   rcases U1 i out.length with z|z
   ·exact z
   ·rw[Q0 ()] at e1;cases e1
  obtain⟨b,f1,f2⟩:=hog i out[i] p (by simp[hi]) e2
  have:=rvs.2 i b (by rw[←f1];simp[hi])
  rw[this] at e1
  cases e1
  exact⟨b,rfl,f2⟩
noncomputable def zi8(a c:Str)(t u:Tok)(i:Nat):Value:=if i=0 then .str a t else .str c u
theorem zh4{a c:Str}{t u:Tok}{v:Value}(h:(#[Value.str a t,Value.str c u])[i]?=some v):(i=0/\v= .str a t)\/(i=1/\v= .str c u):=by
 match i,h with
 |0,h=>exact .inl ⟨rfl,by simpa using h.symm⟩
 |1,h=>exact .inr ⟨rfl,by simpa using h.symm⟩
 |i+2,h=>simp at h
theorem zin{a c:Str}{t u:Tok}{R:Value->Shared->Prop}(hh:A.handled=none)(q:∀h' tk,(∀b o,s.heap.get? b=some o->h'.get? b=some o)->R (if ltS a c=true then .str c u else .str a t) {s with heap:=h',toks:=tk}):
 wpAny `Y3 A (call (.builtin "max") [.str a t, .str c u]) R E s:=by
 have hT:(s.heap.push {cls:= .type "tuple",data:= .seq #[.str a t, .str c u]}).IsTuple s.heap.objs.size #[.str a t, .str c u]:=⟨_,O0 _ rfl,rfl,0,rfl⟩
 have z:(s.heap.push {cls:= .type "tuple",data:= .seq #[.str a t, .str c u]}).objs.size=s.heap.objs.size+1:=Heap.size_push ..
 refine call_max_two (wpAny_pyIter_tuple hT ?_)
 refine⟨_,[_,s.heap.objs.size],[_],_,_,_,λi j=>ltS (strOf (zi8 a c t u j)) (strOf (zi8 a c t u i)),rfl,Walks.tuple (A:=A.in1) hh _ s.heap.objs.size (by rw[z];exact C1 (Nat.lt_succ_self _)) #[.str a t, .str c u],⟨⟨_,O0 _ rfl,rfl,rfl⟩,hT.push _⟩,λb hb=>?_,(by decide:0<2),?_,λv h' tk hP hk=>?_⟩
 ·show b<((s.heap.push _).push _).objs.size
  rw[Heap.size_push,z]
  rcases X0.mp hb with rfl|hb
  ·rw[z];exact Nat.lt_succ_self _
  ·rcases X0.mp hb with rfl|hb
   ·exact Nat.lt_succ_of_lt (Nat.lt_succ_self _)
   ·cases hb
 ·intro i j vi vj s' R' E' hi hj hq
  rcases zh4 hi with⟨rfl,rfl⟩|⟨rfl,rfl⟩<;>rcases zh4 hj with⟨rfl,rfl⟩|⟨rfl,rfl⟩<;>exact (P.gt_str hq:wpAny `Y3 A.in1 (compareOp .Gt _ _) R' E' s')
 ·have keep:∀b o,s.heap.get? b=some o->h'.get? b=some o:=λb o e=>hk b o (λhm=>by
   rcases X0.mp hm with e1|hm
   ·have lb:=S0 e
    rw[e1,z] at lb
    exact absurd lb (Nat.not_lt.mpr (Nat.le_succ _))
   ·cases hm) (F0 _ (F0 _ e))
  have fin:=q h' tk keep
  have eb:argBest (λi j=>ltS (strOf (zi8 a c t u j)) (strOf (zi8 a c t u i))) (2 -1)=if ltS a c=true then 1 else 0:=rfl
  have hP':(#[Value.str a t,Value.str c u])[if ltS a c=true then 1 else 0]?=some v:=hP
  by_cases hc:ltS a c=true
  ·rw[T0 hc] at hP' fin
   have ev:Value.str c u=v:=by simpa using hP'
   rw[←ev];exact fin
  ·rw[N0 hc] at hP' fin
   have ev:Value.str a t=v:=by simpa using hP'
   rw[←ev];exact fin
theorem zio{a c:Str}{t u:Tok}{R:Value->Shared->Prop}(hh:A.handled=none)(q:∀h' tk,(∀b o,s.heap.get? b=some o->h'.get? b=some o)->R (if ltS c a=true then .str c u else .str a t) {s with heap:=h',toks:=tk}):
 wpAny `Y3 A (call (.builtin "min") [.str a t, .str c u]) R E s:=by
 have hT:(s.heap.push {cls:= .type "tuple",data:= .seq #[.str a t, .str c u]}).IsTuple s.heap.objs.size #[.str a t, .str c u]:=⟨_,O0 _ rfl,rfl,0,rfl⟩
 have z:(s.heap.push {cls:= .type "tuple",data:= .seq #[.str a t, .str c u]}).objs.size=s.heap.objs.size+1:=Heap.size_push ..
 refine call_min_two (wpAny_pyIter_tuple hT ?_)
 refine⟨_,[_,s.heap.objs.size],[_],_,_,_,λi j=>ltS (strOf (zi8 a c t u i)) (strOf (zi8 a c t u j)),rfl,Walks.tuple (A:=A.in1) hh _ s.heap.objs.size (by rw[z];exact C1 (Nat.lt_succ_self _)) #[.str a t, .str c u],⟨⟨_,O0 _ rfl,rfl,rfl⟩,hT.push _⟩,λb hb=>?_,(by decide:0<2),?_,λv h' tk hP hk=>?_⟩
 ·show b<((s.heap.push _).push _).objs.size
  rw[Heap.size_push,z]
  rcases X0.mp hb with rfl|hb
  ·rw[z];exact Nat.lt_succ_self _
  ·rcases X0.mp hb with rfl|hb
   ·exact Nat.lt_succ_of_lt (Nat.lt_succ_self _)
   ·cases hb
 ·intro i j vi vj s' R' E' hi hj hq
  rcases zh4 hi with⟨rfl,rfl⟩|⟨rfl,rfl⟩<;>rcases zh4 hj with⟨rfl,rfl⟩|⟨rfl,rfl⟩<;>exact (lt_str hq:wpAny `Y3 A.in1 (compareOp .Lt _ _) R' E' s')
 ·have keep:∀b o,s.heap.get? b=some o->h'.get? b=some o:=λb o e=>hk b o (λhm=>by
   rcases X0.mp hm with e1|hm
   ·have lb:=S0 e
    rw[e1,z] at lb
    exact absurd lb (Nat.not_lt.mpr (Nat.le_succ _))
   ·cases hm) (F0 _ (F0 _ e))
  have fin:=q h' tk keep
  have eb:argBest (λi j=>ltS (strOf (zi8 a c t u i)) (strOf (zi8 a c t u j))) (2 -1)=if ltS c a=true then 1 else 0:=rfl
  have hP':(#[Value.str a t,Value.str c u])[if ltS c a=true then 1 else 0]?=some v:=hP
  by_cases hc:ltS c a=true
  ·rw[T0 hc] at hP' fin
   have ev:Value.str c u=v:=by simpa using hP'
   rw[←ev];exact fin
  ·rw[N0 hc] at hP' fin
   have ev:Value.str a t=v:=by simpa using hP'
   rw[←ev];exact fin
theorem zgq(hc:X.calm=true):CallR X (.builtin "max") (λxs H Q=>∃a c,xs=[.str a, .str c]/\Q (.str (if ltS a c=true then c else a)) H):=by
 intro pins s σ H xs us Q I r h
 obtain⟨i,j,rfl,q⟩:=h
 obtain⟨u,w',rfl,⟨t,rfl⟩,⟨t',rfl⟩⟩:=zg1 r
 refine zin (I.ok.hd hc) λh' tk k=>⟨_,H,I.kept k,?_,q⟩
 by_cases hj:ltS i j=true
 ·rw[T0 hj,T0 hj];exact⟨_,rfl⟩
 ·rw[N0 hj,N0 hj];exact⟨_,rfl⟩
theorem zgd(hc:X.calm=true):CallR X (.builtin "min") (λxs H Q=>∃a c,xs=[.str a, .str c]/\Q (.str (if ltS c a=true then c else a)) H):=by
 intro pins s σ H xs us Q I r h
 obtain⟨i,j,rfl,q⟩:=h
 obtain⟨u,w',rfl,⟨t,rfl⟩,⟨t',rfl⟩⟩:=zg1 r
 refine zio (I.ok.hd hc) λh' tk k=>⟨_,H,I.kept k,?_,q⟩
 by_cases hj:ltS j i=true
 ·rw[T0 hj,T0 hj];exact⟨_,rfl⟩
 ·rw[N0 hj,N0 hj];exact⟨_,rfl⟩
section
open PySem.SeqAt
open PySem.AutoSeq1 (wpAny_loadPart')
open PySem.MeetsSeq PySem.MeetsSeq2 PySem.MeetsSeq3
end
noncomputable def zqJ(K:W.Frag):R2:=λx y H Q=>∃a b xs ys,x= .ref a/\y= .ref b/\SqT K H a xs/\SqT K H b ys/\xs.length+ys.length<=sizeLine/\
 (xs=[]->Q (.ref b) H)/\(xs≠ []->ys=[]->Q (.ref a) H)/\(xs≠ []->ys≠ []->∀p,H p=none->Q (.ref p) (upd H p (.tup (xs ++ys))))
theorem zfB:OpR X (binaryOp .Add) (zqJ X.K):=by
 intro pins s σ H x y v u Q I rx ry h
 obtain⟨a,b,xs,ys,rfl,rfl,ha,hb,hz,q0,q1,q2⟩:=h
 by_cases hx:xs=[]
 ·cases rx
  cases ry
  obtain⟨its,r1,p1,_⟩:=I.tuple ha
  obtain⟨its2,r2,p2,_⟩:=I.tuple hb
  have e1:its=[]:=r1.nil_iff.mpr hx
  obtain⟨⟨cls,dd,data,sl⟩,ho,hc,n,hd⟩:=id p1
  obtain⟨⟨cls2,dd2,data2,sl2⟩,ho2,hc2,n2,hd2⟩:=id p2
  simp only at hc hd hc2 hd2
  subst hc hd hc2 hd2
  exact concat_meets ⟨_,ho,rfl⟩ ⟨_,ho2,rfl⟩ noFill_tuple_add seq_tuple_add F.slot_tuple_add F.entry_tuple_add (F.args_tuple_add_2 _ _) (tuple_addW0 a b its.toArray its2.toArray n n2 dd dd2 sl sl2 (by simp[e1])) ⟨ho,ho2,⟨.ref b,H,I,rfl,q0 hx⟩⟩
 ·exact zpE pins s σ H _ _ v u Q I rx ry ⟨a,b,xs,ys,rfl,rfl,ha,hb,hx,hz,q1 hx,q2 hx⟩
section
open PySem.AutoSeq1 (wpAny_loadPart')
end
theorem hu1{k:Nat}(r:Room k A):A.units+1<cLine:=by have:=r.units;lia
section
variable{a b o i:Expr}{y:Str}{pt2:Pos}{kt k2:Nat}{td ty:TE}
theorem zqy(m n:Nat)(hN:X.N.Nodup)(ha:QA X [a,b] ta)(hc:autoParam (X.calm=true) v3)(hi:autoParam (X.N[m]?=some x) v3)(hj:autoParam (X.N[n]?=some y) v3)(hij:autoParam (m≠n) v4)
 (hx:autoParam (X.env.scope.names.lookup x=some .local) v3) (hy:autoParam (X.env.scope.names.lookup y=some .local) v3)
 (hw:autoParam (swappedStores [.Tuple [.Name x px, .Name y py] kt pt] (.Tuple [a,b] k2 pt2) X.env=pure (some [x,y])) v3)
 (hs:autoParam (swapsWithSole [.Tuple [.Name x px, .Name y py] kt pt] (.Tuple [a,b] k2 pt2) pos.line X.env=pure false) v3):
 QS X (.Assign [.Tuple [.Name x px, .Name y py] kt pt] (.Tuple [a,b] k2 pt2) pos) (zsd m n ta):=⟨zqP hc hN hi hj hij hx hy ha.o hw hs⟩
theorem zhK(hu:X.A.units+1<cLine)(ho:QE X o td)(hi:QE X i ty)(hv:QE X value tv)(hs:autoParam (swapsWith value (some (.Subscript o i pos')) pos.line X.env=pure false) v3):
 QS X (.Assign [.Subscript o i pos'] value pos) (zqg td ty tv):=⟨zqe hu ho.o hi.o hv.o hs⟩
theorem zqd:QE X (.Dict [] [] pos) zmI:=⟨znK⟩
end
end
noncomputable def ltD:D->D->Bool
 | .str x, .str y=>ltS x y
 | .tup [.str a, .str b], .tup [.str c, .str d]=>ltP (a,b) (c,d)
 |_,_=>false
noncomputable def zoP(ds:List D):Bool:=(List.range (ds.length -1)).all λk=>ltD (ds.getD k .non) (ds.getD (k+1) .non)
noncomputable def areHousesB:D->Bool| .tup ds=>decide (1<=ds.length)&&decide (ds.length<=10)&&ds.all zdI&&zoP ds|_=>false
noncomputable def zbl:D->Bool| .tup ds=>decide (ds.length<=90)&&ds.all zJ|_=>false
noncomputable def za7:D->Bool| .tup ds=>decide (ds.length<=90)&&ds.all zbd|_=>false
theorem zlL(z:Str)(n:Nat):(zfL z n).cps.toList=(List.replicate n z.cps.toList).flatten:=by
 unfold zfL
 have key:∀(k:Nat) (acc:Array Nat),((List.replicate k z.cps).foldl (·++·) acc).toList=acc.toList ++(List.replicate k z.cps.toList).flatten:=by
  intro k
  induction k with
  |zero=>intro acc;simp
  |succ k ih=>intro acc;rw[List.replicate_succ,List.foldl_cons,ih,List.replicate_succ,List.flatten_cons,Array.toList_append,List.append_assoc]
 have:=key n #[]
 simpa using this
theorem zci(c n:Nat):(zfL (one c) n).cps.toList=List.replicate n c:=by
 rw[zlL]
 show(List.replicate n [c]).flatten=_
 induction n with
 |zero=>rfl
 |succ n ih=>rw[List.replicate_succ,List.flatten_cons,ih,List.replicate_succ];rfl
noncomputable def zlp(x:Str):Bool:=x.cps.toList.all λc=>some c==x.cps.toList.head?
theorem ziE(c n:Nat):zlp (zfL (one c) n)=true:=by
 unfold zlp
 rw[zci]
 cases n with
 |zero=>rfl
 |succ n=>
  rw[C2]
  intro d hd
  rw[List.eq_of_mem_replicate hd]
  simp[List.replicate_succ]
noncomputable def zdT:List Str:=["goal","to","by","houses","tie","like","hand","keep","put","mark","long","from","strike"]
theorem zpK:∀x∈zdT,zi x=true:=`Z2
theorem zl8:∀x∈zdT,zlp x=false:=`Z2
theorem zo0:∀c∈zbn.cps.toList,∀k∈List.range 8,zi (zfL (one c) (k+1))=true:=`Z2
theorem zjb:zbn.length=26:=`Z2
theorem zf7:∀k∈List.range 26,zbn.cps.toList[k]?=some (97+k):=`Z2
theorem zlB(c:Nat):(one c).length=1:=rfl
noncomputable def zm1:List Nat:=[1,3,5,7,9,11]
theorem zmF:∀f∈List.range 26,∀st∈zm1,((List.range 13).map λk=>(f+st*k)%26).Nodup:=`Z2
noncomputable def nmS(f st k:Nat):Str:=zfL (one (97+(f+st*k)%26)) (1+(k*k+f)%8)
noncomputable def kwS(sp k:Nat):Str:=zdT.getD ((sp+3*k)%13) ""
noncomputable def zaP(f st sp j k:Nat):Str:=if k<j then kwS sp k else nmS f st k
theorem zrh:∀sp∈List.range 13,((List.range 4).map λk=>kwS sp k).Nodup:=`Z2
theorem zkn(sp k:Nat):kwS sp k∈zdT:=by
 unfold kwS
 have h:(sp+3*k)%13<zdT.length:=Nat.mod_lt _ ⋯
 simp[List.getD,h]
theorem znm{l:List α}(h:l.Nodup)(hi:i<l.length)(hj:j<l.length)(hij:i≠j):l[i]≠l[j]:=λz=>hij ((List.getElem_inj h).mp z)
theorem ziQ{f st sp m:Nat}(hf:f<26)(hst:st∈zm1)(hsp:sp<13)(hj:j<=4)(hm:m<=13):((List.range m).map (zaP f st sp j)).Nodup:=by
 have key:∀a b,a<b->b<13->zaP f st sp j a≠zaP f st sp j b:=by
  intro a b hab hb
  unfold zaP
  by_cases h1:a<j
  ·rw[T0 h1]
   by_cases h2:b<j
   ·rw[T0 h2]
    have:=znm (zrh sp (List.mem_range.mpr hsp)) (i:=a) (j:=b) (by simp;lia) (by simp;lia) ()
    simpa using this
   ·rw[N0 h2]
    intro z
    have e1:=zl8 _ (zkn sp a)
    rw[z] at e1
    unfold nmS at e1
    rw[ziE] at e1
    cases e1
  ·rw[N0 h1,N0 ()]
   intro z
   have hh:(nmS f st a).cps.toList.head?=(nmS f st b).cps.toList.head?:=by rw[z]
   unfold nmS at hh
   rw[zci,zci,Nat.add_comm 1,Nat.add_comm 1,List.replicate_succ,List.replicate_succ] at hh
   simp only[List.head?_cons,Option.some.injEq] at hh
   have:=znm (zmF f (List.mem_range.mpr hf) st hst) (i:=a) (j:=b) (by simp;lia) (by simp;lia) ()
   simp at this
   lia
 rw[List.nodup_iff_pairwise_ne,List.pairwise_map]
 refine List.Pairwise.imp_of_mem (λ{a b} ha hb hab=>?_) (List.pairwise_lt_range (n:=m))
 exact key a b hab (by have:=List.mem_range.mp hb;lia)
theorem zsk(f st k:Nat):zi (nmS f st k)=true:=by
 unfold nmS
 rw[Nat.add_comm 1]
 have hr:(f+st*k)%26<26:=Nat.mod_lt _ ⋯
 exact zo0 _ (W0 (zf7 _ (List.mem_range.mpr hr))) _ (List.mem_range.mpr (Nat.mod_lt _ ⋯))
theorem zpp(f st sp j k:Nat):zi (zaP f st sp j k)=true:=by
 unfold zaP
 split
 ·exact zpK _ (zkn sp k)
 ·exact zsk f st k
theorem zm2{f st sp m:Nat}(hj:j<m):((List.range m).map (zaP f st sp j)).set j (kwS sp j)=(List.range m).map (zaP f st sp (j+1)):=by
 apply List.ext_getElem?
 intro i
 rw[List.getElem?_set]
 by_cases e:j=i
 ·subst e
  rw[T0 rfl,T0 (by simp;exact hj)]
  simp[hj,zaP]
 ·rw[N0 e]
  rcases U1 i m with h|h
  ·rw[P0,P0,List.getElem?_range h]
   show some _=some _
   congr 1
   unfold zaP
   by_cases h1:i<j
   ·rw[T0 h1,T0 ()]
   ·rw[N0 h1,N0 ()]
  ·rw[Q0 (by simpa using h),Q0 (by simpa using h)]
theorem zpd{sp k:Nat}:zdT[(sp+3*k)%13]?=some (kwS sp k):=by
 unfold kwS
 have h:(sp+3*k)%13<zdT.length:=Nat.mod_lt _ ⋯
 simp[List.getD,h]
theorem zmC{m:Nat}:zco xs (some (m:Int)) none=xs.drop m:=by
 unfold zco
 have e1:sIx xs.length xs.length none=xs.length:=rfl
 have e2:sIx xs.length 0 (some (m:Int))=min m xs.length:=by
  unfold sIx
  have h:¬(m:Int)<0:=()
  simp only[N0 h,Int.toNat_natCast]
 rw[e1,e2]
 rcases U1 m xs.length with h|h
 ·rw[Nat.min_eq_left (),List.take_of_length_le (by rw[List.length_drop];lia)]
 ·rw[Nat.min_eq_right h,List.drop_of_length_le (R0 _),List.drop_of_length_le h];simp
theorem zfc{N:Nat}{Pw:Nat->V->Prop}{ok:Hp->Prop}{m c:Int}{src:List (Option Nat)}{Q:VK}(wk:Wk J N Pw ok)(hok:∀H',Keep a H H'->ok H')(hs:zeo src σ=none::σr)(hH:Hand H a m)(hN:N<=900)(hc:0<=c)
 (he:∀(i:Nat) (x:V) (H1:Hp) (Q1:VK),i<N->Hand H1 a (m+c*i)->Keep a H H1->(∀v d H2,Rep H2 v d->Pd i d->Hand H2 a (m+c*i+c)->Keep a H1 H2->Q1 v H2)->te (some x::σr) H1 Q1)
 (q:∀l vs ds H',H l=none->H' l=some (.lst vs)->RepL H' vs ds->ds.length=N->(∀i d,ds[i]?=some d->Pd i d)->Hand H' a (m+c*N)->Keep a H H'->Q (.ref l) H'):zdU (zb7 0) zn9 te src σ Q J H:=by
 refine zbB wk (λl i ys σ' H'=>(∃o,σ'=o::σr)/\(∃ds:List D,RepL H' ys ds/\ds.length=i/\∀j d,ds[j]?=some d->Pd j d)/\Hand H' a (m+c*i)/\Keep a H H') ?_ (λ_ _ _ _ _ _ p=>hok _ p.2.2.2) ?_ ?_
 ·exact λl hl=>⟨⟨_,hs⟩,⟨[],RepL.nil,rfl,λj d z=>by simp at z⟩,(hH.new hl).mono `j2,Keep.new hl⟩
 ·rintro l i y ys σ' H1 hl hi hy ⟨⟨o,rfl⟩,⟨ds,hr,hl2,hp⟩,hH1,k1⟩ hl'
  have nl:=hH.ne hl
  refine he i y H1 _ hi hH1 k1 λv d H2 rv pd hH2 k2=>?_
  have hl2':H2 l=some (.lst ys):=k2 _ _ nl hl'
  have m2:Mono H1 H2:=Mono.keep k2 hH1 hH2
  have m3:Mono H2 (upd H2 l (.lst (ys ++ [v]))):=Mono.lset hl2'
  refine⟨hl2',?_,⟨_,rfl⟩,⟨ds ++ [d],((hr.mono m2).append (.cons rv .nil)).mono m3,?_,?_⟩,(hH2.updNe nl).mono ?_,(k1.trans k2).updNew hl⟩
  ·have:=hr.1
   exact zn ()
  ·rw[o0,hl2];rfl
  ·intro j e he
   by_cases hj:j<ds.length
   ·rw[P2 hj] at he
    exact hp j e he
   ·rw[J2 ()] at he
    have hj2:j=ds.length:=by
     rcases U1 ds.length j with z|z
     ·rw[Q0 (by simp;lia)] at he;cases he
     ·lia
    subst hj2
    simp at he
    subst he
    rw[hl2];exact pd
  ·rw[show((i+1:Nat):Int)=(i:Int)+1 by lia,Int.mul_add,Int.mul_one]
   lia
 ·rintro l ys σ' H1 hl ⟨⟨o,rfl⟩,⟨ds,hr,hl2,hp⟩,hH1,k1⟩ hl'
  exact q l ys ds H1 hl hl' hr hl2 hp hH1 k1
noncomputable def pairD(p:Str×Str):D:= .tup [.str p.1, .str p.2]
structure TownOk(g:Str)(hs:List Str)(ps:List (Str×Str))(lks hds:List D):Prop where
 rise:hs.Pairwise (λa b=>ltS a b=true)
 one:1<=hs.length
 ten:hs.length<=10
 names:∀x∈hs,zi x=true
 goal:g∈hs
 riseP:ps.Pairwise (λa b=>ltP a b=true)
 ties:∀p∈ps,p.1∈hs/\p.2∈hs/\ltS p.1 p.2=true
 ll:lks.length=hs.length
 lh:hds.length=hs.length
 likes:∀d∈lks,zbl d=true
 hands:∀d∈hds,za7 d=true
noncomputable def zal(g:Str)(hs:List Str)(ps:List (Str×Str))(lks hds:List D):D:= .tup [.str g, .tup (hs.map D.str), .tup (ps.map pairD), .tup lks, .tup hds]
section
variable{es:List D}{k:Nat}
end
section
variable{es:List D}
theorem zoT{f:D->D}{g:D->Bool}{ok:Hp->Prop}{src:List (Option Nat)}{Q:VK}(wk:Wk J vs.length (λi x=>vs[i]?=some x) ok)(hok:∀H',Same H H'->ok H')(r:RepL H vs ds)(hl:ds.length<=900)(e:zeo src σ=none::σr)
 (hc:∀(x:V) (d:D) (H1:Hp) (Q1:Bool->Hp->Prop),Same H H1->Rep H1 x d->d∈ds->(∀H2,Same H1 H2->Q1 (g d) H2)->tc (some x::σr) H1 Q1)
 (he:∀(x:V) (d:D) (H1:Hp),Same H H1->Rep H1 x d->d∈ds->Dsp te (some x::σr) H1 (f d))
 (q:∀l us H',Same H H'->H l=none->H' l=some (.lst us)->RepL H' us ((ds.filter g).map f)->Q (.ref l) H'):zdU (zb7 0) tc te src σ Q J H:=by
 refine zbB wk (λl i ys σ' H'=>(∃o,σ'=o::σr)/\RepL H' ys (((ds.take i).filter g).map f)/\Same H H') ?_ ?_ ?_ ?_
 ·exact λl h'=>⟨⟨none,e⟩,RepL.nil,Same.new h'⟩
 ·exact λl i ys σ' H' _ p=>hok H' p.2.2
 ·rintro l i y ys σ' H1 h' hi hy ⟨⟨o,rfl⟩,ry,s1⟩ hl'
  obtain⟨d,hd,rd⟩:=r.get hy
  refine hc y d H1 _ s1 (rd.same s1) (W0 hd) λH2 s2=>?_
  have tk:((ds.take (i+1)).filter g).map f=((ds.take i).filter g).map f ++([d].filter g).map f:=by
   rw[Q2,hd,List.filter_append,E2];rfl
  rw[tk]
  cases hg:g d with
  |false=>
   have e0:([d].filter g).map f=[]:=by simp[hg]
   rw[e0,List.append_nil]
   exact⟨s2 _ _ hl',⟨_,rfl⟩,ry.mono (.of s2),s1.trans s2⟩
  |true=>
   have e0:([d].filter g).map f=[f d]:=by simp[hg]
   rw[e0]
   refine he y d H2 (s1.trans s2) ((rd.same s1).same s2) (W0 hd) H2 _ (Same.refl _) λv H3 s3 rv=>?_
   refine⟨s3 _ _ (s2 _ _ hl'),?_,⟨_,rfl⟩,?_,?_⟩
   ·have h1:=ry.1
    have h2:=List.length_filter_le g (ds.take i)
    rw[D0] at h1
    rw[Z1] at h2
    exact zn ()
   ·exact ((ry.mono (.of (s2.trans s3))).append (.cons rv .nil)).mono (.lset (s3 _ _ (s2 _ _ hl')))
   ·exact λc o e=>by
     rw[zc (zh e h')]
     exact s3 _ _ (s2 _ _ (s1 _ _ e))
 ·rintro l ys σ' H1 h' ⟨⟨o,rfl⟩,ry,s1⟩ hl'
  rw[r.1,List.take_length] at ry
  exact q l ys H1 s1 h' hl' ry
end
theorem znc{hs:List Str}(h:∀x∈hs,x.length<=1000):RepL H (hs.map V.str) (hs.map D.str):=by
 refine⟨by rw[D0,D0],λi v d hv hd=>?_⟩
 rw[P0] at hv hd
 cases e:hs[i]? with
 |none=>rw[e] at hv;cases hv
 |some x=>
  rw[e] at hv hd
  cases hv
  cases hd
  exact .str x (h x (W0 e))
theorem ziy{α β:Type}{F:α->List β}{m:Nat}(hF:∀a,(F a).length<=m):∀l:List α,(l.flatMap F).length<=l.length*m
 |[]=>T1 _
 |a::l=>by
  rw[List.flatMap_cons,o0,J1,Nat.succ_mul]
  have:=ziy hF l
  have:=hF a
  lia
inductive Tr(H:Hp):V->PyData->Prop
 |non:Tr H .non .none
 |bl (b:Bool):Tr H (.bl b) (.bool b)
 |int (i:Int):Tr H (.int i) (.int i)
 |str (x:Str) (h:PyData.strOk x=true):Tr H (.str x) (.str x)
 |tup {p:Addr} {vs:List V} {ds:List PyData} (e:H p=some (.tup vs)) (hl:vs.length=ds.length) (h:∀(i:Nat) (v:V) (d:PyData),vs[i]?=some v->ds[i]?=some d->Tr H v d):Tr H (.ref p) (.tuple ds)
 |lst {p:Addr} {vs:List V} {ds:List PyData} (e:H p=some (.lst vs)) (hl:vs.length=ds.length) (h:∀(i:Nat) (v:V) (d:PyData),vs[i]?=some v->ds[i]?=some d->Tr H v d):Tr H (.ref p) (.list ds)
theorem zce{h:Heap}:∀{vs:List V} {us:List Value} {ds:List PyData},Vals vs us->vs.length=ds.length->(∀(i:Nat) (v:V) (d:PyData),vs[i]?=some v->ds[i]?=some d->∀u,RelV v u->∃as,Reads h u d as)->∃bs,ReadsAll h us ds bs
 |_,_,[], .nil,_,_=>⟨_, .nil⟩
 |v::vs,u::us,d::ds, .cons r t,hl,hh=>by
  obtain⟨as,ha⟩:=hh 0 v d rfl rfl u r
  obtain⟨bs,hb⟩:=zce t (by simpa using hl) λi v' d' h1 h2=>hh (i+1) v' d' h1 h2
  exact⟨_, .cons ha hb⟩
 |[],_,d::ds, .nil,hl,_=>by simp at hl
 |v::vs,u::us,[], .cons r t,hl,_=>by simp at hl
theorem Tr.reads(I:Inv X pins σ H s){x:V}{d:PyData}(t:Tr H x d):∀v,RelV x v->∃as,Reads s.heap v d as:=by
 induction t with
 |non=>intro v r;cases r;exact⟨_, .none⟩
 |bl b=>intro v r;cases r;exact⟨_, .bool b⟩
 |int i=>intro v r;obtain⟨t,rfl⟩:=r;exact⟨_, .int i t⟩
 |str x h=>intro v r;obtain⟨t,rfl⟩:=r;exact⟨_, .str x t⟩
 |tup e hl h ih=>
  intro v r
  cases r
  obtain⟨its,rv,⟨o,ho,hc,n,hd⟩,_⟩:=I.tuple (SqT.of e)
  obtain⟨bs,hb⟩:=zce (h:=s.heap) rv hl ih
  exact⟨_, .tuple ho hc hd (by simpa using hb)⟩
 |lst e hl h ih=>
  intro v r
  cases r
  obtain⟨its,n,rv,ho,_⟩:=I.lst e
  obtain⟨bs,hb⟩:=zce (h:=s.heap) rv hl ih
  exact⟨_, .list ho rfl rfl (by simpa using hb)⟩
theorem zdC:∀{vs:List V} {ds:List PyData},vs.length=ds.length->(∀(i:Nat) (v:V) (d:PyData),vs[i]?=some v->ds[i]?=some d->d.canLay0=true)->PyData.canLayAll0 ds=true
 |_,[],_,_=>rfl
 |v::vs,d::ds,hl,hh=>by
  rw[PyData.canLayAll0,hh 0 v d rfl rfl,zdC (vs:=vs) (ds:=ds) (by simpa using hl) λi v' d' h1 h2=>hh (i+1) v' d' h1 h2];rfl
 |[],d::ds,hl,_=>by simp at hl
theorem Tr.can{x:V}{d:PyData}(t:Tr H x d):d.canLay0=true:=by
 induction t with
 |non=>rfl
 |bl b=>rfl
 |int i=>rfl
 |str x h=>simp only[PyData.canLay0];exact h
 |tup e hl h ih=>rw[PyData.canLay0];exact zdC hl ih
 |lst e hl h ih=>rw[PyData.canLay0];exact zdC hl ih
noncomputable def zsQ:R2:=λx y H Q=>∃d e,Tr H x d/\Tr H y e/\min d.depth e.depth<=60/\Q (.bl (d.eqv e)) H
noncomputable def zsG:R2:=λx y H Q=>∃d e,Tr H x d/\Tr H y e/\min d.depth e.depth<=60/\Q (.bl (!d.eqv e)) H
theorem op_eqD(hu:X.A.units+64<cLine):OpR X (compareOp .Eq) zsQ:=by
 intro pins s σ H x y v u Q I rx ry h
 obtain⟨d,e,t1,t2,hd,q⟩:=h
 obtain⟨as,r1⟩:=t1.reads I v rx
 obtain⟨bs,r2⟩:=t2.reads I u ry
 exact SeqAt.compareEq_reads r1 r2 t1.can t2.can () ⟨.bl _,H,I,rfl,q⟩
theorem zqX(hu:X.A.units+64<cLine):OpR X (compareOp .NotEq) zsG:=by
 intro pins s σ H x y v u Q I rx ry h
 obtain⟨d,e,t1,t2,hd,q⟩:=h
 obtain⟨as,r1⟩:=t1.reads I v rx
 obtain⟨bs,r2⟩:=t2.reads I u ry
 exact SeqAt.compareNe_reads r1 r2 t1.can t2.can () ⟨.bl _,H,I,rfl,q⟩
theorem zrz{k:Nat}(r:Room k A):A.units+64<cLine:=by have:=r.un;lia
section
variable{e:Expr}{p1 p2:Pos}
end
theorem getItem_tuple_whole{t:Addr}{hi:Option Int}(ht:IsTup s.heap t items)(hs:s.heap.IsSliceOf sl vl vu .none)(pl:IsPart vl lo)(pu:IsPart vu hi)
 (h1:sIx items.size 0 lo=0) (h2:sIx items.size items.size hi=items.size)
 (h:Q (.ref t) s):wpAny `Y3 A (getItem (.ref t) (.ref sl)) Q E s:=by
 obtain⟨os,hos,hcs,hds⟩:=id hs
 have hTs:s.TypeIs (.ref sl) "slice":=⟨os,hos,hcs⟩
 unfold getItem
 try with_reducible refine wpAny_holding ?_
 first|refine C0 (K0 ?_)|skip
 refine C0 (wpAny_sequenceKey ht.typeIs ⋯ ?_)
 refine C0 (wpAny_callSpecial?_slot (name:=Str.ofString "__getitem__") ht.typeIs PyProof.Rows.slot_tuple_getitem
  (wpAny_call_entry PyProof.Rows.slot_tuple_getitem ht.typeIs entry_tuple_getitem ?_ (args_tuple_getitem _ _)))
 show wpAny _ _ (Builtin.Tuple.tupleItemsOf (.ref t)>>=_) _ _ s
 refine C0 (tupleItemsOf_ ht ?_)
 refine C0 (wpAny_typeOf hTs ?_)
 rw[T0 ⋯]
 refine C0 (zcw hs pl pu ?_)
 rw[h1,h2]
 show wpAny _ _ (if(((0:Nat):Int)==0&&(1:Int)==1&&(items.size -0)==items.size)=true then _ else _) _ _ s
 rw[T0 `j2]
 unfold Builtin.Tuple.tupleIsExact
 refine C0 (C0 (wpAny_typeOf ht.typeIs (K0 ?_)))
 rw[T0 ⋯]
 refine C0 (wpAny_rule ?_)
 exact K0 ⟨_,rfl,K0 h⟩
def zsj(K:W.Frag):V->Option Int->Option Int->Hp->VK->Prop:=λx lo hi H Q=>∃a xs,x= .ref a/\SqT K H a xs/\
 (zco xs lo hi=xs->Q (.ref a) H)/\∀p,H p=none->Q (.ref p) (upd H p (.tup (zco xs lo hi)))
theorem zpx:SlR X (zsj X.K):=by
 intro pins s σ H x v vl vu lo hi sl Q I rx hs pl pu h
 obtain⟨a,xs,rfl,hx,q1,q2⟩:=h
 by_cases hw:sIx xs.length 0 lo=0/\sIx xs.length xs.length hi=xs.length
 ·have rx':v= .ref a:=rx
  subst rx'
  obtain⟨its,r,ht,hz⟩:=I.tuple hx
  have hlen:its.toArray.size=xs.length:=by rw[Y0];exact r.length.symm
  refine⟨"tuple",_,PyProof.Rows.slot_tuple_getitem.lookup,ht.typeIs,?_⟩
  refine getItem_tuple_whole ht hs pl pu (by rw[hlen];exact hw.1) (by rw[hlen];exact hw.2) ⟨.ref a,H,I,rfl,q1 ?_⟩
  unfold zco
  rw[hw.1,hw.2];simp
 ·exact zq4 pins s σ H (.ref a) v vl vu lo hi sl Q I rx hs pl pu ⟨a,xs,rfl,hx,hw,q2⟩
section
variable{es:List D}
end
theorem zlI:∀x∈zdT,x≠"nowhere":=`Z2
theorem zlF:zlp "nowhere"=false:=`Z2
theorem zmm(f st sp j k:Nat):zaP f st sp j k≠"nowhere":=by
 unfold zaP
 split
 ·exact zlI _ (zkn sp k)
 ·intro z
  have e:=zlF
  rw[←z] at e
  unfold nmS at e
  rw[ziE] at e
  cases e
section
variable{es:List D}{k:Nat}{g:D->Bool}{lf:Addr}{m:Nat}
end
section
variable{x h t l a:D}
end
section
variable{es:List D}{k:Nat}{g:D->Bool}{m:Nat}
theorem zhA{p:Addr}(s:Same H H')(h:H' p=none):H p=none:=by
 cases e:H p with
 |none=>rfl
 |some o=>have:=s _ _ e;rw[h] at this;cases this
end
theorem zaD(h:zi x=true):PyData.strOk x=true:=by
 unfold zi at h
 simp only[a0] at h
 have h2:=h.1.2
 unfold PyData.strOk
 rw[Array.all_eq_true']
 intro c hc
 have:=C2.mp h2 c (by simpa using hc)
 unfold zk4 at this
 simp only[a0,decide_eq_true_eq] at this
 exact V0 ()
theorem zbP{α:Type}[DecidableEq α]:∀{l m:List α},l.Nodup->(∀x∈l,x∈m)->l.length<=m.length
 |[],m,_,_=>T1 _
 |a::l,m,hn,hs=>by
  have ha:=hs a D1
  have:=zbP (l:=l) (m:=m.erase a) (D2.mp hn).2 λx hx=>(List.mem_erase_of_ne (λz:x=a=>(D2.mp hn).1 (by rw[←z];exact hx))).mpr (hs x (Z0 _ hx))
  rw[List.length_erase_of_mem ha] at this
  have:1<=m.length:=List.length_pos_of_mem ha
  rw[J1]
  lia
theorem TownOk.lp{hs:List Str}(T:TownOk g hs ps lks hds):ps.length<=100:=by
 have nd:ps.Nodup:=T.riseP.imp λ{a b} h z=>by rw[z,zib] at h;cases h
 have:=zbP (m:=hs.flatMap λa=>hs.map λb=>(a,b)) nd λp hp=>by
  obtain⟨h1,h2,_⟩:=T.ties p hp
  exact List.mem_flatMap.mpr ⟨p.1,h1,V1.mpr ⟨p.2,h2,rfl⟩⟩
 have h2:=ziy (F:=λa=>hs.map λb=>(a,b)) (m:=10) (λa=>by rw[D0];exact T.ten) hs
 have:=T.ten
 lia
theorem zbE{b:Bool}{X:Prop}(h:b=true)(x:X):if b=true then X else Y:=by rw[T0 h];exact x
theorem zbo{b:Bool}{X:Prop}(h:b=false)(y:Y):if b=true then X else Y:=by rw[N0 (by rw[h];decide)];exact y
section
open PySem.W
theorem ziV{r:Addr}{T:String}{o:Obj}{vs:List Value}{n:Nat}{R:List Value->Shared->Prop}(hT:T="list"\/T="tuple")(ho:s.heap.get? r=some o)(hc:o.cls= .type T)(hd:o.data= .seq vs.toArray n)(hz:vs.length<=sizeLine)
 (q:∀(h':Heap),(∀b o,s.heap.get? b=some o->h'.get? b=some o)->s.heap.objs.size<h'.objs.size->R vs {s with heap:=h'}):wpAny `Y3 A (collect (.ref r)) R E s:=by
 have lt:=S0 ho
 have hne:r≠s.heap.objs.size:=C1 lt
 have g0:(s.heap.push {cls:= .type "list",data:= .seq ([]:List Value).toArray}).get? s.heap.objs.size=some (seqObj "list" #[] 0):=O0 _ rfl
 have gr:(s.heap.push {cls:= .type "list",data:= .seq ([]:List Value).toArray}).get? r=some o:=F0 _ ho
 obtain⟨e1,g1⟩:∃e1,((s.heap.push {cls:= .type "list",data:= .seq ([]:List Value).toArray}).update s.heap.objs.size (Obj.mapSeq λx=>x ++vs.toArray)).get? s.heap.objs.size=some (seqObj "list" ((#[]:Array Value)++vs.toArray) e1):=⟨_,get?_update_seq g0 λx=>x ++vs.toArray⟩
 have u1:=Heap.SameBut.update (s.heap.push {cls:= .type "list",data:= .seq ([]:List Value).toArray}) s.heap.objs.size (Obj.mapSeq λx=>x ++vs.toArray)
 unfold collect
 refine C0 (wpAny_runValue (codeAny_builtin entry_proto_collect' (by
  rw[Around.under_plainId F.plain_proto_collect _]
  show wpAny _ A.in1 (newList []>>=λl=>again (.builtin "list.__iadd__" ⟨[l, .ref r],[]⟩)) _ _ s
  refine C0 (Y1 (K0 ⟨plainId_quiet F.plain_list_iadd _,codeAny_builtin entry_list_iadd' (by
   rw[Around.under_plainId F.plain_list_iadd _]
   show wpAny _ A.in1 (Builtin.List.listExtendWith (.ref s.heap.objs.size) (.ref r) (.ref s.heap.objs.size)) _ _ _
   unfold Builtin.List.listExtendWith
   have hty:({s with heap:=s.heap.push {cls:= .type "list",data:= .seq ([]:List Value).toArray}}:Shared).TypeIs (.ref r) T:=⟨o,gr,hc⟩
   refine C0 (wpAny_typeOf hty ?_)
   rw[T0 (by rcases hT with rfl|rfl<;>simp)]
   refine C0 (listItems_at gr hd (C0 (listItems_at g0 rfl ?_)))
   rw[N0 `j2]
   refine C0 (listUpdate_at g0 rfl ?_ (T1 _) (by show((#[]:Array Value)++vs.toArray).size<=_;simp;lia))
   refine K0 ?_
   show wpAny _ A (load s.heap.objs.size>>=_) _ _ _
   refine C0 (wpAny_load g1 (K0 ?_))
   have ev:((#[]:Array Value)++vs.toArray).toList=vs:=`j2
   show R ((#[]:Array Value)++vs.toArray).toList _
   rw[ev]
   exact q _ (λb o e=>(u1.2 b (C1 (S0 e))).trans (F0 _ e)) (S0 g1))⟩)))))
theorem zfo{T:String}{o:Obj}{vs:List Value}{n:Nat}{ss:List Str}(hT:T="list"\/T="tuple")(ho:s.heap.get? l=some o)(hc:o.cls= .type T)(hd:o.data= .seq vs.toArray n)(hS:StrsAre vs ss)(h64:vs.length<64)
 (q:∀(D:Addr) (out:Array Value) (ss':List Str) (h':Heap) (e:Nat),StrsAre out.toList ss'->ss'.Perm ss->sortedS ss'=true->(∀b o,s.heap.get? b=some o->h'.get? b=some o)->s.heap.objs.size<=D->h'.get? D=some (seqObj "list" out e)->Q (.ref D) {s with heap:=h'}):
 wpAny `Y3 A (call (.builtin "sorted") [.ref l]) Q E s:=by
 refine Calls.call_function_entry kind_sorted plain_sorted entry_sorted (args_sorted1 _) ?_
 unfold Builtin.«sorted»
 refine C0 (m:=checkCount "sorted" 1 1 _) (K0 (C0 (ziV hT ho hc hd (by rw[sizeLine_eq];lia) λh1 kp gr0=>?_)))
 refine C0 (wpAny_newList ?_ (by show vs.length<=_;rw[sizeLine_eq];lia))
 have hD:(h1.push (seqObj "list" vs.toArray 0)).get? h1.objs.size=some (seqObj "list" vs.toArray 0):=O0 _ rfl
 have k2:∀b o,s.heap.get? b=some o->(h1.push (seqObj "list" vs.toArray 0)).get? b=some o:=λb o e=>F0 _ (kp b o e)
 have gr:s.heap.objs.size<=h1.objs.size:=W2 gr0
 show wpAny _ _ _ _ _ {s with heap:=h1.push (seqObj "list" vs.toArray 0)}
 refine C0 (wpAny_holding (wpAny_call_entry slot_list_sort ⟨_,hD,rfl⟩ entry_list_sort (list_sort_treeK strKind_oneLt (s:={s with heap:=h1.push (seqObj "list" vs.toArray 0)}) hD hS.keysOf (λv1 v2 rest e=>?_) h64 λst' hp hs=>?_) (args_list_sort _)))
 ·subst e
  exact keyKind_strs hS
 ·obtain ⟨ss',a1,a2,a3⟩:=sorted_out_str hS hp hs
  obtain⟨e,he⟩:=sortedHeap_at (h:=h1.push (seqObj "list" vs.toArray 0)) (vs:=vs) (out:=Array.map (λx=>x.snd) (arrOf st')) hD
  refine⟨_,rfl,K0 ⟨_,rfl,q h1.objs.size _ ss' _ e a1 a2 a3 (λb o hb=>?_) gr he⟩⟩
  have lb:=S0 hb
  rw[sortedHeap_old (C1 (P1 lb gr)) (S0 (k2 b o hb))]
  exact k2 b o hb
def zo9(K:W.Frag):List V->Hp->VK->Prop:=λxs H Q=>∃(p:Addr) (ss:List Str),xs=[.ref p]/\(SqL K H p (ss.map V.str)\/SqT K H p (ss.map V.str))/\ss.length<64/\∀(ss':List Str) l,ss'.Perm ss->sortedS ss'=true->H l=none->Q (.ref l) (upd H l (.lst (ss'.map V.str)))
theorem zel:CallR X (.builtin "sorted") (zo9 X.K):=by
 intro pins s σ H xs us Q I r h
 obtain⟨p,ss,rfl,hq,h64,q⟩:=h
 obtain⟨u,rfl,ru⟩:=zcu r
 cases ru
 have key:∀{its:List Value} {T:String} {o:Obj} {n:Nat},T="list"\/T="tuple"->s.heap.get? p=some o->o.cls= .type T->o.data= .seq its.toArray n->Vals (ss.map V.str) its->wpAny (model X.prog X.w) X.A (call (.builtin "sorted") [.ref p]) (EP X pins σ Q) X.xe s:=by
  intro its T o n hT ho hc hd rv
  have hS:=za6 rv
  have hl:=rv.length
  rw[D0] at hl
  refine zfo hT ho hc hd hS () λD out ss' h' e a1 a2 a3 kp hD he=>?_
  refine⟨.ref D,_,I.laid (a:=D) (o:= .lst (ss'.map V.str)) (t':=s.toks) kp hD ⟨?_,out.toList,e,?_,?_⟩,rfl,q ss' D a2 a3 (I.hok.fresh hD)⟩
  ·rw[D0,a2.length_eq];exact W2 (zn ())
  ·have mk:∀{vs:List Value} {zs:List Str},StrsAre vs zs->Vals (zs.map V.str) vs:=by
    intro vs zs h
    induction h with
    |nil=>exact .nil
    |cons x t _ ih=>exact .cons ⟨t,rfl⟩ ih
   exact mk a1
  ·rw[Array.toArray_toList];exact he
 rcases hq with hq|hq
 ·obtain ⟨its,rv,pl,hz⟩:=I.list hq
  obtain⟨o,ho,hc,n,hd⟩:=pl.isList
  exact key (.inl rfl) ho hc hd rv
 ·obtain ⟨its,rv,pl,hz⟩:=I.tuple hq
  obtain⟨o,ho,hc,n,hd⟩:=pl
  exact key (.inr rfl) ho hc hd rv
end
theorem zim{hs:List Str}:inV (.str x) (hs.map V.str)=hs.any λy=>decide (y=x):=by
 unfold inV
 rw[List.any_map]
 congr 1
theorem zeX{hs:List Str}:(hs.map V.str).all zdM=true:=by
 rw[List.all_map,C2]
 exact λ_ _=>rfl
theorem zoe{xs:List Str}(h:Rep H v (.tup (xs.map D.str))):∃p,v= .ref p/\H p=some (.tup (xs.map V.str)):=by
 obtain⟨p,vs,rfl,hp,r,_⟩:=h.ofT
 refine⟨p,rfl,?_⟩
 have e:vs=xs.map V.str:=by
  apply List.ext_getElem?
  intro i
  rcases U1 i xs.length with hi|hi
  ·have hv:i<vs.length:=by rw[r.1,D0];exact hi
   have:=r.2 i vs[i] (.str xs[i]) (by simp[hv]) (by simp[hi])
   rw[G0 hv,P0,G0 hi]
   generalize vs[i]=z at this
   cases this
   rfl
  ·rw[Q0 (by rw[r.1,D0];exact hi),Q0 (by rw[D0];exact hi)]
 rw[←e];exact hp
theorem zsJ{d1 d2 d3 d4 d5:D}(h:Rep H v (.tup [d1,d2,d3,d4,d5])):∃p x1 x2 x3 x4 x5,v= .ref p/\H p=some (.tup [x1,x2,x3,x4,x5])/\Rep H x1 d1/\Rep H x2 d2/\Rep H x3 d3/\Rep H x4 d4/\Rep H x5 d5:=by
 obtain⟨p,vs,rfl,hp,r,_⟩:=h.ofT
 match vs,r with
 |[x1,x2,x3,x4,x5],r=>exact ⟨p,x1,x2,x3,x4,x5,rfl,hp,r.head.1,r.head.2.head.1,r.head.2.head.2.head.1,r.head.2.head.2.head.2.head.1,r.head.2.head.2.head.2.head.2.head.1⟩
 |[],r=>exact absurd r.1 `j2
 |[_],r=>exact absurd r.1 `j2
 |[_,_],r=>exact absurd r.1 `j2
 |[_,_,_],r=>exact absurd r.1 `j2
 |[_,_,_,_],r=>exact absurd r.1 `j2
 |_::_::_::_::_::_::_,r=>exact absurd r.1 `j2
def zrk(H:Hp)(v:V)(g:Str)(hs:List Str)(ps:List (Str×Str))(lks hds:List D):Prop:=∃p pr pt pl pa vt vl va,v= .ref p/\H p=some (.tup [.str g, .ref pr, .ref pt, .ref pl, .ref pa])/\H pr=some (.tup (hs.map V.str))/\H pt=some (.tup vt)/\RepL H vt (ps.map pairD)/\H pl=some (.tup vl)/\RepL H vl lks/\H pa=some (.tup va)/\RepL H va hds
theorem zeA{hs:List Str}(h:Rep H v (zal g hs ps lks hds)):zrk H v g hs ps lks hds:=by
 obtain⟨p,x1,x2,x3,x4,x5,rfl,hp,r1,r2,r3,r4,r5⟩:=zsJ h
 cases r1 with|str _ _=>
 obtain⟨pr,rfl,hpr⟩:=zoe r2
 obtain⟨pt,vt,rfl,hpt,rt,_⟩:=r3.ofT
 obtain⟨pl,vl,rfl,hpl,rl,_⟩:=r4.ofT
 obtain⟨pa,va,rfl,hpa,ra,_⟩:=r5.ofT
 exact⟨p,pr,pt,pl,pa,vt,vl,va,rfl,hp,hpr,hpt,rt,hpl,rl,hpa,ra⟩
noncomputable def zfp(ps:List (Str×Str))(x:Str):List Str:=(ps.filter λp=>decide (p.2=x)).map (·.1)++(ps.filter λp=>decide (p.1=x)).map (·.2)
theorem ziU{y:Str}:y∈zfp ps x↔(y,x)∈ps\/(x,y)∈ps:=by
 unfold zfp
 rw[N2,V1,V1]
 constructor
 ·rintro (⟨⟨a,b⟩,h,rfl⟩|⟨⟨a,b⟩,h,rfl⟩)
  ·obtain ⟨h1,h2⟩:=F2.mp h
   have h2:b=x:=U0 h2
   subst h2
   exact .inl h1
  ·obtain ⟨h1,h2⟩:=F2.mp h
   have h2:a=x:=U0 h2
   subst h2
   exact .inr h1
 ·rintro (h|h)
  ·exact .inl ⟨(y,x),F2.mpr ⟨h,V0 rfl⟩,rfl⟩
  ·exact .inr ⟨(x,y),F2.mpr ⟨h,V0 rfl⟩,rfl⟩
theorem TownOk.ps_nd{hs:List Str}(T:TownOk g hs ps lks hds):ps.Nodup:=T.riseP.imp λ{a b} h z=>by rw[z,zib] at h;cases h
theorem TownOk.hs_nd{hs:List Str}(T:TownOk g hs ps lks hds):hs.Nodup:=T.rise.imp λ{a b} h z=>by rw[z,zfz] at h;cases h
theorem zkS{hs:List Str}(T:TownOk g hs ps lks hds)(x:Str):(zfp ps x).Nodup:=by
 have nd:=T.ps_nd
 unfold zfp
 rw[List.nodup_append]
 refine⟨?_,?_,?_⟩
 ·rw[List.nodup_iff_pairwise_ne,List.pairwise_map]
  refine List.Pairwise.imp_of_mem (λ{a b} ha hb hab z=>?_) (nd.filter _)
  have h1:a.2=x:=U0 (F2.mp ha).2
  have h2:b.2=x:=U0 (F2.mp hb).2
  exact hab (Prod.ext z (h1.trans h2.symm))
 ·rw[List.nodup_iff_pairwise_ne,List.pairwise_map]
  refine List.Pairwise.imp_of_mem (λ{a b} ha hb hab z=>?_) (nd.filter _)
  have h1:a.1=x:=U0 (F2.mp ha).2
  have h2:b.1=x:=U0 (F2.mp hb).2
  exact hab (Prod.ext (h1.trans h2.symm) z)
 ·intro y hy z hz e
  subst e
  obtain⟨a,ha,rfl⟩:=V1.mp hy
  obtain⟨b,hb,eb⟩:=V1.mp hz
  obtain⟨ha1,ha2⟩:=F2.mp ha
  obtain⟨hb1,hb2⟩:=F2.mp hb
  have h1:a.2=x:=U0 ha2
  have h2:b.1=x:=U0 hb2
  have l1:=(T.ties a ha1).2.2
  have l2:=(T.ties b hb1).2.2
  rw[h1] at l1
  rw[h2,eb] at l2
  have:=zfx l1
  rw[l2] at this
  cases this
theorem zk8{hs:List Str}(T:TownOk g hs ps lks hds){y:Str}(h:y∈zfp ps x):y∈hs:=by
 rcases ziU.mp h with h|h
 ·exact (T.ties _ h).1
 ·exact (T.ties _ h).2.1
theorem zjc{hs:List Str}(T:TownOk g hs ps lks hds)(x:Str):(zfp ps x).length<=10:=K1 (zbP (zkS T x) λy hy=>zk8 T hy) T.ten
structure WayOk(g:Str)(hs:List Str)(ps:List (Str×Str))(ws:List Str):Prop where
 nd:ws.Nodup
 mem:∀x∈ws,x∈hs
 last:∃w0,ws=w0 ++ [g]
 tied:∀(i:Nat) (a b:Str),ws[i]?=some a->ws[i+1]?=some b->b∈zfp ps a
theorem zjD{sel:Str×Str->Bool}{f:Str×Str->Str}{ok:Hp->Prop}{g:TG}{src:List (Option Nat)}{Q:VK}(Iv:St->Prop)(wk:Wk J vs.length (λi x=>vs[i]?=some x) ok)(hok:∀H',Same H H'->ok H')(r:RepL H vs (ps.map pairD))(hl:ps.length<=900)(h0:Iv (zeo src σ))
 (hs:∀(q:Addr) (p:Str×Str) (σ':St) (H1:Hp) (A:V->Hp->St->Prop) (B:St->Hp->Prop),Iv σ'->Same H H1->H1 q=some (.tup [.str p.1, .str p.2])->p∈ps->(∀σ2,Iv σ2->if sel p=true then A (.str (f p)) H1 σ2 else B σ2 H1)->g (.ref q) σ' H1 λσ2 H3=>tc σ2 H3 λb H4=>if b=true then te σ2 H4 (λy H5=>A y H5 σ2)else B σ2 H4)
 (q:∀l H',Same H H'->H l=none->H' l=some (.lst (((ps.filter sel).map f).map V.str))->Q (.ref l) H'):zdU g tc te src σ Q J H:=by
 refine zbB wk (λl i ys σ' H'=>Iv σ'/\ys=(((ps.take i).filter sel).map f).map V.str/\Same H H') ?_ ?_ ?_ ?_
 ·exact λl h'=>⟨h0,rfl,Same.new h'⟩
 ·exact λl i ys σ' H' _ p=>hok H' p.2.2
 ·rintro l i y ys σ' H1 h' hi hy ⟨iv,rfl,s1⟩ hl'
  obtain⟨d,hd,rd⟩:=r.get hy
  rw[P0] at hd
  cases hp:ps[i]? with
  |none=>rw[hp] at hd;cases hd
  |some p=>
   rw[hp] at hd
   cases hd
   obtain⟨q,x,y,rfl,hq,r1,r2⟩:=(rd.same s1).of2
   cases r1 with|str _ _=>
   cases r2 with|str _ _=>
   refine hs q p σ' H1 (λy H5 σ2=>H5 l=some (.lst ((((ps.take i).filter sel).map f).map V.str))/\((((ps.take i).filter sel).map f).map V.str).length<sizeLine/\Iv σ2/\(((ps.take i).filter sel).map f).map V.str ++ [y]=(((ps.take (i+1)).filter sel).map f).map V.str/\Same H (upd H5 l (.lst ((((ps.take i).filter sel).map f).map V.str ++ [y])))) (λσ2 H4=>H4 l=some (.lst ((((ps.take i).filter sel).map f).map V.str))/\Iv σ2/\(((ps.take i).filter sel).map f).map V.str=(((ps.take (i+1)).filter sel).map f).map V.str/\Same H H4) iv s1 hq (W0 hp) λσ2 iv2=>?_
   have tk:((ps.take (i+1)).filter sel)=((ps.take i).filter sel)++ [p].filter sel:=by rw[Q2,hp,List.filter_append];rfl
   cases hsel:sel p with
   |false=>
    refine zbo rfl ⟨hl',iv2,?_,s1⟩
    rw[tk]
    simp[hsel]
   |true=>
    refine zbE rfl ⟨hl',?_,iv2,?_,?_⟩
    ·rw[D0,D0]
     have h2:=List.length_filter_le sel (ps.take i)
     rw[Z1] at h2
     exact zn ()
    ·rw[tk]
     simp[hsel]
    ·exact λc o e=>by
      rw[zc (zh e h')]
      exact s1 _ _ e
 ·rintro l ys σ' H1 h' ⟨iv,rfl,s1⟩ hl'
  have e:ps.length=vs.length:=by rw[r.1,D0]
  rw[←e,List.take_length] at hl'
  exact q l H1 s1 h' hl'
theorem zlK{xs:List Str}(r:RepL H us (xs.map D.str)):us=xs.map V.str:=by
 apply List.ext_getElem?
 intro i
 rcases U1 i xs.length with hi|hi
 ·have hv:i<us.length:=by rw[r.1,D0];exact hi
  have:=r.2 i us[i] (.str xs[i]) (by simp[hv]) (by simp[hi])
  rw[G0 hv,P0,G0 hi]
  generalize us[i]=z at this
  cases this
  rfl
 ·rw[Q0 (by rw[r.1,D0];exact hi),Q0 (by rw[D0];exact hi)]
noncomputable def zw(xs:List Str):List PyData:=xs.map PyData.str
section
variable{es:List D}
end
section
variable{es:List D}{k:Nat}
end
theorem zgv:∀{l m:List Str},l.Pairwise (λa b=>ltS a b=true)->m.Pairwise (λa b=>ltS a b=true)->(∀x,x∈l↔x∈m)->l=m
 |[],[],_,_,_=>rfl
 |[],b::m,_,_,h=>absurd ((h b).mpr D1) j1
 |a::l,[],_,_,h=>absurd ((h a).mp D1) j1
 |a::l,b::m,p,q,h=>by
  obtain⟨p1,p2⟩:=List.pairwise_cons.mp p
  obtain⟨q1,q2⟩:=List.pairwise_cons.mp q
  have e:a=b:=by
   rcases X0.mp ((h a).mp D1)with z|z
   ·exact z
   rcases X0.mp ((h b).mpr D1)with y|y
   ·exact y.symm
   have:=zfx (q1 a z)
   rw[p1 b y] at this;cases this
  subst e
  rw[zgv p2 q2 λx=>⟨λhx=>?_,λhx=>?_⟩]
  ·rcases X0.mp ((h x).mp (Z0 _ hx))with rfl|z
   ·have:=p1 x hx;rw[zfz] at this;cases this
   ·exact z
  ·rcases X0.mp ((h x).mpr (Z0 _ hx))with rfl|z
   ·have:=q1 x hx;rw[zfz] at this;cases this
   ·exact z
noncomputable def dueB(ps:List (Str×Str))(x:Str):D->Bool| .str y=>decide ((x,y)∈ps)||decide ((y,x)∈ps)|_=>false
noncomputable def due(hs:List Str)(ps:List (Str×Str))(x:Str):List Str:=hs.filter λy=>decide ((x,y)∈ps)||decide ((y,x)∈ps)
theorem zqT{hs:List Str}(T:TownOk g hs ps lks hds){ts:List Str}(hp:ts.Perm (zfp ps x))(h:sortedS ts=true):ts=due hs ps x:=by
 refine zgv (ziq ts h (hp.nodup_iff.mpr (zkS T x))) (T.rise.filter _) λy=>?_
 rw[hp.mem_iff,ziU]
 unfold due
 rw[F2,Bool.or_eq_true,V2,V2]
 constructor
 ·rintro (z|z)
  ·exact ⟨(T.ties _ z).1, .inr z⟩
  ·exact ⟨(T.ties _ z).2.1, .inl z⟩
 ·rintro ⟨_,z|z⟩
  ·exact .inr z
  ·exact .inl z
theorem zfj:∀{xs ys:List Str},PyData.eqvAll (zw xs) (zw ys)=decide (xs=ys)
 |[],[]=>by unfold zw;rw[List.map_nil,PyData.eqvAll];rfl
 |[],y::ys=>by unfold zw;rw[List.map_nil,N1,PyData.eqvAll];rfl
 |x::xs,[]=>by unfold zw;rw[List.map_nil,N1,PyData.eqvAll];rfl
 |x::xs,y::ys=>by
  have ih:=zfj (xs:=xs) (ys:=ys)
  unfold zw at ih⊢
  rw[N1,N1,PyData.eqvAll,PyData.eqv,ih,Bool.eq_iff_iff,V2,List.cons.injEq]
  simp
theorem zbb:∀{xs:List Str},PyData.depthAll (zw xs)<=1
 |[]=>by unfold zw;rw[List.map_nil,PyData.depthAll];decide
 |x::xs=>by
  have ih:=zbb (xs:=xs)
  unfold zw at ih⊢
  rw[N1,PyData.depthAll,PyData.depth]
  lia
structure FunD(K:W.Frag)(x qual:Str)(st:Stmt)(f:Addr)(fd:FuncData):Prop where
 ex:∃(oc:Value) (od:Option Addr) (dt:Addr) (kV doc pm:Value) (an:Option Addr) (cdv ct:Value) (osl:Array (Option Value)) (od2:Option Addr) (n2:Nat) (sl2:Array (Option Value)),
  fd=W.fnOf x qual (z4 st) (zL st) (ze st) (.ref dt) kV doc pm an cdv ct/\K.lookup f=some ⟨oc,od, .func fd,osl⟩/\W.codeIn K cdv qual=true/\K.lookup dt=some ⟨.type "tuple",od2, .seq #[.none] n2,sl2⟩
 kp:W.keepIn K (.ref f)=true
section
variable{mg:Str->Option Value}
theorem FunD.okQ{st:Stmt}{ps:List Str}{k:Nat}(F:FunD K x qual st f fd)(S:FnScope N ps (ze st))(len:∀vs H Q E,sp vs H Q E->vs.length=ps.length)
 (hbody:∀(cdv:Value) (A:Around) (outer:List Env) (s:Shared) (H:Hp) (vs:List V) (Q:VK) (E:XK),Room k (A.deeper (envOfC qual (ze st) s.heap.objs.size f cdv))->sp vs H Q E->
   ∃t,QB (zjs CX0 P w K mg base N qual (ze st) f cdv A outer s H E).nox (zL st) t/\t {nx:=λ_ H'=>Q .non H',rt:=Q} (zdP N vs) H):FnOk P w K mg base CX0 (k+1) f fd ps sp:=by
 obtain⟨oc,od,dt,kV,doc,pm,an,cdv,ct,osl,od2,n2,sl2,rfl,lk,hcd,ld⟩:=F.ex
 refine zqE lk hcd S len λA outer s H vs Q E hr hsp=>?_
 obtain⟨t,h,q⟩:=hbody cdv A outer s H vs Q E hr hsp
 exact⟨t,h.o.nox,q⟩
theorem zig{st:Stmt}{dt:Addr}{od2:Option Addr}{sl2:Array (Option Value)}{n2:Nat}{kV:Value}(l:K.lookup f=some ⟨oc,od, .func (W.fnOf x qual (z4 st) (zL st) (ze st) (.ref dt) kV doc pm an cdv ct),osl⟩)
 (ld:K.lookup dt=some ⟨.type "tuple",od2, .seq #[.none] n2,sl2⟩) (c:W.codeIn K cdv qual=true) (k:W.keepIn K (.ref f)=true):FunD K x qual st f (W.fnOf x qual (z4 st) (zL st) (ze st) (.ref dt) kV doc pm an cdv ct):=⟨⟨oc,od,dt,kV,doc,pm,an,cdv,ct,osl,od2,n2,sl2,rfl,l,c,ld⟩,k⟩
theorem FunD.binds{st:Stmt}{ps:List Str}{ds:List Value}(F:FunD K x qual st f fd)(m:Nat)(hm:ps.length=m+ds.length)
 (h:∀(dt:Addr) (kV doc pm:Value) (an:Option Addr) (cdv ct:Value) (us:List Value),us.length=m->∃k:Option (Array Value)->Sem (List (Str×Value)),bindArgs (W.fnOf x qual (z4 st) (zL st) (ze st) (.ref dt) kV doc pm an cdv ct) ⟨us,[]⟩=seqItems? (.ref dt)>>=k/\k (some #[.none])=pure (ps.zip (us ++ds))):Binds K fd ps ds:=by
 obtain⟨oc,od,dt,kV,doc,pm,an,cdv,ct,osl,od2,n2,sl2,rfl,lk,hcd,ld⟩:=F.ex
 intro s us kin hl
 obtain⟨k,e1,e2⟩:=h dt kV doc pm an cdv ct us (by rw[o0] at hl;lia)
 exact BindsTo.of_defaults (T:=dt) rfl (kin _ _ ld) rfl e1 e2
end
structure AtD(K:W.Frag)(mg:Str->Option Value)(x:Str)(st:Stmt)(ps:List Str)(f:Addr)(fd:FuncData):Prop where
 fn:FunD K x x st f fd
 b:Binds K fd ps []
 bd:Binds K fd ps [.none]
 mg:mg x=some (.ref f)
 kp:W.keepIn K (.ref f)=true
variable{mg:Str->Option Value}
noncomputable def zR(O:List Str):D->Bool| .tup [_, .str x]=>decide (x∈O)|_=>true
noncomputable def za5(O:List Str):D->Bool| .tup [.str w,e]=>if w="not"then zR O e else zR O (.tup [.str w,e])|_=>true
noncomputable def zp1(O:List Str):D->Bool| .tup ds=>ds.all (za5 O)|_=>true
noncomputable def zgk(O:List Str):D->Bool| .tup [c,t]=>zp1 O c&&zR O t|_=>true
noncomputable def zbJ(O:List Str):D->Bool| .tup ds=>ds.all (zgk O)|_=>true
structure Pool(hs:List Str)(lks hds:List D)(O:List Str):Prop where
 few:O.length<=14
 nm:∀x∈O,zi x=true
 hs:∀x∈hs,x∈O
 lk:∀d∈lks,zbJ O d=true
 hd:∀d∈hds,zbJ O d=true
variable{hs:List Str}
noncomputable def zh3(O:List Str)(d:D):Bool:=zJ d&&zgk O d
noncomputable def zhT(O:List Str)(d:D):Bool:=zbd d&&zgk O d
theorem zbf{y:D}(h:x∈O):zR O (.tup [y, .str x])=true:=V0 h
theorem zhX{w:Str}{e:D}(h:zB (.tup [.str w,e])=true)(hp:zR O (.tup [.str w,e])=true):za5 O (.tup [.str w,e])=true:=by
 show(if w="not"then _ else _)=true
 by_cases z:w="not"
 ·subst z;rw[zdF] at h;cases h
 ·rw[N0 z];exact hp
theorem zms(h:zB d=true)(hp:zR O d=true):za5 O d=true:=by
 obtain⟨x,e,rfl⟩:=zbY d h
 exact zhX h hp
theorem zj5(hp:zR O d=true):za5 O (.tup [.str "not",d])=true:=by
 show(if("not":Str)="not"then zR O d else zR O (.tup [.str "not",d]))=true
 rw[T0 rfl];exact hp
theorem zhl{t:D}(h:∀d∈ds,za5 O d=true)(ht:zR O t=true):zgk O (.tup [.tup ds,t])=true:=by
 show(ds.all (za5 O)&&zR O t)=true
 rw[C2.mpr h,ht];rfl
theorem zeg{P:Program}{w:World}:∀{es:List DictEntry} {kvs:List (Key×Value)},Pairs (zM P w) es kvs->Vals (kvs.map λkv=>kV kv.1) (es.map (·.key))
 |_,_, .nil=> .nil
 |_,_, .cons (e:=e) (kv:=kv) h1 h2 h3=>by
  refine .cons ?_ (zeg h3)
  have h1:zf9 kv.1 e.key=true:=h1
  rcases zV h1 with⟨i,t,a,b⟩|⟨x,t,a,b⟩
  ·show RelV (kV kv.1) e.key
   rw[a,b];exact⟨t,rfl⟩
  ·show RelV (kV kv.1) e.key
   rw[a,b];exact⟨t,rfl⟩
theorem zem:∀{kvs:List (Key×V)} {vs:List (Key×Value)},KV kvs vs->kvs.map (·.1)=vs.map (·.1)
 |_,_, .nil=>rfl
 |_,_, .cons h t=>by rw[N1,N1,h.1,zem t]
noncomputable def phB(ws ms:List Str)(to:Option Str)(w:Str)(x:D):Bool:=
 if w="by"then (match x with| .str y=>ws.any λz=>decide (z=y)|_=>false)
 else if w="from"then (match x with| .str y=>decide (ws[1]?=some y)|_=>false)
 else if w="to"then (match x with| .str y=>decide (to=some y)|_=>false)
 else if w="mark"then (match x with| .str y=>ms.any λz=>decide (z=y)|_=>false)
 else(match x with| .int i=>decide (i<(ws.length:Int))|_=>false)
noncomputable def ze2(ws ms:List Str)(to:Option Str):D->Bool| .tup [.str w,x]=>phB ws ms to w x|_=>false
noncomputable def zcU(ws ms:List Str)(to:Option Str):D->Bool| .tup [.str w,x]=>if w="not"then !ze2 ws ms to x else phB ws ms to w x|_=>false
def TO0(v:V)(to:Option Str):Prop:=(v= .non/\to=none)\/∃x,v= .str x/\to=some x/\zi x=true
theorem zaG{e:D}(h:zB (.tup [.str x,e])=true):(x="long"/\∃i:Int,e= .int i/\0<=i/\i<=99)\/(x∈zbF/\∃y,e= .str y/\zi y=true):=by
 rw[zeB] at h
 by_cases z:x="long"
 ·rw[T0 z] at h
  cases e with
  |int i=>
   have h:(decide (0<=i)&&decide (i<=99))=true:=h
   rw[a0,V2,V2] at h
   exact .inl ⟨z,i,rfl,h.1,h.2⟩
  |_=>cases h
 ·rw[N0 z,a0] at h
  obtain⟨h1,h2⟩:=h
  obtain⟨y,hy,ey⟩:=List.any_eq_true.mp h1
  have ey:y=x:=U0 ey
  subst ey
  cases e with
  |str y'=>exact .inr ⟨hy,y',rfl,h2⟩
  |_=>cases h2
theorem zer(h:x∈zbF):x="by"\/x="from"\/x="to"\/x="mark":=by
 unfold zbF at h
 simpa using h
theorem zss{to:Option Str}{y:Str}:phB ws ms to "by" (.str y)=ws.any λz=>decide (z=y):=by
 unfold phB;rw[T0 rfl]
theorem zpS{to:Option Str}{y:Str}:phB ws ms to "from" (.str y)=decide (ws[1]?=some y):=by
 unfold phB;rw[N0 `Z2,T0 rfl]
theorem zsb{to:Option Str}{y:Str}:phB ws ms to "to" (.str y)=decide (to=some y):=by
 unfold phB;rw[N0 `Z2,N0 `Z2,T0 rfl]
theorem zoU{to:Option Str}{y:Str}:phB ws ms to "mark" (.str y)=ms.any λz=>decide (z=y):=by
 unfold phB;rw[N0 `Z2,N0 `Z2,N0 `Z2,T0 rfl]
theorem zpr{to:Option Str}{i:Int}:phB ws ms to "long" (.int i)=decide (i<(ws.length:Int)):=by
 unfold phB;rw[N0 `Z2,N0 `Z2,N0 `Z2,N0 `Z2]
theorem TO0.eq{to:Option Str}{y:Str}(h:TO0 v to):zqQ v (.str y)=true/\decide (v= .str y)=decide (to=some y):=by
 rcases h with⟨rfl,rfl⟩|⟨x,rfl,rfl,_⟩
 ·exact ⟨rfl,rfl⟩
 ·refine ⟨rfl,?_⟩
  rw[zcx,Bool.eq_iff_iff,V2,V2,Option.some.injEq]
theorem zkM{p:Addr}{xs:List Str}(e:H p=some (.tup (xs.map V.str)))(h:∀x∈xs,PyData.strOk x=true):Tr H (.ref p) (.tuple (zw xs)):=by
 refine .tup e (by unfold zw;rw[D0,D0]) λi v d e1 e2=>?_
 unfold zw at e2
 rw[P0] at e1 e2
 cases e3:xs[i]? with
 |none=>rw[e3] at e1;cases e1
 |some x=>
  rw[e3] at e1 e2
  cases e1
  cases e2
  exact .str x (h x (W0 e3))
theorem zdD{xs ys:List Str}:(PyData.tuple (zw xs)).eqv (.tuple (zw ys))=decide (xs=ys):=by
 rw[PyData.eqv,zfj]
theorem zfl{xs:List Str}:(PyData.tuple (zw xs)).depth<=60:=by
 have:=zbb (xs:=xs)
 rw[PyData.depth]
 lia
noncomputable def zeG(c:D->Bool)(g:List Str->List Str->Option Str->D->Bool):Sp:=λvs H Q _=>∃(v:V) (d:D) (pw pm:Addr) (vt:V) (ws ms:List Str) (to:Option Str),vs=[v, .ref pw, .ref pm,vt]/\Rep H v d/\c d=true/\H pw=some (.tup (ws.map V.str))/\H pm=some (.tup (ms.map V.str))/\TO0 vt to/\(∀x∈ws,zi x=true)/\(∀x∈ms,zi x=true)/\1<=ws.length/\ws.length<=100/\ms.length<=100/\∀H',Same H H'->Q (.bl (g ws ms to d)) H'
theorem zgB{c:D}(h:zan c=true):∃cs,c= .tup cs/\cs.length<=4/\∀d∈cs,zA d=true:=by
 cases c with
 |tup cs=>
  rw[zju,a0] at h
  exact⟨cs,rfl,U0 h.1,C2.mp h.2⟩
 |_=>cases h
theorem zkb{f:D->D->Bool}(h:(match d with| .tup [c,x]=>f c x|_=>false)=true):∃c x,d= .tup [c,x]/\f c x=true:=by
 split at h
 ·exact ⟨_,_,rfl,h⟩
 ·cases h
theorem zhk(h:zJ d=true):∃cs x,d= .tup [.tup cs,x]/\cs.length<=4/\(∀c∈cs,zA c=true)/\(x= .non\/∃i,x= .int i):=by
 unfold zJ at h
 obtain⟨c,x,rfl,h⟩:=zkb (f:=λc x=>zan c&&zbm x&&!zek c) h
 rw[a0,a0] at h
 obtain⟨cs,rfl,h4,hc⟩:=zgB h.1.1
 refine⟨cs,x,rfl,h4,hc,?_⟩
 have hx:=h.1.2
 cases x with
 |non=>exact .inl rfl
 |int i=>exact .inr ⟨i,rfl⟩
 |_=>cases hx
theorem zj4{x:D}(h:zbV x=true):(x= .tup [.str "keep"])\/∃w y,x= .tup [.str w, .str y]/\(w="put"\/w="strike")/\zi y=true:=by
 unfold zbV at h
 split at h
 ·rename_i w
  exact .inl (by rw[U0 h])
 ·rename_i w y
  rw[a0,Bool.or_eq_true] at h
  have h2:=h.2
  cases y with
  |str y=>exact .inr ⟨w,y,rfl,h.1.imp U0 U0,h2⟩
  |_=>cases h2
 ·cases h
theorem zh9(h:zbd d=true):∃cs x,d= .tup [.tup cs,x]/\cs.length<=4/\(∀c∈cs,zA c=true)/\zbV x=true:=by
 unfold zbd at h
 obtain⟨c,x,rfl,h⟩:=zkb (f:=λc x=>zan c&&zbV x) h
 rw[a0] at h
 obtain⟨cs,rfl,h4,hc⟩:=zgB h.1
 exact⟨cs,x,rfl,h4,hc,h.2⟩
theorem zlS{t:D}(h:zgk O (.tup [.tup cs,t])=true):(∀c∈cs,za5 O c=true)/\zR O t=true:=by
 have h:(cs.all (za5 O)&&zR O t)=true:=h
 rw[a0] at h
 exact⟨C2.mp h.1,h.2⟩
section
variable{es:List D}{k:Nat}
end
theorem zfd:∀{vs:List Value} {ys:List Str},StrsAre vs ys->vs.length=ys.length/\∀(i:Nat) (y:Str),ys[i]?=some y->∃t,vs[i]?=some (.str y t)
 |_,_, .nil=>⟨rfl,λi y h=>by simp at h⟩
 |_,_, .cons y t r=>by
  obtain⟨h1,h2⟩:=zfd r
  refine⟨by simp[h1],λi z h=>?_⟩
  cases i with
  |zero=>cases h;exact⟨t,rfl⟩
  |succ i=>exact h2 i z h
theorem index_tup{t:Addr}{ys:List Str}(ht:IsTup s.heap t items)(hS:StrsAre items.toList ys)(hj:ys[j]?=some x)(hb:∀i<j,ys[i]?≠some x)
 (h:∀(t':Tok) (k:Nat),Q (.int j t') {s with toks:=k}):wpAny `Y3 A (call (.builtin "tuple.index") [.ref t, .str x tk]) Q E s:=by
 refine wpAny_call_entry F.slot_tuple_index ht.typeIs F.entry_tuple_index ?_ (F.args_tuple_index_2 _ _)
 unfold Builtin.«tuple.index»
 refine C0 (m:=selfAndSome "tuple.index" "index" 1 3 _) (K0 ?_)
 dsimp only
 refine C0 (tupleItemsOf_ ht ?_)
 refine C0 (K0 ?_)
 refine C0 (K0 ?_)
 obtain⟨hl,hg⟩:=zfd hS
 have hjn:j<items.size:=by
  rw[←Array.length_toList,hl]
  rcases U1 j ys.length with z|z
  ·exact z
  ·rw[Q0 z] at hj;cases hj
 rw[Std.Legacy.Range.forIn_eq_forIn_range']
 refine C0 (wpAny_forIn_list _ (λl b s'=>∃i,l=List.range' i (items.size -i) 1/\i<=j/\b=(none,Unit.unit)/\s'=s) _ ?_ ?_ _ _ ?_)
 ·rintro a rest b s' ⟨i,el,hij,rfl,rfl⟩
  obtain⟨m,em⟩:∃m,items.size -i=m+1:=⟨items.size -i -1,()⟩
  rw[em,List.range'_succ] at el
  have ea:=(List.cons.inj el).1
  have er:=(List.cons.inj el).2
  subst er
  rw[ea]
  have hiy:i<ys.length:=by rw[←hl,Array.length_toList];lia
  obtain⟨t1,e1⟩:=hg i ys[i] (by simp[hiy])
  have e2:items[i]?=some (.str ys[i] t1):=by rw[←Array.getElem?_toList];exact e1
  rw[e2]
  dsimp only
  refine C0 (wpAny_eqBool_str ?_)
  rcases U1 i j with z|z
  ·have ne:¬ys[i]=x:=λy=>hb i z (by rw[←y];simp[hiy])
   rw[b0 ne]
   exact K0 ⟨i+1,by rw[show items.size -(i+1)=m by lia],(),rfl,rfl⟩
  ·have ei:i=j:=()
   subst ei
   have ey:ys[i]=x:=by
    have:ys[i]?=some ys[i]:=by simp[hiy]
    rw[this] at hj;exact O1 hj
   rw[V0 ey]
   refine C0 (m:=retInt _) (C0 (wpAny_mkInt (K0 (K0 ?_))))
   exact K0 ⟨_,rfl,h _ _⟩
 ·rintro b s' ⟨i,el,hij,rfl,rfl⟩
  have:=T2 List.length el
  rw[List.length_range',List.length_nil] at this
  lia
 ·exact ⟨0,by simp[Std.Legacy.Range.size],T1 _,rfl,rfl⟩
def zoR(K:W.Frag):V->List V->Hp->VK->Prop:=λx vs H Q=>∃(p:Addr) (ys:List Str) (y:Str) (j:Nat),x= .ref p/\vs=[.str y]/\SqT K H p (ys.map V.str)/\ys[j]?=some y/\(∀i<j,ys[i]?≠some y)/\Q (.int (j:Int)) H
theorem zhu:MtR X "tuple.index" (zoR X.K):=by
 intro pins s σ H x xs v us Q I rx rs h
 obtain⟨p,ys,y,j,rfl,rfl,hq,hj,hb,q⟩:=h
 cases rx
 obtain⟨u,rfl,ru⟩:=zcu rs
 obtain⟨t,rfl⟩:=ru
 obtain⟨its,rv,pl,hz⟩:=I.tuple hq
 exact index_tup pl (by simpa using za6 rv) hj hb λt' k=>⟨.int _,H,I.tok _,⟨_,rfl⟩,q⟩
theorem znV(nd:hs.Nodup)(h1:hs[i]?=some x)(h2:hs[j]?=some x):i=j:=by
 have lt:∀{k:Nat},hs[k]?=some x->k<hs.length:=λ{k} z=>by
  rcases U1 k hs.length with y|y
  ·exact y
  ·rw[Q0 y] at z;cases z
 have l1:=lt h1
 have l2:=lt h2
 rw[G0 l1] at h1
 rw[G0 l2] at h2
 have e:hs[i]=hs[j]:=(O1 h1).trans (O1 h2).symm
 have pw:=List.pairwise_iff_getElem.mp nd
 rcases Nat.lt_trichotomy i j with z|z|z
 ·exact absurd e (pw i j l1 l2 z)
 ·exact z
 ·exact absurd e.symm (pw j i l2 l1 z)
theorem zi1(nd:hs.Nodup)(h:hs[j]?=some x):∀i<j,hs[i]?≠some x:=λi hi z=>by
 have:=znV nd z h
 lia
noncomputable def zeY(ws ms:List Str)(to:Option Str)(cs:List D):Bool:=cs.all (zcU ws ms to)
noncomputable def zho:D->List D| .tup [.tup cs,_]=>cs|_=> []
noncomputable def zna:D->D| .tup [_,t]=>t|_=> .non
noncomputable def zH(ws ms:List Str):List D->D
 |[]=> .int 0
 |r::rs=>if zeY ws ms none (zho r)=true then zna r else zH ws ms rs
noncomputable def zjM:Sp:=λvs H Q _=>∃(v:V) (cs:List D) (pw pm:Addr) (vt:V) (ws ms:List Str) (to:Option Str),vs=[v, .ref pw, .ref pm,vt]/\Rep H v (.tup cs)/\(∀c∈cs,zA c=true)/\H pw=some (.tup (ws.map V.str))/\H pm=some (.tup (ms.map V.str))/\TO0 vt to/\(∀x∈ws,zi x=true)/\(∀x∈ms,zi x=true)/\1<=ws.length/\ws.length<=100/\ms.length<=100/\∀H',Same H H'->Q (.bl (zeY ws ms to cs)) H'
noncomputable def zse:Sp:=λvs H Q _=>∃(v:V) (x:Str) (g:Str) (hs:List Str) (ps:List (Str×Str)) (lks hds:List D) (j:Nat),vs=[v, .str x]/\Rep H v (zal g hs ps lks hds)/\TownOk g hs ps lks hds/\hs[j]?=some x/\∀(vr:V) (d:D),lks[j]?=some d->Rep H vr d->Q vr H
noncomputable def zhN:Sp:=λvs H Q _=>∃(v:V) (pw pm:Addr) (x:Str) (ws ms:List Str) (g:Str) (hs:List Str) (ps:List (Str×Str)) (lks hds:List D) (j:Nat) (rs:List D),vs=[v, .ref pw, .ref pm]/\Rep H v (zal g hs ps lks hds)/\TownOk g hs ps lks hds/\hs[j]?=some x/\lks[j]?=some (.tup rs)/\H pw=some (.tup ((x::ws).map V.str))/\H pm=some (.tup (ms.map V.str))/\(∀y∈x::ws,zi y=true)/\(∀y∈ms,zi y=true)/\ws.length<=90/\ms.length<=100/\∀(u:V) (H':Hp),Rep H' u (zH (x::ws) ms rs)->Same H H'->Q u H'
theorem zrr(T:TownOk g hs ps lks hds)(h:x∈hs):∃(j:Nat) (rs:List D),hs[j]?=some x/\lks[j]?=some (.tup rs)/\rs.length<=90/\∀r∈rs,zJ r=true:=by
 obtain⟨j,hj,e⟩:=y1 h
 have hl:j<lks.length:=by rw[T.ll];exact hj
 have hlk:=T.likes lks[j] (List.getElem_mem hl)
 cases hd:lks[j] with
 |tup rs=>
  rw[hd] at hlk
  have h:(decide (rs.length<=90)&&rs.all zJ)=true:=hlk
  rw[a0] at h
  exact⟨j,rs,by rw[G0 hj,e],by rw[G0 hl,hd],U0 h.1,C2.mp h.2⟩
 |_=>rw[hd] at hlk;cases hlk
theorem zkQ{rs:List α}{d:α}(h:rs[i]?=some d):rs.drop i=d::rs.drop (i+1):=by
 have hi:i<rs.length:=by
  rcases U1 i rs.length with y|y
  ·exact y
  ·rw[Q0 y] at h;cases h
 rw[List.drop_eq_getElem_cons hi]
 rw[G0 hi] at h
 rw[O1 h]
mutual
noncomputable def okD:D->Bool
 | .str x=>PyData.strOk x
 | .tup ds=>okL ds
 | .oth=>false
 | .non=>true
 | .bl _=>true
 | .int _=>true
noncomputable def okL:List D->Bool
 |[]=>true
 |d::ds=>okD d&&okL ds
end
mutual
noncomputable def pyD:D->PyData
 | .non=> .none
 | .bl b=> .bool b
 | .int i=> .int i
 | .str x=> .str x
 | .tup ds=> .tuple (pyL ds)
 | .oth=> .none
noncomputable def pyL:List D->List PyData
 |[]=> []
 |d::ds=>pyD d::pyL ds
end
theorem zfI:∀{ds:List D},pyL ds=ds.map pyD
 |[]=>by rw[pyL];rfl
 |d::ds=>by rw[pyL,N1,zfI]
theorem zlc:∀{ds:List D},okL ds=true->∀d∈ds,okD d=true
 |[],_,_,z=>nomatch z
 |d::ds,h,e,he=>by
  rw[okL,a0] at h
  rcases X0.mp he with rfl|he
  ·exact h.1
  ·exact zlc h.2 e he
theorem znb:∀{ds:List D},(∀d∈ds,okD d=true)->okL ds=true
 |[],_=>by rw[okL]
 |d::ds,h=>by rw[okL,h d D1,znb λe he=>h e (Z0 _ he)];rfl
noncomputable def leS(a b:Str):Bool:=!ltS b a
noncomputable def srt(l:List Str):List Str:=l.mergeSort leS
theorem zmO(a b c:Str)(h1:leS a b=true)(h2:leS b c=true):leS a c=true:=by
 unfold leS at *
 rw[Bool.not_eq_true'] at *
 cases h:ltS c a with
 |false=>rfl
 |true=>
  by_cases e:a=b
  ·subst e;rw[h] at h2;cases h2
  ·have ab:ltS a b=true:=zcS (λz=>e z.symm) h1
   have:=zgC h ab
   rw[this] at h2;cases h2
theorem zpv(a b:Str):(leS a b||leS b a)=true:=by
 unfold leS
 cases h:ltS b a with
 |false=>rfl
 |true=>rw[zfx h];rfl
theorem zdf(l:List Str):(srt l).Perm l:=List.mergeSort_perm l leS
noncomputable def zat(t:List Str)(w m:Str):List Str:=t.filter (λx=>!decide (x=m))++(if w="put"then [m] else [])
theorem zl6{w m:Str}(nd:t.Nodup):(zat t w m).Nodup:=by
 unfold zat
 rw[List.nodup_append]
 refine⟨nd.filter _,?_,?_⟩
 ·split<;>simp
 ·intro a ha b hb e
  split at hb
  ·rw[X1.mp hb] at e
   have:=(F2.mp ha).2
   rw[e] at this
   simp at this
  ·cases hb
theorem zlQ{w m:Str}(h:∀x∈t,x∈O)(hm:m∈O):∀x∈zat t w m,x∈O:=by
 unfold zat
 refine List.forall_mem_append.mpr ⟨λx hx=>h x (F2.mp hx).1,λx hx=>?_⟩
 split at hx
 ·rw[X1.mp hx];exact hm
 ·cases hx
noncomputable def zfe(t:List Str)(w m:Str):List Str:=srt (zat t w m)
structure Mk0(O t:List Str):Prop where
 nd:t.Nodup
 mem:∀x∈t,x∈O
theorem Mk0.next{w m:Str}(h:Mk0 O t)(hm:m∈O):Mk0 O (zfe t w m) where
 nd:=(zdf _).nodup_iff.mpr (zl6 h.nd)
 mem:=λx hx=>zlQ h.mem hm x ((zdf _).mem_iff.mp hx)
theorem Mk0.len(h:Mk0 O t)(hO:O.length<=14):t.length<=14:=K1 (zbP h.nd h.mem) hO
noncomputable def zD(ws:List Str)(to:Option Str):List D->List Str->Option (List Str)
 |[],t=>some t
 |r::rs,t=>if zeY ws t to (zho r)=true then(match zna r with| .tup [.str w, .str m]=>zD ws to rs (zfe t w m)|_=>none)else zD ws to rs t
def zoK(O:List Str)(rs:List D):Prop:=rs.length<=90/\∀r∈rs,∃cs x,r= .tup [.tup cs,x]/\(∀c∈cs,zA c=true)/\(x= .tup [.str "keep"]\/∃w m,x= .tup [.str w, .str m]/\(w="put"\/w="strike")/\m∈O)
theorem zlG(h:za7 d=true)(hi:zbJ O d=true):∃rs,d= .tup rs/\zoK O rs:=by
 cases d with
 |tup rs=>
  have h:(decide (rs.length<=90)&&rs.all zbd)=true:=h
  rw[a0] at h
  refine⟨rs,rfl,U0 h.1,λr hr=>?_⟩
  obtain⟨cs,x,rfl,h4,hc,hx⟩:=zh9 (C2.mp h.2 r hr)
  obtain⟨h1,h2⟩:=zlS (C2.mp hi _ hr)
  refine⟨cs,x,rfl,hc,?_⟩
  rcases zj4 hx with rfl|⟨w,y,rfl,hw,_⟩
  ·exact .inl rfl
  ·exact .inr ⟨w,y,rfl,hw,U0 h2⟩
 |_=>cases h
def zsa(H:Hp)(u:V):Option (List Str)->Prop
 |none=>u= .non
 |some t=>∃p,u= .ref p/\H p=some (.tup (t.map V.str))
noncomputable def zsl:Sp:=λvs H Q _=>∃(v:V) (x:Str) (g:Str) (hs:List Str) (ps:List (Str×Str)) (lks hds:List D) (j:Nat),vs=[v, .str x]/\Rep H v (zal g hs ps lks hds)/\TownOk g hs ps lks hds/\hs[j]?=some x/\∀(vr:V) (d:D),hds[j]?=some d->Rep H vr d->Q vr H
theorem znd(T:TownOk g hs ps lks hds)(h:x∈hs):∃(j:Nat) (d:D),hs[j]?=some x/\hds[j]?=some d/\d∈hds:=by
 obtain⟨j,hj,e⟩:=y1 h
 have hl:j<hds.length:=by rw[T.lh];exact hj
 exact⟨j,hds[j],by rw[G0 hj,e],G0 hl,List.getElem_mem hl⟩
noncomputable def neD(m:Str):D->Bool| .str z=>!decide (z=m)|_=>false
theorem zrN{m:Str}:((t.map D.str).filter (neD m)).map (λd=>d)=(t.filter λx=>!decide (x=m)).map D.str:=by
 rw[List.map_id',List.filter_map];rfl
section
open PySem.W
section
open PySem.SeqAt
open PySem.AutoSeq1 (wpAny_loadPart')
open PySem.MeetsSeq PySem.MeetsSeq2 PySem.MeetsSeq3
theorem zcW(l b:Addr)(n n2:Nat)(dd dd2:Option Addr)(sl sl2:Array (Option Value))(xs ys:List Value)(k:Nat)(res:Bool):
 Meets (Builtin.«tuple.__lt__» ⟨[.ref l, .ref b],[]⟩) (λA R s=>s.heap.get? l=some {cls:= .type "tuple",dict:=dd,data:= .seq xs.toArray n,slots:=sl}/\s.heap.get? b=some {cls:= .type "tuple",dict:=dd2,data:= .seq ys.toArray n2,slots:=sl2}/\
  (∀prog w i x y,i<k->xs[i]?=some x->ys[i]?=some y->∀(E:Value->Shared->Prop) (Q:Bool->Shared->Prop),Q true s->wpAny `Y3 A.in1 (eqBool x y) Q E s)/\k<=xs.length/\k<=ys.length/\
  ((k=min xs.length ys.length/\res=decide (xs.length<ys.length))\/∃x y,xs[k]?=some x/\ys[k]?=some y/\(∀prog w (E:Value->Shared->Prop) (Q:Bool->Shared->Prop),Q false s->wpAny `Y3 A.in1 (eqBool x y) Q E s)/\∀prog w (E:Value->Shared->Prop) (Q:Value->Shared->Prop),Q (.bool res) s->wpAny `Y3 A.in1 (richCompare .Lt x y) Q E s)/\
  R (.ok (.ret (.bool res))) s):=
 .of_wp λprog w A R s h=>by
  obtain⟨hp,g,d,tk,os⟩:=s
  obtain⟨hl,hb,he,k1,k2,hk,h⟩:=h
  have f2:=AutoSeq1.sub_tuple_tuple
  wp_walk using wpAny_loadPart' hl,wpAny_loadPart' hb,wpAny_forIn_list _ (λrest b s'=>b.1=none/\s'=⟨hp,g,d,tk,os⟩/\∃i,i<=k/\rest=(xs.zip ys).drop i) _
  case turn=>
   rintro⟨p,q⟩ rest b s' ⟨hb',rfl,i,hi,hr⟩
   have hx:(xs.zip ys)[i]?=some (p,q):=by
    have:=T2 (λl=>l[0]?) hr
    simpa[List.getElem?_drop] using this.symm
   rw[List.getElem?_zip_eq_some] at hx
   have hr2:rest=(xs.zip ys).drop (i+1):=by
    have:=T2 List.tail hr
    simpa using this
   rcases U1 i k with z|z
   ·refine C0 (he prog w i p q z hx.1 hx.2 _ _ ?_)
    wp_walk
    exact⟨rfl,rfl,i+1,z,hr2⟩
   ·have ei:i=k:=()
    subst ei
    rcases hk with⟨hm,_⟩|⟨x,y,ex,ey,f1,f3⟩
    ·have h1:i<xs.length:=by
      rcases U1 i xs.length with y|y
      ·exact y
      ·rw[Q0 y] at hx;cases hx.1
     have h2:i<ys.length:=by
      rcases U1 i ys.length with y|y
      ·exact y
      ·rw[Q0 y] at hx;cases hx.2
     lia
    ·rw[hx.1] at ex
     rw[hx.2] at ey
     cases ex
     cases ey
     refine C0 (f1 prog w _ _ ?_)
     have c1:=f3 prog w
     wp_walk using c1
     exact⟨_,rfl,h⟩
  case fin=>
   rintro⟨b1,b2⟩ s' ⟨hb',rfl,i,hi,hr⟩
   simp only at hb'
   subst hb'
   have hlen:(xs.zip ys).length<=i:=by
    have:=T2 List.length hr
    rw[List.length_nil,List.length_drop] at this
    lia
   rw[List.length_zip] at hlen
   rcases hk with⟨hm,hres⟩|⟨x,y,ex,ey,_⟩
   ·wp_walk
    rw[hres] at h
    exact⟨_,rfl,h⟩
   ·have h1:k<xs.length:=by
     rcases U1 k xs.length with y|y
     ·exact y
     ·rw[Q0 y] at ex;cases ex
    have h2:k<ys.length:=by
     rcases U1 k ys.length with z|z
     ·exact z
     ·rw[Q0 z] at ey;cases ey
    lia
  case h=>
   exact⟨rfl,rfl,0,T1 _,`j2⟩
end
noncomputable def ltL:List Str->List Str->Bool
 |[],[]=>false
 |[],_::_=>true
 |_::_,[]=>false
 |x::xs,y::ys=>if x=y then ltL xs ys else ltS x y
theorem zne:∀(ps qs:List Str),∃k,k<=ps.length/\k<=qs.length/\(∀i<k,ps[i]?=qs[i]?)/\((k=min ps.length qs.length/\ltL ps qs=decide (ps.length<qs.length))\/∃x y,ps[k]?=some x/\qs[k]?=some y/\x≠y/\ltL ps qs=ltS x y)
 |[],[]=>⟨0,R0 _,R0 _,λi z=>absurd z (Nat.not_lt_zero _), .inl ⟨rfl,rfl⟩⟩
 |[],q::qs=>⟨0,R0 _,T1 _,λi z=>absurd z (Nat.not_lt_zero _), .inl ⟨`j2,by rw[ltL];simp⟩⟩
 |p::ps,[]=>⟨0,T1 _,R0 _,λi z=>absurd z (Nat.not_lt_zero _), .inl ⟨`j2,by rw[ltL];simp⟩⟩
 |p::ps,q::qs=>by
  by_cases e:p=q
  ·subst e
   obtain⟨k,k1,k2,he,hk⟩:=zne ps qs
   refine⟨k+1,by simp;lia,by simp;lia,λi hi=>?_,?_⟩
   ·cases i with
    |zero=>rfl
    |succ i=>exact he i ()
   ·rw[ltL,T0 rfl]
    rcases hk with⟨h1,h2⟩|⟨x,y,h1,h2,h3,h4⟩
    ·exact .inl ⟨by simp;lia,by rw[h2];simp⟩
    ·exact .inr ⟨x,y,by simpa using h1,by simpa using h2,h3,h4⟩
  ·exact ⟨0,T1 _,T1 _,λi z=>absurd z (Nat.not_lt_zero _), .inr ⟨p,q,rfl,rfl,e,by rw[ltL,N0 e]⟩⟩
theorem zep{ps:List Str}(r:Vals (ps.map V.str) its){v:Value}(h:its[i]?=some v):∃p t,ps[i]?=some p/\v= .str p t:=by
 have hi:i<its.length:=by
  rcases U1 i its.length with z|z
  ·exact z
  ·rw[Q0 z] at h;cases h
 have hp:i<ps.length:=by have:=r.length;rw[D0] at this;lia
 obtain⟨u,hu,ru⟩:=r.get (i:=i) (x:= .str ps[i]) (by rw[P0,G0 hp];rfl)
 rw[hu] at h
 cases h
 obtain⟨t,rfl⟩:=ru
 exact⟨ps[i],t,G0 hp,rfl⟩
theorem zi6{ps:List Str}(r:Vals (ps.map V.str) its):its.length=ps.length:=by have:=r.length;rw[D0] at this;exact this.symm
theorem znF{b:Addr}{ps qs:List Str}{its2:List Value}(ra:Vals (ps.map V.str) its)(rb:Vals (qs.map V.str) its2)(ha:IsTup s.heap a its.toArray)(hb:IsTup s.heap b its2.toArray)(hu:A.units<cLine)
 (q:Q (.bool (ltL ps qs)) s):wpAny `Y3 A (richCompare .Lt (.ref a) (.ref b)) Q E s:=by
 obtain⟨⟨c1,d1,e1,f1⟩,ho,hc,n,hd⟩:=id ha
 obtain⟨⟨c2,d2,e2,f2⟩,ho2,hc2,n2,hd2⟩:=id hb
 simp only at hc hd hc2 hd2
 subst hc hd hc2 hd2
 obtain⟨k,k1,k2,he,hk⟩:=zne ps qs
 have l1:=zi6 ra
 have l2:=zi6 rb
 refine richCompare_meets_room (op:= .Lt) ⟨_,ho,rfl⟩ ⟨_,ho2,rfl⟩ F.slot_tuple_lt F.entry_tuple_lt (F.args_tuple_lt_2 _ _) (zcW a b n n2 d1 d2 f1 f2 its its2 k (ltL ps qs)) ⟨ho,ho2,?_,(),(),?_,?_⟩ hu
 ·intro prog w i x y hi hx hy E Q hq
  obtain⟨p,t,hp,rfl⟩:=zep ra hx
  obtain⟨q',t',hp',rfl⟩:=zep rb hy
  have e:p=q':=by
   have:=he i hi
   rw[hp,hp'] at this;exact O1 this
  refine wpAny_eqBool_str ?_
  rw[V0 e];exact hq
 ·rcases hk with⟨h1,h2⟩|⟨x,y,h1,h2,h3,h4⟩
  ·exact .inl ⟨(),by rw[h2,l1,l2]⟩
  ·have hx:k<its.length:=by
    rw[l1]
    rcases U1 k ps.length with z|z
    ·exact z
    ·rw[Q0 z] at h1;cases h1
   have hy:k<its2.length:=by
    rw[l2]
    rcases U1 k qs.length with z|z
    ·exact z
    ·rw[Q0 z] at h2;cases h2
   obtain⟨p,t,hp,e1⟩:=zep ra (G0 hx)
   obtain⟨q',t',hp',e2⟩:=zep rb (G0 hy)
   rw[h1] at hp
   rw[h2] at hp'
   cases hp
   cases hp'
   refine .inr ⟨_,_,G0 hx,G0 hy,λprog w E Q hq=>?_,λprog w E Q hq=>?_⟩
   ·rw[e1,e2]
    refine wpAny_eqBool_str ?_
    rw[b0 h3];exact hq
   ·rw[e1,e2]
    rw[h4] at hq
    exact(PyProof.Rows.lt_str hq:wpAny `Y3 A.in1 (compareOp .Lt (.str x t) (.str y t')) Q E s)
 ·exact ⟨(λx=>nomatch x),q⟩
noncomputable def ltK(k1 k2:Int×Int×List Str):Bool:=if k1.1=k2.1 then(if k1.2.1=k2.2.1 then ltL k1.2.2 k2.2.2 else decide (k1.2.1<k2.2.1))else decide (k1.1<k2.1)
def zr9(H:Hp)(x:V)(k:Int×Int×List Str):Prop:=∃a p,x= .ref a/\H a=some (.tup [.int k.1, .int k.2.1, .ref p])/\H p=some (.tup (k.2.2.map V.str))/\∀y∈k.2.2,PyData.strOk y=true
theorem zhD:∀(ps:List Str),ltL ps ps=false
 |[]=>rfl
 |p::ps=>by rw[ltL,T0 rfl];exact zhD ps
theorem zri{x z:V}{us:List Value}(r:Vals [x,y,z] us):∃a b c,us=[a,b,c]/\RelV x a/\RelV y b/\RelV z c:=by
 cases r with
 |cons h1 r=>cases r with
  |cons h2 r=>cases r with
   |cons h3 r=>
    cases r
    exact⟨_,_,_,rfl,h1,h2,h3⟩
end
noncomputable def zqr:Sp:=λvs H Q _=>∃(v:V) (pw pm:Addr) (x:Str) (ws ms:List Str) (g:Str) (hs:List Str) (ps:List (Str×Str)) (lks hds:List D) (j:Nat) (rs:List D) (i:Int),vs=[v, .ref pw, .ref pm]/\Rep H v (zal g hs ps lks hds)/\TownOk g hs ps lks hds/\hs[j]?=some x/\lks[j]?=some (.tup rs)/\H pw=some (.tup ((x::ws).map V.str))/\H pm=some (.tup (ms.map V.str))/\(∀y∈x::ws,zi y=true)/\(∀y∈ms,zi y=true)/\ws.length<=90/\ms.length<=100/\zH (x::ws) ms rs= .int i/\∀(u:V) (H':Hp),zr9 H' u (-i,((x::ws).length:Int),x::ws)->Same H H'->Q u H'
section
variable{e st:Expr}{ts:TE}{p1 p2:Pos}
end
section
variable{es:List D}
end
noncomputable def Itd(d:Addr)(o:Obj)(u:HO)(ks:List V):It:=⟨λi H=>i<ks.length/\H d=some (.frz o u),λi H x H'=>H'=H/\ks[i]?=some x,λi H=>ks.length<=i/\H d=some (.frz o u)⟩
theorem zqo{d:Addr}{o:Obj}{u:HO}{ks:List V}:Wk (Itd d o u ks) ks.length (λi x=>ks[i]?=some x) (λH=>H d=some (.frz o u)) where
 stop:=λi H h l=>⟨l,h⟩
 go:=λi H h l=>⟨l,h⟩
 yld:=λi H x H' h l y=>y
theorem zo1(d it:Addr)(hne:d≠it)(o:Obj)(u:HO)(vs:List V)(ks:List Value)(ep:Nat)(es:Array DictEntry)(ex:o.ExactDict)(dat:o.data= .dict es ep)(hes:es.toList.map (·.key)=ks)(rel:∀(i:Nat) (v:V),vs[i]?=some v->∃u,ks[i]?=some u/\RelV v u)(hl:vs.length=ks.length):
 Turn P w K tg (Itd d o u vs) [it] it (λi h=>i<=ks.length/\h.IsKeyIter it d i ks.length ep) where
 mem:=`j2
 obj:=λi h st b hb=>by
  obtain⟨_,o,e,c,dd⟩:=st
  have:b=it:=by simpa using hb
  subst this
  exact⟨o,e,λv z=>by rw[dd] at z;cases z⟩
 keep:=λi h h' st k=>⟨st.1,st.2.at λo e=>k it `j2 o e⟩
 item:=by
  intro X hP hw hK hc i pins s σ H E I hf st hg
  subst hP hw hK
  have hi:i<vs.length:=hg.1
  have raw:RawD s.heap d ks ep:=⟨o,es,((show ObjOk X.prog X.w H s.heap d (.frz o u)from I.hok d _ hg.2)).1,ex,dat,hes⟩
  obtain⟨u',hu,ru⟩:=rel i vs[i] (by simp[hi])
  obtain⟨f0,f1,f2,f3,f4,f5⟩:=hf it `j2
  refine ziF st.2 raw hu λh' st' sb=>?_
  have I1:Inv X pins σ H {s with heap:=h'}:=I.turned (t':=s.toks) (λb o hb e=>(sb.2 b hb).trans e) f0 f1 f3 f4 f5
  obtain⟨o2,e,c,dd⟩:=id st'
  exact⟨u',rfl,ziD (s:={s with heap:=h'}) e c dd ⋯ ⟨vs[i],H,I1,ru,⟨rfl,by simp[hi]⟩,⟨(),st'⟩,λb hb=>(hf b hb).1⟩⟩
 done:=by
   intro X hP hw hK hc i pins s σ H E I hf st hg
   subst hP hw hK
   have hi:vs.length<=i:=hg.1
   have raw:RawD s.heap d ks ep:=⟨o,es,((show ObjOk X.prog X.w H s.heap d (.frz o u)from I.hok d _ hg.2)).1,ex,dat,hes⟩
   have ei:i=ks.length:=by have:=st.1;lia
   subst ei
   obtain⟨f0,f1,f2,f3,f4,f5⟩:=hf it `j2
   exact zk6 (I.ok.hd hc) st.2 raw λh' eb=>⟨rfl,I.turned (t':=s.toks) (λb o hb e=>eb b o hb e) f0 f1 f3 f4 f5⟩
 self:=λ_ _ _ _ _ st h=>wpAny_pyIter_keyiter st.2 h
section
variable{e i o:Expr}{td ty:TE}{p1 p2:Pos}
theorem zc4(hu:X.A.units+1<cLine)(ho:QE X o td)(hi:QE X i ty)(hs:autoParam (zrI i) w6):QE X (.Subscript o i pos) (zqD td ty):=⟨zo5 hu ho.o hi.o hs⟩
end
theorem zmM:∀{ps qs rs:List Str},ltL ps qs=true->ltL qs rs=true->ltL ps rs=true
 |[],[],_,h,_=>by rw[ltL] at h;cases h
 |_::_,[],_,h,_=>by rw[ltL] at h;cases h
 |_,_::_,[],_,h=>by rw[ltL] at h;cases h
 |[],_::_,_::_,_,_=>by rw[ltL]
 |p::ps,q::qs,r::rs,h1,h2=>by
  rw[ltL] at h1 h2⊢
  by_cases z:p=q
  ·subst z
   rw[T0 rfl] at h1
   by_cases y:p=r
   ·subst y
    rw[T0 rfl] at h2⊢
    exact zmM h1 h2
   ·rw[N0 y] at h2⊢
    exact h2
  ·rw[N0 z] at h1
   by_cases y:q=r
   ·subst y
    rw[N0 z];exact h1
   ·rw[N0 y] at h2
    have h3:=zgC h1 h2
    rw[N0 (zjN h3)]
    exact h3
theorem zpN(k:Int×Int×List Str):ltK k k=false:=by
 unfold ltK
 rw[T0 rfl,T0 rfl];exact zhD _
theorem zn3{k1 k2 k3:Int×Int×List Str}(h1:ltK k1 k2=true)(h2:ltK k2 k3=true):ltK k1 k3=true:=by
 unfold ltK at *
 by_cases z:k1.1=k2.1
 ·rw[T0 z] at h1
  by_cases z2:k2.1=k3.1
  ·rw[T0 z2] at h2
   rw[T0 (z.trans z2)]
   by_cases y:k1.2.1=k2.2.1
   ·rw[T0 y] at h1
    by_cases y2:k2.2.1=k3.2.1
    ·rw[T0 y2] at h2
     rw[T0 (y.trans y2)]
     exact zmM h1 h2
    ·rw[N0 y2] at h2
     rw[N0 (by rw[y];exact y2)]
     have:=U0 h2
     exact V0 ()
   ·rw[N0 y] at h1
    have h1:=U0 h1
    by_cases y2:k2.2.1=k3.2.1
    ·rw[N0 ()]
     exact V0 ()
    ·rw[N0 y2] at h2
     have h2:=U0 h2
     rw[N0 ()]
     exact V0 ()
  ·rw[N0 z2] at h2
   have h2:=U0 h2
   rw[N0 ()]
   exact V0 ()
 ·rw[N0 z] at h1
  have h1:=U0 h1
  by_cases z2:k2.1=k3.1
  ·rw[N0 ()]
   exact V0 ()
  ·rw[N0 z2] at h2
   have h2:=U0 h2
   rw[N0 ()]
   exact V0 ()
theorem zpg{k1 k2:Int×Int×List Str}(h:ltK k1 k2=true):ltK k2 k1=false:=by
 cases e:ltK k2 k1 with
 |false=>rfl
 |true=>have:=zn3 h e;rw[zpN] at this;cases this
noncomputable abbrev WM:=List Str×List Str
noncomputable def wI(rs:List D)(e:WM):Int:=match zH e.1 e.2 rs with| .int a=>a|_=>0
noncomputable def kE(rs:List D)(e:WM):Int×Int×List Str:=(-(wI rs e),(e.1.length:Int),e.1)
mutual
theorem zpe:∀d:D,(pyD d).eqv (pyD d)=true
 | .non=>by rw[pyD,PyData.eqv]
 | .bl b=>by rw[pyD,PyData.eqv];simp
 | .int i=>by rw[pyD,PyData.eqv];simp
 | .str x=>by rw[pyD,PyData.eqv];simp
 | .tup ds=>by rw[pyD,PyData.eqv];exact zll ds
 | .oth=>by rw[pyD,PyData.eqv]
theorem zll:∀ds:List D,PyData.eqvAll (pyL ds) (pyL ds)=true
 |[]=>by rw[pyL,PyData.eqvAll]
 |d::ds=>by rw[pyL,PyData.eqvAll,zpe d,zll ds];rfl
end
theorem zdk{n:Nat}:∀{xs:List PyData},(∀x∈xs,x.depth<=n)->PyData.depthAll xs<=n
 |[],_=>by rw[PyData.depthAll];exact T1 _
 |x::xs,h=>by
  rw[PyData.depthAll]
  have h1:=h x D1
  have h2:=zdk (n:=n) λy hy=>h y (Z0 _ hy)
  lia
def SqH(t:Bool)(h:Heap)(a:Addr)(items:Array Value):Prop:=if t then h.IsTuple a items else h.IsList a items
def ItH(t:Bool)(h:Heap)(it a:Addr)(i:Nat):Prop:=if t then h.IsTupleIter it a i else h.IsListIter it a i
structure ZpA(z TI TO i1 i2:Addr):Prop where
 TIz:TI≠z
 TOz:TO≠z
 i1z:i1≠z
 i2z:i2≠z
 TITO:TI≠TO
 TIi1:TI≠i1
 TIi2:TI≠i2
 TOi1:TO≠i1
 TOi2:TO≠i2
 i12:i1≠i2
section
variable{R:Result->Shared->Prop}{it:Value}
end
section
variable{src:List (Option Nat)}{g:TG}
end
def zr7(v:V)(y:Str):Prop:=v= .str y\/∃i:Int,v= .int i/\y=(toString i:String)/\i.natAbs.log2<1920
section
variable{e:Expr}{ts:List TE}
structure QP1(X:Cx)(e:Expr)(te:TE):Prop where
 o:∀(pins:List (Addr×Obj)) (s:Shared) (σ:St) (H:Hp) (Q:Str->Hp->Prop),Inv X pins σ H s->(te σ H λv H1=>∃y,zr7 v y/\y.length<=sizeLine/\Q y H1)->
  wpAny (model X.prog X.w) X.A (eval e X.env) (λu s1=>∃y t H1,u= .str y t/\Inv X pins σ H1 s1/\Q y H1) X.xe s
inductive QJ(X:Cx):List Expr->List TE->Prop
 |nil:QJ X [] []
 |cons {e:Expr} {t:TE} {es:List Expr} {ts:List TE} (h:QP1 X e t) (r:QJ X es ts):QJ X (e::es) (t::ts)
end
theorem zfE(x y:Str):(x ++y).length=x.length+y.length:=Array.size_append
noncomputable def zsq(i:Int):Str:=(toString i:String)
theorem zpk:∀n∈List.range 1999,(zsq ((n:Int) -999)).length<=4:=`Z2
theorem znP{i:Int}(h1: -999<=i)(h2:i<=999):(zsq i).length<=4:=by
 have:=zpk (i+999).toNat (List.mem_range.mpr ())
 rwa[show(((i+999).toNat:Nat):Int) -999=i by lia] at this
theorem zlN{i:Int}(h1: -999<=i)(h2:i<=999):i.natAbs.log2<1920:=by
 have h:i.natAbs<1000:=()
 rcases Nat.eq_zero_or_pos i.natAbs with z|z
 ·rw[z];decide
 ·exact Nat.lt_trans ((Nat.log2_lt ()).mpr (show i.natAbs<2^10 by lia)) ⋯
theorem zsf{sep y:Str}{r:List Str}:Str.join sep (x::y::r)=x ++sep ++Str.join sep (y::r):=rfl
theorem zi5{sep:Str}{c m:Nat}(hs:sep.length<=m):∀{xs:List Str},(∀x∈xs,x.length<=c)->(Str.join sep xs).length<=xs.length*(c+m)
 |[],_=>by show(Str.empty).length<=_;exact T1 _
 |[x],h=>by show x.length<=1*(c+m);have:=h x `j2;lia
 |x::y::r,h=>by
  rw[zsf,zfE,zfE]
  have h1:=h x `j2
  have h2:=zi5 hs (xs:=y::r) λz hz=>h z (Z0 _ hz)
  rw[J1,Nat.add_mul,Nat.one_mul]
  lia
theorem zcb:entryFor table "dict.update.loop"=some Builtin.«dict.update.loop»:=entryFor_of_tree (by kernel_rfl)
theorem zar:plainId "dict.update.loop"=true:=`Z2
section
variable{K:Type}[DecidableEq K]{knd:KeyKind prog w K}
noncomputable def dzAt(ks:Nat->K)(yv:Nat->Value)(i:Nat):List (K×Value):=(List.range i).map λk=>(ks k,yv k)
theorem zmq{ks:Nat->K}{n:Nat}(hi:i<n)(nd:((List.range n).map ks).Nodup):stored (dzAt ks yv i) (ks i) (yv i)=dzAt ks yv (i+1):=by
 have hany:¬((dzAt ks yv i).any λkv=>decide (kv.1=ks i))=true:=by
  rw[List.any_eq_true]
  rintro⟨kv,hkv,he⟩
  obtain⟨k,hk,rfl⟩:=V1.mp hkv
  have hk:=List.mem_range.mp hk
  have he:ks k=ks i:=U0 he
  have:=List.pairwise_iff_getElem.mp nd k i (by simp;lia) (by simp;lia) hk
  simp at this
  exact this he
 rw[stored,N0 hany]
 unfold dzAt
 rw[List.range_succ,E2];rfl
structure DzAt(h:Heap)(knd:KeyKind prog w K)(t1 t2:Bool)(z TI i1 i2 l1 l2 d:Addr)(xs ys:Array Value)(kvs:List (K×Value))(i:Nat):Prop where
 TI:IsPair h TI (.ref i1) (.ref i2)
 p1:ItH t1 h i1 l1 i
 p2:ItH t2 h i2 l2 i
 q1:SqH t1 h l1 xs
 q2:SqH t2 h l2 ys
 dd:h.DictOf knd d kvs
structure DzD(z TI TO0 i1 i2 l1 l2 d:Addr):Prop extends ZipApart z TI TO0 i1 i2 l1 l2 where
 dz:d≠z
 dTI:d≠TI
 di1:d≠i1
 di2:d≠i2
 dl1:d≠l1
 dl2:d≠l2
 TIl1:True
end
noncomputable def zew(hs:List Str)(ys:List V):List (Key×V):=(hs.zip ys).map λp=>(Sum.inr p.1,p.2)
theorem boot_dict:bootBuiltins "dict"=some (.type "dict"):=by kernel_rfl
theorem zqR(hl:ys.length=hs.length)(r:Vals ys its):KV (zew hs ys) (dzAt (λk=>(Sum.inr (hs.getD k ""):Key)) (λk=>its.getD k .none) hs.length):=by
 induction hs generalizing ys its with
 |nil=>cases ys with
  |nil=>exact .nil
  |cons y ys=>simp at hl
 |cons h hs ih=>cases ys with
  |nil=>simp at hl
  |cons y ys=>cases r with
   | @cons _ u _ us r1 r2=>
     have:=ih (by simpa using hl) r2
     unfold dzAt at this⊢
     rw[J1,List.range_succ_eq_map,N1,List.map_map]
     exact .cons ⟨rfl,r1⟩ this
theorem zpf(hl:List Str):(List.range hl.length).map (λk=>(Sum.inr (hl.getD k ""):Key))=hl.map Sum.inr:=by
 apply List.ext_getElem?
 intro i
 rw[P0,P0]
 rcases U1 i hl.length with h|h
 ·rw[List.getElem?_range h,G0 h]
  simp[List.getD,h]
 ·rw[Q0 h,Q0 (by rw[List.length_range];exact h)];rfl
def Shw(c k:Nat)(d:D):Prop:=okD d=true/\(pyD d).showable=true/\(pyD d).depth<=k/\(pyD d).shown.length<=c
theorem Shw.mono{k k':Nat}(h:Shw c k d)(h1:c<=c')(h2:k<=k'):Shw c' k' d:=⟨h.1,h.2.1,K1 h.2.2.1 h2,K1 h.2.2.2 h1⟩
theorem zlu(h:PyData.strOk x=true)(hl:x.length<=8):Shw 82 1 (.str x):=by
 refine⟨by rw[okD];exact h,by rw[pyD,PyData.showable],by rw[pyD,PyData.depth];lia,?_⟩
 rw[pyD,PyData.shown]
 have hc:∀c∈x.cps.toList,c<16^8:=λc hc=>by
  unfold PyData.strOk at h
  rw[Array.all_eq_true'] at h
  have:=U0 (h c (Array.mem_toList_iff.mp hc))
  lia
 have:=StrLaws.reprText_len x hc
 lia
theorem zly{i:Int}(h1: -999<=i)(h2:i<=999):Shw 82 1 (.int i):=by
 refine⟨by rw[okD],by rw[pyD,PyData.showable];exact V0 (zlN h1 h2),by rw[pyD,PyData.depth];lia,?_⟩
 rw[pyD,PyData.shown]
 exact K1 (znP h1 h2) ⋯
theorem zoL:Shw 82 1 .non:=by
 refine⟨by rw[okD],by rw[pyD,PyData.showable],by rw[pyD,PyData.depth];lia,?_⟩
 rw[pyD,PyData.shown];decide
theorem zdb:∀{xs:List PyData},(∀x∈xs,x.showable=true)->PyData.showableAll xs=true
 |[],_=>by rw[PyData.showableAll]
 |x::xs,h=>by rw[PyData.showableAll,h x D1,zdb λy hy=>h y (Z0 _ hy)];rfl
theorem zeC:∀{xs:List PyData},PyData.shownAll xs=xs.map PyData.shown
 |[]=>by rw[PyData.shownAll];rfl
 |x::xs=>by rw[PyData.shownAll,N1,zeC]
theorem zba{k:Nat}(m:Nat)(hm:ds.length<=m)(h:∀d∈ds,Shw c k d):Shw (m*(c+2)+3) (k+1) (.tup ds):=by
 refine⟨by rw[okD];exact znb λd hd=>(h d hd).1,?_,?_,?_⟩
 ·rw[pyD,PyData.showable,zfI]
  exact zdb λx hx=>by obtain⟨d,hd,rfl⟩:=V1.mp hx;exact(h d hd).2.1
 ·rw[pyD,PyData.depth,zfI]
  have:=zdk (n:=k) (xs:=ds.map pyD) λx hx=>by obtain⟨d,hd,rfl⟩:=V1.mp hx;exact(h d hd).2.2.1
  lia
 ·rw[pyD,PyData.shown,zfI,zeC,List.map_map]
  have hc:∀x∈ds.map (PyData.shown∘pyD),x.length<=c:=λx hx=>by obtain⟨d,hd,rfl⟩:=V1.mp hx;exact(h d hd).2.2.2
  have jl:=zi5 (sep:=", ") (m:=2) ⋯ hc
  rw[D0] at jl
  unfold tupleText
  rw[zfE,zfE]
  have l1:("(":Str).length=1:=rfl
  have l2:(Str.ofString (if(ds.map (PyData.shown∘pyD)).length==1 then",)"else ")")).length<=2:=by split<;>decide
  have:ds.length*(c+2)<=m*(c+2):=Nat.mul_le_mul_right _ hm
  rw[l1]
  have l2':(Str.ofString (if(ds.map (PyData.shown∘pyD)).length==1 then",)"else ")":String)).length<=2:=l2
  lia
theorem zgF(h:zi x=true):Shw 82 1 (.str x):=zlu (zaD h) (by
 unfold zi at h
 simp only[a0,decide_eq_true_eq] at h
 lia)
theorem zcL{a b:D}{k:Nat}(ha:Shw c k a)(hb:Shw c k b):Shw (2*(c+2)+3) (k+1) (.tup [a,b]):=zba 2 (R0 2) λd hd=>by
 simp only[X0,j1,or_false] at hd
 rcases hd with rfl|rfl
 ·exact ha
 ·exact hb
theorem zdq{w:Str}(h:w∈(["by","from","to","mark","long","not","keep","put","strike"]:List Str)):Shw 82 1 (.str w):=by
 simp only[X0,j1,or_false] at h
 rcases h with rfl|rfl|rfl|rfl|rfl|rfl|rfl|rfl|rfl<;>exact zlu `Z2 ⋯
theorem zg8(h:zB d=true):Shw 171 2 d:=by
 obtain⟨w,e,rfl⟩:=zbY d h
 rcases zaG h with⟨rfl,i,rfl,i0,i9⟩|⟨hn,y,rfl,hy⟩
 ·exact zcL (zdq ⋯) (zly () ())
 ·exact zcL (zdq (by rcases zer hn with rfl|rfl|rfl|rfl<;>decide)) (zgF hy)
theorem zoy(h:zA d=true):Shw 349 3 d:=by
 obtain⟨w,e,rfl⟩:=zhj d h
 rw[zes] at h
 by_cases z:w="not"
 ·subst z
  rw[T0 rfl] at h
  exact zcL ((zdq ⋯).mono ⋯ ⋯) (zg8 h)
 ·rw[N0 z] at h
  exact(zg8 h).mono ⋯ ⋯
theorem zhv(hl:cs.length<=4)(h:∀c∈cs,zA c=true):Shw 1407 4 (.tup cs):=zba 4 hl λc hc=>zoy (h c hc)
theorem zmi(h:zbm d=true):Shw 82 1 d:=by
 cases d with
 |non=>exact zoL
 |int i=>
  have h:(decide ((-999:Int)<=i)&&decide (i<=999))=true:=h
  rw[a0] at h
  exact zly (U0 h.1) (U0 h.2)
 |_=>cases h
theorem zpl(h:zbV d=true):Shw 171 2 d:=by
 rcases zj4 h with rfl|⟨w,y,rfl,hw,hy⟩
 ·exact (zba (ds:=[.str "keep"]) (c:=82) (k:=1) 1 (R0 1) λd hd=>by rw[X1.mp hd];exact zdq ⋯).mono ⋯ ⋯
 ·exact zcL (zdq (by rcases hw with rfl|rfl<;>decide)) (zgF hy)
theorem ziJ(h:zbl d=true):Shw 254073 6 d:=by
 cases d with
 |tup rs=>
  have h:(decide (rs.length<=90)&&rs.all zJ)=true:=h
  rw[a0] at h
  refine zba (c:=2821) (k:=5) 90 (U0 h.1) λr hr=>?_
  have hk:=C2.mp h.2 r hr
  unfold zJ at hk
  obtain⟨c,x,rfl,hk⟩:=zkb (f:=λc x=>zan c&&zbm x&&!zek c) hk
  rw[a0,a0] at hk
  obtain⟨cs,rfl,h4,hc⟩:=zgB hk.1.1
  exact zcL (zhv h4 hc) ((zmi hk.1.2).mono ⋯ ⋯)
 |_=>cases h
theorem zl3(h:za7 d=true):Shw 254073 6 d:=by
 cases d with
 |tup rs=>
  have h:(decide (rs.length<=90)&&rs.all zbd)=true:=h
  rw[a0] at h
  refine zba (c:=2821) (k:=5) 90 (U0 h.1) λr hr=>?_
  obtain⟨cs,x,rfl,h4,hc,hx⟩:=zh9 (C2.mp h.2 r hr)
  exact zcL (zhv h4 hc) ((zpl hx).mono ⋯ ⋯)
 |_=>cases h
theorem zmY(T:TownOk g hs ps lks hds)(hp:ps.length<=1000):Shw 12703778 8 (zal g hs ps lks hds):=by
 have hn:∀x∈hs,Shw 82 1 (.str x):=λx hx=>zgF (T.names x hx)
 refine zba (c:=2540753) (k:=7) 5 (R0 5) λd hd=>?_
 simp only[X0,j1,or_false] at hd
 rcases hd with rfl|rfl|rfl|rfl|rfl
 ·exact (hn g T.goal).mono ⋯ ⋯
 ·exact (zba 10 (by rw[D0];exact T.ten) λd hd=>by obtain⟨x,hx,rfl⟩:=V1.mp hd;exact hn x hx).mono ⋯ ⋯
 ·exact (zba 1000 (by rw[D0];exact hp) λd hd=>by
   obtain⟨p,hp,rfl⟩:=V1.mp hd
   obtain⟨t1,t2,_⟩:=T.ties p hp
   exact zcL (hn _ t1) (hn _ t2)).mono ⋯ ⋯
 ·exact zba 10 (by rw[T.ll];exact T.ten) λd hd=>ziJ (T.likes d hd)
 ·exact zba 10 (by rw[T.lh];exact T.ten) λd hd=>zl3 (T.hands d hd)
section
open PySem.W
section
variable{N:Nat}{lt:Nat->Nat->Bool}
end
theorem zjf:∀{a b:List Str},a≠b->ltL a b=false->ltL b a=true
 |[],[],h,_=>absurd rfl h
 |[],_::_,_,e=>by cases e
 |_::_,[],_,_=>rfl
 |x::xs,y::ys,h,e=>by
  rw[ltL] at e⊢
  by_cases z:x=y
  ·rw[T0 z] at e;rw[T0 z.symm];exact zjf (λq=>h (by rw[z,q])) e
  ·rw[N0 z] at e;rw[N0 (Ne.symm z)];exact zcS z e
end
section
variable{o:Expr}{to:TE}{T id:String}{r:V->List V->Hp->VK->Prop}
end
noncomputable def zpA:List Str->Bool
 |[a,b,w]=>zi a&&zi b&&(if w="equal"then ltS a b else decide (w="over")&&!decide (a=b))
 |_=>false
noncomputable def zky(r:List Str):List Str:=srt (r.take 2)
structure KinOk(rs:List (List Str)):Prop where
 row:∀r∈rs,zpA r=true
 rise:rs.Pairwise (λa b=>ltL a b=true)
 ties:(rs.map zky).Nodup
noncomputable def pr(a b:Str):List Str:=srt [a,b]
noncomputable abbrev at_(xs:List Str)(i:Nat):Str:=xs.getD i ""
structure KD62(xs:List Str)(ps:List (Nat×Nat))(k:Nat)(rs:List (List Str)):Prop where
 row:∀r∈rs,zpA r=true
 nd:(rs.map zky).Nodup
 few:rs.length<=k
 old:∀r∈rs,∃q∈ps.take k,q.1<q.2/\zky r=pr (at_ xs q.1) (at_ xs q.2)
section
variable{P P':D->Prop}{n:Nat}
end
noncomputable def zsN:D->List D| .tup rs=>rs|_=> []
noncomputable def zo:List Str->List D->Str->List D
 |h::hs,d::ds,x=>if h=x then zsN d else zo hs ds x
 |_,_,_=> []
theorem zfy{x:Str}{rs:List D}:∀{hs:List Str} {ds:List D} {j:Nat},hs.Nodup->hs[j]?=some x->ds[j]?=some (.tup rs)->zo hs ds x=rs
 |[],_,j,_,h1,_=>by simp at h1
 |h::hs,[],j,_,_,h2=>by simp at h2
 |h::hs,d::ds,0,_,h1,h2=>by
  simp at h1 h2
  subst h1 h2
  rw[zo,T0 rfl];rfl
 |h::hs,d::ds,j+1,nd,h1,h2=>by
  simp only[List.getElem?_cons_succ] at h1 h2
  rw[D2] at nd
  have hne:¬h=x:=λe=>nd.1 (e▸W0 h1)
  rw[zo,N0 hne]
  exact zfy nd.2 h1 h2
noncomputable def zbU:D->Bool| .non=>true|_=>false
theorem zo3{u:V}(r:Rep H u d):decide (u=V.non)=zbU d:=by
 cases r<;>first|rfl|exact b0 (λz=>by cases z)
structure Mr(O t:List Str):Prop extends Mk0 O t where
 rise:t.Pairwise (λa b=>ltS a b=true)
section
variable{P:List α->Prop}
theorem of1(h:∀a,P [a]):∀us:List α,us.length=1->P us
 |[a],_=>h a
theorem of2(h:∀a b,P [a,b]):∀us:List α,us.length=2->P us
 |[a,b],_=>h a b
theorem of3(h:∀a b c,P [a,b,c]):∀us:List α,us.length=3->P us
 |[a,b,c],_=>h a b c
theorem of4(h:∀a b c d,P [a,b,c,d]):∀us:List α,us.length=4->P us
 |[a,b,c,d],_=>h a b c d
end
section
variable{R:Result->Shared->Prop}{n:Nat}{P:Nat->Value->Prop}{St:Nat->Heap->Prop}
end
section
open PySem.W PyProof.V
end
section
variable{R:Result->Shared->Prop}{n:Nat}{P:Nat->Value->Prop}{St:Nat->Heap->Prop}
end
section
open PySem.W PyProof.V
end
section
variable{R:Result->Shared->Prop}{it:Value}{d:Addr}
end
section
variable{src:List (Option Nat)}{g:TG}{tk:TE}{y:Str}{k:Nat}
end
theorem Inv.frzK{d:Addr}{o:Obj}(I:Inv X pins σ H s)(e:H d=some (.dK kvs))(g:s.heap.get? d=some o):Inv X pins σ (upd H d (.frz o (.dK kvs))) s where
 ok:=I.ok
 os:=I.os
 bare:=I.bare
 base:={
  keep:=I.base.keep
  slot:=I.base.slot
  free:=λb o h1 h2 h3=>by
   have:=I.base.free b o h1 h2 h3
   rw[zc λz=>by rw[z,e] at this;cases this];exact this
  there:=I.base.there
  tups:=λb xs h=>by
   have:=I.base.tups b xs h
   rw[zc λz=>by rw[z,e] at this;cases this];exact this
  frzs:=λb o u h=>by
   have:=I.base.frzs b o u h
   rw[zc λz=>by rw[z,e] at this;cases this];exact this
  tbls:=λb ps h=>by
   obtain⟨more,this⟩:=I.base.tbls b ps h
   exact⟨more,by rw[zc λz=>by rw[z,e] at this;cases this];exact this⟩}
 loc:=I.loc
 cell:=I.cell
 free:=by
  have:=I.free
  rw[zc λz=>by rw[z,e] at this;cases this];exact this
 freeC:=λx c h=>by
  have:=I.freeC x c h
  rw[zc λz=>by rw[z,e] at this;cases this];exact this
 pin:=λp hp=>by
  obtain⟨h1,h2,h3⟩:=I.pin p hp
  exact⟨h1,by rw[zc λz=>by rw[z,e] at h2;cases h2];exact h2,h3⟩
 hok:=λa o' h=>by
  have st:∀{u:HO},ObjOk X.prog X.w H s.heap a u->ObjOk X.prog X.w (upd H d (.frz o (.dK kvs))) s.heap a u:=λx=>x.stay (λ_ _ _ q=>q) (λb q=>by rw[zc λz=>by rw[z,e] at q;cases q];exact q) (λb xs q=>by rw[zc λz=>by rw[z,e] at q;cases q];exact q)
  by_cases z:a=d
  ·subst z
   rw[zb] at h
   cases h
   exact⟨g,st (I.hok a _ e)⟩
  ·rw[zc z] at h
   exact st (I.hok a _ h)
 len:=I.len
noncomputable def zrA(tl:TE):TI:=λσ H R=>tl σ H λx H1=>∃d kvs,x= .ref d/\H1 d=some (.dK kvs)/\∀(o:Obj),(kvs.map (·.1)).Nodup->R (Itd d o (.dK kvs) (kvs.map λkv=>kV kv.1)) (upd H1 d (.frz o (.dK kvs)))
theorem zoC{l:Expr}(hl:QE X l tl):QI X tg l (zrA tl):=⟨by
 intro pins s σ H R I h
 refine thn (hl.o pins s σ H _ I h) λv s1 zq=>?_
 obtain⟨x,H1,I1,r1,q1⟩:=zq
 obtain⟨d,kvs,rfl,e,q⟩:=q1
 cases r1
 obtain⟨hz,nsys,vs,rel,o,es,ep,g,ex,dat,ko,pr,nd⟩:=zf0 I1.hok e
 have raw:RawD s1.heap d (es.toList.map (·.key)) ep:=⟨o,es,g,ex,dat,rfl⟩
 have vk:Vals (kvs.map λkv=>kV kv.1) (es.toList.map (·.key)):=by
  have h1:=zeg pr
  have h2:kvs.map (λkv=>kV kv.1)=vs.map λkv=>kV kv.1:=by
   have:=zem rel
   have:=T2 (List.map kV) this
   rw[List.map_map,List.map_map] at this
   exact this
  rw[h2];exact h1
 have nd':(kvs.map (·.1)).Nodup:=by rw[zem rel];exact nd
 have dlt:d<s1.heap.objs.size:=S0 g
 refine ziT nsys raw ?_
 refine⟨s1.heap.objs.size,[s1.heap.objs.size],_,_,upd H1 d (.frz o (.dK kvs)),rfl,(I1.frzK e g).kept (t':=s1.toks) λb o e=>F0 _ e,zo1 d _ (C1 dlt) o (.dK kvs) (kvs.map λkv=>kV kv.1) (es.toList.map (·.key)) ep es ex dat rfl (λi v hv=>vk.get hv) vk.length,⟨T1 _,⟨_,O0 _ rfl,rfl,rfl⟩⟩,λb hb=>?_,q o nd'⟩
 have:b=s1.heap.objs.size:=by simpa using hb
 subst this
 refine I1.fpOk (R0 _) ?_
 rw[zc (Nat.ne_of_gt dlt)]
 exact I1.hok.fresh (R0 _)⟩
structure RingG(G:Str->List Str)(xs:List Str):Prop where
 two:2<=xs.length
 ends:xs[0]?=xs[xs.length -1]?
 nd:(xs.drop 1).Nodup
 nxt:∀i a b,xs[i]?=some a->xs[i+1]?=some b->a∈G b
structure Led(H:Hp)(kvs:List (Key×V))(ks:List Str)(G:Str->List Str):Prop where
 keys:kvs.map (·.1)=ks.map Sum.inr
 nd:ks.Nodup
 at_:∀x∈ks,∃l,zaF kvs (Sum.inr x)=some (.ref l)/\H l=some (.lst ((G x).map V.str))
 sub:∀x∈ks,∀y∈G x,y∈ks
 short:∀x∈ks,x.length<=1000
 few:ks.length<=60/\∀x∈ks,(G x).length<=60
noncomputable def tol(tk:List (Key×V))(x:Str):Bool:=(zaF tk (Sum.inr x)).isSome
structure Tld63(tk:List (Key×V))(ks:List Str)(G:Str->List Str):Prop where
 opn:∀x∈ks,tol tk x=false->∃y∈G x,tol tk y=false
 sure:∀W:Str->Prop,(∀b,W b->∃a∈G b,W a)->∀b,W b->tol tk b=false
structure Peel(rs R:List (List Str)):Prop where
 sub:∀r∈R,r∈rs/\at_ r 2=("over":Str)
 out:∀W:Str->Prop,(∀b,W b->∃a,[a,b,"over"]∈rs/\W a)->∀a b,W a->W b->[a,b,"over"]∈rs->[a,b,"over"]∈R
structure LR(ks:List Str)(G:Str->List Str)(tk:List (Key×V))(ws:List Str):Prop where
 sub:∀x∈ws,x∈ks
 cov:∀x∈ks,x∈ws\/tol tk x=true
 sure:∀W:Str->Prop,(∀b,W b->∃a∈G b,W a)->∀b,W b->tol tk b=false
 inv:∀x v,zaF tk (Sum.inr x)=some v->∃n,v=V.int n
 len:tk.length+ws.length<=ks.length
structure LRi(ks:List Str)(G:Str->List Str)(tk:List (Key×V))(ws ys:List Str)(i:Nat)(fr:Bool):Prop where
 sub:∀x∈ys,x∈ks
 cov:∀x∈ks,x∈ys\/x∈ws.drop i\/tol tk x=true
 sure:∀W:Str->Prop,(∀b,W b->∃a∈G b,W a)->∀b,W b->tol tk b=false
 inv:∀x v,zaF tk (Sum.inr x)=some v->∃n,v=V.int n
 len:tk.length+ys.length+(ws.length -i)<=ks.length
 le:ys.length<=i
 lt:fr=true->ys.length<i
 opn:fr=false->∀x∈ys,∃y∈G x,tol tk y=false
structure Wlk(ks:List Str)(G:Str->List Str)(tk:List (Key×V))(row:List Str)(x:Str):Prop where
 nd:row.Nodup
 sub:∀y∈row,y∈ks
 ch:∀i a b,row[i]?=some a->row[i+1]?=some b->b∈G a
 nx:∀a,row[row.length -1]?=some a->x∈G a
 xk:x∈ks
 xu:tol tk x=false
structure EL(H H':Hp)(kvs:List (Key×V))(ks:List Str)(G:Str->List Str):Prop where
 keys:kvs.map (·.1)=ks.map Sum.inr
 nd:ks.Nodup
 at_:∀x∈ks,∃l,zaF kvs (Sum.inr x)=some (.ref l)/\H' l=some (.lst ((G x).map V.str))/\H l=none
 apart:∀x∈ks,∀y∈ks,∀l,zaF kvs (Sum.inr x)=some (.ref l)->zaF kvs (Sum.inr y)=some (.ref l)->x=y
noncomputable def kOf(t:List Str):List Key:=t.map Sum.inr
structure RT(H:Hp)(kvs:List (List Key×V))(rs:List (List Str)):Prop where
 len:kvs.length=rs.length
 at_:∀(j:Nat) (kv:List Key×V) (r:List Str),kvs[j]?=some kv->rs[j]?=some r->∃b,kv.1=kOf (zky r)/\kv.2= .ref b/\H b=some (.tup (r.map V.str))
 row:∀r∈rs,zpA r=true
 nd:(rs.map zky).Nodup
structure RG(xs:List Str)(m:Nat)(rs:List (List Str)):Prop where
 row:∀r∈rs,zpA r=true
 nd:(rs.map zky).Nodup
 old:∀r∈rs,∃i j,i<m/\j<m/\zky r=pr (at_ xs i) (at_ xs j)
structure MAt(K:W.Frag)(C:Addr)(x qual:Str)(st:Stmt)(ps:List Str)(f:Addr)(fd:FuncData):Prop where
 fn:Fun K x qual st f fd
 b:Binds K fd ps []
 m:Meth K C x f
section
variable{o e:Expr}{f m:Str}{ta:TE}{t:TA}{k:Nat}{ps:List Str}{ds:List Value}{E:XK}
theorem zP(he:QE X e ta)(hb:autoParam (attributeBase e f X.env (eval e X.env)=eval e X.env) v3):QE X (.Attribute e f pos) (zsv X.K ta f):=⟨zrt he.o hb⟩
theorem zdL(ha:QE X o ta)(hv:QE X value tv)(hs:autoParam (swapsWith value (some (.Attribute o f pos')) pos.line X.env=pure false) v3):QS X (.Assign [.Attribute o f pos'] value pos) (zrV X.K ta tv f):=⟨zq0 ha.o hv.o hs⟩
theorem znX{op:Operator}{rd:V->V->Hp->VK->Prop}(ha:QE X o ta)(hv:QE X value tv)(hop:zrE X op rd):QS X (.AugAssign (.Attribute o f tpos) op value pos) (zk1 X.K ta tv rd f):=⟨zmB ha.o hv.o hop⟩
theorem zbu(he:QE X o ta)(c:Cls X.K C)(hm:Meth X.K C m fa)(F:FnOk X.prog X.w X.K X.mg X.base CX k fa fd ps sp)(hr:Room k X.A)(hb:Binds X.K fd ps ds)(hd:Vals dvs ds)(hx:zb2 CX X E)(ha:QA X (e::es) t)
 (hst:autoParam (starEach (e::es) X.env=(false,eval e X.env)::starEach es X.env) v3) (hpl:autoParam ((backTo pos (starEach es X.env)).any (·.1)=false) v3)
 (ht:autoParam (eval (.Call (.Attribute o m apos) (e::es) [] pos) X.env=(do
   let ov ←eval o X.env
   standAt apos.atName
   let(f,first) ←holding [ov] (getMethod ov m pl)
   callWith pos f first (backTo pos (starEach (e::es) X.env)) (backToKw pos (keywordEach [] X.env)))) v3):
 QE X (.Call (.Attribute o m apos) (e::es) [] pos) (zkU C m sp dvs E ta t):=⟨zoV he.o c hm F hr hb hd hx ha.o hst hpl ht⟩
theorem zaY(he:QE X o ta)(c:Cls X.K C)(hm:Meth X.K C m fa)(F:FnOk X.prog X.w X.K X.mg X.base CX k fa fd ps sp)(hr:Room k X.A)(hb:Binds X.K fd ps ds)(hd:Vals dvs ds)(hx:zb2 CX X E)
 (ht:autoParam (eval (.Call (.Attribute o m apos) [] [] pos) X.env=(do
   let ov ←eval o X.env
   standAt apos.atName
   let(f,first) ←holding [ov] (getMethod ov m pl)
   callWith pos f first (backTo pos (starEach [] X.env)) (backToKw pos (keywordEach [] X.env)))) v3):
 QE X (.Call (.Attribute o m apos) [] [] pos) (zkU C m sp dvs E ta zmW):=⟨znS he.o c hm F hr hb hd hx ht⟩
theorem zjL{p:Pos}(M:Mk X.K C fa)(F:FnOk X.prog X.w X.K X.mg X.base CX k fa fd ps sp)(hr:Room (k+1) X.A)(hm:X.mg x=some (.ref C))(hb:Binds X.K fd ps ds)(hd:Vals dvs ds)(hx:zb2 CX X E)
 (ha:QA X (e::es) t) (hg:autoParam (Gl X x) v3) (hdb:autoParam ((x==("__debug__":Str))=false) v4) (he:autoParam (starEach (e::es) X.env=(false,eval e X.env)::starEach es X.env) v3) (hpl:autoParam ((backTo pos (starEach es X.env)).any (·.1)=false) v3):
 QE X (.Call (.Name x p) (e::es) [] pos) (zqF C sp dvs E t):=⟨zpH M F hr hg hm hb hd hx ha.o hdb he hpl⟩
theorem zlq{g:Expr}{td ty:TE}(hu:X.A.units+1<cLine)(ho:QE X o td)(he:QE X e ty)(hf:QE X g tx)(hb:autoParam (attributeBase o "get" X.env (eval o X.env)=eval o X.env) v3)
 (hw:autoParam (((backTo cpos (starEach [e,g] X.env)).all (λx=>!x.1)&&(backToKw cpos (keywordEach [] X.env)).all (λx=>x.1.isSome)
 &&decide (([e,g]:List Expr).length+([]:List Keyword).length+(if([]:List Keyword).isEmpty then 0 else 1)<30))=true) v3) (hl:autoParam ((apos.endLine==cpos.line)=true) v3) (ht:autoParam (backTo cpos (starEach [e,g] X.env)=[(false,eval e X.env),(false,eval g X.env)]) v3):
 QE X (.Call (.Attribute o "get" apos) [e,g] [] cpos) (zm8 td ty tx):=⟨zow hu ho.o he.o hf.o ⟨hb,hw,hl,ht⟩⟩
theorem zlt:OpR X (binaryOp .Mult) (rI (λi j=>Builtin.Int.intBits i<=2^20/\Builtin.Int.intBits j<=2^20) λi j=> .int (i*j)):=opI λ_ _ _ _ _ _ _ hc q=>mul_int q (.of_bits hc.1 hc.2)
end
inductive TrC(K:W.Frag)(H:Hp):V->PyData->Prop
 |non:TrC K H .non .none
 |bl (b:Bool):TrC K H (.bl b) (.bool b)
 |int (i:Int):TrC K H (.int i) (.int i)
 |str (x:Str) (h:PyData.strOk x=true):TrC K H (.str x) (.str x)
 |tup {p:Addr} {vs:List V} {ds:List PyData} (e:SqT K H p vs) (hl:vs.length=ds.length) (h:∀(i:Nat) (v:V) (d:PyData),vs[i]?=some v->ds[i]?=some d->TrC K H v d):TrC K H (.ref p) (.tuple ds)
theorem TrC.reads(I:Inv X pins σ H s){x:V}{d:PyData}(t:TrC X.K H x d):∀v,RelV x v->∃as,Reads s.heap v d as:=by
 induction t with
 |non=>intro v r;cases r;exact⟨_, .none⟩
 |bl b=>intro v r;cases r;exact⟨_, .bool b⟩
 |int i=>intro v r;obtain⟨t,rfl⟩:=r;exact⟨_, .int i t⟩
 |str x h=>intro v r;obtain⟨t,rfl⟩:=r;exact⟨_, .str x t⟩
 |tup e hl h ih=>
  intro v r
  cases r
  obtain⟨its,rv,⟨o,ho,hc,n,hd⟩,_⟩:=I.tuple e
  obtain⟨bs,hb⟩:=zce (h:=s.heap) rv hl ih
  exact⟨_, .tuple ho hc hd (by simpa using hb)⟩
theorem TrC.can{x:V}{d:PyData}(t:TrC K H x d):d.canLay0=true:=by
 induction t with
 |non=>rfl
 |bl b=>rfl
 |int i=>rfl
 |str x h=>simp only[PyData.canLay0];exact h
 |tup e hl h ih=>rw[PyData.canLay0];exact zdC hl ih
theorem op_eqC(hu:X.A.units+64<cLine):OpR X (compareOp .Eq) (λx y H Q=>∃d e,TrC X.K H x d/\TrC X.K H y e/\min d.depth e.depth<=60/\Q (.bl (d.eqv e)) H):=by
 intro pins s σ H x y v u Q I rx ry h
 obtain⟨d,e,t1,t2,hd,q⟩:=h
 obtain⟨as,r1⟩:=t1.reads I v rx
 obtain⟨bs,r2⟩:=t2.reads I u ry
 exact SeqAt.compareEq_reads r1 r2 t1.can t2.can () ⟨.bl _,H,I,rfl,q⟩
theorem zoj(hu:X.A.units+64<cLine):OpR X (compareOp .NotEq) (λx y H Q=>∃d e,TrC X.K H x d/\TrC X.K H y e/\min d.depth e.depth<=60/\Q (.bl (!d.eqv e)) H):=by
 intro pins s σ H x y v u Q I rx ry h
 obtain⟨d,e,t1,t2,hd,q⟩:=h
 obtain⟨as,r1⟩:=t1.reads I v rx
 obtain⟨bs,r2⟩:=t2.reads I u ry
 exact SeqAt.compareNe_reads r1 r2 t1.can t2.can () ⟨.bl _,H,I,rfl,q⟩
theorem zpT{st:Stmt}:QS X st (λ_ _ _=>False):=⟨λpins s σ H D I h=>h.elim⟩
theorem zgb(kx vx target iter:Expr)(ifs:List Expr)(scope:Scope)(pos:Pos)(it:Value)(d:Addr)(env:Env):
 compTurn (.DictComp kx vx [⟨target,iter,ifs,0⟩] scope pos) 0 it (.ref d) env=(do
  standAt iter.pos
  match←pyNext it with
  |none=>pure (.done .next)
  |some v=>
   letOwnedTupleGo target it v
   assign target env v
   let mut ok:=true
   for c in ifs do
    if ok then ok ←isTrue c env (eval c env)
   if ok then
    (do
      let kv ←eval kx env
      let vv ←holding [kv] (eval vx env)
      standAt {kx.pos with endLine:=vx.pos.endLine,endCol:=vx.pos.endCol}
      holding [kv,vv] (dictSet d kv vv))
   again (.compLoop (.DictComp kx vx [⟨target,iter,ifs,0⟩] scope pos) 0 it (.ref d) env)):=by rfl
theorem zpn{R:Result->Shared->Prop}{it:Value}{d:Addr}(I:Nat->Shared->Prop)
 (turn:∀n s,I n s->wpAny `Y3 A (pyNext it) (λr s1=>match r with
   |none=>R (.ok .next) s1
   |some v=>wpAny `Y3 A (letOwnedTupleGo target it v) (λ_ s1'=>wpAny `Y3 A (assign target env v) (λ_ s2=>wpAny `Y3 A (zhG ifs env) (λok s3=>
     if ok=true then wpAny `Y3 A (eval kx env) (λk s4=>wpAny `Y3 A (eval vx env) (λx s4'=>wpAny `Y3 A (dictSet d k x) (λ_ s5=>∃m,m<n/\I m s5) (λ_ _=>False) s4') (λ_ _=>False) s4) (λ_ _=>False) s3
     else∃m,m<n/\I m s3) (λ_ _=>False) s2) (λ_ _=>False) s1') (λ_ _=>False) s1) (λ_ _=>False) s)
 (n:Nat) (h:I n s):codeAny `Y3 A (.compLoop (.DictComp kx vx [⟨target,iter,ifs,0⟩] scope pos) 0 it (.ref d) env) R s:=by
 have no:∀{E:Value->Shared->Prop} (e:Value) (s:Shared),(λ(_:Value) (_:Shared)=>False) e s->E e s:=λ_ _ z=>False.elim z
 refine codeAny_loop rfl I (λn s hI=>?_) n h
 show wpAny _ A ((compTurn (.DictComp kx vx [⟨target,iter,ifs,0⟩] scope pos) 0 it (.ref d) env).onRaise (λx=>do noteFrame x env;theTreesLotGoes x)) _ _ s
 refine wpAny_noted ?_
 rw[zgb]
 refine C0 (wpAny_standAt (C0 (X2 (turn n s hI) (λr s₁ h₁=>?_) no)))
 cases r with
 |none=>exact K0 h₁
 |some v=>
  refine C0 (X2 h₁ (λ_ s1' h1'=>?_) no)
  refine C0 (X2 h1' (λ_ s₂ h₂=>C0 (X2 h₂ (λok s₃ h₃=>?_) no)) no)
  cases ok with
  |false=>exact K0 ⟨rfl,h₃⟩
  |true=>
   exact C0 (C0 (X2 h₃ (λk s₄ h₄=>C0 (wpAny_holding (X2 h₄ (λx s₅ h₅=>C0 (wpAny_standAt (wpAny_holding (X2 h₅ (λ_ s₆ h₆=>K0 ⟨rfl,h₆⟩) no)))) no))) no))
def zf2(g:TG)(tc:TT)(tk tv:TE)(src:List (Option Nat))(σ:St)(Q:VK)(J:It)(H1:Hp):Prop:=∀l,H1 l=none->
 ∃W:Nat->Nat->List (Key×V)->St->Hp->Prop,(∃m,W 0 m [] (zeo src σ) (upd H1 l (.dK [])))/\∀i m ys σ' H',W i m ys σ' H'->H' l=some (.dK ys)->
  (J.stop i H'/\Q (.ref l) H')\/(J.go i H'/\∃N:List (Key×V)->St->Hp->Prop,(∀zs σ2 H2,N zs σ2 H2->∃m',m'<m/\W (i+1) m' zs σ2 H2)/\∀x H2,J.yld i H' x H2->g x σ' H2 λσ2 H3=>tc σ2 H3 λb H4=>
    if b=true then tk σ2 H4 λk H5=>tv σ2 H5 λy H6=>∃k',k=kV k'/\H6 l=some (.dK ys)/\ys.length<sizeLine/\N (zah ys k' y) σ2 (upd H6 l (.dK (zah ys k' y)))
    else H4 l=some (.dK ys)/\N ys σ2 H4)
noncomputable def zlx(wi:TI)(g:TG)(tc:TT)(tk tv:TE)(src:List (Option Nat)):TE:=λσ H Q=>wi σ H (zf2 g tc tk tv src σ Q)
section
variable{src:List (Option Nat)}{g:TG}{tk:TE}
theorem zlM(ok:CompOk X.N osc N' src scope)(hsc:X.env.scope=osc)(hc:X.calm=true)(hi:PI X tg iter wi)
 (hg:∀cl C s₀ H₀ fp,PG (zx X N' scope cl C s₀ H₀ fp) tg g) (ht:∀cl C s₀ H₀ fp,PIf (zx X N' scope cl C s₀ H₀ fp) ifs tc) (hk2:∀cl C s₀ H₀ fp,PE (zx X N' scope cl C s₀ H₀ fp) kx tk) (hv2:∀cl C s₀ H₀ fp,PE (zx X N' scope cl C s₀ H₀ fp) vx tv)
 (hs:autoParam (∀x,foldedSetIterable iter X.env x=pure x) u5):PE X (.DictComp kx vx [⟨tg,iter,ifs,0⟩] scope pos) (zlx wi g tc tk tv src):=by
 intro pins s σ H Q I h
 obtain⟨cl,hcl,c1,c2⟩:=zd3 (scope:=scope) (env:=X.env) λy hy hyf=>I.ok.has y.1 (by
  have z:=ok.frees y hy hyf
  rw[←hsc] at z
  exact z)
 rw[arm_eval_DictComp]
 refine wpAny_comprehension_free (use:=none) rfl hs hcl ok.kind ok.loc (thn (hi pins s σ H _ I h) λv s1 h1=>thn h1 λitv s2 h2=>?_)
 obtain⟨it,fp,tn,J,H2,e,I2,T,st2,f2,q2⟩:=h2
 subst e
 have hlt2:∀b∈fp,b<s2.heap.objs.size:=λb hb=>by
  obtain⟨o,e,_⟩:=T.obj _ _ st2 b hb
  exact S0 e
 refine Y1 ?_
 have hl:H2 s2.heap.objs.size=none:=I2.hok.fresh (R0 _)
 have I3:Inv X pins σ (upd H2 s2.heap.objs.size (.dK [])) {s2 with heap:=s2.heap.push {cls:= .type "dict",data:= .dict #[]}}:=
  I2.laid (t':=s2.toks) (λb u e=>F0 _ e) (R0 _) (zjp s2.heap I2.big)
 obtain⟨W,⟨m0,w0⟩,turn⟩:=q2 _ hl
 generalize hl2:s2.heap.objs.size=l at *
 generalize hs3:({s2 with heap:=s2.heap.push {cls:= .type "dict",data:= .dict #[]}}:Shared)=s3 at *
 have f3:∀b∈fp,zdZ X pins (upd H2 l (.dK [])) b:=λb hb=>⟨by rw[zc (C1 (hlt2 b hb))];exact(f2 b hb).1,(f2 b hb).2⟩
 have k3:∀b o,s2.heap.get? b=some o->s3.heap.get? b=some o:=λb o e=>by rw[←hs3];exact F0 _ e
 have hlt3:∀b∈fp,b<s3.heap.objs.size:=λb hb=>by
  obtain⟨o,e,_⟩:=T.obj _ _ st2 b hb
  exact S0 (k3 b o e)
 refine wpAny_newFunctionEnv ok.nocell (by intro y hy;simp at hy) (λh₁ hns₁ hsb₁=>?_) ok.kind
 have k4:∀b o,s3.heap.get? b=some o->h₁.get? b=some o:=λb o e=>(hsb₁.2 b (C1 (S0 e))).trans (F0 _ e)
 have J0:=zeb (tk:=s3.toks+([]:List (Str×Value)).length) I3 f3 hlt3 ok hsc c1 c2 hns₁ k4
 have st4:tn 0 h₁:=T.keep _ _ _ st2 λb hb o e=>k4 b o (k3 b o e)
 generalize hC:s3.heap.objs.size=C at *
 have stat:∀{H':Hp},(∀b∈fp,H' b=none)->∀b∈fp,zdZ (zx X N' scope cl C s3 (upd H2 l (.dK [])) fp) [] H' b:=λ{H'} hn b hb=>
  ⟨hn b hb,(J0.ok.exf b hb).1,J0.ok.exfs b hb, .inl hb,(J0.ok.exf b hb).2,λp hp=>absurd (show p∈([]:List (Addr×Obj))from hp) `j2⟩
 have loop:codeAny (model X.prog X.w) X.A (.compLoop (.DictComp kx vx [⟨tg,iter,ifs,0⟩] scope pos) 0 (.ref it) (.ref l) (compEnvC scope cl C X.env))
  (compPost (model X.prog X.w) X.A X.xe none (EP X pins σ Q) (.ref l) C) {s3 with heap:=h₁,toks:=s3.toks+([]:List (Str×Value)).length}:=by
  refine zpn (λn s'=>∃i ys σ' H',Inv (zx X N' scope cl C s3 (upd H2 l (.dK [])) fp) [] σ' H' s'/\tn i s'.heap/\(∀b∈fp,H' b=none)/\H' l=some (.dK ys)/\W i n ys σ' H') ?_ m0
   ⟨0,[],_,_,J0,st4,λb hb=>(f3 b hb).1,zb,w0⟩
  rintro n s5 ⟨i,ys,σ5,H5,I5,st5,fr5,hl5,w5⟩
  rcases turn i n ys σ5 H5 w5 hl5 with⟨stop,qn⟩|⟨go,N,hN,step⟩
  ·refine thn (T.done (zx X N' scope cl C s3 (upd H2 l (.dK [])) fp) rfl rfl rfl hc i [] s5 σ5 H5 (λ_ _=>False) I5 (stat fr5) st5 stop) λr s6 ⟨hr,I6⟩=>?_
   subst hr
   obtain⟨m,hn,_⟩:=I6.loc
   exact⟨m,hn,λh' hsb=>⟨.ref l,H5,zd0 I3 f3 (by rw[←hC];exact R0 _) I6 hsb,rfl,qn⟩⟩
  ·refine thn (T.item (zx X N' scope cl C s3 (upd H2 l (.dK [])) fp) rfl rfl rfl hc i [] s5 σ5 H5 (λ_ _=>False) I5 (stat fr5) st5 go) λr s6 ⟨u,hr,h6⟩=>?_
   subst hr
   refine thn h6 λ_ s7 zq=>?_
   obtain⟨x,H7,I7,r7,y7,st7,fr7⟩:=zq
   have I7':=I7.pinned (stat fr7) (T.obj _ _ st7)
   refine thn (hg cl C s3 _ fp _ s7 σ5 H7 x u _ I7' r7 (step x H7 y7)) λ_ s8 zq=>?_
   obtain⟨σ8,H8,I8,q8⟩:=zq
   refine thn (ht cl C s3 _ fp _ s8 σ8 H8 _ I8 q8) λb s9 zq=>?_
   obtain⟨H9,I9,q9⟩:=zq
   have back:∀{s':Shared} {H':Hp},Inv (zx X N' scope cl C s3 (upd H2 l (.dK [])) fp) ([]++zee fp s7.heap) σ8 H' s'->tn (i+1) s'.heap/\∀b∈fp,H' b=none:=λ{s' H'} I'=>by
    refine⟨T.keep _ _ _ st7 λb hb o e=>(I'.pin (b,o) (F1 _ (F1 _ (zaj hb e)))).1,λb hb=>?_⟩
    obtain⟨o,e,d⟩:=T.obj _ _ st7 b hb
    exact(I'.pin (b,o) (F1 _ (F1 _ (zaj hb e)))).2.1
   cases b with
   |false=>
    obtain⟨hl9,n9⟩:=q9
    obtain⟨m',hm,w9⟩:=hN _ _ _ n9
    obtain⟨t9,fr9⟩:=back I9
    exact⟨m',hm,i+1,ys,σ8,H9,I9.unpinned,t9,fr9,hl9,w9⟩
   |true=>
    refine thn (hk2 cl C s3 _ fp _ s9 σ8 H9 _ I9 q9) λkv2 s10 zq=>?_
    obtain⟨k',H10,I10,rk10,q10⟩:=zq
    refine thn (hv2 cl C s3 _ fp _ s10 σ8 H10 _ I10 q10) λxv2 s11 zq1=>?_
    obtain⟨y',H11,I11,r11,k'',ek,hl11,hz,n11⟩:=zq1
    subst ek
    obtain⟨m',hm,w11⟩:=hN _ _ _ n11
    obtain⟨z,hd,vs,rel,dd⟩:=zf0 I11.hok hl11
    have hz2:vs.length<=sizeLine:=by rw[←rel.length];exact z
    have hl2':(zah ys k'' y').length<=sizeLine:=by have:=zdj ys k'' y';lia
    refine wpAny_dictSet_pairs (ziO rk10) dd (λh' dd' hs=>?_) hz2
    have he:∃q,h'.get? l=some q:=let⟨q,_,_,hq,_⟩:=dd';⟨q,hq⟩
    have I12:=zh0 (t':=s11.toks+1) I11 (by rw[hl11];exact True.intro) hs he (zkv hl2' hd (rel.put k'' r11) dd')
    obtain⟨t12,fr12⟩:=back I12
    exact⟨m',hm,i+1,zah ys k'' y',σ8,_,I12.unpinned,t12,fr12,zb,w11⟩
 exact codeAny_compStart_dict loop (T.self _ 0 _ _ _ st4 loop)
theorem zjn(ok:CompOk X.N osc N' src scope)(hsc:X.env.scope=osc)(hc:X.calm=true)(hi:QI X tg iter wi)
 (hg:∀cl C s₀ H₀ fp,QG (zx X N' scope cl C s₀ H₀ fp) tg g) (ht:∀cl C s₀ H₀ fp,QF (zx X N' scope cl C s₀ H₀ fp) ifs tc) (hk2:∀cl C s₀ H₀ fp,QE (zx X N' scope cl C s₀ H₀ fp) kx tk) (hv2:∀cl C s₀ H₀ fp,QE (zx X N' scope cl C s₀ H₀ fp) vx tv)
 (hs:autoParam (∀x,foldedSetIterable iter X.env x=pure x) u5):QE X (.DictComp kx vx [⟨tg,iter,ifs,0⟩] scope pos) (zlx wi g tc tk tv src):=
 ⟨zlM ok hsc hc hi.o (λcl C s₀ H₀ fp=>(hg cl C s₀ H₀ fp).o) (λcl C s₀ H₀ fp=>(ht cl C s₀ H₀ fp).o) (λcl C s₀ H₀ fp=>(hk2 cl C s₀ H₀ fp).o) (λcl C s₀ H₀ fp=>(hv2 cl C s₀ H₀ fp).o) hs⟩
end
theorem zlH{n:Nat}{P:Nat->V->Prop}{ok:Hp->Prop}{g:TG}{tk:TE}{src:List (Option Nat)}{Q:VK}(wk:Wk J n P ok)(Pv:Addr->Nat->List (Key×V)->St->Hp->Prop)
 (h0:∀l,H1 l=none->Pv l 0 [] (zeo src σ) (upd H1 l (.dK []))) (hok:∀l i ys σ H,H1 l=none->Pv l i ys σ H->ok H)
 (hs:∀l i x ys σ H,H1 l=none->i<n->P i x->Pv l i ys σ H->H l=some (.dK ys)->g x σ H λσ2 H3=>tc σ2 H3 λb H4=>
   if b=true then tk σ2 H4 λk H5=>tv σ2 H5 λy H6=>∃k',k=kV k'/\H6 l=some (.dK ys)/\ys.length<sizeLine/\Pv l (i+1) (zah ys k' y) σ2 (upd H6 l (.dK (zah ys k' y)))else H4 l=some (.dK ys)/\Pv l (i+1) ys σ2 H4)
 (hd:∀l ys σ H,H1 l=none->Pv l n ys σ H->H l=some (.dK ys)->Q (.ref l) H):zf2 g tc tk tv src σ Q J H1:=by
 intro l hl
 refine⟨λi m ys σ H=>m=n -i/\i<=n/\Pv l i ys σ H,⟨n,`j2,T1 _,h0 l hl⟩,?_⟩
 rintro i m ys σ H ⟨rfl,hi,p⟩ e
 by_cases hlt:i<n
 ·refine .inr ⟨wk.go i H (hok l i ys σ H hl p) hlt,Pv l (i+1),λzs σ' H' q=>⟨n -(i+1),(),rfl,hlt,q⟩,λx H' y=>?_⟩
  obtain⟨rfl,px⟩:=wk.yld i H x H' (hok l i ys σ H hl p) hlt y
  exact hs l i x ys σ _ hl hlt px p e
 ·have ei:i=n:=()
  subst ei
  exact .inl ⟨wk.stop i H (hok l i ys σ H hl p) (R0 _),hd l ys σ H hl p e⟩
def RawE(h:Heap)(d:Addr)(ps:List (Value×Value))(ep:Nat):Prop:=∃o es,h.get? d=some o/\o.ExactDict/\o.data= .dict es ep/\es.toList.map (λe=>(e.key,e.val))=ps
theorem RawE.ty{d:Addr}{ps:List (Value×Value)}(x:RawE s.heap d ps ep):s.TypeIs (.ref d) "dict":=let⟨o,_,ho,hc,_⟩:=x;⟨o,ho,hc.1⟩
section
variable{d:Addr}{ps:List (Value×Value)}
theorem raw_items{R:Value->Shared->Prop}(nsys:(d==sysModules)=false)(x:RawE s.heap d ps ep)(q:R (.ref s.heap.objs.size) {s with heap:=s.heap.push {cls:= .type "dict_items",data:= .fields #[.ref d]}}):
 wpAny `Y3 A (Builtin.«dict.items» ⟨[.ref d],[]⟩) (λfin s'=>∃v,fin= .done (.ret v)/\R v s') E s:=by
 unfold Builtin.«dict.items»
 refine C0 ?_
 unfold Builtin.Dict.noArgs
 refine C0 (wpAny_notOrdered_dict x.ty ?_)
 show wpAny _ _ (pure d) _ _ s
 refine K0 ?_
 show wpAny _ _ (Builtin.Dict.showsAll d>>=_) _ _ s
 unfold Builtin.Dict.showsAll
 rw[N0 (by rw[nsys];exact E1)]
 refine C0 (K0 ?_)
 exact C0 (Y1 (K0 ⟨_,rfl,q⟩))
theorem raw_items_iter{v:Addr}(hv:s.heap.IsItemsView v d)(x:RawE s.heap d ps ep)
 (hQ:Q (.ref s.heap.objs.size) {s with heap:=s.heap.push {cls:= .type "dict_itemiterator",data:= .fields #[.none, .bool false, .ref d, .int 0 0, .int ps.length 0, .int ep 0, .none, .none]}}):
 wpAny `Y3 A (pyIter (.ref v)) Q E s:=by
 obtain⟨ov,hov,hcv,hdv⟩:=id hv
 obtain⟨o,es,ho,hc,hdat,hp⟩:=id x
 refine wpAny_pyIter_slot hv.typeIs F.slot_dict_items_iter (wpAny_call_entry F.slot_dict_items_iter hv.typeIs F.entry_dict_items_iter ?_ (F.args_dict_items_iter_1 _))
 unfold Builtin.«dict_items.__iter__»
 refine C0 (K0 ?_)
 refine C0 ?_
 unfold Builtin.Dict_items.dictOf
 refine C0 (wpAny_field hov hdv (x:= .ref d) rfl (K0 ?_))
 refine C0 ?_
 unfold Builtin.Dict_items.newIterator
 refine C0 (wpAny_dictEntries ho hdat ?_)
 refine C0 (wpAny_dictEpoch ho hdat ?_)
 have hsz:es.size=ps.length:=by rw[←hp];simp
 have hown:Builtin.Dict_items.ownsTuple "dict_itemiterator"=true:=⋯
 simp only[hown,if_true]
 refine Y1 (K0 ⟨_,rfl,"dict_itemiterator",_,⟨_,O0 _ rfl,rfl⟩,F.slot_dict_itemiterator_next.lookup,?_⟩)
  (by simp only[sizeOk,Builtin.Dict_items.ownedTupleFields,Y0,o0,J1,List.length_nil,sizeLine_eq];lia)
 simpa[rawInt,hsz,Builtin.Dict_items.ownedTupleFields] using hQ
theorem raw_items_next{d:Addr}{ps:List (Value×Value)}{v ok:Value}{Q:Option Value->Shared->Prop}(hit:IsItemIter s.heap it d i ps.length ep ok ov)
 (hm:RawE s.heap d ps ep) (hx:ps[i]?=some (key,v))
 (hQ:∀h',IsItemIterOut h' it d (i+1) ps.length ep key v s.heap.objs.size->
   h'.get? s.heap.objs.size=some {cls:= .type "tuple",data:= .seq #[key,v]}->h'.objs.size=s.heap.objs.size+1->
   (∀b o,b≠it->s.heap.get? b=some o->h'.get? b=some o)->Q (some (.ref s.heap.objs.size)) {s with heap:=h'}):
 wpAny `Y3 A (pyNext (.ref it)) Q E s:=by
 obtain⟨hp,g,dr,tk,os⟩:=s
 obtain⟨od,es,hod,hcd,hdd,hpr⟩:=id hm
 have hT:Shared.TypeIs ⟨hp,g,dr,tk,os⟩ (.ref it) "dict_itemiterator":=⟨_,hit,rfl⟩
 unfold pyNext
 refine C0 (wpAny_attempt (wpAny_callSpecial?_slot (name:=Str.ofString "__next__") hT F.slot_dict_itemiterator_next
  (wpAny_call_entry F.slot_dict_itemiterator_next hT F.entry_dict_itemiterator_next ?_ (F.args_dict_itemiterator_next_1 _))))
 refine C0 (K0 ?_)
 refine C0 ?_
 refine C0 ?_
 first|refine C0 (wpAny_typeNameOfWhole_itemiter hT (K0 ?_))|refine C0 (wpAny_typeNameOf_itemiter hT (K0 ?_))
 refine C0 (wpAny_fieldsOf hit rfl ?_)
 have hown:Builtin.Dict_items.ownsTuple "dict_itemiterator"=true:=⋯
 simp only[hown,if_true]
 show wpAny _ _ (if(Value.ref d==Value.none)=true then _ else _) _ _ _
 rw[N0 (show¬((Value.ref d==Value.none)=true)from E1)]
 refine C0 (K0 ?_)
 refine C0 (wpAny_dictEntries hod hdd ?_)
 have hsz:es.size=ps.length:=by rw[←hpr];simp
 rw[N0 (by rw[hsz];simp)]
 refine C0 (K0 ?_)
 refine C0 (wpAny_dictEpoch hod hdd ?_)
 rw[N0 `j2]
 refine K0 ?_
 have hlt:i<ps.length:=by
  rcases U1 i ps.length with h|h
  ·exact h
  ·simp[Q0 h] at hx
 have hlt':i<es.size:=by rw[hsz];exact hlt
 have hkv:es[i].key=key/\es[i].val=v:=by
  have e1:ps[i]?=some (es[i].key,es[i].val):=by rw[←hpr];simp[hlt']
  rw[e1] at hx
  have:=O1 hx
  exact⟨T2 Prod.fst this,T2 Prod.snd this⟩
 obtain⟨hkey,hval⟩:=hkv
 simp only[show¬((i:Int)<0)from by lia,if_false,Int.toNat_natCast,Array.getElem?_eq_getElem hlt']
 refine C0 ?_
 first|refine C0 (wpAny_typeNameOfWhole_itemiter hT (K0 ?_))|refine C0 (wpAny_typeNameOf_itemiter hT (K0 ?_))
 refine C0 (wpAny_isOneOf_itemiter hT ?_)
 show wpAny _ _ (setField (.ref it) 3 (rawInt ((i:Int)+1))>>=_) _ _ ⟨hp,g,dr,tk,os⟩
 refine C0 (wpAny_setField_rec hit `j2 λh₁ he₁ hs₁=>?_)
 replace hs₁:Heap.SameBut it hp h₁:=hs₁
 replace he₁:IsItemIter h₁ it d (i+1) ps.length ep ok ov:=by
  have e:((i+1:Nat):Int)=(i:Int)+1:=()
  unfold IsItemIter;rw[e];simpa[rawInt] using he₁
 have hT₁:Shared.TypeIs ⟨h₁,g,dr,tk,os⟩ (.ref it) "dict_itemiterator":=⟨_,he₁,rfl⟩
 refine C0 (wpAny_holding ?_)
 refine C0 (wpAny_isOneOf_itemiter hT₁ ?_)
 refine C0 (wpAny_isOneOf_itemiter hT₁ ?_)
 show wpAny _ _ (Builtin.Dict_items.pairFromOwner (.ref it) 6 es[i].key es[i].val) _ _ ⟨h₁,g,dr,tk,os⟩
 unfold Builtin.Dict_items.pairFromOwner
 refine C0 (wpAny_newTuple ?_)
 have he₂:IsItemIter (h₁.push {cls:= .type "tuple",data:= .seq #[es[i].key,es[i].val]}) it d (i+1) ps.length ep ok ov:=F0 _ he₁
 generalize hh₂:h₁.push {cls:= .type "tuple",data:= .seq #[es[i].key,es[i].val]}=h₂ at he₂
 have hz₁:h₁.objs.size=hp.objs.size:=hs₁.1
 have hil:it<hp.objs.size:=S0 hit
 have ht₂:h₂.get? hp.objs.size=some {cls:= .type "tuple",data:= .seq #[es[i].key,es[i].val]}:=by rw[←hh₂,←hz₁];exact O0 _ rfl
 have hz₂:h₂.objs.size=hp.objs.size+1:=by rw[←hh₂,Heap.size_push,hz₁]
 have hk₂:∀b o,b≠it->hp.get? b=some o->h₂.get? b=some o:=λb o hb e=>by rw[←hh₂];exact F0 _ (hs₁.extBut b o hb e)
 show wpAny _ _ (Builtin.Dict_items.ownedTupleIsFree (.ref it)>>=_) _ _ ⟨h₂,g,dr,tk,os⟩
 rw[hz₁]
 clear hh₂ he₁ hs₁ hT₁ hz₁ h₁
 refine C0 ?_
 unfold Builtin.Dict_items.ownedTupleIsFree
 refine C0 (wpAny_field he₂ rfl (x:= .none) rfl (K0 ?_))
 simp only[if_true]
 refine C0 (wpAny_field he₂ rfl (x:=ok) rfl ?_)
 refine C0 (wpAny_field he₂ rfl (x:=ov) rfl ?_)
 refine C0 (wpAny_setField_rec he₂ `j2 λh₃ he₃ hs₃=>?_)
 replace hs₃:Heap.SameBut it h₂ h₃:=hs₃
 replace he₃:IsItemIter h₃ it d (i+1) ps.length ep es[i].key ov:=he₃
 refine C0 (wpAny_setField_rec he₃ `j2 λh₄ he₄ hs₄=>?_)
 replace hs₄:Heap.SameBut it h₃ h₄:=hs₄
 replace he₄:IsItemIter h₄ it d (i+1) ps.length ep es[i].key es[i].val:=he₄
 refine C0 (wpAny_setField_rec he₄ `j2 λh₅ he₅ hs₅=>?_)
 replace hs₅:Heap.SameBut it h₄ h₅:=hs₅
 replace he₅:IsItemIterOut h₅ it d (i+1) ps.length ep es[i].key es[i].val hp.objs.size:=he₅
 refine C0 (wpAny_setField_rec he₅ `j2 λh₆ he₆ hs₆=>?_)
 replace hs₆:Heap.SameBut it h₅ h₆:=hs₆
 replace he₆:IsItemIterOut h₆ it d (i+1) ps.length ep es[i].key es[i].val hp.objs.size:=he₆
 refine C0 (wpAny_letGo (K0 (K0 ⟨_,rfl,K0 (hQ h₆ (hkey▸hval▸he₆) ?_ ?_ ?_)⟩)))
 ·rw[←hval,←hkey];exact hs₆.extBut _ _ (Nat.ne_of_gt hil) (hs₅.extBut _ _ (Nat.ne_of_gt hil) (hs₄.extBut _ _ (Nat.ne_of_gt hil) (hs₃.extBut _ _ (Nat.ne_of_gt hil) ht₂)))
 ·show h₆.objs.size=hp.objs.size+1
  rw[hs₆.1,hs₅.1,hs₄.1,hs₃.1,hz₂]
 ·exact λb o hb e=>hs₆.extBut b o hb (hs₅.extBut b o hb (hs₄.extBut b o hb (hs₃.extBut b o hb (hk₂ b o hb e))))
theorem raw_items_end{d:Addr}{ps:List (Value×Value)}{ok:Value}{Q:Option Value->Shared->Prop}(hh:A.handled=none)(hit:IsItemIter s.heap it d i ps.length ep ok ov)
 (hm:RawE s.heap d ps ep) (hx:ps[i]?=none)
 (hQ:∀h',Heap.ExtBut it s.heap h'->Q none {s with heap:=h'}):wpAny `Y3 A (pyNext (.ref it)) Q E s:=by
 obtain⟨od,es,hod,hcd,hdd,hpr⟩:=id hm
 have hT:s.TypeIs (.ref it) "dict_itemiterator":=⟨_,hit,rfl⟩
 unfold pyNext
 refine C0 (wpAny_attempt (wpAny_callSpecial?_slot (name:=Str.ofString "__next__") hT F.slot_dict_itemiterator_next
  (wpAny_call_entry F.slot_dict_itemiterator_next hT F.entry_dict_itemiterator_next ?_ (F.args_dict_itemiterator_next_1 _))))
 refine C0 (K0 ?_)
 refine C0 ?_
 refine C0 ?_
 first|refine C0 (wpAny_typeNameOfWhole_itemiter hT (K0 ?_))|refine C0 (wpAny_typeNameOf_itemiter hT (K0 ?_))
 refine C0 (wpAny_fieldsOf hit rfl ?_)
 have hown:Builtin.Dict_items.ownsTuple "dict_itemiterator"=true:=⋯
 simp only[hown,if_true]
 show wpAny _ _ (if(Value.ref d==Value.none)=true then _ else _) _ _ s
 rw[N0 (show¬((Value.ref d==Value.none)=true)from E1)]
 refine C0 (K0 ?_)
 refine C0 (wpAny_dictEntries hod hdd ?_)
 have hsz:es.size=ps.length:=by rw[←hpr];simp
 rw[N0 (by rw[hsz];simp)]
 refine C0 (K0 ?_)
 refine C0 (wpAny_dictEpoch hod hdd ?_)
 rw[N0 `j2]
 refine K0 ?_
 have hge:es.size<=i:=by rw[hsz];simpa using hx
 simp only[show¬((i:Int)<0)from by lia,if_false,Int.toNat_natCast,Array.getElem?_eq_none hge]
 refine C0 ?_
 first|refine C0 (wpAny_typeNameOfWhole_itemiter hT (K0 ?_))|refine C0 (wpAny_typeNameOf_itemiter hT (K0 ?_))
 show wpAny _ _ (setField (.ref it) 2 .none>>=_) _ _ s
 refine C0 (wpAny_setField hit rfl `j2 ?_)
 show wpAny _ _ (newExc (.type "StopIteration") []>>=_) _ _ _
 refine C0 ?_
 simp only[newExc,newTuple]
 refine C0 (Y1 ?_ (by size_fits))
 refine C0 (m:=firstArgMember _ _) (wpAny_of_eq (a:=Value.none) (by first|rfl|(simp only[firstArgMember];rfl)) ?_)
 refine Y1 ?_ (by size_fits)
 simp only[raiseNew]
 refine C0 (wpAny_handled ?_)
 rw[show A.in1.handled=none from hh]
 refine C0 (K0 (wpAny_throw ?_))
 refine C0 (wpAny_isInstance (T:="StopIteration") (b:=true) ⟨_,O0 _ rfl,rfl⟩ isSubtype_stop ?_)
 exact K0 (hQ _ (((Heap.SameBut.update ..).extBut.push _).push _))
end
noncomputable def Iti(d:Addr)(o:Obj)(u:HO)(ks:List (V×V)):It:=⟨λi H=>i<ks.length/\H d=some (.frz o u),λi H x H'=>∃T p,ks[i]?=some p/\x= .ref T/\H T=none/\H'=upd H T (.tup [p.1,p.2]),λi H=>ks.length<=i/\H d=some (.frz o u)⟩
theorem zkJ{x1}(d it:Addr)(hne:d≠it)(o:Obj)(u:HO)(vs:List (V×V))(ps:List (Value×Value))(ep:Nat)(es:Array DictEntry)(ex:o.ExactDict)(dat:o.data= .dict es ep)(hes:es.toList.map (λe=>(e.key,e.val))=ps)(rel:∀(i:Nat) (v:V×V),vs[i]?=some v->∃q,ps[i]?=some q/\RelV v.1 q.1/\RelV v.2 q.2)(hl:vs.length=ps.length):
 Turn P w K (.Tuple elts x1 pos) (Iti d o u vs) [it] it (λi h=>i<=ps.length/\∃ok ov,IsItemIter h it d i ps.length ep ok ov) where
 mem:=`j2
 obj:=λi h st b hb=>by
  obtain⟨_,ok,ov,e⟩:=st
  have:b=it:=by simpa using hb
  subst this
  exact⟨_,e,λv z=>nomatch z⟩
 keep:=λi h h' st k=>⟨st.1,let⟨ok,ov,e⟩:=st.2;⟨ok,ov,k it `j2 _ e⟩⟩
 item:=by
  intro X hP hw hK hc i pins s σ H E I hf st hg
  subst hP hw hK
  have hi:i<vs.length:=hg.1
  have raw:RawE s.heap d ps ep:=⟨o,es,((show ObjOk X.prog X.w H s.heap d (.frz o u)from I.hok d _ hg.2)).1,ex,dat,hes⟩
  obtain⟨q,hq,rk,rv⟩:=rel i vs[i] (by simp[hi])
  obtain⟨f0,f1,f2,f3,f4,f5⟩:=hf it `j2
  obtain⟨_,ok,ov,hit⟩:=st
  refine raw_items_next hit raw hq λh' ho ht hsz hk=>⟨.ref s.heap.objs.size,rfl,wpAny_letOwnedTupleGo_items ho λh2 hi2 sb=>?_⟩
  have itlt:it<s.heap.objs.size:=S0 hit
  have hT:H s.heap.objs.size=none:=I.hok.fresh (R0 _)
  have I1:Inv X pins σ (upd H s.heap.objs.size (.tup [(vs[i]).1,(vs[i]).2])) {s with heap:=s.heap.push {cls:= .type "tuple",data:= .seq #[q.1,q.2]},toks:=s.toks}:=
   I.laid (t':=s.toks) (λb o e=>F0 _ e) (R0 _) ⟨few rfl,[q.1,q.2], .cons rk (.cons rv .nil),⟨_,O0 _ rfl,rfl,_,rfl⟩,NoDict.new rfl (O0 _ rfl)⟩
  have ne:it≠s.heap.objs.size:=C1 itlt
  have kk:∀b o,b≠it->(s.heap.push {cls:= .type "tuple",data:= .seq #[q.1,q.2]}).get? b=some o->h2.get? b=some o:=λb o' hb e=>by
   refine(sb.2 b hb).trans ?_
   by_cases z:b=s.heap.objs.size
   ·rw[z] at e⊢
    rw[O0 _ rfl] at e
    rw[←e];exact ht
   ·exact hk b o' hb (by rw[Heap.get?_push_ne _ _ _ z] at e;exact e)
  have I2:=I1.turned (t':=s.toks) (h':=h2) kk (by rw[zc ne];exact f0) f1 f3 f4 f5
  refine⟨.ref s.heap.objs.size,_,I2,rfl,⟨_,vs[i],by simp[hi],rfl,hT,rfl⟩,⟨(),_,_,hi2⟩,λb hb=>?_⟩
  have:b=it:=by simpa using hb
  subst this
  rw[zc ne];exact f0
 done:=by
   intro X hP hw hK hc i pins s σ H E I hf st hg
   subst hP hw hK
   have hi:vs.length<=i:=hg.1
   have raw:RawE s.heap d ps ep:=⟨o,es,((show ObjOk X.prog X.w H s.heap d (.frz o u)from I.hok d _ hg.2)).1,ex,dat,hes⟩
   obtain⟨hle,ok,ov,hit⟩:=st
   obtain⟨f0,f1,f2,f3,f4,f5⟩:=hf it `j2
   exact raw_items_end (I.ok.hd hc) hit raw (Q0 ()) λh' eb=>⟨rfl,I.turned (t':=s.toks) (λb o hb e=>eb b o hb e) f0 f1 f3 f4 f5⟩
 self:=λA i s Q E st h=>by
  obtain⟨_,ok,ov,hit⟩:=st
  exact W.kcp_self hit h
theorem zgp:typeLookup (.type "list") "keys"=pure none:=by rw[typeLookup_type,builtinLookup_eq_fast];kernel_rfl
theorem zgR{xs:Array Value}{n:Nat}{Q:Option Value->Shared->Prop}(hx:s.heap.get? a=some {cls:= .type "list",dict:=none,data:= .seq xs n,slots:= #[]})(hA:A.handled=none)
 (h:∀h' tk,(∀b o,s.heap.get? b=some o->h'.get? b=some o)->Q none {s with heap:=h',toks:=tk}):
 wpAny `Y3 A (getAttr? (.ref a) "keys") Q E s:=by
 obtain⟨hp,g,d,tk,os⟩:=s
 have hT:∀tk',(⟨hp,g,d,tk',os⟩:Shared).TypeIs (.ref a) "list":=λ_=>⟨_,hx,rfl⟩
 have f1:=sub_AttributeError
 have f3:=F.slot_list_getattribute.lookup
 have f4:=F.slot_list_getattribute.bind (.ref a)
 have f5:=am_list_getattr_none
 unfold getAttr? getAttrBy? getAttrBy
 repeat (any_goals (first|assumption|exact hT _|((with_reducible show wpAny _ _ (call (Value.builtin "list.__getattribute__") _ _) _ _ _);refine call_meets F.slot_list_getattribute (hT _) am_entry_list_getattribute (F.args_list_getattribute_2 _ _) (meets_getattribute_miss_list a xs n #[] "keys" _ zgp `Z2) ⟨hx,hA,λh' tk' e hx'=>?_⟩)|wp_step))
 obtain⟨t',u',he⟩:=hx'.there
 show wpAny _ _ (getattributeRaised _ _ _ _ _ _ _) _ _ _
 unfold getattributeRaised
 repeat (any_goals (first|assumption|wp_step))
 exact h _ _ hx'.of.keeps
section
variable{K:Type}[DecidableEq K]{knd:KeyKind prog w K}
theorem zpY{d T:Addr}{x y:Value}{k:K}{kvs:List (K×Value)}{Q:Unit->Shared->Prop}(hp:IsTup s.heap T #[x,y])(hkey:knd.is k x=true)(hm:s.heap.DictOf knd d kvs)(hsz:kvs.length<=sizeLine)(i:Int)
 (hQ:∀h' tk,h'.DictOf knd d (stored kvs k y)->Heap.SameBut d s.heap h'->Q Unit.unit {s with heap:=h',toks:=tk}):
 wpAny `Y3 A (do
  let pair ←(Builtin.Dict.pairItems (.ref T)).tryCatch λe=>do
   if !(←isInstance e (.type "TypeError"))then throw e
   rule "dict.update.element-no-sequence"
   raiseError "TypeError" s!"cannot convert dictionary update sequence element #{i} to a sequence"
  match pair with
  |[k,v]=>holding [k,v] (dictSet d k v)
  |l=>
   rule "dict.update.element-length"
   raiseError "ValueError" s!"dictionary update sequence element #{i} has length {l.length}; 2 is required") Q E s:=by
 obtain⟨o,ho,hc,n,hd⟩:=hp
 have hT:s.TypeIs (.ref T) "tuple":=⟨_,ho,hc⟩
 refine C0 (wpAny_tryCatch ?_)
 unfold Builtin.Dict.pairItems
 refine C0 (wpAny_typeOf hT ?_)
 show wpAny _ _ (do let a ←seqItems? (.ref T);pure (Option.getD a #[]).toList) _ _ _
 refine C0 (wpAny_seqItems ho hd (K0 ?_))
 show wpAny _ _ (holding [x,y] (dictSet d x y)) _ _ _
 exact wpAny_holding (wpAny_dictSet_pairs hkey hm (λh' hd hs=>hQ h' _ hd hs) hsz)
theorem zpi{n:Nat}{P:Nat->Value->Prop}{St:Nat->Heap->Prop}{R:Result->Shared->Prop}(W:Walks prog w A.in1 I fp wr n P St)(d:Addr)(hdf:d∉fp)(hsz:n<=sizeLine)
 {T:Nat->Addr}  {ks:Nat->K} (hval:∀(i:Nat) (v:Value),P i v->v=Value.ref (T i)) (hk:∀i<n,knd.is (ks i) (xv i)=true) (nd:((List.range n).map ks).Nodup) (hT:∀i<n,T i∉wr/\T i≠d):
 ∀(m i:Nat) (s:Shared),i+m=n->St i s.heap->s.heap.DictOf knd d (dzAt ks yv i)->(∀j<n,IsTup s.heap (T j) #[xv j,yv j])->
  (∀h' tk,(∀b o,b∉wr->b≠d->s.heap.get? b=some o->h'.get? b=some o)->h'.DictOf knd d (dzAt ks yv n)->R (.ok (.ret .none)) {s with heap:=h',toks:=tk})->
  codeAny `Y3 A (.builtin "dict.update.loop" ⟨[.ref d, .ref I,rawInt i, .none],[]⟩) R s:=by
 have hdw:d∉wr:=λh=>hdf (W.sub _ h)
 intro m
 induction m with
 |zero=>
  intro i s him hst hd htu hR
  have ei:i=n:=()
  subst ei
  refine codeAny_builtin zcb ?_
  rw[Around.under_plainId zar _]
  show wpAny _ _ (pyNext (.ref I)>>=_) _ _ _
  refine C0 (W.done s _ _ hst λh' tk hk'=>?_)
  refine K0 (hR h' tk (λb o b1 _ e=>hk' b o b1 e) ?_)
  obtain⟨o',es,ep,hg,r⟩:=hd
  exact⟨o',es,ep,hk' _ _ hdw hg,r⟩
 |succ m ih=>
  intro i s him hst hd htu hR
  have hin:i<n:=()
  refine codeAny_builtin zcb ?_
  rw[Around.under_plainId zar _]
  show wpAny _ _ (pyNext (.ref I)>>=_) _ _ _
  refine C0 (W.item i s _ _ hin hst λv h1 tk1 hP hst' hk'=>?_)
  have ev:=hval i v hP
  subst ev
  have hd1:h1.DictOf knd d (dzAt ks yv i):=by obtain⟨o',es,ep,hg,r⟩:=hd;exact⟨o',es,ep,hk' _ _ hdw hg,r⟩
  have htu1:∀j<n,IsTup h1 (T j) #[xv j,yv j]:=λj hj=>by obtain⟨o',hg,r⟩:=htu j hj;exact⟨o',hk' _ _ (hT j hj).1 hg,r⟩
  have hl:(dzAt ks yv i).length<=sizeLine:=by unfold dzAt;rw[D0,List.length_range];lia
  refine C0 (wpAny_holding (zpY (s:={s with heap:=h1,toks:=tk1}) (htu1 i hin) (hk i hin) hd1 hl _ λh2 tk2 hd2 hs2=>?_))
  rw[zmq hin nd] at hd2
  refine K0 ⟨plainId_quiet zar _,?_⟩
  have e:(rawInt ((i:Int)+1))=rawInt ((i+1:Nat):Int):=by rw[show((i:Int)+1)=((i+1:Nat):Int) by lia]
  show codeAny _ A (.builtin "dict.update.loop" ⟨[.ref d, .ref I,rawInt ((i:Int)+1), .none],[]⟩) R {s with heap:=h2,toks:=tk2}
  rw[e]
  refine ih (i+1) {s with heap:=h2,toks:=tk2} () (W.frame _ _ _ hst' λb hb o e=>hs2.extBut _ _ (λz=>hdf (by rw[←z];exact hb)) e) hd2 (λj hj=>?_) λh3 tk3 k3 d3=>hR h3 tk3 (λb o b1 b2 e=>k3 b o b1 b2 (hs2.extBut _ _ b2 (hk' b o b1 e))) d3
  obtain⟨o',hg,r⟩:=htu1 j hj
  exact⟨o',hs2.extBut _ _ (hT j hj).2 hg,r⟩
theorem call_dict_list{n:Nat}{T:Nat->Addr}{ks:Nat->K}(hA:A.handled=none)(hl:s.heap.get? l=some {cls:= .type "list",dict:=none,data:= .seq items n,slots:= #[]})(hsz:items.size<=sizeLine)
 (hval:∀(i:Nat) (v:Value),items[i]?=some v->v=Value.ref (T i)) (hk:∀i<items.size,knd.is (ks i) (xv i)=true) (nd:((List.range items.size).map ks).Nodup) (htu:∀j<items.size,IsTup s.heap (T j) #[xv j,yv j])
 (h:∀h' tk,h'.DictOf knd s.heap.objs.size (dzAt ks yv items.size)->(∀c o,s.heap.get? c=some o->h'.get? c=some o)->Q (.ref s.heap.objs.size) {s with heap:=h',toks:=tk}):
 wpAny `Y3 A (call (.type "dict") [.ref l]) Q E s:=by
 refine callType_codes (Q₁:=λobj s₁=>obj= .ref s.heap.objs.size/\s₁={s with heap:=s.heap.push {cls:= .type "dict",data:= .dict #[]}}) F.kt_called_dict (F.kt_typeCall_dict_1 _) F.entry_dict_init (kt_code_dict_new _ ⟨rfl,rfl⟩) ?_
 rintro obj s₁ ⟨rfl,rfl⟩
 have hnew:(s.heap.push {cls:= .type "dict",data:= .dict #[]}).DictOf knd s.heap.objs.size []:=Heap.DictOf.new s.heap
 have pu:∀c o,s.heap.get? c=some o->(s.heap.push {cls:= .type "dict",data:= .dict #[]}).get? c=some o:=λc o e=>F0 _ e
 have lt:∀{c o},s.heap.get? c=some o->c<s.heap.objs.size:=λe=>S0 e
 have hl':=pu _ _ hl
 have hTl:({s with heap:=s.heap.push {cls:= .type "dict",data:= .dict #[]}}:Shared).TypeIs (.ref l) "list":=⟨_,hl',rfl⟩
 refine⟨hnew.typeIs,F.args_dict_init_2 _ _,?_⟩
 unfold Builtin.«dict.__init__»
 refine C0 ?_
 unfold Builtin.Dict.selfAndRest
 refine C0 (wpAny_notOrdered_dict hnew.typeIs ?_)
 show wpAny _ _ (pure (s.heap.objs.size,[Value.ref l])) _ _ _
 refine K0 ?_
 show wpAny _ _ (Builtin.Dict.updateFrom "dict.__init__" s.heap.objs.size (.ref l) [] .none) _ _ _
 unfold Builtin.Dict.updateFrom
 refine C0 (wpAny_typeOf hTl ?_)
 rw[T0 ⋯]
 refine C0 (zgR (A:=A.in1.in1) hl' hA λh' tk hk'=>?_)
 simp only[Option.isNone_none,if_true]
 refine C0 (wpAny_rule ?_)
 have kk:∀c o,s.heap.get? c=some o->h'.get? c=some o:=λc o e=>hk' _ _ (pu _ _ e)
 have hlL:h'.IsList l items:=⟨_,kk _ _ hl,rfl,n,rfl⟩
 refine C0 (wpAny_pyIter_list hlL ?_)
 refine K0 ⟨plainId_quiet zar _,?_⟩
 have hd':h'.get? s.heap.objs.size=some {cls:= .type "dict",data:= .dict #[]}:=hk' _ _ (O0 _ rfl)
 have dlt:s.heap.objs.size<h'.objs.size:=S0 hd'
 have llt:l<h'.objs.size:=S0 (kk _ _ hl)
 show codeAny `Y3 A.in1 (.builtin "dict.update.loop" ⟨[.ref s.heap.objs.size, .ref h'.objs.size,rawInt ((0:Nat):Int), .none],[]⟩) (wants (λr s₂=>r=Value.none/\Q (.ref s.heap.objs.size) s₂) E) {s with heap:=h'.push {cls:= .type "list_iterator",data:= .fields #[.ref l, .int 0 0]},toks:=tk}
 refine zpi (Walks.list (A:=A.in1.in1) (show A.in1.in1.handled=none from hA) h'.objs.size l (C1 llt) items) s.heap.objs.size ?_ hsz (T:=T) (xv:=xv) hval hk nd (λi hi=>?_) items.size 0 {s with heap:=h'.push {cls:= .type "list_iterator",data:= .fields #[.ref l, .int 0 0]},toks:=tk} (Nat.zero_add _) ⟨⟨_,O0 _ rfl,rfl,rfl⟩,hlL.push _⟩ ?_ (λj hj=>?_) λh3 tk3 k3 d3=>⟨rfl,h h3 tk3 d3 λc o e=>?_⟩
 ·simp only[X0,j1,or_false,not_or]
  exact⟨C1 dlt,Nat.ne_of_gt (lt hl)⟩
 ·obtain ⟨o',hg,_⟩:=htu i hi
  refine⟨λz=>?_,C1 (lt hg)⟩
  have:T i=h'.objs.size:=by simpa using z
  exact absurd (S0 (kk _ _ hg)) (by rw[this];exact Nat.lt_irrefl _)
 ·obtain ⟨o',es,ep,hg,r⟩:=hnew
  exact⟨o',es,ep,F0 _ (hk' _ _ hg),r⟩
 ·obtain ⟨o',hg,r⟩:=htu j hj
  exact⟨o',F0 _ (kk _ _ hg),r⟩
 ·refine k3 c o (λz=>?_) (C1 (lt e)) (F0 _ (kk _ _ e))
  have:c=h'.objs.size:=by simpa using z
  exact absurd (S0 (kk _ _ e)) (by rw[this];exact Nat.lt_irrefl _)
end
inductive TwosAt(H:Hp):List Addr->List Str->List V->Prop
 |nil:TwosAt H [] [] []
 |cons {t:Addr} {x:Str} {y:V} {ts:List Addr} {hs:List Str} {ys:List V}:H t=some (.tup [.str x,y])->TwosAt H ts hs ys->TwosAt H (t::ts) (x::hs) (y::ys)
theorem TwosAt.len(p:TwosAt H ts hs ys):ts.length=hs.length/\ys.length=hs.length:=by
 induction p with
 |nil=>exact ⟨rfl,rfl⟩
 |cons _ _ ih=>exact ⟨T2 (·+1) ih.1,T2 (·+1) ih.2⟩
theorem TwosAt.mono(p:TwosAt H ts hs ys)(h:∀a xs,H a=some (.tup xs)->H' a=some (.tup xs)):TwosAt H' ts hs ys:=by
 induction p with
 |nil=>exact .nil
 |cons e _ ih=>exact .cons (h _ _ e) ih
theorem TwosAt.snoc{t:Addr}(p:TwosAt H ts hs ys)(e:H t=some (.tup [.str x,y])):TwosAt H (ts ++ [t]) (hs ++ [x]) (ys ++ [y]):=by
 induction p with
 |nil=>exact .cons e .nil
 |cons e' _ ih=>exact .cons e' ih
theorem TwosAt.raw{h:Heap}(ok:HOk P w H h)(p:TwosAt H ts hs ys):
 ∃xv yv:List Value,xv.length=hs.length/\Vals ys yv/\(∀j x,hs[j]?=some x->∃t,xv.getD j .none= .str x t)/\∀j T,ts[j]?=some T->IsTup h T #[xv.getD j .none,yv.getD j .none]:=by
 induction p with
 |nil=>exact ⟨[],[],rfl, .nil,λ_ _ e=>(by simp at e),λ_ _ e=>(by simp at e)⟩
 | @cons t x y ts hs ys e p ih=>
   obtain⟨xv,yv,e1,e2,e3,e4⟩:=ih
   obtain⟨_,its,rv,it,_⟩:=ok t _ e
   obtain⟨u,v,rfl,ru,rv2⟩:=zg1 rv
   obtain⟨tt,rfl⟩:=ru
   refine⟨.str x tt::xv,v::yv,T2 (·+1) e1, .cons rv2 e2,λj z ez=>?_,λj T eT=>?_⟩
   ·cases j with
    |zero=>simp at ez;subst ez;exact⟨tt,rfl⟩
    |succ j=>rw[List.getElem?_cons_succ] at ez;simpa using e3 j z ez
   ·cases j with
    |zero=>simp at eT;subst eT;exact it
    |succ j=>rw[List.getElem?_cons_succ] at eT;simpa using e4 j T eT
theorem zg0:∀{its:List Value},Vals (ts.map V.ref) its->its=ts.map Value.ref:=by
 induction ts with
 |nil=>intro its r;cases r;rfl
 |cons t ts ih=>intro its r;cases r with
  |cons a b=>rw[ih b];cases a;rfl
theorem zgx(hc:X.calm=true):CallR X (.type "dict") (λxs H Q=>∃(l:Addr) (ts:List Addr) (hs:List Str) (ys:List V),xs=[.ref l]/\H l=some (.lst (ts.map V.ref))/\TwosAt H ts hs ys/\hs.length<=1000/\hs.Nodup/\∀p,H p=none->Q (.ref p) (upd H p (.dK (zew hs ys)))):=by
 intro pins s σ H xs us Q I r h
 obtain⟨l,ts,hs,ys,rfl,hH,pa,h9,nd,q⟩:=h
 obtain⟨u,rfl,ru⟩:=zcu r
 cases ru
 obtain⟨z,its,n,rv,ho⟩:=I.hok l _ hH
 have ei:=zg0 rv
 subst ei
 obtain⟨xv,yv,e1,e2,e3,e4⟩:=pa.raw I.hok
 obtain⟨lt,ly⟩:=pa.len
 have el:(ts.map Value.ref).toArray.size=hs.length:=by simp[lt]
 refine call_dict_list (knd:=zM X.prog X.w) (T:=λi=>ts.getD i 0) (xv:=λi=>xv.getD i .none) (yv:=λi=>yv.getD i .none) (ks:=λk=>(Sum.inr (hs.getD k ""):Key)) (I.ok.hd hc) ho (by rw[el];exact K1 h9 ⋯) (λi v ev=>?_) (λi hi=>?_) ?_ (λj hj=>?_) λh' tk hd kk=>?_
 ·rw[List.getElem?_toArray,P0] at ev
  cases ht:ts[i]? with
  |none=>rw[ht] at ev;cases ev
  |some t=>rw[ht] at ev;cases ev;simp[List.getD,ht]
 ·rw[el] at hi
  obtain⟨t,et⟩:=e3 i hs[i] (G0 hi)
  show(zM X.prog X.w).is (Sum.inr (hs.getD i "")) (xv.getD i .none)=true
  rw[et]
  have:hs.getD i ""=hs[i]:=by simp[List.getD,hi]
  rw[this]
  exact zfk _ _ _ _
 ·rw[el,zpf]
  exact List.pairwise_map.mpr (nd.imp λh e=>h (Sum.inr.inj e))
 ·rw[el,←lt] at hj
  refine e4 j _ ?_
  simp[List.getD,hj]
 ·rw[el] at hd
  have hf:H s.heap.objs.size=none:=I.hok.fresh (R0 _)
  refine⟨.ref s.heap.objs.size,_,I.laid (t':=tk) kk (R0 _) (zkv ?_ ?_ (zqR ly e2) hd),rfl,q _ hf⟩
  ·unfold zew;rw[D0,List.length_zip];exact K1 (Nat.min_le_left _ _) (K1 h9 ⋯)
  ·exact beq_eq_false_iff_ne.mpr (Ne.symm (C1 I.big))
section
open PySem.W
def AtG(Oa:Hp->Addr->α->Prop)(H:Hp)(vs:List V)(ps:List α):Prop:=vs.length=ps.length/\∀(i:Nat) (v:V) (p:α),vs[i]?=some v->ps[i]?=some p->∃b,v= .ref b/\Oa H b p
noncomputable abbrev Ky:=Int×Int×List Str
theorem zol{a b:Ky}(h:a≠b)(e:ltK a b=false):ltK b a=true:=by
 obtain⟨i,n,ps⟩:=a
 obtain⟨j,m,qs⟩:=b
 unfold ltK at *
 simp only at *
 by_cases h1:i=j
 ·by_cases h2:n=m
  ·subst h1 h2
   rw[T0 rfl,T0 rfl] at e⊢
   exact zjf (λz=>h (by rw[z])) e
  ·rw[T0 h1,N0 h2] at e
   rw[T0 h1.symm,N0 (Ne.symm h2)]
   simp at e⊢;lia
 ·rw[N0 h1] at e
  rw[N0 (Ne.symm h1)]
  simp at e⊢;lia
noncomputable def zgV(k:Ky):PyData:= .tuple [.int k.1, .int k.2.1, .tuple (zw k.2.2)]
def KeyO(H:Hp)(b:Addr)(k:Ky):Prop:=∃p,H b=some (.tup [.int k.1, .int k.2.1, .ref p])/\H p=some (.tup (k.2.2.map V.str))/\∀y∈k.2.2,PyData.strOk y=true
theorem KeyO.tr{b:Addr}{k:Ky}(x:KeyO H b k):Tr H (.ref b) (zgV k):=by
 obtain⟨p,e,ep,ok⟩:=x
 refine .tup e rfl λi v d e1 e2=>?_
 match i,e1,e2 with
 |0,e1,e2=>cases e1;cases e2;exact .int _
 |1,e1,e2=>cases e1;cases e2;exact .int _
 |2,e1,e2=>cases e1;cases e2;exact zkM ep ok
structure RawK(h:Heap)(b:Addr)(k:Ky):Prop where
 at_:∃p ti tn jts,IsTup h b #[.int k.1 ti, .int k.2.1 tn, .ref p]/\Vals (k.2.2.map V.str) jts/\IsTup h p jts.toArray/\(∃as,Reads h (.ref p) (.tuple (zw k.2.2)) as)/\(PyData.tuple (zw k.2.2)).canLay0=true
 rd:∃as,Reads h (.ref b) (zgV k) as
 can:(zgV k).canLay0=true
theorem zef{h:Heap}{xs:Array Value}(x:IsTup h a xs)(k:∀b o,h.get? b=some o->h'.get? b=some o):IsTup h' a xs:=let⟨o,g,r⟩:=x;⟨o,k _ _ g,r⟩
theorem KeyO.raw(I:Inv X pins σ H s){b:Addr}{k:Ky}(x:KeyO H b k)(kp:∀b o,s.heap.get? b=some o->h'.get? b=some o):RawK h' b k:=by
 have t:=x.tr
 obtain⟨p,e,ep,ok⟩:=x
 obtain⟨its,r1,t1,_⟩:=I.tuple (SqT.of e)
 obtain⟨jts,s1,u1,_⟩:=I.tuple (SqT.of ep)
 obtain⟨_,_,_,rfl,x1,x2,x3⟩:=zri r1
 obtain⟨ti,rfl⟩:=x1
 obtain⟨tn,rfl⟩:=x2
 cases x3
 obtain⟨as,rd1⟩:=(zkM ep ok).reads I (.ref p) rfl
 obtain⟨bs,rd2⟩:=t.reads I (.ref b) rfl
 exact⟨⟨p,ti,tn,jts,zef t1 kp,s1,zef u1 kp,⟨as,Reads.keeps kp rd1⟩,(zkM ep ok).can⟩,⟨bs,Reads.keeps kp rd2⟩,t.can⟩
theorem zoM{b:Addr}{k1 k2:Ky}(hu:A.units+63<cLine)(x:RawK s.heap a k1)(y:RawK s.heap b k2)(q:Q (.bool (ltK k1 k2)) s):wpAny `Y3 A (richCompare .Lt (.ref a) (.ref b)) Q E s:=by
 obtain⟨i1,n1,ps⟩:=k1
 obtain⟨i2,n2,qs⟩:=k2
 obtain⟨p,ti1,tn1,jts,t1,s1,u1,⟨as,rd1⟩,c1⟩:=x.at_
 obtain⟨p2,ti2,tn2,jts2,t2,s2,u2,⟨bs,rd2⟩,c2⟩:=y.at_
 obtain⟨⟨c1',d1,e1,f1⟩,ho,hc,m1,hd⟩:=id t1
 obtain⟨⟨c2',d2,e2,f2⟩,ho2,hc2,m2,hd2⟩:=id t2
 simp only at hc hd hc2 hd2
 subst hc hd hc2 hd2
 have mk:∀(k:Nat) (res:Bool),k<=3->ltK (i1,n1,ps) (i2,n2,qs)=res->
  (∀prog w i x y,i<k->([.int i1 ti1, .int n1 tn1, .ref p]:List Value)[i]?=some x->([.int i2 ti2, .int n2 tn2, .ref p2]:List Value)[i]?=some y->∀(E:Value->Shared->Prop) (Q:Bool->Shared->Prop),Q true s->wpAny `Y3 A.in1 (eqBool x y) Q E s)->
  ((k=3/\res=false)\/∃x y,([.int i1 ti1, .int n1 tn1, .ref p]:List Value)[k]?=some x/\([.int i2 ti2, .int n2 tn2, .ref p2]:List Value)[k]?=some y/\(∀prog w (E:Value->Shared->Prop) (Q:Bool->Shared->Prop),Q false s->wpAny `Y3 A.in1 (eqBool x y) Q E s)/\∀prog w (E:Value->Shared->Prop) (Q:Value->Shared->Prop),Q (.bool res) s->wpAny `Y3 A.in1 (richCompare .Lt x y) Q E s)->
  wpAny `Y3 A (richCompare .Lt (.ref a) (.ref b)) Q E s:=by
  intro k res hk3 er he hk
  refine richCompare_meets_room (op:= .Lt) ⟨_,ho,rfl⟩ ⟨_,ho2,rfl⟩ F.slot_tuple_lt F.entry_tuple_lt (F.args_tuple_lt_2 _ _) (zcW a b m1 m2 d1 d2 f1 f2 [.int i1 ti1, .int n1 tn1, .ref p] [.int i2 ti2, .int n2 tn2, .ref p2] k res) ⟨ho,ho2,he,hk3,hk3,?_,⟨(λx=>nomatch x),by rw[er] at q;exact q⟩⟩ ()
  rcases hk with⟨h1,h2⟩|h
  ·exact .inl ⟨h1,by rw[h2];rfl⟩
  ·exact .inr h
 have intE:∀{i j:Int} {t t':Tok} {b:Bool} (e:(i==j)=b) (prog:Program) (w:World) (E:Value->Shared->Prop) (Q:Bool->Shared->Prop),Q b s->wpAny `Y3 A.in1 (eqBool (.int i t) (.int j t')) Q E s:=λe prog w E Q hq=>wpAny_eqBool_int (by rw[e];exact hq)
 have tupE:∀{b:Bool} (e:decide (ps=qs)=b) (prog:Program) (w:World) (E:Value->Shared->Prop) (Q:Bool->Shared->Prop),Q b s->wpAny `Y3 A.in1 (eqBool (.ref p) (.ref p2)) Q E s:=λ{b} e prog w E Q hq=>SeqAt.eqAt_reads _ _ A.in1 s _ _ _ _ rd1 rd2 c1 c2 (by
  have:=K1 (Nat.min_le_left (PyData.tuple (zw ps)).depth (PyData.tuple (zw qs)).depth) zfl
  show A.units+1+_<cLine
  simp only at *
  lia) prog w E Q (by rw[zdD,e];exact hq)
 by_cases hi:i1=i2
 ·by_cases hn:n1=n2
  ·by_cases hq:ps=qs
   ·refine mk 3 false (R0 _) (by unfold ltK;rw[T0 hi,T0 hn];subst hq;exact zhD _) (λprog w i x y h3 hx hy E Q hQ=>?_) (.inl ⟨rfl,rfl⟩)
    match i,h3,hx,hy with
    |0,_,hx,hy=>cases hx;cases hy;exact intE (by simp[hi]) prog w E Q hQ
    |1,_,hx,hy=>cases hx;cases hy;exact intE (by simp[hn]) prog w E Q hQ
    |2,_,hx,hy=>cases hx;cases hy;exact tupE (V0 hq) prog w E Q hQ
   ·refine mk 2 (ltL ps qs) () (by unfold ltK;rw[T0 hi,T0 hn]) (λprog w i x y h3 hx hy E Q hQ=>?_) (.inr ⟨_,_,rfl,rfl,tupE (b0 hq),λprog w E Q hQ=>znF s1 s2 u1 u2 (by show A.units+1<cLine;lia) hQ⟩)
    match i,h3,hx,hy with
    |0,_,hx,hy=>cases hx;cases hy;exact intE (by simp[hi]) prog w E Q hQ
    |1,_,hx,hy=>cases hx;cases hy;exact intE (by simp[hn]) prog w E Q hQ
  ·refine mk 1 (decide (n1<n2)) () (by unfold ltK;rw[T0 hi,N0 hn]) (λprog w i x y h3 hx hy E Q hQ=>?_) (.inr ⟨_,_,rfl,rfl,intE (by simp[hn]),λprog w E Q hQ=>(PyProof.Rows.lt_int hQ:wpAny `Y3 A.in1 (compareOp .Lt (.int n1 tn1) (.int n2 tn2)) Q E s)⟩)
   match i,h3,hx,hy with
   |0,_,hx,hy=>cases hx;cases hy;exact intE (by simp[hi]) prog w E Q hQ
 ·exact mk 0 (decide (i1<i2)) () (by unfold ltK;rw[N0 hi]) (λprog w i x y h3 hx hy E Q hQ=>absurd h3 (Nat.not_lt_zero _)) (.inr ⟨_,_,rfl,rfl,intE (by simp[hi]),λprog w E Q hQ=>(PyProof.Rows.lt_int hQ:wpAny `Y3 A.in1 (compareOp .Lt (.int i1 ti1) (.int i2 ti2)) Q E s)⟩)
theorem zni{k1 k2:Ky}:(zgV k1).eqv (zgV k2)=decide (k1=k2):=by
 obtain⟨i1,n1,ps⟩:=k1
 obtain⟨i2,n2,qs⟩:=k2
 unfold zgV
 have e:=zdD (xs:=ps) (ys:=qs)
 simp only[PyData.eqv,PyData.eqvAll,Bool.and_true] at e⊢
 rw[e]
 rw[Bool.eq_iff_iff]
 simp[Prod.mk.injEq]
theorem zkm{k:Ky}:(zgV k).depth<=62:=by
 have:=zfl (xs:=k.2.2)
 unfold zgV
 simp only[PyData.depth,PyData.depthAll] at *
 lia
theorem zpO{b:Addr}{k1 k2:Ky}{Q:Bool->Shared->Prop}(hu:A.units+62<cLine)(x:RawK s.heap a k1)(y:RawK s.heap b k2)(q:Q (decide (k1=k2)) s):wpAny `Y3 A (eqBool (.ref a) (.ref b)) Q E s:=by
 obtain⟨as,rd1⟩:=x.rd
 obtain⟨bs,rd2⟩:=y.rd
 exact SeqAt.eqAt_reads _ _ A s _ _ _ _ rd1 rd2 x.can y.can (by
  have:=K1 (Nat.min_le_left (zgV k1).depth (zgV k2).depth) zkm
  lia) prog w E Q (by rw[zni];exact q)
end
section
variable[DecidableEq α]{mm:α->α->α×α}
structure MM(mm:α->α->α×α):Prop where
 two:∀a b,mm a b=(a,b)\/mm a b=(b,a)
 sym:∀a b,mm a b=mm b a
noncomputable def ed(mm:α->α->α×α):List α->List (α×α)
 |a::b::r=>mm a b::ed mm (b::r)
 |_=> []
end
noncomputable def mmS(x y:Str):Str×Str:=(if ltS y x=true then y else x,if ltS x y=true then y else x)
structure SW(g:Str)(ps:List (Str×Str))(w:List Str):Prop where
 nd:w.Nodup
 last:w.getLast?=some g
 ties:∀p∈ed mmS w,p∈ps
structure WOk(hs w:List Str):Prop where
 ne:1<=w.length
 nd:w.Nodup
 mem:∀y∈w,y∈hs
structure Bf(g:Str)(hs:List Str)(ps:List (Str×Str))(ws:List (List Str))(n:Nat):Prop where
 nd:ws.Nodup
 sw:∀w∈ws,SW g ps w
 root:[g]∈ws
 src:∀y r,y::r∈ws->r≠ []->r∈ws.take n
 cl:∀y x r,x::r∈ws.take n->y∈hs->mmS y x∈ps->y∉x::r->y::x::r∈ws
structure Df(g:Str)(ps:List (Str×Str))(M:List Str->Option (List Str))(L F:List (List Str)):Prop where
 nd:L.Nodup
 fnd:F.Nodup
 fsub:∀w∈F,w∈L
 sw:∀w∈L,SW g ps w/\M w≠none
 root:[g]∈L
 src:∀y r,y::r∈L->r≠ []->r∈L/\r∉F
 cl:∀y x r,x::r∈L->x::r∉F->mmS y x∈ps->y∉x::r->M (y::x::r)≠none->y::x::r∈L
structure DfW(g:Str)(ps:List (Str×Str))(M:List Str->Option (List Str))(x:Str)(r ds:List Str)(L F:List (List Str)):Prop where
 nd:L.Nodup
 fnd:F.Nodup
 fsub:∀w∈F,w∈L
 sw:∀w∈L,SW g ps w/\M w≠none
 root:[g]∈L
 src:∀y q,y::q∈L->q≠ []->q∈L/\q∉F
 me:x::r∈L/\x::r∉F
 kids:∀y,y::x::r∈L->y∈ds
 cl:∀y a q,a::q∈L->a::q∉F->a::q≠x::r->mmS y a∈ps->y∉a::q->M (y::a::q)≠none->y::a::q∈L
 clw:∀y∈ds,y∉x::r->M (y::x::r)≠none->y::x::r∈L
section
variable{M:List Str->Option (List Str)}{r ds:List Str}{L F:List (List Str)}
end
theorem Inv.thaw{d:Addr}{u:HO}{o:Obj}(I:Inv X pins σ H s)(e:H d=some (.frz o u))(h0:∀o' u',X.H₀ d≠some (.frz o' u')):Inv X pins σ (upd H d u) s where
 ok:=I.ok
 os:=I.os
 bare:=I.bare
 base:={
  keep:=I.base.keep
  slot:=I.base.slot
  free:=λb o h1 h2 h3=>by
   have:=I.base.free b o h1 h2 h3
   rw[zc λz=>by rw[z,e] at this;cases this];exact this
  there:=I.base.there
  tups:=λb xs h=>by
   have:=I.base.tups b xs h
   rw[zc λz=>by rw[z,e] at this;cases this];exact this
  frzs:=λb o u h=>by
   have:=I.base.frzs b o u h
   have hb:b≠d:=λz=>h0 o u (by rw[←z];exact h)
   rw[zc hb];exact this
  tbls:=λb ps h=>by
   obtain⟨more,this⟩:=I.base.tbls b ps h
   exact⟨more,by rw[zc λz=>by rw[z,e] at this;cases this];exact this⟩}
 loc:=I.loc
 cell:=I.cell
 free:=by
  have:=I.free
  rw[zc λz=>by rw[z,e] at this;cases this];exact this
 freeC:=λx c h=>by
  have:=I.freeC x c h
  rw[zc λz=>by rw[z,e] at this;cases this];exact this
 pin:=λp hp=>by
  obtain⟨h1,h2,h3⟩:=I.pin p hp
  exact⟨h1,by rw[zc λz=>by rw[z,e] at h2;cases h2];exact h2,h3⟩
 hok:=λa o' h=>by
  have st:∀{v:HO},ObjOk X.prog X.w H s.heap a v->ObjOk X.prog X.w (upd H d u) s.heap a v:=λx=>x.stay (λ_ _ _ q=>q) (λb q=>by rw[zc λz=>by rw[z,e] at q;cases q];exact q) (λb xs q=>by rw[zc λz=>by rw[z,e] at q;cases q];exact q)
  by_cases z:a=d
  ·subst z
   rw[zb] at h
   cases h
   exact st (I.hok a _ e).2
  ·rw[zc z] at h
   exact st (I.hok a _ h)
 len:=I.len
theorem zki{e:Expr}(h:QE X e te):QE X e (λσ H Q=>te σ H λv H'=>∃d o u,H' d=some (.frz o u)/\(∀o' u',X.H₀ d≠some (.frz o' u'))/\Q v (upd H' d u)):=⟨by
 intro pins s σ H Q I q
 refine thn (h.o pins s σ H _ I q) λv s1 zq=>?_
 obtain⟨x,H1,I1,r1,q1⟩:=zq
 obtain⟨d,o,u,e,h0,q1⟩:=q1
 exact⟨x,_,I1.thaw e h0,r1,q1⟩⟩
inductive ChAt(H:Hp):List (Key×V)->List (Str×Option (List Str))->Prop
 |nil:ChAt H [] []
 |cons {x:Str} {v:V} {o:Option (List Str)} {kvs:List (Key×V)} {cs:List (Str×Option (List Str))}:zsa H v o->ChAt H kvs cs->ChAt H ((Sum.inr x,v)::kvs) ((x,o)::cs)
structure Zp3(z TI TO0 i1 i2 i3:Addr):Prop where
 TIz:TI≠z
 TOz:TO0≠z
 i1z:i1≠z
 i2z:i2≠z
 i3z:i3≠z
 TITO:TI≠TO0
 TIi1:TI≠i1
 TIi2:TI≠i2
 TIi3:TI≠i3
 TOi1:TO0≠i1
 TOi2:TO0≠i2
 TOi3:TO0≠i3
 i12:i1≠i2
 i13:i1≠i3
 i23:i2≠i3
structure Pp where
 one:Str
 to:Str
 nr:Int
 way:Option (List Str)
 marks:List Str
structure PpOk(hs:List Str)(ps:List (Str×Str))(p:Pp):Prop where
 one:p.one∈hs
 to:p.to∈hs
 tied:p.to∈zfp ps p.one
 nr:1<=p.nr
 mnm:∀x∈p.marks,zi x=true
 ml:p.marks.length<=90
 non:p.way=none->p.marks=[]
 way:∀w,p.way=some w->1<=w.length/\w.length<=10/\∀x∈w,zi x=true
inductive Ch(hs:List Str)(lks hds:List D):Str->List Str->List Pp->Prop
 |one {to g:Str} {nr:Int} {m:List Str} (h1:1<=nr) (h2:zD [g] (some to) (zo hs hds g) []=some m):Ch hs lks hds to [g] [⟨g,to,nr,some [g],m⟩]
 |more {to y x:Str} {ws:List Str} {nr:Int} {m:List Str} {q:Pp} {P:List Pp} (h:Ch hs lks hds y (x::ws) (q::P)) (h0:zbU (zH (y::x::ws) q.marks (zo hs lks y))=false) (h1:1<=nr)
   (h2:zD (y::x::ws) (some to) (zo hs hds y) q.marks=some m):Ch hs lks hds to (y::x::ws) (⟨y,to,nr,some (y::x::ws),m⟩::q::P)
section
variable{to:Str}{w:List Str}{P:List Pp}
end
section
variable{R:Result->Shared->Prop}{n:Nat}{P:Nat->Value->Prop}{St:Nat->Heap->Prop}
end
section
open PySem.W PyProof.V
end
theorem zmH{a b:Str}(h1:leS a b=true)(h2:leS b a=true):a=b:=by
 unfold leS at *
 rw[Bool.not_eq_true'] at *
 by_cases e:a=b
 ·exact e
 ·rw[zcS e h2] at h1;cases h1
theorem zg6:∀{ts:List Str},sortedS ts=true->ts.Pairwise (λa b=>leS a b=true)
 |[],_=> .nil
 |[a],_=>List.pairwise_singleton _ _
 |a::b::ts,h=>by
  have h':(!ltCps b.cps.toList a.cps.toList&&risingS b ts)=true:=h
  rw[a0] at h'
  have hr:sortedS (b::ts)=true:=h'.2
  have hab:leS a b=true:=by
   have h1:ltS b a=false:=by
    have:=h'.1
    rw[ltCps_eq] at this
    simpa using this
   unfold leS
   rw[h1];rfl
  have ih:=zg6 hr
  refine List.pairwise_cons.mpr ⟨λz hz=>?_,ih⟩
  rcases X0.mp hz with rfl|hz
  ·exact hab
  ·exact zmO a b z hab ((List.pairwise_cons.mp ih).1 z hz)
theorem zpa{ts l:List Str}(hp:ts.Perm l)(hs:sortedS ts=true):ts=srt l:=
 (hp.trans (zdf l).symm).eq_of_pairwise (λa b _ _ h1 h2=>zmH h1 h2) (zg6 hs) (List.pairwise_mergeSort zmO zpv l)
noncomputable def zhf:Sp:=λvs H Q _=>∃(pm:Addr) (v:V) (t:List Str) (w m:Str),vs=[.ref pm,v]/\H pm=some (.tup (t.map V.str))/\Rep H v (.tup [.str w, .str m])/\(∀x∈t,zi x=true)/\zi m=true/\t.length<=60/\∀(p:Addr) (H':Hp),H' p=some (.tup ((zfe t w m).map V.str))->Same H H'->Q (.ref p) H'
def zh5(rs:List D):Prop:=rs.length<=90/\∀r∈rs,∃cs x,r= .tup [.tup cs,x]/\(∀c∈cs,zA c=true)/\(x= .tup [.str "keep"]\/∃w m,x= .tup [.str w, .str m]/\(w="put"\/w="strike")/\zi m=true)
theorem zkc(h:za7 d=true):∃rs,d= .tup rs/\zh5 rs:=by
 cases d with
 |tup rs=>
  have h:(decide (rs.length<=90)&&rs.all zbd)=true:=h
  rw[a0] at h
  refine⟨rs,rfl,U0 h.1,λr hr=>?_⟩
  obtain⟨cs,x,rfl,h4,hc,hx⟩:=zh9 (C2.mp h.2 r hr)
  exact⟨cs,x,rfl,hc,zj4 hx⟩
 |_=>cases h
structure Mst(rs:List D)(Pr:Nat->List Str->Prop):Prop where
 skip:∀i t,Pr i t->Pr (i+1) t
 next:∀i t w m cs,Pr i t->rs[i]?=some (.tup [.tup cs, .tup [.str w, .str m]])->Pr (i+1) (zfe t w m)
 ok:∀i t,i<=rs.length->Pr i t->(∀y∈t,zi y=true)/\t.length<=60
noncomputable def zhc:Sp:=λvs H Q _=>∃(v:V) (pw pm:Addr) (vt:V) (x:Str) (ws ms:List Str) (to:Option Str) (g:Str) (hs:List Str) (ps:List (Str×Str)) (lks hds:List D) (j:Nat) (rs:List D) (Pr:Nat->List Str->Prop),vs=[v, .ref pw, .ref pm,vt]/\Rep H v (zal g hs ps lks hds)/\TownOk g hs ps lks hds/\hs[j]?=some x/\hds[j]?=some (.tup rs)/\zh5 rs/\Mst rs Pr/\Pr 0 ms/\H pw=some (.tup ((x::ws).map V.str))/\H pm=some (.tup (ms.map V.str))/\TO0 vt to/\(∀y∈x::ws,zi y=true)/\ws.length<=90/\∀(u:V) (H':Hp),zsa H' u (zD (x::ws) to rs ms)->Same H H'->Q u H'
theorem zmQ{w m:Str}:(zfe t w m).length<=t.length+1:=by
 unfold zfe
 rw[(zdf _).length_eq]
 unfold zat
 rw[o0]
 have:=List.length_filter_le (λx=>!decide (x=m)) t
 split<;>simp<;>lia
theorem zjx{w m y:Str}(h:y∈zfe t w m):y∈t\/y=m:=by
 unfold zfe at h
 rw[(zdf _).mem_iff] at h
 unfold zat at h
 rcases N2.mp h with h|h
 ·exact .inl (F2.mp h).1
 ·split at h
  ·exact .inr (X1.mp h)
  ·cases h
def Mn(c i:Nat)(t:List Str):Prop:=(∀y∈t,zi y=true)/\t.length<=c+i
theorem zqL(h:zh5 rs)(hc:c+rs.length<=60):Mst rs (Mn c) where
 skip:=λi t h=>⟨h.1,by have:=h.2;lia⟩
 next:=λi t w m cs M e=>by
  obtain⟨cs',x,e1,_,hx⟩:=h.2 _ (W0 e)
  cases e1
  rcases hx with z|⟨w',m',e2,_,hm⟩
  ·cases z
  ·cases e2
   refine⟨λy hy=>?_,by have:=zmQ (t:=t) (w:=w) (m:=m);have:=M.2;lia⟩
   rcases zjx hy with h|h
   ·exact M.1 y h
   ·rw[h];exact hm
 ok:=λi t hi M=>⟨M.1,by have:=M.2;lia⟩
theorem zcH{ws:List Str}{to:Option Str}:∀{rs:List D} {ms t:List Str},(∀r∈rs,∃cs x,r= .tup [.tup cs,x]/\(∀c∈cs,zA c=true)/\(x= .tup [.str "keep"]\/∃w m,x= .tup [.str w, .str m]/\(w="put"\/w="strike")/\zi m=true))->(∀y∈ms,zi y=true)->zD ws to rs ms=some t->∀y∈t,zi y=true
 |[],ms,t,_,h,e=>by rw[zD] at e;cases e;exact h
 |r::rs,ms,t,hr,h,e=>by
  obtain⟨cs,x,rfl,_,hx⟩:=hr r D1
  have hr':=λr h=>hr r (Z0 _ h)
  rw[zD] at e
  split at e
  ·rcases hx with rfl|⟨w,m,rfl,_,hm⟩
   ·cases e
   ·exact zcH hr' (λy hy=>(zjx hy).elim (h y) λz=>by rw[z];exact hm) e
  ·exact zcH hr' h e
theorem zsA{N B C:St->Hp->Prop}{R:VK}(k:∀n:St->Hp->Prop,(∀σ' H',sb ⟨N,R,B,C⟩ σ' H'->n σ' H')->sa ⟨n,R,B,C⟩ σ H):zrx sa sb ⟨N,R,B,C⟩ σ H:=k _ λ_ _ h=>h
section
variable{δ ε ζ η θ:Type}
end
theorem zlJ(d it:Addr)(hne:d≠it)(o:Obj)(u:HO)(vs:List V)(kvs:List (Key×Value))(ep:Nat)
 (dat:∀h:Heap,h.get? d=some o->h.DictAt (zM P w) d kvs ep) (rel:∀(i:Nat) (v:V),vs[i]?=some v->∃q,kvs[i]?=some q/\RelV v q.2) (hl:vs.length=kvs.length):
 Turn P w K tg (Itd d o u vs) [it] it (λi h=>i<=kvs.length/\h.IsValIter it d i kvs.length ep) where
 mem:=`j2
 obj:=λi h st b hb=>by
  obtain⟨_,o,e,c,dd⟩:=st
  have:b=it:=by simpa using hb
  subst this
  exact⟨o,e,λv z=>by rw[dd] at z;cases z⟩
 keep:=λi h h' st k=>⟨st.1,st.2.at λo e=>k it `j2 o e⟩
 item:=by
  intro X hP hw hK hc i pins s σ H E I hf st hg
  subst hP hw hK
  have hi:i<vs.length:=hg.1
  have hm:=dat s.heap ((show ObjOk X.prog X.w H s.heap d (.frz o u)from I.hok d _ hg.2)).1
  obtain⟨⟨k,u'⟩,hu,ru⟩:=rel i vs[i] (by simp[hi])
  obtain⟨f0,f1,f2,f3,f4,f5⟩:=hf it `j2
  refine wpAny_pyNext_values_item st.2 hm hu λh' st' sb=>?_
  have I1:Inv X pins σ H {s with heap:=h'}:=I.turned (t':=s.toks) (λb o hb e=>(sb.2 b hb).trans e) f0 f1 f3 f4 f5
  obtain⟨o2,e,c,dd⟩:=id st'
  exact⟨u',rfl,ziD (s:={s with heap:=h'}) e c dd ⋯ ⟨vs[i],H,I1,ru,⟨rfl,by simp[hi]⟩,⟨(),st'⟩,λb hb=>(hf b hb).1⟩⟩
 done:=by
   intro X hP hw hK hc i pins s σ H E I hf st hg
   subst hP hw hK
   have hi:vs.length<=i:=hg.1
   have hm:=dat s.heap ((show ObjOk X.prog X.w H s.heap d (.frz o u)from I.hok d _ hg.2)).1
   obtain⟨f0,f1,f2,f3,f4,f5⟩:=hf it `j2
   exact wpAny_pyNext_values_end (I.ok.hd hc) st.2 hm (Q0 ()) λh' eb=>⟨rfl,I.turned (t':=s.toks) (λb o hb e=>eb b o hb e) f0 f1 f3 f4 f5⟩
 self:=λA i s Q E st h=>wpAny_pyIter_valiter st.2 h
noncomputable def zsn(tl:TE):TI:=λσ H R=>tl σ H λx H1=>∃d kvs,x= .ref d/\H1 d=some (.dK kvs)/\∀(o:Obj),(kvs.map (·.1)).Nodup->R (Itd d o (.dK kvs) (kvs.map (·.2))) (upd H1 d (.frz o (.dK kvs)))
theorem zrB{o:Expr}{to:TE}(ho:QE X o to)(hbase:autoParam (attributeBase o "values" X.env (eval o X.env)=eval o X.env) v3)(hline:autoParam ((apos.endLine==cpos.line)=true) v3):QI X tg (.Call (.Attribute o "values" apos) [] [] cpos) (zsn to):=⟨by
 intro pins s σ H R I h
 refine wpAny_Call_method0_late hbase hline (thn (ho.o pins s σ H _ I h) λv s1 zq=>?_)
 obtain⟨x,H1,I1,r1,q1⟩:=zq
 obtain⟨d,kvs,rfl,e,q⟩:=q1
 cases r1
 obtain⟨hz,nsys,vs,rel,hD⟩:=zf0 I1.hok e
 obtain⟨ob,es,ep,g,ex,dat,ko,pr,nd⟩:=id hD
 have ety:s1.TypeIs (.ref d) "dict":=⟨ob,g,ex.1⟩
 have dlt:d<s1.heap.objs.size:=S0 g
 have dat':∀h:Heap,h.get? d=some ob->h.DictAt (zM X.prog X.w) d vs ep:=λh e=>⟨ob,es,e,ex,dat,ko,pr,nd⟩
 have nd':(kvs.map (·.1)).Nodup:=by rw[zem rel];exact nd
 obtain⟨hll,hget⟩:=zcV rel
 refine⟨"dict","dict.values",F.plainAttrs_dict,F.slot_dict_values,F.type_dict_values,ety,λa z=>?_,Calls.callWith_builtin rfl (PySem.evalArgs_none ?_)⟩
 ·cases z;exact⟨ob,g,ex.2.1⟩
 refine wpAny_call_entry F.slot_dict_values ety F.entry_dict_values ?_ (F.args_dict_values_1 _)
 refine C0 ?_
 unfold Builtin.Dict.noArgs
 refine C0 (wpAny_notOrdered_dict ety ?_)
 show wpAny _ _ (pure d) _ _ s1
 refine K0 ?_
 show wpAny _ _ (Builtin.Dict.showsAll d>>=_) _ _ s1
 unfold Builtin.Dict.showsAll
 rw[N0 (by rw[nsys];exact E1)]
 refine C0 (K0 ?_)
 refine C0 (Y1 (K0 ⟨_,rfl,?_⟩))
 have hv:Heap.IsValuesView (s1.heap.push {cls:= .type "dict_values",data:= .fields #[.ref d]}) s1.heap.objs.size d:=⟨_,O0 _ rfl,rfl,rfl⟩
 have I2:Inv X pins σ (upd H1 d (.frz ob (.dK kvs))) {s1 with heap:=s1.heap.push {cls:= .type "dict_values",data:= .fields #[.ref d]},toks:=s1.toks}:=(I1.frzK e g).kept (t':=s1.toks) λb o e=>F0 _ e
 refine wpAny_pyIter_values (s:={s1 with heap:=s1.heap.push {cls:= .type "dict_values",data:= .fields #[.ref d]}}) hv (dat' _ (F0 _ g)) ?_
 have itn:(s1.heap.push {cls:= .type "dict_values",data:= .fields #[.ref d]}).objs.size=s1.heap.objs.size+1:=Heap.size_push ..
 refine⟨_,[(s1.heap.push {cls:= .type "dict_values",data:= .fields #[.ref d]}).objs.size],_,_,upd H1 d (.frz ob (.dK kvs)),rfl,I2.kept (t':=s1.toks) λb o e=>F0 _ e,zlJ d _ (by rw[itn];exact C1 (Nat.lt_succ_of_lt dlt)) ob (.dK kvs) (kvs.map (·.2)) vs ep dat' (λi v hv=>?_) (by rw[D0];exact hll),⟨T1 _,⟨_,O0 _ rfl,rfl,rfl⟩⟩,λb hb=>?_,q ob nd'⟩
 ·rw[P0] at hv
  cases hz:kvs[i]? with
  |none=>rw[hz] at hv;cases hv
  |some p=>
   rw[hz] at hv;cases hv
   have hi:i<vs.length:=by have:=(W1.mp hz).1;lia
   exact⟨vs[i],by simp[hi],(hget i p vs[i] hz (by simp[hi])).2⟩
 ·have:b=(s1.heap.push {cls:= .type "dict_values",data:= .fields #[.ref d]}).objs.size:=by simpa using hb
  subst this
  refine I2.fpOk (R0 _) ?_
  rw[zc (by rw[itn];exact Nat.ne_of_gt (Nat.lt_succ_of_lt dlt))]
  exact I1.hok.fresh (by rw[itn];exact Nat.le_succ _)⟩
section
open PySem.W
end
section
variable{R:Result->Shared->Prop}{n:Nat}{P:Nat->Value->Prop}{St:Nat->Heap->Prop}
def znh(val:Nat->Value)(lt:Nat->Nat->Bool)(j:Nat)(items:Array Value):Prop:=(j=0/\items= #[])\/∃m<j,items= #[val m,val m]/\∀i<j,i≠m->lt m i=true
theorem znv(W:Walks prog w A.in1 I fp wr n P St)(val:Nat->Value)(lt:Nat->Nat->Bool)(OK:Heap->Prop)(hval:∀i v,P i v->v=val i)(S:Addr)(hSf:S∉fp)
 (frame:∀h h',OK h->(∀b o,b∉wr->b≠S->h.get? b=some o->h'.get? b=some o)->OK h')
 (cmp:∀i j (s':Shared) (Q E:Value->Shared->Prop),i<n->j<n->i≠j->OK s'.heap->Q (.bool (lt i j)) s'->wpAny `Y3 A.in1 (richCompare .Lt (val i) (val j)) Q E s')
 (tri:∀i j,i<n->j<n->i≠j->lt i j=false->lt j i=true) (tr:∀i j k,lt i j=true->lt j k=true->lt i k=true) (hn:0<n):
 ∀(k j:Nat) (s:Shared) (items:Array Value) (c:Nat),n -j=k->j<=n->St j s.heap->OK s.heap->znh val lt j items->s.heap.get? S=some {cls:= .type "list",dict:=none,data:= .seq items c,slots:= #[]}->
 (∀m h' tk,m<n->(∀i<n,i≠m->lt m i=true)->(∀b o,b∉wr->b≠S->s.heap.get? b=some o->h'.get? b=some o)->R (.ok (.ret (val m))) {s with heap:=h',toks:=tk})->
 codeAny `Y3 A (.builtin "min.loop" ⟨[.ref I, .none, .ref S],[]⟩) R s:=by
 have hSw:S∉wr:=λh=>hSf (W.sub _ h)
 have nm:(toString "min"++toString ".loop":String)="min.loop":=⋯
 intro k
 induction k with
 |zero=>
  intro j s items c hk hj hst ok hb hS hR
  have ej:j=n:=()
  subst ej
  refine codeAny_builtin F.entry_min_loop ?_
  rw[Around.under_plainId F.plain_min_loop _]
  show wpAny _ A.in1 (seqItems? (.ref S)>>=_) _ _ s
  refine C0 (wpAny_seqItems hS rfl ?_)
  show wpAny _ A.in1 (tryCatch (pyNext (.ref I)) _>>=_) _ _ s
  refine C0 (wpAny_tryCatch (W.done s _ _ hst λh' tk hk'=>?_))
  have hS':=hk' S _ hSw hS
  rcases hb with⟨z,_⟩|⟨m,hm,rfl,hbest⟩
  ·lia
  ·show wpAny _ A.in1 (updateSeq S (λ_=> #[])>>=_) _ _ _
   refine C0 (wpAny_updateSeq hS' rfl (C0 (wpAny_letGo (K0 ?_))))
   exact hR m _ tk hm hbest λb o hbw hbS e=>(Heap.get?_update_other _ _ (Ne.symm hbS)).trans (hk' b o hbw e)
 |succ k ih=>
  intro j s items c hk hj hst ok hb hS hR
  refine codeAny_builtin F.entry_min_loop ?_
  rw[Around.under_plainId F.plain_min_loop _]
  show wpAny _ A.in1 (seqItems? (.ref S)>>=_) _ _ s
  refine C0 (wpAny_seqItems hS rfl ?_)
  show wpAny _ A.in1 (tryCatch (pyNext (.ref I)) _>>=_) _ _ s
  refine C0 (wpAny_tryCatch (W.item j s _ _ () hst λv h' tk hP hst' hk'=>?_))
  have hS':=hk' S _ hSw hS
  have ev:=hval _ _ hP
  subst ev
  have okh:OK h':=frame _ _ ok λb o b1 _ e=>hk' b o b1 e
  have go:∀(its:Array Value) (h2:Heap) (tk2 c2:Nat),znh val lt (j+1) its->h2.get? S=some {cls:= .type "list",dict:=none,data:= .seq its c2,slots:= #[]}->St (j+1) h2->(∀b o,b∉wr->b≠S->s.heap.get? b=some o->h2.get? b=some o)->
   codeAny `Y3 A (.builtin "min.loop" ⟨[.ref I, .none, .ref S],[]⟩) R {s with heap:=h2,toks:=tk2}:=λits h2 tk2 c2 hb2 hS2 st2 k2=>
   ih (j+1) {s with heap:=h2,toks:=tk2} its c2 () () st2 (frame _ _ ok k2) hb2 hS2 λm h3 tk3 hm hv k3=>hR m h3 tk3 hm hv λb o b1 b2 e=>k3 b o b1 b2 (k2 b o b1 b2 e)
  have put:∀(its:Array Value) (tk2:Nat),znh val lt (j+1) its->codeAny `Y3 A (.builtin "min.loop" ⟨[.ref I, .none, .ref S],[]⟩) R {s with heap:=h'.update S (Obj.mapSeq λ_=>its),toks:=tk2}:=λits tk2 hb2=>
   go its _ tk2 _ hb2 (Heap.get?_update_self _ hS' rfl) (W.frame _ _ _ hst' λb hbf o e=>(Heap.get?_update_other _ _ (λh:S=b=>hSf (by rw[h];exact hbf))).trans e) λb o b1 b2 e=>(Heap.get?_update_other _ _ (Ne.symm b2)).trans (hk' b o b1 e)
  rcases hb with⟨z,rfl⟩|⟨m,hm,rfl,hbest⟩
  ·subst z
   show wpAny _ A.in1 (updateSeq S (λ_=> #[val 0,val 0])>>=_) _ _ _
   refine C0 (wpAny_updateSeq hS' rfl ?_)
   rw[nm]
   exact K0 ⟨plainId_quiet F.plain_min_loop _,put _ _ (.inr ⟨0,(),rfl,λi hi ne=>()⟩)⟩
  ·show wpAny _ A.in1 (tryCatch (holding [val j,val j] (richCompare .Lt (val j) (val m)>>=_)) _>>=_) _ _ _
   refine C0 (wpAny_tryCatch (wpAny_holding (C0 (cmp j m {s with heap:=h',toks:=tk} _ _ () () () okh ?_))))
   refine C0 (wpAny_holding (wpAny_truthy_bool ?_))
   refine C0 (wpAny_letGo (K0 ?_))
   cases hbb:lt j m with
   |true=>
    simp only[if_true]
    refine C0 (wpAny_updateSeq hS' rfl (C0 (wpAny_letGo ?_)))
    rw[nm]
    refine K0 ⟨plainId_quiet F.plain_min_loop _,put _ _ (.inr ⟨j,(),rfl,λi hi ne=>?_⟩)⟩
    by_cases e:i=m
    ·rw[e];exact hbb
    ·exact tr _ _ _ hbb (hbest i () e)
   |false=>
    simp only[U2,if_false]
    refine C0 (wpAny_letGo ?_)
    rw[nm]
    refine K0 ⟨plainId_quiet F.plain_min_loop _,go _ _ _ c (.inr ⟨m,(),rfl,λi hi ne=>?_⟩) hS' hst' λb o b1 _ e=>hk' b o b1 e⟩
    by_cases e:i=j
    ·rw[e];exact tri _ _ () () () hbb
    ·exact hbest i () ne
end
theorem zl9(a:Value):argsOk "min" ⟨[a],[]⟩:=by unfold argsOk;kernel_rfl
theorem call_minL{its:Array Value}(hA:A.handled=none)(hl:s.heap.IsList l its)(val:Nat->Value)(lt:Nat->Nat->Bool)(hval:∀(i:Nat) (v:Value),its[i]?=some v->v=val i)(hn:0<its.size)
 (cmp:∀i j (s':Shared) (Q E:Value->Shared->Prop),i<its.size->j<its.size->i≠j->(∀b o,s.heap.get? b=some o->s'.heap.get? b=some o)->Q (.bool (lt i j)) s'->wpAny `Y3 A.in1 (richCompare .Lt (val i) (val j)) Q E s')
 (tri:∀i j,i<its.size->j<its.size->i≠j->lt i j=false->lt j i=true) (tr:∀i j k,lt i j=true->lt j k=true->lt i k=true)
 (h:∀m h' tk,m<its.size->(∀i<its.size,i≠m->lt m i=true)->(∀b o,s.heap.get? b=some o->h'.get? b=some o)->Q (val m) {s with heap:=h',toks:=tk}):
 wpAny `Y3 A (call (.builtin "min") [.ref l]) Q E s:=by
 have nm:(toString "min"++toString ".loop":String)="min.loop":=⋯
 refine wpAny_call (codeAny_call_builtin F.plain_min F.entry_min ?_)
 have ck:checkBuiltinCall "min" ⟨[.ref l],[]⟩=pure Unit.unit:=by
  simp only[checkBuiltinCall,F.kind_min]
  have ha:=zl9 (.ref l)
  unfold argsOk at ha
  cases hsig:Manifest.signature? "min"with
  |none=>rfl
  |some sig=>rw[hsig] at ha;exact ha
 refine wpAny_of_eq ck ?_
 have bp:Builtin.Builtins.bindParams "min" ["key","default"] 0 ⟨[],[]⟩=pure [none,none]:=by rfl
 show wpAny _ A.in1 (Builtin.Builtins.bindParams "min" ["key","default"] 0 ⟨[],[]⟩>>=_) _ _ s
 refine C0 (wpAny_of_eq bp ?_)
 refine C0 (K0 ?_)
 refine C0 (wpAny_pyIter_list hl ?_)
 refine C0 (Y1 ?_)
 rw[nm]
 have hp:l≠s.heap.objs.size:=C1 (by obtain⟨o,ho,_⟩:=hl;exact S0 ho)
 have sz:(s.heap.push {cls:= .type "list_iterator",data:= .fields #[.ref l, .int 0 0]}).objs.size=s.heap.objs.size+1:=Heap.size_push ..
 have llt:l<s.heap.objs.size:=by obtain⟨o,ho,_⟩:=hl;exact S0 ho
 refine K0 ⟨plainId_quiet F.plain_min_loop _,?_⟩
 have nw:∀{b:Addr} {o:Obj},s.heap.get? b=some o->b∉ [s.heap.objs.size]:=λ{b o} e z=>by
  have:b=s.heap.objs.size:=by simpa using z
  exact absurd (S0 e) (by rw[this];exact Nat.lt_irrefl _)
 have nS:∀{b:Addr} {o:Obj},s.heap.get? b=some o->b≠(s.heap.push {cls:= .type "list_iterator",data:= .fields #[.ref l, .int 0 0]}).objs.size:=λ{b o} e z=>by
  rw[sz] at z
  exact absurd (S0 e) (by rw[z];exact Nat.not_lt.mpr (Nat.le_succ _))
 refine znv (Walks.list (A:=A.in1) (show A.in1.handled=none from hA) s.heap.objs.size l hp its) val lt (λh=>∀b o,s.heap.get? b=some o->h.get? b=some o) (λi v e=>hval i v e) _ ?_ (λh h' ok k b o e=>k b o (nw e) (nS e) (ok b o e)) (λi j s' Q E hi hj ne ok q=>cmp i j s' Q E hi hj ne ok q) tri tr hn _ 0 _ #[] 0 rfl (T1 _) ?_ ?_ (.inl ⟨rfl,rfl⟩) (O0 _ rfl) λm h' tk hm hv k=>h m h' tk hm hv λb o e=>k b o (nw e) (nS e) (F0 _ (F0 _ e))
 ·show (s.heap.push _).objs.size∉_
  rw[sz]
  simp only[X0,j1,or_false,not_or]
  exact⟨Nat.ne_of_gt (Nat.lt_succ_self _),Nat.ne_of_gt (Nat.lt_succ_of_lt llt)⟩
 ·refine ⟨⟨_,F0 _ (O0 _ rfl),rfl,rfl⟩,?_⟩
  obtain⟨o,ho,r⟩:=hl
  exact⟨o,F0 _ (F0 _ ho),r⟩
 ·exact λb o e=>F0 _ (F0 _ e)
theorem zbQ{N:List α}(hN:N.Nodup){x:α}(a:N[i]?=some x)(b:N[j]?=some x):i=j:=by
 obtain⟨h1,e1⟩:=W1.mp a
 obtain⟨h2,e2⟩:=W1.mp b
 exact(List.getElem_inj hN).mp (e1.trans e2.symm)
def KmO(H:Hp)(b:Addr)(k:Ky)(v:V):Prop:=∃t,H b=some (.tup [.ref t,v])/\KeyO H t k
structure RawKm(h:Heap)(b:Addr)(k:Ky):Prop where
 at_:∃t u,IsTup h b #[.ref t,u]/\RawK h t k
theorem zmJ{b:Addr}{k1 k2:Ky}(hu:A.units+64<cLine)(x:RawKm s.heap a k1)(y:RawKm s.heap b k2)(ne:k1≠k2)(q:Q (.bool (ltK k1 k2)) s):wpAny `Y3 A (richCompare .Lt (.ref a) (.ref b)) Q E s:=by
 obtain⟨t,u,ha,x⟩:=x.at_
 obtain⟨t',u',hb,y⟩:=y.at_
 obtain⟨⟨c1,d1,e1,f1⟩,ho,hc,n,hd⟩:=id ha
 obtain⟨⟨c2,d2,e2,f2⟩,ho2,hc2,n2,hd2⟩:=id hb
 simp only at hc hd hc2 hd2
 subst hc hd hc2 hd2
 refine richCompare_meets_room (op:= .Lt) ⟨_,ho,rfl⟩ ⟨_,ho2,rfl⟩ F.slot_tuple_lt F.entry_tuple_lt (F.args_tuple_lt_2 _ _) (zcW a b n n2 d1 d2 f1 f2 [.ref t,u] [.ref t',u'] 0 (ltK k1 k2)) ⟨ho,ho2,λprog w i x y hi=>absurd hi (Nat.not_lt_zero _),T1 _,T1 _, .inr ⟨_,_,rfl,rfl,λprog w E Q hq=>?_,λprog w E Q hq=>?_⟩,⟨(λx=>nomatch x),q⟩⟩ ()
 ·refine zpO (by show A.units+1+62<cLine;lia) x y ?_
  rw[b0 ne];exact hq
 ·exact zoM (by show A.units+1+63<cLine;lia) x y hq
theorem KmO.raw(I:Inv X pins σ H s){b:Addr}{k:Ky}(x:KmO H b k v)(kp:∀b o,s.heap.get? b=some o->h'.get? b=some o):RawKm h' b k:=by
 obtain⟨t,e,o⟩:=x
 obtain⟨its,r1,t1,_⟩:=I.tuple (SqT.of e)
 obtain⟨_,_,rfl,x1,x2⟩:=zg1 r1
 cases x1
 exact⟨⟨t,_,zef t1 kp,o.raw I kp⟩⟩
def zqY:List V->Hp->VK->Prop:=λxs H Q=>∃(l:Addr) (bs:List Addr) (ks:List Ky),xs=[.ref l]/\H l=some (.lst (bs.map V.ref))/\bs.length=ks.length/\(∀(i:Nat) (b:Addr) (k:Ky),bs[i]?=some b->ks[i]?=some k->∃v,KmO H b k v)/\ks.Nodup/\0<ks.length/\
 ∀(m:Nat) (b:Addr) (k:Ky),bs[m]?=some b->ks[m]?=some k->(∀k'∈ks,k'≠k->ltK k k'=true)->Q (.ref b) H
theorem zkf(hc:X.calm=true)(hu:X.A.units+70<cLine):CallR X (.builtin "min") zqY:=by
 intro pins s σ H xs us Q I r h
 obtain⟨l,bs,ks,rfl,hl,hlen,hk,nd,h0,q⟩:=h
 obtain⟨u,rfl,ru⟩:=zcu r
 cases ru
 obtain⟨its,rv,pl,hz⟩:=I.list (SqL.of hl)
 have ei:=zg0 rv
 subst ei
 have sz:(bs.map Value.ref).toArray.size=ks.length:=by simp[hlen]
 have gb:∀i,i<ks.length->bs[i]?=some (bs.getD i 0):=λi h=>by simp[show i<bs.length by lia]
 have gk:∀i,i<ks.length->ks[i]?=some (ks.getD i (0,0,[])):=λi h=>by simp[h]
 refine call_minL (I.ok.hd hc) pl.isList (λi=> .ref (bs.getD i 0)) (λi j=>ltK (ks.getD i (0,0,[])) (ks.getD j (0,0,[]))) (λi v e=>?_) (by rw[sz];exact h0) (λi j s' Q E hi hj ne kp hq=>?_) (λi j hi hj ne e=>?_) (λi j k a b=>zn3 a b) λm h' tk hm hb kp=>?_
 ·rw[List.getElem?_toArray,P0] at e
  cases e2:bs[i]? with
  |none=>rw[e2] at e;cases e
  |some b=>rw[e2] at e;cases e;simp[List.getD,e2]
 ·rw[sz] at hi hj
  obtain⟨v,o1⟩:=hk i _ _ (gb i hi) (gk i hi)
  obtain⟨v',o2⟩:=hk j _ _ (gb j hj) (gk j hj)
  refine zmJ (by show X.A.units+1+64<cLine;lia) (o1.raw I kp) (o2.raw I kp) (λz=>ne ?_) hq
  have h1:=gk i hi
  rw[z] at h1
  exact zbQ nd h1 (gk j hj)
 ·rw[sz] at hi hj
  refine zol (λz=>ne ?_) e
  have h1:=gk i hi
  rw[z] at h1
  exact zbQ nd h1 (gk j hj)
 ·rw[sz] at hm hb
  refine⟨.ref _,_,I.kept (t':=tk) kp,rfl,q m _ _ (gb m hm) (gk m hm) λk' hk' ne=>?_⟩
  obtain⟨i,hi,e⟩:=y1 hk'
  have:=hb i hi λz=>ne (by rw[←e,←z];simp[hi])
  rw[←e]
  simpa[List.getD,hi] using this
inductive TrX(K:W.Frag)(H:Hp):V->PyData->Prop
 |non:TrX K H .non .none
 |int (i:Int):TrX K H (.int i) (.int i)
 |str (x:Str) (h:PyData.strOk x=true):TrX K H (.str x) (.str x)
 |tup {p:Addr} {vs:List V} {ds:List PyData} (e:SqT K H p vs) (hl:vs.length=ds.length) (h:∀(i:Nat) (v:V) (d:PyData),vs[i]?=some v->ds[i]?=some d->TrX K H v d):TrX K H (.ref p) (.tuple ds)
 |lst {p:Addr} {vs:List V} {ds:List PyData} (e:H p=some (.lst vs)) (hl:vs.length=ds.length) (h:∀(i:Nat) (v:V) (d:PyData),vs[i]?=some v->ds[i]?=some d->TrX K H v d):TrX K H (.ref p) (.list ds)
noncomputable abbrev Hr:=Int×Option WM
noncomputable abbrev Tb:=List (Str×Hr)
noncomputable abbrev Lt:=Str×Hr
noncomputable def zu(m:Tb)(x:Str):Option Hr:=(m.find? λp=>decide (p.1=x)).map (·.2)
noncomputable def zdv(m:Tb)(x:Str)(r:Hr):Tb:=if(m.any λp=>decide (p.1=x))=true then m.map (λp=>if p.1=x then(p.1,r)else p)else m ++ [(x,r)]
theorem zae{p:Str×Hr}{m:Tb}(e:p.1=x):zu (p::m) x=some p.2:=by simp[zu,List.find?_cons,e]
theorem zap{p:Str×Hr}{m:Tb}(e:¬p.1=x):zu (p::m) x=zu m x:=by simp[zu,List.find?_cons,e]
theorem zcz(x:Str):∀m:Tb,(m.any λp=>decide (p.1=x))=(zu m x).isSome
 |[]=>rfl
 |p::m=>by
  rw[List.any_cons,zcz x m]
  by_cases e:p.1=x
  ·rw[zae e,V0 e];rfl
  ·rw[zap e,b0 e];rfl
theorem zg5(x y:Str)(r:Hr):∀m:Tb,zu (m.map λp=>if p.1=x then(p.1,r)else p) y=(zu m y).map λz=>if y=x then r else z
 |[]=>rfl
 |p::m=>by
  rw[N1]
  by_cases e:p.1=y
  ·by_cases e2:p.1=x
   ·rw[T0 e2,zae (p:=(p.1,r)) e,zae e,Option.map_some,T0 (by rw[←e];exact e2)]
   ·rw[N0 e2,zae e,zae e,Option.map_some,N0 (by rw[←e];exact e2)]
  ·rw[zap e,←zg5 x y r m]
   by_cases e2:p.1=x
   ·rw[T0 e2,zap (p:=(p.1,r)) e]
   ·rw[N0 e2,zap e]
theorem zgw(x y:Str)(r:Hr):∀m:Tb,zu m x=none->zu (m ++ [(x,r)]) y=if y=x then some r else zu m y
 |[],_=>by
  by_cases e:y=x
  ·rw[T0 e,e];exact zae rfl
  ·rw[N0 e];exact zap (p:=(x,r)) (λz=>e z.symm)
 |p::m,h=>by
  by_cases e2:p.1=x
  ·rw[zae e2] at h;cases h
  ·rw[zap e2] at h
   rw[List.cons_append]
   by_cases e:p.1=y
   ·rw[zae e,zae e,N0 (by rw[←e];exact e2)]
   ·rw[zap e,zap e];exact zgw x y r m h
theorem zl2(m:Tb)(x y:Str)(r:Hr):zu (zdv m x r) y=if y=x then some r else zu m y:=by
 unfold zdv
 rw[zcz]
 cases h:zu m x with
 |none=>rw[N0 `j2];exact zgw x y r m h
 |some z=>
  rw[T0 (show(some z).isSome=true from rfl),zg5]
  by_cases e:y=x
  ·rw[e,h,T0 rfl,Option.map_some,T0 rfl]
  ·rw[N0 e];cases zu m y with
   |none=>rfl
   |some w=>rw[Option.map_some,N0 e]
theorem zhp(m:Tb)(x:Str)(r:Hr):(zu m x=none->zdv m x r=m ++ [(x,r)])/\(zu m x≠none->(zdv m x r).map (·.1)=m.map (·.1)):=by
 unfold zdv
 rw[zcz]
 refine⟨λh=>by rw[h,N0 `j2],λh=>?_⟩
 cases e:zu m x with
 |none=>exact absurd e h
 |some z=>
  rw[T0 (show(some z).isSome=true from rfl),List.map_map]
  refine List.map_congr_left λp _=>?_
  show(if p.1=x then(p.1,r)else p).1=p.1
  split<;>rfl
theorem zeV{m:Tb}{r:Hr}(h:zu m x=some r):(x,r)∈m:=by
 unfold zu at h
 cases e:m.find? λp=>decide (p.1=x)with
 |none=>rw[e] at h;cases h
 |some p=>
  rw[e] at h
  cases h
  have:=List.mem_of_find?_eq_some e
  have h2:p.1=x:=by simpa using List.find?_some e
  rw[←h2];exact this
theorem zez:∀{m:Tb} {x:Str} {r:Hr},(m.map (·.1)).Nodup->(x,r)∈m->zu m x=some r
 |p::m,x,r,nd,h=>by
  rw[N1,D2] at nd
  rcases X0.mp h with h|h
  ·rw[←h];exact zae rfl
  ·rw[zap λz=>nd.1 (by rw[z];exact V1.mpr ⟨_,h,rfl⟩)]
   exact zez nd.2 h
theorem zl5{m:Tb}:x∈m.map (·.1)↔zu m x≠none:=by
 constructor
 ·intro h z
  obtain⟨p,hp,rfl⟩:=V1.mp h
  have:=zcz p.1 m
  rw[z] at this
  have h2:=List.any_eq_false.mp this p hp
  exact h2 (V0 rfl)
 ·intro h
  cases e:zu m x with
  |none=>exact absurd e h
  |some r=>exact V1.mpr ⟨_,zeV e,rfl⟩
theorem zld{m:Tb}{r:Hr}(nd:(m.map (·.1)).Nodup):((zdv m x r).map (·.1)).Nodup:=by
 cases e:zu m x with
 |none=>
  rw[(zhp m x r).1 e,E2]
  refine List.nodup_append.mpr ⟨nd,`j2,λa ha b hb z=>?_⟩
  rw[N1,List.map_nil,X1] at hb
  rw[z,hb] at ha
  exact zl5.mp ha e
 |some z=>rw[(zhp m x r).2 (by rw[e];exact λz=>nomatch z)];exact nd
noncomputable def zbX(r:Option Hr):Int:=match r with|none=>0|some r=>r.1
noncomputable def zbv(m:Tb)(l:Lt):Tb:=if l.2.1<=zbX (zu m l.1)then m else zdv m l.1 l.2
noncomputable def zc6(nm:Str)(rs:List D)(p:Str×Hr):Option WM:=match p.2.2 with|none=>none|some (w,ms)=>if nm∈w\/zbU (zH (nm::w) ms rs)=true then none else some (nm::w,ms)
noncomputable def za1(nm:Str)(rs:List D)(m:Tb):List WM:=m.filterMap (zc6 nm rs)
def zey(rs:List D)(es:List WM):Option WM->Prop
 |none=>es=[]
 |some e=>e∈es/\∀e'∈es,kE rs e'≠kE rs e->ltK (kE rs e) (kE rs e')=true
theorem zhg{es es':List WM}(h:∀e,e∈es↔e∈es')(u:∀e∈es,∀e'∈es,e.1=e'.1->e=e'){b b':Option WM}(h1:zey rs es b)(h2:zey rs es' b'):b=b':=by
 cases b with
 |none=>
  cases b' with
  |none=>rfl
  |some e'=>
   have h1:es=[]:=h1
   have:=(h e').mpr h2.1
   rw[h1] at this;cases this
 |some e=>
  cases b' with
  |none=>
   have h2:es'=[]:=h2
   have:=(h e).mp h1.1
   rw[h2] at this;cases this
  |some e'=>
   by_cases c:kE rs e'=kE rs e
   ·have e1:e'.1=e.1:=T2 (λk:Ky=>k.2.2) c
    rw[u e h1.1 e' ((h _).mpr h2.1) e1.symm]
   ·have l1:=h1.2 e' ((h _).mpr h2.1) c
    have l2:=h2.2 e ((h _).mp h1.1) (Ne.symm c)
    rw[zpg l1] at l2;cases l2
theorem zhw{nm:Str}{m:Tb}(nd:(m.map (·.1)).Nodup){e:WM}:e∈za1 nm rs m↔∃x r,zu m x=some r/\zc6 nm rs (x,r)=some e:=by
 unfold za1
 rw[List.mem_filterMap]
 exact⟨λ⟨⟨x,r⟩,h,o⟩=>⟨x,r,zez nd h,o⟩,λ⟨x,r,h,o⟩=>⟨(x,r),zeV h,o⟩⟩
noncomputable def zdw(rs:List D)(b:Option WM)(o:Str):Option WM:=match b with|none=>none|some (w,ms)=>(zD w (some o) rs ms).map λt=>(w,t)
noncomputable def zaf(tm:Tb)(o:Str):Option WM:=match zu tm o with|none=>none|some r=>r.2
noncomputable def zcg(rs:List D)(b:Option WM)(tm:Tb)(o:Str):Tb:=if zdw rs b o=zaf tm o then tm else zdv tm o (zbX (zu tm o)+1,zdw rs b o)
noncomputable def zgs(rs:List D)(b:Option WM)(tm:Tb)(o:Str):List Lt:=if zdw rs b o=zaf tm o then [] else [(o,zbX (zu tm o)+1,zdw rs b o)]
theorem zfO{b:Option WM}{tm:Tb}{o y:Str}:zaf (zcg rs b tm o) y=if y=o then zdw rs b o else zaf tm y:=by
 unfold zcg
 split
 ·rename_i h
  by_cases e:y=o
  ·rw[T0 e,e,h]
  ·rw[N0 e]
 ·show (match zu (zdv tm o _) y with|none=>none|some r=>r.2)=_
  rw[zl2]
  by_cases e:y=o
  ·rw[T0 e,T0 e]
  ·rw[N0 e,N0 e];rfl
noncomputable def zeL(T:List Lt)(o:Str):Option WM:=match(T.reverse.find? λp=>decide (p.1=o))with|none=>none|some p=>p.2.2
theorem zj8{T:List Lt}{p:Lt}{o:Str}:zeL (T ++ [p]) o=if p.1=o then p.2.2 else zeL T o:=by
 unfold zeL
 rw[List.reverse_append,List.reverse_singleton,List.singleton_append,List.find?_cons]
 by_cases e:p.1=o
 ·rw[V0 e,T0 e]
 ·rw[b0 e,N0 e]
theorem zmc{b:Option WM}{tm:Tb}{T:List Lt}{o:Str}(h:∀y,zeL T y=zaf tm y)(y:Str):zeL (T ++zgs rs b tm o) y=zaf (zcg rs b tm o) y:=by
 rw[zfO]
 unfold zgs
 split
 ·rename_i e
  rw[List.append_nil,h]
  by_cases c:y=o
  ·rw[T0 c,c,e]
  ·rw[N0 c]
 ·rw[zj8]
  by_cases c:y=o
  ·rw[T0 c,T0 c.symm]
  ·rw[N0 c,N0 (λz=>c z.symm),h]
noncomputable def zbi(rs:List D)(b:Option WM)(tm:Tb)(os:List Str):Tb:=os.foldl (zcg rs b) tm
noncomputable def za3(rs:List D)(b:Option WM):Tb->List Str->List Lt
 |_,[]=> []
 |tm,o::os=>zgs rs b tm o ++za3 rs b (zcg rs b tm o) os
theorem zkl{b:Option WM}{tm:Tb}{os:List Str}{o:Str}:zbi rs b tm (os ++ [o])=zcg rs b (zbi rs b tm os) o:=by unfold zbi;rw[List.foldl_append];rfl
theorem zg4{rs:List D}{b:Option WM}{o:Str}:∀{os:List Str} {tm:Tb},za3 rs b tm (os ++ [o])=za3 rs b tm os ++zgs rs b (zbi rs b tm os) o
 |[],tm=>by rw[List.nil_append,za3,za3,za3,List.append_nil,List.nil_append];rfl
 |p::os,tm=>by rw[List.cons_append,za3,zg4 (os:=os),za3,List.append_assoc];rfl
theorem zot{b:Option WM}{tm:Tb}{o:Str}:(zgs rs b tm o).length<=1:=by unfold zgs;split<;>simp
theorem zdn{rs:List D}{b:Option WM}:∀{os:List Str} {tm:Tb},(za3 rs b tm os).length<=os.length
 |[],tm=>R0 _
 |p::os,tm=>by
  rw[za3,o0,J1]
  have h1:=zot (rs:=rs) (b:=b) (tm:=tm) (o:=p)
  have h2:=zdn (rs:=rs) (b:=b) (os:=os) (tm:=zcg rs b tm p)
  lia
theorem zdX{rs:List D}{b:Option WM}{y:Str}:∀{os:List Str} {tm:Tb},zaf (zbi rs b tm os) y=if y∈os then zdw rs b y else zaf tm y
 |[],tm=>by rw[N0 `j2];rfl
 |p::os,tm=>by
  show zaf (zbi rs b (zcg rs b tm p) os) y=_
  rw[zdX (os:=os),zfO]
  by_cases h1:y∈os
  ·rw[T0 h1,T0 (Z0 _ h1)]
  ·rw[N0 h1]
   by_cases h2:y=p
   ·rw[T0 h2,T0 (by rw[h2];exact D1),h2]
   ·rw[N0 h2,N0 (λz=>(X0.mp z).elim h2 h1)]
theorem zeQ{rs:List D}{b:Option WM}:∀{os:List Str} {tm:Tb} {T:List Lt},(∀y,zeL T y=zaf tm y)->∀y,zeL (T ++za3 rs b tm os) y=zaf (zbi rs b tm os) y
 |[],tm,T,h,y=>by rw[za3,List.append_nil];exact h y
 |p::os,tm,T,h,y=>by
  rw[za3,←List.append_assoc]
  exact zeQ (os:=os) (zmc h) y
structure TbOk(hs:List Str)(ok:Str->Hr->Prop)(tm:Tb):Prop where
 nd:(tm.map (·.1)).Nodup
 mem:∀p∈tm,p.1∈hs/\ok p.1 p.2
theorem TbOk.nil{ok:Str->Hr->Prop}:TbOk hs ok []:=⟨List.nodup_nil,λ_ z=>nomatch z⟩
theorem zhy{m:Tb}{r:Hr}{p:Str×Hr}(h:p∈zdv m x r):p∈m\/p=(x,r):=by
 unfold zdv at h
 split at h
 ·obtain ⟨q,hq,e⟩:=V1.mp h
  by_cases c:q.1=x
  ·rw[T0 c] at e;exact .inr (by rw[←e,c])
  ·rw[N0 c] at e;exact .inl (by rw[←e];exact hq)
 ·rcases N2.mp h with h|h
  ·exact .inl h
  ·exact .inr (X1.mp h)
theorem TbOk.put{ok:Str->Hr->Prop}{tm:Tb}{r:Hr}(h:TbOk hs ok tm)(hx:x∈hs)(ho:ok x r):TbOk hs ok (zdv tm x r):=
 ⟨zld h.nd,λp hp=>by
   rcases zhy hp with h1|h1
   ·exact h.mem p h1
   ·rw[h1];exact⟨hx,ho⟩⟩
theorem TbOk.len{ok:Str->Hr->Prop}{tm:Tb}(h:TbOk hs ok tm):tm.length<=hs.length:=by
 have:=zbP h.nd (m:=hs) λx hx=>by
  obtain⟨p,hp,e⟩:=V1.mp hx
  rw[←e];exact(h.mem p hp).1
 rwa[D0] at this
theorem TbOk.look{ok:Str->Hr->Prop}{tm:Tb}{r:Hr}(h:TbOk hs ok tm)(e:zu tm x=some r):ok x r:=(h.mem _ (zeV e)).2
section
variable{h:Heap}{b:Addr}{k:WKey}{xs:List (WKey×Addr×Value)}
end
inductive Alk(H:Hp):List (Key×V)->List (Key×V)->Prop
 |nil:Alk H [] []
 |cons {k:Key} {v v':V} {d:PyData} {r r':List (Key×V)}:Tr H v d->Tr H v' d->d.depth<=60->Alk H r r'->Alk H ((k,v)::r) ((k,v')::r')
theorem Alk.length{r r':List (Key×V)}(h:Alk H r r'):r.length=r'.length:=by
 induction h with
 |nil=>rfl
 |cons _ _ _ _ ih=>rw[J1,J1,ih]
theorem zk7{K:Type}[DecidableEq K]{A:Around}{s:Shared}{kb:List (K×Value)}:∀{r:List (K×Value)},(∀p∈r,∃y,valueAt kb p.1=some y/\SeqAt.EqAt A s p.2 y true)->W.KeqHits A s kb r true
 |[],_=> .nil
 |(k,v)::r,h=>by
  obtain⟨y,h1,h2⟩:=h (k,v) D1
  exact .hit (e:=true) (b:=true) h1 h2 (zk7 λp hp=>h p (Z0 _ hp))
theorem zoN(I:Inv X pins σ H s)(hu:X.A.units+66<cLine)(a:Alk H kvs kvs'):∀{vs vs':List (Key×Value)},KV kvs vs->KV kvs' vs'->
 ∀(i:Nat) (k:Key) (v:Value),vs[i]?=some (k,v)->∃y,vs'[i]?=some (k,y)/\SeqAt.EqAt X.A.in1 s v y true:=by
 induction a with
 |nil=>
  intro vs vs' r r' i k v e
  cases r
  cases e
 |cons t t' hd a ih=>
  intro vs vs' r r' i k v e
  cases r with
  | @cons p q ps qs r1 r=>
    cases r' with
    | @cons p' q' ps' qs' r1' r'=>
      cases i with
      |zero=>
       obtain⟨q1,q2⟩:=q
       obtain⟨q1',q2'⟩:=q'
       cases e
       obtain⟨rk,rv⟩:=r1
       obtain⟨rk',rv'⟩:=r1'
       obtain⟨as,x1⟩:=t.reads I _ rv
       obtain⟨bs,x2⟩:=t'.reads I _ rv'
       refine⟨q2',by dsimp only at rk rk';rw[List.getElem?_cons_zero,←rk',←rk],?_⟩
       have x:=SeqAt.eqAt_reads _ _ X.A.in1 s _ _ as bs x1 x2 t.can t'.can (by show X.A.units+1+_<cLine;lia)
       rw[SeqAt.eqv_refl _ t.can] at x
       exact x
      |succ i=>exact ih r r' i k v e
theorem zqU(hu:X.A.units+66<cLine):OpR X (compareOp .NotEq) (λx y H Q=>∃a b kvs kvs',x= .ref a/\y= .ref b/\H a=some (.dK kvs)/\H b=some (.dK kvs')/\Alk H kvs kvs'/\Q (.bl false) H):=by
 intro pins s σ H x y u v Q I rx ry h
 obtain⟨a,b,kvs,kvs',rfl,rfl,e,e',al,q⟩:=h
 cases rx
 cases ry
 obtain⟨z,sa,vs,rel,dd⟩:=zf0 I.hok e
 obtain⟨z',sb,vs',rel',dd'⟩:=zf0 I.hok e'
 have hl:vs.length=vs'.length:=by rw[←rel.length,←rel'.length,al.length]
 have nd:(vs'.map (·.1)).Nodup:=by obtain⟨_,_,_,_,_,_,_,_,nd⟩:=dd';exact nd
 refine W.keq_ne (r:=true) sa sb dd dd' () (λ_=>zk7 λp hp=>?_) ⟨.bl _,H,I,rfl,?_⟩
 ·obtain ⟨i,hi,ei⟩:=y1 hp
  obtain⟨y,h1,h2⟩:=zoN I hu al rel rel' i p.1 p.2 (by rw[G0 hi,ei])
  exact⟨y,valueAt_of_get nd h1,h2⟩
 ·rw[hl,beq_self_eq_true];exact q
noncomputable def zpu(tl:TE):TI:=λσ H R=>tl σ H λx H1=>∃d kvs,x= .ref d/\H1 d=some (.dK kvs)/\∀(o:Obj),(kvs.map (·.1)).Nodup->R (Iti d o (.dK kvs) (kvs.map λp=>(kV p.1,p.2))) (upd H1 d (.frz o (.dK kvs)))
theorem znz{o:Expr}{to:TE}{k:Nat}{pos2:Pos}(ho:QE X o to)(hbase:autoParam (attributeBase o "items" X.env (eval o X.env)=eval o X.env) v3)(hline:autoParam ((apos.endLine==cpos.line)=true) v3):QI X (.Tuple elts k pos2) (.Call (.Attribute o "items" apos) [] [] cpos) (zpu to):=⟨by
 intro pins s σ H R I h
 refine wpAny_Call_method0_late hbase hline (thn (ho.o pins s σ H _ I h) λv s1 zq=>?_)
 obtain⟨x,H1,I1,r1,q1⟩:=zq
 obtain⟨d,kvs,rfl,e,q⟩:=q1
 cases r1
 obtain⟨hz,nsys,vs,rel,ob,es,ep,g,ex,dat,ko,pr,nd⟩:=zf0 I1.hok e
 have nd':(kvs.map (·.1)).Nodup:=by rw[zem rel];exact nd
 obtain⟨hll,hget⟩:=zcV rel
 have vk:Vals (vs.map λkv=>kV kv.1) (es.toList.map (·.key)):=zeg pr
 have ety:s1.TypeIs (.ref d) "dict":=⟨ob,g,ex.1⟩
 have raw:RawE s1.heap d (es.toList.map λe=>(e.key,e.val)) ep:=⟨ob,es,g,ex,dat,rfl⟩
 have dlt:d<s1.heap.objs.size:=S0 g
 refine⟨"dict","dict.items",F.plainAttrs_dict,F.slot_dict_items,F.type_dict_items,ety,λa z=>?_,Calls.callWith_builtin rfl (PySem.evalArgs_none ?_)⟩
 ·cases z;exact⟨ob,g,ex.2.1⟩
 refine wpAny_call_entry F.slot_dict_items ety F.entry_dict_items (raw_items nsys raw ?_) (F.args_dict_items_1 _)
 have hv:Heap.IsItemsView (s1.heap.push {cls:= .type "dict_items",data:= .fields #[.ref d]}) s1.heap.objs.size d:=⟨_,O0 _ rfl,rfl,rfl⟩
 have raw2:RawE (s1.heap.push {cls:= .type "dict_items",data:= .fields #[.ref d]}) d (es.toList.map λe=>(e.key,e.val)) ep:=⟨ob,es,F0 _ g,ex,dat,rfl⟩
 have I2:Inv X pins σ (upd H1 d (.frz ob (.dK kvs))) {s1 with heap:=s1.heap.push {cls:= .type "dict_items",data:= .fields #[.ref d]},toks:=s1.toks}:=(I1.frzK e g).kept (t':=s1.toks) λb o e=>F0 _ e
 refine raw_items_iter (s:={s1 with heap:=s1.heap.push {cls:= .type "dict_items",data:= .fields #[.ref d]}}) hv raw2 ?_
 have itn:(s1.heap.push {cls:= .type "dict_items",data:= .fields #[.ref d]}).objs.size=s1.heap.objs.size+1:=Heap.size_push ..
 have zl:(es.toList.map λe=>(e.key,e.val)).length=vs.length:=by rw[D0];exact pr.length
 refine⟨_,[(s1.heap.push {cls:= .type "dict_items",data:= .fields #[.ref d]}).objs.size],_,_,upd H1 d (.frz ob (.dK kvs)),rfl,I2.kept (t':=s1.toks) λb o e=>F0 _ e,zkJ d _ (by rw[itn];exact C1 (Nat.lt_succ_of_lt dlt)) ob (.dK kvs) (kvs.map λp=>(kV p.1,p.2)) (es.toList.map λe=>(e.key,e.val)) ep es ex dat rfl (λi v hv=>?_) (by rw[zl,D0];exact hll),⟨T1 _,_,_,O0 _ rfl⟩,λb hb=>?_,q ob nd'⟩
 ·rw[P0] at hv
  cases hz:kvs[i]? with
  |none=>rw[hz] at hv;cases hv
  |some p=>
   rw[hz] at hv;cases hv
   have hi:i<vs.length:=by have:=(W1.mp hz).1;lia
   have hie:i<es.toList.length:=by rw[pr.length];exact hi
   obtain⟨r1,r2⟩:=hget i p vs[i] hz (by simp[hi])
   obtain⟨k1,k2⟩:=pr.get? (i:=i) (e:=es.toList[i]) (k:=(vs[i]).1) (v:=(vs[i]).2) (G0 hie) (G0 hi)
   refine⟨_,by rw[P0,G0 hie];rfl,?_,by show RelV p.2 (es.toList[i]).val;rw[k2];exact r2⟩
   obtain⟨u,hu,ru⟩:=vk.get (i:=i) (x:=kV (vs[i]).1) (by rw[P0,G0 hi];rfl)
   rw[P0,G0 hie] at hu
   cases hu
   show RelV (kV p.1) (es.toList[i]).key
   rw[show p.1=(vs[i]).1 from r1]
   exact ru
 ·have:b=(s1.heap.push {cls:= .type "dict_items",data:= .fields #[.ref d]}).objs.size:=by simpa using hb
  subst this
  refine I2.fpOk (R0 _) ?_
  rw[zc (by rw[itn];exact Nat.ne_of_gt (Nat.lt_succ_of_lt dlt))]
  exact I1.hok.fresh (by rw[itn];exact Nat.le_succ _)⟩
section
variable{q:Str}{h:Heap}{st:Stmt}{ps:List Str}
theorem erA(E:Er K x st)(X:K.In h)(G:h.Ns mainGlobals mg)
 (hb:∀(kV doc pm:Value) (an:Option Addr) (cdv ct:Value) (us:List Value),us.length=ps.length->bindArgs (W.fnOf x x (z4 st) (zL st) (ze st) .none kV doc pm an cdv ct) ⟨us,[]⟩=pure (ps.zip us)):
 At K mg x st ps E.f9 (W.fnOf x x (z4 st) (zL st) (ze st) .none E.kV9 E.dc9 E.pm9 E.an9 E.cd9 E.ct9):=
 ⟨zhM E.l9 E.c9 E.k9,(zhM E.l9 E.c9 E.k9).binds hb,W.mg_of X G E.a9,E.k9⟩
theorem erD(E:ErD K x st)(m:Nat)(X:K.In h)(G:h.Ns mainGlobals mg)(hm:ps.length=m+1)
 (hb:∀(dt:Addr) (kV doc pm:Value) (an:Option Addr) (cdv ct:Value) (us:List Value),us.length=m+1->∃k:Option (Array Value)->Sem (List (Str×Value)),bindArgs (W.fnOf x x (z4 st) (zL st) (ze st) (.ref dt) kV doc pm an cdv ct) ⟨us,[]⟩=seqItems? (.ref dt)>>=k/\k (some #[.none])=pure (ps.zip (us ++ [])))
 (hd:∀(dt:Addr) (kV doc pm:Value) (an:Option Addr) (cdv ct:Value) (us:List Value),us.length=m->∃k:Option (Array Value)->Sem (List (Str×Value)),bindArgs (W.fnOf x x (z4 st) (zL st) (ze st) (.ref dt) kV doc pm an cdv ct) ⟨us,[]⟩=seqItems? (.ref dt)>>=k/\k (some #[.none])=pure (ps.zip (us ++ [.none]))):
 AtD K mg x st ps E.f9 (W.fnOf x x (z4 st) (zL st) (ze st) (.ref E.dt9) E.kV9 E.dc9 E.pm9 E.an9 E.cd9 E.ct9):=
 ⟨zig E.l9 E.d9 E.c9 E.k9,(zig E.l9 E.d9 E.c9 E.k9).binds (m+1) hm hb,(zig E.l9 E.d9 E.c9 E.k9).binds m hm hd,W.mg_of X G E.a9,E.k9⟩
theorem erM(E:Em K C x q st)
 (hb:∀(kV doc pm:Value) (an:Option Addr) (cdv ct:Value) (us:List Value),us.length=ps.length->bindArgs (W.fnOf x q (z4 st) (zL st) (ze st) .none kV doc pm an cdv ct) ⟨us,[]⟩=pure (ps.zip us)):
 MAt K C x q st ps E.f9 (W.fnOf x q (z4 st) (zL st) (ze st) .none E.kV9 E.dc9 E.pm9 E.an9 E.cd9 E.ct9):=
 ⟨zhM E.l9 E.c9 E.k9,(zhM E.l9 E.c9 E.k9).binds hb,⟨E.a9,E.i9,E.k9⟩⟩
theorem erN(E:En K x)(H:Hp):SqT K H E.f9 [.int 0, .non, .ref E.e9]:= .inr ⟨_,_,E.n9,E.l9,rfl,rfl,by show 3<=sizeLine;decide, .cons ⟨E.tk9,rfl⟩ (.cons rfl (.cons rfl .nil))⟩
theorem erN0(E:En K x)(H:Hp):SqT K H E.e9 []:= .inr ⟨_,_,E.ne9,E.d9,rfl,rfl,by show 0<=sizeLine;decide, .nil⟩
end
noncomputable abbrev ziW:List Str:=["thing"]
noncomputable abbrev zcf:List Str:=["thing"]
theorem zjw:FnScope ziW zcf (ze zdB):=`j3
noncomputable abbrev zku:List Str:=["thing","low","high"]
noncomputable abbrev zcE:List Str:=["thing","low","high"]
theorem zkz:FnScope zku zcE (ze zd2):=`j3
noncomputable abbrev zph:List Str:=["cond","way","marks","to","word","about"]
noncomputable abbrev zcR:List Str:=["cond","way","marks","to"]
theorem zfA:FnScope zph zcR (ze zhL):=`j3
noncomputable abbrev zkA:List Str:=["conds","way","marks","to","cond"]
noncomputable abbrev zb0:List Str:=["conds","way","marks","to"]
theorem zfK:FnScope zkA zb0 (ze zdY):=`j3
noncomputable abbrev zhJ:List Str:=["town","house"]
noncomputable abbrev zbH:List Str:=["town","house"]
theorem zh6:FnScope zhJ zbH (ze zcP):=`j3
noncomputable abbrev zj7:List Str:=["town","house"]
noncomputable abbrev zcF:List Str:=["town","house"]
theorem zj2:FnScope zj7 zcF (ze zd6):=`j3
noncomputable abbrev zjW:List Str:=["town","house","ties"]
noncomputable abbrev zh2:List Str:=["town","house"]
theorem zn5:FnScope zjW zh2 (ze zgf):=`j3
noncomputable def zok:Scope:={kind:= .function,names:=[(".0", .local),("a", .local),("b", .local),("house", .free)],isGenerator:=false,isCoroutine:=false,more:=[]}
theorem zgh:CompOk zjW (ze zgf) ["a","b","house"] [none,none,some 1] zok:=⟨rfl,`Z2,`Z2,`Z2,`Z2,rfl,`Z2⟩
noncomputable def zou:Scope:={kind:= .function,names:=[(".0", .local),("a", .local),("b", .local),("house", .free)],isGenerator:=false,isCoroutine:=false,more:=[]}
theorem zgy:CompOk zjW (ze zgf) ["a","b","house"] [none,none,some 1] zou:=⟨rfl,`Z2,`Z2,`Z2,`Z2,rfl,`Z2⟩
noncomputable abbrev zdz:List Str:=["marks","act","word","mark","others"]
noncomputable abbrev zaT:List Str:=["marks","act"]
theorem zaQ:FnScope zdz zaT (ze zaM):=`j3
noncomputable def zeP:Scope:={kind:= .function,names:=[(".0", .local),("one", .local),("mark", .free)],isGenerator:=false,isCoroutine:=false,more:=[]}
theorem zct:CompOk zdz (ze zaM) ["one","mark"] [none,some 3] zeP:=⟨rfl,`Z2,`Z2,`Z2,`Z2,rfl,`Z2⟩
noncomputable abbrev zod:List Str:=["town","way","marks","to","told","conds","act"]
noncomputable abbrev zev:List Str:=["town","way","marks","to"]
theorem zdt:FnScope zod zev (ze zgG):=`j3
noncomputable abbrev zpD:List Str:=["town","way","marks","conds","told"]
noncomputable abbrev zen:List Str:=["town","way","marks"]
theorem zhz:FnScope zpD zen (ze zhE):=`j3
noncomputable abbrev zhU:List Str:=["town","way","marks"]
noncomputable abbrev zbD:List Str:=["town","way","marks"]
theorem zij:FnScope zhU zbD (ze zcM):=`j3
noncomputable abbrev zeJ:List Str:=["town","marked","keys","key","marks"]
noncomputable abbrev zbN:List Str:=["town","marked"]
theorem zbz:FnScope zeJ zbN (ze zbC):=`j3
noncomputable def zfP:Scope:={kind:= .function,names:=[(".0", .local),("way", .local),("marks", .local),("liking_key", .globalImplicit),("town", .free)],isGenerator:=false,isCoroutine:=false,more:=[]}
theorem zbR:CompOk zeJ (ze zbC) ["way","marks","town"] [none,none,some 0] zfP:=⟨rfl,`Z2,`Z2,`Z2,`Z2,rfl,`Z2⟩
noncomputable abbrev ze5:List Str:=["self","town","name"]
noncomputable abbrev zag:List Str:=["self","town","name"]
theorem zeT:FnScope ze5 zag (ze za4):=`j3
noncomputable abbrev ziM:List Str:=["self"]
noncomputable abbrev zbj:List Str:=["self"]
theorem ziw:FnScope ziM zbj (ze zdh):=`j3
noncomputable abbrev zgO:List Str:=["self","other"]
noncomputable abbrev zao:List Str:=["self","other"]
theorem zgP:FnScope zgO zao (ze zcj):=`j3
noncomputable abbrev zgJ:List Str:=["self"]
noncomputable abbrev zaz:List Str:=["self"]
theorem zgS:FnScope zgJ zaz (ze zcl):=`j3
noncomputable abbrev ziv:List Str:=["self","letter","one","to","nr","way","marks"]
noncomputable abbrev zay:List Str:=["self","letter"]
theorem zax:FnScope ziv zay (ze zcT):=`j3
noncomputable abbrev zfS:List Str:=["self"]
noncomputable abbrev zaZ:List Str:=["self"]
theorem zfT:FnScope zfS zaZ (ze zb1):=`j3
noncomputable abbrev zeu:List Str:=["self","found","nr","way","marks"]
noncomputable abbrev zaq:List Str:=["self"]
theorem zaa:FnScope zeu zaq (ze zaJ):=`j3
noncomputable abbrev zgH:List Str:=["self","going"]
noncomputable abbrev zaA:List Str:=["self","going"]
theorem zgN:FnScope zgH zaA (ze zcm):=`j3
noncomputable abbrev zgU:List Str:=["self","other","way","marks","told"]
noncomputable abbrev za9:List Str:=["self","other"]
theorem zbc:FnScope zgU za9 (ze zck):=`j3
noncomputable abbrev zfr:List Str:=["self","found","other","nr","way","marks","offer"]
noncomputable abbrev zam:List Str:=["self"]
theorem zT:FnScope zfr zam (ze zbt):=`j3
noncomputable abbrev zka:List Str:=["road","k"]
noncomputable abbrev zbS:List Str:=["road","k"]
theorem zkK:FnScope zka zbS (ze zd1):=`j3
noncomputable abbrev zdd:List Str:=["self","town","name"]
noncomputable abbrev zaK:List Str:=["self","town"]
theorem zdA:FnScope zdd zaK (ze zaU):=`j3
noncomputable def ze9:Scope:={kind:= .function,names:=[(".0", .local),("name", .local),("House", .globalImplicit),("town", .free)],isGenerator:=false,isCoroutine:=false,more:=[]}
theorem zcr:CompOk zdd (ze zaU) ["name","town"] [none,some 1] ze9:=⟨rfl,`Z2,`Z2,`Z2,`Z2,rfl,`Z2⟩
noncomputable abbrev zjP:List Str:=["self"]
noncomputable abbrev zcI:List Str:=["self"]
theorem zjY:FnScope zjP zcI (ze zd8):=`j3
noncomputable abbrev zeH:List Str:=["self"]
noncomputable abbrev zbx:List Str:=["self"]
theorem zhP:FnScope zeH zbx (ze zbO):=`j3
noncomputable def zf1:Scope:={kind:= .function,names:=[(".0", .local),("name", .local),("house", .local)],isGenerator:=false,isCoroutine:=false,more:=[]}
theorem zbW:CompOk zeH (ze zbO) ["name","house"] [none,none] zf1:=⟨rfl,`Z2,`Z2,`Z2,`Z2,rfl,`Z2⟩
noncomputable abbrev zfv:List Str:=["self","letter","one","to","nr"]
noncomputable abbrev zaB:List Str:=["self","letter"]
theorem zaC:FnScope zfv zaB (ze zbp):=`j3
noncomputable abbrev zjO:List Str:=["self","k","letter"]
noncomputable abbrev zcK:List Str:=["self","k"]
theorem zgo:FnScope zjO zcK (ze zd5):=`j3
noncomputable abbrev zkG:List Str:=["self","k","letter"]
noncomputable abbrev zcD:List Str:=["self","k"]
theorem zf3:FnScope zkG zcD (ze zd9):=`j3
noncomputable abbrev zds:List Str:=["self"]
noncomputable abbrev zaS:List Str:=["self"]
theorem zfQ:FnScope zds zaS (ze zaN):=`j3
noncomputable def zeR:Scope:={kind:= .function,names:=[(".0", .local),("letter", .local),("self", .free)],isGenerator:=false,isCoroutine:=false,more:=[]}
theorem zcv:CompOk zds (ze zaN) ["letter","self"] [none,some 0] zeR:=⟨rfl,`Z2,`Z2,`Z2,`Z2,rfl,`Z2⟩
noncomputable abbrev zi4:List Str:=["_law_script","_law_k","_law_cell"]
noncomputable abbrev zcd:List Str:=["_law_script","_law_k"]
theorem zde:FnScope zi4 zcd (ze zdu):=`j3
noncomputable abbrev zke:List Str:=["_law_script","_law_hand_here","_law_digits","_law_far","_law_k","_law_other"]
noncomputable abbrev zcX:List Str:=["_law_script"]
theorem zau:FnScope zke zcX (ze zdV):=`j3
noncomputable abbrev zji:List Str:=["_law_hand_here","_law_many","_law_digit","_law_turn","_law_mixed","_law_other"]
noncomputable abbrev zO:List Str:=["_law_hand_here","_law_many"]
theorem zaI:FnScope zji zO (ze zc9):=`j3
noncomputable abbrev ziA:List Str:=["_law_hand_here","_law_some"]
noncomputable abbrev zY:List Str:=["_law_hand_here","_law_some"]
theorem ziP:FnScope ziA zY (ze zdr):=`j3
noncomputable abbrev zet:List Str:=["_law_hand_here","_law_many","_law_letters","_law_first","_law_step","_law_names_here","_law_kept","_law_spot","_law_k"]
noncomputable abbrev zby:List Str:=["_law_hand_here","_law_many"]
theorem zac:FnScope zet zby (ze zbw):=`j3
noncomputable def zfR:Scope:={kind:= .function,names:=[(".0", .local),("_law_k", .local),("_law_first", .free),("_law_letters", .free),("_law_step", .free)],isGenerator:=false,isCoroutine:=false,more:=[]}
theorem zdc:CompOk zet (ze zbw) ["_law_k","_law_first","_law_letters","_law_step"] [none,some 3,some 2,some 4] zfR:=⟨rfl,`Z2,`Z2,`Z2,`Z2,rfl,`Z2⟩
noncomputable abbrev zjH:List Str:=["_law_hand_here","_law_houses","_law_marks","_law_to","_law_way","_law_cond_here"]
noncomputable abbrev zb6:List Str:=["_law_hand_here","_law_houses","_law_marks","_law_to"]
theorem zai:FnScope zjH zb6 (ze zdy):=`j3
noncomputable abbrev zeM:List Str:=["_law_hand_here","_law_houses","_law_marks","_law_to","_law_many"]
noncomputable abbrev zaR:List Str:=["_law_hand_here","_law_houses","_law_marks","_law_to"]
theorem zei:FnScope zeM zaR (ze zbG):=`j3
noncomputable def zfM:Scope:={kind:= .function,names:=[(".0", .local),("_law_k", .local),("_law_cond", .globalImplicit),("_law_hand_here", .free),("_law_houses", .free),("_law_marks", .free),("_law_to", .free)],isGenerator:=false,isCoroutine:=false,more:=[]}
theorem zdm:CompOk zeM (ze zbG) ["_law_k","_law_hand_here","_law_houses","_law_marks","_law_to"] [none,some 0,some 1,some 2,some 3] zfM:=⟨rfl,`Z2,`Z2,`Z2,`Z2,rfl,`Z2⟩
noncomputable abbrev zfN:List Str:=["_law_hand_here","_law_houses","_law_marks","_law_some","_law_k","_law_number"]
noncomputable abbrev zaL:List Str:=["_law_hand_here","_law_houses","_law_marks"]
theorem zaO:FnScope zfN zaL (ze zbT):=`j3
noncomputable abbrev zid:List Str:=["_law_hand_here","_law_houses","_law_marks","_law_some","_law_k","_law_act"]
noncomputable abbrev zbL:List Str:=["_law_hand_here","_law_houses","_law_marks"]
theorem zbA:FnScope zid zbL (ze zc0):=`j3
noncomputable abbrev ziY:List Str:=["_law_hand_here","_law_houses","_law_more","_law_ties_here","_law_k","_law_a","_law_b"]
noncomputable abbrev zb5:List Str:=["_law_hand_here","_law_houses","_law_more"]
theorem zaH:FnScope ziY zb5 (ze zda):=`j3
noncomputable abbrev zc7:List Str:=["_law_hand_here","_law_many","_law_names_here","_law_houses","_law_marks","_law_ties_here","_law_goal","_law_rising","_law_likings_here","_law_hands_here"]
noncomputable abbrev zb4:List Str:=["_law_hand_here"]
theorem zX:FnScope zc7 zb4 (ze zbh):=`j3
noncomputable def zgY:Scope:={kind:= .function,names:=[(".0", .local),("_law_house", .local),("_law_likings", .globalImplicit),("_law_hand_here", .free),("_law_marks", .free),("_law_names_here", .free)],isGenerator:=false,isCoroutine:=false,more:=[]}
theorem zdR:CompOk zc7 (ze zbh) ["_law_house","_law_hand_here","_law_marks","_law_names_here"] [none,some 0,some 4,some 2] zgY:=⟨rfl,`Z2,`Z2,`Z2,`Z2,rfl,`Z2⟩
noncomputable def zgW:Scope:={kind:= .function,names:=[(".0", .local),("_law_house", .local),("_law_hands", .globalImplicit),("_law_hand_here", .free),("_law_marks", .free),("_law_names_here", .free)],isGenerator:=false,isCoroutine:=false,more:=[]}
theorem zdQ:CompOk zc7 (ze zbh) ["_law_house","_law_hand_here","_law_marks","_law_names_here"] [none,some 0,some 4,some 2] zgW:=⟨rfl,`Z2,`Z2,`Z2,`Z2,rfl,`Z2⟩
noncomputable abbrev zgI:List Str:=["_law_houses","_law_letter"]
noncomputable abbrev za8:List Str:=["_law_houses","_law_letter"]
theorem zgT:FnScope zgI za8 (ze zcn):=`j3
noncomputable abbrev zcN:List Str:=["_law_run","_law_houses","_law_road"]
noncomputable abbrev zbK:List Str:=["_law_run","_law_houses","_law_road"]
theorem zii:FnScope zcN zbK (ze zaW):=`j3
noncomputable def zfV:Scope:={kind:= .function,names:=[(".0", .local),("_law_name", .local),("_law_houses", .free)],isGenerator:=false,isCoroutine:=false,more:=[]}
theorem zdl:CompOk zcN (ze zaW) ["_law_name","_law_houses"] [none,some 1] zfV:=⟨rfl,`Z2,`Z2,`Z2,`Z2,rfl,`Z2⟩
noncomputable def zgt:Scope:={kind:= .function,names:=[(".0", .local),("_law_letter", .local),("_law_is_new", .globalImplicit),("_law_houses", .free)],isGenerator:=false,isCoroutine:=false,more:=[]}
theorem zdp:CompOk zcN (ze zaW) ["_law_letter","_law_houses"] [none,some 1] zgt:=⟨rfl,`Z2,`Z2,`Z2,`Z2,rfl,`Z2⟩
noncomputable abbrev zqj:List Str:=["_law_script","_law_hand_here","_law_town_here","_law_run","_law_houses","_law_road","_law_name","_law_k","_law_at","_law_letter","_law_told"]
noncomputable abbrev zmX:List Str:=["_law_script"]
theorem zcq:FnScope zqj zmX (ze zjh):=`j3
noncomputable def zoD:Scope:={kind:= .function,names:=[(".0", .local),("_law_name", .local),("House", .globalImplicit),("_law_town_here", .free)],isGenerator:=false,isCoroutine:=false,more:=[]}
theorem zlj:CompOk zqj (ze zjh) ["_law_name","_law_town_here"] [none,some 2] zoD:=⟨rfl,`Z2,`Z2,`Z2,`Z2,rfl,`Z2⟩
set_option genInjectivity false in
set_option genSizeOfSpec false in
set_option genSizeOf false in
structure Ev(K:W.Frag)(mg:Str->Option Value) where
 c_House:Addr
 k_House:Cls K c_House
 m_House:mg "House"=some (.ref c_House)
 n_House_place:NoAttr K c_House "place"
 n_House_name:NoAttr K c_House "name"
 n_House_hearings:NoAttr K c_House "hearings"
 n_House_tellings:NoAttr K c_House "tellings"
 n_House_going:NoAttr K c_House "going"
 n_House_times:NoAttr K c_House "times"
 c_Run:Addr
 k_Run:Cls K c_Run
 m_Run:mg "Run"=some (.ref c_Run)
 n_Run_place:NoAttr K c_Run "place"
 n_Run_people:NoAttr K c_Run "people"
 n_Run_waiting:NoAttr K c_Run "waiting"
 a_is_number:Addr
 d_is_number:FuncData
 is_number:At K mg "is_number" zdB zcf a_is_number d_is_number
 a_is_whole:Addr
 d_is_whole:FuncData
 is_whole:At K mg "is_whole" zd2 zcE a_is_whole d_is_whole
 a_holds:Addr
 d_holds:FuncData
 holds:AtD K mg "holds" zhL zcR a_holds d_holds
 a_all_hold:Addr
 d_all_hold:FuncData
 all_hold:AtD K mg "all_hold" zdY zb0 a_all_hold d_all_hold
 a_likings_of:Addr
 d_likings_of:FuncData
 likings_of:At K mg "likings_of" zcP zbH a_likings_of d_likings_of
 a_hands_of:Addr
 d_hands_of:FuncData
 hands_of:At K mg "hands_of" zd6 zcF a_hands_of d_hands_of
 a_tied:Addr
 d_tied:FuncData
 tied:At K mg "tied" zgf zh2 a_tied d_tied
 a_marks_behind:Addr
 d_marks_behind:FuncData
 marks_behind:At K mg "marks_behind" zaM zaT a_marks_behind d_marks_behind
 a_handed:Addr
 d_handed:FuncData
 handed:At K mg "handed" zgG zev a_handed d_handed
 a_worth:Addr
 d_worth:FuncData
 worth:At K mg "worth" zhE zen a_worth d_worth
 a_liking_key:Addr
 d_liking_key:FuncData
 liking_key:At K mg "liking_key" zcM zbD a_liking_key d_liking_key
 a_most_liked:Addr
 d_most_liked:FuncData
 most_liked:At K mg "most_liked" zbC zbN a_most_liked d_most_liked
 a_House___init__:Addr
 d_House___init__:FuncData
 House___init__:MAt K c_House "__init__" "House.__init__" za4 zag a_House___init__ d_House___init__
 a_House_way:Addr
 d_House_way:FuncData
 House_way:MAt K c_House "way" "House.way" zdh zbj a_House_way d_House_way
 a_House_heard:Addr
 d_House_heard:FuncData
 House_heard:MAt K c_House "heard" "House.heard" zcj zao a_House_heard d_House_heard
 a_House_begin:Addr
 d_House_begin:FuncData
 House_begin:MAt K c_House "begin" "House.begin" zcl zaz a_House_begin d_House_begin
 a_House_hear:Addr
 d_House_hear:FuncData
 House_hear:MAt K c_House "hear" "House.hear" zcT zay a_House_hear d_House_hear
 a_House_choose:Addr
 d_House_choose:FuncData
 House_choose:MAt K c_House "choose" "House.choose" zb1 zaZ a_House_choose d_House_choose
 a_House_open_ways:Addr
 d_House_open_ways:FuncData
 House_open_ways:MAt K c_House "open_ways" "House.open_ways" zaJ zaq a_House_open_ways d_House_open_ways
 a_House_go_by:Addr
 d_House_go_by:FuncData
 House_go_by:MAt K c_House "go_by" "House.go_by" zcm zaA a_House_go_by d_House_go_by
 a_House_offer:Addr
 d_House_offer:FuncData
 House_offer:MAt K c_House "offer" "House.offer" zck za9 a_House_offer d_House_offer
 a_House_letters:Addr
 d_House_letters:FuncData
 House_letters:MAt K c_House "letters" "House.letters" zbt zam a_House_letters d_House_letters
 a_at_place:Addr
 d_at_place:FuncData
 at_place:At K mg "at_place" zd1 zbS a_at_place d_at_place
 a_Run___init__:Addr
 d_Run___init__:FuncData
 Run___init__:MAt K c_Run "__init__" "Run.__init__" zaU zaK a_Run___init__ d_Run___init__
 a_Run_road:Addr
 d_Run_road:FuncData
 Run_road:MAt K c_Run "road" "Run.road" zd8 zcI a_Run_road d_Run_road
 a_Run_choice:Addr
 d_Run_choice:FuncData
 Run_choice:MAt K c_Run "choice" "Run.choice" zbO zbx a_Run_choice d_Run_choice
 a_Run_was_heard:Addr
 d_Run_was_heard:FuncData
 Run_was_heard:MAt K c_Run "was_heard" "Run.was_heard" zbp zaB a_Run_was_heard d_Run_was_heard
 a_Run_come:Addr
 d_Run_come:FuncData
 Run_come:MAt K c_Run "come" "Run.come" zd5 zcK a_Run_come d_Run_come
 a_Run_copy:Addr
 d_Run_copy:FuncData
 Run_copy:MAt K c_Run "copy" "Run.copy" zd9 zcD a_Run_copy d_Run_copy
 a_Run_is_still:Addr
 d_Run_is_still:FuncData
 Run_is_still:MAt K c_Run "is_still" "Run.is_still" zaN zaS a_Run_is_still d_Run_is_still
 a__law_hand:Addr
 d__law_hand:FuncData
 _law_hand:At K mg "_law_hand" zdu zcd a__law_hand d__law_hand
 a__law_all:Addr
 d__law_all:FuncData
 _law_all:At K mg "_law_all" zdV zcX a__law_all d__law_all
 a__law_take:Addr
 d__law_take:FuncData
 _law_take:At K mg "_law_take" zc9 zO a__law_take d__law_take
 a__law_pick:Addr
 d__law_pick:FuncData
 _law_pick:At K mg "_law_pick" zdr zY a__law_pick d__law_pick
 a__law_names:Addr
 d__law_names:FuncData
 _law_names:At K mg "_law_names" zbw zby a__law_names d__law_names
 a__law_cond:Addr
 d__law_cond:FuncData
 _law_cond:At K mg "_law_cond" zdy zb6 a__law_cond d__law_cond
 a__law_conds:Addr
 d__law_conds:FuncData
 _law_conds:At K mg "_law_conds" zbG zaR a__law_conds d__law_conds
 a__law_likings:Addr
 d__law_likings:FuncData
 _law_likings:At K mg "_law_likings" zbT zaL a__law_likings d__law_likings
 a__law_hands:Addr
 d__law_hands:FuncData
 _law_hands:At K mg "_law_hands" zc0 zbL a__law_hands d__law_hands
 a__law_ties:Addr
 d__law_ties:FuncData
 _law_ties:At K mg "_law_ties" zda zb5 a__law_ties d__law_ties
 a__law_town:Addr
 d__law_town:FuncData
 _law_town:At K mg "_law_town" zbh zb4 a__law_town d__law_town
 a__law_is_new:Addr
 d__law_is_new:FuncData
 _law_is_new:At K mg "_law_is_new" zcn za8 a__law_is_new d__law_is_new
 a__law_is_so:Addr
 d__law_is_so:FuncData
 _law_is_so:At K mg "_law_is_so" zaW zbK a__law_is_so d__law_is_so
 a_law:Addr
 d_law:FuncData
 law:At K mg "law" zjh zmX a_law d_law
 mk_House:Mk K c_House a_House___init__
 mk_Run:Mk K c_Run a_Run___init__
 a_NOTHING:Addr
 e_NOTHING:Addr
 m_NOTHING:mg "NOTHING"=some (.ref a_NOTHING)
 t_NOTHING:∀H,SqT K H a_NOTHING [.int 0, .non, .ref e_NOTHING]
 u_NOTHING:∀H,SqT K H e_NOTHING []
 all:mg "all"=none
 bool:mg "bool"=none
 dict:mg "dict"=none
 int:mg "int"=none
 isinstance:mg "isinstance"=none
 len:mg "len"=none
 list:mg "list"=none
 max:mg "max"=none
 min:mg "min"=none
 range:mg "range"=none
 sorted:mg "sorted"=none
 str:mg "str"=none
 tuple:mg "tuple"=none
section
noncomputable def zcY:Sp:=λvs H Q _=>∃(a:Addr) (k n:Int),vs=[.ref a, .int k]/\Hand H a n/\n<2^40/\0<k/\k<1073741824/\∀d H',0<=d->d<k->Hand H' a (n+1)->Keep a H H'->Q (.int d) H'
theorem zch(Y:Ev K mg):FnOk P w K mg base CX0 1 Y.a__law_take Y.d__law_take zO zcY:=by
 refine Y._law_take.fn.okQ zaI (λvs H Q E h=>?_) `Y2
 ·obtain ⟨a,k,n,rfl,_⟩:=h
  rfl
 ·obtain ⟨a,k,n,rfl,⟨x,m,t,hH,m0,m1,t0,t1⟩,hn,k0,k1,q⟩:=h
  refine⟨_,(zg (zaw (zQ zli (zS zU (qv 0) zf) zf) (zg (zy 2 zaI.nd (zC zbq (zS zU (qv 0) zf) (qv 1)))
   (zg (zcC (zC zhI (zS zU (qv 0) zf) (qv 1)) (ziz (qv 0) zf zc8))
   (zj (zv (qv 2))))) z7)
   (zg (zcC (zC z8 (zS zU (qv 0) zf) zf) (ziz (qv 0) zf zc8))
   (zg (zy 3 zaI.nd (zS zU (qv 0) zf))
   (zg (zy 4 zaI.nd (zC zbq (zC za0 (zS zU (qv 0) zf) (zC z8 (zC z8 zf (zC za0 (zC za0 zf (qv 3)) (qv 3))) (zC za0 zf (qv 3)))) zf))
   (zg (zy 5 zaI.nd (zC z8 (zC z8 (zC zbq (qv 4) zf) (zC za0 (qv 3) zf)) zf))
   (zg (zy 4 zaI.nd (zC zbq (zC za0 (qv 4) (qv 5)) zf))
   (zj (zv (zC zbq (zC z8 (zC zhI (qv 4) zf) (zC zhI (qv 4) zf)) (qv 1)))))))))),?_⟩
  repeat (first|with_reducible_and_instances refine⟨_,rfl,?_⟩|refine⟨_,rfl,?_⟩|refine⟨_,_,rfl,rfl,?_⟩|refine⟨_,_,_,_,rfl,rfl,SqL.of (by assumption),rfl,?_⟩|refine⟨_,_,_,_,rfl,rfl,(by assumption),rfl,?_⟩|refine .inl ⟨_,rfl,?_⟩|refine .inr ⟨_,rfl,?_⟩|refine⟨(by first|assumption|decide|lia|exact few rfl|exact .inl ⟨⋯,⋯⟩|exact .inr ⟨⋯,⋯⟩|exact .inl ⟨(),()⟩|exact .inr ⟨(),()⟩|exact⟨(),()⟩),?_⟩)
  refine zcZ (λhx=>?_) (λhx=>?_)
  ·repeat (first|with_reducible_and_instances refine⟨_,rfl,?_⟩|refine⟨_,rfl,?_⟩|refine⟨_,_,rfl,rfl,?_⟩|refine⟨_,_,_,_,rfl,rfl,SqL.of (by assumption),rfl,?_⟩|refine⟨_,_,_,_,rfl,rfl,(by assumption),rfl,?_⟩|refine .inl ⟨_,rfl,?_⟩|refine .inr ⟨_,rfl,?_⟩|refine⟨(by first|assumption|decide|lia|exact few rfl|exact .inl ⟨⋯,⋯⟩|exact .inr ⟨⋯,⋯⟩|exact .inl ⟨(),()⟩|exact .inr ⟨(),()⟩|exact⟨(),()⟩),?_⟩)
   exact q _ _ (Int.emod_nonneg _ ()) (Int.emod_lt_of_pos _ k0) ⟨_,m,t,zb,m0,m1,t0,()⟩ (Keep.upd _ _ _)
  ·refine ⟨_,rfl,a,_,_,_,rfl,rfl,SqL.of hH,rfl,_,_,rfl,rfl,_,rfl,a,_,_,_,rfl,rfl,hH,rfl,?_⟩
   have h2:upd H a (.lst [.int x, .int m, .int (t+1)]) a=some (.lst [.int x, .int m, .int (t+1)]):=zb
   repeat (first|with_reducible_and_instances refine⟨_,rfl,?_⟩|refine⟨_,rfl,?_⟩|refine⟨_,_,rfl,rfl,?_⟩|refine⟨_,_,_,_,rfl,rfl,SqL.of (by assumption),rfl,?_⟩|refine⟨_,_,_,_,rfl,rfl,(by assumption),rfl,?_⟩|refine .inl ⟨_,rfl,?_⟩|refine .inr ⟨_,rfl,?_⟩|refine⟨(by first|assumption|decide|lia|exact few rfl|exact .inl ⟨⋯,⋯⟩|exact .inr ⟨⋯,⋯⟩|exact .inl ⟨(),()⟩|exact .inr ⟨(),()⟩|exact⟨(),()⟩),?_⟩)
   exact q _ _ (Int.emod_nonneg _ ()) (Int.emod_lt_of_pos _ k0) ⟨_,m,_,zb,m0,m1,(),()⟩ (Keep.upd _ _ _)
noncomputable def zb3(K:W.Frag):Sp:=λvs H Q _=>∃(a:Addr) (n:Int),Hand H a n/\n<2^40/\
 ((∃(b:Addr) (xs:List V),vs=[.ref a, .ref b]/\b≠a/\SqL K H b xs/\0<xs.length/\xs.length<1000/\∀v H',v∈xs->Hand H' a (n+1)->Keep a H H'->Q v H')\/
  (∃z:Str,vs=[.ref a, .str z]/\0<z.length/\z.length<1000/\∀c H',c∈z.cps.toList->Hand H' a (n+1)->Keep a H H'->Q (.str (one c)) H'))
theorem zcJ(Y:Ev K mg):FnOk P w K mg base CX0 2 Y.a__law_pick Y.d__law_pick zY (zb3 K):=by
 have G__law_take:FnOk P w K mg base CX0 1 Y.a__law_take Y.d__law_take zO zcY:=zch Y
 refine Y._law_pick.fn.okQ ziP (λvs H Q E h=>?_) `Y2
 ·obtain ⟨a,n,_,_,⟨b,xs,rfl,_⟩|⟨z,rfl,_⟩⟩:=h<;>rfl
 ·obtain ⟨a,n,hH,hn,h⟩:=h
  have hl:∀m:Nat,m<1000->m<=sizeLine:=λm h=>W2 (zn (W2 h))
  rcases h with⟨b,xs,rfl,hb,hS,x0,x1,q⟩|⟨z,rfl,z0,z1,q⟩
  ·refine ⟨_,(zj (zv (zS znH (qv 1) (zm G__law_take (hr.mono ⋯) Y._law_take.mg Y._law_take.kp Y._law_take.b .nil zk (za (qv 0) (za (zz z9 Y.len zbr (za (qv 1) zd)) zd)))))),?_⟩
   refine⟨_,rfl,_,rfl,_,rfl, .inl ⟨b,xs,rfl, .inl hS,a,_,n,rfl,hH,hn,(),(),λd H' h0 h1 hH' kp=>?_⟩⟩
   obtain⟨v,e,hv⟩:=zfG h0 h1
   exact .inl ⟨b,xs,d,v,rfl,rfl,kp.sqL hb hS,e,q v H' hv hH' kp⟩
  ·refine ⟨_,(zj (zv (zS znH (qv 1) (zm G__law_take (hr.mono ⋯) Y._law_take.mg Y._law_take.kp Y._law_take.b .nil zk (za (qv 0) (za (zz z9 Y.len zbr (za (qv 1) zd)) zd)))))),?_⟩
   refine⟨_,rfl,_,rfl,_,rfl, .inr ⟨z,rfl,hl _ z1,a,_,n,rfl,hH,hn,(),(),λd H' h0 h1 hH' kp=>?_⟩⟩
   obtain⟨c,e,hc⟩:=zfG (xs:=z.cps.toList) h0 (by simpa[Str.length] using h1)
   exact .inr (.inr ⟨z,d,c,rfl,rfl,hl _ z1,e,q c H' hc hH' kp⟩)
noncomputable def zom(K:W.Frag):Sp:=λvs H Q _=>∃(b:Addr) (ns:List Int) (k:Int),vs=[.ref b, .int k]/\SqL K H b (ns.map V.int)/\0<=k/\k<1000/\∀a H',H a=none->Hand H' a 0->Same H H'->Q (.ref a) H'
theorem zo2(Y:Ev K mg):FnOk P w K mg base CX0 1 Y.a__law_hand Y.d__law_hand zcd (zom K):=by
 refine Y._law_hand.fn.okQ zde (λvs H Q E h=>?_) `Y2
 ·obtain ⟨a,k,n,rfl,_⟩:=h
  rfl
 ·obtain ⟨b,ns,k,rfl,hS,k0,k1,q⟩:=h
  refine⟨_,(zg (zy 2 zde.nd zf)
   (zg (zaw (zQ zoq (qv 1) (zz z9 Y.len zbr (za (qv 0) zd))) (zj (zy 2 zde.nd (zS zU (qv 0) (qv 1)))) z7)
   (zj (zv (zdx (za (zC za0 (qv 2) (zZ zdJ Y.int zgi (za (zcA zqt (qv 2) (zC zgr zf zf)) zd))) (za (zC z8 (zC z8 (zC zbq (qv 2) zf) (zC za0 zf (qv 1))) zf) (za zf zd)))))))),?_⟩
  refine⟨_,rfl,_,rfl, .inl ⟨b,_,rfl, .inl hS,_,_,rfl,rfl,_,rfl,?_⟩⟩
  refine zcZ (λhx=>?_) (λhx=>?_)
  ·have hx':k<((ns.map V.int).length:Int):=U0 hx
   obtain⟨v,e,hv⟩:=zfG k0 hx'
   obtain⟨c,_,rfl⟩:=V1.mp hv
   refine⟨_,rfl,_,rfl,b,_,k,_,rfl,rfl,hS,e,?_⟩
   repeat (first|with_reducible_and_instances refine⟨_,rfl,?_⟩|refine⟨_,rfl,?_⟩|refine⟨_,_,rfl,rfl,?_⟩|refine⟨_,_,_,_,rfl,rfl,SqL.of (by assumption),rfl,?_⟩|refine⟨_,_,_,_,rfl,rfl,(by assumption),rfl,?_⟩|refine .inl ⟨_,rfl,?_⟩|refine .inr ⟨_,rfl,?_⟩|refine⟨(by first|assumption|decide|lia|exact few rfl|exact .inl ⟨⋯,⋯⟩|exact .inr ⟨⋯,⋯⟩|exact .inl ⟨(),()⟩|exact .inr ⟨(),()⟩|exact⟨(),()⟩),?_⟩)
   intro p hp
   exact q p _ hp ⟨_,_,_,zb,(),(),⋯,⋯⟩ (λb' o hb'=>by rw[zc (zh hb' hp)];exact hb')
  ·repeat (first|with_reducible_and_instances refine⟨_,rfl,?_⟩|refine⟨_,rfl,?_⟩|refine⟨_,_,rfl,rfl,?_⟩|refine⟨_,_,_,_,rfl,rfl,SqL.of (by assumption),rfl,?_⟩|refine⟨_,_,_,_,rfl,rfl,(by assumption),rfl,?_⟩|refine .inl ⟨_,rfl,?_⟩|refine .inr ⟨_,rfl,?_⟩|refine⟨(by first|assumption|decide|lia|exact few rfl|exact .inl ⟨⋯,⋯⟩|exact .inr ⟨⋯,⋯⟩|exact .inl ⟨(),()⟩|exact .inr ⟨(),()⟩|exact⟨(),()⟩),?_⟩)
   intro p hp
   exact q p _ hp ⟨_,_,_,zb,(),(),⋯,⋯⟩ (λb' o hb'=>by rw[zc (zh hb' hp)];exact hb')
noncomputable def zjB:Sp:=λvs H Q _=>∃(a:Addr) (n:Int) (m:Nat),vs=[.ref a, .int m]/\Hand H a n/\n<2^39/\4<=m/\m<=13/\∀(l:Addr) (xs:List Str) (H':Hp),H l=none->H' l=some (.lst (xs.map V.str))->xs.length=m->(∀x∈xs,zi x=true)->xs.Nodup->(∀x∈xs,x≠"nowhere")->Hand H' a (n+4)->Keep a H H'->Q (.ref l) H'
theorem zmu(Y:Ev K mg):FnOk P w K mg base CX0 3 Y.a__law_names Y.d__law_names zby zjB:=by
 have G__law_take:FnOk P w K mg base CX0 1 Y.a__law_take Y.d__law_take zO zcY:=zch Y
 have G__law_pick:FnOk P w K mg base CX0 2 Y.a__law_pick Y.d__law_pick zY (zb3 K):=zcJ Y
 refine Y._law_names.fn.okQ zac (λvs H Q E h=>?_) `Y2
 ·obtain ⟨a,n,m,rfl,_⟩:=h;rfl
 ·obtain ⟨a,n,m,rfl,hH,hn,m4,m13,q⟩:=h
  refine⟨_,(zg (zf4 2 zac.nd zbk)
   (zg (zf4 3 zac.nd (zm G__law_take (hr.mono ⋯) Y._law_take.mg Y._law_take.kp Y._law_take.b .nil zk (za (qv 0) (za zf zd))))
   (zg (zf4 4 zac.nd (zm G__law_pick (hr.mono ⋯) Y._law_pick.mg Y._law_pick.kp Y._law_pick.b .nil zk (za (qv 0) (za (zgz [V.int 1,V.int 3,V.int 5,V.int 7,V.int 9,V.int 11] `Z2) zd))))
   (zg (ze0 5 (src:=[none,some 3,some 2,some 4]) zdc rfl rfl zac.nd (zec Y.range (za (qv 1) zd)) (λ_ _ _ _ _=>(zp 0 zdc.nd)) (λ_ _ _ _ _=>zc5) (λ_ _ _ _ _=>(zC ziH (zS zmT (qc 2) (zC zbq (zC z8 (qc 1) (zC za0 (qc 3) (qv 0))) zf)) (zC z8 zf (zC zbq (zC z8 (zC za0 (qv 0) (qv 0)) (qc 1)) zf)))))
   (zfg (zaw (zQ zav (zm G__law_take (hr.mono ⋯) Y._law_take.mg Y._law_take.kp Y._law_take.b .nil zk (za (qv 0) (za zf zd))) zf) (zg (zy 6 zac.nd (zgz [V.str "goal",V.str "to",V.str "by",V.str "houses",V.str "tie",V.str "like",V.str "hand",V.str "keep",V.str "put",V.str "mark",V.str "long",V.str "from",V.str "strike"] `Z2))
   (zg (zy 7 zac.nd (zm G__law_take (hr.mono ⋯) Y._law_take.mg Y._law_take.kp Y._law_take.b .nil zk (za (qv 0) (za zf zd))))
   (zj (zb9 PassesOwn.never rfl (zec Y.range (za (zz (ze8 rfl) Y.min zeO (za (qv 1) (za zf zd))) zd)) (zp 8 zac.nd) (zj (zcC (zS zU (qv 6) (zC zbq (zC z8 (qv 7) (zC za0 zf (qv 8))) zf)) (ziz (qv 5) (qv 8) zc8))))))) z7)
   (zj (zv (qv 5)))))))),?_⟩
  refine⟨_,rfl,a,26,n,rfl,hH,(),⋯,⋯,λf' H1 f0 f26 hH1 k1=>?_⟩
  obtain⟨f,rfl⟩:∃f:Nat,f'=(f:Int):=⟨f'.toNat,()⟩
  refine⟨_,rfl,⋯,λpl hpl=>⟨a,n+1,hH1.new hpl,(), .inl ⟨pl,_,rfl,hH1.ne hpl,SqL.of zb,⋯,⋯,λv H2 hv hH2 k2=>?_⟩⟩⟩
  obtain⟨st,rfl,st0,st11⟩:∃st:Nat,v= .int (st:Int)/\st∈zm1/\st<=11:=by
   simp only[X0,j1,or_false] at hv
   rcases hv with rfl|rfl|rfl|rfl|rfl|rfl
   ·exact ⟨1,rfl,⋯,⋯⟩
   ·exact ⟨3,rfl,⋯,⋯⟩
   ·exact ⟨5,rfl,⋯,⋯⟩
   ·exact ⟨7,rfl,⋯,⋯⟩
   ·exact ⟨9,rfl,⋯,⋯⟩
   ·exact ⟨11,rfl,⋯,⋯⟩
  have kp2:Keep a H H2:=k1.trans ((Keep.new hpl).trans k2)
  refine⟨_,rfl,m,rfl,(),(),?_⟩
  refine zbB zcO (λl i ys σ' H'=>(∃o,σ'=[o,some (.int (f:Int)),some (.str zbn),some (.int (st:Int))])/\ys=((List.range i).map (nmS f st)).map V.str/\Hand H' a (n+1+1)/\Keep a H2 H') ?_ (λ_ _ _ _ _ _ _=>trivial) ?_ ?_
  ·exact λl hl=>⟨⟨_,rfl⟩,rfl,hH2.new hl,Keep.new hl⟩
  ·rintro l i y ys σ' H' hl hi rfl ⟨⟨o,rfl⟩,rfl,hH',k'⟩ hl'
   have hi13:i<13:=by have:i<m:=()
                      lia
   have hr26:(f+st*i)%26<26:=Nat.mod_lt _ ⋯
   have ei:((f:Int)+(st:Int)*(0+(i:Int)))%26=(((f+st*i)%26:Nat):Int):=by rw[Int.zero_add];push_cast;rfl
   have ec:atI zbn.cps.toList (((f:Int)+(st:Int)*(0+(i:Int)))%26)=some (97+(f+st*i)%26):=by
    rw[ei];exact zF (zf7 _ (List.mem_range.mpr hr26))
   have en:(1+((0+(i:Int))*(0+(i:Int))+(f:Int))%8)=((1+(i*i+f)%8:Nat):Int):=by rw[Int.zero_add];push_cast;rfl
   have g8:(i*i+f)%8<8:=Nat.mod_lt _ ⋯
   refine⟨_,rfl,_,rfl,_,rfl,_,rfl,_,_,rfl,rfl, .inl ⟨(),()⟩,_,_,rfl,rfl,_,_,rfl,rfl,(by decide:(0:Int)<26),zbn,_,_,rfl,rfl,by rw[zjb];decide,ec,_,rfl,_,rfl,_,_,rfl,rfl, .inl ⟨(),()⟩,_,rfl,_,_,rfl,rfl,_,_,rfl,rfl,(by decide:(0:Int)<8),_,_,rfl,rfl,one (97+(f+st*i)%26),_,rfl,rfl,by rw[en];lia,by rw[en];lia,by rw[zlB];decide,by rw[zlB];decide,?_⟩
   have nl:=hH2.ne hl
   refine⟨hl',?_,⟨_,rfl⟩,?_,hH'.updNe nl,k'.updNew hl⟩
   ·rw[D0,D0,List.length_range];exact zn ()
   ·rw[en,Int.toNat_natCast,List.range_succ,E2,E2];rfl
  ·rintro l ys σ' H3 hl ⟨⟨o,rfl⟩,rfl,hH3,k3⟩ hl'
   have nl:=hH2.ne hl
   rw[Int.toNat_natCast] at hl'
   have e0:(List.range m).map (nmS f st)=(List.range m).map (zaP f st 0 0):=by
    apply List.map_congr_left
    intro k _
    unfold zaP
    rw[N0 ()]
   have hln:H l=none:=by
    cases e:H l with
    |none=>rfl
    |some o=>exact absurd (kp2 l o nl e) (by rw[hl];exact λz=>nomatch z)
   refine⟨λσ' H'=>(∃o6 o7 o8,σ'=[some (.ref a),some (.int m),some (.str zbn),some (.int (f:Int)),some (.int (st:Int)),some (.ref l),o6,o7,o8])/\(∃sp j:Nat,H' l=some (.lst (((List.range m).map (zaP f st sp j)).map V.str))/\sp<13/\j<=4)/\Hand H' a (n+4)/\Keep a H H',?_,?_⟩
   ·refine ⟨_,rfl,a,6,n+1+1,rfl,hH3,(),⋯,⋯,λd H4 d0 d6 hH4 k4=>⟨rfl,_,rfl,zcZ (λ_=>?_) (λ_=>?_)⟩⟩
    ·have hl4:=k4 _ _ nl hl'
     have kp4:Keep a H H4:=(kp2.trans k3).trans k4
     refine⟨⋯,λpk hpk=>?_⟩
     have npl:pk≠l:=λz=>by rw[z,hl4] at hpk;cases hpk
     have npa:=hH4.ne hpk
     refine⟨_,rfl,a,13,n+1+1+1,rfl,hH4.new hpk,(),⋯,⋯,λsp' H5 sp0 sp13 hH5 k5=>?_⟩
     obtain⟨sp,rfl⟩:∃f:Nat,sp'=(f:Int):=⟨sp'.toNat,()⟩
     refine⟨_,rfl,_,_,rfl,_,rfl,?_,?_,?_⟩
     ·split<;>lia
     ·split<;>lia
     have e4:(if(4:Int)<(m:Int)then(4:Int)else(m:Int)).toNat=4:=by split<;>lia
     rw[e4]
     refine zaX zcO (λi σ' H'=>(∃o8,σ'=[some (.ref a),some (.int m),some (.str zbn),some (.int (f:Int)),some (.int (st:Int)),some (.ref l),some (.ref pk),some (.int (sp:Int)),o8])/\H' l=some (.lst (((List.range m).map (zaP f st sp i)).map V.str))/\Hand H' a (n+4)/\Keep a H H'/\H' pk=some (.lst (zdT.map V.str))) ?_ (λ_ _ _ _=>trivial) ?_ ?_
     ·refine ⟨⟨_,rfl⟩,?_,hH5.mono (),kp4.trans ((Keep.new hpk).trans k5),k5 _ _ npa zb⟩
      have e0':(List.range m).map (nmS f st)=(List.range m).map (zaP f st sp 0):=by
       apply List.map_congr_left
       intro k _
       unfold zaP
       rw[N0 ()]
      rw[←e0']
      exact k5 _ _ nl (by rw[zc (Ne.symm npl)];exact hl4)
     ·rintro i y σ' H6 hi4 rfl ⟨⟨o8,rfl⟩,hz,hH6,k6,hp6⟩
      have ek:((sp:Int)+3*(0+(i:Int)))%13=(((sp+3*i)%13:Nat):Int):=by rw[Int.zero_add];push_cast;rfl
      have ev:atI (zdT.map V.str) (((sp:Int)+3*(0+(i:Int)))%13)=some (.str (kwS sp i)):=by
       rw[ek];exact zF (by rw[P0,zpd];rfl)
      have hix:ixN (((List.range m).map (zaP f st sp i)).map V.str).length (0+(i:Int))=some i:=by
       unfold ixN
       rw[T0 (),T0 (by rw[D0,D0,List.length_range];lia)]
       congr 1
       lia
      refine⟨_,rfl,_,rfl,_,rfl,_,_,rfl,rfl, .inl ⟨⋯,⋯⟩,_,_,rfl,rfl,_,_,rfl,rfl,(by decide:(0:Int)<13),pk,_,_,_,rfl,rfl,SqL.of hp6,ev,_,rfl,_,rfl,l,_,_,i,rfl,rfl,hz,hix,?_⟩
      refine⟨⟨_,rfl⟩,?_,hH6.updNe nl,k6.updNew hln,by rw[zc npl];exact hp6⟩
      rw[zb,←List.map_set,zm2 ()]
     ·rintro σ' H6 ⟨⟨o8,rfl⟩,hz,hH6,k6,_⟩
      exact⟨⟨_,_,_,rfl⟩,⟨sp,4,hz,(),⋯⟩,hH6,k6⟩
    ·rw[e0] at hl'
     exact⟨⟨_,_,_,rfl⟩,⟨0,0,k4 _ _ nl hl',⋯,⋯⟩,hH4.mono (),(kp2.trans k3).trans k4⟩
   ·rintro σ' H' ⟨⟨o6,o7,o8,rfl⟩,⟨sp,j,hz,hsp,hj⟩,hH',k'⟩
    refine⟨_,rfl,q l _ H' hln hz (by rw[D0,List.length_range]) (λx hx=>?_) (ziQ () st0 hsp hj m13) (λx hx=>?_) hH' k'⟩
    ·obtain ⟨k,_,rfl⟩:=V1.mp hx
     exact zpp _ _ _ _ _
    ·obtain ⟨k,_,rfl⟩:=V1.mp hx
     exact zmm _ _ _ _ _
def NL(O:List Str)(H:Hp)(l:Addr):Prop:=∃xs:List Str,H l=some (.lst (xs.map V.str))/\0<xs.length/\xs.length<=100/\∀x∈xs,zi x=true/\x∈O
theorem NL.keep(h:NL O H l)(k:Keep a H H')(n:l≠a):NL O H' l:=let⟨xs,e,r⟩:=h;⟨xs,k _ _ n e,r⟩
theorem NL.same(h:NL O H l)(k:Same H H'):NL O H' l:=let⟨xs,e,r⟩:=h;⟨xs,k _ _ e,r⟩
theorem zcp{n:Int}{Q:VK}(hH:Hand H a n)(hn:n<2^40)(hl:NL O H l)(hla:l≠a)(q:∀x H',(zi x=true/\x∈O)->Hand H' a (n+1)->Keep a H H'->Q (.str x) H'):zb3 K [.ref a, .ref l] H Q E0:=by
 obtain⟨xs,e,x0,x1,hx⟩:=hl
 refine⟨a,n,hH,hn, .inl ⟨l,_,rfl,hla,SqL.of e,by rw[D0];exact x0,by rw[D0];lia,λv H' hv hH' k'=>?_⟩⟩
 obtain⟨x,hxx,rfl⟩:=V1.mp hv
 exact q x H' (hx x hxx) hH' k'
theorem zas(h:zi x=true):x.length<=1000:=by
 unfold zi at h
 simp only[a0,decide_eq_true_eq] at h
 lia
theorem zea{y:Str}(hy:y∈zbF)(hx:zi x=true):zB (.tup [.str y, .str x])=true:=by
 have h1:¬y="long":=by
  intro z
  subst z
  revert hy
  decide +kernel
 have h2:(zbF.any λz=>decide (z=y))=true:=List.any_eq_true.mpr ⟨y,hy,V0 rfl⟩
 rw[zeB,N0 h1,h2,ziS,hx];rfl
theorem zj9(h:zB d=true):zA d=true:=by
 obtain⟨x,e,rfl⟩:=zbY d h
 by_cases hx:x="not"
 ·subst hx;rw[zdF] at h;cases h
 ·rw[zes,N0 hx];exact h
theorem zkh(h:zB d=true)(ha:zfm d=false):zeK d=false:=by
 obtain⟨x,e,rfl⟩:=zbY d h
 by_cases hx:x="not"
 ·subst hx;rw[zdF] at h;cases h
 ·show (if x="not"then zfm e else decide (x="to"))=false
  rw[N0 hx];exact ha
noncomputable def znw:Sp:=λvs H Q _=>∃(a h m:Addr) (n:Int) (to:Bool) (O:List Str),vs=[.ref a, .ref h, .ref m, .bl to]/\Hand H a n/\n<2^39/\NL O H h/\NL O H m/\h≠a/\m≠a/\∀v d H',Rep H' v d->(zA d=true/\za5 O d=true)->(to=false->zeK d=false)->Hand H' a (n+4)->Keep a H H'->Q v H'
theorem zp8(Y:Ev K mg):FnOk P w K mg base CX0 3 Y.a__law_cond Y.d__law_cond zb6 znw:=by
 have G__law_take:FnOk P w K mg base CX0 1 Y.a__law_take Y.d__law_take zO zcY:=zch Y
 have G__law_pick:FnOk P w K mg base CX0 2 Y.a__law_pick Y.d__law_pick zY (zb3 K):=zcJ Y
 refine Y._law_cond.fn.okQ zai (λvs H Q E h=>?_) `Y2
 ·obtain ⟨a,h,m,n,to,O,rfl,_⟩:=h;rfl
 ·obtain ⟨a,h,m,n,to,O,rfl,hH,hn,hh,hm,nh,nm,q⟩:=h
  refine⟨_,(zg (zy 4 zai.nd (zm G__law_take (hr.mono ⋯) Y._law_take.mg Y._law_take.kp Y._law_take.b .nil zk (za (qv 0) (za (zC z8 zf (zZ zdJ Y.int zgi (za (qv 3) zd))) zd))))
   (zg (zy 5 zai.nd (zK (za zbk (za (zm G__law_pick (hr.mono ⋯) Y._law_pick.mg Y._law_pick.kp Y._law_pick.b .nil zk (za (qv 0) (za (qv 1) zd))) zd))))
   (zfg (zaw (t_w (zqZ (zQ zav (qv 4) zf) (znT (zQ zav (qv 4) zf)))) (zj (zy 5 zai.nd (zK (za zbk (za (zm G__law_pick (hr.mono ⋯) Y._law_pick.mg Y._law_pick.kp Y._law_pick.b .nil zk (za (qv 0) (za (qv 1) zd))) zd))))) (zj (zaw (zQ zav (qv 4) zf) (zj (zy 5 zai.nd (zK (za zbk (za (zm G__law_pick (hr.mono ⋯) Y._law_pick.mg Y._law_pick.kp Y._law_pick.b .nil zk (za (qv 0) (za (zgz [V.int 0,V.int 1,V.int 2,V.int 3,V.int 4,V.int 99] `Z2) zd))) zd))))) (zj (zaw (zQ zav (qv 4) zf) (zj (zy 5 zai.nd (zK (za zbk (za (zm G__law_pick (hr.mono ⋯) Y._law_pick.mg Y._law_pick.kp Y._law_pick.b .nil zk (za (qv 0) (za (qv 2) zd))) zd))))) (zj (zaw (zQ zav (qv 4) zf) (zj (zy 5 zai.nd (zK (za zbk (za (zm G__law_pick (hr.mono ⋯) Y._law_pick.mg Y._law_pick.kp Y._law_pick.b .nil zk (za (qv 0) (za (qv 1) zd))) zd))))) z7)))))))
   (zfg (zaw (zQ zav (zm G__law_take (hr.mono ⋯) Y._law_take.mg Y._law_take.kp Y._law_take.b .nil zk (za (qv 0) (za zf zd))) zf) (zj (zy 5 zai.nd (zK (za zbk (za (qv 5) zd))))) z7)
   (zj (zv (qv 5))))))),?_⟩
  refine⟨_,rfl,_,rfl, .inr ⟨to,rfl,_,_,rfl,rfl,a,_,n,rfl,hH,(),by split<;>lia,by split<;>lia,λt H1 t0 t5 hH1 k1=>?_⟩⟩
  refine⟨_,rfl,_,rfl,zcp hH1 () (hh.keep k1 nh) nh λx H2 hx hH2 k2=>⟨few rfl,λp2 hp2=>?_⟩⟩
  have mk2:∀{H0:Hp} {p:Addr} {y x:Str},y.length<=1000->(zi x=true/\x∈O)->Rep (upd H0 p (.tup [.str y, .str x])) (.ref p) (.tup [.str y, .str x]):=λhy hx=> .mk2 zb (.str _ hy) (.str _ (zas hx.1))
  have hh2:NL O (upd H2 p2 (.tup [.str "by", .str x])) h:=((hh.keep k1 nh).keep k2 nh).same (Same.new hp2)
  have hm2:NL O (upd H2 p2 (.tup [.str "by", .str x])) m:=((hm.keep k1 nm).keep k2 nm).same (Same.new hp2)
  have hH2':=hH2.new (o:= .tup [.str "by", .str x]) hp2
  have kp2:Keep a H (upd H2 p2 (.tup [.str "by", .str x])):=(k1.trans k2).trans (Keep.new hp2)
  refine⟨λσ' H'=>∃v d,σ'=[some (.ref a),some (.ref h),some (.ref m),some (.bl to),some (.int t),some v]/\Rep H' v d/\(zB d=true/\zR O d=true)/\(to=false->zfm d=false)/\Hand H' a (n+3)/\Keep a H H',?_,?_⟩
  ·have ap:∀{y x:Str},¬y="to"->zfm (.tup [.str y, .str x])=false:=λh=>b0 h
   have br:∀{y:Str},y.length<=1000->y∈zbF->¬y="to"->∀(l:Addr),l≠a->NL O (upd H2 p2 (.tup [.str "by", .str x])) l->∀R:V->Hp->Prop,(∀v d H',Rep H' v d->(zB d=true/\zR O d=true)->(to=false->zfm d=false)->Hand H' a (n+3)->Keep a H H'->R v H')->
    zb3 K [.ref a, .ref l] (upd H2 p2 (.tup [.str "by", .str x])) (λv H3=> [V.str y,v].length<=sizeLine/\∀p,H3 p=none->R (.ref p) (upd H3 p (.tup [V.str y,v]))) E0:=by
    intro y hy hyn hyt l nl hl R hR
    refine zcp hH2' () hl nl λx3 H3 hx3 hH3 k3=>⟨few rfl,λp3 hp3=>?_⟩
    exact hR _ _ _ (mk2 hy hx3) ⟨zea hyn hx3.1,zbf hx3.2⟩ (λ_=>ap hyt) ((hH3.new hp3).mono ()) ((kp2.trans k3).trans (Keep.new hp3))
   have fin:∀v d H',Rep H' v d->(zB d=true/\zR O d=true)->(to=false->zfm d=false)->Hand H' a (n+3)->Keep a H H'->(λ(v:V) (H':Hp)=>∃v0 d,[some (V.ref a),some (.ref h),some (.ref m),some (.bl to),some (.int t),some v]=[some (.ref a),some (.ref h),some (.ref m),some (.bl to),some (.int t),some v0]/\Rep H' v0 d/\(zB d=true/\zR O d=true)/\(to=false->zfm d=false)/\Hand H' a (n+3)/\Keep a H H') v H':=
    λv d H' h1 h2 h3 h4 h5=>⟨v,d,rfl,h1,h2,h3,h4,h5⟩
   refine⟨_,rfl,rfl,_,rfl,zcZ (λ_=>?_) (λ_=>⟨_,rfl,rfl,_,rfl,zcZ (λ_=>?_) (λ_=>?_)⟩)⟩
   ·exact ⟨_,rfl,_,rfl,br ⋯ ⋯ `Z2 h nh hh2 _ fin⟩
   ·exact ⟨_,rfl,_,rfl,br ⋯ ⋯ `Z2 h nh hh2 _ fin⟩
   refine⟨_,rfl,rfl,_,rfl,zcZ (λ_=>?_) (λ_=>⟨_,rfl,rfl,_,rfl,zcZ (λ_=>?_) (λ_=>⟨_,rfl,rfl,_,rfl,zcZ (λh5=>?_) (λ_=>?_)⟩)⟩)⟩
   ·refine ⟨_,rfl,⋯,λpl hpl=>⟨a,n+2,(hH2'.mono ()).new hpl,(), .inl ⟨pl,_,rfl,hH2'.ne hpl,SqL.of zb,⋯,⋯,λv H3 hv hH3 k3=>⟨few rfl,λp3 hp3=>?_⟩⟩⟩⟩
    have hk:∃j:Int,v= .int j/\0<=j/\j<=99:=by
     simp only[X0,j1,or_false] at hv
     rcases hv with rfl|rfl|rfl|rfl|rfl|rfl<;>exact ⟨_,rfl,⋯,⋯⟩
    obtain⟨j,rfl,j0,j9⟩:=hk
    refine fin _ (.tup [.str "long", .int j]) _ (.mk2 zb (.str _ ⋯) (.int _)) ?_ (λ_=>(by decide +kernel:decide (("long":Str)="to")=false)) ((hH3.new hp3).mono ()) ((kp2.trans ((Keep.new hpl).trans k3)).trans (Keep.new hp3))
    refine⟨?_,rfl⟩
    rw[zeB,T0 rfl]
    show(decide (0<=j)&&decide (j<=99))=true
    rw[V0 j0,V0 j9];rfl
   ·exact ⟨_,rfl,_,rfl,br ⋯ ⋯ `Z2 m nm hm2 _ fin⟩
   ·refine ⟨_,rfl,_,rfl,zcp hH2' () hh2 nh λx3 H3 hx3 hH3 k3=>⟨few rfl,λp3 hp3=>?_⟩⟩
    refine fin _ _ _ (mk2 ⋯ hx3) ⟨zea ⋯ hx3.1,zbf hx3.2⟩ (λz=>?_) ((hH3.new hp3).mono ()) ((kp2.trans k3).trans (Keep.new hp3))
    subst z
    have e5:t=5:=V.int.inj (U0 h5)
    simp at t5
    lia
   ·exact fin _ _ _ (mk2 ⋯ hx) ⟨zea ⋯ hx.1,zbf hx.2⟩ (λ_=>ap `Z2) (hH2'.mono ()) kp2
  ·rintro σ' H3 ⟨v,d,rfl,hv,hd,hto,hH3,k3⟩
   refine⟨λσ' H'=>∃v d,σ'=[some (.ref a),some (.ref h),some (.ref m),some (.bl to),some (.int t),some v]/\Rep H' v d/\(zA d=true/\za5 O d=true)/\(to=false->zeK d=false)/\Hand H' a (n+4)/\Keep a H H',?_,?_⟩
   ·refine ⟨_,rfl,a,4,n+3,rfl,hH3,(),⋯,⋯,λd4 H4 _ _ hH4 k4=>⟨rfl,_,rfl,zcZ (λ_=>?_) (λ_=>?_)⟩⟩
    ·have hv4:=hv.mono (Mono.keep k4 hH3 hH4)
     refine⟨_,rfl,few rfl,λp5 hp5=>⟨_, .tup [.str "not",d],rfl, .mk2 zb (.str _ ⋯) (hv4.mono (.new hp5)),?_,?_,(hH4.new hp5).mono (),(k3.trans k4).trans (Keep.new hp5)⟩⟩
     ·exact ⟨by rw[zes,T0 rfl];exact hd.1,zj5 hd.2⟩
     ·exact λz=>hto z
    ·refine ⟨_,d,rfl,hv.mono (Mono.keep k4 hH3 hH4),⟨zj9 hd.1,zms hd.1 hd.2⟩,λz=>zkh hd.1 (hto z),hH4.mono (),k3.trans k4⟩
   ·rintro σ' H4 ⟨v,d,rfl,hv,hd,hto,hH4,k4⟩
    exact⟨_,rfl,q v d H4 hv hd hto hH4 k4⟩
theorem ziI(hl:ds.length<=4)(h:∀d∈ds,zA d=true):zan (.tup ds)=true:=by
 rw[zju,V0 hl,C2.mpr h];rfl
theorem zgc{P:α->Prop}{ds:List α}(h:∀(i:Nat) (d:α),ds[i]?=some d->P d):∀d∈ds,P d:=λd hd=>by
 obtain⟨i,hi,e⟩:=y1 hd
 exact h i d (by rw[G0 hi,e])
noncomputable def ziu:Sp:=λvs H Q _=>∃(a h m:Addr) (n:Int) (to:Bool) (O:List Str),vs=[.ref a, .ref h, .ref m, .bl to]/\Hand H a n/\n<2^38/\NL O H h/\NL O H m/\h≠a/\m≠a/\∀v ds H',Rep H' v (.tup ds)->ds.length<=4->(∀d∈ds,zA d=true)->(∀d∈ds,za5 O d=true)->(to=false->∀d∈ds,zeK d=false)->Hand H' a (n+17)->Keep a H H'->Q v H'
theorem zjm(Y:Ev K mg):FnOk P w K mg base CX0 4 Y.a__law_conds Y.d__law_conds zaR ziu:=by
 have G__law_pick:FnOk P w K mg base CX0 2 Y.a__law_pick Y.d__law_pick zY (zb3 K):=zcJ Y
 have G__law_cond:FnOk P w K mg base CX0 3 Y.a__law_cond Y.d__law_cond zb6 znw:=zp8 Y
 refine Y._law_conds.fn.okQ zei (λvs H Q E h=>?_) `Y2
 ·obtain ⟨a,h,m,n,to,O,rfl,_⟩:=h;rfl
 ·obtain ⟨a,h,m,n,to,O,rfl,hH,hn,hh,hm,nh,nm,q⟩:=h
  refine⟨_,(zg (zy 4 zei.nd (zm G__law_pick (hr.mono ⋯) Y._law_pick.mg Y._law_pick.kp Y._law_pick.b .nil zk (za (qc 0) (za (zgz [V.int 1,V.int 1,V.int 1,V.int 2,V.int 0,V.int 4] `Z2) zd))))
   (zj (zv (zZ zW Y.tuple zbg (za (zcQ (src:=[none,some 0,some 1,some 2,some 3]) zdm rfl rfl (zec Y.range (za (qv 4) zd)) (λ_ _ _ _ _=>(zp 0 zdm.nd)) (λ_ _ _ _ _=>zc5) (λ_ _ _ _ _=>(zm G__law_cond (hr.mono ⋯) Y._law_cond.mg Y._law_cond.kp Y._law_cond.b .nil zk (za (qc 1) (za (qc 2) (za (qc 3) (za (qc 4) zd))))))) zd))))),?_⟩
  refine⟨_,rfl,⋯,λpl hpl=>⟨a,n,hH.new hpl,(), .inl ⟨pl,_,rfl,hH.ne hpl,SqL.of zb,⋯,⋯,λv H1 hv hH1 k1=>?_⟩⟩⟩
  obtain⟨c,rfl,c4⟩:∃c:Nat,v= .int (c:Int)/\c<=4:=by
   simp only[X0,j1,or_false] at hv
   rcases hv with rfl|rfl|rfl|rfl|rfl|rfl
   ·exact ⟨1,rfl,⋯⟩
   ·exact ⟨1,rfl,⋯⟩
   ·exact ⟨1,rfl,⋯⟩
   ·exact ⟨2,rfl,⋯⟩
   ·exact ⟨0,rfl,⋯⟩
   ·exact ⟨4,rfl,⋯⟩
  have kp1:Keep a H H1:=(Keep.new hpl).trans k1
  have hh1:=(hh.same (Same.new (o:= .lst [V.int 1,V.int 1,V.int 1,V.int 2,V.int 0,V.int 4]) hpl)).keep k1 nh
  have hm1:=(hm.same (Same.new (o:= .lst [V.int 1,V.int 1,V.int 1,V.int 2,V.int 0,V.int 4]) hpl)).keep k1 nm
  refine⟨_,rfl,c,rfl,(),(),?_⟩
  rw[Int.toNat_natCast]
  refine zkx (a:=a) (m:=n+1) (c:=4) (Pd:=λ_ d=>(zA d=true/\za5 O d=true)/\(to=false->zeK d=false)) (σr:=[some (.ref a),some (.ref h),some (.ref m),some (.bl to)]) rfl hH1 () ⋯ (λj H2 Q1 hj hH2 k2 q1=>?_) (λl vs ds H2 hl hl2 r2 hds pd hH2 k2=>?_)
  ·exact ⟨_,rfl,_,rfl,_,rfl,_,rfl,a,h,m,_,to,O,rfl,hH2,(),hh1.keep k2 nh,hm1.keep k2 nm,nh,nm,λv d H3 rv hc ht hH3 k3=>q1 v d H3 rv ⟨hc,ht⟩ hH3 k3⟩
  ·refine ⟨l,vs,rfl, .inl ⟨SqL.of hl2,λp hp=>?_⟩⟩
   have pd':=zgc (P:=λd=>(zA d=true/\za5 O d=true)/\(to=false->zeK d=false)) pd
   exact q _ ds _ (.mkL zb () (r2.mono (.new hp))) () (λd hd=>(pd' d hd).1.1) (λd hd=>(pd' d hd).1.2) (λz d hd=>(pd' d hd).2 z) ((hH2.new hp).mono ()) ((kp1.trans k2).trans (Keep.new hp))
def zqi(g:D->Bool)(H':Hp)(ls:Addr)(i:Nat):Prop:=∃(zs:List V) (ds:List D),H' ls=some (.lst zs)/\RepL H' zs ds/\ds.length=i/\∀d∈ds,g d=true
noncomputable def zfF(g:List Str->D->Bool):Sp:=λvs H Q _=>∃(a h m:Addr) (n:Int) (O:List Str),vs=[.ref a, .ref h, .ref m]/\Hand H a n/\n<2^37/\NL O H h/\NL O H m/\h≠a/\m≠a/\∀v ds H',Rep H' v (.tup ds)->ds.length<=12->(∀d∈ds,g O d=true)->Hand H' a (n+400)->Keep a H H'->Q v H'
theorem zmp{x:D}(hl:ds.length<=4)(h:∀d∈ds,zA d=true)(ha:∀d∈ds,zeK d=false)(hx:zbm x=true):zJ (.tup [.tup ds,x])=true:=by
 rw[zmv,ziI hl h,hx]
 have:zek (.tup ds)=false:=by
  show ds.any zeK=false
  rw[List.any_eq_false]
  exact λd hd z=>by rw[ha d hd] at z;cases z
 rw[this];rfl
theorem zkt(Y:Ev K mg):FnOk P w K mg base CX0 5 Y.a__law_likings Y.d__law_likings zaL (zfF zh3):=by
 have G__law_take:FnOk P w K mg base CX0 1 Y.a__law_take Y.d__law_take zO zcY:=zch Y
 have G__law_pick:FnOk P w K mg base CX0 2 Y.a__law_pick Y.d__law_pick zY (zb3 K):=zcJ Y
 have G__law_conds:FnOk P w K mg base CX0 4 Y.a__law_conds Y.d__law_conds zaR ziu:=zjm Y
 refine Y._law_likings.fn.okQ zaO (λvs H Q E h=>?_) `Y2
 ·obtain ⟨a,h,m,n,O,rfl,_⟩:=h;rfl
 ·obtain ⟨a,h,m,n,O,rfl,hH,hn,hh,hm,nh,nm,q⟩:=h
  refine⟨_,(zg (zy 3 zaO.nd (zdx zd))
   (zg (zb9 PassesOwn.never rfl (zec Y.range (za (zC z8 (zm G__law_take (hr.mono ⋯) Y._law_take.mg Y._law_take.kp Y._law_take.b .nil zk (za (qv 0) (za zf zd))) (zC za0 zf (zZ zdJ Y.int zgi (za (zcA zav (zm G__law_take (hr.mono ⋯) Y._law_take.mg Y._law_take.kp Y._law_take.b .nil zk (za (qv 0) (za zf zd))) zf) zd)))) zd)) (zp 4 zaO.nd) (zg (zy 5 zaO.nd (zm G__law_pick (hr.mono ⋯) Y._law_pick.mg Y._law_pick.kp Y._law_pick.b .nil zk (za (qv 0) (za (zdx (za zf (za zf (za zf (za (zo8 zhC zf) (za zf (za zf (za (zo8 zhC zf) (za zdN zd))))))))) zd))))
   (zj (zaV (zfs K2 F.slot_list_append F.type_list_append za2 (qv 3) (za (zK (za (zm G__law_conds (hr.mono ⋯) Y._law_conds.mg Y._law_conds.kp Y._law_conds.b .nil zk (za (qv 0) (za (qv 1) (za (qv 2) (za zir zd))))) (za (qv 5) zd))) zd))))))
   (zj (zv (zZ zW Y.tuple zbg (za (qv 3) zd)))))),?_⟩
  refine⟨few rfl,λls hls=>?_⟩
  have nls:=hH.ne hls
  refine⟨_,rfl,a,4,n,rfl,hH.new hls,(),⋯,⋯,λt H1 t0 t4 hH1 k1=>⟨_,rfl,a,8,n+1,rfl,hH1,(),⋯,⋯,λu H2 u0 u8 hH2 k2=>?_⟩⟩
  have hl1:H1 ls=some (.lst []):=k1 _ _ nls zb
  have hl2:H2 ls=some (.lst []):=k2 _ _ nls hl1
  have kp2:Keep a H H2:=((Keep.new hls).trans k1).trans k2
  refine⟨rfl, .inr ⟨_,rfl,_,_,rfl,rfl, .inl ⟨⋯,⋯⟩,_,_,rfl,rfl,_,rfl,?_,?_,?_⟩⟩
  ·split<;>lia
  ·split<;>lia
  have hN:(t+9*(if decide (V.int u=V.int 0)=true then(1:Int)else 0)).toNat<=12:=by split<;>lia
  generalize (t+9*(if decide (V.int u=V.int 0)=true then(1:Int)else 0)).toNat=N at *
  refine zaX zcO (λi σ' H'=>(∃o1 o2,σ'=[some (.ref a),some (.ref h),some (.ref m),some (.ref ls),o1,o2])/\zqi (zh3 O) H' ls i/\Hand H' a (n+2+18*i)/\Keep a H H') ?_ (λ_ _ _ _=>trivial) ?_ ?_
  ·exact ⟨⟨_,_,rfl⟩,⟨[],[],hl2,RepL.nil,rfl,λ_ z=>nomatch z⟩,hH2.mono (),kp2⟩
  ·rintro i y σ' H3 hi rfl ⟨⟨o1,o2,rfl⟩,⟨zs,ds,hz,rz,hdl,hds⟩,hH3,k3⟩
   have rz1:=rz.1
   refine⟨_,rfl,zrD (ds:=[.int 5, .int 5, .int 1, .int (-3), .int 0, .int 999, .int (-999), .non]) (by (repeat' (first|exact dsp_str ⋯|exact zqf|exact dsp_bl|exact zoZ|exact zpq|exact zoc|exact dsp_dnew|exact dsp_disp rfl|exact zoJ rfl (by assumption)|refine zmd ?_ ?_|refine dsp_tup ?_ ?_|refine dsp_lst' ?_|refine n_cons ?_ ?_|exact n_nil|exact v_c|exact v_var rfl|refine v_tup ?_|refine zno ?_ ?_|refine dspl_cat ?_ ?_ ?_|exact dspl_var rfl (by assumption) (by assumption)|exact Nat.le_of_ble_eq_true rfl))) λl4 vs4 H4 s4 e4 r4=>?_⟩
   refine⟨a,_,hH3.same s4,(), .inl ⟨l4,_,rfl,zkg (hH3.same s4) e4 r4 ⋯,SqL.of e4,by rw[r4.1];decide,by rw[r4.1];decide,λv H5 hv hH5 k5=>?_⟩⟩
   obtain⟨dn,rn,hw,hwo⟩:∃dn,Rep H5 v dn/\zbm dn=true/\zR O dn=true:=by
    obtain⟨j,hj,ej⟩:=y1 hv
    obtain⟨d,hd,rd⟩:=r4.get (i:=j) (v:=v) (by rw[G0 hj,ej])
    refine⟨d,rd.mono (.keep k5 (hH3.same s4) hH5),?_⟩
    have key:∀d∈([.int 5, .int 5, .int 1, .int (-3), .int 0, .int 999, .int (-999), .non]:List D),zbm d=true/\zR O d=true:=by (repeat' (first|exact zkk|refine List.forall_mem_append.mpr ⟨?_,?_⟩|refine List.forall_mem_cons.mpr ⟨?_,?_⟩))<;>exact ⟨⋯,rfl⟩
    exact key d (W0 hd)
   have k35:Keep a H3 H5:=(Keep.of s4).trans k5
   have hz5:=k35 _ _ nls hz
   have hh5:=(hh.keep k3 nh).keep k35 nh
   have hm5:=(hm.keep k3 nm).keep k35 nm
   refine⟨_,rfl, .inl ⟨rfl,_,SqL.of hz5⟩,_,rfl,_,rfl,_,rfl,a,h,m,_,false,O,rfl,hH5,(),hh5,hm5,nh,nm,λvc dc H6 rc lc hc hco hto hH6 k6=>⟨_,rfl,few rfl,λp7 hp7=>?_⟩⟩
   have m36:Mono H3 H6:=(Mono.keep k35 hH3 hH5).trans (.keep k6 hH5 hH6)
   have hz7:upd H6 p7 (.tup [vc,v]) ls=some (.lst zs):=by rw[zc (zh (k6 _ _ nls hz5) hp7)];exact k6 _ _ nls hz5
   refine⟨ls,_,_,rfl,rfl,hz7,zn (),⟨_,_,rfl⟩,⟨_,ds ++ [.tup [.tup dc,dn]],zb,?_,?_,?_⟩,?_,?_⟩
   ·exact RepL.mono (.append ((rz.mono m36).mono (.new hp7)) (.cons (.mk2 zb (rc.mono (.new hp7)) ((rn.mono (.keep k6 hH5 hH6)).mono (.new hp7))) .nil)) (.lset hz7)
   ·rw[o0,hdl];rfl
   ·intro d hd
    rcases N2.mp hd with hd|hd
    ·exact hds d hd
    ·rw[X1.mp hd];exact a0 _ _▸⟨zmp lc hc (hto rfl) hw,zhl hco hwo⟩
   ·exact ((hH6.new hp7).updNe nls).mono (by rw[show((i+1:Nat):Int)=(i:Int)+1 by lia];lia)
   ·exact Keep.updNew ((k3.trans (k35.trans k6)).trans (Keep.new hp7)) hls
  ·rintro σ' H3 ⟨⟨o1,o2,rfl⟩,⟨zs,ds,hz,rz,hdl,hds⟩,hH3,k3⟩
   refine⟨_,rfl,ls,zs,rfl, .inl ⟨SqL.of hz,λp hp=>?_⟩⟩
   exact q _ ds _ (.mkL zb () (rz.mono (.new hp))) () hds ((hH3.new hp).mono ()) (k3.trans (Keep.new hp))
theorem zo4{x:D}(hl:ds.length<=4)(h:∀d∈ds,zA d=true)(hx:zbV x=true):zbd (.tup [.tup ds,x])=true:=by
 rw[zpm,ziI hl h,hx];rfl
theorem zmZ{y:Str}(hx:zi x=true)(hy:y="put"\/y="strike"):zbV (.tup [.str y, .str x])=true:=by
 rw[zqN,ziS,hx]
 rcases hy with rfl|rfl<;>decide +kernel
theorem znR(Y:Ev K mg):FnOk P w K mg base CX0 5 Y.a__law_hands Y.d__law_hands zbL (zfF zhT):=by
 have G__law_take:FnOk P w K mg base CX0 1 Y.a__law_take Y.d__law_take zO zcY:=zch Y
 have G__law_pick:FnOk P w K mg base CX0 2 Y.a__law_pick Y.d__law_pick zY (zb3 K):=zcJ Y
 have G__law_conds:FnOk P w K mg base CX0 4 Y.a__law_conds Y.d__law_conds zaR ziu:=zjm Y
 refine Y._law_hands.fn.okQ zbA (λvs H Q E h=>?_) `Y2
 ·obtain ⟨a,h,m,n,O,rfl,_⟩:=h;rfl
 ·obtain ⟨a,h,m,n,O,rfl,hH,hn,hh,hm,nh,nm,q⟩:=h
  refine⟨_,(zg (zy 3 zbA.nd (zdx zd))
   (zg (zb9 PassesOwn.never rfl (zec Y.range (za (zC z8 (zm G__law_pick (hr.mono ⋯) Y._law_pick.mg Y._law_pick.kp Y._law_pick.b .nil zk (za (qv 0) (za (zgz [V.int 0,V.int 0,V.int 1,V.int 2] `Z2) zd))) (zC za0 zf (zZ zdJ Y.int zgi (za (zcA zav (zm G__law_take (hr.mono ⋯) Y._law_take.mg Y._law_take.kp Y._law_take.b .nil zk (za (qv 0) (za zf zd))) zf) zd)))) zd)) (zp 4 zbA.nd) (zg (zy 5 zbA.nd (zm G__law_pick (hr.mono ⋯) Y._law_pick.mg Y._law_pick.kp Y._law_pick.b .nil zk (za (qv 0) (za (zdx (za (zK (za zbk zd)) (za (zK (za zbk (za (zm G__law_pick (hr.mono ⋯) Y._law_pick.mg Y._law_pick.kp Y._law_pick.b .nil zk (za (qv 0) (za (qv 2) zd))) zd))) (za (zK (za zbk (za (zm G__law_pick (hr.mono ⋯) Y._law_pick.mg Y._law_pick.kp Y._law_pick.b .nil zk (za (qv 0) (za (qv 2) zd))) zd))) zd)))) zd))))
   (zj (zaV (zfs K2 F.slot_list_append F.type_list_append za2 (qv 3) (za (zK (za (zm G__law_conds (hr.mono ⋯) Y._law_conds.mg Y._law_conds.kp Y._law_conds.b .nil zk (za (qv 0) (za (qv 1) (za (qv 2) (za zir zd))))) (za (qv 5) zd))) zd))))))
   (zj (zv (zZ zW Y.tuple zbg (za (qv 3) zd)))))),?_⟩
  refine⟨few rfl,λls hls=>?_⟩
  have nls:=hH.ne hls
  have hH0:=hH.new (o:= .lst []) hls
  refine⟨_,rfl,⋯,λpk hpk=>⟨a,n,hH0.new hpk,(), .inl ⟨pk,_,rfl,hH0.ne hpk,SqL.of zb,⋯,⋯,λv H1 hv hH1 k1=>?_⟩⟩⟩
  obtain⟨c,rfl,c0,c4⟩:∃c:Int,v= .int c/\0<=c/\c<=4:=by
   simp only[X0,j1,or_false] at hv
   rcases hv with rfl|rfl|rfl|rfl<;>exact ⟨_,rfl,⋯,⋯⟩
  refine⟨_,rfl,a,8,n+1,rfl,hH1,(),⋯,⋯,λu H2 u0 u8 hH2 k2=>?_⟩
  have hl0:upd H ls (.lst []) ls=some (.lst []):=zb
  have hl1:H1 ls=some (.lst []):=k1 _ _ nls (by rw[zc (zh hl0 hpk)];exact hl0)
  have hl2:H2 ls=some (.lst []):=k2 _ _ nls hl1
  have kp2:Keep a H H2:=((Keep.new hls).trans ((Keep.new hpk).trans k1)).trans k2
  refine⟨rfl, .inr ⟨_,rfl,_,_,rfl,rfl, .inl ⟨⋯,⋯⟩,_,_,rfl,rfl,_,rfl,?_,?_,?_⟩⟩
  ·split<;>lia
  ·split<;>lia
  have hN:(c+8*(if decide (V.int u=V.int 0)=true then(1:Int)else 0)).toNat<=12:=by split<;>lia
  generalize (c+8*(if decide (V.int u=V.int 0)=true then(1:Int)else 0)).toNat=N at *
  refine zaX zcO (λi σ' H'=>(∃o1 o2,σ'=[some (.ref a),some (.ref h),some (.ref m),some (.ref ls),o1,o2])/\zqi (zhT O) H' ls i/\Hand H' a (n+2+20*i)/\Keep a H H') ?_ (λ_ _ _ _=>trivial) ?_ ?_
  ·exact ⟨⟨_,_,rfl⟩,⟨[],[],hl2,RepL.nil,rfl,λ_ z=>nomatch z⟩,hH2.mono (),kp2⟩
  ·rintro i y σ' H3 hi rfl ⟨⟨o1,o2,rfl⟩,⟨zs,ds,hz,rz,hdl,hds⟩,hH3,k3⟩
   have rz1:=rz.1
   refine⟨_,rfl,few rfl,λp1 hp1=>?_⟩
   have S1:Same H3 (upd H3 p1 (.tup [.str "keep"])):=Same.new hp1
   have hm3:=hm.keep k3 nm
   have hh3:=hh.keep k3 nh
   refine⟨_,rfl,_,rfl,zcp (hH3.new hp1) () (hm3.same S1) nm λx H4 hx hH4 k4=>⟨few rfl,λp2 hp2=>?_⟩⟩
   have S2:Same H4 (upd H4 p2 (.tup [.str "put", .str x])):=Same.new hp2
   refine⟨_,rfl,_,rfl,zcp (hH4.new hp2) () (((hm3.same S1).keep k4 nm).same S2) nm λy H5 hy hH5 k5=>⟨few rfl,λp3 hp3=>⟨few rfl,λp4 hp4=>?_⟩⟩⟩
   have S3:Same H5 (upd H5 p3 (.tup [.str "strike", .str y])):=Same.new hp3
   have S4:Same (upd H5 p3 (.tup [.str "strike", .str y])) (upd (upd H5 p3 (.tup [.str "strike", .str y])) p4 (.lst [.ref p1, .ref p2, .ref p3])):=Same.new hp4
   have hH6:=(hH5.new (o:= .tup [.str "strike", .str y]) hp3).new (o:= .lst [.ref p1, .ref p2, .ref p3]) hp4
   refine⟨a,_,hH6,(), .inl ⟨p4,_,rfl,Hand.ne (hH5.new hp3) hp4,SqL.of zb,(by decide:0<3),(by decide:3<1000),λv H7 hv hH7 k7=>?_⟩⟩
   have M2:Mono (upd H3 p1 (.tup [.str "keep"])) H4:=Mono.keep k4 (hH3.new hp1) hH4
   have M3:=Mono.keep k5 (hH4.new hp2) hH5
   have M5:=Mono.keep k7 hH6 hH7
   have M45:=((Mono.of S3).trans (Mono.of S4)).trans M5
   have k37:Keep a H3 H7:=(((((Keep.of S1).trans k4).trans (Keep.of S2)).trans k5).trans ((Keep.of S3).trans (Keep.of S4))).trans k7
   obtain⟨da,ra,haa,hao⟩:∃da,Rep H7 v da/\zbV da=true/\zR O da=true:=by
    simp only[X0,j1,or_false] at hv
    rcases hv with rfl|rfl|rfl
    ·exact ⟨.tup [.str "keep"],Rep.mono (.mk1 zb (.str _ ⋯)) (((M2.trans (.of S2)).trans M3).trans M45),`Z2,rfl⟩
    ·exact ⟨.tup [.str "put", .str x],Rep.mono (.mk2 zb (.str _ ⋯) (.str _ (zas hx.1))) (M3.trans M45),zmZ hx.1 (.inl rfl),zbf hx.2⟩
    ·exact ⟨.tup [.str "strike", .str y],Rep.mono (.mk2 zb (.str _ ⋯) (.str _ (zas hy.1))) ((Mono.of S4).trans M5),zmZ hy.1 (.inr rfl),zbf hy.2⟩
   have hz7:=k37 _ _ nls hz
   refine⟨_,rfl, .inl ⟨rfl,_,SqL.of hz7⟩,_,rfl,_,rfl,_,rfl,a,h,m,_,true,O,rfl,hH7,(),hh3.keep k37 nh,hm3.keep k37 nm,nh,nm,λvc dc H8 rc lc hc hco hto hH8 k8=>⟨_,rfl,few rfl,λp9 hp9=>?_⟩⟩
   have m38:Mono H3 H8:=(Mono.keep k37 hH3 hH7).trans (.keep k8 hH7 hH8)
   have hz9:upd H8 p9 (.tup [vc,v]) ls=some (.lst zs):=by rw[zc (zh (k8 _ _ nls hz7) hp9)];exact k8 _ _ nls hz7
   refine⟨ls,_,_,rfl,rfl,hz9,zn (),⟨_,_,rfl⟩,⟨_,ds ++ [.tup [.tup dc,da]],zb,?_,?_,?_⟩,?_,?_⟩
   ·exact RepL.mono (.append ((rz.mono m38).mono (.new hp9)) (.cons (.mk2 zb (rc.mono (.new hp9)) ((ra.mono (.keep k8 hH7 hH8)).mono (.new hp9))) .nil)) (.lset hz9)
   ·rw[o0,hdl];rfl
   ·intro d hd
    rcases N2.mp hd with hd|hd
    ·exact hds d hd
    ·rw[X1.mp hd];exact a0 _ _▸⟨zo4 lc hc haa,zhl hco hao⟩
   ·exact ((hH8.new hp9).updNe nls).mono (by rw[show((i+1:Nat):Int)=(i:Int)+1 by lia];lia)
   ·exact Keep.updNew ((k3.trans (k37.trans k8)).trans (Keep.new hp9)) hls
  ·rintro σ' H3 ⟨⟨o1,o2,rfl⟩,⟨zs,ds,hz,rz,hdl,hds⟩,hH3,k3⟩
   refine⟨_,rfl,ls,zs,rfl, .inl ⟨SqL.of hz,λp hp=>?_⟩⟩
   exact q _ ds _ (.mkL zb () (rz.mono (.new hp))) () hds ((hH3.new hp).mono ()) (k3.trans (Keep.new hp))
def TD(H:Hp)(d:Addr)(xs:List Str)(c:Nat):Prop:=∃(kvs:List (List Key×V)) (ps:List (Str×Str)),H d=some (.dT kvs)/\kvs.map (·.1)=ps.map zgK/\ps.length<=c/\∀p∈ps,p.1∈xs/\p.2∈xs/\ltS p.1 p.2=true
theorem zmf{kvs:List (List Key×V)}{k:List Key}:(zah kvs k v).map (·.1)=kvs.map (·.1)\/(zah kvs k v).map (·.1)=kvs.map (·.1)++ [k]:=by
 unfold zah
 by_cases h:(kvs.any λkv=>decide (kv.1=k))=true
 ·rw[T0 h]
  refine .inl ?_
  rw[List.map_map]
  apply List.map_congr_left
  intro x _
  show(if x.1=k then(x.1,v)else x).1=x.1
  split<;>rfl
 ·rw[N0 h,E2]
  exact .inr rfl
theorem TD.put{d:Addr}{xs:List Str}{p:Str×Str}{kvs:List (List Key×V)}(h1:kvs.map (·.1)=ps.map zgK)(h2:ps.length<=c)(h3:∀p∈ps,p.1∈xs/\p.2∈xs/\ltS p.1 p.2=true)(hp:p.1∈xs/\p.2∈xs/\ltS p.1 p.2=true):
 TD (upd H d (.dT (zah kvs (zgK p) v))) d xs (c+1):=by
 rcases zmf (kvs:=kvs) (k:=zgK p) (v:=v)with e|e
 ·exact ⟨_,ps,zb,e.trans h1,(),h3⟩
 ·refine ⟨_,ps ++ [p],zb,by rw[e,h1,E2];rfl,by rw[o0];show ps.length+1<=_;lia,λq hq=>?_⟩
  rcases N2.mp hq with hq|hq
  ·exact h3 q hq
  ·rw[X1.mp hq];exact hp
theorem TD.keep{d:Addr}{xs:List Str}(h:TD H d xs c)(k:Keep a H H')(n:d≠a):TD H' d xs c:=let⟨kvs,ps,e,r⟩:=h;⟨kvs,ps,k _ _ n e,r⟩
theorem TD.mono{d:Addr}{xs:List Str}(h:TD H d xs c)(l:c<=c'):TD H d xs c':=let⟨kvs,ps,e,f,g,r⟩:=h;⟨kvs,ps,e,f,K1 g l,r⟩
theorem zny{y:Str}(h:x≠y):ltS (if ltS y x=true then y else x) (if ltS x y=true then y else x)=true:=by
 cases e:ltS x y with
 |true=>rw[zfx e];simp only[U2,if_false,if_true];exact e
 |false=>
  have:=zcS h e
  rw[this];simp only[U2,if_false,if_true];exact this
noncomputable def zkW:Sp:=λvs H Q _=>∃(a h:Addr) (n:Int) (more:Nat) (xs:List Str),vs=[.ref a, .ref h, .int more]/\Hand H a n/\n<2^38/\H h=some (.lst (xs.map V.str))/\h≠a/\1<=xs.length/\xs.length<=10/\xs.Nodup/\(∀x∈xs,zi x=true)/\more<=30/\
 ∀(v:V) (ps:List (Str×Str)) (H':Hp),Rep H' v (.tup (ps.map pairD))->ps.Pairwise (λa b=>ltP a b=true)->(∀p∈ps,p.1∈xs/\p.2∈xs/\ltS p.1 p.2=true)->Hand H' a (n+100)->Keep a H H'->Q v H'
theorem zpc(Y:Ev K mg):FnOk P w K mg base CX0 3 Y.a__law_ties Y.d__law_ties zb5 zkW:=by
 have G__law_take:FnOk P w K mg base CX0 1 Y.a__law_take Y.d__law_take zO zcY:=zch Y
 have G__law_pick:FnOk P w K mg base CX0 2 Y.a__law_pick Y.d__law_pick zY (zb3 K):=zcJ Y
 refine Y._law_ties.fn.okQ zaH (λvs H Q E h=>?_) `Y2
 ·obtain ⟨a,h,n,more,xs,rfl,_⟩:=h;rfl
 ·obtain ⟨a,h,n,more,xs,rfl,hH,hn,hh,nh,x1,x10,hnd,hxn,hmore,q⟩:=h
  refine⟨_,(zg (zy 3 zaH.nd zqd)
   (zg (zb9 PassesOwn.never rfl (zoA Y.range (za zf (za (zz z9 Y.len zbr (za (qv 1) zd)) zd))) (zp 4 zaH.nd) (zg (zqy 5 6 zaH.nd (za (zS zU (qv 1) (qv 4)) (za (zS zU (qv 1) (zm G__law_take (hr.mono ⋯) Y._law_take.mg Y._law_take.kp Y._law_take.b .nil zk (za (qv 0) (za (qv 4) zd)))) zd)))
   (zj (zaw (zQ zli (zm G__law_take (hr.mono ⋯) Y._law_take.mg Y._law_take.kp Y._law_take.b .nil zk (za (qv 0) (za zf zd))) zf) (zj (zhK (hu1 hr) (qv 3) (zK (za (zz (zgd rfl) Y.min zeO (za (qv 5) (za (qv 6) zd))) (za (zz (zgq rfl) Y.max zn2 (za (qv 5) (za (qv 6) zd))) zd))) zir)) z7))))
   (zg (zb9 PassesOwn.never rfl (zec Y.range (za (qv 2) zd)) (zp 4 zaH.nd) (zg (zqy 5 6 zaH.nd (za (zm G__law_pick (hr.mono ⋯) Y._law_pick.mg Y._law_pick.kp Y._law_pick.b .nil zk (za (qv 0) (za (qv 1) zd))) (za (zm G__law_pick (hr.mono ⋯) Y._law_pick.mg Y._law_pick.kp Y._law_pick.b .nil zk (za (qv 0) (za (qv 1) zd))) zd)))
   (zj (zaw (zQ znL (qv 5) (qv 6)) (zj (zhK (hu1 hr) (qv 3) (zK (za (zz (zgd rfl) Y.min zeO (za (qv 5) (za (qv 6) zd))) (za (zz (zgq rfl) Y.max zn2 (za (qv 5) (za (qv 6) zd))) zd))) zir)) z7))))
   (zj (zv (zZ zW Y.tuple zbg (za (zz (zia rfl) Y.sorted zdH (za (qv 3) zd)) zd))))))),?_⟩
  intro d hd
  have nd:=hH.ne hd
  have ndh:d≠h:=λz=>by rw[z,hh] at hd;cases hd
  have hh0:upd H d (.dT []) h=some (.lst (xs.map V.str)):=by rw[zc (Ne.symm ndh)];exact hh
  refine⟨_,rfl, .inl ⟨h,_,rfl, .inl (SqL.of hh0),1,_,rfl,⟨⋯,⋯,(),by rw[D0];lia⟩,?_⟩⟩
  have hN:(((xs.map V.str).length:Int) -1).toNat=xs.length -1:=by rw[D0];lia
  rw[hN]
  refine zaX zcO (λi σ' H'=>(∃o1 o2 o3,σ'=[some (.ref a),some (.ref h),some (.int more),some (.ref d),o1,o2,o3])/\TD H' d xs i/\Hand H' a (n+2*i)/\Keep a H H') ?_ (λ_ _ _ _=>trivial) ?_ ?_
  ·exact ⟨⟨_,_,_,rfl⟩,⟨[],[],zb,rfl,R0 _,λ_ z=>nomatch z⟩,(hH.new hd).mono (),Keep.new hd⟩
  ·rintro i y σ' H1 hi rfl ⟨⟨o1,o2,o3,rfl⟩,td,hH1,k1⟩
   have hh1:=k1 _ _ nh hh
   have g1:atI (xs.map V.str) (1+(i:Int))=some (.str (xs.getD (i+1) "")):=by
    have hi1:i+1<xs.length:=()
    rw[Int.add_comm]
    exact zF (j:=i+1) (by simp[hi1,List.getD])
   refine⟨_,rfl,_,rfl,h,_,_,_,rfl,rfl,SqL.of hh1,g1,_,rfl,_,rfl,_,rfl,a,_,_,rfl,hH1,(),(),(),λt' H2 t0 t1 hH2 k2=>?_⟩
   obtain⟨t,rfl⟩:∃t:Nat,t'=(t:Int):=⟨t'.toNat,()⟩
   have hh2:=k2 _ _ nh hh1
   have ht:t<xs.length:=()
   have g2:atI (xs.map V.str) (t:Int)=some (.str (xs.getD t "")):=zF (by simp[ht,List.getD])
   have hne:xs.getD (i+1) ""≠xs.getD t "":=by
    have hi1:i+1<xs.length:=()
    have:=znm hnd hi1 ht ()
    simpa[List.getD,hi1,ht] using this
   have mx1:xs.getD (i+1) ""∈xs:=by have hi1:i+1<xs.length:=()
                                    simp[List.getD,hi1]
   have mx2:xs.getD t ""∈xs:=by simp[List.getD,ht]
   generalize xs.getD (i+1) ""=x at *
   generalize xs.getD t ""=y at *
   refine⟨h,_,_,_,rfl,rfl,SqL.of hh2,g2,_,_,rfl,?_⟩
   have td2:=td.keep k2 nd
   refine⟨_,rfl,a,9,_,rfl,hH2,(),⋯,⋯,λu H3 u0 u9 hH3 k3=>⟨_,_,rfl,rfl,_,rfl,zcZ (λ_=>?_) (λ_=>?_)⟩⟩
   ·obtain ⟨kvs,ps,hkv,hkk,hpl,hpg⟩:=td2.keep k3 nd
    refine⟨_,rfl,_,rfl,_,rfl,x,y,rfl,_,rfl,_,rfl,x,y,rfl,few rfl,λp hp=>?_⟩
    have hkv4:upd H3 p (.tup [.str (if ltS y x=true then y else x), .str (if ltS x y=true then y else x)]) d=some (.dT kvs):=by rw[zc (zh hkv hp)];exact hkv
    have hlk:kvs.length=ps.length:=by have:=T2 List.length hkk;simpa using this
    refine⟨d,_,rfl,DPut.t (k:=zgK (if ltS y x=true then y else x,if ltS x y=true then y else x)) hkv4 zb (zn ()),⟨_,_,_,rfl⟩,TD.put hkk hpl hpg ⟨?_,?_,zny hne⟩,?_,?_⟩
    ·dsimp only;split<;>assumption
    ·dsimp only;split<;>assumption
    ·exact ((hH3.new hp).updNe nd).mono (by rw[show((i+1:Nat):Int)=(i:Int)+1 by lia];lia)
    ·exact Keep.updNew (((k1.trans k2).trans k3).trans (Keep.new hp)) hd
   ·exact ⟨⟨_,_,_,rfl⟩,(td2.keep k3 nd).mono (),hH3.mono (by rw[show((i+1:Nat):Int)=(i:Int)+1 by lia];lia),(k1.trans k2).trans k3⟩
  ·rintro σ' H1 ⟨⟨o1,o2,o3,rfl⟩,td,hH1,k1⟩
   refine⟨_,rfl,more,rfl,(),(),?_⟩
   rw[Int.toNat_natCast]
   refine zaX zcO (λi σ' H'=>(∃o1 o2 o3,σ'=[some (.ref a),some (.ref h),some (.int more),some (.ref d),o1,o2,o3])/\TD H' d xs (9+i)/\Hand H' a (n+20+2*i)/\Keep a H H') ?_ (λ_ _ _ _=>trivial) ?_ ?_
   ·exact ⟨⟨_,_,_,rfl⟩,td.mono (),hH1.mono (),k1⟩
   ·rintro i y σ' H2 hi rfl ⟨⟨o1,o2,o3,rfl⟩,td2,hH2,k2⟩
    have pk:∀{H0:Hp} {n0:Int} {R:VK},Hand H0 a n0->n0<2^40->H0 h=some (.lst (xs.map V.str))->(∀x H',x∈xs->Hand H' a (n0+1)->Keep a H0 H'->R (.str x) H')->zb3 K [.ref a, .ref h] H0 R E0:=λhH0 hn0 e0 qq=>
     ⟨a,_,hH0,hn0, .inl ⟨h,_,rfl,nh,SqL.of e0,by rw[D0];lia,by rw[D0];lia,λv H' hv hH' k'=>by
       obtain⟨x,hx,rfl⟩:=V1.mp hv
       exact qq x H' hx hH' k'⟩⟩
    have hh2:=k2 _ _ nh hh
    refine⟨_,rfl,_,rfl,pk hH2 () hh2 λx H3 hx hH3 k3=>⟨_,rfl,_,rfl,pk hH3 () (k3 _ _ nh hh2) λy H4 hy hH4 k4=>⟨_,_,rfl,_,rfl,_,rfl,rfl,_,rfl,zcZ (λhc=>?_) (λ_=>?_)⟩⟩⟩
    ·have hne:x≠y:=λz=>by rw[z] at hc;simp at hc
     obtain⟨kvs,ps,hkv,hkk,hpl,hpg⟩:=(td2.keep k3 nd).keep k4 nd
     refine⟨_,rfl,_,rfl,_,rfl,x,y,rfl,_,rfl,_,rfl,x,y,rfl,few rfl,λp hp=>?_⟩
     have hkv4:upd H4 p (.tup [.str (if ltS y x=true then y else x), .str (if ltS x y=true then y else x)]) d=some (.dT kvs):=by rw[zc (zh hkv hp)];exact hkv
     have hlk:kvs.length=ps.length:=by have:=T2 List.length hkk;simpa using this
     refine⟨d,_,rfl,DPut.t (k:=zgK (if ltS y x=true then y else x,if ltS x y=true then y else x)) hkv4 zb (zn ()),⟨_,_,_,rfl⟩,TD.put hkk hpl hpg ⟨?_,?_,zny hne⟩,?_,?_⟩
     ·dsimp only;split<;>assumption
     ·dsimp only;split<;>assumption
     ·exact ((hH4.new hp).updNe nd).mono (by rw[show((i+1:Nat):Int)=(i:Int)+1 by lia];lia)
     ·exact Keep.updNew (((k2.trans k3).trans k4).trans (Keep.new hp)) hd
    ·exact ⟨⟨_,_,_,rfl⟩,((td2.keep k3 nd).keep k4 nd).mono (),hH4.mono (by rw[show((i+1:Nat):Int)=(i:Int)+1 by lia];lia),(k2.trans k3).trans k4⟩
   ·rintro σ' H2 ⟨⟨o1,o2,o3,rfl⟩,⟨kvs,ps,hkv,hkk,hpl,hpg⟩,hH2,k2⟩
    refine⟨_,rfl,d,kvs,ps,rfl,hkv,hkk,(),λps' vs l hperm hpw hpa hl=>⟨l,vs,rfl, .inl ⟨SqL.of zb,λp hp=>?_⟩⟩⟩
    have S:Same H2 (upd (upd H2 l (.lst vs)) p (.tup vs)):=(Same.new hl).trans (Same.new hp)
    refine q _ ps' _ (.mkL zb (by rw[D0,hperm.length_eq];lia) ⟨by rw[D0];exact hpa.1,λi v dd e1 e2=>?_⟩) hpw (λp hp=>hpg p (hperm.mem_iff.mp hp)) ((hH2.same S).mono ()) (k2.trans (Keep.of S))
    rw[P0] at e2
    cases e3:ps'[i]? with
    |none=>rw[e3] at e2;cases e2
    |some pr=>
     rw[e3] at e2
     cases e2
     obtain⟨b,rfl,hb⟩:=hpa.2 i v pr e1 e3
     have hpr:=hpg pr (hperm.mem_iff.mp (W0 e3))
     exact .mk2 (S _ _ hb) (.str _ (zas (hxn _ hpr.1))) (.str _ (zas (hxn _ hpr.2.1)))
noncomputable def znf:Sp:=λvs H Q _=>∃(a:Addr) (n:Int),vs=[.ref a]/\Hand H a n/\n<2^36/\∀(v:V) (g:Str) (hs:List Str) (ps:List (Str×Str)) (lks hds:List D) (H':Hp),Rep H' v (zal g hs ps lks hds)->TownOk g hs ps lks hds->(∀x∈hs,x≠"nowhere")->(∃O,Pool hs lks hds O)->(∀d∈lks,∃ds,d= .tup ds/\ds.length<=12)->(∀d∈hds,∃ds,d= .tup ds/\ds.length<=12)->Hand H' a (n+9000)->Keep a H H'->Q v H'
theorem zgX(e:d= .tup ds)(h:ds.length<=12)(h2:∀d∈ds,zh3 O d=true):zbl d=true/\zbJ O d=true/\∃es,d= .tup es/\es.length<=12:=by
 subst e
 refine⟨?_,C2.mpr λd hd=>((a0 _ _).mp (h2 d hd)).2,ds,rfl,h⟩
 show(decide (ds.length<=90)&&ds.all zJ)=true
 rw[V0 (),C2.mpr λd hd=>((a0 _ _).mp (h2 d hd)).1];rfl
theorem ziG(e:d= .tup ds)(h:ds.length<=12)(h2:∀d∈ds,zhT O d=true):za7 d=true/\zbJ O d=true/\∃es,d= .tup es/\es.length<=12:=by
 subst e
 refine⟨?_,C2.mpr λd hd=>((a0 _ _).mp (h2 d hd)).2,ds,rfl,h⟩
 show(decide (ds.length<=90)&&ds.all zbd)=true
 rw[V0 (),C2.mpr λd hd=>((a0 _ _).mp (h2 d hd)).1];rfl
theorem zpG(Y:Ev K mg):FnOk P w K mg base CX0 6 Y.a__law_town Y.d__law_town zb4 znf:=by
 have G__law_take:FnOk P w K mg base CX0 1 Y.a__law_take Y.d__law_take zO zcY:=zch Y
 have G__law_pick:FnOk P w K mg base CX0 2 Y.a__law_pick Y.d__law_pick zY (zb3 K):=zcJ Y
 have G__law_names:FnOk P w K mg base CX0 3 Y.a__law_names Y.d__law_names zby zjB:=zmu Y
 have G__law_ties:FnOk P w K mg base CX0 3 Y.a__law_ties Y.d__law_ties zb5 zkW:=zpc Y
 have G__law_likings:FnOk P w K mg base CX0 5 Y.a__law_likings Y.d__law_likings zaL (zfF zh3):=zkt Y
 have G__law_hands:FnOk P w K mg base CX0 5 Y.a__law_hands Y.d__law_hands zbL (zfF zhT):=znR Y
 refine Y._law_town.fn.okQ zX (λvs H Q E h=>?_) `Y2
 ·obtain ⟨a,n,rfl,_⟩:=h;rfl
 ·obtain ⟨a,n,rfl,hH,hn,q⟩:=h
  refine⟨_,(zg (zy 1 zX.nd (zS zU (zdx (za zf (za zf (za zf (za zf (za zf (za zf (za zf (za (zC z8 zf (zm G__law_take (hr.mono ⋯) Y._law_take.mg Y._law_take.kp Y._law_take.b .nil zk (za (qc 0) (za zf zd)))) zd))))))))) (zm G__law_take (hr.mono ⋯) Y._law_take.mg Y._law_take.kp Y._law_take.b .nil zk (za (qc 0) (za zf zd)))))
   (zg (zf4 2 zX.nd (zm G__law_names (hr.mono ⋯) Y._law_names.mg Y._law_names.kp Y._law_names.b .nil zk (za (qc 0) (za (zC z8 (qv 1) zf) zd))))
   (zg (zcC (zK (za (zqS zlh (qc 2) zkH (zkL (qv 1))) (za (zqS zlh (qc 2) (zkL (qv 1)) zkH) zd))) (zc3 2 rfl (zt (zp 3 zX.nd) (zt (zkO 4 zX.nd) zaE))))
   (zg (zy 5 zX.nd (zm G__law_ties (hr.mono ⋯) Y._law_ties.mg Y._law_ties.kp Y._law_ties.b .nil zk (za (qc 0) (za (qv 3) (za (zm G__law_take (hr.mono ⋯) Y._law_take.mg Y._law_take.kp Y._law_take.b .nil zk (za (qc 0) (za zf zd))) zd)))))
   (zg (zy 6 zX.nd (zm G__law_pick (hr.mono ⋯) Y._law_pick.mg Y._law_pick.kp Y._law_pick.b .nil zk (za (qc 0) (za (qv 3) zd))))
   (zg (zy 7 zX.nd (zZ zW Y.tuple zbg (za (zz zhZ Y.sorted zdH (za (qv 3) zd)) zd)))
   (zg (zy 8 zX.nd (zZ zW Y.tuple zbg (za (zcQ (src:=[none,some 0,some 4,some 2]) zdR rfl rfl (zc1 (qv 7)) (λ_ _ _ _ _=>(zp 0 zdR.nd)) (λ_ _ _ _ _=>zc5) (λ_ _ _ _ _=>(zm G__law_likings (hr.mono ⋯) Y._law_likings.mg Y._law_likings.kp Y._law_likings.b .nil zk (za (qc 1) (za (qc 3) (za (qc 2) zd)))))) zd)))
   (zg (zy 9 zX.nd (zZ zW Y.tuple zbg (za (zcQ (src:=[none,some 0,some 4,some 2]) zdQ rfl rfl (zc1 (qv 7)) (λ_ _ _ _ _=>(zp 0 zdQ.nd)) (λ_ _ _ _ _=>zc5) (λ_ _ _ _ _=>(zm G__law_hands (hr.mono ⋯) Y._law_hands.mg Y._law_hands.kp Y._law_hands.b .nil zk (za (qc 1) (za (qc 3) (za (qc 2) zd)))))) zd)))
   (zj (zv (zK (za (qv 6) (za (qv 7) (za (qv 5) (za (qv 8) (za (qv 9) zd)))))))))))))))),?_⟩
  refine⟨_,rfl,a,5,n,rfl,hH,(),⋯,⋯,λt H1 t0 t5 hH1 k1=>⟨_,_,rfl,rfl,few rfl,λpl hpl=>⟨_,rfl,a,8,n+1,rfl,hH1.new hpl,(),⋯,⋯,λu H2 u0 u8 hH2 k2=>?_⟩⟩⟩
  have hpl2:=k2 _ _ (hH1.ne hpl) (zb (o:= .lst [V.int 2,V.int 3,V.int 3,V.int 4,V.int 4,V.int 5,V.int 1,V.int (6+t)]))
  obtain⟨v,ev,hv⟩:=zfG (xs:=[V.int 2,V.int 3,V.int 3,V.int 4,V.int 4,V.int 5,V.int 1,V.int (6+t)]) u0 u8
  obtain⟨m,rfl,m1,m10⟩:∃m:Nat,v= .int (m:Int)/\1<=m/\m<=10:=by
   simp only[X0,j1,or_false] at hv
   rcases hv with rfl|rfl|rfl|rfl|rfl|rfl|rfl|rfl
   ·exact ⟨2,rfl,⋯,⋯⟩
   ·exact ⟨3,rfl,⋯,⋯⟩
   ·exact ⟨3,rfl,⋯,⋯⟩
   ·exact ⟨4,rfl,⋯,⋯⟩
   ·exact ⟨4,rfl,⋯,⋯⟩
   ·exact ⟨5,rfl,⋯,⋯⟩
   ·exact ⟨1,rfl,⋯,⋯⟩
   ·exact ⟨(6+t).toNat,by congr 1;lia,(),()⟩
  have kp2:Keep a H H2:=(k1.trans (Keep.new hpl)).trans k2
  refine⟨pl,_,_,_,rfl,rfl,SqL.of hpl2,ev,?_⟩
  refine⟨_,rfl,_,rfl,_,_,rfl,rfl,a,n+1+1,m+3,by push_cast;rfl,hH2,(),(),(),λln xs H3 hln hl3 hlen hxn hxd hxw hH3 k3=>?_⟩
  have nln:ln≠a:=hH2.ne hln
  refine⟨_,rfl,_,rfl,_,rfl,ln,_,rfl,SqL.of hl3,λp1 hp1=>?_⟩
  have S1:Same H3 (upd H3 p1 (.lst (zco (xs.map V.str) none (some (m:Int))))):=Same.new hp1
  refine⟨_,rfl,_,rfl,_,rfl,ln,_,rfl,SqL.of (S1 _ _ hl3),λp2 hp2=>⟨few rfl,λp3 hp3=>?_⟩⟩
  have S2:=Same.new (o:= .lst (zco (xs.map V.str) (some (m:Int)) none)) hp2
  have S3:=Same.new (o:= .tup [V.ref p1,V.ref p2]) hp3
  have S13:=(S1.trans S2).trans S3
  have hp1':=S3 _ _ (S2 _ _ (zb (H:=H3) (a:=p1) (o:= .lst (zco (xs.map V.str) none (some (m:Int))))))
  have hp2':=S3 _ _ (zb (H:=upd H3 p1 (.lst (zco (xs.map V.str) none (some (m:Int))))) (a:=p2) (o:= .lst (zco (xs.map V.str) (some (m:Int)) none)))
  refine⟨p3,_,rfl, .inl (.inl zb),rfl,_,_,rfl,_,_,rfl,rfl,?_⟩
  have hl4:=S13 _ _ hl3
  have hH4:=hH3.same S13
  have np1:p1≠a:=hH3.ne hp1
  have np2:p2≠a:=(hH3.same S1).ne hp2
  have kp4:=(kp2.trans k3).trans (Keep.of S13)
  generalize (upd (upd (upd H3 p1 (HO.lst (zco (xs.map V.str) none (some (m:Int))))) p2 (HO.lst (zco (xs.map V.str) (some (m:Int)) none))) p3 (HO.tup [V.ref p1,V.ref p2]))=H4 at *
  rw[znt,←List.map_take] at hp1'
  rw[zmC,←List.map_drop] at hp2'
  have hth:(xs.take m).length=m:=by rw[Z1];lia
  have htn:∀x∈xs.take m,zi x=true:=λx hx=>hxn x (List.mem_of_mem_take hx)
  have htw:∀x∈xs.take m,x≠"nowhere":=λx hx=>hxw x (List.mem_of_mem_take hx)
  have htd:(xs.take m).Nodup:=hxd.sublist (List.take_sublist m xs)
  have hdn:∀x∈xs.drop m,zi x=true:=λx hx=>hxn x (List.mem_of_mem_drop hx)
  have hdl:(xs.drop m).length=3:=by rw[List.length_drop];lia
  have hto:∀x∈xs.take m,x∈xs:=λx hx=>List.mem_of_mem_take hx
  have hdo:∀x∈xs.drop m,x∈xs:=λx hx=>List.mem_of_mem_drop hx
  generalize xs.take m=hs at *
  generalize xs.drop m=ms at *
  have NLn:NL xs H4 ln:=⟨xs,hl4,(),(),λx hx=>⟨hxn x hx,hx⟩⟩
  have NLm:NL xs H4 p2:=⟨ms,hp2',(),(),λx hx=>⟨hdn x hx,hdo x hx⟩⟩
  refine⟨_,rfl,_,rfl,_,rfl,a,5,_,rfl,hH4,(),⋯,⋯,λmo' H5 mo0 mo5 hH5 k45=>?_⟩
  obtain⟨mo,rfl⟩:∃mo:Nat,mo'=(mo:Int):=⟨mo'.toNat,()⟩
  have mo30:mo<=30:=()
  have hp15:=k45 _ _ np1 hp1'
  refine⟨a,p1,_,mo,hs,rfl,hH5,(),hp15,np1,(),(),htd,htn,mo30,λvt ps H6 rt hpw hpg hH6 k6=>?_⟩
  have hp16:=k6 _ _ np1 hp15
  refine⟨_,rfl,_,rfl,a,_,hH6,(), .inl ⟨p1,_,rfl,np1,SqL.of hp16,by rw[D0];lia,by rw[D0];lia,λvg H7 hvg hH7 k7=>?_⟩⟩
  obtain⟨g,hg,rfl⟩:=V1.mp hvg
  have hp17:=k7 _ _ np1 hp16
  have rt7:=rt.mono (.keep k7 hH6 hH7)
  refine⟨_,rfl,p1,hs,rfl,SqL.of hp17,(),htd,λhs' l hperm hrise hl=>⟨l,_,rfl, .inl ⟨SqL.of zb,λpr hpr=>?_⟩⟩⟩
  have S8:Same H7 (upd (upd H7 l (.lst (hs'.map V.str))) pr (.tup (hs'.map V.str))):=(Same.new hl).trans (Same.new hpr)
  have hpr8:(upd (upd H7 l (.lst (hs'.map V.str))) pr (.tup (hs'.map V.str))) pr=some (.tup (hs'.map V.str)):=zb
  have hH8:=hH7.same S8
  have rt8:=rt7.same S8
  have npr:pr≠a:=(hH7.new hl).ne hpr
  have k48:Keep a H4 (upd (upd H7 l (.lst (hs'.map V.str))) pr (.tup (hs'.map V.str))):=((k45.trans k6).trans k7).trans (Keep.of S8)
  have hlen':hs'.length=m:=by rw[hperm.length_eq];exact hth
  generalize (upd (upd H7 l (HO.lst (hs'.map V.str))) pr (HO.tup (hs'.map V.str)))=H8 at *
  have NLn8:=NLn.keep k48 nln
  have NLm8:=NLm.keep k48 np2
  refine⟨_,rfl,pr,rfl,⟨_, .inl (.inl hpr8)⟩,?_⟩
  refine zfc (a:=a) (m:=n+300) (c:=400) (Pd:=λ_ d=>zbl d=true/\zbJ xs d=true/\∃es,d= .tup es/\es.length<=12) (σr:=[some (.ref a),some (.ref p2),some (.ref ln)]) (zbs (K:=K) (xs:=hs'.map V.str)) (λH' k=> .inl (.inl (k _ _ npr hpr8))) rfl (hH8.mono ()) (by rw[D0];lia) ⋯ (λi x H9 Q1 hi hH9 k9 q1=>?_) (λl1 vl lks H9 hl1 hl1' rl hll pl9 hH9 k9=>?_)
  ·rw[D0] at hi
   exact⟨_,rfl,_,rfl,_,rfl,a,ln,p2,_,xs,rfl,hH9,(),NLn8.keep k9 nln,NLm8.keep k9 np2,nln,np2,λv ds H10 rv hds hg10 hH10 k10=>q1 v _ H10 rv (zgX rfl hds hg10) hH10 k10⟩
  refine⟨l1,vl,rfl, .inl ⟨SqL.of hl1',λpA hpA=>?_⟩⟩
  rw[D0] at hll hH9
  have SA:=Same.new (o:= .tup vl) hpA
  have rlA:Rep (upd H9 pA (.tup vl)) (.ref pA) (.tup lks):= .mkL zb () (rl.mono (.new hpA))
  have hHA:=hH9.new (o:= .tup vl) hpA
  have k8A:Keep a H8 (upd H9 pA (.tup vl)):=k9.trans (Keep.of SA)
  generalize (upd H9 pA (HO.tup vl))=HA at *
  have hprA:=k8A _ _ npr hpr8
  refine⟨_,rfl,pr,rfl,⟨_, .inl (.inl hprA)⟩,?_⟩
  refine zfc (a:=a) (m:=n+300+400*hs'.length) (c:=400) (Pd:=λ_ d=>za7 d=true/\zbJ xs d=true/\∃es,d= .tup es/\es.length<=12) (σr:=[some (.ref a),some (.ref p2),some (.ref ln)]) (zbs (K:=K) (xs:=hs'.map V.str)) (λH' k=> .inl (.inl (k _ _ npr hprA))) rfl hHA (by rw[D0];lia) ⋯ (λi x HB Q1 hi hHB kB q1=>?_) (λl2 va hds HB hl2 hl2' ra hla plB hHB kB=>?_)
  ·rw[D0] at hi
   exact⟨_,rfl,_,rfl,_,rfl,a,ln,p2,_,xs,rfl,hHB,(),(NLn8.keep k8A nln).keep kB nln,(NLm8.keep k8A np2).keep kB np2,nln,np2,λv ds H10 rv hds hg10 hH10 k10=>q1 v _ H10 rv (ziG rfl hds hg10) hH10 k10⟩
  refine⟨l2,va,rfl, .inl ⟨SqL.of hl2',λpB hpB=>?_⟩⟩
  rw[D0] at hla hHB
  have SB:=Same.new (o:= .tup va) hpB
  have mAB:Mono HA (upd HB pB (.tup va)):=(Mono.keep kB hHA hHB).trans (.of SB)
  have raB:Rep (upd HB pB (.tup va)) (.ref pB) (.tup hds):= .mkL zb () (ra.mono (.new hpB))
  have kAB:Keep a HA (upd HB pB (.tup va)):=kB.trans (Keep.of SB)
  have hHB':=hHB.new (o:= .tup va) hpB
  have rlB:=rlA.mono mAB
  have rtB:=(rt8.mono (.keep k8A hH8 hHA)).mono mAB
  have hprB:=kAB _ _ npr hprA
  refine⟨_,rfl,_,rfl,_,rfl,_,rfl,_,rfl,few rfl,λpT hpT=>?_⟩
  have rr:Rep (upd HB pB (.tup va)) (.ref pr) (.tup (hs'.map D.str)):=by
   refine .mkL hprB (by rw[D0];lia) ⟨by rw[D0,D0],λi v d e1 e2=>?_⟩
   rw[P0] at e1 e2
   cases e3:hs'[i]? with
   |none=>rw[e3] at e1;cases e1
   |some x=>
    rw[e3] at e1 e2
    cases e1
    cases e2
    exact .str x (zas (htn x (hperm.mem_iff.mp (W0 e3))))
  have ST:=Mono.new (o:= .tup [.str g, .ref pr,vt, .ref pA, .ref pB]) hpT
  have rtown:=Rep.mkL (H:=upd (upd HB pB (.tup va)) pT (.tup [.str g, .ref pr,vt, .ref pA, .ref pB])) (p:=pT) (vs:=[.str g, .ref pr,vt, .ref pA, .ref pB]) (ds:=[.str g, .tup (hs'.map D.str), .tup (ps.map pairD), .tup lks, .tup hds]) zb (Nat.le_of_ble_eq_true rfl) (.cons (.str g (zas (htn g hg))) (.cons (rr.mono ST) (.cons (rtB.mono ST) (.cons (rlB.mono ST) (.cons (raB.mono ST) .nil)))))
  have pl9':=zgc (P:=λd=>zbl d=true/\zbJ xs d=true/\∃es,d= .tup es/\es.length<=12) pl9
  have plB':=zgc (P:=λd=>za7 d=true/\zbJ xs d=true/\∃es,d= .tup es/\es.length<=12) plB
  refine q _ g hs' ps lks hds _ rtown ⟨hrise,(),(),λx hx=>htn x (hperm.mem_iff.mp hx),hperm.mem_iff.mpr hg,hpw,λp hp=>?_,(),(),λd hd=>(pl9' d hd).1,λd hd=>(plB' d hd).1⟩ (λx hx=>htw x (hperm.mem_iff.mp hx)) ⟨xs,⟨(),hxn,λx hx=>hto x (hperm.mem_iff.mp hx),λd hd=>(pl9' d hd).2.1,λd hd=>(plB' d hd).2.1⟩⟩ (λd hd=>(pl9' d hd).2.2) (λd hd=>(plB' d hd).2.2) ((hHB'.new hpT).mono ()) (((kp4.trans k48).trans (k8A.trans kAB)).trans (Keep.new hpT))
  obtain⟨h1,h2,h3⟩:=hpg p hp
  exact⟨hperm.mem_iff.mpr h1,hperm.mem_iff.mpr h2,h3⟩
theorem zdO{k:Nat}{c:D->Bool}{g:List Str->List Str->Option Str->D->Bool}(Y:Ev K mg)(G_holds:FnOk P w K mg base CX0 k Y.a_holds Y.d_holds zcR (zeG c g))(c':D->Bool)(g':List Str->List Str->Option Str->D->Bool)
 (hc:∀d,c' d=true->∃x e,d= .tup [.str x,e]) (h1:∀ws ms to x e,c' (.tup [.str x,e])=true->x="not"->c e=true/\(!g ws ms to e)=g' ws ms to (.tup [.str x,e]))
 (h2:∀x e,c' (.tup [.str x,e])=true->¬x="not"->zB (.tup [.str x,e])=true/\∀ws ms to,phB ws ms to x e=g' ws ms to (.tup [.str x,e])):
 FnOk P w K mg base CX0 (k+1) Y.a_holds Y.d_holds zcR (zeG c' g'):=by
 refine Y.holds.fn.okQ zfA (λvs H Q E h=>?_) `Y2
 ·obtain ⟨v,d,pw,pm,vt,ws,ms,to,rfl,_⟩:=h;rfl
 ·obtain ⟨v,d,pw,pm,vt,ws,ms,to,rfl,hd,hcd,hpw,hpm,hto,nw,nm,w1,lw,lm,q⟩:=h
  obtain⟨x,e,rfl⟩:=hc d hcd
  obtain⟨p,v0,v1,rfl,hp,r0,r1⟩:=hd.of2
  cases r0 with
  |str _ hx=>
  refine⟨_,(zg (zcC (qv 0) (zc3 2 rfl (zt (zp 4 zfA.nd) (zt (zp 5 zfA.nd) zaE))))
   (zg (zaw (zQ zav (qv 4) zbk) (zj (zv (zqH (zm G_holds hr Y.holds.mg Y.holds.kp Y.holds.b .nil zk (za (qv 5) (za (qv 1) (za (qv 2) (za (qv 3) zd)))))))) z7)
   (zg (zaw (zQ zav (qv 4) zbk) (zj (zv (zcA ze3 (qv 5) (qv 1)))) z7)
   (zg (zaw (zQ zav (qv 4) zbk) (zj (zv (znW (zcA zli (zz z9 Y.len zbr (za (qv 1) zd)) zf) (znl (zcA zav (zS zG (qv 1) zf) (qv 5)))))) z7)
   (zg (zaw (zQ zav (qv 4) zbk) (zj (zv (zcA zav (qv 3) (qv 5)))) z7)
   (zg (zaw (zQ zav (qv 4) zbk) (zj (zv (zcA ze3 (qv 5) (qv 2)))) z7)
   (zj (zv (zcA zqt (zC znC (zz z9 Y.len zbr (za (qv 1) zd)) zf) (qv 5)))))))))),?_⟩
  refine⟨_,rfl,p,_,rfl, .inl (.inl hp),rfl,_,_,rfl,_,_,rfl,rfl,?_⟩
  refine⟨_,rfl,rfl,_,rfl,zcZ (λel=>?_) (λel=>?_)⟩
  ·obtain ⟨ce,ge⟩:=h1 ws ms to x e hcd (V.str.inj (U0 el))
   refine⟨_,rfl,_,rfl,_,rfl,_,rfl,v1,e,pw,pm,vt,ws,ms,to,rfl,r1,ce,hpw,hpm,hto,nw,nm,w1,lw,lm,λH' s'=>⟨_,rfl,?_⟩⟩
   have q:=q H' s'
   rw[←ge] at q
   exact q
  have q:=q H (Same.refl H)
  obtain⟨hpl,ge⟩:=h2 x e hcd λz=>el (V0 (by rw[z]))
  rw[←ge ws ms to] at q
  have bad:∀{y z:Str},y=z->¬decide (V.str y=V.str z)=true->False:=λe h=>h (by rw[e];exact V0 rfl)
  refine⟨_,rfl,rfl,_,rfl,zcZ (λe1=>?_) (λe1=>?_)⟩
  ·have e1:=V.str.inj (U0 e1)
   subst e1
   rcases zaG hpl with⟨z,_⟩|⟨_,y,rfl,ny⟩
   ·exact absurd z `Z2
   cases r1 with|str _ _=>
   rw[zss,←zim] at q
   exact⟨_,rfl,_,rfl,pw,_,rfl, .inr (.inl (.inl hpw)),rfl,zeX,q⟩
  refine⟨_,rfl,rfl,_,rfl,zcZ (λe2=>?_) (λe2=>?_)⟩
  ·have e2:=V.str.inj (U0 e2)
   subst e2
   rcases zaG hpl with⟨z,_⟩|⟨_,y,rfl,ny⟩
   ·exact absurd z `Z2
   cases r1 with|str _ _=>
   rw[zpS] at q
   refine⟨_,rfl, .inl ⟨pw,_,rfl, .inr (.inl (.inl hpw)),_,_,rfl,rfl,_,rfl,?_⟩⟩
   match ws,hpw,q with
   |[],hpw,q=>exact zbo rfl q
   |[a],hpw,q=>exact zbo rfl q
   |a::b::r,hpw,q=>
    refine zbE (V0 (by rw[D0,J1,J1];lia)) ?_
    refine⟨_,rfl,pw,_,1,_,rfl,rfl, .inl (.inl hpw),at1,_,rfl,rfl,?_⟩
    rw[zcx]
    have eb:decide ((a::b::r)[1]?=some y)=decide (b=y):=by
     rw[Bool.eq_iff_iff,V2,V2];simp
    rw[eb] at q
    exact q
  refine⟨_,rfl,rfl,_,rfl,zcZ (λe3=>?_) (λe3=>?_)⟩
  ·have e3:=V.str.inj (U0 e3)
   subst e3
   rcases zaG hpl with⟨z,_⟩|⟨_,y,rfl,ny⟩
   ·exact absurd z `Z2
   cases r1 with|str _ _=>
   obtain⟨hsc,hde⟩:=hto.eq (y:=y)
   rw[zsb,←hde] at q
   exact⟨_,rfl,_,rfl,hsc,q⟩
  refine⟨_,rfl,rfl,_,rfl,zcZ (λe4=>?_) (λe4=>?_)⟩
  ·have e4:=V.str.inj (U0 e4)
   subst e4
   rcases zaG hpl with⟨z,_⟩|⟨_,y,rfl,ny⟩
   ·exact absurd z `Z2
   cases r1 with|str _ _=>
   rw[zoU,←zim] at q
   exact⟨_,rfl,_,rfl,pm,_,rfl, .inr (.inl (.inl hpm)),rfl,zeX,q⟩
  rcases zaG hpl with⟨rfl,i,rfl,i0,i9⟩|⟨hn,y,rfl,ny⟩
  ·cases r1 with|int _=>
   rw[zpr] at q
   refine⟨_,rfl, .inl ⟨pw,_,rfl, .inr (.inl (.inl hpw)),_,_,rfl,rfl,_,rfl,_,_,rfl,rfl,?_⟩⟩
   have eb:decide (i<=((ws.map V.str).length:Int) -1)=decide (i<(ws.length:Int)):=by
    rw[Bool.eq_iff_iff,V2,V2,D0];lia
   rw[←eb] at q
   exact q
  ·rcases zer hn with z|z|z|z
   ·exact (bad z e1).elim
   ·exact (bad z e2).elim
   ·exact (bad z e3).elim
   ·exact (bad z e4).elim
theorem zma(Y:Ev K mg):FnOk P w K mg base CX0 1 Y.a_holds Y.d_holds zcR (zeG (λ_=>false) (λ_ _ _ _=>false)):=by
 refine Y.holds.fn.okQ zfA (λvs H Q E h=>?_) `Y2
 ·obtain ⟨v,d,_,_,_,_,_,_,rfl,_,z,_⟩:=h;cases z
 ·obtain ⟨v,d,_,_,_,_,_,_,rfl,_,z,_⟩:=h;cases z
theorem zm4(Y:Ev K mg):FnOk P w K mg base CX0 3 Y.a_holds Y.d_holds zcR (zeG zA zcU):=by
 refine zdO (c:=zB) (g:=ze2) Y ?_ zA zcU zhj ?_ ?_
 ·refine zdO Y (zma Y) zB ze2 zbY ?_ ?_
  ·intro ws ms to x e h z
   subst z
   exact absurd h (by rw[zdF];exact E1)
  ·exact λx e h _=>⟨h,λ_ _ _=>rfl⟩
 ·intro ws ms to x e h z
  subst z
  rw[zes,T0 rfl] at h
  exact⟨h,by show(!ze2 ws ms to e)=(if("not":Str)="not"then !ze2 ws ms to e else phB ws ms to "not" e);rw[T0 rfl]⟩
 ·intro x e h z
  rw[zes,N0 z] at h
  exact⟨h,λws ms to=>by show phB ws ms to x e=(if x="not"then !ze2 ws ms to e else phB ws ms to x e);rw[N0 z]⟩
theorem zfb(Y:Ev K mg):FnOk P w K mg base CX0 4 Y.a_all_hold Y.d_all_hold zb0 zjM:=by
 have G_holds:FnOk P w K mg base CX0 3 Y.a_holds Y.d_holds zcR (zeG zA zcU):=zm4 Y
 refine Y.all_hold.fn.okQ zfK (λvs H Q E h=>?_) `Y2
 ·obtain ⟨v,cs,pw,pm,vt,ws,ms,to,rfl,_⟩:=h;rfl
 ·obtain ⟨v,cs,pw,pm,vt,ws,ms,to,rfl,hd,hcs,hpw,hpm,hto,nw,nm,w1,lw,lm,q⟩:=h
  obtain⟨pc,uc,rfl,hpc,rc,_⟩:=hd.ofT
  refine⟨_,(zg (zb9 PassesOwn.never rfl (zc1 (qv 0)) (zp 4 zfK.nd) (zj (zaw (zjt (ziK (zm G_holds (hr.mono ⋯) Y.holds.mg Y.holds.kp Y.holds.b .nil zk (za (qv 4) (za (qv 1) (za (qv 2) (za (qv 3) zd))))))) (zj (zv zir)) z7)))
   (zj (zv zir))),?_⟩
  refine⟨_,rfl,pc,rfl,⟨_, .inl (.inl hpc)⟩,?_⟩
  refine zaX (zbs (K:=K) (xs:=uc)) (λi σ' H'=>(∃o4,σ'=[some (.ref pc),some (.ref pw),some (.ref pm),some vt,o4])/\(cs.take i).all (zcU ws ms to)=true/\Same H H') ⟨⟨_,rfl⟩,rfl,Same.refl _⟩ (λi σ' H' z=> .inl (.inl (z.2.2 _ _ hpc))) ?_ ?_
  ·rintro i y σ' H1 hi hy ⟨⟨o4,rfl⟩,ha,s1⟩
   obtain⟨c,hc,rcc⟩:=rc.get hy
   have hcm:=W0 hc
   have tk:(cs.take (i+1)).all (zcU ws ms to)=((cs.take i).all (zcU ws ms to)&&zcU ws ms to c):=by
    rw[Q2,hc,List.all_append];simp
   refine⟨_,rfl,_,rfl,_,rfl,_,rfl,y,c,pw,pm,vt,ws,ms,to,rfl,rcc.same s1,hcs c hcm,s1 _ _ hpw,s1 _ _ hpm,hto,nw,nm,w1,lw,lm,λH2 s2=>⟨_,rfl,?_⟩⟩
   cases hb:zcU ws ms to c with
   |false=>
    have e:zeY ws ms to cs=false:=List.all_eq_false.mpr ⟨c,hcm,by rw[hb];decide⟩
    have q:=q H2 (s1.trans s2)
    rw[e] at q
    exact zbE rfl q
   |true=>exact zbo rfl ⟨⟨_,rfl⟩,by rw[tk,ha,hb];rfl,s1.trans s2⟩
  ·rintro σ' H1 ⟨⟨o4,rfl⟩,ha,s1⟩
   rw[rc.1,List.take_length] at ha
   have q:=q H1 s1
   have e:zeY ws ms to cs=true:=ha
   rw[e] at q
   exact q
theorem zgZ(Y:Ev K mg):FnOk P w K mg base CX0 1 Y.a_likings_of Y.d_likings_of zbH zse:=by
 refine Y.likings_of.fn.okQ zh6 (λvs H Q E h=>?_) `Y2
 ·obtain ⟨v,x,g,hs,ps,lks,hds,j,rfl,_⟩:=h;rfl
 ·obtain ⟨v,x,g,hs,ps,lks,hds,j,rfl,hv,T,hj,q⟩:=h
  obtain⟨p,pr,pt,pl,pa,vt,vl,va,rfl,hp,hpr,hpt,rt,hpl,rl,hpa,ra⟩:=zeA hv
  have hjl:j<hs.length:=by
   rcases U1 j hs.length with y|y
   ·exact y
   ·rw[Q0 y] at hj;cases hj
  have hjk:j<lks.length:=by rw[T.ll];exact hjl
  have hjv:j<vl.length:=by rw[rl.1];exact hjk
  refine⟨_,(zj (zv (zS zG (zS zG (qv 0) zf) (zfs F.plainAttrs_tuple F.slot_tuple_index F.type_tuple_index zhu (zS zG (qv 0) zf) (za (qv 1) zd))))),?_⟩
  refine⟨_,rfl,p,_,3,_,rfl,rfl, .inl (.inl hp),zF (j:=3) rfl,?_⟩
  refine⟨_,rfl,p,_,1,_,rfl,rfl, .inl (.inl hp),zF (j:=1) rfl,?_⟩
  refine⟨.inr (.inr (.inr (.inr ⟨rfl,_,hpr⟩))),_,rfl,pr,hs,x,j,rfl,rfl, .inl (.inl hpr),hj,zi1 T.hs_nd hj,?_⟩
  exact⟨pl,_,_,vl[j],rfl,rfl, .inl (.inl hpl),zF (by simp[hjv]),q _ lks[j] (G0 hjk) (rl.2 j _ _ (G0 hjv) (G0 hjk))⟩
theorem zjC(Y:Ev K mg):FnOk P w K mg base CX0 5 Y.a_worth Y.d_worth zen zhN:=by
 have G_all_hold:FnOk P w K mg base CX0 4 Y.a_all_hold Y.d_all_hold zb0 zjM:=zfb Y
 have G_likings_of:FnOk P w K mg base CX0 1 Y.a_likings_of Y.d_likings_of zbH zse:=zgZ Y
 refine Y.worth.fn.okQ zhz (λvs H Q E h=>?_) `Y2
 ·obtain ⟨v,pw,pm,x,ws,ms,g,hs,ps,lks,hds,j,rs,rfl,_⟩:=h;rfl
 ·obtain ⟨v,pw,pm,x,ws,ms,g,hs,ps,lks,hds,j,rs,rfl,hv,T,hj,hlj,hpw,hpm,nw,nm,lw,lm,q⟩:=h
  have hlk:rs.length<=90/\∀r∈rs,zJ r=true:=by
   have h:=T.likes _ (W0 hlj)
   have h:(decide (rs.length<=90)&&rs.all zJ)=true:=h
   rw[a0] at h
   exact⟨U0 h.1,C2.mp h.2⟩
  refine⟨_,(zg (zb9 PassesOwn.never rfl (zc1 (zm G_likings_of (hr.mono ⋯) Y.likings_of.mg Y.likings_of.kp Y.likings_of.b .nil zk (za (qv 0) (za (zS zG (qv 1) zf) zd)))) (zc3 2 rfl (zt (zp 3 zhz.nd) (zt (zp 4 zhz.nd) zaE))) (zj (zaw (ziK (zm G_all_hold (hr.mono ⋯) Y.all_hold.mg Y.all_hold.kp Y.all_hold.bd (.cons (a:=V.non) rfl .nil) zk (za (qv 3) (za (qv 1) (za (qv 2) zd))))) (zj (zv (qv 4))) z7)))
   (zj (zv zf))),?_⟩
  refine⟨_,rfl,_,rfl,pw,_,0,_,rfl,rfl, .inl (.inl hpw),at0,v,x,g,hs,ps,lks,hds,j,rfl,hv,T,hj,λvr d hd rd=>?_⟩
  rw[hlj] at hd
  cases hd
  obtain⟨pq,us,rfl,hpq,ru,_⟩:=rd.ofT
  refine⟨pq,rfl,⟨_, .inl (.inl hpq)⟩,?_⟩
  refine zaX (zbs (K:=K) (xs:=us)) (λi σ' H'=>(∃o3 o4,σ'=[some v,some (.ref pw),some (.ref pm),o3,o4])/\zH (x::ws) ms rs=zH (x::ws) ms (rs.drop i)/\Same H H') ⟨⟨_,_,rfl⟩,rfl,Same.refl _⟩ (λi σ' H' z=> .inl (.inl (z.2.2 _ _ hpq))) ?_ ?_
  ·rintro i y σ' H1 hi hy ⟨⟨o3,o4,rfl⟩,hw,s1⟩
   obtain⟨r,hr',rr⟩:=ru.get hy
   obtain⟨cs,t,rfl,c4,hcs,ht⟩:=zhk (hlk.2 r (W0 hr'))
   obtain⟨q0,v0,v1,rfl,hq0,r0,r1⟩:=(rr.same s1).of2
   refine⟨q0,_,rfl, .inl (.inl hq0),rfl,_,_,rfl,_,_,rfl,rfl,?_⟩
   refine⟨_,rfl,_,rfl,_,rfl,v0,cs,pw,pm, .non,x::ws,ms,none,rfl,r0,hcs,s1 _ _ hpw,s1 _ _ hpm, .inl ⟨rfl,rfl⟩,nw,nm,`j2,by simp;lia,lm,λH2 s2=>⟨_,rfl,?_⟩⟩
   rw[zkQ hr',zH] at hw
   have er:zeY (x::ws) ms none (zho (.tup [.tup cs,t]))=zeY (x::ws) ms none cs:=rfl
   rw[er] at hw
   cases hb:zeY (x::ws) ms none cs with
   |true=>
    rw[hb,T0 rfl] at hw
    exact zbE rfl ⟨_,rfl,q _ H2 (by rw[hw];exact r1.same s2) (s1.trans s2)⟩
   |false=>
    rw[hb,N0 ⋯] at hw
    exact zbo rfl ⟨⟨_,_,rfl⟩,hw,s1.trans s2⟩
  ·rintro σ' H1 ⟨⟨o3,o4,rfl⟩,hw,s1⟩
   rw[ru.1,List.drop_length,zH] at hw
   exact q _ H1 (by rw[hw];exact .int 0) s1
theorem zjA(Y:Ev K mg):FnOk P w K mg base CX0 1 Y.a_hands_of Y.d_hands_of zcF zsl:=by
 refine Y.hands_of.fn.okQ zj2 (λvs H Q E h=>?_) `Y2
 ·obtain ⟨v,x,g,hs,ps,lks,hds,j,rfl,_⟩:=h;rfl
 ·obtain ⟨v,x,g,hs,ps,lks,hds,j,rfl,hv,T,hj,q⟩:=h
  obtain⟨p,pr,pt,pl,pa,vt,vl,va,rfl,hp,hpr,hpt,rt,hpl,rl,hpa,ra⟩:=zeA hv
  have hjl:j<hs.length:=by
   rcases U1 j hs.length with y|y
   ·exact y
   ·rw[Q0 y] at hj;cases hj
  have hjk:j<hds.length:=by rw[T.lh];exact hjl
  have hjv:j<va.length:=by rw[ra.1];exact hjk
  refine⟨_,(zj (zv (zS zG (zS zG (qv 0) zf) (zfs F.plainAttrs_tuple F.slot_tuple_index F.type_tuple_index zhu (zS zG (qv 0) zf) (za (qv 1) zd))))),?_⟩
  refine⟨_,rfl,p,_,4,_,rfl,rfl, .inl (.inl hp),zF (j:=4) rfl,?_⟩
  refine⟨_,rfl,p,_,1,_,rfl,rfl, .inl (.inl hp),zF (j:=1) rfl,?_⟩
  refine⟨.inr (.inr (.inr (.inr ⟨rfl,_,hpr⟩))),_,rfl,pr,hs,x,j,rfl,rfl, .inl (.inl hpr),hj,zi1 T.hs_nd hj,?_⟩
  exact⟨pa,_,_,va[j],rfl,rfl, .inl (.inl hpa),zF (by simp[hjv]),q _ hds[j] (G0 hjk) (ra.2 j _ _ (G0 hjv) (G0 hjk))⟩
theorem zfq(Y:Ev K mg):FnOk P w K mg base CX0 1 Y.a_marks_behind Y.d_marks_behind zaT zhf:=by
 refine Y.marks_behind.fn.okQ zaQ (λvs H Q E h=>?_) `Y2
 ·obtain ⟨pm,v,t,w',m,rfl,_⟩:=h;rfl
 ·obtain ⟨pm,v,t,w',m,rfl,hpm,hv,tn,mn,l13,q⟩:=h
  obtain⟨pa,v0,v1,rfl,hpa,r0,r1⟩:=hv.of2
  cases r0 with|str _ _=>
  cases r1 with|str _ _=>
  refine⟨_,(zg (zcC (qv 1) (zc3 2 rfl (zt (zp 2 zaQ.nd) (zt (zkO 3 zaQ.nd) zaE))))
   (zg (ze0 4 (src:=[none,some 3]) zct rfl rfl zaQ.nd (zc1 (qv 0)) (λ_ _ _ _ _=>(zp 0 zct.nd)) (λ_ _ _ _ _=>(zn6 (zQ znL (qv 0) (qc 1)))) (λ_ _ _ _ _=>(qv 0)))
   (zg (zaw (zQ zav (qv 2) zbk) (zj (zaV (zfs K2 F.slot_list_append F.type_list_append za2 (qv 4) (za (qc 3) zd)))) z7)
   (zj (zv (zZ zW Y.tuple zbg (za (zz zel Y.sorted zdH (za (qv 4) zd)) zd))))))),?_⟩
  refine⟨_,rfl,pa,_,rfl, .inl (.inl hpa),rfl,_,_,rfl,_,_,rfl,rfl,?_⟩
  refine⟨_,rfl,pm,rfl,⟨_, .inl (.inl hpm)⟩,?_⟩
  refine zoT (g:=neD m) (f:=λd=>d) (σr:=[some (.str m)]) (zbs (K:=K)) (λH' s'=> .inl (.inl (s' _ _ hpm))) (znc λy hy=>zas (tn y hy)) (by rw[D0];lia) rfl ?_ (λx d HA sA rx hd=>zoJ rfl rx) λl1 us H1 s1 hl1 e1 r1=>?_
  ·intro z d HA Q1 sA rz hd q1
   obtain⟨b,_,rfl⟩:=V1.mp hd
   cases rz with|str _ _=>
   refine⟨_,rfl,_,rfl,rfl,_,rfl,?_⟩
   rw[zcx]
   exact q1 HA (Same.refl _)
  rw[zrN] at r1
  have eus:=zlK r1
  subst eus
  have lf:=List.length_filter_le (λx=>!decide (x=m)) t
  dsimp only[zb7]
  have fin:∀(H2:Hp),H2 l1=some (.lst ((zat t w' m).map V.str))->Same H H2->∀(ss:List Str) (l2:Addr),ss.Perm (zat t w' m)->sortedS ss=true->H2 l2=none->∃p ys,[V.ref l2]=[.ref p]/\((SqL K (upd H2 l2 (.lst (ss.map V.str))) p ys/\∀l,upd H2 l2 (.lst (ss.map V.str)) l=none->Q (.ref l) (upd (upd H2 l2 (.lst (ss.map V.str))) l (.tup ys)))\/(SqT K (upd H2 l2 (.lst (ss.map V.str))) p ys/\Q (.ref p) (upd H2 l2 (.lst (ss.map V.str))))):=λH2 e2 s2 ss l2 hp2 hs2 hl2=>⟨l2,_,rfl, .inl ⟨SqL.of zb,λp hp=>by
   have es:=zpa hp2 hs2
   subst es
   exact q p _ zb ((s2.trans (Same.new hl2)).trans (Same.new hp))⟩⟩
  refine⟨_,rfl,rfl,_,rfl,zcZ (λe=>?_) (λe=>?_)⟩
  ·have ew:=V.str.inj (U0 e)
   have eb:zat t w' m=t.filter (λx=>!decide (x=m))++ [m]:=by unfold zat;rw[T0 ew]
   refine⟨_,rfl, .inl ⟨rfl,_,SqL.of e1⟩,_,rfl,l1,_,_,rfl,rfl,e1,zn (by rw[D0];lia),?_⟩
   have e2:(upd H1 l1 (.lst ((t.filter λx=>!decide (x=m)).map V.str ++ [V.str m]))) l1=some (.lst ((zat t w' m).map V.str)):=by rw[zb,eb,E2];rfl
   have s2:Same H (upd H1 l1 (.lst ((t.filter λx=>!decide (x=m)).map V.str ++ [V.str m]))):=λc o z=>by rw[zc (zh z hl1)];exact s1 _ _ z
   generalize (upd H1 l1 (HO.lst ((t.filter λx=>!decide (x=m)).map V.str ++ [V.str m])))=H2 at *
   exact⟨_,rfl,l1,zat t w' m,rfl, .inl (SqL.of e2),by rw[eb,o0,List.length_singleton];lia,fin H2 e2 s2⟩
  ·have ew:¬w'="put":=λz=>e (V0 (by rw[z]))
   have eb:zat t w' m=t.filter (λx=>!decide (x=m)):=by unfold zat;rw[N0 ew,List.append_nil]
   have e2:H1 l1=some (.lst ((zat t w' m).map V.str)):=by rw[eb];exact e1
   exact⟨_,rfl,l1,zat t w' m,rfl, .inl (SqL.of e2),by rw[eb];lia,fin H1 e2 s1⟩
theorem zkd(Y:Ev K mg):FnOk P w K mg base CX0 5 Y.a_handed Y.d_handed zev zhc:=by
 have G_all_hold:FnOk P w K mg base CX0 4 Y.a_all_hold Y.d_all_hold zb0 zjM:=zfb Y
 have G_hands_of:FnOk P w K mg base CX0 1 Y.a_hands_of Y.d_hands_of zcF zsl:=zjA Y
 have G_marks_behind:FnOk P w K mg base CX0 1 Y.a_marks_behind Y.d_marks_behind zaT zhf:=zfq Y
 refine Y.handed.fn.okQ zdt (λvs H Q E h=>?_) `Y2
 ·obtain ⟨v,pw,pm,vt,x,ws,ms,to,g,hs,ps,lks,hds,j,rs,Pr,rfl,_⟩:=h;rfl
 ·obtain ⟨v,pw,pm,vt,x,ws,ms,to,g,hs,ps,lks,hds,j,rs,Pr,rfl,hv,T,hj,hdj,HO',MS,M0,hpw,hpm,hto,nw,lw,q⟩:=h
  refine⟨_,(zg (zy 4 zdt.nd (qv 2))
   (zg (zb9 PassesOwn.never rfl (zc1 (zm G_hands_of (hr.mono ⋯) Y.hands_of.mg Y.hands_of.kp Y.hands_of.b .nil zk (za (qv 0) (za (zS zG (qv 1) zf) zd)))) (zc3 2 rfl (zt (zp 5 zdt.nd) (zt (zp 6 zdt.nd) zaE))) (zg (zaw (zjt (ziK (zm G_all_hold (hr.mono ⋯) Y.all_hold.mg Y.all_hold.kp Y.all_hold.b .nil zk (za (qv 5) (za (qv 1) (za (qv 4) (za (qv 3) zd))))))) (zj znY) z7)
   (zg (zaw (zQ zav (zS zG (qv 6) zf) zbk) (zj (zv zdN)) z7)
   (zj (zy 4 zdt.nd (zm G_marks_behind (hr.mono ⋯) Y.marks_behind.mg Y.marks_behind.kp Y.marks_behind.b .nil zk (za (qv 4) (za (qv 6) zd))))))))
   (zj (zv (qv 4))))),?_⟩
  refine⟨_,rfl,?_⟩
  refine⟨_,rfl,_,rfl,pw,_,0,_,rfl,rfl, .inl (.inl hpw),at0,v,x,g,hs,ps,lks,hds,j,rfl,hv,T,hj,λvr d hd rd=>?_⟩
  rw[hdj] at hd
  cases hd
  obtain⟨pq,us,rfl,hpq,ru,_⟩:=rd.ofT
  refine⟨pq,rfl,⟨_, .inl (.inl hpq)⟩,?_⟩
  refine zaX (zbs (K:=K) (xs:=us)) (λi σ' H'=>(∃pt t o5 o6,σ'=[some v,some (.ref pw),some (.ref pm),some vt,some (.ref pt),o5,o6]/\H' pt=some (.tup (t.map V.str))/\Pr i t/\zD (x::ws) to rs ms=zD (x::ws) to (rs.drop i) t)/\Same H H') ⟨⟨pm,ms,_,_,rfl,hpm,M0,rfl⟩,Same.refl _⟩ (λi σ' H' z=> .inl (.inl (z.2 _ _ hpq))) ?_ ?_
  ·rintro i y σ' H1 hi hy ⟨⟨pt,t,o5,o6,rfl,hpt,Mt,he⟩,s1⟩
   obtain⟨r,hr',rr⟩:=ru.get hy
   obtain⟨cs,xa,rfl,hcs,hx⟩:=HO'.2 r (W0 hr')
   obtain⟨q0,v0,v1,rfl,hq0,r0,r1⟩:=(rr.same s1).of2
   have lu:=ru.1
   obtain⟨tn,tl⟩:=MS.ok i t () Mt
   refine⟨q0,_,rfl, .inl (.inl hq0),rfl,_,_,rfl,_,_,rfl,rfl,?_⟩
   refine⟨_,rfl,_,rfl,_,rfl,_,rfl,v0,cs,pw,pt,vt,x::ws,t,to,rfl,r0,hcs,s1 _ _ hpw,hpt,hto,nw,tn,`j2,by simp;lia,K1 tl ⋯,λH2 s2=>⟨_,rfl,?_⟩⟩
   rw[zkQ hr',zD] at he
   have er:zeY (x::ws) t to (zho (.tup [.tup cs,xa]))=zeY (x::ws) t to cs:=rfl
   have et:zna (.tup [.tup cs,xa])=xa:=rfl
   rw[er,et] at he
   cases hb:zeY (x::ws) t to cs with
   |false=>
    rw[hb,N0 ⋯] at he
    exact zbE rfl ⟨⟨pt,t,_,_,rfl,s2 _ _ hpt,MS.skip i t Mt,he⟩,s1.trans s2⟩
   |true=>
    rw[hb,T0 rfl] at he
    refine zbo rfl ?_
    rcases hx with rfl|⟨w1,m1,rfl,hw1,hm1⟩
    ·obtain ⟨pa,ua,rfl,hpa,ra',_⟩:=(r1.same s2).ofT
     have la:ua.length=1:=ra'.1
     obtain⟨u0,rfl⟩:∃u0,ua=[u0]:=by
      match ua,la with
      |[u0],_=>exact ⟨u0,rfl⟩
     have h0:=ra'.head.1
     cases h0 with|str _ _=>
     refine⟨_,rfl,pa,_,0,_,rfl,rfl, .inl (.inl hpa),at0,rfl,_,rfl,zbE (by rw[V0 rfl]) ?_⟩
     exact q .non H2 (by rw[he];rfl) (s1.trans s2)
    ·obtain ⟨pa,z0,z1,rfl,hpa,rz0,rz1⟩:=(r1.same s2).of2
     cases rz0 with|str _ _=>
     have nk:decide (V.str w1=V.str "keep")=false:=by
      rw[zcx]
      rcases hw1 with rfl|rfl<;>decide +kernel
     refine⟨_,rfl,pa,_,0,_,rfl,rfl, .inl (.inl hpa),at0,rfl,_,rfl,zbo nk ?_⟩
     refine⟨_,rfl,_,rfl,pt, .ref pa,t,w1,m1,rfl,s2 _ _ hpt,r1.same s2,tn,hm1,tl,λp3 H3 e3 s3=>?_⟩
     exact⟨⟨p3,_,_,_,rfl,e3,MS.next i t w1 m1 cs Mt hr',he⟩,(s1.trans s2).trans s3⟩
  ·rintro σ' H1 ⟨⟨pt,t,o5,o6,rfl,hpt,Mt,he⟩,s1⟩
   rw[ru.1,List.drop_length,zD] at he
   exact⟨_,rfl,q _ H1 (by rw[he];exact⟨pt,rfl,hpt⟩) s1⟩
noncomputable def znj:Sp:=λvs H Q _=>∃(v:V) (x:Str) (g:Str) (hs:List Str) (ps:List (Str×Str)) (lks hds:List D),vs=[v, .str x]/\Rep H v (zal g hs ps lks hds)/\TownOk g hs ps lks hds/\∀(l:Addr) (ts:List Str) (H':Hp),H l=none->H' l=some (.lst (ts.map V.str))->ts.Perm (zfp ps x)->sortedS ts=true->Same H H'->Q (.ref l) H'
theorem zpj(Y:Ev K mg):FnOk P w K mg base CX0 1 Y.a_tied Y.d_tied zh2 znj:=by
 refine Y.tied.fn.okQ zn5 (λvs H Q E h=>?_) `Y2
 ·obtain ⟨v,x,g,hs,ps,lks,hds,rfl,_⟩:=h;rfl
 ·obtain ⟨v,x,g,hs,ps,lks,hds,rfl,hv,T,q⟩:=h
  obtain⟨p,pr,pt,pl,pa,vt,vl,va,rfl,hp,hpr,hpt,rt,hpl,rl,hpa,ra⟩:=zeA hv
  have TP:=T.lp
  refine⟨_,(zg (zy 2 zn5.nd (zS zG (qv 0) zf))
   (zj (zv (zz zel Y.sorted zdH (za (zC zkr (zcQ (src:=[none,none,some 1]) zgh rfl rfl (zc1 (qv 2)) (λ_ _ _ _ _=>(zh7 (K:=K) 2 rfl rfl (zt (zp 0 zgh.nd) (zt (zp 1 zgh.nd) zaE)))) (λ_ _ _ _ _=>(zn6 (zQ zav (qv 1) (qc 2)))) (λ_ _ _ _ _=>(qv 0))) (zcQ (src:=[none,none,some 1]) zgy rfl rfl (zc1 (qv 2)) (λ_ _ _ _ _=>(zh7 (K:=K) 2 rfl rfl (zt (zp 0 zgy.nd) (zt (zp 1 zgy.nd) zaE)))) (λ_ _ _ _ _=>(zn6 (zQ zav (qv 0) (qc 2)))) (λ_ _ _ _ _=>(qv 1)))) zd))))),?_⟩
  refine⟨_,rfl,p,_,2,_,rfl,rfl, .inl (.inl hp),zF (j:=2) rfl,?_⟩
  refine⟨_,rfl,pt,rfl,⟨_, .inl (.inl hpt)⟩,?_⟩
  refine zjD (ps:=ps) (sel:=λp=>decide (p.2=x)) (f:=(·.1)) (λσ'=>∃o1 o2,σ'=[o1,o2,some (.str x)]) (zbs (K:=K)) (λH' s'=> .inl (.inl (s' _ _ hpt))) rt () ⟨_,_,rfl⟩ ?_ λl1 H1 s1 hl1 e1=>?_
  ·rintro q p σ' H1 A B ⟨o1,o2,rfl⟩ s1 hq hp1 k
   refine⟨q,_,rfl, .inl (.inl hq),rfl,_,_,rfl,_,_,rfl,rfl,_,rfl,_,rfl,rfl,_,rfl,?_⟩
   have k:=k [some (.str p.1),some (.str p.2),some (.str x)] ⟨_,_,rfl⟩
   rw[zcx]
   cases e:decide (p.2=x)with
   |false=>rw[e] at k;exact k
   |true=>rw[e] at k;exact⟨_,rfl,k⟩
  refine⟨_,rfl,pt,rfl,⟨_, .inl (.inl (s1 _ _ hpt))⟩,?_⟩
  refine zjD (ps:=ps) (sel:=λp=>decide (p.1=x)) (f:=(·.2)) (λσ'=>∃o1 o2,σ'=[o1,o2,some (.str x)]) (zbs (K:=K)) (λH' s'=> .inl (.inl (s' _ _ (s1 _ _ hpt)))) (rt.mono (.of s1)) () ⟨_,_,rfl⟩ ?_ λl2 H2 s2 hl2 e2=>?_
  ·rintro q p σ' H1 A B ⟨o1,o2,rfl⟩ s1 hq hp1 k
   refine⟨q,_,rfl, .inl (.inl hq),rfl,_,_,rfl,_,_,rfl,rfl,_,rfl,_,rfl,rfl,_,rfl,?_⟩
   have k:=k [some (.str p.1),some (.str p.2),some (.str x)] ⟨_,_,rfl⟩
   rw[zcx]
   cases e:decide (p.1=x)with
   |false=>rw[e] at k;exact k
   |true=>rw[e] at k;exact⟨_,rfl,k⟩
  have nl:=zjc T x
  have nl':((ps.filter λp=>decide (p.2=x)).map (·.1)).length+((ps.filter λp=>decide (p.1=x)).map (·.2)).length<=10:=by rw[←o0];exact nl
  refine⟨l1,l2,_,_,rfl,rfl,s2 _ _ e1,e2,W2 (zn (by simp only[D0] at nl'⊢;lia)),λl3 hl3=>?_⟩
  rw[←E2]
  have S3:=Same.new (o:= .lst ((zfp ps x).map V.str)) hl3
  refine⟨l3,zfp ps x,rfl, .inl (SqL.of zb),(),λts l4 hp4 hs4 hl4=>q l4 ts _ ?_ zb hp4 hs4 (((s1.trans s2).trans S3).trans (Same.new hl4))⟩
  exact zhA ((s1.trans s2).trans S3) hl4
noncomputable def zle(K:W.Frag):Sp:=λvs H Q _=>∃(b:Addr) (ns:List Int),vs=[.ref b]/\SqL K H b (ns.map V.int)/\ns.length<=63/\∀a H',H a=none->Hand H' a 0->Same H H'->Q (.ref a) H'
theorem zik{x:Int}{n:Nat}(h0:0<=x)(h1:x<2^n)(hn:n<=20000):Builtin.Int.intBits x<=2^20:=by
 unfold Builtin.Int.intBits
 split
 ·exact T1 _
 ·rename_i hz
  have hz:x≠0:=by simpa using hz
  have:x.natAbs<2^n:=by
   have e:((2^n:Nat):Int)=(2:Int)^n:=by push_cast;rfl
   lia
  have h2:x.natAbs.log2<n:=(Nat.log2_lt ()).mpr this
  have h3:(20000:Nat)<=2^20:=⋯
  lia
theorem zj3{a b:Int}{p q:Nat}(h0:0<=a)(h1:a<2^p)(h2:0<b)(h3:b<2^q):a*b<2^(p+q):=by
 have e1:a*b<2^p*b:=Int.mul_lt_mul_of_pos_right h1 h2
 have e2:(2:Int)^p*b<=2^p*2^q:=Int.mul_le_mul_of_nonneg_left (Int.le_of_lt h3) (zj0 p)
 have e3:(2:Int)^(p+q)=2^p*2^q:=Int.pow_add 2 p q
 rw[e3];exact Int.lt_of_lt_of_le e1 e2
theorem znI(Y:Ev K mg):FnOk P w K mg base CX0 2 Y.a__law_all Y.d__law_all zcX (zle K):=by
 have G__law_hand:FnOk P w K mg base CX0 1 Y.a__law_hand Y.d__law_hand zcd (zom K):=zo2 Y
 refine Y._law_all.fn.okQ zau (λvs H Q E h=>?_) `Y2
 ·obtain ⟨b,ns,rfl,_⟩:=h;rfl
 ·obtain ⟨b,ns,rfl,hS,hns,q⟩:=h
  refine⟨_,(zg (zy 1 zau.nd (zm G__law_hand (hr.mono ⋯) Y._law_hand.mg Y._law_hand.kp Y._law_hand.b .nil zk (za (qv 0) (za zf zd))))
   (zg (zy 2 zau.nd (zC zbq (zS zU (qv 1) zf) (zC zgr zf zf)))
   (zg (zy 3 zau.nd (zC zgr zf zf))
   (zg (zb9 PassesOwn.never rfl (zoA Y.range (za zf (za (zz (ze8 rfl) Y.min zeO (za (zz z9 Y.len zbr (za (qv 0) zd)) (za zf zd))) zd))) (zp 4 zau.nd) (zg (zy 5 zau.nd (zm G__law_hand (hr.mono ⋯) Y._law_hand.mg Y._law_hand.kp Y._law_hand.b .nil zk (za (qv 0) (za (qv 4) zd))))
   (zg (zy 2 zau.nd (zC z8 (qv 2) (zC zlt (zC zbq (zS zU (qv 5) zf) (zC zgr zf zf)) (qv 3))))
   (zg (zy 3 zau.nd (zC zlt (qv 3) (zC zgr zf zf)))
   (zj (zcC (zC zbq (zC z8 (zC za0 (zS zU (qv 1) zf) zf) (zS zU (qv 5) zf)) zf) (ziz (qv 1) zf zc8)))))))
   (zfg (zaw (zQ zli (zS zU (qv 1) zf) zf) (zj (zcC (qv 2) (ziz (qv 1) zf zc8))) z7)
   (zj (zv (qv 1)))))))),?_⟩
  have cp:zsc 10 60:=⟨⋯,⋯,⋯⟩
  have p60:(10:Int)^(60:Int).toNat<2^200:=`Z2
  have p0:(0:Int)<(10:Int)^(60:Int).toNat:=`Z2
  refine⟨_,rfl,b,ns,0,rfl,hS,⋯,⋯,λa H1 ha hH1 s1=>?_⟩
  obtain⟨x,m,t,h1,m0,m1,t0,t1⟩:=hH1
  refine⟨_,rfl,a,_,0,_,rfl,rfl,SqL.of h1,at0,_,_,rfl,rfl,cp,_,_,rfl,rfl,p0,?_⟩
  refine⟨_,_,rfl,rfl,cp,?_⟩
  refine⟨_,rfl, .inl ⟨b,_,rfl, .inl (s1.seq hS),_,_,rfl,1,_,rfl,⟨⋯,⋯,by split<;>lia,by split<;>lia⟩,?_⟩⟩
  refine zaX zcO (λi σ' H'=>∃(o4 o5:Option V) (dg far m:Int),σ'=[some (.ref b),some (.ref a),some (.int dg),some (.int far),o4,o5]/\0<=far/\far<2^(200*(i+1))/\H' a=some (.lst [.int x, .int m, .int t])/\0<=m/\m<2^63/\Same H H') ?_ (λ_ _ _ _=>trivial) ?_ ?_
  ·exact ⟨_,_,_,_,m,rfl,Int.le_of_lt p0,p60,h1,m0,m1,s1⟩
  ·rintro i y σ' H2 hi rfl ⟨o4,o5,dg,far,m,rfl,f0,f1,h2,m0,m1,s2⟩
   have hi63:i<63:=by
    refine P1 hi ?_
    rw[D0]
    split<;>lia
   refine⟨_,rfl,_,rfl,b,ns,_,rfl,s2.seq hS,(),(),λa2 H3 ha2 hH3 s3=>?_⟩
   obtain⟨x3,m3,t3,h3,n0,n1,_,_⟩:=hH3
   have h2':=s3 _ _ h2
   have b1:Builtin.Int.intBits (x3%(10:Int)^(60:Int).toNat)<=2^20:=zik (n:=200) (Int.emod_nonneg _ (Int.ne_of_gt p0)) (Int.lt_trans (Int.emod_lt_of_pos _ p0) p60) ⋯
   have b2:Builtin.Int.intBits far<=2^20:=zik f0 f1 ()
   have b3:Builtin.Int.intBits ((10:Int)^(60:Int).toNat)<=2^20:=zik (n:=200) (Int.le_of_lt p0) p60 ⋯
   refine⟨_,rfl,_,rfl,a2,_,0,_,rfl,rfl,SqL.of h3,at0,_,_,rfl,rfl,cp,_,_,rfl,rfl,p0,_,rfl,_,_,rfl,rfl,⟨b1,b2⟩,_,_,rfl,rfl,?_⟩
   refine⟨_,rfl,_,_,rfl,rfl,cp,_,_,rfl,rfl,⟨b2,b3⟩,?_⟩
   refine⟨_,rfl,a,_,1,_,rfl,rfl,SqL.of h2',at1,_,_,rfl,rfl, .inl ⟨(),()⟩,_,rfl,a2,_,1,_,rfl,rfl,SqL.of h3,at1,_,_,rfl,rfl,_,_,rfl,rfl,(by decide:(0:Int)<2305843009213693951),?_⟩
   refine⟨_,rfl,a,_,1,1,rfl,rfl,h2',rfl,?_⟩
   refine⟨_,_,_,_,_,rfl,Int.mul_nonneg f0 (Int.le_of_lt p0),?_,zb,Int.emod_nonneg _ ⋯,?_,?_⟩
   ·have:=zj3 f0 f1 p0 p60
    rw[show 200*(i+1+1)=200*(i+1)+200 by lia]
    exact this
   ·have:=Int.emod_lt_of_pos (m*48271+m3) (by decide:(0:Int)<2305843009213693951)
    exact Int.lt_trans this ⋯
   ·exact λc o e=>by rw[zc (zh e ha)];exact s3 _ _ (s2 _ _ e)
  ·rintro σ' H2 ⟨o4,o5,dg,far,m,rfl,f0,f1,h2,m0,m1,s2⟩
   refine⟨λσ' H'=>∃(o2 o3 o4 o5:Option V),σ'=[some (.ref b),some (.ref a),o2,o3,o4,o5]/\Hand H' a 0/\Same H H',?_,?_⟩
   ·refine ⟨_,rfl,a,_,0,_,rfl,rfl,SqL.of h2,at0,_,_,rfl,rfl,_,rfl,zcZ (λ_=>?_) (λ_=>?_)⟩
    ·refine ⟨_,rfl,_,rfl,a,_,0,0,rfl,rfl,h2,rfl,_,_,_,_,rfl,⟨_,m,t,zb,m0,m1,t0,t1⟩,?_⟩
     exact λc o e=>by rw[zc (zh e ha)];exact s2 _ _ e
    ·exact ⟨_,_,_,_,rfl,⟨x,m,t,h2,m0,m1,t0,t1⟩,s2⟩
   ·rintro σ' H3 ⟨o2,o3,o4,o5,rfl,hH3,s3⟩
    exact⟨_,rfl,q a H3 ha hH3 s3⟩
theorem zsO{k:Nat}(r:Room k A):A.units+70<cLine:=by have:=r.un;lia
theorem zmy{a b c:V}:atI [a,b,c] (-1)=some c:=rfl
theorem zgQ(Y:Ev K mg):FnOk P w K mg base CX0 6 Y.a_liking_key Y.d_liking_key zbD zqr:=by
 have G_worth:FnOk P w K mg base CX0 5 Y.a_worth Y.d_worth zen zhN:=zjC Y
 refine Y.liking_key.fn.okQ zij (λvs H Q E h=>?_) `Y2
 ·obtain ⟨v,pw,pm,x,ws,ms,g,hs,ps,lks,hds,j,rs,i,rfl,_⟩:=h;rfl
 ·obtain ⟨v,pw,pm,x,ws,ms,g,hs,ps,lks,hds,j,rs,i,rfl,hv,T,hj,hlj,hpw,hpm,nw,nm,lw,lm,hi,q⟩:=h
  refine⟨_,(zj (zv (zK (za (zo8 zhC (zm G_worth (hr.mono ⋯) Y.worth.mg Y.worth.kp Y.worth.b .nil zk (za (qv 0) (za (qv 1) (za (qv 2) zd))))) (za (zz z9 Y.len zbr (za (qv 1) zd)) (za (qv 1) zd)))))),?_⟩
  refine⟨_,rfl,_,rfl,_,rfl,v,pw,pm,x,ws,ms,g,hs,ps,lks,hds,j,rs,rfl,hv,T,hj,hlj,hpw,hpm,nw,nm,lw,lm,λu H1 ru s1=>?_⟩
  rw[hi] at ru
  cases ru with|int _=>
  refine⟨_,rfl,_,rfl, .inl ⟨pw,_,rfl, .inr (.inl (.inl (s1 _ _ hpw))),_,rfl,few rfl,λpk hpk=>?_⟩⟩
  have S:=Same.new (o:= .tup [V.int (-i), .int (((x::ws).map V.str).length:Int), .ref pw]) hpk
  refine q _ _ ⟨pk,pw,rfl,?_,S _ _ (s1 _ _ hpw),λy hy=>zaD (nw y hy)⟩ (s1.trans S)
  rw[zb,D0]
def PairO(H:Hp)(b:Addr)(e:WM):Prop:=∃pw pm,H b=some (.tup [.ref pw, .ref pm])/\H pw=some (.tup (e.1.map V.str))/\H pm=some (.tup (e.2.map V.str))
structure EOk(x:Str)(rs:List D)(e:WM):Prop where
 hd:∃ws,e.1=x::ws
 nw:∀y∈e.1,zi y=true
 nm:∀y∈e.2,zi y=true
 lw:e.1.length<=80
 lm:e.2.length<=100
 wt:zH e.1 e.2 rs= .int (wI rs e)
theorem AtG.mono{Oa:Hp->Addr->α->Prop}{ps:List α}(h:AtG Oa H vs ps)(m:∀b p,Oa H b p->Oa H' b p):AtG Oa H' vs ps:=
 ⟨h.1,λi v p e1 e2=>let ⟨b,e,o⟩:=h.2 i v p e1 e2;⟨b,e,m b p o⟩⟩
theorem AtG.snoc{Oa:Hp->Addr->α->Prop}{ps:List α}{b:Addr}{p:α}(h:AtG Oa H vs ps)(o:Oa H b p):AtG Oa H (vs ++ [.ref b]) (ps ++ [p]):=by
 refine⟨by rw[o0,o0,h.1];rfl,λi v q e1 e2=>?_⟩
 rcases U1 i vs.length with z|z
 ·rw[P2 z] at e1
  rw[P2 (by rw[←h.1];exact z)] at e2
  exact h.2 i v q e1 e2
 ·rw[J2 z] at e1
  rw[J2 (by rw[←h.1];exact z),←h.1] at e2
  cases hk:i -vs.length with
  |zero=>rw[hk] at e1 e2;cases e1;cases e2;exact⟨b,rfl,o⟩
  |succ n=>rw[hk] at e1;cases e1
def WmAt(H:Hp)(x y:V):Option WM->Prop
 |none=>x= .non/\∃e,y= .ref e/\H e=some (.tup [])
 |some (w,ms)=>∃pw pm,x= .ref pw/\y= .ref pm/\H pw=some (.tup (w.map V.str))/\H pm=some (.tup (ms.map V.str))
theorem WmAt.mono{x:V}{b:Option WM}(h:WmAt H x y b)(m:∀c xs,H c=some (.tup xs)->H' c=some (.tup xs)):WmAt H' x y b:=by
 match b,h with
 |none,⟨h1,e,h2,h3⟩=>exact ⟨h1,e,h2,m _ _ h3⟩
 |some (w,ms),⟨pw,pm,h1,h2,h3,h4⟩=>exact ⟨pw,pm,h1,h2,m _ _ h3,m _ _ h4⟩
def GoR(H:Hp)(g:Addr)(b:Option WM):Prop:=∃x y,H g=some (.tup [x,y])/\WmAt H x y b
theorem GoR.mono{g:Addr}{b:Option WM}(h:GoR H g b)(m:∀c xs,H c=some (.tup xs)->H' c=some (.tup xs)):GoR H' g b:=let⟨x,y,e,w⟩:=h;⟨x,y,m _ _ e,w.mono m⟩
theorem AtG.addrs{Oa:Hp->Addr->α->Prop}{ps:List α}(h:AtG Oa H vs ps):∃bs:List Addr,vs=bs.map V.ref/\bs.length=ps.length/\∀(i:Nat) (b:Addr) (p:α),bs[i]?=some b->ps[i]?=some p->Oa H b p:=by
 obtain⟨hl,h⟩:=h
 induction vs generalizing ps with
 |nil=>exact ⟨[],rfl,hl,λi b p e=>by cases e⟩
 |cons v vs ih=>
  cases ps with
  |nil=>cases hl
  |cons p ps=>
   obtain⟨b,rfl,o⟩:=h 0 v p rfl rfl
   obtain⟨bs,rfl,l,r⟩:=ih (by simpa using hl) λi v p e1 e2=>h (i+1) v p e1 e2
   refine⟨b::bs,rfl,by rw[J1,J1,l],λi b' p' e1 e2=>?_⟩
   cases i with
   |zero=>cases e1;cases e2;exact o
   |succ i=>exact r i b' p' e1 e2
def KmM(rs:List D)(H:Hp)(b:Addr)(e:WM):Prop:=∃t pm,H b=some (.tup [.ref t, .ref pm])/\KeyO H t (kE rs e)/\H pm=some (.tup (e.2.map V.str))
noncomputable def zrT:Sp:=λvs H Q _=>∃(v:V) (l:Addr) (us:List V) (es:List WM) (x:Str) (g:Str) (hs:List Str) (ps:List (Str×Str)) (lks hds:List D) (j:Nat) (rs:List D),vs=[v, .ref l]/\Rep H v (zal g hs ps lks hds)/\TownOk g hs ps lks hds/\hs[j]?=some x/\lks[j]?=some (.tup rs)/\H l=some (.lst us)/\AtG PairO H us es/\es.length<64/\(es.map (·.1)).Nodup/\(∀e∈es,EOk x rs e)/\
 ∀(q:Addr) (b:Option WM) (H':Hp),zey rs es b->GoR H' q b->Same H H'->Q (.ref q) H'
theorem zgL(Y:Ev K mg):FnOk P w K mg base CX0 7 Y.a_most_liked Y.d_most_liked zbN zrT:=by
 have G_liking_key:FnOk P w K mg base CX0 6 Y.a_liking_key Y.d_liking_key zbD zqr:=zgQ Y
 refine Y.most_liked.fn.okQ zbz (λvs H Q E h=>?_) `Y2
 ·obtain ⟨v,l,us,es,x,g,hs,ps,lks,hds,j,rs,rfl,_⟩:=h;rfl
 ·obtain ⟨v,l,us,es,x,g,hs,ps,lks,hds,j,rs,rfl,hv,T,hj,hlj,hl,at1,h64,nde,eok,q⟩:=h
  have lu:us.length=es.length:=at1.1
  refine⟨_,(zg (ze0 2 (src:=[none,none,some 0]) zbR rfl rfl zbz.nd (zhF (qv 1)) (λ_ _ _ _ _=>(zh7 (K:=K) 2 rfl rfl (zt (zp 0 zbR.nd) (zt (zp 1 zbR.nd) zaE)))) (λ_ _ _ _ _=>zc5) (λ_ _ _ _ _=>(zK (za (zm G_liking_key (hr.mono ⋯) Y.liking_key.mg Y.liking_key.kp Y.liking_key.b .nil zk (za (qc 2) (za (qv 0) (za (qv 1) zd)))) (za (qv 1) zd)))))
   (zg (zaw (zjt (zpJ (qv 2))) (zj (zv (zK (za zdN (za (zK zd) zd))))) z7)
   (zg (zcC (zz (zkf rfl (zsO hr)) Y.min zeO (za (qv 2) zd)) (zc3 2 rfl (zt (zp 3 zbz.nd) (zt (zp 4 zbz.nd) zaE))))
   (zj (zv (zK (za (zS zG (qv 3) (zo8 zhC zf)) (za (qv 4) zd)))))))),?_⟩
  refine zsA λn e1=>?_
  refine⟨_,rfl,l,rfl,⟨_,SqL.of hl⟩,?_⟩
  refine zbB (zfH (K:=K) (xs:=us)) (λl' i ys σ' H'=>(∃o1 o2,σ'=[o1,o2,some v])/\AtG (KmM rs) H' ys (es.take i)/\Same H H') ?_ (λl' i ys σ' H' hl' z=>SqL.of (z.2.2 _ _ hl)) ?_ ?_
  ·exact λl' hl'=>⟨⟨_,_,rfl⟩,⟨rfl,λi v p e1 _=>by cases e1⟩,Same.new hl'⟩
  ·rintro l' i y0 ys σ' H1 hl' hi hy ⟨⟨o1,o2,rfl⟩,a1,s1⟩ hl1
   have hi':i<es.length:=()
   obtain⟨b,rfl,pw,pm,hb,hpw,hpm⟩:=at1.2 i y0 es[i] hy (G0 hi')
   have ee:=eok es[i] (List.getElem_mem hi')
   have tk:es.take (i+1)=es.take i ++ [es[i]]:=by rw[Q2,G0 hi'];rfl
   rw[tk]
   have ly:ys.length=i:=by have:=a1.1;rw[Z1] at this;lia
   generalize es[i]=e at *
   obtain⟨ew,em⟩:=e
   obtain⟨ws,rfl⟩:=ee.hd
   refine⟨b,_,rfl, .inl (.inl (s1 _ _ hb)),rfl,_,_,rfl,_,_,rfl,rfl,?_⟩
   refine⟨_,rfl,_,rfl,_,rfl,v,pw,pm,x,ws,em,g,hs,ps,lks,hds,j,rs,wI rs (x::ws,em),rfl,hv.same s1,T,hj,hlj,s1 _ _ hpw,s1 _ _ hpm,ee.nw,ee.nm,by have:=ee.lw;simp only[J1] at this;lia,ee.lm,ee.wt,λu H2 ku s2=>?_⟩
   obtain⟨kb,kp,rfl,k1,k2,k3⟩:=ku
   have S3:∀{c:Addr},H2 c=none->Same H2 (upd H2 c (.tup [.ref kb, .ref pm])):=λ{c} h=>Same.new h
   refine⟨_,rfl,few rfl,λpt hpt=>?_⟩
   have s3:=S3 hpt
   have hl3:=s3 _ _ (s2 _ _ hl1)
   refine⟨hl3,zn (),⟨_,_,rfl⟩,?_,λc o e=>by rw[zc (zh e hl')];exact s3 _ _ (s2 _ _ (s1 c o e))⟩
   have up:∀c (xs:List V),(upd H2 pt (.tup [.ref kb, .ref pm])) c=some (.tup xs)->upd (upd H2 pt (.tup [.ref kb, .ref pm])) l' (.lst (ys ++ [.ref pt])) c=some (.tup xs):=λc xs e=>by rw[zc (zr e hl3 (by intro z;cases z))];exact e
   refine AtG.snoc (AtG.mono a1 λc k ⟨t,pm',h1,⟨p,e,f,o⟩,h3⟩=>?_) ?_
   ·exact ⟨t,pm',up _ _ (s3 _ _ (s2 _ _ h1)),⟨p,up _ _ (s3 _ _ (s2 _ _ e)),up _ _ (s3 _ _ (s2 _ _ f)),o⟩,up _ _ (s3 _ _ (s2 _ _ h3))⟩
   ·exact ⟨kb,pm,up _ _ zb,⟨kp,up _ _ (s3 _ _ k1),up _ _ (s3 _ _ k2),k3⟩,up _ _ (s3 _ _ (s2 _ _ (s1 _ _ hpm)))⟩
  rintro l1 zs σ' H1 hl1' ⟨⟨o1,o2,rfl⟩,a1,s1⟩ hl1
  rw[lu,List.take_length] at a1
  dsimp only[zb7]
  refine e1 _ _ ?_
  obtain⟨bs,rfl,lb,hb⟩:=AtG.addrs a1
  have ndk:(es.map (kE rs)).Nodup:=by
   refine List.pairwise_map.mpr ((List.pairwise_map.mp nde).imp λh z=>h ?_)
   exact T2 (λk:Ky=>k.2.2) z
  by_cases h0:es=[]
  ·subst h0
   have hb0:bs=[]:=List.eq_nil_of_length_eq_zero lb
   subst hb0
   refine⟨_,rfl,false, .inl ⟨_,SqL.of hl1,rfl⟩,zbE rfl ?_⟩
   refine⟨few rfl,λe2 he2=>⟨few rfl,λq2 hq2=>?_⟩⟩
   exact q q2 none _ rfl ⟨.non, .ref e2,zb,rfl,e2,rfl,Same.new hq2 _ _ zb⟩ (s1.trans ((Same.new he2).trans (Same.new hq2)))
  have l0:0<es.length:=List.length_pos_iff.mpr h0
  refine⟨_,rfl,true, .inl ⟨_,SqL.of hl1,?_⟩,zbo rfl ?_⟩
  ·cases bs with
   |nil=>rw[←lb] at l0;cases l0
   |cons _ _=>rfl
  refine⟨_,rfl,l1,bs,es.map (kE rs),rfl,hl1,by rw[D0];exact lb,λi b k e1 e2=>?_,ndk,by rw[D0];exact l0,λm b k e1 e2 best=>?_⟩
  ·rw[P0] at e2
   cases e3:es[i]? with
   |none=>rw[e3] at e2;cases e2
   |some e=>
    rw[e3] at e2;cases e2
    obtain⟨t,pm,h1,h2,h3⟩:=hb i b e e1 e3
    exact⟨_,t,h1,h2⟩
  ·rw[P0] at e2
   cases e3:es[m]? with
   |none=>rw[e3] at e2;cases e2
   |some e=>
    rw[e3] at e2;cases e2
    obtain⟨t,pm,h1,⟨p,h2,h3,h4⟩,h5⟩:=hb m b e e1 e3
    refine⟨b,_,rfl, .inl (.inl h1),rfl,_,_,rfl,_,_,rfl,rfl,?_⟩
    refine⟨_,rfl,1,rfl,t,_,-1,_,rfl,rfl, .inl (.inl h2),zmy,_,rfl,few rfl,λq2 hq2=>?_⟩
    have S:=Same.new (o:= .tup [V.ref p,V.ref pm]) hq2
    refine q q2 (some e) _ ⟨W0 e3,λe' he' ne=>best _ (V1.mpr ⟨e',he',rfl⟩) ne⟩ ⟨.ref p, .ref pm,zb,p,pm,rfl,rfl,S _ _ h3,S _ _ h5⟩ (s1.trans S)
noncomputable def zcy(v:V)(nm:Str)(hd td g:Addr)(n:Int):List (Str×V):=[("place",v),("name", .str nm),("hearings", .ref hd),("tellings", .ref td),("going", .ref g),("times", .int n)]
theorem zcs{nm:Str}{hd td g:Addr}{n:Int}:(zcy v nm hd td g n).lookup ("place":Str)=some v:=by rfl
theorem zb8{nm:Str}{hd td g:Addr}{n:Int}:(zcy v nm hd td g n).lookup ("name":Str)=some (.str nm):=by rfl
theorem zhS{nm:Str}{hd td g:Addr}{n:Int}:(zcy v nm hd td g n).lookup ("hearings":Str)=some (.ref hd):=by rfl
theorem zkR{nm:Str}{hd td g:Addr}{n:Int}:(zcy v nm hd td g n).lookup ("tellings":Str)=some (.ref td):=by rfl
theorem zf6{nm:Str}{hd td g:Addr}{n:Int}:(zcy v nm hd td g n).lookup ("going":Str)=some (.ref g):=by rfl
theorem znE{nm:Str}{hd td g:Addr}{n:Int}:(zcy v nm hd td g n).lookup ("times":Str)=some (.int n):=by rfl
noncomputable def zf8(C:Addr):Sp:=λvs H Q _=>∃(p dx:Addr) (v:V) (nm:Str),vs=[.ref p,v, .str nm]/\H p=some (.ins C dx [])/\∀(hd td g e:Addr) (H':Hp),H hd=none->H td=none->H g=none->H e=none->hd≠td->H' p=some (.ins C dx (zcy v nm hd td g 0))->H' hd=some (.dK [])->H' td=some (.dK [])->H' g=some (.tup [.non, .ref e])->H' e=some (.tup [])->Keep p H H'->Q .non H'
theorem zht(Y:Ev K mg):FnOk P w K mg base CX0 1 Y.a_House___init__ Y.d_House___init__ zag (zf8 Y.c_House):=by
 refine Y.House___init__.fn.okQ zeT (λvs H Q E h=>?_) `Y2
 ·obtain ⟨p,dx,v,nm,rfl,_⟩:=h;rfl
 ·obtain ⟨p,dx,v,nm,rfl,hp,q⟩:=h
  refine⟨_,(zg (zdL (qv 0) (qv 1))
   (zg (zdL (qv 0) (qv 2))
   (zg (zdL (qv 0) znN)
   (zg (zdL (qv 0) znN)
   (zg (zdL (qv 0) (zK (za zdN (za (zK zd) zd))))
   (zj (zdL (qv 0) zf))))))),?_⟩
  refine⟨_,rfl,_,rfl,p,_,dx,[],rfl,hp,Y.k_House,Y.n_House_place,(by decide:0<1000),?_⟩
  have s1:Keep p H (upd H p (.ins Y.c_House dx (zad "place" v []))):=Keep.upd _ _ _
  have p1:upd H p (.ins Y.c_House dx (zad "place" v [])) p=some (.ins Y.c_House dx [("place",v)]):=zb
  generalize upd H p (.ins Y.c_House dx (zad "place" v []))=H1 at *
  refine⟨_,rfl,_,rfl,p,_,dx,_,rfl,p1,Y.k_House,Y.n_House_name,(by decide:1<1000),?_⟩
  have s2:Keep p H (upd H1 p (.ins Y.c_House dx (zad "name" (.str nm) [("place",v)]))):=s1.trans (Keep.upd _ _ _)
  have p2:upd H1 p (.ins Y.c_House dx (zad "name" (.str nm) [("place",v)])) p=some (.ins Y.c_House dx [("place",v),("name", .str nm)]):=zb
  generalize upd H1 p (.ins Y.c_House dx (zad "name" (.str nm) [("place",v)]))=H2 at *
  have none_of:∀{G:Hp} {b:Addr},H p=some (.ins Y.c_House dx [])->Keep p H G->G b=none->(∃o,G p=some o)->H b=none:=λ{G b} hp k e ⟨o,ho⟩=>by
   cases z:H b with
   |none=>rfl
   |some u=>
    have:b≠p:=λy=>by rw[y,ho] at e;cases e
    rw[k b u this z] at e;cases e
  refine λhd hhd=>⟨_,rfl,p,_,dx,_,rfl,Same.new hhd _ _ p2,Y.k_House,Y.n_House_hearings,(by decide:2<1000),?_⟩
  have h1:=none_of hp s2 hhd ⟨_,p2⟩
  have npd:hd≠p:=λz=>by rw[z,p2] at hhd;cases hhd
  have s3:Keep p H (upd (upd H2 hd (.dK [])) p (.ins Y.c_House dx (zad "hearings" (.ref hd) [("place",v),("name", .str nm)]))):=(s2.trans (Keep.new hhd)).trans (Keep.upd _ _ _)
  have p3:upd (upd H2 hd (.dK [])) p (.ins Y.c_House dx (zad "hearings" (.ref hd) [("place",v),("name", .str nm)])) p=some (.ins Y.c_House dx [("place",v),("name", .str nm),("hearings", .ref hd)]):=zb
  have d3:upd (upd H2 hd (.dK [])) p (.ins Y.c_House dx (zad "hearings" (.ref hd) [("place",v),("name", .str nm)])) hd=some (.dK []):=by rw[zc npd];exact zb
  generalize upd (upd H2 hd (.dK [])) p (.ins Y.c_House dx (zad "hearings" (.ref hd) [("place",v),("name", .str nm)]))=H3 at *
  refine λtd htd=>⟨_,rfl,p,_,dx,_,rfl,Same.new htd _ _ p3,Y.k_House,Y.n_House_tellings,(by decide:3<1000),?_⟩
  have h2:=none_of hp s3 htd ⟨_,p3⟩
  have npt:td≠p:=λz=>by rw[z,p3] at htd;cases htd
  have nht:hd≠td:=zh d3 htd
  have s4:Keep p H (upd (upd H3 td (.dK [])) p (.ins Y.c_House dx (zad "tellings" (.ref td) [("place",v),("name", .str nm),("hearings", .ref hd)]))):=(s3.trans (Keep.new htd)).trans (Keep.upd _ _ _)
  have p4:upd (upd H3 td (.dK [])) p (.ins Y.c_House dx (zad "tellings" (.ref td) [("place",v),("name", .str nm),("hearings", .ref hd)])) p=some (.ins Y.c_House dx [("place",v),("name", .str nm),("hearings", .ref hd),("tellings", .ref td)]):=zb
  have d4:upd (upd H3 td (.dK [])) p (.ins Y.c_House dx (zad "tellings" (.ref td) [("place",v),("name", .str nm),("hearings", .ref hd)])) td=some (.dK []):=by rw[zc npt];exact zb
  have d4':upd (upd H3 td (.dK [])) p (.ins Y.c_House dx (zad "tellings" (.ref td) [("place",v),("name", .str nm),("hearings", .ref hd)])) hd=some (.dK []):=by rw[zc npd];exact Same.new htd _ _ d3
  generalize upd (upd H3 td (.dK [])) p (.ins Y.c_House dx (zad "tellings" (.ref td) [("place",v),("name", .str nm),("hearings", .ref hd)]))=H4 at *
  refine⟨few rfl,λe he=>⟨few rfl,λg hg=>?_⟩⟩
  have S5:=Same.new (o:= .tup ([]:List V)) he
  have S6:=Same.new (o:= .tup [V.non, .ref e]) hg
  have h3:=none_of hp s4 he ⟨_,p4⟩
  have h4:=none_of hp (s4.trans (Keep.of S5)) hg ⟨_,S5 _ _ p4⟩
  refine⟨_,rfl,p,_,dx,_,rfl,S6 _ _ (S5 _ _ p4),Y.k_House,Y.n_House_going,(by decide:4<1000),_,rfl,p,_,dx,_,rfl,zb,Y.k_House,Y.n_House_times,(by decide:5<1000),?_⟩
  rw[zlm]
  have ng:∀{b},H b=none->b≠p:=λ{b} e z=>by rw[z,hp] at e;cases e
  refine q hd td g e _ h1 h2 h4 h3 nht (by rw[zb];rfl) ?_ ?_ ?_ ?_ ?_
  ·rw[zc npd];exact S6 _ _ (S5 _ _ d4')
  ·rw[zc npt];exact S6 _ _ (S5 _ _ d4)
  ·rw[zc (ng h4)];exact zb
  ·rw[zc (ng h3)];exact S6 _ _ zb
  ·exact (s4.trans (Keep.of (S5.trans S6))).trans (Keep.upd _ _ _)
noncomputable def zif(C:Addr)(k:Nat):Sp:=λvs H Q _=>∃(p dx hd td g:Addr) (v:V) (nm:Str) (n:Int) (us:List V) (u:V),vs=[.ref p]/\H p=some (.ins C dx (zcy v nm hd td g n))/\H g=some (.tup us)/\us[k]?=some u/\Q u H
theorem ziB(Y:Ev K mg):FnOk P w K mg base CX0 1 Y.a_House_way Y.d_House_way zbj (zif Y.c_House 0):=by
 refine Y.House_way.fn.okQ ziw (λvs H Q E h=>?_) `Y2
 ·obtain ⟨p,dx,hd,td,g,v,nm,n,us,u,rfl,_⟩:=h;rfl
 ·obtain ⟨p,dx,hd,td,g,v,nm,n,us,u,rfl,hp,hg,hu,q⟩:=h
  refine⟨_,(zj (zv (zS zG (zP (qv 0)) zf))),?_⟩
  exact⟨_,rfl,p,_,dx,_,_,rfl,hp,Y.k_House,Y.n_House_going,zf6,g,us,0,u,rfl,rfl, .inl (.inl hg),zF (j:=0) hu,q⟩
noncomputable def zdE(C N:Addr):Sp:=λvs H Q _=>∃(p dx hd td g:Addr) (v:V) (nm o:Str) (n:Int) (kvs:List (Key×V)),vs=[.ref p, .str o]/\H p=some (.ins C dx (zcy v nm hd td g n))/\H hd=some (.dK kvs)/\Q ((zaF kvs (Sum.inr o)).getD (.ref N)) H
theorem zed(Y:Ev K mg):FnOk P w K mg base CX0 1 Y.a_House_heard Y.d_House_heard zao (zdE Y.c_House Y.a_NOTHING):=by
 refine Y.House_heard.fn.okQ zgP (λvs H Q E h=>?_) `Y2
 ·obtain ⟨p,dx,hd,td,g,v,nm,o,n,kvs,rfl,_⟩:=h;rfl
 ·obtain ⟨p,dx,hd,td,g,v,nm,o,n,kvs,rfl,hp,hh,q⟩:=h
  refine⟨_,(zj (zv (zlq (hu1 hr) (zP (qv 0)) (qv 1) (zor (v:= .ref Y.a_NOTHING) Y.m_NOTHING rfl)))),?_⟩
  exact⟨_,rfl,p,_,dx,_,_,rfl,hp,Y.k_House,Y.n_House_hearings,zhS,hd,rfl, .inl ⟨_, .inl hh⟩,_,rfl,_,DGet.k (k:=Sum.inr o) hh,q⟩
def zdK:Option WM->Prop
 |none=>True
 |some (w,ms)=>(∀y∈w,zi y=true)/\(∀y∈ms,zi y=true)
theorem zjq{p:Addr}{xs:List Str}(e:H p=some (.tup (xs.map V.str)))(h:∀y∈xs,zi y=true):TrC K H (.ref p) (.tuple (zw xs)):=by
 refine .tup (.inl (.inl e)) (by unfold zw;rw[D0,D0]) λi v d e1 e2=>?_
 unfold zw at e2
 rw[P0] at e1 e2
 cases e3:xs[i]? with
 |none=>rw[e3] at e1;cases e1
 |some x=>rw[e3] at e1 e2;cases e1;cases e2;exact .str x (zaD (h x (W0 e3)))
noncomputable def zc2:Option WM->PyData|none=> .none|some (w,_)=> .tuple (zw w)
noncomputable def zeE:Option WM->PyData|none=> .tuple []|some (_,ms)=> .tuple (zw ms)
theorem zfw{x:V}{b:Option WM}(h:WmAt H x y b)(ok:zdK b):TrC K H x (zc2 b):=by
 match b,h,ok with
 |none,⟨h1,_⟩,_=>rw[h1];exact .non
 |some (w,ms),⟨pw,pm,h1,h2,h3,h4⟩,ok=>rw[h1];exact zjq h3 ok.1
theorem zln{x:V}{b:Option WM}(h:WmAt H x y b)(ok:zdK b):TrC K H y (zeE b):=by
 match b,h,ok with
 |none,⟨_,e,h1,h2⟩,_=>rw[h1];exact .tup (.inl (.inl h2)) rfl λi v d e1=>by cases e1
 |some (w,ms),⟨pw,pm,h1,h2,h3,h4⟩,ok=>rw[h2];exact zjq h4 ok.2
theorem zbM{b:Option WM}:(zc2 b).depth<=2:=by
 match b with
 |none=>show (PyData.none).depth<=2;rw[PyData.depth];decide
 |some (w,ms)=>show (PyData.tuple (zw w)).depth<=2;rw[PyData.depth];have:=zbb (xs:=w);lia
theorem zjG{b:Option WM}:(zc2 b).depth<=60:=K1 zbM ⋯
theorem zfi{b:Option WM}:(zeE b).depth<=2:=by
 match b with
 |none=>show (PyData.tuple []).depth<=2;rw[PyData.depth,PyData.depthAll];decide
 |some (w,ms)=>show (PyData.tuple (zw ms)).depth<=2;rw[PyData.depth];have:=zbb (xs:=ms);lia
noncomputable def zfW(C:Addr):Sp:=λvs H Q _=>∃(p dx hd td g g':Addr) (v:V) (nm:Str) (n:Int) (b b':Option WM),vs=[.ref p, .ref g']/\H p=some (.ins C dx (zcy v nm hd td g n))/\GoR H g b/\GoR H g' b'/\zdK b/\zdK b'/\∀n':Int,Q .non (upd H p (.ins C dx (zcy v nm hd td g' n')))
theorem zg9(Y:Ev K mg):FnOk P w K mg base CX0 1 Y.a_House_go_by Y.d_House_go_by zaA (zfW Y.c_House):=by
 refine Y.House_go_by.fn.okQ zgN (λvs H Q E h=>?_) `Y2
 ·obtain ⟨p,dx,hd,td,g,g',v,nm,n,b,b',rfl,_⟩:=h;rfl
 ·obtain ⟨p,dx,hd,td,g,g',v,nm,n,b,b',rfl,hp,⟨x,y,hg,wa⟩,⟨x',y',hg',wa'⟩,ok,ok',q⟩:=h
  refine⟨_,(zfg (zaw (zQ (zoj (zrz hr)) (zS zG (qv 1) zf) (zS zG (zP (qv 0)) zf)) (zj (znX (qv 0) zf zrd)) z7)
   (zj (zdL (qv 0) (qv 1)))),?_⟩
  refine⟨λσ' H'=>σ'=[some (.ref p),some (.ref g')]/\∃n',H'=upd H p (.ins Y.c_House dx (zcy v nm hd td g n')),?_,?_⟩
  ·refine ⟨_,rfl,g',_,0,_,rfl,rfl, .inl (.inl hg'),at0,_,rfl,p,_,dx,_,_,rfl,hp,Y.k_House,Y.n_House_going,zf6,g,_,0,_,rfl,rfl, .inl (.inl hg),at0,zc2 b',zc2 b,zfw wa' ok',zfw wa ok,K1 (Nat.min_le_left _ _) zjG,_,rfl,zcZ (λ_=>?_) (λ_=>?_)⟩
   ·exact ⟨_,rfl,p,_,dx,_,_,rfl,hp,Y.k_House,Y.n_House_times,znE,_,_,rfl,rfl,dx,_,hp,(by decide:6<1000),rfl,_,rfl⟩
   ·exact ⟨rfl,n,by funext c;by_cases e:c=p
                    ·rw[e,zb];exact hp
                    ·rw[zc e]⟩
  ·rintro σ' H1 ⟨rfl,n',rfl⟩
   refine⟨_,rfl,_,rfl,p,_,dx,_,rfl,zb,Y.k_House,Y.n_House_going,(by decide:6<1000),?_⟩
   rw[zlm]
   exact q n'
theorem zlg(T:TownOk g hs ps lks hds)(hf:∀d∈hds,∃ds,d= .tup ds/\ds.length<=12)(h:x∈hs):∃(j:Nat) (rs:List D),hs[j]?=some x/\hds[j]?=some (.tup rs)/\zo hs hds x=rs/\zh5 rs/\rs.length<=12:=by
 obtain⟨j,d,e1,e2,hm⟩:=znd T h
 obtain⟨rs,rfl,hk⟩:=zkc (T.hands d hm)
 obtain⟨ds,e3,h12⟩:=hf _ hm
 cases e3
 exact⟨j,rs,e1,e2,zfy T.hs_nd e1 e2,hk,h12⟩
def GoOk(nm:Str):Option WM->Prop
 |none=>True
 |some (w,ms)=>(∃ws,w=nm::ws/\ws.length<=90)/\(∀y∈w,zi y=true)/\(∀y∈ms,zi y=true)/\ms.length<=40
theorem GoOk.wm{nm:Str}{b:Option WM}(h:GoOk nm b):zdK b:=by
 match b,h with
 |none,_=>exact trivial
 |some (w,ms),⟨_,h1,h2,_⟩=>exact ⟨h1,h2⟩
theorem zrp(T:TownOk g hs ps lks hds)(hf:∀d∈hds,∃ds,d= .tup ds/\ds.length<=12){nm o:Str}(hn:nm∈hs){b:Option WM}(ok:GoOk nm b):zdK (zdw (zo hs hds nm) b o):=by
 obtain⟨j,rs,_,_,er,hk,_⟩:=zlg T hf hn
 match b,ok with
 |none,_=>exact trivial
 |some (w,ms),⟨_,h1,h2,_⟩=>
  show zdK ((zD w (some o) (zo hs hds nm) ms).map λt=>(w,t))
  rw[er]
  cases e:zD w (some o) rs ms with
  |none=>exact trivial
  |some t=>exact ⟨h1,zcH hk.2 h2 e⟩
noncomputable def zhe(C:Addr):Sp:=λvs H Q _=>∃(p dx hd td ga:Addr) (v:V) (nm o:Str) (n:Int) (b:Option WM) (g:Str) (hs:List Str) (ps:List (Str×Str)) (lks hds:List D),vs=[.ref p, .str o]/\H p=some (.ins C dx (zcy v nm hd td ga n))/\Rep H v (zal g hs ps lks hds)/\TownOk g hs ps lks hds/\(∀d∈hds,∃ds,d= .tup ds/\ds.length<=12)/\nm∈hs/\o∈hs/\GoR H ga b/\GoOk nm b/\∀(q:Addr) (H':Hp),GoR H' q (zdw (zo hs hds nm) b o)->Same H H'->Q (.ref q) H'
theorem zjJ(Y:Ev K mg):FnOk P w K mg base CX0 6 Y.a_House_offer Y.d_House_offer za9 (zhe Y.c_House):=by
 have G_handed:FnOk P w K mg base CX0 5 Y.a_handed Y.d_handed zev zhc:=zkd Y
 refine Y.House_offer.fn.okQ zbc (λvs H Q E h=>?_) `Y2
 ·obtain ⟨p,dx,hd,td,ga,v,nm,o,n,b,g,hs,ps,lks,hds,rfl,_⟩:=h;rfl
 ·obtain ⟨p,dx,hd,td,ga,v,nm,o,n,b,g,hs,ps,lks,hds,rfl,hp,hv,T,hf,hnm,ho,⟨x,y,h1,wa⟩,ok,q⟩:=h
  refine⟨_,(zg (zcC (zP (qv 0)) (zc3 2 rfl (zt (zp 2 zbc.nd) (zt (zp 3 zbc.nd) zaE))))
   (zg (zy 4 zbc.nd (zr8 (zQ zj1 (qv 2) zdN) zdN (zm G_handed (hr.mono ⋯) Y.handed.mg Y.handed.kp Y.handed.b .nil zk (za (zP (qv 0)) (za (qv 2) (za (qv 3) (za (qv 1) zd)))))))
   (zj (zv (zr8 (zQ zj1 (qv 4) zdN) (zK (za zdN (za (zK zd) zd))) (zK (za (qv 2) (za (qv 4) zd)))))))),?_⟩
  refine⟨_,rfl,p,_,dx,_,_,rfl,hp,Y.k_House,Y.n_House_going,zf6,ga,_,rfl, .inl (.inl h1),rfl,_,_,rfl,_,_,rfl,rfl,?_⟩
  match b,wa,ok,q with
  |none,⟨ex,e,ey,h2⟩,_,q=>
   subst ex ey
   refine⟨_,rfl,rfl,_,rfl,zbE rfl ?_⟩
   refine⟨_,rfl,rfl,_,rfl,zbE rfl ⟨few rfl,λe2 he2=>⟨few rfl,λq2 hq2=>?_⟩⟩⟩
   exact q q2 _ ⟨.non, .ref e2,zb,rfl,e2,rfl,Same.new hq2 _ _ zb⟩ ((Same.new he2).trans (Same.new hq2))
  |some (w,ms),⟨wt,mt,ex,ey,h2,h3⟩,⟨⟨ws,ew,lw⟩,nw,nm',lm⟩,q=>
   subst ex ey ew
   obtain⟨j,rs,hj,hdj,er,hk,h12⟩:=zlg T hf hnm
   refine⟨_,rfl,rfl,_,rfl,zbo rfl ?_⟩
   refine⟨_,rfl,p,_,dx,_,_,rfl,hp,Y.k_House,Y.n_House_place,zcs,_,rfl,_,rfl,_,rfl,v,wt,mt, .str o,nm,ws,ms,some o,g,hs,ps,lks,hds,j,rs,Mn 40,rfl,hv,T,hj,hdj,hk,zqL hk (),⟨nm',lm⟩,h2,h3, .inr ⟨o,rfl,rfl,T.names o ho⟩,nw,lw,λu H1 tu s1=>?_⟩
   have eo:zdw (zo hs hds nm) (some (nm::ws,ms)) o=(zD (nm::ws) (some o) rs ms).map λt=>(nm::ws,t):=by rw[←er];rfl
   rw[eo] at q
   cases e:zD (nm::ws) (some o) rs ms with
   |none=>
    rw[e] at tu q
    cases(show u= .non from tu)
    refine⟨_,rfl,rfl,_,rfl,zbE rfl ⟨few rfl,λe2 he2=>⟨few rfl,λq2 hq2=>?_⟩⟩⟩
    exact q q2 _ ⟨.non, .ref e2,zb,rfl,e2,rfl,Same.new hq2 _ _ zb⟩ (s1.trans ((Same.new he2).trans (Same.new hq2)))
   |some t=>
    rw[e] at tu q
    obtain⟨mp,rfl,hmp⟩:=tu
    refine⟨_,rfl,rfl,_,rfl,zbo rfl ⟨_,rfl,_,rfl,few rfl,λq2 hq2=>?_⟩⟩
    have S2:=Same.new (o:= .tup [V.ref wt,V.ref mp]) hq2
    exact q q2 _ ⟨.ref wt, .ref mp,zb,wt,mp,rfl,rfl,S2 _ _ (s1 _ _ h2),S2 _ _ hmp⟩ (s1.trans S2)
def TeO(H:Hp)(v:V)(r:Hr):Prop:=∃t x y,v= .ref t/\H t=some (.tup [.int r.1,x,y])/\WmAt H x y r.2
theorem TeO.mono{r:Hr}(h:TeO H v r)(m:∀c xs,H c=some (.tup xs)->H' c=some (.tup xs)):TeO H' v r:=let⟨t,x,y,e,h1,w⟩:=h;⟨t,x,y,e,m _ _ h1,w.mono m⟩
inductive TbL(H:Hp):List (Key×V)->Tb->Prop
 |nil:TbL H [] []
 |cons {x:Str} {v:V} {r:Hr} {kvs:List (Key×V)} {m:Tb} (h:TeO H v r) (t:TbL H kvs m):TbL H ((Sum.inr x,v)::kvs) ((x,r)::m)
theorem TbL.mono{tm:Tb}(h:TbL H kvs tm)(m:∀c xs,H c=some (.tup xs)->H' c=some (.tup xs)):TbL H' kvs tm:=by
 induction h with
 |nil=>exact .nil
 |cons h t ih=>exact .cons (h.mono m) ih
theorem TbL.len{m:Tb}(h:TbL H kvs m):kvs.length=m.length:=by
 induction h with
 |nil=>rfl
 |cons h t ih=>rw[J1,J1,ih]
theorem TbL.look{m:Tb}(h:TbL H kvs m)(x:Str):(zu m x=none/\zaF kvs (Sum.inr x)=none)\/∃r v,zu m x=some r/\zaF kvs (Sum.inr x)=some v/\TeO H v r:=by
 induction h with
 |nil=>exact .inl ⟨rfl,rfl⟩
 | @cons y v r kvs m h t ih=>
   by_cases e:y=x
   ·exact .inr ⟨r,v,zae e,zdo (by rw[e]),h⟩
   ·rw[zap (p:=(y,r)) e,zbZ (p:=(Sum.inr y,v)) (λz=>e (Sum.inr.inj z))];exact ih
theorem TbL.map{m:Tb}(h:TbL H kvs m){r:Hr}(hv:TeO H v r):TbL H (kvs.map λkv=>if kv.1=Sum.inr x then(kv.1,v)else kv) (m.map λp=>if p.1=x then(p.1,r)else p):=by
 induction h with
 |nil=>exact .nil
 | @cons y v' r' kvs m h t ih=>
   rw[N1,N1]
   by_cases e:y=x
   ·rw[T0 (show(Sum.inr y:Key)=Sum.inr x by rw[e]),T0 (show y=x from e)];exact .cons hv ih
   ·rw[N0 (show¬(Sum.inr y:Key)=Sum.inr x from λz=>e (Sum.inr.inj z)),N0 (show¬y=x from e)];exact .cons h ih
theorem TbL.snoc{m:Tb}(h:TbL H kvs m){r:Hr}(hv:TeO H v r):TbL H (kvs ++ [(Sum.inr x,v)]) (m ++ [(x,r)]):=by
 induction h with
 |nil=>exact .cons hv .nil
 |cons h t ih=>exact .cons h ih
theorem TbL.put{m:Tb}(h:TbL H kvs m){r:Hr}(hv:TeO H v r):TbL H (zah kvs (Sum.inr x) v) (zdv m x r):=by
 unfold zah zdv
 rw[zeN,zcz]
 rcases h.look x with⟨e1,e2⟩|⟨r',v',e1,e2,_⟩
 ·rw[e1,e2,N0 `j2,N0 `j2];exact h.snoc hv
 ·rw[e1,e2,T0 (show(some v').isSome=true from rfl),T0 (show(some r').isSome=true from rfl)];exact h.map hv
theorem zq8:∀{a b:Option WM},(PyData.tuple [zc2 a,zeE a]).eqv (.tuple [zc2 b,zeE b])=decide (a=b)
 |none,none=>by
  show(PyData.tuple [.none, .tuple []]).eqv (.tuple [.none, .tuple []])=_
  rw[PyData.eqv,PyData.eqvAll,PyData.eqvAll,PyData.eqvAll,PyData.eqv,PyData.eqv,PyData.eqvAll];rfl
 |none,some (w,ms)=>by
  show(PyData.tuple [.none, .tuple []]).eqv (.tuple [.tuple (zw w), .tuple (zw ms)])=_
  rw[PyData.eqv,PyData.eqvAll,PyData.eqv];rfl
 |some (w,ms),none=>by
  show(PyData.tuple [.tuple (zw w), .tuple (zw ms)]).eqv (.tuple [.none, .tuple []])=_
  rw[PyData.eqv,PyData.eqvAll,PyData.eqv];rfl
 |some (w,ms),some (w',ms')=>by
  show(PyData.tuple [.tuple (zw w), .tuple (zw ms)]).eqv (.tuple [.tuple (zw w'), .tuple (zw ms')])=_
  rw[PyData.eqv,PyData.eqvAll,PyData.eqvAll,PyData.eqvAll,zdD,zdD]
  rw[Bool.eq_iff_iff]
  simp only[a0,decide_eq_true_eq,Option.some.injEq,Prod.mk.injEq]
  simp
theorem zcG{b:Addr}{Q:VK}(ha:H a=some (.tup xs))(hb:H b=some (.tup ys))(hl:xs.length+ys.length<=1000)(k:∀p H',H' p=some (.tup (xs ++ys))->Same H H'->Q (.ref p) H'):zqJ K (.ref a) (.ref b) H Q:=
 ⟨a,b,xs,ys,rfl,rfl, .inl (.inl ha), .inl (.inl hb),W2 (zn hl),λz=>k b H (by rw[z];exact hb) (Same.refl _),λ_ z=>k a H (by rw[z,List.append_nil];exact ha) (Same.refl _),λ_ _ p hp=>k p _ zb (Same.new hp)⟩
theorem zlb{x:V}{dx dy:PyData}(e:H a=some (.tup [x,y]))(h1:TrC K H x dx)(h2:TrC K H y dy):TrC K H (.ref a) (.tuple [dx,dy]):=by
 refine .tup (.inl (.inl e)) rfl λi v d e1 e2=>?_
 match i with
 |0=>cases e1;cases e2;exact h1
 |1=>cases e1;cases e2;exact h2
 |i+2=>cases e1
theorem zme{b b':Option WM}:min (PyData.tuple [zc2 b,zeE b]).depth (PyData.tuple [zc2 b',zeE b']).depth<=60:=by
 refine K1 (Nat.min_le_left _ _) ?_
 rw[PyData.depth,PyData.depthAll,PyData.depthAll,PyData.depthAll]
 have h1:=zbM (b:=b)
 have h2:=zfi (b:=b)
 lia
def LtO(H:Hp)(v:V)(a c:Str)(r:Hr):Prop:=∃t x y,v= .ref t/\H t=some (.tup [.str a, .str c, .int r.1,x,y])/\WmAt H x y r.2
theorem LtO.mono{a c:Str}{r:Hr}(h:LtO H v a c r)(m:∀c xs,H c=some (.tup xs)->H' c=some (.tup xs)):LtO H' v a c r:=let⟨t,x,y,e,h1,w⟩:=h;⟨t,x,y,e,m _ _ h1,w.mono m⟩
inductive LtsO(H:Hp)(nm:Str):List V->List Lt->Prop
 |nil:LtsO H nm [] []
 |cons {v:V} {l:Lt} {us:List V} {L:List Lt} (h:LtO H v nm l.1 l.2) (t:LtsO H nm us L):LtsO H nm (v::us) (l::L)
theorem LtsO.mono{nm:Str}{L:List Lt}(h:LtsO H nm us L)(m:∀c xs,H c=some (.tup xs)->H' c=some (.tup xs)):LtsO H' nm us L:=by
 induction h with
 |nil=>exact .nil
 |cons h t ih=>exact .cons (h.mono m) ih
theorem LtsO.append{nm:Str}{L L':List Lt}(h:LtsO H nm us L)(h':LtsO H nm us' L'):LtsO H nm (us ++us') (L ++L'):=by
 induction h with
 |nil=>exact h'
 |cons h t ih=>exact .cons h ih
theorem LtsO.len{nm:Str}{L:List Lt}(h:LtsO H nm us L):us.length=L.length:=by
 induction h with
 |nil=>rfl
 |cons h t ih=>rw[J1,J1,ih]
def wmR(_:Str)(r:Hr):Prop:=zdK r.2
theorem zpB{tm:Tb}(h:TbOk hs wmR tm)(o:Str):zdK (zaf tm o):=by
 unfold zaf
 cases e:zu tm o with
 |none=>exact trivial
 |some r=>exact h.look e
theorem znG{tm:Tb}{b:Option WM}{o:Str}(h:TbOk hs wmR tm)(ho:o∈hs)(hw:zdK (zdw rs b o)):TbOk hs wmR (zcg rs b tm o):=by
 unfold zcg
 split
 ·exact h
 ·exact h.put ho hw
noncomputable def zfY(C:Addr):Sp:=λvs H Q _=>∃(p dx hd td ga:Addr) (v:V) (nm:Str) (n:Int) (b:Option WM) (kv0:List (Key×V)) (tm:Tb) (g:Str) (hs:List Str) (ps:List (Str×Str)) (lks hds:List D),vs=[.ref p]/\H p=some (.ins C dx (zcy v nm hd td ga n))/\H td=some (.dK kv0)/\TbL H kv0 tm/\TbOk hs wmR tm/\Rep H v (zal g hs ps lks hds)/\TownOk g hs ps lks hds/\(∀d∈hds,∃ds,d= .tup ds/\ds.length<=12)/\nm∈hs/\GoR H ga b/\GoOk nm b/\
 ∀(l:Addr) (us:List V) (kvs:List (Key×V)) (H':Hp),H l=none->H' l=some (.lst us)->LtsO H' nm us (za3 (zo hs hds nm) b tm (due hs ps nm))->H' td=some (.dK kvs)->TbL H' kvs (zbi (zo hs hds nm) b tm (due hs ps nm))->TbOk hs wmR (zbi (zo hs hds nm) b tm (due hs ps nm))->Keep td H H'->Q (.ref l) H'
theorem zhm(Y:Ev K mg):FnOk P w K mg base CX0 7 Y.a_House_letters Y.d_House_letters zam (zfY Y.c_House):=by
 have G_tied:FnOk P w K mg base CX0 1 Y.a_tied Y.d_tied zh2 znj:=zpj Y
 have G_House_offer:FnOk P w K mg base CX0 6 Y.a_House_offer Y.d_House_offer za9 (zhe Y.c_House):=zjJ Y
 refine Y.House_letters.fn.okQ zT (λvs H Q E h=>?_) `Y2
 ·obtain ⟨p,dx,hd,td,ga,v,nm,n,b,kv0,tm,g,hs,ps,lks,hds,rfl,_⟩:=h;rfl
 ·obtain ⟨p,dx,hd,td,ga,v,nm,n,b,kv0,tm,g,hs,ps,lks,hds,rfl,hp,htd,tb0,to0,hv,T,hf,hnm,G,ok,q⟩:=h
  have T10:=T.ten
  refine⟨_,(zg (zy 1 zT.nd (zdx zd))
   (zg (zb9 PassesOwn.never rfl (zhF (zm G_tied (hr.mono ⋯) Y.tied.mg Y.tied.kp Y.tied.b .nil zk (za (zP (qv 0)) (za (zP (qv 0)) zd)))) (zp 2 zT.nd) (zg (zcC (zlq (hu1 hr) (zP (qv 0)) (qv 2) (zor (v:= .ref Y.a_NOTHING) Y.m_NOTHING rfl)) (zc3 3 rfl (zt (zp 3 zT.nd) (zt (zp 4 zT.nd) (zt (zp 5 zT.nd) zaE)))))
   (zg (zy 6 zT.nd (zbu (qv 0) Y.k_House Y.House_offer.m G_House_offer (hr.mono ⋯) Y.House_offer.b .nil zk (za (qv 2) zd)))
   (zj (zaw (zQ (zoj (zrz hr)) (qv 6) (zK (za (qv 4) (za (qv 5) zd)))) (zg (zhK (hu1 hr) (zP (qv 0)) (qv 2) (zC zfB (zK (za (zC z8 (qv 3) zf) zd)) (qv 6)))
   (zj (zaV (zfs K2 F.slot_list_append F.type_list_append za2 (qv 1) (za (zC zfB (zK (za (zP (qv 0)) (za (qv 2) (za (zC z8 (qv 3) zf) zd)))) (qv 6)) zd))))) z7)))))
   (zj (zv (qv 1))))),?_⟩
  refine⟨few rfl,λlf hlf=>?_⟩
  have S1:=Same.new (o:= .lst ([]:List V)) hlf
  have nlt:lf≠td:=Ne.symm (zh htd hlf)
  have nlp:p≠lf:=zh hp hlf
  refine⟨_,rfl,p,_,dx,_,_,rfl,S1 _ _ hp,Y.k_House,Y.n_House_place,zcs,_,rfl,p,_,dx,_,_,rfl,S1 _ _ hp,Y.k_House,Y.n_House_name,zb8,v,nm,g,hs,ps,lks,hds,rfl,hv.same S1,T,λlt ts H2 hlt ht2 tp tsr s2=>?_⟩
  have ets:=zqT T tp tsr
  have tin:∀o∈ts,o∈hs:=λo ho=>zk8 T (tp.mem_iff.mp ho)
  have tl:ts.length<=10:=by rw[tp.length_eq];exact zjc T nm
  rw[←ets] at q
  have nltt:lt≠td:=λz=>by rw[z,S1 _ _ htd] at hlt;cases hlt
  have nltf:lt≠lf:=λz=>by rw[z,zb] at hlt;cases hlt
  have offok:∀o,zdK (zdw (zo hs hds nm) b o):=λo=>zrp T hf hnm ok
  generalize ers:zo hs hds nm=rs at *
  refine⟨lt,rfl,⟨_,SqL.of ht2⟩,?_⟩
  refine zaX (zfH (K:=K) (xs:=ts.map V.str)) (λi σ' H'=>(∃o2 o3 o4 o5 o6,σ'=[some (.ref p),some (.ref lf),o2,o3,o4,o5,o6])/\H' lt=some (.lst (ts.map V.str))/\(∃kvs us,H' td=some (.dK kvs)/\TbL H' kvs (zbi rs b tm (ts.take i))/\TbOk hs wmR (zbi rs b tm (ts.take i))/\H' lf=some (.lst us)/\LtsO H' nm us (za3 rs b tm (ts.take i)))/\Keep td H H') ?_ ?_ ?_ ?_
  ·exact ⟨⟨_,_,_,_,_,rfl⟩,ht2,⟨kv0,[],s2 _ _ (S1 _ _ htd),tb0.mono λc xs e=>s2 _ _ (S1 _ _ e),to0,s2 _ _ zb, .nil⟩,Keep.of (S1.trans s2)⟩
  ·rintro i σ' H' ⟨_,h,_⟩
   exact SqL.of h
  ·rintro i y σ' H3 hi hy ⟨⟨o2,o3,o4,o5,o6,rfl⟩,ht3,⟨kvs,us,hk3,tb3,to3,hf3,R3⟩,k3⟩
   obtain⟨o,ho,rfl⟩:∃o,ts[i]?=some o/\y= .str o:=by
    rw[P0] at hy
    cases e:ts[i]? with
    |none=>rw[e] at hy;cases hy
    |some th=>rw[e] at hy;cases hy;exact⟨th,rfl,rfl⟩
   rw[D0] at hi
   have npt:p≠td:=zr hp htd `Z3
   have hp3:=k3 _ _ npt hp
   have ohs:=tin o (W0 ho)
   have tk:ts.take (i+1)=ts.take i ++ [o]:=by rw[Q2,ho];rfl
   have nl3:=zdn (rs:=rs) (b:=b) (os:=ts.take i) (tm:=tm)
   rw[Z1] at nl3
   rw[tk,zkl,zg4]
   generalize zbi rs b tm (ts.take i)=t3 at *
   generalize za3 rs b tm (ts.take i)=L3 at *
   have kt:∀c xs,H c=some (.tup xs)->H3 c=some (.tup xs):=λc xs e=>k3 _ _ (zr e htd `Z3) e
   have hv3:Rep H3 v (zal g hs ps lks hds):=by
    refine hv.mono ⟨kt,λc xs e=>⟨xs,k3 _ _ (zr e htd `Z3) e⟩,λc xs e=>?_⟩
    by_cases z:c=td
    ·rw[z];exact⟨kvs,hk3⟩
    ·exact ⟨xs,k3 _ _ z e⟩
   obtain⟨A3,x3,y3,eA,hA,tx,ty⟩:∃A x y,(zaF kvs (Sum.inr o)).getD (.ref Y.a_NOTHING)= .ref A/\SqT K H3 A [.int (zbX (zu t3 o)),x,y]/\(∀H',(∀c xs,H3 c=some (.tup xs)->H' c=some (.tup xs))->TrC K H' x (zc2 (zaf t3 o)))/\∀H',(∀c xs,H3 c=some (.tup xs)->H' c=some (.tup xs))->TrC K H' y (zeE (zaf t3 o)):=by
    have wok:=zpB to3 o
    unfold zaf at wok⊢
    rcases tb3.look o with⟨e1,e2⟩|⟨r,v',e1,e2,t,x,y,rfl,ht,wa⟩
    ·rw[e1,e2]
     exact⟨Y.a_NOTHING, .non, .ref Y.e_NOTHING,rfl,Y.t_NOTHING _,λ_ _=> .non,λ_ _=> .tup (Y.u_NOTHING _) rfl λi v d e1=>by cases e1⟩
    ·rw[e1] at wok⊢
     rw[e2]
     exact⟨t,x,y,rfl, .inl (.inl ht),λH' m=>zfw (wa.mono m) wok,λH' m=>zln (wa.mono m) wok⟩
   refine⟨_,rfl,p,_,dx,_,_,rfl,hp3,Y.k_House,Y.n_House_tellings,zkR,td,rfl, .inl ⟨_, .inl hk3⟩,_,rfl,_,DGet.k (k:=Sum.inr o) hk3,?_⟩
   rw[eA]
   generalize enr:zbX (zu t3 o)=nr at *
   refine⟨A3,_,rfl,hA,rfl,_,_,rfl,_,_,rfl,_,_,rfl,rfl,?_⟩
   refine⟨_,rfl,p,dx,_,rfl,hp3,rfl,_,rfl,p,dx,hd,td,ga,v,nm,o,n,b,g,hs,ps,lks,hds,rfl,hp3,hv3,T,hf,hnm,ohs,G.mono kt,ok,λqa H4 O4 s4=>?_⟩
   rw[ers] at O4
   obtain⟨x4,y4,hq4,wa4⟩:=O4
   refine⟨_,rfl,_,rfl,_,rfl,few rfl,λp5 hp5=>?_⟩
   have S5:=Same.new (o:= .tup [x3,y3]) hp5
   have s35:=s4.trans S5
   have e5:(upd H4 p5 (.tup [x3,y3])) p5=some (.tup [x3,y3]):=zb
   generalize (upd H4 p5 (HO.tup [x3,y3]))=H5 at *
   have hq5:=S5 _ _ hq4
   have wa5:=wa4.mono λc xs e=>S5 _ _ e
   have m35:∀c xs,H3 c=some (.tup xs)->H5 c=some (.tup xs):=λc xs e=>s35 _ _ e
   refine⟨_,_,zlb hq5 (zfw wa5 (offok o)) (zln wa5 (offok o)),zlb e5 (tx H5 m35) (ty H5 m35),zme,_,rfl,?_⟩
   rw[zq8]
   by_cases eo:zdw rs b o=zaf t3 o
   ·rw[V0 eo]
    have et:zcg rs b t3 o=t3:=by unfold zcg;rw[T0 eo]
    have en:zgs rs b t3 o=[]:=by unfold zgs;rw[T0 eo]
    rw[et,en,List.append_nil]
    exact zbo rfl ⟨⟨_,_,_,_,_,rfl⟩,s35 _ _ ht3,⟨kvs,us,s35 _ _ hk3,tb3.mono m35,to3,s35 _ _ hf3,R3.mono m35⟩,k3.trans (Keep.of s35)⟩
   rw[b0 eo]
   have et:zcg rs b t3 o=zdv t3 o (zbX (zu t3 o)+1,zdw rs b o):=by unfold zcg;rw[N0 eo]
   have en:zgs rs b t3 o=[(o,zbX (zu t3 o)+1,zdw rs b o)]:=by unfold zgs;rw[N0 eo]
   have tok:=znG (rs:=rs) (b:=b) to3 ohs (offok o)
   rw[et] at tok⊢
   rw[en]
   rw[enr] at tok⊢
   refine zbE rfl ⟨_,rfl,_,_,rfl,rfl,few rfl,λp6 hp6=>?_⟩
   have S6:=Same.new (o:= .tup [V.int (nr+1)]) hp6
   refine⟨_,rfl,zcG (xs:=[V.int (nr+1)]) (ys:=[x4,y4]) zb (S6 _ _ hq5) (by decide:1+2<=1000) λp7 H7 hp7 s7=>?_⟩
   have hp7:H7 p7=some (.tup [V.int (nr+1),x4,y4]):=hp7
   have s57:=S6.trans s7
   have s37:=s35.trans s57
   have hpp7:=s37 _ _ hp3
   have hk7:=s37 _ _ hk3
   have hq7:=s57 _ _ hq5
   have hf7:=s37 _ _ hf3
   have ht7:=s37 _ _ ht3
   have wa7:=wa5.mono λc xs e=>s57 _ _ e
   have kl:=tb3.len
   have t3l:=to3.len
   refine⟨_,rfl,p,_,dx,_,_,rfl,hpp7,Y.k_House,Y.n_House_tellings,zkR,_,rfl,td,_,rfl, .inl ⟨kvs,Sum.inr o,hk7,rfl,zn (),rfl⟩,?_⟩
   have nq:∀{c xs},H7 c=some (.tup xs)->c≠td:=λ{c xs} e=>zr e hk7 `Z3
   have m78:∀c xs,H7 c=some (.tup xs)->upd H7 td (.dK (zah kvs (Sum.inr o) (.ref p7))) c=some (.tup xs):=λc xs e=>by rw[zc (nq e)];exact e
   have k78:Keep td H7 (upd H7 td (.dK (zah kvs (Sum.inr o) (.ref p7)))):=Keep.upd _ _ _
   have hk8:upd H7 td (.dK (zah kvs (Sum.inr o) (.ref p7))) td=some (.dK (zah kvs (Sum.inr o) (.ref p7))):=zb
   generalize (upd H7 td (.dK (zah kvs (Sum.inr o) (.ref p7))))=H8 at *
   have hf8:=k78 _ _ nlt hf7
   have hpp8:=k78 _ _ npt hpp7
   have ht8:=k78 _ _ nltt ht7
   refine⟨_,rfl, .inl ⟨rfl,_,SqL.of hf8⟩,_,rfl,p,_,dx,_,_,rfl,hpp8,Y.k_House,Y.n_House_name,zb8,_,rfl,_,rfl,_,_,rfl,rfl,few rfl,λp9 hp9=>?_⟩
   have S9:=Same.new (o:= .tup [V.str nm,V.str o,V.int (nr+1)]) hp9
   refine⟨_,rfl,zcG (xs:=[V.str nm,V.str o,V.int (nr+1)]) (ys:=[x4,y4]) zb (S9 _ _ (m78 _ _ hq7)) (by decide:3+2<=1000) λpA HA hpA sA=>?_⟩
   have hpA:HA pA=some (.tup [V.str nm,V.str o,V.int (nr+1),x4,y4]):=hpA
   have s8A:=S9.trans sA
   have m7A:∀c xs,H7 c=some (.tup xs)->HA c=some (.tup xs):=λc xs e=>s8A _ _ (m78 _ _ e)
   have m3A:∀c xs,H3 c=some (.tup xs)->HA c=some (.tup xs):=λc xs e=>m7A _ _ (s37 _ _ e)
   have hfA:=s8A _ _ hf8
   have ul:=R3.len
   refine⟨lf,us,_,rfl,rfl,hfA,zn (),⟨_,_,_,_,_,rfl⟩,?_,⟨zah kvs (Sum.inr o) (.ref p7),us ++ [.ref pA],?_,?_,tok,zb,?_⟩,?_⟩
   ·rw[zc nltf];exact s8A _ _ ht8
   ·rw[zc (Ne.symm nlt)];exact s8A _ _ hk8
   ·have mB:∀c xs,HA c=some (.tup xs)->upd HA lf (.lst (us ++ [.ref pA])) c=some (.tup xs):=λc xs e=>by rw[zc (zr e hfA `Z3)];exact e
    exact(tb3.mono λc xs e=>mB _ _ (m3A _ _ e)).put ⟨p7,x4,y4,rfl,mB _ _ (m7A _ _ hp7),wa7.mono λc xs e=>mB _ _ (m7A _ _ e)⟩
   ·have mB:∀c xs,HA c=some (.tup xs)->upd HA lf (.lst (us ++ [.ref pA])) c=some (.tup xs):=λc xs e=>by rw[zc (zr e hfA `Z3)];exact e
    exact(R3.mono λc xs e=>mB _ _ (m3A _ _ e)).append (.cons ⟨pA,x4,y4,rfl,mB _ _ hpA,wa7.mono λc xs e=>mB _ _ (m7A _ _ e)⟩ .nil)
   ·exact λc u nc e=>by rw[zc (zh e hlf)];exact s8A _ _ (k78 c u nc (s37 _ _ (k3 c u nc e)))
  ·rintro σ' H3 ⟨⟨o2,o3,o4,o5,o6,rfl⟩,ht3,⟨kvs,us,hk3,tb3,to3,hf3,R3⟩,k3⟩
   rw[D0,List.take_length] at tb3 to3 R3
   exact⟨_,rfl,q lf us kvs H3 hlf hf3 R3 hk3 tb3 to3 k3⟩
theorem zfJ{ws ms:List Str}:∀{rs:List D},(∀r∈rs,zJ r=true)->zH ws ms rs= .non\/∃i,zH ws ms rs= .int i
 |[],_=> .inr ⟨0,rfl⟩
 |r::rs,h=>by
  rw[zH]
  by_cases z:zeY ws ms none (zho r)=true
  ·rw[T0 z]
   obtain⟨cs,x,rfl,_,_,hx⟩:=zhk (h r D1)
   exact hx
  ·rw[N0 z]
   exact zfJ λr hr=>h r (Z0 _ hr)
theorem zlo(T:TownOk g hs ps lks hds)(h:x∈hs):∃(j:Nat) (rs:List D),hs[j]?=some x/\lks[j]?=some (.tup rs)/\zo hs lks x=rs/\∀r∈rs,zJ r=true:=by
 obtain⟨j,rs,e1,e2,hh⟩:=zrr T h
 exact⟨j,rs,e1,e2,zfy T.hs_nd e1 e2,hh.2⟩
def hrR(x:Str)(r:Hr):Prop:=match r.2 with|none=>True|some (w,ms)=>(∃ws,w=x::ws)/\w.length<=10/\(∀y∈w,zi y=true)/\(∀y∈ms,zi y=true)/\ms.length<=40
theorem zlv{nm:Str}{r:Hr}{e:WM}(hn:zi nm=true)(hl:∀r∈rs,zJ r=true)(h:hrR x r)(o:zc6 nm rs (x,r)=some e):EOk nm rs e/\GoOk nm (some e):=by
 obtain⟨n,b⟩:=r
 cases b with
 |none=>cases o
 |some p=>
  obtain⟨w,ms⟩:=p
  have o:(if nm∈w\/zbU (zH (nm::w) ms rs)=true then none else some (nm::w,ms))=some e:=o
  by_cases c:nm∈w\/zbU (zH (nm::w) ms rs)=true
  ·rw[T0 c] at o;cases o
  ·rw[N0 c] at o
   cases o
   obtain⟨⟨ws,ew⟩,lw,nw,nms,lm⟩:=h
   have nw':∀y∈nm::w,zi y=true:=λy hy=>(X0.mp hy).elim (λz=>by rw[z];exact hn) (nw y)
   refine⟨⟨⟨w,rfl⟩,nw',nms,by show(nm::w).length<=80;rw[J1];lia,by show ms.length<=100;lia,?_⟩,⟨w,rfl,()⟩,nw',nms,lm⟩
   rcases zfJ (ws:=nm::w) (ms:=ms) hl with z|⟨i,z⟩
   ·exact absurd (.inr (by rw[z];rfl)) c
   ·show zH (nm::w) ms rs= .int (wI rs (nm::w,ms))
    rw[z];unfold wI;simp only[z]
theorem zkj{nm:Str}{m:Tb}{p:Str×Hr}:za1 nm rs (m ++ [p])=za1 nm rs m ++(zc6 nm rs p).toList:=by
 unfold za1
 rw[List.filterMap_append]
 congr 1
theorem TbL.get{m:Tb}(h:TbL H kvs m):∀{i:Nat} {v:V},(kvs.map (·.2))[i]?=some v->∃p,m[i]?=some p/\TeO H v p.2:=by
 induction h with
 |nil=>intro i v e;cases e
 | @cons x v' r kvs m h t ih=>
   intro i v e
   cases i with
   |zero=>cases e;exact⟨_,rfl,h⟩
   |succ i=>exact ih e
theorem zp4{w:List Str}:(w.any λy=>decide (y=x))=decide (x∈w):=by
 rw[Bool.eq_iff_iff,V2,List.any_eq_true]
 exact⟨λ⟨y,hy,e⟩=>by rw[←U0 e];exact hy,λh=>⟨_,h,V0 rfl⟩⟩
theorem PairO.mono{b:Addr}{e:WM}(h:PairO H b e)(m:∀c xs,H c=some (.tup xs)->H' c=some (.tup xs)):PairO H' b e:=let⟨pw,pm,h1,h2,h3⟩:=h;⟨pw,pm,m _ _ h1,m _ _ h2,m _ _ h3⟩
theorem Rep.monoT(h:Rep H v d)(m:∀c xs,H c=some (.tup xs)->H' c=some (.tup xs)):okD d=true->Rep H' v d:=by
 induction h with
 |non=>exact λ_=> .non
 |bl b=>exact λ_=> .bl b
 |int i=>exact λ_=> .int i
 |str x h=>exact λ_=> .str x h
 |tup h l b r ih=>
  intro o
  rw[okD] at o
  exact .tup (m _ _ h) l b λi v d e1 e2=>ih i v d e1 e2 (zlc o d (W0 e2))
 |lst h=>intro o;cases o
 |dK h=>intro o;cases o
theorem zI(h:Rep H v (zal g hs ps lks hds))(T:TownOk g hs ps lks hds)(m:∀c xs,H c=some (.tup xs)->H' c=some (.tup xs)):Rep H' v (zal g hs ps lks hds):=Rep.monoT h m (zmY T (by have:=T.lp;lia)).1
noncomputable def zjl(C:Addr):Sp:=λvs H Q _=>∃(p dx hd td ga:Addr) (v:V) (nm:Str) (n:Int) (kh:List (Key×V)) (hm:Tb) (g:Str) (hs:List Str) (ps:List (Str×Str)) (lks hds:List D),vs=[.ref p]/\H p=some (.ins C dx (zcy v nm hd td ga n))/\H hd=some (.dK kh)/\TbL H kh hm/\TbOk hs hrR hm/\Rep H v (zal g hs ps lks hds)/\TownOk g hs ps lks hds/\nm∈hs/\
 ∀(l:Addr) (us:List V) (H':Hp),H l=none->H' l=some (.lst us)->AtG PairO H' us (za1 nm (zo hs lks nm) hm)->Same H H'->Q (.ref l) H'
theorem zlZ(Y:Ev K mg):FnOk P w K mg base CX0 6 Y.a_House_open_ways Y.d_House_open_ways zaq (zjl Y.c_House):=by
 have G_worth:FnOk P w K mg base CX0 5 Y.a_worth Y.d_worth zen zhN:=zjC Y
 refine Y.House_open_ways.fn.okQ zaa (λvs H Q E h=>?_) `Y2
 ·obtain ⟨p,dx,hd,td,ga,v,nm,n,kh,hm,g,hs,ps,lks,hds,rfl,_⟩:=h;rfl
 ·obtain ⟨p,dx,hd,td,ga,v,nm,n,kh,hm,g,hs,ps,lks,hds,rfl,hp,hhd,tb,tok,hv,T,hnm,q⟩:=h
  have T10:=T.ten
  have hml:=tok.len
  obtain⟨j,rs,hj,hlj,er,hlk⟩:=zlo T hnm
  rw[er] at q
  have hnn:=T.names nm hnm
  refine⟨_,(zg (zy 1 zaa.nd (zdx zd))
   (zg (zb9 PassesOwn.never rfl (zrB (zP (qv 0))) (zc3 3 rfl (zt (zp 2 zaa.nd) (zt (zp 3 zaa.nd) (zt (zp 4 zaa.nd) zaE)))) (zg (zaw (t_w (zqZ (zQ zj1 (qv 3) zdN) (znT (zQ ze3 (zP (qv 0)) (qv 3))))) (zj znY) z7)
   (zj (zaw (zQ zp7 (zm G_worth (hr.mono ⋯) Y.worth.mg Y.worth.kp Y.worth.b .nil zk (za (zP (qv 0)) (za (zC zfB (zK (za (zP (qv 0)) zd)) (qv 3)) (za (qv 4) zd)))) zdN) (zj (zaV (zfs K2 F.slot_list_append F.type_list_append za2 (qv 1) (za (zK (za (zC zfB (zK (za (zP (qv 0)) zd)) (qv 3)) (za (qv 4) zd))) zd)))) z7))))
   (zj (zv (zki (qv 1)))))),?_⟩
  refine⟨few rfl,λlf hlf=>?_⟩
  have S1:=Same.new (o:= .lst ([]:List V)) hlf
  have nlh:lf≠hd:=Ne.symm (zh hhd hlf)
  have nph:p≠hd:=zr hp hhd `Z3
  refine⟨_,rfl,p,_,dx,_,_,rfl,S1 _ _ hp,Y.k_House,Y.n_House_hearings,zhS,hd,kh,rfl,S1 _ _ hhd,λob nd=>?_⟩
  refine zaX zqo (λi σ' H'=>(∃o2 o3 o4,σ'=[some (.ref p),some (.ref lf),o2,o3,o4])/\H' hd=some (.frz ob (.dK kh))/\(∃us,H' lf=some (.lst us)/\AtG PairO H' us (za1 nm rs (hm.take i)))/\(∀c o,c≠hd->H c=some o->H' c=some o)) ?_ ?_ ?_ ?_
  ·refine ⟨⟨_,_,_,rfl⟩,zb,⟨[],?_,rfl,λi v p e=>by cases e⟩,λc o n e=>?_⟩
   ·rw[zc nlh];exact zb
   ·rw[zc n];exact S1 _ _ e
  ·exact λi σ' H' z=>z.2.1
  ·rintro i y σ' H3 hi hy ⟨⟨o2,o3,o4,rfl⟩,hz3,⟨us,hf3,R3⟩,k3⟩
   obtain⟨pr,ep,t,x,yy,rfl,ht,wa⟩:=tb.get hy
   have hpr:=W0 ep
   have hok:=(tok.mem pr hpr).2
   have tk:hm.take (i+1)=hm.take i ++ [pr]:=by rw[Q2,ep];rfl
   have lo:(za1 nm rs (hm.take i)).length<=10:=K1 (List.length_filterMap_le _ _) (by rw[Z1];lia)
   rw[tk,zkj]
   have kt:∀c xs,H c=some (.tup xs)->H3 c=some (.tup xs):=λc xs e=>k3 _ _ (zr e hhd `Z3) e
   have hp3:=k3 _ _ nph hp
   have wa3:=wa.mono kt
   have ht3:=kt _ _ ht
   have ul:=R3.1
   generalize za1 nm rs (hm.take i)=es at *
   obtain⟨px,nr,b⟩:=pr
   refine⟨t,_,rfl, .inl (.inl ht3),rfl,_,_,rfl,_,_,rfl,_,_,rfl,rfl,?_⟩
   match b,wa3,hok with
   |none,⟨ex,e,ey,h2⟩,_=>
    subst ex ey
    refine⟨_,rfl,rfl,_,rfl,zbE rfl (zbE rfl ⟨⟨_,_,_,rfl⟩,hz3,⟨us,hf3,?_⟩,k3⟩)⟩
    show AtG PairO H3 us (es ++ [])
    rw[List.append_nil];exact R3
   |some (w,ms),⟨pw,pm,ex,ey,h2,h3⟩,hok=>
    subst ex ey
    obtain⟨⟨ws,ew⟩,lw,nw,nms,lm⟩:=id hok
    refine⟨_,rfl,rfl,_,rfl,zbo rfl ?_⟩
    refine⟨_,rfl,p,_,dx,_,_,rfl,hp3,Y.k_House,Y.n_House_name,zb8,_,rfl,pw,_,rfl, .inr (.inl (.inl h2)),rfl,zeX,_,rfl,?_⟩
    rw[zim,zp4]
    have oe:zc6 nm rs (px,nr,some (w,ms))=if nm∈w\/zbU (zH (nm::w) ms rs)=true then none else some (nm::w,ms):=rfl
    by_cases c:nm∈w
    ·rw[V0 c]
     refine zbE rfl ⟨⟨_,_,_,rfl⟩,hz3,⟨us,hf3,?_⟩,k3⟩
     rw[oe,T0 (.inl c)]
     show AtG PairO H3 us (es ++ [])
     rw[List.append_nil];exact R3
    rw[b0 c]
    refine zbo rfl ?_
    refine⟨_,rfl,p,_,dx,_,_,rfl,hp3,Y.k_House,Y.n_House_place,zcs,_,rfl,p,_,dx,_,_,rfl,hp3,Y.k_House,Y.n_House_name,zb8,few rfl,λb1 hb1=>?_⟩
    have B1:=Same.new (o:= .tup [V.str nm]) hb1
    refine⟨_,rfl,zcG (xs:=[V.str nm]) (ys:=w.map V.str) zb (B1 _ _ h2) (by rw[D0];show 1+_<=_;lia) λb2 H4 hb2 s4=>?_⟩
    have hb2:H4 b2=some (.tup ((nm::w).map V.str)):=hb2
    have s34:=B1.trans s4
    have nw':∀y∈nm::w,zi y=true:=λy hy=>(X0.mp hy).elim (λz=>by rw[z];exact hnn) (nw y)
    have hv4:Rep H4 v (zal g hs ps lks hds):=(zI hv T kt).same s34
    refine⟨_,rfl,v,b2,pm,nm,w,ms,g,hs,ps,lks,hds,j,rs,rfl,hv4,T,hj,hlj,hb2,s34 _ _ h3,nw',nms,(),(),λu H5 ru s5=>⟨rfl,_,rfl,?_⟩⟩
    rw[zo3 ru]
    have s35:=s34.trans s5
    cases eb:zbU (zH (nm::w) ms rs)with
    |true=>
     refine zbo rfl ⟨⟨_,_,_,rfl⟩,s35 _ _ hz3,⟨us,s35 _ _ hf3,?_⟩,λc o n e=>s35 _ _ (k3 c o n e)⟩
     rw[oe,T0 (.inr eb)]
     show AtG PairO H5 us (es ++ [])
     rw[List.append_nil];exact AtG.mono R3 λc e h=>PairO.mono h λc xs e=>s35 _ _ e
    |false=>
     have hp5:=s35 _ _ hp3
     have hf5:=s35 _ _ hf3
     refine zbE rfl ⟨_,rfl, .inl ⟨rfl,_,SqL.of hf5⟩,_,rfl,p,_,dx,_,_,rfl,hp5,Y.k_House,Y.n_House_name,zb8,few rfl,λb6 hb6=>?_⟩
     have B6:=Same.new (o:= .tup [V.str nm]) hb6
     refine⟨_,rfl,zcG (xs:=[V.str nm]) (ys:=w.map V.str) zb (B6 _ _ (s35 _ _ h2)) (by rw[D0];show 1+_<=_;lia) λb7 H7 hb7 s7=>?_⟩
     have hb7:H7 b7=some (.tup ((nm::w).map V.str)):=hb7
     refine⟨_,rfl,few rfl,λb8 hb8=>?_⟩
     have B8:=Same.new (o:= .tup [V.ref b7,V.ref pm]) hb8
     have s38:=((s35.trans B6).trans s7).trans B8
     have e8:(upd H7 b8 (.tup [V.ref b7,V.ref pm])) b8=some (.tup [V.ref b7,V.ref pm]):=zb
     have hb78:=B8 _ _ hb7
     generalize (upd H7 b8 (HO.tup [V.ref b7,V.ref pm]))=H8 at *
     have hf8:=s38 _ _ hf3
     have up:∀c xs,H8 c=some (.tup xs)->upd H8 lf (.lst (us ++ [.ref b8])) c=some (.tup xs):=λc xs e=>by rw[zc (zr e hf8 `Z3)];exact e
     refine⟨lf,us,_,rfl,rfl,hf8,zn (),⟨_,_,_,rfl⟩,?_,⟨us ++ [.ref b8],zb,?_⟩,λc o n e=>?_⟩
     ·rw[zc (Ne.symm nlh)];exact s38 _ _ hz3
     ·rw[oe,N0 (λz=>z.elim c (λz=>by rw[eb] at z;cases z))]
      exact AtG.snoc (AtG.mono R3 λc e h=>PairO.mono h λc xs e=>up _ _ (s38 _ _ e)) ⟨b7,pm,up _ _ e8,up _ _ hb78,up _ _ (s38 _ _ h3)⟩
     ·rw[zc (zh e hlf)];exact s38 _ _ (k3 c o n e)
  ·rintro σ' H3 ⟨⟨o2,o3,o4,rfl⟩,hz3,⟨us,hf3,R3⟩,k3⟩
   rw[D0,tb.len,List.take_length] at R3
   refine⟨_,rfl,hd,ob, .dK kh,hz3,(λo' u' z=>by have z:H hd=some (.frz o' u'):=z;rw[hhd] at z;cases z),?_⟩
   have up:∀c xs,H3 c=some (.tup xs)->upd H3 hd (.dK kh) c=some (.tup xs):=λc xs e=>by rw[zc (zr e hz3 `Z3)];exact e
   refine q lf us _ hlf (by rw[zc nlh];exact hf3) (AtG.mono R3 λc e h=>PairO.mono h up) λc o e=>?_
   by_cases z:c=hd
   ·rw[z,zb];rw[z,hhd] at e;exact e
   ·rw[zc z];exact k3 c o z e
structure HsAt(C:Addr)(hs:List Str)(H:Hp)(p dx hd td ga:Addr)(v:V)(nm:Str)(n:Int)(b:Option WM)(kh:List (Key×V))(hm:Tb)(kt:List (Key×V))(tm:Tb):Prop where
 hp:H p=some (.ins C dx (zcy v nm hd td ga n))
 hh:H hd=some (.dK kh)
 th:TbL H kh hm
 oh:TbOk hs hrR hm
 ht:H td=some (.dK kt)
 tt:TbL H kt tm
 ot:TbOk hs wmR tm
 gr:GoR H ga b
 go:GoOk nm b
 ne:hd≠td
structure HInv(g nm:Str)(lrs hrs:List D)(os:List Str)(b:Option WM)(hm tm:Tb)(L:List Lt):Prop where
 goal:nm=g->b=some ([nm],[])
 best:nm≠g->zey lrs (za1 nm lrs hm) b
 told:∀o∈os,zaf tm o=zdw hrs b o
 last:∀y,zeL L y=zaf tm y
noncomputable def zeU(C:Addr):Sp:=λvs H Q _=>∃(p dx hd td ga:Addr) (v:V) (nm:Str) (n:Int) (g:Str) (hs:List Str) (ps:List (Str×Str)) (lks hds:List D),vs=[.ref p]/\HsAt C hs H p dx hd td ga v nm n none [] [] [] []/\Rep H v (zal g hs ps lks hds)/\TownOk g hs ps lks hds/\(∀d∈hds,∃ds,d= .tup ds/\ds.length<=12)/\nm∈hs/\
 ∀(l ga':Addr) (us:List V) (n':Int) (b:Option WM) (kt:List (Key×V)) (tm:Tb) (L:List Lt) (H':Hp),H l=none->H' l=some (.lst us)->LtsO H' nm us L->HsAt C hs H' p dx hd td ga' v nm n' b [] [] kt tm->HInv g nm (zo hs lks nm) (zo hs hds nm) (due hs ps nm) b [] tm L->(∀c o,c≠p->c≠hd->c≠td->H c=some o->H' c=some o)->L.length<=10->L=za3 (zo hs hds nm) b [] (due hs ps nm)->tm=zbi (zo hs hds nm) b [] (due hs ps nm)->Q (.ref l) H'
theorem zhx(h:Rep H v (zal g hs ps lks hds)):∃pt us,v= .ref pt/\H pt=some (.tup us)/\us[0]?=some (.str g):=by
 obtain⟨pt,us,rfl,hp,rr,_⟩:=h.ofT
 have h0:0<us.length:=by rw[rr.1];exact Nat.zero_lt_succ _
 have:=rr.2 0 us[0] (.str g) (G0 h0) rfl
 refine⟨pt,us,rfl,hp,?_⟩
 rw[G0 h0]
 cases hh:us[0] with
 |str y=>rw[hh] at this;cases this;rfl
 |_=>rw[hh] at this;cases this
theorem zgA(Y:Ev K mg):FnOk P w K mg base CX0 8 Y.a_House_begin Y.d_House_begin zaz (zeU Y.c_House):=by
 have G_House_letters:FnOk P w K mg base CX0 7 Y.a_House_letters Y.d_House_letters zam (zfY Y.c_House):=zhm Y
 have G_House_go_by:FnOk P w K mg base CX0 1 Y.a_House_go_by Y.d_House_go_by zaA (zfW Y.c_House):=zg9 Y
 refine Y.House_begin.fn.okQ zgS (λvs H Q E h=>?_) `Y2
 ·obtain ⟨p,dx,hd,td,ga,v,nm,n,g,hs,ps,lks,hds,rfl,_⟩:=h;rfl
 ·obtain ⟨p,dx,hd,td,ga,v,nm,n,g,hs,ps,lks,hds,rfl,A0,hv,T,hf,hnm,q⟩:=h
  obtain⟨pt,us,rfl,hpt,h0⟩:=zhx hv
  have hp:=A0.hp
  have npt:p≠td:=zr hp A0.ht `Z3
  have nph:p≠hd:=zr hp A0.hh `Z3
  refine⟨_,(zfg (zaw (zQ zav (zP (qv 0)) (zS zG (zP (qv 0)) zf)) (zj (zaV (zbu (qv 0) Y.k_House Y.House_go_by.m G_House_go_by (hr.mono ⋯) Y.House_go_by.b .nil zk (za (zK (za (zK (za (zP (qv 0)) zd)) (za (zK zd) zd))) zd)))) z7)
   (zj (zv (zaY (qv 0) Y.k_House Y.House_letters.m G_House_letters (hr.mono ⋯) Y.House_letters.b .nil zk)))),?_⟩
  refine⟨λσ' H'=>σ'=[some (.ref p)]/\∃ga' n' b,H' p=some (.ins Y.c_House dx (zcy (.ref pt) nm hd td ga' n'))/\GoR H' ga' b/\GoOk nm b/\(nm=g->b=some ([nm],[]))/\(nm≠g->b=none)/\Keep p H H',?_,?_⟩
  ·refine ⟨_,rfl,p,_,dx,_,_,rfl,hp,Y.k_House,Y.n_House_name,zb8,_,rfl,p,_,dx,_,_,rfl,hp,Y.k_House,Y.n_House_place,zcs,pt,us,0,_,rfl,rfl, .inl (.inl hpt),zF (j:=0) h0,rfl,_,rfl,?_⟩
   rw[show decide (V.str nm=V.str g)=decide (nm=g)from decide_eq_decide.mpr ⟨λz=>by injection z,λz=>by rw[z]⟩]
   by_cases e:nm=g
   ·rw[V0 e]
    refine zbE rfl ⟨_,rfl,p,dx,_,rfl,hp,rfl,_,rfl,p,_,dx,_,_,rfl,hp,Y.k_House,Y.n_House_name,zb8,few rfl,λwt hwt=>⟨few rfl,λmt hmt=>⟨few rfl,λg' hg'=>?_⟩⟩⟩
    have S1:=Same.new (o:= .tup [V.str nm]) hwt
    have S2:=Same.new (o:= .tup ([]:List V)) hmt
    have S3:=Same.new (o:= .tup [V.ref wt,V.ref mt]) hg'
    have s13:=S1.trans (S2.trans S3)
    have hp3:=s13 _ _ hp
    have e1:=S3 _ _ (S2 _ _ (zb (H:=H) (a:=wt) (o:= .tup [V.str nm])))
    have e2:=S3 _ _ (zb (H:=upd H wt (.tup [V.str nm])) (a:=mt) (o:= .tup ([]:List V)))
    have gok:GoOk nm (some ([nm],[])):=⟨⟨[],rfl,T1 _⟩,λy hy=>by rw[X1.mp hy];exact T.names nm hnm,(λ_ z=>nomatch z),T1 _⟩
    have G3:GoR (upd (upd (upd H wt (.tup [V.str nm])) mt (.tup ([]:List V))) g' (.tup [V.ref wt,V.ref mt])) g' (some ([nm],[])):=⟨_,_,zb,wt,mt,rfl,rfl,e1,e2⟩
    refine⟨p,dx,hd,td,ga,g', .ref pt,nm,n,none,some ([nm],[]),rfl,hp3,A0.gr.mono λc xs e=>s13 _ _ e,G3,trivial,gok.wm,λn'=>⟨rfl,g',n',_,zb,G3.mono λc xs e=>?_,gok,λ_=>rfl,λz=>absurd e z,(Keep.of s13).trans (Keep.upd _ _ _)⟩⟩
    rw[zc (zr e hp3 `Z3)];exact e
   ·rw[b0 e]
    exact zbo rfl ⟨rfl,ga,n,none,hp,A0.gr,trivial,λz=>absurd z e,λ_=>rfl,Keep.refl _ _⟩
  ·rintro σ' H1 ⟨rfl,ga',n',b,hp1,G1,gok,eg,eg',k1⟩
   have htd1:=k1 _ _ (Ne.symm npt) A0.ht
   have m1:∀c xs,H c=some (.tup xs)->H1 c=some (.tup xs):=λc xs e=>k1 _ _ (zr e hp `Z3) e
   have hv1:=zI hv T m1
   refine⟨_,rfl,p,dx,_,rfl,hp1,rfl,p,dx,hd,td,ga', .ref pt,nm,n',b,[],[],g,hs,ps,lks,hds,rfl,hp1,htd1, .nil, .nil,hv1,T,hf,hnm,G1,gok,λl us2 kt H2 hl hl2 R2 htd2 tb2 tok2 k2=>?_⟩
   have hl0:H l=none:=by
    cases z:H l with
    |none=>rfl
    |some u=>
     by_cases y:l=p
     ·rw[y,hp1] at hl;cases hl
     ·rw[k1 l u y z] at hl;cases hl
   have dl:∀{hr:List D} {b:Option WM} {tm:Tb},(za3 hr b tm (due hs ps nm)).length<=10:=λ{hr b tm}=>K1 zdn (K1 (List.length_filter_le _ _) T.ten)
   have m2:∀c xs,H1 c=some (.tup xs)->H2 c=some (.tup xs):=λc xs e=>k2 _ _ (zr e htd1 `Z3) e
   refine q l ga' us2 n' b kt _ _ H2 hl0 hl2 R2 ⟨k2 _ _ npt hp1,k2 _ _ A0.ne (k1 _ _ (Ne.symm nph) A0.hh), .nil, .nil,htd2,tb2,tok2,G1.mono m2,gok,A0.ne⟩ ⟨eg,λz=>?_,λo ho=>by rw[zdX,T0 ho],?_⟩ (λc o n1 n2 n3 e=>k2 c o n3 (k1 c o n1 e)) dl rfl rfl
   ·rw[eg' z];rfl
   ·exact zeQ (T:=[]) λy=>rfl
theorem zg3{nm:Str}{p:Str×Hr}{e:WM}(h:hrR p.1 p.2)(o:zc6 nm rs p=some e):∃ws,e.1=nm::p.1::ws:=by
 obtain⟨x,n,b⟩:=p
 cases b with
 |none=>cases o
 |some q=>
  obtain⟨w,ms⟩:=q
  have o:(if nm∈w\/zbU (zH (nm::w) ms rs)=true then none else some (nm::w,ms))=some e:=o
  by_cases c:nm∈w\/zbU (zH (nm::w) ms rs)=true
  ·rw[T0 c] at o;cases o
  ·rw[N0 c] at o
   cases o
   obtain⟨⟨ws,ew⟩,_⟩:=h
   exact⟨ws,by show nm::w=_;rw[ew]⟩
theorem zgm{nm:Str}{rs:List D}:∀{m:Tb},(m.map (·.1)).Nodup->(∀p∈m,hrR p.1 p.2)->((za1 nm rs m).map (·.1)).Nodup
 |[],_,_=>List.nodup_nil
 |p::m,nd,h=>by
  rw[N1,D2] at nd
  have ih:=zgm (nm:=nm) (rs:=rs) (m:=m) nd.2 λp hp=>h p (Z0 _ hp)
  show((List.filterMap (zc6 nm rs) (p::m)).map (·.1)).Nodup
  cases e:zc6 nm rs p with
  |none=>rw[List.filterMap_cons_none e];exact ih
  |some w=>
   rw[List.filterMap_cons_some e,N1,D2]
   refine⟨λz=>?_,ih⟩
   obtain⟨w',hw',ew⟩:=V1.mp z
   obtain⟨p',hp',e'⟩:=List.mem_filterMap.mp hw'
   obtain⟨ws,h1⟩:=zg3 (h p D1) e
   obtain⟨ws',h2⟩:=zg3 (h p' (Z0 _ hp')) e'
   rw[h1,h2] at ew
   injection ew with _ ew
   injection ew with ew _
   exact nd.1 (by rw[←ew];exact V1.mpr ⟨p',hp',rfl⟩)
noncomputable def zgj(C:Addr):Sp:=λvs H Q _=>∃(p dx hd td ga:Addr) (v:V) (nm:Str) (n:Int) (b:Option WM) (kh kt:List (Key×V)) (hm tm:Tb) (L0:List Lt) (g:Str) (hs:List Str) (ps:List (Str×Str)) (lks hds:List D),vs=[.ref p]/\HsAt C hs H p dx hd td ga v nm n b kh hm kt tm/\(nm=g->b=some ([nm],[]))/\(∀y,zeL L0 y=zaf tm y)/\Rep H v (zal g hs ps lks hds)/\TownOk g hs ps lks hds/\(∀d∈hds,∃ds,d= .tup ds/\ds.length<=12)/\nm∈hs/\
 ∀(l ga':Addr) (us:List V) (n':Int) (b':Option WM) (kt':List (Key×V)) (tm':Tb) (L:List Lt) (H':Hp),H l=none->H' l=some (.lst us)->LtsO H' nm us L->HsAt C hs H' p dx hd td ga' v nm n' b' kh hm kt' tm'->HInv g nm (zo hs lks nm) (zo hs hds nm) (due hs ps nm) b' hm tm' (L0 ++L)->(∀c o,c≠p->c≠td->H c=some o->H' c=some o)->L.length<=10->L=za3 (zo hs hds nm) b' tm (due hs ps nm)->tm'=zbi (zo hs hds nm) b' tm (due hs ps nm)->Q (.ref l) H'
theorem zjg(Y:Ev K mg):FnOk P w K mg base CX0 8 Y.a_House_choose Y.d_House_choose zaZ (zgj Y.c_House):=by
 have G_House_letters:FnOk P w K mg base CX0 7 Y.a_House_letters Y.d_House_letters zam (zfY Y.c_House):=zhm Y
 have G_House_go_by:FnOk P w K mg base CX0 1 Y.a_House_go_by Y.d_House_go_by zaA (zfW Y.c_House):=zg9 Y
 have G_House_open_ways:FnOk P w K mg base CX0 6 Y.a_House_open_ways Y.d_House_open_ways zaq (zjl Y.c_House):=zlZ Y
 have G_most_liked:FnOk P w K mg base CX0 7 Y.a_most_liked Y.d_most_liked zbN zrT:=zgL Y
 refine Y.House_choose.fn.okQ zfT (λvs H Q E h=>?_) `Y2
 ·obtain ⟨p,dx,hd,td,ga,v,nm,n,b,kh,kt,hm,tm,L0,g,hs,ps,lks,hds,rfl,_⟩:=h;rfl
 ·obtain ⟨p,dx,hd,td,ga,v,nm,n,b,kh,kt,hm,tm,L0,g,hs,ps,lks,hds,rfl,A0,eg,lst,hv,T,hf,hnm,q⟩:=h
  obtain⟨pt,us,rfl,hpt,h0⟩:=zhx hv
  have hp:=A0.hp
  have npt:p≠td:=zr hp A0.ht `Z3
  have nph:p≠hd:=zr hp A0.hh `Z3
  obtain⟨j,rs,hj,hlj,er,hlk⟩:=zlo T hnm
  have hml:=A0.oh.len
  have T10:=T.ten
  rw[er] at q
  refine⟨_,(zfg (zaw (zQ znL (zP (qv 0)) (zS zG (zP (qv 0)) zf)) (zj (zaV (zbu (qv 0) Y.k_House Y.House_go_by.m G_House_go_by (hr.mono ⋯) Y.House_go_by.b .nil zk (za (zm G_most_liked (hr.mono ⋯) Y.most_liked.mg Y.most_liked.kp Y.most_liked.b .nil zk (za (zP (qv 0)) (za (zaY (qv 0) Y.k_House Y.House_open_ways.m G_House_open_ways (hr.mono ⋯) Y.House_open_ways.b .nil zk) zd))) zd)))) z7)
   (zj (zv (zaY (qv 0) Y.k_House Y.House_letters.m G_House_letters (hr.mono ⋯) Y.House_letters.b .nil zk)))),?_⟩
  refine⟨λσ' H'=>σ'=[some (.ref p)]/\∃ga' n' b',H' p=some (.ins Y.c_House dx (zcy (.ref pt) nm hd td ga' n'))/\GoR H' ga' b'/\GoOk nm b'/\(nm=g->b'=some ([nm],[]))/\(nm≠g->zey rs (za1 nm rs hm) b')/\Keep p H H',?_,?_⟩
  ·refine ⟨_,rfl,p,_,dx,_,_,rfl,hp,Y.k_House,Y.n_House_name,zb8,_,rfl,p,_,dx,_,_,rfl,hp,Y.k_House,Y.n_House_place,zcs,pt,us,0,_,rfl,rfl, .inl (.inl hpt),zF (j:=0) h0,rfl,_,rfl,?_⟩
   rw[show decide (V.str nm=V.str g)=decide (nm=g)from decide_eq_decide.mpr ⟨λz=>by injection z,λz=>by rw[z]⟩]
   by_cases e:nm=g
   ·rw[V0 e]
    exact zbo rfl ⟨rfl,ga,n,b,hp,A0.gr,A0.go,eg,λz=>absurd e z,Keep.refl _ _⟩
   ·rw[b0 e]
    have uq:=zgm (nm:=nm) (rs:=rs) A0.oh.nd λp hp=>(A0.oh.mem p hp).2
    refine zbE rfl ⟨_,rfl,p,dx,_,rfl,hp,rfl,_,rfl,p,_,dx,_,_,rfl,hp,Y.k_House,Y.n_House_place,zcs,_,rfl,p,dx,_,rfl,hp,rfl,p,dx,hd,td,ga, .ref pt,nm,n,kh,hm,g,hs,ps,lks,hds,rfl,hp,A0.hh,A0.th,A0.oh,hv,T,hnm,λl us' H1 hl hl1 R1 s1=>?_⟩
    rw[er] at R1
    refine⟨.ref pt,l,us',za1 nm rs hm,nm,g,hs,ps,lks,hds,j,rs,rfl,hv.same s1,T,hj,hlj,hl1,R1,?_,uq,λe he=>?_,λg' b' H2 be G2 s2=>?_⟩
    ·exact Nat.lt_of_le_of_lt (List.length_filterMap_le _ _) ()
    ·obtain ⟨x,r,lk,o⟩:=(zhw A0.oh.nd).mp he
     exact(zlv (T.names nm hnm) hlk (A0.oh.look lk) o).1
    have s12:=s1.trans s2
    have gok:GoOk nm b':=by
     cases b' with
     |none=>exact trivial
     |some e=>
      obtain⟨x,r,lk,o⟩:=(zhw A0.oh.nd).mp be.1
      exact(zlv (T.names nm hnm) hlk (A0.oh.look lk) o).2
    have hp2:=s12 _ _ hp
    refine⟨p,dx,hd,td,ga,g', .ref pt,nm,n,b,b',rfl,hp2,A0.gr.mono λc xs e=>s12 _ _ e,G2,A0.go.wm,gok.wm,λn'=>⟨rfl,g',n',b',zb,G2.mono λc xs e=>?_,gok,λz=>absurd z e,λ_=>be,(Keep.of s12).trans (Keep.upd _ _ _)⟩⟩
    rw[zc (zr e hp2 `Z3)];exact e
  ·rintro σ' H1 ⟨rfl,ga',n',b',hp1,G1,gok,eg,be,k1⟩
   have htd1:=k1 _ _ (Ne.symm npt) A0.ht
   have m1:∀c xs,H c=some (.tup xs)->H1 c=some (.tup xs):=λc xs e=>k1 _ _ (zr e hp `Z3) e
   have hv1:=zI hv T m1
   refine⟨_,rfl,p,dx,_,rfl,hp1,rfl,p,dx,hd,td,ga', .ref pt,nm,n',b',kt,tm,g,hs,ps,lks,hds,rfl,hp1,htd1,A0.tt.mono m1,A0.ot,hv1,T,hf,hnm,G1,gok,λl us2 kt2 H2 hl hl2 R2 htd2 tb2 tok2 k2=>?_⟩
   have hl0:H l=none:=by
    cases z:H l with
    |none=>rfl
    |some u=>
     by_cases y:l=p
     ·rw[y,hp1] at hl;cases hl
     ·rw[k1 l u y z] at hl;cases hl
   have dl:∀{hr:List D} {b:Option WM} {tm:Tb},(za3 hr b tm (due hs ps nm)).length<=10:=λ{hr b tm}=>K1 zdn (K1 (List.length_filter_le _ _) T.ten)
   have m2:∀c xs,H1 c=some (.tup xs)->H2 c=some (.tup xs):=λc xs e=>k2 _ _ (zr e htd1 `Z3) e
   have m12:∀c xs,H c=some (.tup xs)->H2 c=some (.tup xs):=λc xs e=>m2 _ _ (m1 _ _ e)
   exact q l ga' us2 n' b' kt2 _ _ H2 hl0 hl2 R2 ⟨k2 _ _ npt hp1,k2 _ _ A0.ne (k1 _ _ (Ne.symm nph) A0.hh),A0.th.mono m12,A0.oh,htd2,tb2,tok2,G1.mono m2,gok,A0.ne⟩ ⟨eg,be,λo ho=>by rw[zdX,T0 ho],zeQ lst⟩ (λc o n1 n3 e=>k2 c o n3 (k1 c o n1 e)) dl rfl rfl
noncomputable def zeq(C:Addr):Sp:=λvs H Q _=>∃(p dx hd td ga:Addr) (v lv:V) (nm one:Str) (r:Hr) (n:Int) (b:Option WM) (kh kt:List (Key×V)) (hm tm:Tb) (L0:List Lt) (g:Str) (hs:List Str) (ps:List (Str×Str)) (lks hds:List D),vs=[.ref p,lv]/\LtO H lv one nm r/\one∈hs/\hrR one r/\HsAt C hs H p dx hd td ga v nm n b kh hm kt tm/\HInv g nm (zo hs lks nm) (zo hs hds nm) (due hs ps nm) b hm tm L0/\Rep H v (zal g hs ps lks hds)/\TownOk g hs ps lks hds/\(∀d∈hds,∃ds,d= .tup ds/\ds.length<=12)/\nm∈hs/\
 ∀(l ga':Addr) (us:List V) (n':Int) (b':Option WM) (kh' kt':List (Key×V)) (tm':Tb) (L:List Lt) (H':Hp),H l=none->H' l=some (.lst us)->LtsO H' nm us L->HsAt C hs H' p dx hd td ga' v nm n' b' kh' (zbv hm (one,r)) kt' tm'->HInv g nm (zo hs lks nm) (zo hs hds nm) (due hs ps nm) b' (zbv hm (one,r)) tm' (L0 ++L)->(∀c o,c≠p->c≠hd->c≠td->H c=some o->H' c=some o)->L.length<=10->((r.1<=zbX (zu hm one)/\L=[]/\tm'=tm/\b'=b)\/(¬r.1<=zbX (zu hm one)/\L=za3 (zo hs hds nm) b' tm (due hs ps nm)/\tm'=zbi (zo hs hds nm) b' tm (due hs ps nm)))->Q (.ref l) H'
theorem zeW(Y:Ev K mg):FnOk P w K mg base CX0 9 Y.a_House_hear Y.d_House_hear zay (zeq Y.c_House):=by
 have G_House_heard:FnOk P w K mg base CX0 1 Y.a_House_heard Y.d_House_heard zao (zdE Y.c_House Y.a_NOTHING):=zed Y
 have G_House_choose:FnOk P w K mg base CX0 8 Y.a_House_choose Y.d_House_choose zaZ (zgj Y.c_House):=zjg Y
 refine Y.House_hear.fn.okQ zax (λvs H Q E h=>?_) `Y2
 ·obtain ⟨p,dx,hd,td,ga,v,lv,nm,one,r,n,b,kh,kt,hm,tm,L0,g,hs,ps,lks,hds,rfl,_⟩:=h;rfl
 ·obtain ⟨p,dx,hd,td,ga,v,lv,nm,one,r,n,b,kh,kt,hm,tm,L0,g,hs,ps,lks,hds,rfl,⟨t,x,y,rfl,ht,wa⟩,hone,hrr,A0,I0,hv,T,hf,hnm,q⟩:=h
  have hp:=A0.hp
  have npt:p≠td:=zr hp A0.ht `Z3
  have nph:p≠hd:=zr hp A0.hh `Z3
  have hml:=A0.oh.len
  have kl:=A0.th.len
  have T10:=T.ten
  refine⟨_,(zg (zcC (qv 1) (zc3 5 rfl (zt (zp 2 zax.nd) (zt (zp 3 zax.nd) (zt (zp 4 zax.nd) (zt (zp 5 zax.nd) (zt (zp 6 zax.nd) zaE)))))))
   (zg (zaw (zQ zix (qv 4) (zS zG (zbu (qv 0) Y.k_House Y.House_heard.m G_House_heard (hr.mono ⋯) Y.House_heard.b .nil zk (za (qv 2) zd)) zf)) (zj (zv (zdx zd))) z7)
   (zg (zhK (hu1 hr) (zP (qv 0)) (qv 2) (zK (za (qv 4) (za (qv 5) (za (qv 6) zd)))))
   (zj (zv (zaY (qv 0) Y.k_House Y.House_choose.m G_House_choose (hr.mono ⋯) Y.House_choose.b .nil zk)))))),?_⟩
  refine⟨_,rfl,t,_,rfl, .inl (.inl ht),rfl,_,_,rfl,_,_,rfl,_,_,rfl,_,_,rfl,_,_,rfl,rfl,?_⟩
  refine⟨_,rfl,_,rfl,p,dx,_,rfl,hp,rfl,_,rfl,p,dx,hd,td,ga,v,nm,one,n,kh,rfl,hp,A0.hh,?_⟩
  obtain⟨A3,x3,y3,eA,hA⟩:∃A x y,(zaF kh (Sum.inr one)).getD (.ref Y.a_NOTHING)= .ref A/\SqT K H A [.int (zbX (zu hm one)),x,y]:=by
   rcases A0.th.look one with⟨e1,e2⟩|⟨r,v',e1,e2,t,x,y,rfl,ht,wa⟩
   ·rw[e1,e2];exact⟨Y.a_NOTHING,_,_,rfl,Y.t_NOTHING _⟩
   ·rw[e1,e2];exact⟨t,x,y,rfl, .inl (.inl ht)⟩
  rw[eA]
  refine⟨A3,_,0,_,rfl,rfl,hA,at0,_,_,rfl,rfl,_,rfl,?_⟩
  have eh:zbv hm (one,r)=if r.1<=zbX (zu hm one)then hm else zdv hm one r:=rfl
  by_cases c:r.1<=zbX (zu hm one)
  ·rw[T0 c] at eh
   rw[eh] at q
   refine zbE (V0 c) ⟨few rfl,λl hl=>?_⟩
   have S:=Same.new (o:= .lst ([]:List V)) hl
   have mS:∀c xs,H c=some (.tup xs)->(upd H l (.lst ([]:List V))) c=some (.tup xs):=λc xs e=>S _ _ e
   exact q l ga [] n b kh kt tm [] _ hl zb .nil ⟨S _ _ A0.hp,S _ _ A0.hh,A0.th.mono mS,A0.oh,S _ _ A0.ht,A0.tt.mono mS,A0.ot,A0.gr.mono mS,A0.go,A0.ne⟩ (by rw[List.append_nil];exact I0) (λc o _ _ _ e=>S _ _ e) (T1 _) (.inl ⟨c,rfl,rfl,rfl⟩)
  ·rw[N0 c] at eh
   rw[eh] at q
   refine zbo (by rw[b0 c]) ?_
   refine⟨_,rfl,_,rfl,_,rfl,few rfl,λpr hpr=>?_⟩
   have S1:=Same.new (o:= .tup [V.int r.1,x,y]) hpr
   have e1:(upd H pr (.tup [V.int r.1,x,y])) pr=some (.tup [V.int r.1,x,y]):=zb
   generalize (upd H pr (HO.tup [V.int r.1,x,y]))=H1 at *
   have hh1:=S1 _ _ A0.hh
   refine⟨_,rfl,p,_,dx,_,_,rfl,S1 _ _ hp,Y.k_House,Y.n_House_hearings,zhS,_,rfl,hd,_,rfl, .inl ⟨kh,Sum.inr one,hh1,rfl,zn (),rfl⟩,?_⟩
   have m12:∀c xs,H1 c=some (.tup xs)->upd H1 hd (.dK (zah kh (Sum.inr one) (.ref pr))) c=some (.tup xs):=λc xs e=>by rw[zc (zr e hh1 `Z3)];exact e
   have k12:Keep hd H1 (upd H1 hd (.dK (zah kh (Sum.inr one) (.ref pr)))):=Keep.upd _ _ _
   have hh2:upd H1 hd (.dK (zah kh (Sum.inr one) (.ref pr))) hd=some (.dK (zah kh (Sum.inr one) (.ref pr))):=zb
   generalize (upd H1 hd (.dK (zah kh (Sum.inr one) (.ref pr))))=H2 at *
   have m2:∀c xs,H c=some (.tup xs)->H2 c=some (.tup xs):=λc xs e=>m12 _ _ (S1 _ _ e)
   have k2:∀c o,c≠hd->H c=some o->H2 c=some o:=λc o n e=>k12 c o n (S1 _ _ e)
   have hp2:=k2 _ _ nph hp
   have A2:HsAt Y.c_House hs H2 p dx hd td ga v nm n b (zah kh (Sum.inr one) (.ref pr)) (zdv hm one r) kt tm:=⟨hp2,hh2,(A0.th.mono m2).put ⟨pr,x,y,rfl,m12 _ _ e1,wa.mono m2⟩,A0.oh.put hone hrr,k2 _ _ (Ne.symm A0.ne) A0.ht,A0.tt.mono m2,A0.ot,A0.gr.mono m2,A0.go,A0.ne⟩
   refine⟨_,rfl,p,dx,_,rfl,hp2,rfl,p,dx,hd,td,ga,v,nm,n,b,_,kt,_,tm,L0,g,hs,ps,lks,hds,rfl,A2,I0.goal,I0.last,zI hv T m2,T,hf,hnm,λl ga' us n' b' kt' tm' L H' hl hl' R' A' I' k' ll eL eT=>?_⟩
   have hl0:H l=none:=by
    cases z:H l with
    |none=>rfl
    |some u=>
     by_cases y:l=hd
     ·rw[y,hh2] at hl;cases hl
     ·rw[k2 l u y z] at hl;cases hl
   refine q l ga' us n' b' _ kt' tm' L H' hl0 hl' R' A' I' (λc o n1 n2 n3 e=>k' c o n1 n3 (k2 c o n2 e)) ll (.inr ⟨c,eL,eT⟩)
def RealW(hs O:List Str)(x:Str):Option WM->Prop
 |none=>True
 |some (w,ms)=>(∃ws,w=x::ws)/\w.Nodup/\(∀y∈w,y∈hs)/\Mk0 O ms
structure Tn(g:Str)(hs:List Str)(ps:List (Str×Str))(lks hds:List D)(O:List Str):Prop where
 T:TownOk g hs ps lks hds
 po:Pool hs lks hds O
 hf:∀d∈hds,∃ds,d= .tup ds/\ds.length<=12
theorem RealW.hr(N:Tn g hs ps lks hds O){r:Hr}(h:RealW hs O x r.2):hrR x r:=by
 obtain⟨n,b⟩:=r
 match b,h with
 |none,_=>exact trivial
 |some (w,ms),⟨h1,h2,h3,h4⟩=>
  have:=h4.len N.po.few
  exact⟨h1,K1 (zbP h2 h3) N.T.ten,λy hy=>N.T.names y (h3 y hy),λy hy=>N.po.nm y (h4.mem y hy),()⟩
theorem RealW.wm(N:Tn g hs ps lks hds O){b:Option WM}(h:RealW hs O x b):zdK b:=by
 match b,h with
 |none,_=>exact trivial
 |some (w,ms),⟨h1,h2,h3,h4⟩=>exact ⟨λy hy=>N.T.names y (h3 y hy),λy hy=>N.po.nm y (h4.mem y hy)⟩
theorem zeZ{ws:List Str}{to:Option Str}:∀{rs:List D} {t u:List Str},(∀r∈rs,∃cs x,r= .tup [.tup cs,x]/\(∀c∈cs,zA c=true)/\(x= .tup [.str "keep"]\/∃w m,x= .tup [.str w, .str m]/\(w="put"\/w="strike")/\m∈O))->Mk0 O t->zD ws to rs t=some u->Mk0 O u
 |[],t,u,_,M,h=>by
  rw[zD] at h
  cases h
  exact M
 |r::rs,t,u,hr,M,h=>by
  rw[zD] at h
  have hr':=λr' h'=>hr r' (Z0 _ h')
  by_cases z:zeY ws t to (zho r)=true
  ·rw[T0 z] at h
   obtain⟨cs,x,rfl,_,hx⟩:=hr r D1
   rcases hx with rfl|⟨w,m,rfl,_,hm⟩
   ·cases h
   ·exact zeZ hr' (M.next hm) h
  ·rw[N0 z] at h
   exact zeZ hr' M h
theorem znq(N:Tn g hs ps lks hds O){nm o:Str}(hn:nm∈hs){b:Option WM}(h:RealW hs O nm b):RealW hs O nm (zdw (zo hs hds nm) b o):=by
 obtain⟨j,d,e1,e2,hm⟩:=znd N.T hn
 obtain⟨rs,rfl,hk⟩:=zlG (N.T.hands d hm) (N.po.hd d hm)
 match b,h with
 |none,_=>exact trivial
 |some (w,ms),⟨h1,h2,h3,h4⟩=>
  show RealW hs O nm ((zD w (some o) (zo hs hds nm) ms).map λt=>(w,t))
  rw[zfy N.T.hs_nd e1 e2]
  cases e:zD w (some o) rs ms with
  |none=>exact trivial
  |some t=>exact ⟨h1,h2,h3,zeZ hk.2 h4 e⟩
noncomputable abbrev S3:=Option WM×Tb×Tb
structure SOk(g:Str)(hs:List Str)(ps:List (Str×Str))(lks hds:List D)(O:List Str)(nm:Str)(s:S3):Prop where
 hi:∃L0,HInv g nm (zo hs lks nm) (zo hs hds nm) (due hs ps nm) s.1 s.2.1 s.2.2 L0
 b:RealW hs O nm s.1
 h:∀p∈s.2.1,RealW hs O p.1 p.2.2
 k:(s.2.1.map (·.1)).Nodup
structure HearR(hs:List Str)(ps:List (Str×Str))(hds:List D)(nm:Str)(s:S3)(one:Str)(r:Hr)(s':S3)(L:List Lt):Prop where
 h:s'.2.1=zbv s.2.1 (one,r)
 n:L.length<=10
 e:(r.1<=zbX (zu s.2.1 one)/\L=[]/\s'.2.2=s.2.2/\s'.1=s.1)\/(¬r.1<=zbX (zu s.2.1 one)/\L=za3 (zo hs hds nm) s'.1 s.2.2 (due hs ps nm)/\s'.2.2=zbi (zo hs hds nm) s'.1 s.2.2 (due hs ps nm))
theorem zn4(N:Tn g hs ps lks hds O){nm:Str}{m:Tb}(h:∀p∈m,RealW hs O p.1 p.2.2)(nd:(m.map (·.1)).Nodup){b b':Option WM}(h1:zey (zo hs lks nm) (za1 nm (zo hs lks nm) m) b)(h2:zey (zo hs lks nm) (za1 nm (zo hs lks nm) m) b'):b=b':=by
 refine zhg (λ_=>Iff.rfl) (λe he e' he' ee=>?_) h1 h2
 have nd:=zgm (nm:=nm) (rs:=zo hs lks nm) nd λp hp=>(h p hp).hr N
 obtain⟨i,hi,ei⟩:=y1 he
 obtain⟨j,hj,ej⟩:=y1 he'
 have z1:((za1 nm (zo hs lks nm) m).map (·.1))[i]?=some e.1:=by rw[P0,G0 hi,ei];rfl
 have z2:((za1 nm (zo hs lks nm) m).map (·.1))[j]?=some e.1:=by rw[P0,G0 hj,ej,ee];rfl
 have:=zbQ nd z1 z2
 subst this
 rw[←ei,←ej]
theorem znu(N:Tn g hs ps lks hds O){nm one:Str}{r:Hr}{s s1 s2:S3}{L1 L2:List Lt}(k1:SOk g hs ps lks hds O nm s1)(k2:SOk g hs ps lks hds O nm s2)(a:HearR hs ps hds nm s one r s1 L1)(b:HearR hs ps hds nm s one r s2 L2):s1=s2/\L1=L2:=by
 obtain⟨b1,h1,t1⟩:=s1
 obtain⟨b2,h2,t2⟩:=s2
 have e1:h1=zbv s.2.1 (one,r):=a.h
 have e2:h2=zbv s.2.1 (one,r):=b.h
 have eb:b1=b2:=by
  obtain⟨_,i1⟩:=k1.hi
  obtain⟨_,i2⟩:=k2.hi
  by_cases c:nm=g
  ·exact (i1.goal c).trans (i2.goal c).symm
  ·have x1:=i1.best c
   have x2:=i2.best c
   have z1:=k1.h
   have z2:=k1.k
   dsimp only at x1 x2 z1 z2
   rw[e2,←e1] at x2
   exact zn4 N z1 z2 x1 x2
 subst eb
 have ea:=a.e
 have ebb:=b.e
 dsimp only at ea ebb
 rw[e1,e2]
 rcases ea with⟨c,l,t,_⟩|⟨c,l,t⟩
 ·rcases ebb with⟨_,l',t',_⟩|⟨c',_⟩
  ·rw[l,l',t,t'];exact⟨rfl,rfl⟩
  ·exact absurd c c'
 ·rcases ebb with⟨c',_⟩|⟨_,l',t'⟩
  ·exact absurd c' c
  ·rw[l,l',t,t'];exact⟨rfl,rfl⟩
theorem zlR{nm:Str}(hn:nm∈hs){m:Tb}{b:Option WM}(h:∀p∈m,RealW hs O p.1 p.2.2)(be:zey rs (za1 nm rs m) b):RealW hs O nm b:=by
 cases b with
 |none=>exact trivial
 |some e=>
  obtain⟨⟨x,n,b⟩,hp,o⟩:=List.mem_filterMap.mp be.1
  have hr:=h _ hp
  cases b with
  |none=>cases o
  |some q=>
   obtain⟨w,ms⟩:=q
   have o:(if nm∈w\/zbU (zH (nm::w) ms rs)=true then none else some (nm::w,ms))=some e:=o
   by_cases c:nm∈w\/zbU (zH (nm::w) ms rs)=true
   ·rw[T0 c] at o;cases o
   ·rw[N0 c] at o
    cases o
    obtain⟨h1,h2,h3,h4⟩:=hr
    refine⟨⟨w,rfl⟩,D2.mpr ⟨λz=>c (.inl z),h2⟩,λy hy=>?_,h4⟩
    rcases X0.mp hy with rfl|hy
    ·exact hn
    ·exact h3 y hy
theorem zjj{nm:Str}(hn:nm∈hs){lrs hrs:List D}{os:List Str}{b:Option WM}{hm tm:Tb}{L:List Lt}(i:HInv g nm lrs hrs os b hm tm L)(h:∀p∈hm,RealW hs O p.1 p.2.2):RealW hs O nm b:=by
 by_cases c:nm=g
 ·rw[i.goal c]
  exact⟨⟨[],rfl⟩,`j2,λy hy=>by rw[X1.mp hy];exact hn,⟨List.nodup_nil,λ_ z=>nomatch z⟩⟩
 ·exact zlR hn h (i.best c)
theorem zkC{m:Tb}{one:Str}{r:Hr}(h:∀p∈m,RealW hs O p.1 p.2.2)(nd:(m.map (·.1)).Nodup)(hr:RealW hs O one r.2):(∀p∈zbv m (one,r),RealW hs O p.1 p.2.2)/\((zbv m (one,r)).map (·.1)).Nodup:=by
 unfold zbv
 split
 ·exact ⟨h,nd⟩
 ·refine ⟨λp hp=>?_,zld nd⟩
  rcases zhy hp with hp|rfl
  ·exact h p hp
  ·exact hr
noncomputable abbrev RdL:=List (Str×Lt)
def RdR(hs O:List Str)(R:RdL):Prop:=∀e∈R,e.1∈hs/\e.2.1∈hs/\RealW hs O e.1 e.2.2.2
theorem ziL{rs:List D}{b:Option WM}:∀{os:List Str} {tm:Tb} {p:Lt},p∈za3 rs b tm os->p.1∈os/\p.2.2=zdw rs b p.1
 |[],tm,p,h=>by rw[za3] at h;cases h
 |o::os,tm,p,h=>by
  rw[za3] at h
  rcases N2.mp h with h|h
  ·unfold zgs at h
   split at h
   ·cases h
   ·rw[X1.mp h];exact⟨D1,rfl⟩
  ·obtain ⟨h1,h2⟩:=ziL h;exact⟨Z0 _ h1,h2⟩
theorem zjk(N:Tn g hs ps lks hds O){nm:Str}(hn:nm∈hs){b:Option WM}(h:RealW hs O nm b){tm:Tb}:RdR hs O ((za3 (zo hs hds nm) b tm (due hs ps nm)).map λl=>(nm,l)):=by
 intro e he
 obtain⟨l,hl,rfl⟩:=V1.mp he
 obtain⟨h1,h2⟩:=ziL hl
 refine⟨hn,(F2.mp h1).1,?_⟩
 show RealW hs O nm l.2.2
 rw[h2]
 exact znq N hn h
theorem zfa(N:Tn g hs ps lks hds O){nm one:Str}(hn:nm∈hs){r:Hr}{s s':S3}{L L0:List Lt}(k:SOk g hs ps lks hds O nm s)(hr:RealW hs O one r.2)(a:HearR hs ps hds nm s one r s' L)(i:HInv g nm (zo hs lks nm) (zo hs hds nm) (due hs ps nm) s'.1 s'.2.1 s'.2.2 L0):SOk g hs ps lks hds O nm s'/\RdR hs O (L.map λl=>(nm,l)):=by
 obtain⟨h1,h2⟩:=zkC k.h k.k hr
 rw[←a.h] at h1 h2
 have hb:=zjj hn i h1
 refine⟨⟨⟨_,i⟩,hb,h1,h2⟩,?_⟩
 rcases a.e with⟨_,l,_⟩|⟨_,l,_⟩
 ·rw[l];exact λe he=>nomatch he
 ·rw[l];exact zjk N hn hb
theorem zsE{k:Nat}(r:Room k A):A.units+66<cLine:=by have:=r.un;lia
theorem HsAt.hold{p dx hd td:Addr}{nm:Str}{n:Int}{b:Option WM}{kt:List (Key×V)}{hm tm:Tb}(a:HsAt C hs H p dx hd td ga v nm n b kh hm kt tm)(m:∀c xs,H c=some (.tup xs)->H' c=some (.tup xs))(h1:∀o,H p=some o->H' p=some o)(h2:∀o,H hd=some o->H' hd=some o)(h3:∀o,H td=some o->H' td=some o):HsAt C hs H' p dx hd td ga v nm n b kh hm kt tm:=
 ⟨h1 _ a.hp,h2 _ a.hh,a.th.mono m,a.oh,h3 _ a.ht,a.tt.mono m,a.ot,a.gr.mono m,a.go,a.ne⟩
structure HA where
 nm:Str
 p:Addr
 dx:Addr
 hd:Addr
 td:Addr
noncomputable def adr(a:HA):List Addr:=[a.p,a.hd,a.td]
noncomputable def zak(As:List HA):List Addr:=As.flatMap adr
noncomputable def ppl(As:List HA):List (Key×V):=As.map λa=>(Sum.inr a.nm, .ref a.p)
def HsE(C:Addr)(hs:List Str)(H:Hp)(v:V)(a:HA)(s:S3):Prop:=∃ga n kh kt,HsAt C hs H a.p a.dx a.hd a.td ga v a.nm n s.1 kh s.2.1 kt s.2.2
def HsAll(C:Addr)(hs:List Str)(H:Hp)(v:V)(As:List HA)(st:Str->S3):Prop:=∀a∈As,HsE C hs H v a (st a.nm)
section
variable{a a':HA}{s:S3}{As:List HA}{st:Str->S3}
theorem HsE.hold(h:HsE C hs H v a s)(m:∀c xs,H c=some (.tup xs)->H' c=some (.tup xs))(k:∀c∈adr a,∀o,H c=some o->H' c=some o):HsE C hs H' v a s:=
 let⟨ga,n,kh,kt,A⟩:=h
 ⟨ga,n,kh,kt,A.hold m (k _ (by simp[adr])) (k _ (by simp[adr])) (k _ (by simp[adr]))⟩
theorem HsAll.hold(h:HsAll C hs H v As st)(m:∀c xs,H c=some (.tup xs)->H' c=some (.tup xs))(k:∀c∈zak As,∀o,H c=some o->H' c=some o):HsAll C hs H' v As st:=
 λa ha=>(h a ha).hold m λc hc=>k c (List.mem_flatMap.mpr ⟨a,ha,hc⟩)
theorem HsAll.same(h:HsAll C hs H v As st)(s:Same H H'):HsAll C hs H' v As st:=h.hold (λc xs e=>s _ _ e) λc _ o e=>s _ _ e
theorem zeF(h:HsAll C hs H v As st){c:Addr}(hc:c∈zak As):∃o,H c=some o:=by
 obtain⟨a,ha,hc⟩:=List.mem_flatMap.mp hc
 obtain⟨ga,n,kh,kt,A⟩:=h a ha
 simp only[adr,X0,j1,or_false] at hc
 rcases hc with rfl|rfl|rfl
 ·exact ⟨_,A.hp⟩
 ·exact ⟨_,A.hh⟩
 ·exact ⟨_,A.ht⟩
theorem zbI(h:HsAll C hs H v As st){c:Addr}(e:H c=some (.tup xs)):c∉zak As:=λhc=>by
 obtain⟨a,ha,hc⟩:=List.mem_flatMap.mp hc
 obtain⟨ga,n,kh,kt,A⟩:=h a ha
 simp only[adr,X0,j1,or_false] at hc
 rcases hc with rfl|rfl|rfl
 ·rw[A.hp] at e;cases e
 ·rw[A.hh] at e;cases e
 ·rw[A.ht] at e;cases e
theorem zN(h:HsAll C hs H v As st){c:Addr}(e:H c=some (.lst xs)):c∉zak As:=λhc=>by
 obtain⟨a,ha,hc⟩:=List.mem_flatMap.mp hc
 obtain⟨ga,n,kh,kt,A⟩:=h a ha
 simp only[adr,X0,j1,or_false] at hc
 rcases hc with rfl|rfl|rfl
 ·rw[A.hp] at e;cases e
 ·rw[A.hh] at e;cases e
 ·rw[A.ht] at e;cases e
theorem zn8(nd:(zak As).Nodup)(h1:a∈As)(h2:a'∈As)(ne:a≠a'){c:Addr}(hc:c∈adr a):c∉adr a':=λhc'=>by
 have nd:=(List.pairwise_flatMap.mp (show(As.flatMap adr).Pairwise (·≠·)from nd))
 obtain⟨i,hi,ei⟩:=y1 h1
 obtain⟨j,hj,ej⟩:=y1 h2
 have pw:=List.pairwise_iff_getElem.mp nd.2
 rcases Nat.lt_trichotomy i j with z|z|z
 ·have:=pw i j hi hj z
  rw[ei,ej] at this
  exact this c hc c hc' rfl
 ·subst z;exact ne (ei.symm.trans ej)
 ·have:=pw j i hj hi z
  rw[ei,ej] at this
  exact this c hc' c hc rfl
theorem zcc(e:As.map (·.nm)=hs)(hx:x∈hs):∃a∈As,a.nm=x/\zaF (ppl As) (Sum.inr x)=some (.ref a.p):=by
 subst e
 induction As with
 |nil=>cases hx
 |cons b As ih=>
  by_cases c:b.nm=x
  ·exact ⟨b,D1,c,zdo (p:=(Sum.inr b.nm, .ref b.p)) (by show Sum.inr b.nm=Sum.inr x;rw[c])⟩
  ·have hx':x∈As.map (·.nm):=by
    rcases X0.mp hx with z|z
    ·exact absurd z.symm c
    ·exact z
   obtain⟨a,ha,h1,h2⟩:=ih hx'
   refine⟨a,Z0 _ ha,h1,?_⟩
   show zaF ((Sum.inr b.nm, .ref b.p)::ppl As) (Sum.inr x)=_
   rw[zbZ (λz=>c (by injection z))]
   exact h2
theorem zjR(e:As.map (·.nm)=hs)(nd:hs.Nodup)(h1:a∈As)(h2:a'∈As)(ee:a.nm=a'.nm):a=a':=by
 obtain⟨i,hi,ei⟩:=y1 h1
 obtain⟨j,hj,ej⟩:=y1 h2
 have z1:hs[i]?=some a.nm:=by rw[←e,P0,G0 hi,ei];rfl
 have z2:hs[j]?=some a.nm:=by rw[←e,P0,G0 hj,ej,ee];rfl
 have:=zbQ nd z1 z2
 subst this
 rw[←ei,←ej]
end
def RdO(H:Hp)(us:List V)(R:RdL):Prop:=us.length=R.length/\∀(i:Nat) v e,us[i]?=some v->R[i]?=some e->LtO H v e.1 e.2.1 e.2.2
section
variable{R R':RdL}
theorem RdO.nil:RdO H [] []:=⟨rfl,λi v e z=>by cases z⟩
theorem RdO.mono(h:RdO H us R)(m:∀c xs,H c=some (.tup xs)->H' c=some (.tup xs)):RdO H' us R:=⟨h.1,λi v e z1 z2=>(h.2 i v e z1 z2).mono m⟩
theorem RdO.app(h:RdO H us R)(h':RdO H us' R'):RdO H (us ++us') (R ++R'):=by
 refine⟨by rw[o0,o0,h.1,h'.1],λi v e z1 z2=>?_⟩
 rcases U1 i us.length with c|c
 ·rw[P2 c] at z1
  rw[P2 (by rw[←h.1];exact c)] at z2
  exact h.2 i v e z1 z2
 ·rw[J2 c] at z1
  rw[J2 (by rw[←h.1];exact c),←h.1] at z2
  exact h'.2 _ v e z1 z2
theorem RdO.erase(h:RdO H us R)(k:Nat):RdO H (us.eraseIdx k) (R.eraseIdx k):=by
 refine⟨by rw[List.length_eraseIdx,List.length_eraseIdx,h.1],λi v e z1 z2=>?_⟩
 rw[List.getElem?_eraseIdx] at z1 z2
 split at z1
 ·rename_i c;rw[T0 c] at z2;exact h.2 _ v e z1 z2
 ·rename_i c;rw[N0 c] at z2;exact h.2 _ v e z1 z2
theorem zp0{nm:Str}{L:List Lt}(h:LtsO H nm us L):∀{i:Nat} {v:V},us[i]?=some v->∃l,L[i]?=some l/\LtO H v nm l.1 l.2:=by
 induction h with
 |nil=>intro i v e;cases e
 |cons h t ih=>
  intro i v e
  cases i with
  |zero=>cases e;exact⟨_,rfl,h⟩
  |succ i=>exact ih e
theorem RdO.lts{nm:Str}{L:List Lt}(h:LtsO H nm us L):RdO H us (L.map λl=>(nm,l)):=by
 refine⟨by rw[D0];exact h.len,λi v e z1 z2=>?_⟩
 obtain⟨l,e1,hl⟩:=zp0 h z1
 rw[P0,e1] at z2
 cases z2
 exact hl
theorem RdO.get(h:RdO H us R){e:Str×Lt}(he:R[i]?=some e):∃v,us[i]?=some v/\LtO H v e.1 e.2.1 e.2.2:=by
 have hi:i<us.length:=by rw[h.1];exact(W1.mp he).1
 exact⟨us[i],G0 hi,h.2 i _ e (G0 hi) he⟩
theorem RdO.of(h:RdO H us R)(hv:us[i]?=some v):∃e,R[i]?=some e/\LtO H v e.1 e.2.1 e.2.2:=by
 have hi:i<R.length:=by rw[←h.1];exact(W1.mp hv).1
 exact⟨R[i],G0 hi,h.2 i v _ hv (G0 hi)⟩
end
noncomputable def zjv(v:V)(d wl:Addr):List (Str×V):=[("place",v),("people", .ref d),("waiting", .ref wl)]
structure RnAt(C CR:Addr)(hs:List Str)(H:Hp)(rp dr d wl:Addr)(v:V)(As:List HA)(st:Str->S3)(us:List V)(R:RdL):Prop where
 hr:H rp=some (.ins CR dr (zjv v d wl))
 hd:H d=some (.dK (ppl As))
 hw:H wl=some (.lst us)
 rd:RdO H us R
 ha:HsAll C hs H v As st
 ns:As.map (·.nm)=hs
 sep:(d::zak As).Nodup
theorem RnAt.same{CR:Addr}{d:Addr}{As:List HA}{st:Str->S3}{R:RdL}(h:RnAt C CR hs H rp dr d wl v As st us R)(s:Same H H'):RnAt C CR hs H' rp dr d wl v As st us R:=
 ⟨s _ _ h.hr,s _ _ h.hd,s _ _ h.hw,h.rd.mono λc xs e=>s _ _ e,h.ha.same s,h.ns,h.sep⟩
theorem zcB{d:Addr}:(zjv v d wl).lookup ("people":Str)=some (.ref d):=by rfl
theorem zca{d:Addr}:(zjv v d wl).lookup ("waiting":Str)=some (.ref wl):=by rfl
noncomputable def zk3:Sp:=λvs H Q _=>∃k:Int,vs=[.int k]/\Q (.bl true) H
theorem zoo(Y:Ev K mg):FnOk P w K mg base CX0 1 Y.a_is_number Y.d_is_number zcf zk3:=by
 refine Y.is_number.fn.okQ zjw (λvs H Q E h=>?_) `Y2
 ·obtain ⟨k,rfl,_⟩:=h;rfl
 ·obtain ⟨k,rfl,q⟩:=h
  obtain⟨t,ht,h1,h2,h3,h4⟩:=(Rep.int (H:=H) k).isi (K:=K)
  refine⟨_,(zj (zv (znW (zz ziR Y.isinstance zdS (za (qv 0) (za (zr6 Y.int zgi) zd))) (znl (zqH (zz ziR Y.isinstance zdS (za (qv 0) (za (zr6 Y.bool zpZ) zd)))))))),?_⟩
  refine⟨_,rfl,_,_,_,_,rfl,ht,h2,_,rfl,?_⟩
  exact zbE rfl ⟨_,rfl,_,_,_,_,rfl,ht,h3,_,rfl,q⟩
noncomputable def zhb:Sp:=λvs H Q _=>∃k a b:Int,vs=[.int k, .int a, .int b]/\a<=k/\k<=b/\Q (.bl true) H
theorem zkB(Y:Ev K mg):FnOk P w K mg base CX0 2 Y.a_is_whole Y.d_is_whole zcE zhb:=by
 have G_is_number:FnOk P w K mg base CX0 1 Y.a_is_number Y.d_is_number zcf zk3:=zoo Y
 refine Y.is_whole.fn.okQ zkz (λvs H Q E h=>?_) `Y2
 ·obtain ⟨k,a,b,rfl,_⟩:=h;rfl
 ·obtain ⟨k,a,b,rfl,h1,h2,q⟩:=h
  refine⟨_,(zj (zv (znW (zm G_is_number (hr.mono ⋯) Y.is_number.mg Y.is_number.kp Y.is_number.b .nil zk (za (qv 0) zd)) (znl (zp2 zix zix (qv 1) (qv 0) (qv 2)))))),?_⟩
  refine⟨_,rfl,k,rfl,_,rfl,?_⟩
  refine zbE rfl ?_
  exact⟨_,rfl,_,rfl,_,_,rfl,rfl,_,rfl,zbE (V0 h1) ⟨_,rfl,_,_,rfl,rfl,by show Q (.bl (decide (k<=b))) H;rw[V0 h2];exact q⟩⟩
noncomputable def ze7:Sp:=λvs H Q _=>∃(l:Addr) (k:Nat) (us:List V) (u:V),vs=[.ref l, .int (k:Int)]/\H l=some (.lst us)/\us.length<=1000/\us[k]?=some u/\Q u H
theorem zgu(Y:Ev K mg):FnOk P w K mg base CX0 3 Y.a_at_place Y.d_at_place zbS ze7:=by
 have G_is_whole:FnOk P w K mg base CX0 2 Y.a_is_whole Y.d_is_whole zcE zhb:=zkB Y
 refine Y.at_place.fn.okQ zkK (λvs H Q E h=>?_) `Y2
 ·obtain ⟨l,k,us,u,rfl,_⟩:=h;rfl
 ·obtain ⟨l,k,us,u,rfl,hl,l1,e,q⟩:=h
  refine⟨_,(zg (zaw (zjt (ziK (zm G_is_whole (hr.mono ⋯) Y.is_whole.mg Y.is_whole.kp Y.is_whole.b .nil zk (za (qv 1) (za zf (za (zC znC (zz z9 Y.len zbr (za (qv 0) zd)) zf) zd)))))) (zj zpT) z7)
   (zj (zv (zS zU (qv 0) (qv 1))))),?_⟩
  have hk:=(W1.mp e).1
  refine⟨_,rfl,_,rfl, .inl ⟨l,us,rfl, .inl (SqL.of hl),_,_,rfl,rfl,k,0,_,rfl,(),(),?_⟩⟩
  exact⟨true,rfl,zbo rfl ⟨_,rfl,_,rfl,l,us,_,u,rfl,rfl,SqL.of hl,zF e,q⟩⟩
noncomputable def zi7(C CR:Addr):Sp:=λvs H Q _=>∃(hs:List Str) (rp dr d wl:Addr) (v:V) (As:List HA) (st:Str->S3) (us:List V) (R:RdL),vs=[.ref rp]/\RnAt C CR hs H rp dr d wl v As st us R/\∀l,H l=none->Q (.ref l) (upd H l (.lst us))
theorem zlV(Y:Ev K mg):FnOk P w K mg base CX0 1 Y.a_Run_road Y.d_Run_road zcI (zi7 Y.c_House Y.c_Run):=by
 refine Y.Run_road.fn.okQ zjY (λvs H Q E h=>?_) `Y2
 ·obtain ⟨hs,rp,dr,d,wl,v,As,st,us,R,rfl,_⟩:=h;rfl
 ·obtain ⟨hs,rp,dr,d,wl,v,As,st,us,R,rfl,A0,q⟩:=h
  refine⟨_,(zj (zv (zZ zh8 Y.list zoS (za (zP (qv 0)) zd)))),?_⟩
  exact⟨_,rfl,rp,_,dr,_,_,rfl,A0.hr,Y.k_Run,Y.n_Run_waiting,zca,wl,us,rfl, .inl (SqL.of A0.hw),λl hl=>q l hl⟩
theorem zlT{hi:Option Int}{Q:VK}(h:H a=some (.tup xs))(k:∀p H',H' p=some (.tup (zco xs lo hi))->Same H H'->Q (.ref p) H'):zsj K (.ref a) lo hi H Q:=
 ⟨a,xs,rfl, .inl (.inl h),λz=>k a H (by rw[z];exact h) (Same.refl _),λp hp=>k p _ zb (Same.new hp)⟩
theorem dgk(e:H a=some (.dK kvs))(ev:zaF kvs (Sum.inr x)=some v):DGet H a (.str x) (some v):=by
 have:=DGet.k (k:=Sum.inr x) e
 rw[ev] at this
 exact this
theorem zk9{R:RdL}{f:Str×Lt->Bool}{ok:Hp->Prop}{src:List (Option Nat)}{Q:VK}(wk:Wk J us.length (λi x=>us[i]?=some x) ok)(hok:∀H',Same H H'->ok H')(r:RdO H us R)(hl:R.length<=900)(e:zeo src σ=none::σr)
 (he:∀(x:V) (d:Str×Lt) (H1:Hp) (Q1:VK),Same H H1->LtO H1 x d.1 d.2.1 d.2.2->d∈R->(∀H2,Same H1 H2->Q1 (.bl (f d)) H2)->te (some x::σr) H1 Q1)
 (q:∀l H',Same H H'->H l=none->H' l=some (.lst ((R.map f).map V.bl))->Q (.ref l) H'):zdU (zb7 0) zn9 te src σ Q J H:=by
 refine zbB wk (λl i ys σ' H'=>(∃o,σ'=o::σr)/\ys=((R.take i).map f).map V.bl/\Same H H') ?_ ?_ ?_ ?_
 ·exact λl h'=>⟨⟨none,e⟩,rfl,Same.new h'⟩
 ·exact λl i ys σ' H' _ p=>hok H' p.2.2
 ·rintro l i y ys σ' H1 h' hi hy ⟨⟨o,rfl⟩,rfl,s1⟩ hl'
  obtain⟨d,hd,rd⟩:=r.of hy
  refine he y d H1 _ s1 (rd.mono λc xs e=>s1 _ _ e) (W0 hd) λH2 s2=>?_
  refine⟨s2 _ _ hl',?_,⟨_,rfl⟩,?_,?_⟩
  ·rw[D0,D0,Z1]
   exact zn ()
  ·rw[Q2,hd]
   simp
  ·exact λc o e=>by
    rw[zc (zh e h')]
    exact s2 _ _ (s1 _ _ e)
 ·rintro l ys σ' H1 h' ⟨⟨o,rfl⟩,rfl,s1⟩ hl'
  rw[r.1,List.take_length] at hl'
  exact q l H1 s1 h' hl'
theorem zjr(Y:Ev K mg){hm:Tb}(th:TbL H kh hm)(one:Str):∃A x y,(zaF kh (Sum.inr one)).getD (.ref Y.a_NOTHING)= .ref A/\SqT K H A [.int (zbX (zu hm one)),x,y]:=by
 rcases th.look one with⟨e1,e2⟩|⟨r,v',e1,e2,t,x,y,rfl,ht,wa⟩
 ·rw[e1,e2];exact⟨Y.a_NOTHING,_,_,rfl,Y.t_NOTHING _⟩
 ·rw[e1,e2];exact⟨t,x,y,rfl, .inl (.inl ht)⟩
noncomputable def zlk(C CR:Addr):Sp:=λvs H Q _=>∃(hs:List Str) (rp dr d wl:Addr) (v lv:V) (As:List HA) (st:Str->S3) (us:List V) (R:RdL) (one nm:Str) (r:Hr),vs=[.ref rp,lv]/\RnAt C CR hs H rp dr d wl v As st us R/\LtO H lv one nm r/\nm∈hs/\∀H',Same H H'->Q (.bl (decide (r.1<=zbX (zu (st nm).2.1 one)))) H'
theorem znx(Y:Ev K mg):FnOk P w K mg base CX0 2 Y.a_Run_was_heard Y.d_Run_was_heard zaB (zlk Y.c_House Y.c_Run):=by
 have G_House_heard:FnOk P w K mg base CX0 1 Y.a_House_heard Y.d_House_heard zao (zdE Y.c_House Y.a_NOTHING):=zed Y
 refine Y.Run_was_heard.fn.okQ zaC (λvs H Q E h=>?_) `Y2
 ·obtain ⟨hs,rp,dr,d,wl,v,lv,As,st,us,R,one,nm,r,rfl,_⟩:=h;rfl
 ·obtain ⟨hs,rp,dr,d,wl,v,lv,As,st,us,R,one,nm,r,rfl,A0,⟨t,x,y,rfl,ht,_⟩,hnm,q⟩:=h
  refine⟨_,(zg (zcC (zqS zpx (qv 1) zkH (zkL zf)) (zc3 3 rfl (zt (zp 2 zaC.nd) (zt (zp 3 zaC.nd) (zt (zp 4 zaC.nd) zaE)))))
   (zj (zv (zcA zix (qv 4) (zS zG (zbu (zc4 (hu1 hr) (zP (qv 0)) (qv 3)) Y.k_House Y.House_heard.m G_House_heard (hr.mono ⋯) Y.House_heard.b .nil zk (za (qv 2) zd)) zf))))),?_⟩
  refine⟨_,rfl,3,rfl,zlT ht λp1 H1 e1 s1=>?_⟩
  have e1:H1 p1=some (.tup [V.str one,V.str nm,V.int r.1]):=e1
  have A1:=A0.same s1
  obtain⟨a,ha,en,ev⟩:=zcc A1.ns hnm
  obtain⟨ga,n,kh,kt,B⟩:=A1.ha a ha
  rw[en] at B
  obtain⟨A3,x3,y3,eA,hA⟩:=zjr Y B.th one
  refine⟨p1,_,rfl, .inl (.inl e1),rfl,_,_,rfl,_,_,rfl,_,_,rfl,rfl,?_⟩
  refine⟨_,rfl,_,rfl,rp,_,dr,_,_,rfl,A1.hr,Y.k_Run,Y.n_Run_people,zcB,_,rfl,d,_,rfl,dgk A1.hd ev,a.p,a.dx,_,rfl,B.hp,rfl,_,rfl,a.p,a.dx,a.hd,a.td,ga,v,nm,one,n,kh,rfl,B.hp,B.hh,?_⟩
  rw[eA]
  exact⟨A3,_,0,_,rfl,rfl,hA,at0,_,_,rfl,rfl,q _ s1⟩
noncomputable def zhi(C CR:Addr):Sp:=λvs H Q _=>∃(hs O:List Str) (rp dr d wl:Addr) (v:V) (As:List HA) (st:Str->S3) (us:List V) (R:RdL),vs=[.ref rp]/\RnAt C CR hs H rp dr d wl v As st us R/\RdR hs O R/\R.length<=900/\∀H',Same H H'->Q (.bl ((R.map λe=>decide (e.2.2.1<=zbX (zu (st e.2.1).2.1 e.1))).all id)) H'
theorem zkD(Y:Ev K mg):FnOk P w K mg base CX0 3 Y.a_Run_is_still Y.d_Run_is_still zaS (zhi Y.c_House Y.c_Run):=by
 have G_Run_was_heard:FnOk P w K mg base CX0 2 Y.a_Run_was_heard Y.d_Run_was_heard zaB (zlk Y.c_House Y.c_Run):=znx Y
 refine Y.Run_is_still.fn.okQ zfQ (λvs H Q E h=>?_) `Y2
 ·obtain ⟨hs,O,rp,dr,d,wl,v,As,st,us,R,rfl,_⟩:=h;rfl
 ·obtain ⟨hs,O,rp,dr,d,wl,v,As,st,us,R,rfl,A0,hR,l9,q⟩:=h
  refine⟨_,(zj (zv (zz (zl4 rfl) Y.all zrG (za (zcQ (src:=[none,some 0]) zcv rfl rfl (zhF (zP (qc 0))) (λ_ _ _ _ _=>(zp 0 zcv.nd)) (λ_ _ _ _ _=>zc5) (λ_ _ _ _ _=>(zbu (qc 1) Y.k_Run Y.Run_was_heard.m G_Run_was_heard (hr.mono ⋯) Y.Run_was_heard.b .nil zk (za (qv 0) zd)))) zd)))),?_⟩
  refine⟨_,rfl,rp,_,dr,_,_,rfl,A0.hr,Y.k_Run,Y.n_Run_waiting,zca,wl,rfl,⟨_,SqL.of A0.hw⟩,?_⟩
  refine zk9 (f:=λe=>decide (e.2.2.1<=zbX (zu (st e.2.1).2.1 e.1))) (σr:=[some (.ref rp)]) (zfH (K:=K)) (λH' s'=>SqL.of (s' _ _ A0.hw)) A0.rd l9 rfl (λx e HA Q1 sA lx he q1=>?_) λl H1 s1 hl1 e1=>?_
  ·exact ⟨_,rfl,rp,dr,_,rfl,sA _ _ A0.hr,rfl,_,rfl,hs,rp,dr,d,wl,v,x,As,st,us,R,e.1,e.2.1,e.2.2,rfl,A0.same sA,lx,(hR e he).2.1,λHB sB=>q1 HB sB⟩
  ·exact ⟨l,_,rfl,SqL.of e1,q _ s1⟩
noncomputable def zlA(C:Addr):Sp:=λvs H Q _=>∃(hs:List Str) (d:Addr) (v lv:V) (As:List HA) (st:Str->S3) (one nm:Str) (r:Hr),vs=[.ref d,lv]/\H d=some (.dK (ppl As))/\As.map (·.nm)=hs/\HsAll C hs H v As st/\LtO H lv one nm r/\nm∈hs/\Q (.bl (decide (zbX (zu (st nm).2.1 one)<r.1))) H
theorem znD(Y:Ev K mg):FnOk P w K mg base CX0 2 Y.a__law_is_new Y.d__law_is_new za8 (zlA Y.c_House):=by
 have G_House_heard:FnOk P w K mg base CX0 1 Y.a_House_heard Y.d_House_heard zao (zdE Y.c_House Y.a_NOTHING):=zed Y
 refine Y._law_is_new.fn.okQ zgT (λvs H Q E h=>?_) `Y2
 ·obtain ⟨hs,d,v,lv,As,st,one,nm,r,rfl,_⟩:=h;rfl
 ·obtain ⟨hs,d,v,lv,As,st,one,nm,r,rfl,hd,ns,ha,⟨t,x,y,rfl,ht,_⟩,hnm,q⟩:=h
  obtain⟨a,hm,en,ev⟩:=zcc ns hnm
  obtain⟨ga,n,kh,kt,B⟩:=ha a hm
  rw[en] at B
  obtain⟨A3,x3,y3,eA,hA⟩:=zjr Y B.th one
  refine⟨_,(zj (zv (zcA zoq (zS zG (zbu (zc4 (hu1 hr) (qv 0) (zS zG (qv 1) zf)) Y.k_House Y.House_heard.m G_House_heard (hr.mono ⋯) Y.House_heard.b .nil zk (za (zS zG (qv 1) zf) zd)) zf) (zS zG (qv 1) zf)))),?_⟩
  refine⟨_,rfl,_,rfl,t,_,1,_,rfl,rfl, .inl (.inl ht),zF (j:=1) rfl,d,_,rfl,dgk hd ev,a.p,a.dx,_,rfl,B.hp,rfl,_,rfl,t,_,0,_,rfl,rfl, .inl (.inl ht),zF (j:=0) rfl,a.p,a.dx,a.hd,a.td,ga,v,nm,one,n,kh,rfl,B.hp,B.hh,?_⟩
  rw[eA]
  exact⟨A3,_,0,_,rfl,rfl,hA,at0,_,rfl,t,_,2,_,rfl,rfl, .inl (.inl ht),zF (j:=2) rfl,_,_,rfl,rfl,q⟩
theorem zks{n:Nat}{g:TG}{tk:TE}{src:List (Option Nat)}{Q:VK}(Pv:Addr->Nat->List (Key×V)->St->Hp->Prop)
 (h0:∀l,H1 l=none->Pv l 0 [] (zeo src σ) (upd H1 l (.dK []))) (hgo:∀l i ys σ H,H1 l=none->i<n->Pv l i ys σ H->J.go i H) (hst:∀l ys σ H,H1 l=none->Pv l n ys σ H->J.stop n H)
 (hs:∀l i x ys σ H H2,H1 l=none->i<n->Pv l i ys σ H->H l=some (.dK ys)->J.yld i H x H2->g x σ H2 λσ2 H3=>tc σ2 H3 λb H4=>
   if b=true then tk σ2 H4 λk H5=>tv σ2 H5 λy H6=>∃k',k=kV k'/\H6 l=some (.dK ys)/\ys.length<sizeLine/\Pv l (i+1) (zah ys k' y) σ2 (upd H6 l (.dK (zah ys k' y)))else H4 l=some (.dK ys)/\Pv l (i+1) ys σ2 H4)
 (hd:∀l ys σ H,H1 l=none->Pv l n ys σ H->H l=some (.dK ys)->Q (.ref l) H):zf2 g tc tk tv src σ Q J H1:=by
 intro l hl
 refine⟨λi m ys σ H=>m=n -i/\i<=n/\Pv l i ys σ H,⟨n,`j2,T1 _,h0 l hl⟩,?_⟩
 rintro i m ys σ' H' ⟨rfl,hi,p⟩ hl'
 by_cases hlt:i<n
 ·exact .inr ⟨hgo l i ys σ' H' hl hlt p,Pv l (i+1),λzs σ2 H2 q=>⟨n -(i+1),(),rfl,hlt,q⟩,λx H2 y=>hs l i x ys σ' H' H2 hl hlt p hl' y⟩
 ·have e:i=n:=()
  subst e
  exact .inl ⟨hst l ys σ' H' hl p,hd l ys σ' H' hl p hl'⟩
inductive ChE(H:Hp):List (Key×V)->List (Str×Option WM)->Prop
 |nil:ChE H [] []
 |cons {x:Str} {v y:V} {b:Option WM} {kvs:List (Key×V)} {ws:List (Str×Option WM)} (h:WmAt H v y b) (t:ChE H kvs ws):ChE H ((Sum.inr x,v)::kvs) ((x,b)::ws)
section
variable{ws:List (Str×Option WM)}
theorem ChE.mono(h:ChE H kvs ws)(m:∀c xs,H c=some (.tup xs)->H' c=some (.tup xs)):ChE H' kvs ws:=by
 induction h with
 |nil=>exact .nil
 |cons h t ih=>exact .cons (h.mono m) ih
theorem ChE.snoc(h:ChE H kvs ws){b:Option WM}(hw:WmAt H v y b):ChE H (kvs ++ [(Sum.inr x,v)]) (ws ++ [(x,b)]):=by
 induction h with
 |nil=>exact .cons hw .nil
 |cons h t ih=>exact .cons h ih
theorem ChE.none(h:ChE H kvs ws){x:Str}(hx:x∉ws.map (·.1)):zaF kvs (Sum.inr x)=none:=by
 induction h with
 |nil=>rfl
 |cons h t ih=>
  rw[N1,X0,not_or] at hx
  rw[zbZ (λz=>hx.1 (by injection z with z;exact z.symm))]
  exact ih hx.2
theorem ChE.len(h:ChE H kvs ws):kvs.length=ws.length:=by
 induction h with
 |nil=>rfl
 |cons h t ih=>rw[J1,J1,ih]
theorem zmU{x:V}{b:Option WM}(h:WmAt H x y b)(ok:zdK b):Tr H x (zc2 b):=by
 match b,h,ok with
 |none,⟨h1,_⟩,_=>rw[h1];exact .non
 |some (w,ms),⟨pw,pm,h1,h2,h3,h4⟩,ok=>
  rw[h1]
  refine .tup h3 (by unfold zw;rw[D0,D0]) λi v d e1 e2=>?_
  unfold zw at e2
  rw[P0] at e1 e2
  cases e3:w[i]? with
  |none=>rw[e3] at e1;cases e1
  |some x=>rw[e3] at e1 e2;cases e1;cases e2;exact .str x (zaD (ok.1 x (W0 e3)))
theorem ChE.alk(h:ChE H kvs ws)(ok:∀e∈ws,zdK e.2):∀{kvs'},ChE H kvs' ws->Alk H kvs kvs':=by
 induction h with
 |nil=>intro kvs' h';cases h';exact .nil
 |cons h t ih=>
  intro kvs' h'
  cases h' with
  |cons h2 t2=>
   have o:=ok _ D1
   exact .cons (zmU h o) (zmU h2 o) (K1 (zbM) ⋯) (ih (λe he=>ok e (Z0 _ he)) t2)
end
noncomputable def zgg(C CR:Addr):Sp:=λvs H Q _=>∃(hs:List Str) (rp dr d wl:Addr) (v:V) (As:List HA) (st:Str->S3) (us:List V) (R:RdL),vs=[.ref rp]/\RnAt C CR hs H rp dr d wl v As st us R/\hs.Nodup/\hs.length<=10/\∀l kvs H',H' l=some (.dK kvs)->ChE H' kvs (hs.map λx=>(x,(st x).1))->Same H H'->Q (.ref l) H'
theorem ziX(Y:Ev K mg):FnOk P w K mg base CX0 2 Y.a_Run_choice Y.d_Run_choice zbx (zgg Y.c_House Y.c_Run):=by
 have G_House_way:FnOk P w K mg base CX0 1 Y.a_House_way Y.d_House_way zbj (zif Y.c_House 0):=ziB Y
 refine Y.Run_choice.fn.okQ zhP (λvs H Q E h=>?_) `Y2
 ·obtain ⟨hs,rp,dr,d,wl,v,As,st,us,R,rfl,_⟩:=h;rfl
 ·obtain ⟨hs,rp,dr,d,wl,v,As,st,us,R,rfl,A0,nd,l10,q⟩:=h
  refine⟨_,(zj (zv (zki (zjn (src:=[none,none]) zbW rfl rfl (znz (zP (qv 0))) (λ_ _ _ _ _=>(zh7 (K:=K) 2 rfl rfl (zt (zp 0 zbW.nd) (zt (zp 1 zbW.nd) zaE)))) (λ_ _ _ _ _=>zc5) (λ_ _ _ _ _=>(qv 0)) (λ_ _ _ _ _=>(zaY (qv 1) Y.k_House Y.House_way.m G_House_way (hr.mono ⋯) Y.House_way.b .nil zk)))))),?_⟩
  refine⟨_,rfl,rp,_,dr,_,_,rfl,A0.hr,Y.k_Run,Y.n_Run_people,zcB,d,_,rfl,A0.hd,λo _=>?_⟩
  have la:As.length=hs.length:=by rw[←A0.ns,D0]
  have sd:∀{c ob},H c=some ob->c≠d->upd H d (.frz o (.dK (ppl As))) c=some ob:=λ{c ob} e n=>by rw[zc n];exact e
  refine zks (n:=As.length) (λl i ys σ' H'=>(∃o1 o2,σ'=[o1,o2])/\ChE H' ys ((As.take i).map λa=>(a.nm,(st a.nm).1))/\H' d=some (.frz o (.dK (ppl As)))/\∀c ob,c≠d->H c=some ob->H' c=some ob) ?_ ?_ ?_ ?_ ?_
  ·intro l hl
   have nl:l≠d:=λz=>by rw[z,zb] at hl;cases hl
   exact⟨⟨_,_,rfl⟩, .nil,by rw[zc (Ne.symm nl)];exact zb,λc ob n e=>by rw[zc (zh (sd e n) hl)];exact sd e n⟩
  ·exact λl i ys σ' H' hl hi z=>⟨by rw[D0];unfold ppl;rw[D0];exact hi,z.2.2.1⟩
  ·exact λl ys σ' H' hl z=>⟨by rw[D0];unfold ppl;rw[D0];exact R0 _,z.2.2.1⟩
  ·rintro l i x ys σ' H1 H2 hl hi ⟨⟨o1,o2,rfl⟩,ch,hd1,k1⟩ hl1 ⟨T,p,hp,rfl,hT,rfl⟩
   have ei:As[i]?=some As[i]:=G0 hi
   have ep:p=(V.str As[i].nm,V.ref As[i].p):=by
    unfold ppl at hp
    rw[List.map_map,P0,ei] at hp
    cases hp;rfl
   subst ep
   have hm:=List.getElem_mem hi
   have ix:∀j b,As[j]?=some b->b.nm=As[i].nm->j=i:=λj b e1 e2=>zbQ nd (show hs[j]?=some b.nm by rw[←A0.ns,P0,e1];rfl) (show hs[i]?=some b.nm by rw[←A0.ns,P0,ei,e2];rfl)
   have tk:(As.take (i+1)).map (λa=>(a.nm,(st a.nm).1))=(As.take i).map (λa=>(a.nm,(st a.nm).1))++ [(As[i].nm,(st As[i].nm).1)]:=by rw[Q2,ei,E2];rfl
   obtain⟨ga,n,kh,kt,B⟩:=A0.ha _ hm
   generalize As[i]=a at *
   have S:=Same.new (o:= .tup [V.str a.nm,V.ref a.p]) hT
   have kd:∀c ob,c≠d->H c=some ob->upd H1 T (.tup [V.str a.nm,V.ref a.p]) c=some ob:=λc ob n e=>S _ _ (k1 c ob n e)
   have nd1:∀{c ob},H c=some ob->(∀z,ob≠ .dK z)->c≠d:=λ{c ob} e h z=>by rw[z,A0.hd] at e;cases e;exact h _ rfl
   have hp2:=kd _ _ (nd1 B.hp (λz y=>nomatch y)) B.hp
   obtain⟨gx,gy,hg,wm⟩:=B.gr
   have hg2:=kd _ _ (nd1 hg (λz y=>nomatch y)) hg
   have wm2:WmAt (upd H1 T (.tup [V.str a.nm,V.ref a.p])) gx gy (st a.nm).1:=wm.mono λc xs e=>kd _ _ (nd1 e (λz y=>nomatch y)) e
   have hl2:=S _ _ hl1
   have hd2:=S _ _ hd1
   have ch2:=ch.mono (H':=upd H1 T (.tup [V.str a.nm,V.ref a.p])) λc xs e=>S _ _ e
   refine⟨T,_,rfl, .inl (.inl zb),rfl,_,_,rfl,_,_,rfl,rfl,?_⟩
   refine⟨_,rfl,_,rfl,a.p,a.dx,_,rfl,hp2,rfl,a.p,a.dx,a.hd,a.td,ga,v,a.nm,n,_,gx,rfl,hp2,hg2,rfl,Sum.inr a.nm,rfl,hl2,?_,?_⟩
   ·have:=ch.len
    rw[D0,Z1] at this
    exact zn ()
   ·have nx:a.nm∉((As.take i).map λa=>(a.nm,(st a.nm).1)).map (·.1):=λz=>by
     rw[List.map_map] at z
     obtain⟨b,hb,e⟩:=V1.mp z
     obtain⟨j,hj,ej⟩:=y1 hb
     rw[Z1] at hj
     rw[List.getElem_take] at ej
     have:=ix j b (by rw[G0 (),ej]) e
     lia
    have up:∀c xs,upd H1 T (.tup [V.str a.nm,V.ref a.p]) c=some (.tup xs)->upd (upd H1 T (.tup [V.str a.nm,V.ref a.p])) l (.dK (zah ys (Sum.inr a.nm) gx)) c=some (.tup xs):=λc xs e=>by rw[zc (zr e hl2 `Z3)];exact e
    refine⟨⟨_,_,rfl⟩,?_,?_,λc ob n e=>?_⟩
    ·rw[tk,zfX _ (ch.none nx)]
     rw[zfX _ (ch.none nx)] at up
     exact(ch2.mono up).snoc (wm2.mono up)
    ·rw[zc λz=>by rw[z,hl2] at hd2;cases hd2]
     exact hd2
    ·have nl:c≠l:=zh (sd e n) hl
     rw[zc nl]
     exact kd c ob n e
  ·rintro l ys σ' H1 hl ⟨_,ch,hd1,k1⟩ hl1
   rw[List.take_length] at ch
   have ew:(As.map λa=>(a.nm,(st a.nm).1))=hs.map λx=>(x,(st x).1):=by rw[←A0.ns,List.map_map];rfl
   rw[ew] at ch
   refine⟨d,o,_,hd1,λo' u' z=>?_,q l ys _ ?_ (ch.mono λc xs e=>?_) λc ob e=>?_⟩
   ·have z:H d=some (.frz o' u'):=z
    rw[A0.hd] at z;cases z
   ·rw[zc λz=>by rw[z,hd1] at hl1;cases hl1];exact hl1
   ·rw[zc λz=>by rw[z,hd1] at e;cases e];exact e
   ·by_cases z:c=d
    ·rw[z,zb,←A0.hd,←z];exact e
    ·rw[zc z];exact k1 c ob z e
noncomputable def zja(st:Str->S3)(nm:Str)(s:S3):Str->S3:=λx=>if x=nm then s else st x
theorem zqu{v':V}{nm:Str}{hd td g d:Addr}{n:Int}{C' dx dx':Addr}(h:(HO.ins C dx (zcy v nm hd td g n))= .ins C' dx' (zjv v' d wl)):False:=by
 injection h with _ _ h
 have:=T2 List.length h
 exact absurd (show(6:Nat)=3 from this) ⋯
section
variable{CR:Addr}{d:Addr}{As:List HA}{st:Str->S3}{R:RdL}
theorem RnAt.wait(A0:RnAt C CR hs H rp dr d wl v As st us R){R':RdL}(h:RdO H us' R'):RnAt C CR hs (upd H wl (.lst us')) rp dr d wl v As st us' R':=by
 have m:∀c xs,H c=some (.tup xs)->upd H wl (.lst us') c=some (.tup xs):=λc xs e=>by rw[zc (zr e A0.hw `Z3)];exact e
 exact⟨by rw[zc (zr A0.hr A0.hw `Z3)];exact A0.hr,by rw[zc (zr A0.hd A0.hw `Z3)];exact A0.hd,zb,h.mono m,A0.ha.hold m λc hc o e=>by rw[zc (a:=wl) (b:=c) λz=>zN A0.ha A0.hw (by rw[←z];exact hc)];exact e,A0.ns,A0.sep⟩
theorem RnAt.hear(A0:RnAt C CR hs H rp dr d wl v As st us R)(nd:hs.Nodup){a:HA}(ha:a∈As){s':S3}(B1:HsE C hs H1 v a s')(k1:∀c o,c≠a.p->c≠a.hd->c≠a.td->H c=some o->H1 c=some o):
 RnAt C CR hs H1 rp dr d wl v As (zja st a.nm s') us R/\∀c o,c∉zak As->H c=some o->H1 c=some o:=by
 obtain⟨ga,n,kh,kt,B0⟩:=A0.ha a ha
 have na:∀c,c∉adr a->c≠a.p/\c≠a.hd/\c≠a.td:=λc hc=>⟨λz=>hc (by simp[adr,z]),λz=>hc (by simp[adr,z]),λz=>hc (by simp[adr,z])⟩
 have k2:∀c o,c∉adr a->H c=some o->H1 c=some o:=λc o hc e=>k1 c o (na c hc).1 (na c hc).2.1 (na c hc).2.2 e
 have m:∀c xs,H c=some (.tup xs)->H1 c=some (.tup xs):=λc xs e=>k1 c _ (zr e B0.hp `Z3) (zr e B0.hh `Z3) (zr e B0.ht `Z3) e
 have sd:d∉adr a:=λz=>(D2.mp A0.sep).1 (List.mem_flatMap.mpr ⟨a,ha,z⟩)
 refine⟨⟨?_,k2 _ _ sd A0.hd,k1 _ _ (zr A0.hw B0.hp `Z3) (zr A0.hw B0.hh `Z3) (zr A0.hw B0.ht `Z3) A0.hw,A0.rd.mono m,λb hb=>?_,A0.ns,A0.sep⟩,λc o hc e=>k2 c o (λz=>hc (List.mem_flatMap.mpr ⟨a,ha,z⟩)) e⟩
 ·refine k1 _ _ (λz=>?_) (zr A0.hr B0.hh `Z3) (zr A0.hr B0.ht `Z3) A0.hr
  have:=A0.hr
  rw[z,B0.hp] at this
  exact zqu (O1 this)
 ·by_cases e:b.nm=a.nm
  ·have:=zjR A0.ns nd hb ha e
   subst this
   show HsE C hs H1 v b (if b.nm=b.nm then s' else _)
   rw[T0 rfl]
   exact B1
  ·show HsE C hs H1 v b (if b.nm=a.nm then s' else st b.nm)
   rw[N0 e]
   exact(A0.ha b hb).hold m λc hc o e'=>k2 c o (zn8 (D2.mp A0.sep).2 hb ha (λz=>e (by rw[z])) hc) e'
end
noncomputable def zeh(er:Bool)(C CR:Addr):Sp:=λvs H Q _=>∃(g:Str) (hs:List Str) (ps:List (Str×Str)) (lks hds:List D) (O:List Str) (rp dr d wl:Addr) (v:V) (As:List HA) (st:Str->S3) (us:List V) (R:RdL) (k:Nat) (e:Str×Lt),vs=[.ref rp, .int (k:Int)]/\RnAt C CR hs H rp dr d wl v As st us R/\Tn g hs ps lks hds O/\Rep H v (zal g hs ps lks hds)/\(∀x∈hs,SOk g hs ps lks hds O x (st x))/\RdR hs O R/\R.length<=800/\R[k]?=some e/\
 ∀(s':S3) (L:List Lt) (us':List V) (H':Hp),HearR hs ps hds e.2.1 (st e.2.1) e.1 e.2.2 s' L->SOk g hs ps lks hds O e.2.1 s'->RdR hs O (L.map λl=>(e.2.1,l))->RnAt C CR hs H' rp dr d wl v As (zja st e.2.1 s') us' ((if er=true then R.eraseIdx k else R)++L.map λl=>(e.2.1,l))->(∀c o,c≠wl->c∉zak As->H c=some o->H' c=some o)->Q .non H'
theorem zml(Y:Ev K mg):FnOk P w K mg base CX0 10 Y.a_Run_come Y.d_Run_come zcK (zeh true Y.c_House Y.c_Run):=by
 have G_at_place:FnOk P w K mg base CX0 3 Y.a_at_place Y.d_at_place zbS ze7:=zgu Y
 have G_House_hear:FnOk P w K mg base CX0 9 Y.a_House_hear Y.d_House_hear zay (zeq Y.c_House):=zeW Y
 refine Y.Run_come.fn.okQ zgo (λvs H Q E h=>?_) `Y2
 ·obtain ⟨g,hs,ps,lks,hds,O,rp,dr,d,wl,v,As,st,us,R,k,e,rfl,_⟩:=h;rfl
 ·obtain ⟨g,hs,ps,lks,hds,O,rp,dr,d,wl,v,As,st,us,R,k,⟨one,nm,r⟩,rfl,A0,N,hv,hst,hR,l8,he,q⟩:=h
  obtain⟨lv,ev,lt⟩:=A0.rd.get he
  have h3:=hR _ (W0 he)
  have lu:=A0.rd.1
  have hk:=(W1.mp he).1
  refine⟨_,(zg (zy 2 zgo.nd (zm G_at_place (hr.mono ⋯) Y.at_place.mg Y.at_place.kp Y.at_place.b .nil zk (za (zP (qv 0)) (za (qv 1) zd))))
   (zg (zaV (zfs K2 F.slot_list_pop F.type_list_pop zje (zP (qv 0)) (za (qv 1) zd)))
   (zj (zaV (zfs K2 F.slot_list_extend F.type_list_extend ze4 (zP (qv 0)) (za (zbu (zc4 (hu1 hr) (zP (qv 0)) (zS zG (qv 2) zf)) Y.k_House Y.House_hear.m G_House_hear (hr.mono ⋯) Y.House_hear.b .nil zk (za (qv 2) zd)) zd)))))),?_⟩
  refine⟨_,rfl,rp,_,dr,_,_,rfl,A0.hr,Y.k_Run,Y.n_Run_waiting,zca,_,rfl,wl,k,us,lv,rfl,A0.hw,(),ev,?_⟩
  refine⟨_,rfl,rp,_,dr,_,_,rfl,A0.hr,Y.k_Run,Y.n_Run_waiting,zca, .inl ⟨rfl,_,SqL.of A0.hw⟩,_,rfl,wl,us,_,k,lv,rfl,rfl,A0.hw,(),(),?_,ev,?_⟩
  ·have:=StrLaws.seqIndex_nonneg (i:=(k:Int)) (n:=us.length) () ();rw[Int.toNat_natCast] at this;exact this
  have A1:=A0.wait (A0.rd.erase k)
  have f1:∀c o,c≠wl->H c=some o->upd H wl (.lst (us.eraseIdx k)) c=some o:=λc o n e=>by rw[zc n];exact e
  generalize upd H wl (.lst (us.eraseIdx k))=H1 at *
  have m1:∀c xs,H c=some (.tup xs)->H1 c=some (.tup xs):=λc xs e=>f1 _ _ (zr e A0.hw `Z3) e
  have lt1:=lt.mono m1
  obtain⟨t,x,y,rfl,ht,wm⟩:=lt1
  obtain⟨a,ha,en,eva⟩:=zcc A1.ns h3.2.1
  have hna:a.nm=nm:=en
  obtain⟨ga,n,kh,kt,B⟩:=A1.ha a ha
  rw[hna] at B
  obtain⟨L0,I0⟩:=(hst nm h3.2.1).hi
  refine⟨_,rfl,rp,_,dr,_,_,rfl,A1.hr,Y.k_Run,Y.n_Run_waiting,zca, .inl ⟨rfl,_,SqL.of A1.hw⟩,?_⟩
  refine⟨_,rfl,rp,_,dr,_,_,rfl,A1.hr,Y.k_Run,Y.n_Run_people,zcB,_,rfl,t,_,1,_,rfl,rfl, .inl (.inl ht),zF (j:=1) rfl,d,_,rfl,dgk A1.hd eva,a.p,a.dx,_,rfl,B.hp,rfl,_,rfl,?_⟩
  refine⟨a.p,a.dx,a.hd,a.td,ga,v,_,nm,one,r,n,_,kh,kt,_,_,L0,g,hs,ps,lks,hds,rfl,⟨t,x,y,rfl,ht,wm⟩,h3.1,h3.2.2.hr N,B,I0,zI hv N.T m1,N.T,N.hf,h3.2.1,λl ga' us2 n' b' kh' kt' tm' L H2 hl0 hl2 R2 B2 I2 k2 lL ee=>?_⟩
  have hh:HearR hs ps hds nm (st nm) one r (b',zbv (st nm).2.1 (one,r),tm') L:=⟨rfl,lL,ee⟩
  obtain⟨so,rl⟩:=zfa N h3.2.1 (hst nm h3.2.1) h3.2.2 hh I2
  obtain⟨A2,f2⟩:=A1.hear N.T.hs_nd ha (s':=(b',zbv (st nm).2.1 (one,r),tm')) ⟨ga',n',kh',kt',by rw[hna];exact B2⟩ k2
  rw[hna] at A2
  have lk:=R2.len
  refine⟨wl,l,_,us2,rfl,rfl,A2.hw,hl2,W2 (zn (by rw[List.length_eraseIdx];split<;>lia)),?_⟩
  refine q (b',zbv (st nm).2.1 (one,r),tm') L _ _ hh so rl (A2.wait (A2.rd.app (RdO.lts R2))) λc o n1 n2 e=>?_
  rw[zc n1]
  exact f2 c o n2 (f1 c o n1 e)
theorem zlU(Y:Ev K mg):FnOk P w K mg base CX0 10 Y.a_Run_copy Y.d_Run_copy zcD (zeh false Y.c_House Y.c_Run):=by
 have G_at_place:FnOk P w K mg base CX0 3 Y.a_at_place Y.d_at_place zbS ze7:=zgu Y
 have G_House_hear:FnOk P w K mg base CX0 9 Y.a_House_hear Y.d_House_hear zay (zeq Y.c_House):=zeW Y
 refine Y.Run_copy.fn.okQ zf3 (λvs H Q E h=>?_) `Y2
 ·obtain ⟨g,hs,ps,lks,hds,O,rp,dr,d,wl,v,As,st,us,R,k,e,rfl,_⟩:=h;rfl
 ·obtain ⟨g,hs,ps,lks,hds,O,rp,dr,d,wl,v,As,st,us,R,k,⟨one,nm,r⟩,rfl,A0,N,hv,hst,hR,l8,he,q⟩:=h
  obtain⟨lv,ev,lt⟩:=A0.rd.get he
  have h3:=hR _ (W0 he)
  have lu:=A0.rd.1
  have hk:=(W1.mp he).1
  refine⟨_,(zg (zy 2 zf3.nd (zm G_at_place (hr.mono ⋯) Y.at_place.mg Y.at_place.kp Y.at_place.b .nil zk (za (zP (qv 0)) (za (qv 1) zd))))
   (zj (zaV (zfs K2 F.slot_list_extend F.type_list_extend ze4 (zP (qv 0)) (za (zbu (zc4 (hu1 hr) (zP (qv 0)) (zS zG (qv 2) zf)) Y.k_House Y.House_hear.m G_House_hear (hr.mono ⋯) Y.House_hear.b .nil zk (za (qv 2) zd)) zd))))),?_⟩
  refine⟨_,rfl,rp,_,dr,_,_,rfl,A0.hr,Y.k_Run,Y.n_Run_waiting,zca,_,rfl,wl,k,us,lv,rfl,A0.hw,(),ev,?_⟩
  obtain⟨t,x,y,rfl,ht,wm⟩:=lt
  obtain⟨a,ha,en,eva⟩:=zcc A0.ns h3.2.1
  have hna:a.nm=nm:=en
  obtain⟨ga,n,kh,kt,B⟩:=A0.ha a ha
  rw[hna] at B
  obtain⟨L0,I0⟩:=(hst nm h3.2.1).hi
  refine⟨_,rfl,rp,_,dr,_,_,rfl,A0.hr,Y.k_Run,Y.n_Run_waiting,zca, .inl ⟨rfl,_,SqL.of A0.hw⟩,?_⟩
  refine⟨_,rfl,rp,_,dr,_,_,rfl,A0.hr,Y.k_Run,Y.n_Run_people,zcB,_,rfl,t,_,1,_,rfl,rfl, .inl (.inl ht),zF (j:=1) rfl,d,_,rfl,dgk A0.hd eva,a.p,a.dx,_,rfl,B.hp,rfl,_,rfl,?_⟩
  refine⟨a.p,a.dx,a.hd,a.td,ga,v,_,nm,one,r,n,_,kh,kt,_,_,L0,g,hs,ps,lks,hds,rfl,⟨t,x,y,rfl,ht,wm⟩,h3.1,h3.2.2.hr N,B,I0,hv,N.T,N.hf,h3.2.1,λl ga' us2 n' b' kh' kt' tm' L H2 hl0 hl2 R2 B2 I2 k2 lL ee=>?_⟩
  have hh:HearR hs ps hds nm (st nm) one r (b',zbv (st nm).2.1 (one,r),tm') L:=⟨rfl,lL,ee⟩
  obtain⟨so,rl⟩:=zfa N h3.2.1 (hst nm h3.2.1) h3.2.2 hh I2
  obtain⟨A2,f2⟩:=A0.hear N.T.hs_nd ha (s':=(b',zbv (st nm).2.1 (one,r),tm')) ⟨ga',n',kh',kt',by rw[hna];exact B2⟩ k2
  rw[hna] at A2
  have lk:=R2.len
  refine⟨wl,l,_,us2,rfl,rfl,A2.hw,hl2,W2 (zn ()),?_⟩
  refine q (b',zbv (st nm).2.1 (one,r),tm') L _ _ hh so rl (A2.wait (A2.rd.app (RdO.lts R2))) λc o n1 n2 e=>?_
  rw[zc n1]
  exact f2 c o n2 e
noncomputable def zpP(a c:Str)(r:Hr):PyData:= .tuple [.str a, .str c, .int r.1,zc2 r.2,zeE r.2]
theorem zrC{x:V}{b:Option WM}(h:WmAt H x y b)(ok:zdK b):Tr H y (zeE b):=by
 match b,h,ok with
 |none,⟨_,e,h1,h2⟩,_=>rw[h1];exact .tup h2 rfl λi v d e1=>by cases e1
 |some (w,ms),⟨pw,pm,h1,h2,h3,h4⟩,ok=>
  rw[h2]
  refine .tup h4 (by unfold zw;rw[D0,D0]) λi v d e1 e2=>?_
  unfold zw at e2
  rw[P0] at e1 e2
  cases e3:ms[i]? with
  |none=>rw[e3] at e1;cases e1
  |some x=>rw[e3] at e1 e2;cases e1;cases e2;exact .str x (zaD (ok.2 x (W0 e3)))
theorem LtO.tr{a c:Str}{r:Hr}(h:LtO H v a c r)(ha:zi a=true)(hc:zi c=true)(ok:zdK r.2):Tr H v (zpP a c r):=by
 obtain⟨t,x,y,rfl,ht,wa⟩:=h
 refine .tup ht rfl λi v d e1 e2=>?_
 match i with
 |0=>cases e1;cases e2;exact .str a (zaD ha)
 |1=>cases e1;cases e2;exact .str c (zaD hc)
 |2=>cases e1;cases e2;exact .int _
 |3=>cases e1;cases e2;exact zmU wa ok
 |4=>cases e1;cases e2;exact zrC wa ok
 |i+5=>cases e1
noncomputable def zmE(R:RdL):PyData:= .list (R.map λe=>zpP e.1 e.2.1 e.2.2)
theorem RdO.tr(N:Tn g hs ps lks hds O){R:RdL}(h:RdO H us R)(e:H l=some (.lst us))(r:RdR hs O R):Tr H (.ref l) (zmE R):=by
 refine .lst e (by rw[D0];exact h.1) λi v d e1 e2=>?_
 obtain⟨p,ep,hp⟩:=h.of e1
 rw[P0,ep] at e2
 cases e2
 obtain⟨o1,o2,o3⟩:=r p (W0 ep)
 exact hp.tr (N.T.names _ o1) (N.T.names _ o2) (o3.wm N)
theorem zmS{R:RdL}:(zmE R).depth<=60:=by
 have h3:PyData.depthAll (R.map λe=>zpP e.1 e.2.1 e.2.2)<=3:=zdk λd hd=>by
  obtain⟨o,_,rfl⟩:=V1.mp hd
  have h1:=zbM (b:=o.2.2.2)
  have h2:=zfi (b:=o.2.2.2)
  unfold zpP
  rw[PyData.depth,PyData.depthAll,PyData.depthAll,PyData.depthAll,PyData.depthAll,PyData.depthAll,PyData.depthAll,PyData.depth,PyData.depth,PyData.depth]
  lia
 unfold zmE
 rw[PyData.depth]
 lia
theorem zoz:∀{bs:List Bool},(bs.map V.bl).all zdM=true
 |[]=>rfl
 |b::bs=>by rw[N1,List.all_cons,zoz (bs:=bs)];rfl
theorem zhh{α:Type}{f g:α->Int}:∀R:List α,(R.map λe=>decide (f e<=g e)).all id=!inV (V.bl true) ((R.map λe=>decide (g e<f e)).map V.bl)
 |[]=>rfl
 |e::R=>by
  rw[N1,N1,N1,List.all_cons,zhh R]
  show _=!(eqV (V.bl (decide (g e<f e))) (V.bl true)||inV (V.bl true) ((R.map λe=>decide (g e<f e)).map V.bl))
  rw[Bool.not_or]
  congr 1
  by_cases c:f e<=g e
  ·rw[V0 c,b0 ()];rfl
  ·rw[b0 c,V0 ()];rfl
noncomputable def zi9(C CR:Addr):Sp:=λvs H Q _=>∃(g:Str) (hs:List Str) (ps:List (Str×Str)) (lks hds:List D) (O:List Str) (rp dr d wl eb rl:Addr) (v:V) (As Bs:List HA) (st:Str->S3) (us us2:List V) (R:RdL),vs=[.ref rp, .ref eb, .ref rl]/\RnAt C CR hs H rp dr d wl v As st us R/\Tn g hs ps lks hds O/\(∀x∈hs,SOk g hs ps lks hds O x (st x))/\RdR hs O R/\R.length<=800/\H eb=some (.dK (ppl Bs))/\Bs.map (·.nm)=hs/\HsAll C hs H v Bs st/\H rl=some (.lst us2)/\RdO H us2 R/\∀H',Same H H'->Q (.bl true) H'
theorem zlX(Y:Ev K mg):FnOk P w K mg base CX0 4 Y.a__law_is_so Y.d__law_is_so zbK (zi9 Y.c_House Y.c_Run):=by
 have G_House_way:FnOk P w K mg base CX0 1 Y.a_House_way Y.d_House_way zbj (zif Y.c_House 0):=ziB Y
 have G_Run_road:FnOk P w K mg base CX0 1 Y.a_Run_road Y.d_Run_road zcI (zi7 Y.c_House Y.c_Run):=zlV Y
 have G_Run_choice:FnOk P w K mg base CX0 2 Y.a_Run_choice Y.d_Run_choice zbx (zgg Y.c_House Y.c_Run):=ziX Y
 have G_Run_is_still:FnOk P w K mg base CX0 3 Y.a_Run_is_still Y.d_Run_is_still zaS (zhi Y.c_House Y.c_Run):=zkD Y
 have G__law_is_new:FnOk P w K mg base CX0 2 Y.a__law_is_new Y.d__law_is_new za8 (zlA Y.c_House):=znD Y
 refine Y._law_is_so.fn.okQ zii (λvs H Q E h=>?_) `Y2
 ·obtain ⟨g,hs,ps,lks,hds,O,rp,dr,d,wl,eb,rl,v,As,Bs,st,us,us2,R,rfl,_⟩:=h;rfl
 ·obtain ⟨g,hs,ps,lks,hds,O,rp,dr,d,wl,eb,rl,v,As,Bs,st,us,us2,R,rfl,A0,N,hst,hR,l8,he,ns,hB,hrl,rd2,q⟩:=h
  refine⟨_,(zg (zaw (t_w (zqZ (zQ (zqX (zrz hr)) (zaY (qv 0) Y.k_Run Y.Run_road.m G_Run_road (hr.mono ⋯) Y.Run_road.b .nil zk) (qv 2)) (znT (zQ (zqU (zsE hr)) (zaY (qv 0) Y.k_Run Y.Run_choice.m G_Run_choice (hr.mono ⋯) Y.Run_choice.b .nil zk) (zZ (zgx rfl) Y.dict boot_dict (za (zki (zcQ (src:=[none,some 1]) zdl rfl rfl (zoC (qc 1)) (λ_ _ _ _ _=>(zp 0 zdl.nd)) (λ_ _ _ _ _=>zc5) (λ_ _ _ _ _=>(zK (za (qv 0) (za (zaY (zc4 (hu1 hr) (qc 1) (qv 0)) Y.k_House Y.House_way.m G_House_way (hr.mono ⋯) Y.House_way.b .nil zk) zd)))))) zd)))))) (zj (zv zir)) z7)
   (zj (zv (zcA zav (zaY (qv 0) Y.k_Run Y.Run_is_still.m G_Run_is_still (hr.mono ⋯) Y.Run_is_still.b .nil zk) (zcA zil zir (zcQ (src:=[none,some 1]) zdp rfl rfl (zhF (qv 2)) (λ_ _ _ _ _=>(zp 0 zdp.nd)) (λ_ _ _ _ _=>zc5) (λ_ _ _ _ _=>(zm G__law_is_new (hr.mono ⋯) Y._law_is_new.mg Y._law_is_new.kp Y._law_is_new.b .nil zk (za (qc 1) (za (qv 0) zd)))))))))),?_⟩
  refine⟨_,rfl,rp,dr,_,rfl,A0.hr,rfl,hs,rp,dr,d,wl,v,As,st,us,R,rfl,A0,λl hl=>?_⟩
  have S1:=Same.new (o:= .lst us) hl
  have t1:Tr (upd H l (.lst us)) (.ref l) (zmE R):=(A0.rd.mono λc xs e=>S1 _ _ e).tr N zb hR
  have t2:Tr (upd H l (.lst us)) (.ref rl) (zmE R):=(rd2.mono λc xs e=>S1 _ _ e).tr N (S1 _ _ hrl) hR
  generalize upd H l (.lst us)=H1 at *
  refine⟨_,rfl,_,_,t1,t2,K1 (Nat.min_le_left _ _) zmS,?_⟩
  rw[SeqAt.eqv_refl _ t1.can]
  refine⟨_,rfl,zbo rfl ?_⟩
  have A1:=A0.same S1
  have he1:=S1 _ _ he
  refine⟨_,rfl,rp,dr,_,rfl,A1.hr,rfl,hs,rp,dr,d,wl,v,As,st,us,R,rfl,A1,N.T.hs_nd,N.T.ten,λlc kvc H2 hc ch s2=>?_⟩
  have he2:=s2 _ _ he1
  have s02:=S1.trans s2
  have hB2:=hB.same s02
  have T10:=N.T.ten
  have lb:Bs.length=hs.length:=by rw[←ns,D0]
  refine⟨_,rfl,eb,_,rfl,he2,λo _=>?_⟩
  have sd:∀{c ob},H2 c=some ob->c≠eb->upd H2 eb (.frz o (.dK (ppl Bs))) c=some ob:=λ{c ob} e n=>by rw[zc n];exact e
  have nd1:∀{c ob},H2 c=some ob->(∀z,ob≠ .dK z)->c≠eb:=λ{c ob} e h z=>by rw[z,he2] at e;cases e;exact h _ rfl
  refine zbB zqo (λl i ys σ' H'=>(∃o1,σ'=[o1,some (.ref eb)])/\(∃ts zs,ys=ts.map V.ref/\TwosAt H' ts (hs.take i) zs/\ChE H' (zew (hs.take i) zs) ((hs.take i).map λx=>(x,(st x).1)))/\H' eb=some (.frz o (.dK (ppl Bs)))/\∀c ob,c≠eb->H2 c=some ob->H' c=some ob) ?_ ?_ ?_ ?_
  ·intro l hl
   have nl:l≠eb:=λz=>by rw[z,zb] at hl;cases hl
   exact⟨⟨_,rfl⟩,⟨[],[],rfl, .nil, .nil⟩,by rw[zc (Ne.symm nl)];exact zb,λc ob n e=>by rw[zc (zh (sd e n) hl)];exact sd e n⟩
  ·exact λl i ys σ' H' hl z=>z.2.2.1
  ·rintro l i x ys σ' H3 hl hi hx ⟨⟨o1,rfl⟩,⟨ts,zs,rfl,tw,cz⟩,hd3,k3⟩ hl3
   have hi':i<Bs.length:=by rw[D0] at hi;unfold ppl at hi;rw[D0] at hi;exact hi
   have ei:Bs[i]?=some Bs[i]:=G0 hi'
   have ex:x= .str Bs[i].nm:=by
    unfold ppl at hx
    rw[List.map_map,P0,ei] at hx
    cases hx;rfl
   subst ex
   have hi2:hs[i]?=some Bs[i].nm:=by rw[←ns,P0,ei];rfl
   obtain⟨a,ha,en,ev⟩:=zcc ns (W0 hi2)
   have ea:=zjR ns N.T.hs_nd ha (List.getElem_mem hi') en
   have tk:hs.take (i+1)=hs.take i ++ [Bs[i].nm]:=by rw[Q2,hi2];rfl
   obtain⟨ga,n,kh,kt,B⟩:=hB2 a ha
   rw[←ea] at tk⊢
   rw[←ea] at ev
   clear ea en
   have hp3:=k3 _ _ (nd1 B.hp (λz y=>nomatch y)) B.hp
   obtain⟨gx,gy,hg,wm⟩:=B.gr
   have hg3:=k3 _ _ (nd1 hg (λz y=>nomatch y)) hg
   have wm3:=wm.mono (H':=H3) λc xs e=>k3 _ _ (nd1 e (λz y=>nomatch y)) e
   refine⟨_,rfl,_,rfl,_,rfl,eb,_,rfl, .inl ⟨_,Sum.inr a.nm, .inr ⟨o,hd3⟩,rfl,ev.symm⟩,a.p,a.dx,_,rfl,hp3,rfl,a.p,a.dx,a.hd,a.td,ga,v,a.nm,n,_,gx,rfl,hp3,hg3,rfl,few rfl,λp4 hp4=>?_⟩
   have S4:=Same.new (o:= .tup [V.str a.nm,gx]) hp4
   have hl4:=S4 _ _ hl3
   have e4:=zb (H:=H3) (a:=p4) (o:= .tup [V.str a.nm,gx])
   have hd4:=S4 _ _ hd3
   generalize upd H3 p4 (.tup [V.str a.nm,gx])=H4 at *
   have up:∀c xs,H4 c=some (.tup xs)->upd H4 l (.lst (ts.map V.ref ++ [.ref p4])) c=some (.tup xs):=λc xs e=>by rw[zc (zr e hl4 `Z3)];exact e
   obtain⟨lt1,lt2⟩:=tw.len
   rw[Z1] at lt1 lt2
   refine⟨hl4,zn (by rw[D0];lia),⟨_,rfl⟩,⟨ts ++ [p4],zs ++ [gx],by rw[E2];rfl,?_,?_⟩,?_,λc ob n e=>?_⟩
   ·rw[tk]
    exact(tw.mono λa xs e=>up _ _ (S4 _ _ e)).snoc (up _ _ e4)
   ·rw[tk,E2]
    have ez:zew (hs.take i ++ [a.nm]) (zs ++ [gx])=zew (hs.take i) zs ++ [(Sum.inr a.nm,gx)]:=by
     unfold zew
     rw[List.zip_append (by rw[Z1];lia),E2];rfl
    rw[ez]
    exact(cz.mono λc xs e=>up _ _ (S4 _ _ e)).snoc (wm3.mono λc xs e=>up _ _ (S4 _ _ e))
   ·rw[zc λz=>by rw[z,hl4] at hd4;cases hd4];exact hd4
   ·rw[zc (zh (sd e n) hl)]
    exact S4 _ _ (k3 c ob n e)
  rintro l ys σ' H3 hl ⟨_,⟨ts,zs,rfl,tw,cz⟩,hd3,k3⟩ hl3
  rw[show hs.take (List.map (λkv=>kV kv.1) (ppl Bs)).length=hs by unfold ppl;rw[D0,D0,lb];exact List.take_length] at tw cz
  refine⟨eb,o,_,hd3,λo' u' z=>?_,?_⟩
  ·have z:H eb=some (.frz o' u'):=z
   rw[he] at z;cases z
  have s23:Same H2 (upd H3 eb (.dK (ppl Bs))):=λc ob e=>by
   by_cases z:c=eb
   ·rw[z,zb,←he2,←z];exact e
   ·rw[zc z];exact k3 c ob z e
  have up3:∀c xs,H3 c=some (.tup xs)->upd H3 eb (.dK (ppl Bs)) c=some (.tup xs):=λc xs e=>by rw[zc λz=>by rw[z,hd3] at e;cases e];exact e
  have hl4:upd H3 eb (.dK (ppl Bs)) l=some (.lst (ts.map V.ref)):=by rw[zc λz=>by rw[z,hd3] at hl3;cases hl3];exact hl3
  have tw4:=tw.mono up3
  have cz4:=cz.mono up3
  generalize upd H3 eb (.dK (ppl Bs))=H4 at *
  refine⟨l,ts,hs,zs,rfl,hl4,tw4,(),N.T.hs_nd,λpd hpd=>?_⟩
  have S5:=Same.new (o:= .dK (zew hs zs)) hpd
  have ch5:=ch.mono (H':=upd H4 pd (.dK (zew hs zs))) λc xs e=>S5 _ _ (s23 _ _ e)
  have cz5:=cz4.mono (H':=upd H4 pd (.dK (zew hs zs))) λc xs e=>S5 _ _ e
  refine⟨lc,pd,_,_,rfl,rfl,S5 _ _ (s23 _ _ hc),zb,ch5.alk (λe he=>?_) cz5,?_⟩
  ·obtain ⟨x,hx,rfl⟩:=V1.mp he
   exact(hst x hx).b.wm N
  have s05:=s02.trans (s23.trans S5)
  generalize upd H4 pd (.dK (zew hs zs))=H5 at *
  refine⟨_,rfl,zbo rfl ?_⟩
  have A5:=A0.same s05
  refine⟨_,rfl,rp,dr,_,rfl,A5.hr,rfl,hs,O,rp,dr,d,wl,v,As,st,us,R,rfl,A5,hR,(),λH6 s6=>?_⟩
  have s06:=s05.trans s6
  refine⟨_,rfl,rl,rfl,⟨_,SqL.of (s06 _ _ hrl)⟩,?_⟩
  refine zk9 (f:=λe=>decide (zbX (zu (st e.2.1).2.1 e.1)<e.2.2.1)) (σr:=[some (.ref eb)]) (zfH (K:=K)) (λH' s'=>SqL.of (s' _ _ (s06 _ _ hrl))) (rd2.mono λc xs e=>s06 _ _ e) () rfl (λx e HA Q1 sA lx he' q1=>?_) λl2 H7 s7 hl7 e7=>?_
  ·exact ⟨_,rfl,_,rfl,hs,eb,v,x,Bs,st,e.1,e.2.1,e.2.2,rfl,sA _ _ (s06 _ _ he),ns,hB.same (s06.trans sA),lx,(hR e he').2.1,q1 HA (Same.refl _)⟩
  ·refine ⟨l2,_,rfl, .inl (SqL.of e7),rfl,zoz,rfl,?_⟩
   have:=q H7 (s06.trans s7)
   rw[show decide (V.bl ((R.map λe=>decide (e.2.2.1<=zbX (zu (st e.2.1).2.1 e.1))).all id)=V.bl (if true=true then !inV (V.bl true) ((R.map λe=>decide (zbX (zu (st e.2.1).2.1 e.1)<e.2.2.1)).map V.bl)else inV (V.bl true) ((R.map λe=>decide (zbX (zu (st e.2.1).2.1 e.1)<e.2.2.1)).map V.bl)))=true from V0 (T2 V.bl (by rw[T0 rfl];exact zhh R))]
   exact this
noncomputable def s0:S3:=(none,[],[])
noncomputable def zox(g x:Str):Option WM:=if x=g then some ([x],[])else none
noncomputable def zft(g:Str)(hs:List Str)(ps:List (Str×Str))(hds:List D)(x:Str):S3:=(zox g x,[],zbi (zo hs hds x) (zox g x) [] (due hs ps x))
noncomputable def zoB(g:Str)(hs:List Str)(ps:List (Str×Str))(hds:List D)(x:Str):RdL:=(za3 (zo hs hds x) (zox g x) [] (due hs ps x)).map λl=>(x,l)
noncomputable def stB(g:Str)(hs:List Str)(ps:List (Str×Str))(hds:List D)(xs:List Str)(x:Str):S3:=if x∈xs then zft g hs ps hds x else s0
noncomputable def rdB(g:Str)(hs:List Str)(ps:List (Str×Str))(hds:List D)(xs:List Str):RdL:=xs.flatMap (zoB g hs ps hds)
theorem zfD{g:Str}{hs:List Str}{ps:List (Str×Str)}{hds:List D}(h:hs.length<=10):∀xs:List Str,(rdB g hs ps hds xs).length<=10*xs.length
 |[]=>T1 _
 |x::xs=>by
  have h1:=zfD (g:=g) (ps:=ps) (hds:=hds) h xs
  have h2:(zoB g hs ps hds x).length<=10:=by
   unfold zoB
   rw[D0]
   exact K1 zdn (K1 (List.length_filter_le _ _) h)
  unfold rdB at h1⊢
  rw[List.flatMap_cons,o0,J1]
  lia
theorem zjo{xs:List Str}:zja (stB g hs ps hds xs) x (zft g hs ps hds x)=stB g hs ps hds (xs ++ [x]):=by
 funext y
 unfold zja stB
 by_cases c:y=x
 ·rw[T0 c,c,T0 `j2]
 ·rw[N0 c]
  by_cases d:y∈xs
  ·rw[T0 d,T0 (List.mem_append_left _ d)]
  ·rw[N0 d,N0 λz=>(N2.mp z).elim d λz=>c (X1.mp z)]
theorem HsAll.congr{As:List HA}{st st':Str->S3}(h:HsAll C hs H v As st)(e:∀a∈As,st' a.nm=st a.nm):HsAll C hs H v As st':=λa ha=>by rw[e a ha];exact h a ha
theorem zqC{nm:Str}{b:Option WM}{tm:Tb}{L:List Lt}(i:HInv g nm (zo hs lks nm) (zo hs hds nm) (due hs ps nm) b [] tm L):b=zox g nm:=by
 unfold zox
 by_cases c:nm=g
 ·rw[T0 c,i.goal c]
 ·rw[N0 c]
  exact zhg (λ_=>Iff.rfl) (λe he=>by cases(show e∈([]:List WM)from he)) (i.best c) (rfl:zey (zo hs lks nm) (za1 nm (zo hs lks nm) []) none)
theorem zrF{nm:Str}(hn:nm∈hs){L:List Lt}(i:HInv g nm (zo hs lks nm) (zo hs hds nm) (due hs ps nm) (zft g hs ps hds nm).1 [] (zft g hs ps hds nm).2.2 L):SOk g hs ps lks hds O nm (zft g hs ps hds nm):=
 ⟨⟨_,i⟩,zjj hn i λ_ z=>(nomatch z),λ_ z=>(nomatch z),List.nodup_nil⟩
theorem zmR(N:Tn g hs ps lks hds O){xs:List Str}(h:∀x∈xs,x∈hs/\SOk g hs ps lks hds O x (zft g hs ps hds x)):RdR hs O (rdB g hs ps hds xs):=λe he=>by
 obtain⟨x,hx,he⟩:=List.mem_flatMap.mp he
 exact zjk N (h x hx).1 (h x hx).2.b e he
structure NwA(C:Addr)(hs:List Str)(H H':Hp)(v:V)(As:List HA)(xs:List Str):Prop where
 ns:As.map (·.nm)=xs
 al:HsAll C hs H' v As λ_=>s0
 nd:(zak As).Nodup
 nw:∀c∈zak As,H c=none
 sm:Same H H'
theorem zeS{As:List HA}{a:HA}:zak (As ++ [a])=zak As ++adr a:=by unfold zak;rw[List.flatMap_append];simp
theorem NwA.one{H4:Hp}{As:List HA}{xs:List Str}{p dx hd td e:Addr}{nm:Str}(N:NwA C hs H H3 v As xs)(np:H3 p=none)(ndx:H3 dx=none)
 (f1:upd (upd H3 dx (.own p)) p (.ins C dx []) hd=none) (f2:upd (upd H3 dx (.own p)) p (.ins C dx []) td=none) (nht:hd≠td) (hp4:H4 p=some (.ins C dx (zcy v nm hd td ga 0))) (hh4:H4 hd=some (.dK [])) (ht4:H4 td=some (.dK [])) (hg4:H4 ga=some (.tup [.non, .ref e])) (he4:H4 e=some (.tup []))
 (k4:Keep p (upd (upd H3 dx (.own p)) p (.ins C dx [])) H4):NwA C hs H H4 v (As ++ [⟨nm,p,dx,hd,td⟩]) (xs ++ [nm])/\Same H3 H4:=by
 have ndp:∀{c o},H3 c=some o->c≠p:=λ{c o} e=>zh e np
 have u34:Same H3 (upd (upd H3 dx (.own p)) p (.ins C dx [])):=λc o e=>by rw[zc (ndp e),zc (zh e ndx)];exact e
 have s34:Same H3 H4:=λc o e=>k4 c o (ndp e) (u34 c o e)
 have hd0:H3 hd=none:=u34.free f1
 have td0:H3 td=none:=u34.free f2
 have A4:HsAt C hs H4 p dx hd td ga v nm 0 none [] [] [] []:=⟨hp4,hh4, .nil, .nil,ht4, .nil, .nil,⟨.non, .ref e,hg4,rfl,e,rfl,he4⟩,trivial,nht⟩
 have free3:∀c∈adr ⟨nm,p,dx,hd,td⟩,H3 c=none:=λc hc=>by
  simp only[adr,X0,j1,or_false] at hc
  rcases hc with rfl|rfl|rfl
  ·exact np
  ·exact hd0
  ·exact td0
 refine⟨⟨by rw[E2,N.ns];rfl,λa ha=>?_,?_,λc hc=>?_,N.sm.trans s34⟩,s34⟩
 ·rcases N2.mp ha with ha|ha
  ·exact (N.al.same s34) a ha
  ·rw[X1.mp ha]
   exact⟨ga,0,[],[],A4⟩
 ·rw[zeS,List.nodup_append]
  refine⟨N.nd,?_,λc hc c' hc' ee=>?_⟩
  ·have n1:p≠hd:=zr hp4 hh4 `Z3
   have n2:p≠td:=zr hp4 ht4 `Z3
   simp[adr,n1,n2,nht]
  ·obtain ⟨o,ho⟩:=zeF N.al hc
   rw[ee,free3 c' hc'] at ho
   cases ho
 ·rw[zeS] at hc
  rcases N2.mp hc with hc|hc
  ·exact N.nw c hc
  ·exact N.sm.free (free3 c hc)
theorem NwA.put{As:List HA}{xs:List Str}{o:HO}(N:NwA C hs H H3 v As xs)(hl:H l=none)(hl3:H3 l=some o)(nt:∀z,o≠ .tup z)(na:l∉zak As):NwA C hs H (upd H3 l o') v As xs:=
 ⟨N.ns,N.al.hold (λc xs e=>by rw[zc λz=>by rw[z,hl3] at e;cases e;exact nt _ rfl];exact e) λc hc ob e=>by rw[zc λz=>na (by rw[←z];exact hc)];exact e,N.nd,N.nw,λc ob e=>by rw[zc (zh e hl)];exact N.sm c ob e⟩
theorem znU{As:List HA}{a:HA}:ppl (As ++ [a])=ppl As ++ [(Sum.inr a.nm, .ref a.p)]:=by unfold ppl;rw[E2];rfl
theorem zmV{As:List HA}(h:x∉As.map (·.nm)):zaF (ppl As) (Sum.inr x)=none:=by
 induction As with
 |nil=>rfl
 |cons a As ih=>
  rw[N1,X0,not_or] at h
  show zaF ((Sum.inr a.nm, .ref a.p)::ppl As) (Sum.inr x)=none
  rw[zbZ (λz=>h.1 (by injection z with z;exact z.symm))]
  exact ih h.2
theorem zf5(nd:hs.Nodup)(h:hs[i]?=some x):x∉hs.take i:=λz=>by
 obtain⟨j,hj,ej⟩:=y1 z
 rw[Z1] at hj
 rw[List.getElem_take] at ej
 have:=zbQ nd (show hs[j]?=some x by rw[G0 (),ej]) h
 lia
noncomputable def zkY(C CR:Addr):Sp:=λvs H Q _=>∃(g:Str) (hs:List Str) (ps:List (Str×Str)) (lks hds:List D) (O:List Str) (rp dr:Addr) (v:V),vs=[.ref rp,v]/\H rp=some (.ins CR dr [])/\Tn g hs ps lks hds O/\Rep H v (zal g hs ps lks hds)/\
 ∀(d wl:Addr) (As:List HA) (us:List V) (H':Hp),RnAt C CR hs H' rp dr d wl v As (zft g hs ps hds) us (rdB g hs ps hds hs)->(∀x∈hs,SOk g hs ps lks hds O x (zft g hs ps hds x))->H wl=none->H d=none->(∀c∈zak As,H c=none)->Keep rp H H'->Q .non H'
theorem zon(Y:Ev K mg):FnOk P w K mg base CX0 9 Y.a_Run___init__ Y.d_Run___init__ zaK (zkY Y.c_House Y.c_Run):=by
 have G_House___init__:FnOk P w K mg base CX0 1 Y.a_House___init__ Y.d_House___init__ zag (zf8 Y.c_House):=zht Y
 have G_House_begin:FnOk P w K mg base CX0 8 Y.a_House_begin Y.d_House_begin zaz (zeU Y.c_House):=zgA Y
 refine Y.Run___init__.fn.okQ zdA (λvs H Q E h=>?_) `Y2
 ·obtain ⟨g,hs,ps,lks,hds,O,rp,dr,v,rfl,_⟩:=h;rfl
 ·obtain ⟨g,hs,ps,lks,hds,O,rp,dr,v,rfl,hrp,N,hv,q⟩:=h
  have T10:=N.T.ten
  refine⟨_,(zg (zdL (qv 0) (qc 1))
   (zg (zdL (qv 0) (zjn (src:=[none,some 1]) zcr rfl rfl (zc1 (zS zG (qc 1) zf)) (λ_ _ _ _ _=>(zp 0 zcr.nd)) (λ_ _ _ _ _=>zc5) (λ_ _ _ _ _=>(qv 0)) (λ_ _ _ _ _=>(zjL Y.mk_House G_House___init__ (hr.mono ⋯) Y.m_House Y.House___init__.b .nil zk (za (qc 1) (za (qv 0) zd))))))
   (zg (zdL (qv 0) (zdx zd))
   (zj (zb9 PassesOwn.never rfl (zc1 (zS zG (qc 1) zf)) (zp 2 zdA.nd) (zj (zaV (zfs K2 F.slot_list_extend F.type_list_extend ze4 (zP (qv 0)) (za (zaY (zc4 (hu1 hr) (zP (qv 0)) (qv 2)) Y.k_House Y.House_begin.m G_House_begin (hr.mono ⋯) Y.House_begin.b .nil zk) zd))))))))),?_⟩
  refine⟨_,rfl,_,rfl,rp,_,dr,[],rfl,hrp,Y.k_Run,Y.n_Run_place,(by decide:0<1000),?_⟩
  have k1:Keep rp H (upd H rp (.ins Y.c_Run dr (zad "place" v []))):=Keep.upd _ _ _
  have r1:upd H rp (.ins Y.c_Run dr (zad "place" v [])) rp=some (.ins Y.c_Run dr [("place",v)]):=zb
  generalize upd H rp (.ins Y.c_Run dr (zad "place" v []))=H1 at *
  have m1:∀c xs,H c=some (.tup xs)->H1 c=some (.tup xs):=λc xs e=>k1 _ _ (zr e hrp `Z3) e
  have hv1:=zI hv N.T m1
  obtain⟨p,pr,pt,pl,pa,vt,vl,va,rfl,hp,hpr,hpt,rt,hpl,rl,hpa,ra⟩:=zeA hv1
  refine⟨_,rfl,p,_,1,_,rfl,rfl, .inl (.inl hp),at1,pr,rfl,⟨_, .inl (.inl hpr)⟩,?_⟩
  refine zlH (zbs (K:=K) (xs:=hs.map V.str)) (λl i ys σ' H'=>(∃o1,σ'=[o1,some (.ref p)])/\∃As,ys=ppl As/\l∉zak As/\NwA Y.c_House hs H1 H' (.ref p) As (hs.take i)) ?_ ?_ ?_ ?_
  ·exact λl hl=>⟨⟨_,rfl⟩,[],rfl,`Z3,rfl,(λ_ z=>nomatch z),List.nodup_nil,(λ_ z=>nomatch z),Same.new hl⟩
  ·exact λl i ys σ' H' hl ⟨_,As,_,_,Nw⟩=> .inl (.inl (Nw.sm _ _ hpr))
  ·rintro l i x ys σ' H3 hl hi hx ⟨⟨o1,rfl⟩,As,rfl,nl,Nw⟩ hl3
   rw[D0] at hi
   have ei:hs[i]?=some hs[i]:=G0 hi
   have ex:x= .str hs[i]:=by rw[P0,ei] at hx;cases hx;rfl
   subst ex
   have tk:hs.take (i+1)=hs.take i ++ [hs[i]]:=by rw[Q2,ei];rfl
   have nx:=zf5 N.T.hs_nd ei
   generalize hs[i]=nm at *
   refine⟨_,rfl,_,rfl,_,rfl,λp4 dx np ndx nex=>⟨p4,dx, .ref p,nm,rfl,zb,λhd td ga e H4 f1 f2 f3 f4 nht hp4 hh4 ht4 hg4 he4 k4=>⟨rfl,?_⟩⟩⟩
   obtain⟨Nw4,s34⟩:=Nw.one (nm:=nm) np ndx f1 f2 nht hp4 hh4 ht4 hg4 he4 k4
   have hl4:=s34 _ _ hl3
   have nl4:l∉zak (As ++ [⟨nm,p4,dx,hd,td⟩]):=λz=>by
    rw[zeS] at z
    rcases N2.mp z with z|z
    ·exact nl z
    ·simp only[adr,X0,j1,or_false] at z
     have u34:Same H3 (upd (upd H3 dx (.own p4)) p4 (.ins Y.c_House dx [])):=λc o e=>by rw[zc (zh e np),zc (zh e ndx)];exact e
     rcases z with z|z|z
     ·rw[←z,hl3] at np;cases np
     ·rw[←z,u34 _ _ hl3] at f1;cases f1
     ·rw[←z,u34 _ _ hl3] at f2;cases f2
   have la:As.length<=10:=by have:=T2 List.length Nw.ns;rw[D0,Z1] at this;lia
   refine⟨Sum.inr nm,rfl,hl4,zn (by unfold ppl;rw[D0];lia),⟨_,rfl⟩,_,?_,nl4,?_⟩
   ·rw[zfX _ (zmV (by rw[Nw.ns];exact nx)),znU]
   ·rw[tk]
    exact Nw4.put hl hl4 (λz y=>nomatch y) nl4
  rintro d ys σ' H3 hd0 ⟨_,As,rfl,nl,Nw⟩ hd3
  rw[show hs.take (hs.map V.str).length=hs by rw[D0];exact List.take_length] at Nw
  have nr:rp∉zak As:=λz=>by have:=Nw.nw _ z;rw[r1] at this;cases this
  have hr3:=Nw.sm _ _ r1
  refine⟨_,rfl,rp,_,dr,_,rfl,hr3,Y.k_Run,Y.n_Run_people,(by decide:1<1000),?_⟩
  have k4:Keep rp H3 (upd H3 rp (.ins Y.c_Run dr (zad "people" (.ref d) [("place", .ref p)]))):=Keep.upd _ _ _
  have r4:upd H3 rp (.ins Y.c_Run dr (zad "people" (.ref d) [("place", .ref p)])) rp=some (.ins Y.c_Run dr [("place", .ref p),("people", .ref d)]):=zb
  generalize upd H3 rp (.ins Y.c_Run dr (zad "people" (.ref d) [("place", .ref p)]))=H4 at *
  refine⟨few rfl,λwl hwl=>⟨_,rfl,rp,_,dr,_,rfl,Same.new hwl _ _ r4,Y.k_Run,Y.n_Run_waiting,(by decide:2<1000),?_⟩⟩
  have nwr:wl≠rp:=λz=>by rw[z,r4] at hwl;cases hwl
  have r5:upd (upd H4 wl (.lst [])) rp (.ins Y.c_Run dr (zad "waiting" (.ref wl) [("place", .ref p),("people", .ref d)])) rp=some (.ins Y.c_Run dr (zjv (.ref p) d wl)):=zb
  have w5:upd (upd H4 wl (.lst [])) rp (.ins Y.c_Run dr (zad "waiting" (.ref wl) [("place", .ref p),("people", .ref d)])) wl=some (.lst []):=by rw[zc nwr];exact zb
  have k5:∀c o,c≠rp->H3 c=some o->upd (upd H4 wl (.lst [])) rp (.ins Y.c_Run dr (zad "waiting" (.ref wl) [("place", .ref p),("people", .ref d)])) c=some o:=λc o n e=>by
   have e4:=k4 c o n e
   rw[zc n,zc (zh e4 hwl)];exact e4
  generalize upd (upd H4 wl (.lst [])) rp (.ins Y.c_Run dr (zad "waiting" (.ref wl) [("place", .ref p),("people", .ref d)]))=H5 at *
  have m5:∀c xs,H3 c=some (.tup xs)->H5 c=some (.tup xs):=λc xs e=>k5 c _ (zr e hr3 `Z3) e
  have hd5:=k5 d _ (zr hd3 hr3 `Z3) hd3
  have A5:RnAt Y.c_House Y.c_Run hs H5 rp dr d wl (.ref p) As (stB g hs ps hds []) [] (rdB g hs ps hds []):=⟨r5,hd5,w5, .nil,(Nw.al.hold m5 λc hc o e=>k5 c o (λz=>nr (by rw[←z];exact hc)) e).congr λa _=>rfl,Nw.ns,D2.mpr ⟨nl,Nw.nd⟩⟩
  have m15:∀c xs,H1 c=some (.tup xs)->H5 c=some (.tup xs):=λc xs e=>m5 _ _ (Nw.sm _ _ e)
  refine⟨_,rfl,p,_,1,_,rfl,rfl, .inl (.inl (m15 _ _ hp)),at1,pr,rfl,⟨_, .inl (.inl (m15 _ _ hpr))⟩,?_⟩
  have ntw:∀{c xs},H5 c=some (.tup xs)->c≠wl:=λ{c xs} e=>zr e w5 `Z3
  refine zaX (zbs (K:=K) (xs:=hs.map V.str)) (λi σ' H'=>(∃o2,σ'=[some (.ref rp),some (.ref p),o2])/\(∃us,RnAt Y.c_House Y.c_Run hs H' rp dr d wl (.ref p) As (stB g hs ps hds (hs.take i)) us (rdB g hs ps hds (hs.take i)))/\(∀x∈hs.take i,SOk g hs ps lks hds O x (zft g hs ps hds x))/\∀c o,c≠wl->c∉zak As->H5 c=some o->H' c=some o) ?_ ?_ ?_ ?_
  ·exact ⟨⟨_,rfl⟩,⟨[],A5⟩,(λ_ z=>nomatch z),λc o _ _ e=>e⟩
  ·exact λi σ' H' z=> .inl (.inl (z.2.2.2 _ _ (ntw (m15 _ _ hpr)) (zbI A5.ha (m15 _ _ hpr)) (m15 _ _ hpr)))
  ·rintro i y σ' H6 hi hy ⟨⟨o2,rfl⟩,⟨us,A6⟩,so6,k6⟩
   rw[D0] at hi
   have ei:hs[i]?=some hs[i]:=G0 hi
   have ex:y= .str hs[i]:=by rw[P0,ei] at hy;cases hy;rfl
   subst ex
   have tk:hs.take (i+1)=hs.take i ++ [hs[i]]:=by rw[Q2,ei];rfl
   have nx:=zf5 N.T.hs_nd ei
   have hnm:=List.getElem_mem hi
   generalize hs[i]=nm at *
   obtain⟨a,ha,en,eva⟩:=zcc A6.ns hnm
   obtain⟨ga,n,kh,kt,B⟩:=A6.ha a ha
   rw[en,show stB g hs ps hds (hs.take i) nm=s0 from N0 nx] at B
   cases B.th
   cases B.tt
   have m56:∀c xs,H5 c=some (.tup xs)->H6 c=some (.tup xs):=λc xs e=>k6 _ _ (ntw e) (zbI A5.ha e) e
   have lR:=zfD (g:=g) (ps:=ps) (hds:=hds) T10 (hs.take i)
   rw[Z1] at lR
   have lu:=A6.rd.1
   refine⟨_,rfl,rp,_,dr,_,_,rfl,A6.hr,Y.k_Run,Y.n_Run_waiting,zca, .inl ⟨rfl,_,SqL.of A6.hw⟩,?_⟩
   refine⟨_,rfl,rp,_,dr,_,_,rfl,A6.hr,Y.k_Run,Y.n_Run_people,zcB,_,rfl,d,_,rfl,dgk A6.hd eva,a.p,a.dx,_,rfl,B.hp,rfl,?_⟩
   refine⟨a.p,a.dx,a.hd,a.td,ga, .ref p,nm,n,g,hs,ps,lks,hds,rfl,B,zI hv1 N.T λc xs e=>m56 _ _ (m15 _ _ e),N.T,N.hf,hnm,λl ga' us2 n' b' kt' tm' L H7 hl0 hl7 R7 B7 I7 k7 lL eL eT=>?_⟩
   have eb:=zqC I7
   subst eb
   subst eL
   subst eT
   obtain⟨A7,f7⟩:=A6.hear N.T.hs_nd ha (s':=zft g hs ps hds nm) ⟨ga',n',_,kt',by rw[en];exact B7⟩ k7
   rw[en,zjo,←tk] at A7
   have lk:=R7.len
   refine⟨wl,l,us,us2,rfl,rfl,A7.hw,hl7,W2 (zn ()),⟨_,rfl⟩,⟨us ++us2,?_⟩,λx hx=>?_,λc o n1 n2 e=>?_⟩
   ·have e2:rdB g hs ps hds (hs.take (i+1))=rdB g hs ps hds (hs.take i)++zoB g hs ps hds nm:=by rw[tk];unfold rdB;rw[List.flatMap_append];simp
    rw[e2]
    exact A7.wait (A7.rd.app (RdO.lts R7))
   ·rw[tk] at hx
    rcases N2.mp hx with hx|hx
    ·exact so6 x hx
    ·rw[X1.mp hx];exact zrF hnm I7
   ·rw[zc n1]
    exact f7 c o n2 (k6 c o n1 n2 e)
  ·rintro σ' H6 ⟨_,⟨us,A6⟩,so6,k6⟩
   rw[show hs.take (hs.map V.str).length=hs by rw[D0];exact List.take_length] at A6 so6
   have back:∀c,H1 c=none->H c=none:=λc e=>by
    cases z:H c with
    |none=>rfl
    |some o=>
     by_cases y:c=rp
     ·rw[y,r1] at e;cases e
     ·rw[k1 c o y z] at e;cases e
   have nm1:∀{c o},H1 c=some o->c∉zak As:=λ{c o} e z=>by rw[Nw.nw c z] at e;cases e
   refine q d wl As us H6 ⟨A6.hr,A6.hd,A6.hw,A6.rd,A6.ha.congr λa ha=>?_,A6.ns,A6.sep⟩ so6 (back wl ?_) (back d hd0) (λc hc=>back c (Nw.nw c hc)) λc o n e=>?_
   ·exact (T0 (by rw[←A6.ns];exact V1.mpr ⟨a,ha,rfl⟩)).symm
   ·cases z:H1 wl with
    |none=>rfl
    |some o=>rw[k4 wl o nwr (Nw.sm _ _ z)] at hwl;cases hwl
   ·have e1:=k1 c o n e
    have e3:=Nw.sm _ _ e1
    exact k6 c o (λz=>by rw[z] at e3;rw[k4 wl o nwr e3] at hwl;cases hwl) (nm1 e1) (k5 c o n e3)
theorem RnAt.keep{CR:Addr}{d:Addr}{As Bs:List HA}{st st':Str->S3}{R:RdL}(A0:RnAt C CR hs H rp dr d wl v As st us R)(B0:HsAll C hs H v Bs st')(sep:(d::(zak As ++zak Bs)).Nodup)(k:∀c o,c∉zak Bs->H c=some o->H' c=some o):RnAt C CR hs H' rp dr d wl v As st us R:=by
 have s1:=D2.mp sep
 have m:∀c xs,H c=some (.tup xs)->H' c=some (.tup xs):=λc xs e=>k c _ (zbI B0 e) e
 refine⟨k _ _ (λz=>?_) A0.hr,k _ _ (λz=>s1.1 (F1 _ z)) A0.hd,k _ _ (zN B0 A0.hw) A0.hw,A0.rd.mono m,A0.ha.hold m λc hc o e=>k c o (λz=>(List.nodup_append.mp s1.2).2.2 c hc c z rfl) e,A0.ns,A0.sep⟩
 obtain⟨b,hb,hc⟩:=List.mem_flatMap.mp z
 obtain⟨ga,n,kh,kt,B⟩:=B0 b hb
 have e:=A0.hr
 simp only[adr,X0,j1,or_false] at hc
 rcases hc with hc|hc|hc
 ·rw[hc,B.hp] at e;exact zqu (O1 e)
 ·rw[hc,B.hh] at e;cases e
 ·rw[hc,B.ht] at e;cases e
theorem HsAll.hear{Bs:List HA}{st:Str->S3}(B0:HsAll C hs H v Bs st)(ns:Bs.map (·.nm)=hs)(nd:hs.Nodup)(sep:(zak Bs).Nodup){a:HA}(ha:a∈Bs){s':S3}(B1:HsE C hs H1 v a s')(k1:∀c o,c≠a.p->c≠a.hd->c≠a.td->H c=some o->H1 c=some o):
 HsAll C hs H1 v Bs (zja st a.nm s')/\∀c o,c∉zak Bs->H c=some o->H1 c=some o:=by
 obtain⟨ga,n,kh,kt,B⟩:=B0 a ha
 have na:∀c,c∉adr a->c≠a.p/\c≠a.hd/\c≠a.td:=λc hc=>⟨λz=>hc (by simp[adr,z]),λz=>hc (by simp[adr,z]),λz=>hc (by simp[adr,z])⟩
 have k2:∀c o,c∉adr a->H c=some o->H1 c=some o:=λc o hc e=>k1 c o (na c hc).1 (na c hc).2.1 (na c hc).2.2 e
 have m:∀c xs,H c=some (.tup xs)->H1 c=some (.tup xs):=λc xs e=>k1 c _ (zr e B.hp `Z3) (zr e B.hh `Z3) (zr e B.ht `Z3) e
 refine⟨λb hb=>?_,λc o hc e=>k2 c o (λz=>hc (List.mem_flatMap.mpr ⟨a,ha,z⟩)) e⟩
 by_cases e:b.nm=a.nm
 ·have:=zjR ns nd hb ha e
  subst this
  show HsE C hs H1 v b (if b.nm=b.nm then s' else _)
  rw[T0 rfl]
  exact B1
 ·show HsE C hs H1 v b (if b.nm=a.nm then s' else st b.nm)
  rw[N0 e]
  exact(B0 b hb).hold m λc hc o e'=>k2 c o (zn8 sep hb ha (λz=>e (by rw[z])) hc) e'
theorem zla:∀Bs:List HA,zew (Bs.map (·.nm)) (Bs.map λb=>V.ref b.p)=ppl Bs
 |[]=>rfl
 |b::Bs=>by
  show(Sum.inr b.nm,V.ref b.p)::zew (Bs.map (·.nm)) (Bs.map λb=>V.ref b.p)=(Sum.inr b.nm,V.ref b.p)::ppl Bs
  rw[zla Bs]
theorem zdG{n:Int}(h:Hand H a n)(k:∀o,H a=some o->H' a=some o):Hand H' a n:=let⟨x,m,t,e,r⟩:=h;⟨x,m,t,k _ e,r⟩
theorem zbe{n:Int}(h:Hand H a n):∃xs,H a=some (.lst xs):=let⟨x,m,t,e,r⟩:=h;⟨_,e⟩
structure LwI(C CR:Addr)(g:Str)(hs:List Str)(ps:List (Str×Str))(lks hds:List D)(O:List Str)(H H':Hp)(a:Addr)(n:Int)(rp dr d wl eb rl p:Addr)(As Bs:List HA)(st:Str->S3)(us us2:List V)(R:RdL):Prop where
 rn:RnAt C CR hs H' rp dr d wl (.ref p) As st us R
 hb:HsAll C hs H' (.ref p) Bs st
 so:∀x∈hs,SOk g hs ps lks hds O x (st x)
 rr:RdR hs O R
 le:R.length<=310
 he:H' eb=some (.dK (ppl Bs))
 hl:H' rl=some (.lst us2)
 rd:RdO H' us2 R
 n1:rl≠wl
 n2:rl≠a
 hh:Hand H' a n
 hv:Rep H' (.ref p) (zal g hs ps lks hds)
 sm:Same H H'
 nr:H rl=none
theorem LwI.same{CR:Addr}{n:Int}{d p:Addr}{As Bs:List HA}{st:Str->S3}{R:RdL}(I:LwI C CR g hs ps lks hds O H H' a n rp dr d wl eb rl p As Bs st us us2 R)(s:Same H' H2):LwI C CR g hs ps lks hds O H H2 a n rp dr d wl eb rl p As Bs st us us2 R:=
 ⟨I.rn.same s,I.hb.same s,I.so,I.rr,I.le,s _ _ I.he,s _ _ I.hl,I.rd.mono λc xs e=>s _ _ e,I.n1,I.n2,I.hh.same s,I.hv.same s,I.sm.trans s,I.nr⟩
theorem LwI.hand{CR:Addr}{n:Int}{d p:Addr}{As Bs:List HA}{st:Str->S3}{R:RdL}(N:Tn g hs ps lks hds O)(I:LwI C CR g hs ps lks hds O H H' a n rp dr d wl eb rl p As Bs st us us2 R)(na:H a=none)(nwa:wl≠a)(k:Keep a H' H2)(h:Hand H2 a n'):LwI C CR g hs ps lks hds O H H2 a n' rp dr d wl eb rl p As Bs st us us2 R:=by
 obtain⟨xs,ea⟩:=zbe I.hh
 have m:∀c xs,H' c=some (.tup xs)->H2 c=some (.tup xs):=λc xs e=>k c _ (zr e ea `Z3) e
 have q1:=zN I.rn.ha ea
 have q2:=zN I.hb ea
 exact⟨⟨k _ _ (zr I.rn.hr ea `Z3) I.rn.hr,k _ _ (zr I.rn.hd ea `Z3) I.rn.hd,k _ _ nwa I.rn.hw,I.rn.rd.mono m,I.rn.ha.hold m λc hc o e=>k c o (λz=>q1 (by rw[←z];exact hc)) e,I.rn.ns,I.rn.sep⟩,I.hb.hold m λc hc o e=>k c o (λz=>q2 (by rw[←z];exact hc)) e,I.so,I.rr,I.le,k _ _ (zr I.he ea `Z3) I.he,k _ _ I.n2 I.hl,I.rd.mono m,I.n1,I.n2,h,zI I.hv N.T m,λc o e=>k c o (zh e na) (I.sm c o e),I.nr⟩
theorem RnAt.other{CR:Addr}{d:Addr}{As:List HA}{st:Str->S3}{R:RdL}(A0:RnAt C CR hs H rp dr d wl v As st us R)(hl:H l=some (.lst xs))(n:l≠wl):RnAt C CR hs (upd H l (.lst ys)) rp dr d wl v As st us R:=by
 have m:∀c xs,H c=some (.tup xs)->upd H l (.lst ys) c=some (.tup xs):=λc xs e=>by rw[zc (zr e hl `Z3)];exact e
 have q1:=zN A0.ha hl
 exact⟨by rw[zc (zr A0.hr hl `Z3)];exact A0.hr,by rw[zc (zr A0.hd hl `Z3)];exact A0.hd,by rw[zc (Ne.symm n)];exact A0.hw,A0.rd.mono m,A0.ha.hold m λc hc o e=>by rw[zc λz=>q1 (by rw[←z];exact hc)];exact e,A0.ns,A0.sep⟩
theorem RdR.app{R R':RdL}(h:RdR hs O R)(h':RdR hs O R'):RdR hs O (R ++R'):=λe he=>(N2.mp he).elim (h e) (h' e)
theorem RdR.erase{R:RdL}(h:RdR hs O R)(k:Nat):RdR hs O (R.eraseIdx k):=λe he=>h e (List.mem_of_mem_eraseIdx he)
noncomputable def spLaw(K:W.Frag):Sp:=λvs H Q _=>∃(a:Addr) (ns:List Int),vs=[.ref a]/\SqL K H a (ns.map V.int)/\ns.length<=63/\∀H',Q (.bl true) H'
theorem ok_law_of(Y:Ev K mg){fl:Addr}{fdl:FuncData}(FL:Fun K "law" "law" zjh fl fdl):FnOk P w K mg base CX0 11 fl fdl zmX (spLaw K):=by
 have G__law_all:FnOk P w K mg base CX0 2 Y.a__law_all Y.d__law_all zcX (zle K):=znI Y
 have G__law_town:FnOk P w K mg base CX0 6 Y.a__law_town Y.d__law_town zb4 znf:=zpG Y
 have G__law_take:FnOk P w K mg base CX0 1 Y.a__law_take Y.d__law_take zO zcY:=zch Y
 have G_House___init__:FnOk P w K mg base CX0 1 Y.a_House___init__ Y.d_House___init__ zag (zf8 Y.c_House):=zht Y
 have G_House_begin:FnOk P w K mg base CX0 8 Y.a_House_begin Y.d_House_begin zaz (zeU Y.c_House):=zgA Y
 have G_House_hear:FnOk P w K mg base CX0 9 Y.a_House_hear Y.d_House_hear zay (zeq Y.c_House):=zeW Y
 have G_Run___init__:FnOk P w K mg base CX0 9 Y.a_Run___init__ Y.d_Run___init__ zaK (zkY Y.c_House Y.c_Run):=zon Y
 have G_Run_come:FnOk P w K mg base CX0 10 Y.a_Run_come Y.d_Run_come zcK (zeh true Y.c_House Y.c_Run):=zml Y
 have G_Run_copy:FnOk P w K mg base CX0 10 Y.a_Run_copy Y.d_Run_copy zcD (zeh false Y.c_House Y.c_Run):=zlU Y
 have G__law_is_so:FnOk P w K mg base CX0 4 Y.a__law_is_so Y.d__law_is_so zbK (zi9 Y.c_House Y.c_Run):=zlX Y
 refine FL.okQ zcq (λvs H Q E h=>?_) `Y2
 ·obtain ⟨a,ns,rfl,_⟩:=h;rfl
 ·obtain ⟨sc,ns,rfl,hS,hns,q⟩:=h
  refine⟨_,(zg (zy 1 zcq.nd (zm G__law_all (hr.mono ⋯) Y._law_all.mg Y._law_all.kp Y._law_all.b .nil zk (za (qv 0) zd)))
   (zg (zf4 2 zcq.nd (zm G__law_town (hr.mono ⋯) Y._law_town.mg Y._law_town.kp Y._law_town.b .nil zk (za (qv 1) zd)))
   (zg (zy 3 zcq.nd (zjL Y.mk_Run G_Run___init__ (hr.mono ⋯) Y.m_Run Y.Run___init__.b .nil zk (za (qc 2) zd)))
   (zg (zy 4 zcq.nd (zZ (zgx rfl) Y.dict boot_dict (za (zcQ (src:=[none,some 2]) zlj rfl rfl (zc1 (zS zG (qc 2) zf)) (λ_ _ _ _ _=>(zp 0 zlj.nd)) (λ_ _ _ _ _=>zc5) (λ_ _ _ _ _=>(zK (za (qv 0) (za (zjL Y.mk_House G_House___init__ (hr.mono ⋯) Y.m_House Y.House___init__.b .nil zk (za (qc 1) (za (qv 0) zd))) zd))))) zd)))
   (zg (zy 5 zcq.nd (zdx zd))
   (zg (zb9 PassesOwn.never rfl (zc1 (zS zG (qc 2) zf)) (zp 6 zcq.nd) (zj (zy 5 zcq.nd (zC zkr (qv 5) (zaY (zc4 (hu1 hr) (qv 4) (qv 6)) Y.k_House Y.House_begin.m G_House_begin (hr.mono ⋯) Y.House_begin.b .nil zk)))))
   (zg (zb9 PassesOwn.never rfl (zec Y.range (za (zC z8 zf (zz (ze8 rfl) Y.min zeO (za zf (za (zz z9 Y.len zbr (za (qv 0) zd)) zd)))) zd)) (zp 7 zcq.nd) (zg (zaw (zjt (ziK (zm G__law_is_so (hr.mono ⋯) Y._law_is_so.mg Y._law_is_so.kp Y._law_is_so.b .nil zk (za (qv 3) (za (qv 4) (za (qv 5) zd)))))) (zj (zv zir)) z7)
   (zj (zaw (zoF zoq zix zf (zz z9 Y.len zbr (za (qv 5) zd)) zf) (zg (zy 8 zcq.nd (zm G__law_take (hr.mono ⋯) Y._law_take.mg Y._law_take.kp Y._law_take.b .nil zk (za (qv 1) (za (zz z9 Y.len zbr (za (qv 5) zd)) zd))))
   (zg (zy 9 zcq.nd (zS zU (qv 5) (qv 8)))
   (zfg (zaw (zQ zav (zm G__law_take (hr.mono ⋯) Y._law_take.mg Y._law_take.kp Y._law_take.b .nil zk (za (qv 1) (za zf zd))) zf) (zj (zaV (zbu (qv 3) Y.k_Run Y.Run_copy.m G_Run_copy (hr.mono ⋯) Y.Run_copy.b .nil zk (za (qv 8) zd)))) (zg (zaV (zbu (qv 3) Y.k_Run Y.Run_come.m G_Run_come (hr.mono ⋯) Y.Run_come.b .nil zk (za (qv 8) zd)))
   (zj (zaV (zfs K2 F.slot_list_pop F.type_list_pop zje (qv 5) (za (qv 8) zd))))))
   (zg (zy 10 zcq.nd (zbu (zc4 (hu1 hr) (qv 4) (zS zG (qv 9) zf)) Y.k_House Y.House_hear.m G_House_hear (hr.mono ⋯) Y.House_hear.b .nil zk (za (qv 9) zd)))
   (zj (zy 5 zcq.nd (zC zkr (qv 5) (qv 10)))))))) z7))))
   (zj (zv (zm G__law_is_so (hr.mono ⋯) Y._law_is_so.mg Y._law_is_so.kp Y._law_is_so.b .nil zk (za (qv 3) (za (qv 4) (za (qv 5) zd))))))))))))),?_⟩
  refine⟨_,rfl,sc,ns,rfl,hS,hns,λa H1 ha hH1 s1=>?_⟩
  refine⟨_,rfl,a,0,rfl,hH1,⋯,λv g hs ps lks hds H2 hv T _ ⟨O,PO⟩ _ hf hH2 k2=>?_⟩
  have N:Tn g hs ps lks hds O:=⟨T,PO,hf⟩
  have s02:Same H H2:=λc o e=>k2 c o (zh e ha) (s1 c o e)
  have T10:=T.ten
  refine⟨_,rfl,λrp dr np ndr ner=>⟨g,hs,ps,lks,hds,O,rp,dr,v,rfl,zb,N,?_,λd wl As us H3 A3 so3 nwl ndd nad k3=>⟨rfl,?_⟩⟩⟩
  ·exact hv.same λc o e=>by rw[zc (zh e np),zc (zh e ndr)];exact e
  have u23:Same H2 (upd (upd H2 dr (.own rp)) rp (.ins Y.c_Run dr [])):=λc o e=>by rw[zc (zh e np),zc (zh e ndr)];exact e
  have s23:Same H2 H3:=λc o e=>k3 c o (zh e np) (u23 c o e)
  have nwl2:=u23.free nwl
  have nd2:=u23.free ndd
  have na2:∀c∈zak As,H2 c=none:=λc hc=>u23.free (nad c hc)
  clear nwl ndd nad k3 u23
  have hv3:=hv.same s23
  have hH3:=hH2.same s23
  obtain⟨p,pr,pt,pl,pa,vt,vl,va,rfl,hp,hpr,hpt,rt,hpl,rl,hpa,ra⟩:=zeA hv3
  refine⟨_,rfl,p,_,1,_,rfl,rfl, .inl (.inl hp),at1,pr,rfl,⟨_, .inl (.inl hpr)⟩,?_⟩
  refine zbB (zbs (K:=K) (xs:=hs.map V.str)) (λl i ys σ' H'=>(∃o1,σ'=[o1,some (.ref p)])/\∃Bs ts,ys=ts.map V.ref/\TwosAt H' ts (hs.take i) (Bs.map λb=>V.ref b.p)/\NwA Y.c_House hs H3 H' (.ref p) Bs (hs.take i)) ?_ ?_ ?_ ?_
  ·exact λl hl=>⟨⟨_,rfl⟩,[],[],rfl, .nil,rfl,(λ_ z=>nomatch z),List.nodup_nil,(λ_ z=>nomatch z),Same.new hl⟩
  ·exact λl i ys σ' H' hl ⟨_,_,_,_,_,Nw⟩=> .inl (.inl (Nw.sm _ _ hpr))
  ·rintro l i x ys σ' H4 hl hi hx ⟨⟨o1,rfl⟩,Bs,ts,rfl,tw,Nw⟩ hl4
   rw[D0] at hi
   have ei:hs[i]?=some hs[i]:=G0 hi
   have ex:x= .str hs[i]:=by rw[P0,ei] at hx;cases hx;rfl
   subst ex
   have tk:hs.take (i+1)=hs.take i ++ [hs[i]]:=by rw[Q2,ei];rfl
   generalize hs[i]=nm at *
   refine⟨_,rfl,_,rfl,_,rfl,λp4 dx np' ndx nex=>⟨p4,dx, .ref p,nm,rfl,zb,λhd td ga e H5 f1 f2 f3 f4 nht hp4 hh4 ht4 hg4 he4 k4=>⟨rfl,few rfl,λp6 hp6=>?_⟩⟩⟩
   obtain⟨Nw5,s45⟩:=Nw.one (nm:=nm) np' ndx f1 f2 nht hp4 hh4 ht4 hg4 he4 k4
   have S6:=Same.new (o:= .tup [V.str nm, .ref p4]) hp6
   have hl6:=S6 _ _ (s45 _ _ hl4)
   have e6:=zb (H:=H5) (a:=p6) (o:= .tup [V.str nm, .ref p4])
   have Nw6:NwA Y.c_House hs H3 (upd H5 p6 (.tup [V.str nm, .ref p4])) (.ref p) _ _:=⟨Nw5.ns,Nw5.al.same S6,Nw5.nd,Nw5.nw,Nw5.sm.trans S6⟩
   have tw6:=tw.mono (H':=upd H5 p6 (.tup [V.str nm, .ref p4])) λc xs e=>S6 _ _ (s45 _ _ e)
   generalize upd H5 p6 (.tup [V.str nm, .ref p4])=H6 at *
   have up:∀c xs,H6 c=some (.tup xs)->upd H6 l (.lst (ts.map V.ref ++ [.ref p6])) c=some (.tup xs):=λc xs e=>by rw[zc (zr e hl6 `Z3)];exact e
   have lt:=tw.len.1
   rw[Z1] at lt
   refine⟨hl6,zn (by rw[D0];lia),⟨_,rfl⟩,_,ts ++ [p6],by rw[E2];rfl,?_,by rw[tk];exact Nw6.put hl hl6 (λz y=>nomatch y) (zN Nw6.al hl6)⟩
   rw[tk,E2]
   exact(tw6.mono up).snoc (up _ _ e6)
  rintro l0 ys σ' H4 hl0 ⟨_,Bs,ts,rfl,tw,Nw⟩ hl4
  rw[show hs.take (hs.map V.str).length=hs by rw[D0];exact List.take_length] at tw Nw
  refine⟨l0,ts,hs,_,rfl,hl4,tw,(),T.hs_nd,λeb heb=>?_⟩
  have ez:zew hs (Bs.map λb=>V.ref b.p)=ppl Bs:=by have:=zla Bs;rw[Nw.ns] at this;exact this
  rw[ez]
  have S5:=Same.new (o:= .dK (ppl Bs)) heb
  have he5:=zb (H:=H4) (a:=eb) (o:= .dK (ppl Bs))
  generalize upd H4 eb (.dK (ppl Bs))=H5 at *
  refine⟨few rfl,λrl0 hrl0=>?_⟩
  have S6:=Same.new (o:= .lst []) hrl0
  have hl6:=zb (H:=H5) (a:=rl0) (o:= .lst [])
  have he6:=S6 _ _ he5
  have s46:=S5.trans S6
  have s36:=Nw.sm.trans s46
  have A6:=A3.same s36
  have B6:=Nw.al.same s46
  obtain⟨xs0,ea0⟩:=zbe hH3
  have nr0:H rl0=none:=(s02.trans (s23.trans (Nw.sm.trans S5))).free hrl0
  have nrw:rl0≠wl:=λz=>by rw[z,S5 _ _ (Nw.sm _ _ A3.hw)] at hrl0;cases hrl0
  have nra:rl0≠a:=λz=>by rw[z,S5 _ _ (Nw.sm _ _ ea0)] at hrl0;cases hrl0
  generalize upd H5 rl0 (.lst [])=H6 at *
  have nwa:wl≠a:=λz=>by obtain⟨xs,e⟩:=zbe hH2;rw[←z,nwl2] at e;cases e
  have bk:∀c,H2 c=none->H c=none:=λc e=>s02.free e
  have nwl0:=bk wl nwl2
  have nas:∀c∈zak As,H c=none:=λc hc=>bk c (na2 c hc)
  have nbs:∀c∈zak Bs,H c=none:=λc hc=>bk c (s23.free (Nw.nw c hc))
  have ab:∀c∈zak As,∀c'∈zak Bs,c≠c':=λc hc c' hc' z=>by
   obtain⟨o,e⟩:=zeF A3.ha hc
   rw[z,Nw.nw c' hc'] at e;cases e
  have sepA:=D2.mp A3.sep
  have ndB:d∉zak Bs:=λz=>by have:=Nw.nw d z;rw[A3.hd] at this;cases this
  have sep:(d::(zak As ++zak Bs)).Nodup:=D2.mpr ⟨λz=>(N2.mp z).elim sepA.1 ndB,List.nodup_append.mpr ⟨sepA.2,Nw.nd,ab⟩⟩
  have neA:eb∉zak As:=λz=>by obtain⟨o,e⟩:=zeF A3.ha z;rw[Nw.sm _ _ e] at heb;cases heb
  have neB:eb∉zak Bs:=λz=>by obtain⟨o,e⟩:=zeF Nw.al z;rw[e] at heb;cases heb
  have hp6:=s36 _ _ hp
  have hpr6:=s36 _ _ hpr
  have hv6:=hv3.same s36
  have hH6:=hH3.same s36
  have s06:=s02.trans (s23.trans s36)
  refine⟨_,rfl,p,_,1,_,rfl,rfl, .inl (.inl hp6),at1,pr,rfl,⟨_, .inl (.inl hpr6)⟩,?_⟩
  refine zaX (zbs (K:=K) (xs:=hs.map V.str)) (λi σ' H'=>∃rl,(∃o6 o7 o8 o9 o10,σ'=[some (.ref sc),some (.ref a),some (.ref p),some (.ref rp),some (.ref eb),some (.ref rl),o6,o7,o8,o9,o10])/\(∃us2,H' rl=some (.lst us2)/\RdO H' us2 (rdB g hs ps hds (hs.take i)))/\(rl≠wl/\rl≠a/\H rl=none)/\HsAll Y.c_House hs H' (.ref p) Bs (stB g hs ps hds (hs.take i))/\∀c o,c∉zak Bs->H6 c=some o->H' c=some o) ?_ ?_ ?_ ?_
  ·exact ⟨rl0,⟨_,_,_,_,_,rfl⟩,⟨[],hl6, .nil⟩,⟨nrw,nra,nr0⟩,B6.congr λa _=>rfl,λc o _ e=>e⟩
  ·rintro i σ' H' ⟨rl,_,_,_,_,k⟩
   exact .inl (.inl (k _ _ (zbI B6 hpr6) hpr6))
  ·rintro i y σ' H7 hi hy ⟨rl,⟨o6,o7,o8,o9,o10,rfl⟩,⟨us2,hl7,rd7⟩,⟨n1,n2,n3⟩,B7,k7⟩
   rw[D0] at hi
   have ei:hs[i]?=some hs[i]:=G0 hi
   have ex:y= .str hs[i]:=by rw[P0,ei] at hy;cases hy;rfl
   subst ex
   have tk:hs.take (i+1)=hs.take i ++ [hs[i]]:=by rw[Q2,ei];rfl
   have nx:=zf5 T.hs_nd ei
   have hnm:=List.getElem_mem hi
   generalize hs[i]=nm at *
   obtain⟨b,hb,en,evb⟩:=zcc Nw.ns hnm
   obtain⟨ga,n,kh,kt,B⟩:=B7 b hb
   rw[en,show stB g hs ps hds (hs.take i) nm=s0 from N0 nx] at B
   cases B.th
   cases B.tt
   have m67:∀c xs,H6 c=some (.tup xs)->H7 c=some (.tup xs):=λc xs e=>k7 _ _ (zbI B6 e) e
   have lR:=zfD (g:=g) (ps:=ps) (hds:=hds) T10 (hs.take i)
   rw[Z1] at lR
   have lu:=rd7.1
   refine⟨_,rfl,_,rfl,_,rfl,eb,_,rfl,dgk (k7 _ _ neB he6) evb,b.p,b.dx,_,rfl,B.hp,rfl,?_⟩
   refine⟨b.p,b.dx,b.hd,b.td,ga, .ref p,nm,n,g,hs,ps,lks,hds,rfl,B,zI hv6 T m67,T,hf,hnm,λl ga' us3 n' b' kt' tm' L H8 hl0 hl8 R8 B8 I8 k8 lL eL eT=>?_⟩
   have eb':=zqC I8
   subst eb'
   subst eL
   subst eT
   obtain⟨B9,f9⟩:=B7.hear Nw.ns T.hs_nd Nw.nd hb (s':=zft g hs ps hds nm) ⟨ga',n',_,kt',by rw[en];exact B8⟩ k8
   rw[en,zjo,←tk] at B9
   have lk:=R8.len
   have hrl8:=f9 _ _ (zN B7 hl7) hl7
   refine⟨rl,l,us2,us3,rfl,rfl,hrl8,hl8,W2 (zn ()),λl9 hl9=>?_⟩
   have S9:=Same.new (o:= .lst (us2 ++us3)) hl9
   have m79:∀c xs,H7 c=some (.tup xs)->upd H8 l9 (.lst (us2 ++us3)) c=some (.tup xs):=λc xs e=>S9 _ _ (f9 _ _ (zbI B7 e) e)
   refine⟨l9,⟨_,_,_,_,_,rfl⟩,⟨us2 ++us3,zb,?_⟩,⟨λz=>?_,λz=>?_,?_⟩,B9.same S9,λc o n e=>S9 _ _ (f9 c o n (k7 c o n e))⟩
   ·have e2:rdB g hs ps hds (hs.take (i+1))=rdB g hs ps hds (hs.take i)++zoB g hs ps hds nm:=by rw[tk];unfold rdB;rw[List.flatMap_append];simp
    rw[e2]
    exact(rd7.mono m79).app ((RdO.lts R8).mono λc xs e=>S9 _ _ e)
   ·rw[z,f9 _ _ (zN B7 (k7 _ _ (zN B6 A6.hw) A6.hw)) (k7 _ _ (zN B6 A6.hw) A6.hw)] at hl9;cases hl9
   ·obtain ⟨xs,ea⟩:=zbe hH6
    rw[z,f9 _ _ (zN B7 (k7 _ _ (zN B6 ea) ea)) (k7 _ _ (zN B6 ea) ea)] at hl9;cases hl9
   ·cases z:H l9 with
    |none=>rfl
    |some o=>
     have nb:l9∉zak Bs:=λy=>by rw[nbs l9 y] at z;cases z
     rw[f9 _ _ nb (k7 _ _ nb (s06 _ _ z))] at hl9;cases hl9
  rintro σ' H7 ⟨rl,⟨o6,o7,o8,o9,o10,rfl⟩,⟨us2,hl7,rd7⟩,⟨n1,n2,n3⟩,B7,k7⟩
  rw[show hs.take (hs.map V.str).length=hs by rw[D0];exact List.take_length] at rd7 B7
  have I7:LwI Y.c_House Y.c_Run g hs ps lks hds O H H7 a 9000 rp dr d wl eb rl p As Bs (zft g hs ps hds) us us2 (rdB g hs ps hds hs):=by
   have lR:=zfD (g:=g) (ps:=ps) (hds:=hds) T10 hs
   refine⟨A6.keep B6 sep k7,B7.congr λb hb=>(T0 (by rw[←Nw.ns];exact V1.mpr ⟨b,hb,rfl⟩)).symm,so3,zmR N λx hx=>⟨hx,so3 x hx⟩,(),k7 _ _ neB he6,hl7,rd7,n1,n2,zdG hH6 λo e=>k7 _ _ (λz=>?_) e,zI hv6 T λc xs e=>k7 _ _ (zbI B6 e) e,λc o e=>k7 c o (λz=>by rw[nbs c z] at e;cases e) (s06 c o e),n3⟩
   obtain⟨xs,ea⟩:=zbe hH6
   exact zN B6 ea z
  clear B7 k7 rd7 hl7 n1 n2
  refine⟨_,rfl, .inl ⟨sc,_,rfl, .inl (I7.sm.seq hS),_,_,rfl,_,_,rfl,rfl,_,rfl,by split<;>lia,by rw[D0];split<;>lia,?_⟩⟩
  refine zaX zcO (λi σ' H'=>∃rl st us us2 R,(∃o6 o7 o8 o9 o10,σ'=[some (.ref sc),some (.ref a),some (.ref p),some (.ref rp),some (.ref eb),some (.ref rl),o6,o7,o8,o9,o10])/\LwI Y.c_House Y.c_Run g hs ps lks hds O H H' a (9000+2*i) rp dr d wl eb rl p As Bs st us us2 R) ?_ (λ_ _ _ _=>trivial) ?_ ?_
  ·exact ⟨rl,_,_,_,_,⟨_,_,_,_,_,rfl⟩,I7⟩
  ·rintro i y σ' H8 hi rfl ⟨rl,st,us,us2,R,⟨o6,o7,o8,o9,o10,rfl⟩,I8⟩
   have hi70:i<70:=by
    refine P1 hi ?_
    rw[D0]
    split<;>lia
   have lu2:=I8.rd.1
   have lR:=I8.le
   refine⟨_,rfl,_,rfl,_,rfl,g,hs,ps,lks,hds,O,rp,dr,d,wl,eb,rl, .ref p,As,Bs,st,us,us2,R,rfl,I8.rn,N,I8.so,I8.rr,(),I8.he,Nw.ns,I8.hb,I8.hl,I8.rd,λH9 s9=>⟨true,rfl,zbo rfl ?_⟩⟩
   have I9:=I8.same s9
   have skip:∃rl' st' us' us2' R',(∃o6' o7' o8' o9' o10',[some (V.ref sc),some (.ref a),some (.ref p),some (.ref rp),some (.ref eb),some (.ref rl),o6,some (.int (0+(i:Int))),o8,o9,o10]=[some (V.ref sc),some (.ref a),some (.ref p),some (.ref rp),some (.ref eb),some (.ref rl'),o6',o7',o8',o9',o10'])/\LwI Y.c_House Y.c_Run g hs ps lks hds O H H9 a (9000+2*((i+1:Nat):Int)) rp dr d wl eb rl' p As Bs st' us' us2' R':=
    ⟨rl,st,us,us2,R,⟨_,_,_,_,_,rfl⟩,{I9 with hh:=I9.hh.mono ()}⟩
   refine⟨_,rfl, .inl ⟨rl,_,rfl, .inl (SqL.of I9.hl),_,_,rfl,rfl,_,rfl,?_⟩⟩
   by_cases c0:(0:Int)<(us2.length:Int)
   case neg=>exact zbo (b0 c0) ⟨_,rfl,zbo rfl skip⟩
   refine zbE (V0 c0) ⟨_,_,rfl,rfl,_,rfl,?_⟩
   by_cases c1:(us2.length:Int)<=300
   case neg=>exact zbo (b0 c1) skip
   refine zbE (V0 c1) ?_
   clear skip
   refine⟨_,rfl,_,rfl, .inl ⟨rl,_,rfl, .inl (SqL.of I9.hl),a,_,_,rfl,I9.hh,(),(),(),λt HA t0 t1 hHA kA=>?_⟩⟩
   obtain⟨k,rfl⟩:∃k:Nat,t=(k:Int):=⟨t.toNat,()⟩
   have IA:=I9.hand N ha nwa kA hHA
   have hk:k<R.length:=()
   obtain⟨e,he⟩:∃e,R[k]?=some e:=⟨_,G0 hk⟩
   obtain⟨lv,ev,lt⟩:=IA.rd.get he
   have h3:=IA.rr e (W0 he)
   refine⟨_,rfl,_,rfl,rl,us2,_,lv,rfl,rfl,SqL.of IA.hl,zF ev,?_⟩
   refine⟨λσ' H'=>σ'=[some (.ref sc),some (.ref a),some (.ref p),some (.ref rp),some (.ref eb),some (.ref rl),o6,some (.int (0+(i:Int))),some (.int (k:Int)),some lv,o10]/\∃s' L us' us3 Re,HearR hs ps hds e.2.1 (st e.2.1) e.1 e.2.2 s' L/\SOk g hs ps lks hds O e.2.1 s'/\RdR hs O (L.map λl=>(e.2.1,l))/\RnAt Y.c_House Y.c_Run hs H' rp dr d wl (.ref p) As (zja st e.2.1 s') us' (Re ++L.map λl=>(e.2.1,l))/\(Re=R\/Re=R.eraseIdx k)/\HsAll Y.c_House hs H' (.ref p) Bs st/\H' eb=some (.dK (ppl Bs))/\H' rl=some (.lst us3)/\RdO H' us3 Re/\Hand H' a (9000+2*((i+1:Nat):Int))/\Rep H' (.ref p) (zal g hs ps lks hds)/\Same H H'/\LtO H' lv e.1 e.2.1 e.2.2,?_,?_⟩
   ·refine ⟨_,rfl,a,_,_,rfl,IA.hh,(),⋯,⋯,λt2 HB _ _ hHB kB=>⟨rfl,_,rfl,?_⟩⟩
    have IB:=IA.hand N ha nwa kB hHB
    obtain⟨xa,ea⟩:=zbe IA.hh
    have ltB:=lt.mono (H':=HB) λc xs e=>kB c _ (zr e ea `Z3) e
    obtain⟨xb,eab⟩:=zbe IB.hh
    have fin:∀HC,(∀c o,c≠wl->c∉zak As->HB c=some o->HC c=some o)->HsAll Y.c_House hs HC (.ref p) Bs st/\HC eb=some (.dK (ppl Bs))/\HC rl=some (.lst us2)/\(∀c xs,HB c=some (.tup xs)->HC c=some (.tup xs))/\Hand HC a (9000+2*((i+1:Nat):Int))/\Same H HC:=λHC f=>by
     have m:∀c xs,HB c=some (.tup xs)->HC c=some (.tup xs):=λc xs e=>f c _ (zr e IB.rn.hw `Z3) (zbI IB.rn.ha e) e
     refine⟨IB.hb.hold m λc hc o e=>f c o (λz=>zN IB.hb IB.rn.hw (by rw[←z];exact hc)) (λz=>ab c z c hc rfl) e,f _ _ (zr IB.he IB.rn.hw `Z3) neA IB.he,f _ _ IB.n1 (zN IB.rn.ha IB.hl) IB.hl,m,zdG (IB.hh.mono ()) λo e=>f a o (Ne.symm nwa) (zN IB.rn.ha eab) e,λc o e=>f c o (zh e nwl0) (λz=>by rw[nas c z] at e;cases e) (IB.sm c o e)⟩
    cases ed:decide (V.int t2=V.int 0)with
    |true=>
     refine zbE rfl ⟨_,rfl,rp,dr,_,rfl,IB.rn.hr,rfl,_,rfl,g,hs,ps,lks,hds,O,rp,dr,d,wl, .ref p,As,st,us,R,k,e,rfl,IB.rn,N,IB.hv,IB.so,IB.rr,(),he,λs' L us' HC hh so rL rn f=>?_⟩
     obtain⟨z1,z2,z3,m,z5,z6⟩:=fin HC f
     exact⟨rfl,s',L,us',us2,R,hh,so,rL,rn, .inl rfl,z1,z2,z3,IB.rd.mono m,z5,zI IB.hv T m,z6,ltB.mono m⟩
    |false=>
     refine zbo rfl ⟨_,rfl,rp,dr,_,rfl,IB.rn.hr,rfl,_,rfl,g,hs,ps,lks,hds,O,rp,dr,d,wl, .ref p,As,st,us,R,k,e,rfl,IB.rn,N,IB.hv,IB.so,IB.rr,(),he,λs' L us' HC hh so rL rn f=>?_⟩
     obtain⟨z1,z2,z3,m,z5,z6⟩:=fin HC f
     refine⟨_,rfl, .inl ⟨rfl,_,SqL.of z3⟩,_,rfl,rl,us2,_,k,lv,rfl,rfl,z3,(),(),?_,ev,?_⟩
     ·have:=StrLaws.seqIndex_nonneg (i:=(k:Int)) (n:=us2.length) () ();rw[Int.toNat_natCast] at this;exact this
     have m2:∀c xs,HC c=some (.tup xs)->upd HC rl (.lst (us2.eraseIdx k)) c=some (.tup xs):=λc xs e=>by rw[zc (zr e z3 `Z3)];exact e
     have q2:=zN z1 z3
     refine⟨rfl,s',L,us',us2.eraseIdx k,R.eraseIdx k,hh,so,rL,rn.other z3 IB.n1, .inr rfl,z1.hold m2 λc hc o e=>by rw[zc λz=>q2 (by rw[←z];exact hc)];exact e,by rw[zc (zr z2 z3 `Z3)];exact z2,zb,((IB.rd.mono m).mono m2).erase k,zdG z5 λo e=>by rw[zc (Ne.symm IB.n2)];exact e,zI (zI IB.hv T m) T m2,λc o e=>?_,(ltB.mono m).mono m2⟩
     rw[zc λz=>by rw[z,IB.nr] at e;cases e]
     exact z6 c o e
   ·rintro σ' H10 ⟨rfl,s',L,us',us3,Re,hh,so,rL,rn,hRe,hb,he10,hl10,rd10,hh10,hv10,sm10,⟨t,x,y,rfl,ht,wm⟩⟩
    obtain⟨b,hbm,en,evb⟩:=zcc Nw.ns h3.2.1
    obtain⟨ga,n,kh,kt,B⟩:=hb b hbm
    rw[en] at B
    obtain⟨L0,I0⟩:=(I9.so e.2.1 h3.2.1).hi
    refine⟨_,rfl,_,rfl,t,_,1,_,rfl,rfl, .inl (.inl ht),zF (j:=1) rfl,eb,_,rfl,dgk he10 evb,b.p,b.dx,_,rfl,B.hp,rfl,_,rfl,?_⟩
    refine⟨b.p,b.dx,b.hd,b.td,ga, .ref p,_,e.2.1,e.1,e.2.2,n,_,kh,kt,_,_,L0,g,hs,ps,lks,hds,rfl,⟨t,x,y,rfl,ht,wm⟩,h3.1,h3.2.2.hr N,B,I0,hv10,T,hf,h3.2.1,λl ga' us4 n' b' kh' kt' tm' L2 H11 hl0' hl11 R11 B11 I11 k11 lL ee=>?_⟩
    have hh2:HearR hs ps hds e.2.1 (st e.2.1) e.1 e.2.2 (b',zbv (st e.2.1).2.1 (e.1,e.2.2),tm') L2:=⟨rfl,lL,ee⟩
    obtain⟨so2,rl2⟩:=zfa N h3.2.1 (I9.so e.2.1 h3.2.1) h3.2.2 hh2 I11
    obtain⟨es,eL⟩:=znu N so2 so hh2 hh
    subst eL
    have B12:HsE Y.c_House hs H11 (.ref p) b s':=by rw[←es];exact⟨ga',n',kh',kt',by rw[en];exact B11⟩
    obtain⟨B13,f13⟩:=hb.hear Nw.ns T.hs_nd Nw.nd hbm B12 k11
    rw[en] at B13
    have m1:∀c xs,H10 c=some (.tup xs)->H11 c=some (.tup xs):=λc xs e=>f13 _ _ (zbI hb e) e
    have rn13:=rn.keep hb sep f13
    have lk:=R11.len
    have l3:=rd10.1
    have lRe:Re.length<=300:=by
     rcases hRe with z|z
     ·rw[z];lia
     ·rw[z,List.length_eraseIdx];split<;>lia
    obtain⟨xa,ea⟩:=zbe hh10
    refine⟨_,rfl,_,rfl,rl,l,us3,us4,rfl,rfl,f13 _ _ (zN hb hl10) hl10,hl11,W2 (zn ()),λl9 hl9=>?_⟩
    have S9:=Same.new (o:= .lst (us3 ++us4)) hl9
    have sm11:Same H H11:=λc o e=>f13 c o (λz=>by rw[nbs c z] at e;cases e) (sm10 c o e)
    refine⟨l9,zja st e.2.1 s',us',us3 ++us4,_,⟨_,_,_,_,_,rfl⟩,rn13.same S9,B13.same S9,λx hx=>?_,RdR.app ?_ rl2,by rw[o0,D0];lia,S9 _ _ (f13 _ _ neB he10),zb,((rd10.mono m1).mono λc xs e=>S9 _ _ e).app ((RdO.lts R11).mono λc xs e=>S9 _ _ e),λz=>?_,λz=>?_,(zdG hh10 λo e=>f13 _ _ (zN hb ea) e).same S9,(zI hv10 T m1).same S9,sm11.trans S9,sm11.free hl9⟩
    ·unfold zja
     by_cases c:x=e.2.1
     ·rw[T0 c,c];exact so
     ·rw[N0 c];exact I9.so x hx
    ·rcases hRe with z|z
     ·rw[z];exact I9.rr
     ·rw[z];exact I9.rr.erase k
    ·rw[z,rn13.hw] at hl9;cases hl9
    ·rw[z,f13 _ _ (zN hb ea) ea] at hl9;cases hl9
  ·rintro σ' H8 ⟨rl,st,us,us2,R,⟨o6,o7,o8,o9,o10,rfl⟩,I8⟩
   have lR:=I8.le
   exact⟨_,rfl,_,rfl,_,rfl,g,hs,ps,lks,hds,O,rp,dr,d,wl,eb,rl, .ref p,As,Bs,st,us,us2,R,rfl,I8.rn,N,I8.so,I8.rr,(),I8.he,Nw.ns,I8.hb,I8.hl,I8.rd,λH9 s9=>q H9⟩
end
noncomputable def evOf  {h:Heap}  (F:Fk K) (X:K.In h) (G:h.Ns mainGlobals mg):Ev K mg:={
 c_House:=F.C_House,k_House:=⟨F.c_House.pg9,F.c_House.hd9,F.c_House.po9,F.c_House.sa9⟩,m_House:=W.mg_of X G F.c_House.a9,n_House_place:=F.n_House_place,n_House_name:=F.n_House_name,n_House_hearings:=F.n_House_hearings,n_House_tellings:=F.n_House_tellings,n_House_going:=F.n_House_going,n_House_times:=F.n_House_times,
 c_Run:=F.C_Run,k_Run:=⟨F.c_Run.pg9,F.c_Run.hd9,F.c_Run.po9,F.c_Run.sa9⟩,m_Run:=W.mg_of X G F.c_Run.a9,n_Run_place:=F.n_Run_place,n_Run_people:=F.n_Run_people,n_Run_waiting:=F.n_Run_waiting,
 mk_House:=⟨F.c_House.ms9,F.House___init__.a9,F.House___init__.i9,F.c_House.kc9⟩,
 mk_Run:=⟨F.c_Run.ms9,F.Run___init__.a9,F.Run___init__.i9,F.c_Run.kc9⟩,
 a_NOTHING:=F.NOTHING.f9,e_NOTHING:=F.NOTHING.e9,m_NOTHING:=W.mg_of X G F.NOTHING.a9,t_NOTHING:=erN F.NOTHING,u_NOTHING:=erN0 F.NOTHING,
 a_is_number:=_,d_is_number:=_,is_number:=erA F.is_number X G λ_ _ _ _ _ _=>(of1 λ_=>rfl),
 a_is_whole:=_,d_is_whole:=_,is_whole:=erA F.is_whole X G λ_ _ _ _ _ _=>(of3 λ_ _ _=>rfl),
 a_holds:=_,d_holds:=_,holds:=erD F.holds 3 X G rfl (λ_ _ _ _ _ _ _=>(of4 λ_ _ _ _=>⟨_,rfl,rfl⟩)) (λ_ _ _ _ _ _ _=>(of3 λ_ _ _=>⟨_,rfl,rfl⟩)),
 a_all_hold:=_,d_all_hold:=_,all_hold:=erD F.all_hold 3 X G rfl (λ_ _ _ _ _ _ _=>(of4 λ_ _ _ _=>⟨_,rfl,rfl⟩)) (λ_ _ _ _ _ _ _=>(of3 λ_ _ _=>⟨_,rfl,rfl⟩)),
 a_likings_of:=_,d_likings_of:=_,likings_of:=erA F.likings_of X G λ_ _ _ _ _ _=>(of2 λ_ _=>rfl),
 a_hands_of:=_,d_hands_of:=_,hands_of:=erA F.hands_of X G λ_ _ _ _ _ _=>(of2 λ_ _=>rfl),
 a_tied:=_,d_tied:=_,tied:=erA F.tied X G λ_ _ _ _ _ _=>(of2 λ_ _=>rfl),
 a_marks_behind:=_,d_marks_behind:=_,marks_behind:=erA F.marks_behind X G λ_ _ _ _ _ _=>(of2 λ_ _=>rfl),
 a_handed:=_,d_handed:=_,handed:=erA F.handed X G λ_ _ _ _ _ _=>(of4 λ_ _ _ _=>rfl),
 a_worth:=_,d_worth:=_,worth:=erA F.worth X G λ_ _ _ _ _ _=>(of3 λ_ _ _=>rfl),
 a_liking_key:=_,d_liking_key:=_,liking_key:=erA F.liking_key X G λ_ _ _ _ _ _=>(of3 λ_ _ _=>rfl),
 a_most_liked:=_,d_most_liked:=_,most_liked:=erA F.most_liked X G λ_ _ _ _ _ _=>(of2 λ_ _=>rfl),
 a_House___init__:=_,d_House___init__:=_,House___init__:=erM F.House___init__ λ_ _ _ _ _ _=>(of3 λ_ _ _=>rfl),
 a_House_way:=_,d_House_way:=_,House_way:=erM F.House_way λ_ _ _ _ _ _=>(of1 λ_=>rfl),
 a_House_heard:=_,d_House_heard:=_,House_heard:=erM F.House_heard λ_ _ _ _ _ _=>(of2 λ_ _=>rfl),
 a_House_begin:=_,d_House_begin:=_,House_begin:=erM F.House_begin λ_ _ _ _ _ _=>(of1 λ_=>rfl),
 a_House_hear:=_,d_House_hear:=_,House_hear:=erM F.House_hear λ_ _ _ _ _ _=>(of2 λ_ _=>rfl),
 a_House_choose:=_,d_House_choose:=_,House_choose:=erM F.House_choose λ_ _ _ _ _ _=>(of1 λ_=>rfl),
 a_House_open_ways:=_,d_House_open_ways:=_,House_open_ways:=erM F.House_open_ways λ_ _ _ _ _ _=>(of1 λ_=>rfl),
 a_House_go_by:=_,d_House_go_by:=_,House_go_by:=erM F.House_go_by λ_ _ _ _ _ _=>(of2 λ_ _=>rfl),
 a_House_offer:=_,d_House_offer:=_,House_offer:=erM F.House_offer λ_ _ _ _ _ _=>(of2 λ_ _=>rfl),
 a_House_letters:=_,d_House_letters:=_,House_letters:=erM F.House_letters λ_ _ _ _ _ _=>(of1 λ_=>rfl),
 a_at_place:=_,d_at_place:=_,at_place:=erA F.at_place X G λ_ _ _ _ _ _=>(of2 λ_ _=>rfl),
 a_Run___init__:=_,d_Run___init__:=_,Run___init__:=erM F.Run___init__ λ_ _ _ _ _ _=>(of2 λ_ _=>rfl),
 a_Run_road:=_,d_Run_road:=_,Run_road:=erM F.Run_road λ_ _ _ _ _ _=>(of1 λ_=>rfl),
 a_Run_choice:=_,d_Run_choice:=_,Run_choice:=erM F.Run_choice λ_ _ _ _ _ _=>(of1 λ_=>rfl),
 a_Run_was_heard:=_,d_Run_was_heard:=_,Run_was_heard:=erM F.Run_was_heard λ_ _ _ _ _ _=>(of2 λ_ _=>rfl),
 a_Run_come:=_,d_Run_come:=_,Run_come:=erM F.Run_come λ_ _ _ _ _ _=>(of2 λ_ _=>rfl),
 a_Run_copy:=_,d_Run_copy:=_,Run_copy:=erM F.Run_copy λ_ _ _ _ _ _=>(of2 λ_ _=>rfl),
 a_Run_is_still:=_,d_Run_is_still:=_,Run_is_still:=erM F.Run_is_still λ_ _ _ _ _ _=>(of1 λ_=>rfl),
 a__law_hand:=_,d__law_hand:=_,_law_hand:=erA F._law_hand X G λ_ _ _ _ _ _=>(of2 λ_ _=>rfl),
 a__law_all:=_,d__law_all:=_,_law_all:=erA F._law_all X G λ_ _ _ _ _ _=>(of1 λ_=>rfl),
 a__law_take:=_,d__law_take:=_,_law_take:=erA F._law_take X G λ_ _ _ _ _ _=>(of2 λ_ _=>rfl),
 a__law_pick:=_,d__law_pick:=_,_law_pick:=erA F._law_pick X G λ_ _ _ _ _ _=>(of2 λ_ _=>rfl),
 a__law_names:=_,d__law_names:=_,_law_names:=erA F._law_names X G λ_ _ _ _ _ _=>(of2 λ_ _=>rfl),
 a__law_cond:=_,d__law_cond:=_,_law_cond:=erA F._law_cond X G λ_ _ _ _ _ _=>(of4 λ_ _ _ _=>rfl),
 a__law_conds:=_,d__law_conds:=_,_law_conds:=erA F._law_conds X G λ_ _ _ _ _ _=>(of4 λ_ _ _ _=>rfl),
 a__law_likings:=_,d__law_likings:=_,_law_likings:=erA F._law_likings X G λ_ _ _ _ _ _=>(of3 λ_ _ _=>rfl),
 a__law_hands:=_,d__law_hands:=_,_law_hands:=erA F._law_hands X G λ_ _ _ _ _ _=>(of3 λ_ _ _=>rfl),
 a__law_ties:=_,d__law_ties:=_,_law_ties:=erA F._law_ties X G λ_ _ _ _ _ _=>(of3 λ_ _ _=>rfl),
 a__law_town:=_,d__law_town:=_,_law_town:=erA F._law_town X G λ_ _ _ _ _ _=>(of1 λ_=>rfl),
 a__law_is_new:=_,d__law_is_new:=_,_law_is_new:=erA F._law_is_new X G λ_ _ _ _ _ _=>(of2 λ_ _=>rfl),
 a__law_is_so:=_,d__law_is_so:=_,_law_is_so:=erA F._law_is_so X G λ_ _ _ _ _ _=>(of3 λ_ _ _=>rfl),
 a_law:=_,d_law:=_,law:=erA F.law X G λ_ _ _ _ _ _=>(of1 λ_=>rfl),
 all:=O2 X G F.z_all,
 bool:=O2 X G F.z_bool,
 dict:=O2 X G F.z_dict,
 int:=O2 X G F.z_int,
 isinstance:=O2 X G F.z_isinstance,
 len:=O2 X G F.z_len,
 list:=O2 X G F.z_list,
 max:=O2 X G F.z_max,
 min:=O2 X G F.z_min,
 range:=O2 X G F.z_range,
 sorted:=O2 X G F.z_sorted,
 str:=O2 X G F.z_str,
 tuple:=O2 X G F.z_tuple}
end L2
open PySem PySem.W PyProof.Rows L2 L2
theorem PySem.Challenge.cw_restways_k42_whole_runs_by_houses_holds : PySem.Challenge.rw_restways_k42_whole_runs_by_houses.Holds := by
 refine topE λq loose XP YP d K hdf hd hY F=>walk_of (l:=PySem.Challenge.rw_restways_k42_whole_runs_by_houses) (n:=63) (k:=11) (x:="_law_script") (CX:=λ_=>CX0) (sp:=λw=>spLaw (K w.params)) rfl (by decide) hdf ⟨rfl,by decide,by decide,rfl⟩ hY (λw mg fa h X G e=>?_) (λ_ _ a ns hl _ hS=>⟨a,ns,rfl,hS,hl,λ_=>rfl⟩) λ_ _ _ _ _ z=>z
 have Y:=evOf (F w) X G
 rw[hd] at e
 cases e.symm.trans Y.law.mg
 refine⟨_,λs v=>?_,λbase _ _=>ok_law_of Y Y.law.fn⟩
 obtain⟨_,_,_,_,_,_,_,_,_,e,_⟩:=Y.law.fn.ex
 rw[e]
 exact .of_eq rfl
