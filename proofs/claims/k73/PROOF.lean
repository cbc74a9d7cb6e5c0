import PyProof.Rows.All
import Wide.All
import OpenK.AllK
import Wide.FinOn
import Lean
import PyProof.EqAt
import PyProof.EqKinds
import PyProof.TupleCall
import KE.KSortTup
import KE.KDictSum
import PyProof.Rows.SortStr
import PyProof.AutoSeq1
import PyProof.ZipIter
import PyProof.Rows.FStr
import PyProof.Rows.FStrParts
import PyProof.AttrMissHeap
import KE.KDictOf
import PyProof.StrCalls
import KE.KStrOpen
import KE.KRevIter
import PyProof.WalkInts
import KE.KDictList
import PyProof.Rows.SetFrom
import PyProof.SetRoads
import PyProof.DictCompW
import PyProof.DictItems
import KE.KPairComp
import KE.KEqDict
import PyProof.Rows.Range3
import PyProof.WalksMore
import PyProof.DictWalks
import KE.KMinKey
import PySem.SetTable
import PySem.SetOps
import PySem.Challenge.RW_restways_k73_named
abbrev A0:=@PySem.wpAny_bind
abbrev B0:=@List.length_map
abbrev C0:=@PySem.Heap.get?_push_of_some
abbrev D0:=@PySem.wpAny_pure
abbrev F0:=@List.getElem?_eq_getElem
abbrev G0:=@List.getElem?_eq_none
abbrev K0:=@List.mem_cons
abbrev L0:=@Bool.and_eq_true
abbrev N0:=@decide_eq_true
abbrev O0:=@Nat.le_refl
abbrev P0:=@decide_eq_true_iff
abbrev Q0:=@PySem.Heap.get?_push_size
abbrev R0:=@of_decide_eq_true
abbrev U0:=@List.mem_of_getElem?
abbrev V0:=@List.getElem?_map
abbrev W0:=@List.length_append
abbrev X0:=@PySem.Heap.lt_size
abbrev Y0:=@if_neg
abbrev Z0:=@List.mem_cons_self
abbrev c0:=@List.mem_singleton
abbrev A1:=@decide_eq_false
abbrev E1:=@if_pos
abbrev G1:=@List.mem_map
abbrev J1:=@Nat.le_trans
abbrev K1:=@List.size_toArray
abbrev N1:=@List.mem_cons_of_mem
abbrev O1:=@List.length_cons
abbrev R1:=@Nat.lt_or_ge
abbrev U1:=@Option.some.inj
abbrev V1:=@List.all_eq_true
abbrev W1:=@Array.getElem?_eq_getElem
abbrev X1:=@List.mem_append
abbrev Y1:=@List.map_cons
abbrev Z1:=@Nat.ne_of_lt
abbrev j1:=@Array.length_toList
abbrev A2:=@Bool.false_ne_true
abbrev C2:=@Nat.le_of_ble_eq_true
abbrev E2:=@Nat.lt_of_lt_of_le
abbrev G2:=@Bool.eq_iff_iff
abbrev J2:=@List.map_append
abbrev K2:=@Nat.zero_le
abbrev N2:=@List.length_take
abbrev O2:=@List.mem_append_right
abbrev Q2:=@PySem.wpAny_call_entry
abbrev U2:=@List.mem_range
abbrev V2:=@PySem.wpAny_newObj_type
abbrev W2:=@PySem.Heap.SameBut.update
abbrev X2:=@List.mem_filter
abbrev Y2:=@List.getElem?_append_right
abbrev Z2:=@Nat.le_of_lt
abbrev A3:=@List.getElem?_append_left
abbrev B3:=@PySem.wpAny_callSpecial?_slot
abbrev C3:=@List.not_mem_nil
abbrev D3:=@List.length_drop
abbrev E3:=@List.replicate_succ
abbrev F3:=@Bool.and_false
abbrev G3:=@List.length_filter_le
abbrev J3:=@PySem.PassesOwn.never
abbrev K3:=@PySem.wpAny_holding
abbrev L3:=@PySem.Around.under_plainId
abbrev M3:=@Nat.min_le_right
abbrev N3:=@Int.toNat_natCast
abbrev O3:=@List.take_add_one
abbrev Q3:=@Option.getD_some
abbrev R3:=@Nat.lt_irrefl
abbrev U3:=@List.getElem_of_mem
abbrev V3:=@PySem.F.slot_list_append
abbrev W3:=@PySem.F.type_list_append
abbrev X3:=@List.take_length
abbrev Y3:=@PySem.codeAny_builtin
abbrev Z3:=@Bool.false_eq_true
abbrev j3:=@congrArg
set_option Elab.async false
set_option linter.all false
set_option maxRecDepth 100000
theorem u3(h:True:=by rfl):True:=h
def u4:Lean.Syntax:=u3._auto_1
theorem w4(h:True:=by decide):True:=h
def u5:Lean.Syntax:=w4._auto_1
theorem v5(h:True:=by intro _;rfl):True:=h
def u6:Lean.Syntax:=v5._auto_1
theorem w6(h:True:=by decide +kernel):True:=h
def x6:Lean.Syntax:=w6._auto_1
theorem y6(h:True:=by first|exact .inl rfl|exact .inr rfl|assumption):True:=h
def t7:Lean.Syntax:=y6._auto_1
theorem u7(h:True:=by with_unfolding_all rfl):True:=h
def v7:Lean.Syntax:=u7._auto_1
theorem t8(h:True:=by first|decide|lia):True:=h
def v8:Lean.Syntax:=t8._auto_1
local macro_rules | `(())=> `(by lia)
local macro_rules | `(⋯)=> `(by decide)
set_option hygiene false in
local macro_rules
|`(`n3)=>`(by simp)
|`(`n4)=>`(by decide +kernel)
|`(`j4)=>`(λcdv A outer s H vs Q E hr h=>?_)
|`(`i4)=>`(model prog w)
|`(`Z4)=>`(by first|assumption|decide|lia|exact few rfl|exact .inl ⟨⋯,⋯⟩|exact .inr ⟨⋯,⋯⟩|exact .inl ⟨(),()⟩|exact .inr ⟨(),()⟩|exact⟨(),()⟩)
|`(`Y4)=>`(model X.prog X.w)
namespace L2
open PySem PySem.Spec PyProof.Rows
variable{us its its' ks:List Value}{x y g name qual:Str}{u doc pm cdv oc vl vu acc:Value}{κ:SortKind}{a it l p f dx C sl fa z dt i1 i2 l1 l2 I pf:Addr}{h h':Heap}{P:Program}{α β:Type}{e c tg iter value elt tg2 iter2 kx vx:Expr}{pins:List (Addr×Obj)}{s s':Shared}{g':Array GenState}{t' i j k n ep n2 n1 k0 c':Nat}{d':Drawn}{M:Model}{E Q Q₁:Value->Shared->Prop}{pos pos' px py tpos apos cpos spos p3 pos2:Pos}{rest es ifs elts f1 f2 ifs2:List Expr}{R:Result->Shared->Prop}{lo hi:Option Int}{tk:Tok}{fp wr:List Addr}{body sts:List Stmt}{op op':CmpOp}{mA:Str->Option Value}{fd:FuncData}{ps:List (Str×Str)}{scope osc:Scope}{an od od2:Option Addr}{osl sl2:Array (Option Value)}{T:String}{items:Array Value}{loose N' ss ws ms:List Str}{XP:(Str->Option Value)->Heap->Prop}{YP:World->Heap->Prop}{G:Array Nat->Prop}{OK:Heap->Prop}{Y:Prop}{P1 P2:Nat->Value->Prop}{S1 S2:Nat->Heap->Prop}{t1 t2:Bool}{owner:Array (Option Nat)}{adr:Nat->Addr}{F F':List Str->Prop}{ls:List (List Str)}
noncomputable abbrev Key:=Sum Int Str
noncomputable def zhl:Key->Value->Bool
 | .inl k,v=>Value.isInt k v
 | .inr x,v=>Value.isStrOf x v
noncomputable def zs9(w:World):Key->Int
 | .inl k=>hashInt k
 | .inr x=>hashStr w x
theorem zaJ:∀{k:Key} {v:Value},zhl k v=true->(∃i t,k=Sum.inl i/\v=Value.int i t)\/(∃x t,k=Sum.inr x/\v=Value.str x t)
 | .inl i,v,h=>by
   obtain⟨t,e⟩:=Value.isInt_shape (k:=i) (v:=v) h
   exact .inl ⟨i,t,rfl,e⟩
 | .inr x,v,h=>by
   obtain⟨t,e⟩:=Value.isStrOf_shape (x:=x) (v:=v) h
   exact .inr ⟨x,t,rfl,e⟩
theorem zmL(i:Int)(t:Tok):zhl (.inl i) (.int i t)=true:=by simp[zhl,Value.isInt]
theorem zmK(x:Str)(t:Tok):zhl (.inr x) (.str x t)=true:=by simp[zhl,Value.isStrOf]
theorem zq7(a b:Int):decide ((Sum.inl a:Key)=Sum.inl b)=(a==b):=by
 by_cases e:a=b
 ·subst e;simp
 ·have h:¬(Sum.inl a:Key)=Sum.inl b:=λq=>e (Sum.inl.inj q)
  rw[A1 h]
  exact(beq_eq_false_iff_ne.mpr e).symm
theorem zrE(a b:Str):decide ((Sum.inr a:Key)=Sum.inr b)=decide (a=b):=by
 by_cases e:a=b
 ·subst e;simp
 ·have h:¬(Sum.inr a:Key)=Sum.inr b:=λq=>e (Sum.inr.inj q)
  rw[A1 h,A1 e]
theorem zrB(a:Int)(b:Str):decide ((Sum.inl a:Key)=Sum.inr b)=false:=A1 (λq=>nomatch q)
theorem zq5(a:Str)(b:Int):decide ((Sum.inr a:Key)=Sum.inl b)=false:=A1 (λq=>nomatch q)
noncomputable def zaE(prog:Program)(w:World):PySem.KeyKind prog w Key where
 is:=zhl
 hash:=zs9 w
 inj:=λv a b ha hb=>by
  rcases zaJ ha with⟨i,t,rfl,rfl⟩|⟨x,t,rfl,rfl⟩
  ·rcases zaJ hb with⟨j,u,rfl,e⟩|⟨y,u,rfl,e⟩
   ·injection e with e1 _;rw[e1]
   ·exact nomatch e
  ·rcases zaJ hb with⟨j,u,rfl,e⟩|⟨y,u,rfl,e⟩
   ·exact nomatch e
   ·injection e with e1 _;rw[e1]
 byValue:=λk v h=>by
   rcases zaJ h with⟨i,t,rfl,rfl⟩|⟨x,t,rfl,rfl⟩<;>rfl
 pyHash:=λhv h=>by
  rcases zaJ hv with⟨i,t,rfl,rfl⟩|⟨x,t,rfl,rfl⟩
  ·exact wpAny_pyHash_int h
  ·exact wpAny_pyHash_str h
 eqBool:=λhu hv h=>by
  rcases zaJ hu with⟨i,t,rfl,rfl⟩|⟨x,t,rfl,rfl⟩
  ·rcases zaJ hv with⟨j,u,rfl,rfl⟩|⟨y,u,rfl,rfl⟩
   ·rw[zq7] at h;exact wpAny_eqBool_int h
   ·rw[zrB] at h;exact SeqAt.EqAt.int_str i t y u _ _ _ _ h
  ·rcases zaJ hv with⟨j,u,rfl,rfl⟩|⟨y,u,rfl,rfl⟩
   ·rw[zq5] at h;exact SeqAt.EqAt.str_int x t j u _ _ _ _ h
   ·rw[zrE] at h;exact wpAny_eqBool_str h
 «strs»:=λk x t v h=>by
  rcases zaJ h with⟨i,u,rfl,e⟩|⟨y,u,rfl,e⟩
  ·exact nomatch e
  ·injection e with e1 _
   subst e1
   cases v<;>rfl
theorem ziY(prog:Program)(w:World)(i:Int)(t:Tok):(zaE prog w).is (.inl i) (.int i t)=true:=zmL i t
theorem zdZ(prog:Program)(w:World)(x:Str)(t:Tok):(zaE prog w).is (.inr x) (.str x t)=true:=zmK x t
inductive V where
 |non|bl (b:Bool)|int (i:Int)|str (x:Str)|byt (b:Array UInt8)|flt (b:UInt64)|ref (a:Addr)|ty (n:String)
 deriving DecidableEq
variable{xs ys dvs vs zs:List V}{v:V}{kvs:List (List Key×V)}
def RelV:V->Value->Prop
 | .non,u=>u=Value.none
 | .bl b,u=>u=Value.bool b
 | .int i,u=>∃t,u=Value.int i t
 | .str x,u=>∃t,u=Value.str x t
 | .byt b,u=>∃t,u=Value.bytes b t
 | .flt b,u=>∃t,u=Value.float b t
 | .ref a,u=>u=Value.ref a
 | .ty n,u=>u=Value.type n
abbrev Vals:List V->List Value->Prop:=Paired RelV
theorem Vals.length(r:Vals xs us):xs.length=us.length:=Paired.length r
theorem Vals.get:∀{xs:List V} {us:List Value} {i:Nat} {x:V},Vals xs us->xs[i]?=some x->∃u,us[i]?=some u/\RelV x u
 |_,_,_,_, .nil,e=>by simp at e
 |_,_,0,_, .cons r _,e=>by simp at e;subst e;exact⟨_,rfl,r⟩
 |_,_,i+1,x, .cons _ t,e=>by
  obtain⟨u,h1,h2⟩:=Vals.get (i:=i) (x:=x) t (by simpa using e)
  exact⟨u,by simpa using h1,h2⟩
theorem Vals.set{x:V}(r:RelV x u):∀{xs:List V} {us:List Value} (i:Nat),Vals xs us->Vals (xs.set i x) (us.set i u)
 |_,_,_, .nil=> .nil
 |_,_,0, .cons _ t=> .cons r t
 |_,_,i+1, .cons q t=> .cons q (Vals.set r i t)
theorem Vals.append:∀{xs ys:List V} {us ws:List Value},Vals xs us->Vals ys ws->Vals (xs ++ys) (us ++ws)
 |_,_,_,_, .nil,s=>s
 |_,_,_,_, .cons r t,s=> .cons r (Vals.append t s)
theorem Vals.take:∀{xs:List V} {us:List Value} (n:Nat),Vals xs us->Vals (xs.take n) (us.take n)
 |_,_,0,_=> .nil
 |_,_,_+1, .nil=> .nil
 |_,_,n+1, .cons r t=> .cons r (Vals.take n t)
theorem Vals.drop:∀{xs:List V} {us:List Value} (n:Nat),Vals xs us->Vals (xs.drop n) (us.drop n)
 |_,_,0,r=>r
 |_,_,_+1, .nil=> .nil
 |_,_,n+1, .cons _ t=>Vals.drop n t
def RelO:Option V->Option Value->Prop
 |some v,some u=>RelV v u
 |none,none=>True
 |_,_=>False
def KV{κ:Type}:List (κ×V)->List (κ×Value)->Prop:=Paired λ(p:κ×V) (q:κ×Value)=>p.1=q.1/\RelV p.2 q.2
noncomputable def kV:Key->V
 | .inl i=> .int i
 | .inr x=> .str x
inductive HO where
 |lst (xs:List V)
 |tup (xs:List V)
 |dK (kvs:List (Key×V))|dT (kvs:List (List Key×V))
 |set (S:Int->Bool) (n:Nat)
 |ins (C dx:Addr) (fs:List (Str×V))
 |own (x:Addr)
 |xd (fs:List (Str×V))
 |met (f x:Addr)
 |rng (lo hi:Int)
 |frz (o:Obj) (u:HO)
 |tbl (ps:Array Value)
 |ext (φ:Heap->Prop)
variable{o':HO}
noncomputable abbrev Hp:=Addr->Option HO
variable{H H' H1 H2:Hp}
noncomputable def upd(H:Hp)(a:Addr)(o:HO):Hp:=λb=>if b=a then some o else H b
theorem zc{o:HO}:upd H a o a=some o:=by unfold upd;rw[E1 rfl]
theorem zj{b:Addr}{o:HO}(h:b≠a):upd H a o b=H b:=by unfold upd;rw[Y0 h]
theorem zlk{o u:HO}:upd (upd H a o) a u=upd H a u:=by
 funext b;unfold upd;split<;>rfl
theorem zqC{b:Addr}{o u:HO}(h:H a=some o)(h':H b=some u)(d:o≠u):a≠b:=by
 intro e;subst e;rw[h] at h';exact d (U1 h')
theorem zr{b:Addr}{o:HO}(h:H a=some o)(h':H b=none):a≠b:=by
 intro e;subst e;rw[h] at h';cases h'
section
variable(P:Program)(w:World)
def NoDict(h:Heap)(a:Addr):Prop:=∀o,h.get? a=some o->o.dict=none
theorem NoDict.new{o:Obj}(e:o.dict=none)(f:(h.push o).get? h.objs.size=some o):NoDict (h.push o) h.objs.size:=λo' z=>by rw[f] at z;cases z;exact e
def ObjOk(H:Hp)(h:Heap)(a:Addr):HO->Prop
 | .lst xs=>xs.length<=sizeLine/\∃(its:List Value) (n:Nat),Vals xs its/\h.get? a=some {cls:= .type "list",data:= .seq its.toArray n}
 | .tup xs=>xs.length<=sizeLine/\∃its:List Value,Vals xs its/\IsTup h a its.toArray/\NoDict h a
 | .dK kvs=>kvs.length<=sizeLine/\(a==sysModules)=false/\∃vs,KV kvs vs/\h.DictOf (zaE P w) a vs
 | .dT kvs=>kvs.length<=sizeLine/\(a==sysModules)=false/\∃xs:List (List Key×Addr×Value),
    Paired (λ(p:List Key×V) (q:List Key×Addr×Value)=>p.1=q.1/\H q.2.1=some (.tup (p.1.map kV))/\RelV p.2 q.2.2) kvs xs/\
    ∃o es ep,h.get? a=some o/\o.ExactDict/\o.data= .dict es ep/\es.toList=xs.map (entryOfKey (tupleKind (zaE P w)))/\(xs.map (·.1)).Nodup
 | .set S n=>h.SetOf (intKind P w) a S n
 | .ins C dx fs=>H dx=some (.own a)/\fs.length<=1000/\dx≠a/\h.get? a=some (W.instObj C dx)/\
    ∃mA,h.Ns1 dx mA/\(∀f,RelO (fs.lookup f) (mA f))/\PySem.Within mA (fs.map (·.1))
 | .own _=>∃o,h.get? a=some o
 | .xd fs=>∃mA,h.Ns1 a mA/\∀f,RelO (fs.lookup f) (mA f)
 | .rng lo hi=>∃t u v,h.get? a=some {cls:= .type "range",data:= .fields #[.int lo t, .int hi u, .int 1 v]}
 | .frz o u=>h.get? a=some o/\ObjOk H h a u
 | .tbl ps=>h.get? a=some {cls:= .none,data:= .fields ps}
 | .met f x=>h.get? a=some (W.methodObj (.ref f) (.ref x))
 | .ext φ=>φ h/\(∃o,h.get? a=some o)/\∀h1 h2:Heap,φ h1->(∀o,h1.get? a=some o->h2.get? a=some o)->φ h2
def HOk(H:Hp)(h:Heap):Prop:=∀a o,H a=some o->ObjOk P w H h a o
end
section
variable{w:World}{o:HO}
theorem ObjOk.lt(x:ObjOk P w H h a o):a<h.objs.size:=by
 cases o with
 |lst xs=>obtain ⟨_,_,_,_,e⟩:=x;exact X0 e
 |tup xs=>obtain ⟨_,_,_,p,_⟩:=x;exact p.lt
 |dK kvs=>obtain ⟨_,_,_,_,o,_,_,e,_⟩:=x;exact X0 e
 |dT kvs=>obtain ⟨_,_,_,_,o,_,_,e,_⟩:=x;exact X0 e
 |set S n=>obtain ⟨o,_,_,_,e,_⟩:=x;exact X0 e
 |ins C dx fs=>obtain ⟨_,_,_,e,_⟩:=x;exact X0 e
 |own y=>obtain ⟨_,e⟩:=x;exact X0 e
 |xd fs=>obtain ⟨_,⟨_,_,_,e,_⟩,_⟩:=x;exact X0 e
 |rng lo hi=>obtain ⟨_,_,_,e⟩:=x;exact X0 e
 |frz ob u=>obtain ⟨e,_⟩:=x;exact X0 e
 |tbl ps=>exact X0 (show h.get? a=some _ from x)
 |met f y=>exact X0 (show h.get? a=some _ from x)
 |ext φ=>obtain ⟨_,⟨_,e⟩,_⟩:=x;exact X0 e
theorem Paired.mapP{F G:α->β->Prop}:∀{l₁:List α} {l₂:List β},Paired F l₁ l₂->(∀a b,F a b->G a b)->Paired G l₁ l₂
 |_,_, .nil,_=> .nil
 |_,_, .cons r t,f=> .cons (f _ _ r) (Paired.mapP t f)
theorem ObjOk.stay(x:ObjOk P w H h a o)(k:∀b u,(b=a\/H b=some (.own a))->h.get? b=some u->h'.get? b=some u)
 (ho:∀b,H b=some (.own a)->H' b=some (.own a)) (ht:∀b xs,H b=some (.tup xs)->H' b=some (.tup xs)):ObjOk P w H' h' a o:=by
 induction o with
 |lst xs=>obtain ⟨z,its,n,r,e⟩:=x;exact⟨z,its,n,r,k _ _ (.inl rfl) e⟩
 |tup xs=>obtain ⟨z,its,r,⟨ob,e,c⟩,nd⟩:=x;exact⟨z,its,r,⟨ob,k _ _ (.inl rfl) e,c⟩,λo q=>by rw[k _ _ (.inl rfl) e] at q;cases q;exact nd _ e⟩
 |dK kvs=>obtain ⟨z,y,vs,r,ob,es,ep,e,c⟩:=x;exact⟨z,y,vs,r,ob,es,ep,k _ _ (.inl rfl) e,c⟩
 |dT kvs=>
  obtain⟨z,y,xs,r,ob,es,ep,e,c⟩:=x
  exact⟨z,y,xs,Paired.mapP r λp q z=>⟨z.1,ht _ _ z.2.1,z.2.2⟩,ob,es,ep,k _ _ (.inl rfl) e,c⟩
 |set S n=>obtain ⟨ob,es,ep,t,e,c⟩:=x;exact⟨ob,es,ep,t,k _ _ (.inl rfl) e,c⟩
 |ins C dx fs=>
  obtain⟨d,z,ne,e,mA,⟨od,es,ep,e2,c⟩,r⟩:=x
  exact⟨ho _ d,z,ne,k _ _ (.inl rfl) e,mA,⟨od,es,ep,k _ _ (.inr d) e2,c⟩,r⟩
 |own y=>obtain ⟨ob,e⟩:=x;exact⟨ob,k _ _ (.inl rfl) e⟩
 |xd fs=>obtain ⟨mA,⟨od,es,ep,e,c⟩,r⟩:=x;exact⟨mA,⟨od,es,ep,k _ _ (.inl rfl) e,c⟩,r⟩
 |rng lo hi=>obtain ⟨t,u,v,e⟩:=x;exact⟨t,u,v,k _ _ (.inl rfl) e⟩
 |frz ob u ih=>obtain ⟨e,q⟩:=x;exact⟨k _ _ (.inl rfl) e,ih q⟩
 |tbl ps=>
  have e:h.get? a=some {cls:= .none,data:= .fields ps}:=x
  show h'.get? a=some {cls:= .none,data:= .fields ps}
  exact k a _ (.inl rfl) e
 |met f y=>
  have e:h.get? a=some (W.methodObj (.ref f) (.ref y)):=x
  show h'.get? a=some (W.methodObj (.ref f) (.ref y))
  exact k a _ (.inl rfl) e
 |ext φ=>obtain ⟨p,⟨o,e⟩,st⟩:=x;exact⟨st _ _ p λo q=>k _ _ (.inl rfl) q,⟨o,k _ _ (.inl rfl) e⟩,st⟩
theorem HOk.lt(x:HOk P w H h)(e:H a=some o):a<h.objs.size:=(x a o e).lt
theorem HOk.fresh(x:HOk P w H h)(e:h.objs.size<=a):H a=none:=by
 cases q:H a with
 |none=>rfl
 |some u=>exact absurd (E2 (x.lt q) e) (R3 _)
theorem HOk.kept(x:HOk P w H h)(k:∀b u,h.get? b=some u->h'.get? b=some u):HOk P w H h':=λa o e=>
 (x a o e).stay (λb u _ q=>k b u q) (λ_ q=>q) λ_ _ q=>q
theorem HOk.laid(x:HOk P w H h)(k:∀b u,h.get? b=some u->h'.get? b=some u)(hp:h.objs.size<=a)(new:ObjOk P w (upd H a o) h' a o):HOk P w (upd H a o) h':=λb u e=>by
 have hn:=x.fresh hp
 by_cases hb:b=a
 ·subst hb;rw[zc] at e;cases e;exact new
 ·rw[zj hb] at e
  exact(x b u e).stay (λc v _ q=>k c v q) (λc q=>by rw[zj (zr q hn)];exact q) λc xs q=>by rw[zj (zr q hn)];exact q
end
def Rd(H:Hp)(a:Addr)(u:HO):Prop:=H a=some u\/∃o,H a=some (.frz o u)
theorem Rd.ok{w:World}{u:HO}(r:Rd H a u)(x:HOk P w H h):ObjOk P w H h a u:=by
 rcases r with r|⟨o,r⟩
 ·exact x a u r
 ·obtain ⟨_,q⟩:=x a _ r
  exact q
def Mut:Option HO->Prop
 |some (.lst _)=>True
 |some (.dK _)=>True
 |some (.dT _)=>True
 |some (.set _ _)=>True
 |some (.ins _ _ _)=>True
 |some (.ext _)=>True
 |_=>False
section
variable{w:World}{x e:Addr}
theorem HOk.write(ok:HOk P w H h)(mu:Mut (H x))(he:e=x\/H e=some (.own x))(k:∀b u,b≠e->h.get? b=some u->h'.get? b=some u)(heo:∃u,h'.get? e=some u)
 (new:ObjOk P w (upd H x o') h' x o'):HOk P w (upd H x o') h':=λb u q=>by
 have nown:∀c y,H c=some (.own y)->c≠x:=λc y r z=>by subst z;rw[r] at mu;exact mu
 have ntup:∀c xs,H c=some (.tup xs)->c≠x:=λc xs r z=>by subst z;rw[r] at mu;exact mu
 by_cases hb:b=x
 ·subst hb;rw[zc] at q;cases q;exact new
 ·rw[zj hb] at q
  by_cases hbe:b=e
  ·have q':H b=some (.own x):=by
    rcases he with z|z
    ·exact absurd (hbe.trans z) hb
    ·rw[hbe];exact z
   rw[q] at q';cases q'
   obtain⟨v,hv⟩:=heo
   exact⟨v,by rw[hbe];exact hv⟩
  ·refine (ok b u q).stay (λc v hc r=>k c v ?_ r) (λc r=>by rw[zj (nown c b r)];exact r) λc xs r=>by rw[zj (ntup c xs r)];exact r
   rcases hc with rfl|hc
   ·exact hbe
   ·rintro rfl
    rcases he with z|z
    ·exact nown c b hc z
    ·rw[hc] at z;cases z;exact hb rfl
end
structure Un(fs ex:List Addr)(H H':Hp)(h h':Heap):Prop where
 keep:∀b o,h.get? b=some o->H b=none->b∉fs->b∉ex->h'.get? b=some o
 slot:∀b o,h.get? b=some o->H b=none->b∈fs->b∉ex->∃sl,h'.get? b=some {o with slots:=sl}
 free:∀b o,h.get? b=some o->H b=none->b∉ex->H' b=none
 there:∀b o,h.get? b=some o->b∉ex->∃o',h'.get? b=some o'
 tups:∀b xs,H b=some (.tup xs)->H' b=some (.tup xs)
 frzs:∀b o u,H b=some (.frz o u)->H' b=some (.frz o u)
 tbls:∀b ps,H b=some (.tbl ps)->∃more,H' b=some (.tbl (ps ++more))
variable{slot:Nat}
section
variable{fs fs' ex ex':List Addr}{h1 h2:Heap}{x e:Addr}{o:HO}
theorem Un.any(u:Un fs ex H H1 h h1){b:Addr}{ob:Obj}(q:h.get? b=some ob)(n:H b=none)(hx:b∉ex):∃sl,h1.get? b=some {ob with slots:=sl}:=by
 by_cases hb:b∈fs
 ·exact u.slot b ob q n hb hx
 ·exact ⟨ob.slots,u.keep b ob q n hb hx⟩
theorem Un.kept(k:∀b u,h.get? b=some u->h'.get? b=some u):Un fs ex H H h h':=
 ⟨λb ob q _ _ _=>k b ob q,λb ob q _ _ _=>⟨ob.slots,k b ob q⟩,λ_ _ _ n _=>n,λb ob q _=>⟨ob,k b ob q⟩,λ_ _ q=>q,λ_ _ _ q=>q,λ_ ps q=>⟨#[],by rw[q];simp⟩⟩
theorem Un.refl:Un fs ex H H h h:=Un.kept λ_ _ q=>q
theorem Un.laid(k:∀b u,h.get? b=some u->h'.get? b=some u)(hp:h.objs.size<=a)(hn:H a=none):Un fs ex H (upd H a o) h h' where
 keep:=λb u q _ _ _=>k b u q
 slot:=λb u q _ _ _=>⟨u.slots,k b u q⟩
 free:=λb u q n _=>by rw[zj (Z1 (E2 (X0 q) hp))];exact n
 there:=λb u q _=>⟨u,k b u q⟩
 tups:=λb xs q=>by rw[zj (zr q hn)];exact q
 frzs:=λb u xs q=>by rw[zj (zr q hn)];exact q
 tbls:=λb ps q=>⟨#[],by rw[zj (zr q hn),q];simp⟩
theorem Un.write(mu:Mut (H x))(he:e=x\/H e=some (.own x))(k:∀b u,b≠e->h.get? b=some u->h'.get? b=some u)(heo:∃u,h'.get? e=some u):Un fs ex H (upd H x o) h h':=by
 have hx:∀b,H b=none->b≠x:=λb n z=>by subst z;rw[n] at mu;exact mu
 have hb:∀b,H b=none->b≠e:=λb n z=>by
  subst z
  rcases he with r|r
  ·exact hx b n r
  ·rw[n] at r;cases r
 have hm:∀b u,H b=some u->¬Mut (some u)->b≠x:=λb u q nm z=>by subst z;rw[q] at mu;exact nm mu
 refine⟨λb u q n _ _=>k b u (hb b n) q,λb u q n _ _=>⟨u.slots,k b u (hb b n) q⟩,λb u q n _=>by rw[zj (hx b n)];exact n,λb u q _=>?_,
  λb xs q=>by rw[zj (hm b _ q λz=>z)];exact q,λb u xs q=>by rw[zj (hm b _ q λz=>z)];exact q,λb ps q=>⟨#[],by rw[zj (hm b _ q λz=>z),q];simp⟩⟩
 by_cases hbe:b=e
 ·subst hbe;exact heo
 ·exact ⟨u,k b u hbe q⟩
end
noncomputable def trk(h:Heap)(H:Hp):List Addr:=(List.range h.objs.size).filter λa=>(H a).isSome
noncomputable def zhW(h:Heap)(H:Hp):Heap:=W.hideAll h (trk h H)
theorem zmM(h:Heap)(H:Hp):(zhW h H).objs.size=h.objs.size:=W.hideAll_size _ _
theorem zog{b:Addr}{o:Obj}(e:h.get? b=some o)(n:H b=none):(zhW h H).get? b=some o:=
 W.hideAll_get _ e λhm=>by
  have q:(H b).isSome=true:=(X2.mp hm).2
  rw[n] at q;simp at q
theorem zpQ{b:Addr}{o:Obj}(e:(zhW h H).get? b=some o):h.get? b=some o/\H b=none:=by
 have e':h.get? b=some o:=W.of_hideAll (trk h H) e
 refine⟨e',?_⟩
 cases q:H b with
 |none=>rfl
 |some x=>
  have hm:b∈trk h H:=X2.mpr ⟨U2.mpr (X0 e'),by simp[q]⟩
  have z:(zhW h H).get? b=none:=W.hideAll_none (trk h H) hm
  rw[z] at e;cases e
structure Mod(K:W.Frag)(mg:Str->Option Value)(base:Heap):Prop where
 kin:K.In base
 glob:base.Ns mainGlobals mg
 blt:∃mb,base.Ns builtinsNs mb/\∀x:Str,x≠"__name__"->mb x=bootBuiltins x
 nolimit:base.NoLimit
structure Cx where
 prog:Program
 w:World
 K:W.Frag
 mg:Str->Option Value
 base:Heap
 A:Around
 N:List Str
 s₀:Shared
 H₀:Hp
 env:Env
 outer:List Env
 stack:List Env
 ex:List Addr
 fn:Str->Bool
 calm:Bool
 pn:List (Addr×Obj)
 xe:Value->Shared->Prop
variable{w:World}{X:Cx}{N:List Str}{A:Around}{K:W.Frag}{prog:Program}{env:Env}
noncomputable def frs(l:List Env):List Addr:=l.filterMap (·.frame)
noncomputable abbrev Cx.fs(X:Cx):List Addr:=frs X.outer
def Vis(sc:Scope)(x:Str):Prop:=sc.names.lookup x=some .local\/sc.names.lookup x=some .cell\/sc.names.lookup x=some .free
def Loc(sc:Scope)(x:Str):Prop:=sc.names.lookup x=some .local\/sc.names.lookup x=some .cell
def zsU(env:Env)(h:Heap)(m:Str->Option Value)(x:Str)(u:Value):Prop:=
 (env.kindOf x=some .local/\m x=some u)\/((env.kindOf x=some .cell\/env.kindOf x=some .free)/\∃c,env.cells.lookup x=some c/\h.IsCell c (some u))
structure Cx.Ok(X:Cx):Prop where
 mod:Mod X.K X.mg X.base
 kind:X.env.scope.kind= .function
 glob:X.env.globals=mainGlobals
 blt:X.env.builtins=builtinsNs
 above:X.s₀.heap.objs.size<=X.env.locals
 inj:∀x y c,X.env.cells.lookup x=some c->X.env.cells.lookup y=some c->x=y
 has:∀x,(X.env.kindOf x=some .cell\/X.env.kindOf x=some .free)->∃c,X.env.cells.lookup x=some c
 cab:∀x c,X.fn x=true->X.env.cells.lookup x=some c->X.s₀.heap.objs.size<=c
 hd:X.calm=true->X.A.handled=none
 frames:X.A.frames=some X.stack
 stk:X.stack=X.outer\/(X.stack=X.env::X.outer/\X.env.frame=some X.env.locals)
 exf:∀b∈X.ex,b≠X.env.locals/\∀x c,X.env.cells.lookup x=some c->c≠b
 bs:∀b o,X.base.get? b=some o->X.s₀.heap.get? b=some o/\X.H₀ b=none
 bsz:X.base.objs.size<=X.s₀.heap.objs.size
 noex:∀b o,X.base.get? b=some o->b∉X.ex
 exfs:∀b∈X.ex,b∉X.fs
 funs:X.s₀.heap.FunFrames X.base X.outer
 frf:∀b∈X.fs,X.H₀ b=none
structure Inv(X:Cx)(pins:List (Addr×Obj))(σ:List (Option V))(H:Hp)(s:Shared):Prop where
 ok:X.Ok
 os:s.os=X.s₀.os
 bare:AllBare s.gens
 base:Un X.fs X.ex X.H₀ H X.s₀.heap s.heap
 loc:∃m,s.heap.Ns X.env.locals m/\∀(i:Nat) (x:Str) (v:V),X.N[i]?=some x->σ[i]?=some (some v)->Vis X.env.scope x->∃u,RelV v u/\zsU X.env s.heap m x u
 cell:∀x c,X.env.cells.lookup x=some c->∃v,s.heap.IsCell c v
 free:H X.env.locals=none
 freeC:∀x c,X.env.cells.lookup x=some c->H c=none
 pin:∀p∈X.pn ++pins,s.heap.get? p.1=some p.2/\H p.1=none/\p.1≠X.env.locals/\p.1∉X.fs/\∀v,p.2.data≠ .cell v
 hok:HOk X.prog X.w H s.heap
 len:σ.length=X.N.length
section
variable{σ:List (Option V)}
theorem Cx.Ok.nofr(ok:X.Ok){b:Addr}{o:Obj}(e:X.base.get? b=some o):b∉X.fs:=λhb=>by
 have:=(ok.funs.mem hb).1
 rw[e] at this;cases this
theorem Inv.bs(I:Inv X pins σ H s):∀b o,X.base.get? b=some o->s.heap.get? b=some o/\H b=none:=λb o e=>
 ⟨I.base.keep b o (I.ok.bs b o e).1 (I.ok.bs b o e).2 (I.ok.nofr e) (I.ok.noex b o e),I.base.free b o (I.ok.bs b o e).1 (I.ok.bs b o e).2 (I.ok.noex b o e)⟩
theorem Inv.bk(I:Inv X pins σ H s):∀b o,X.base.get? b=some o->s.heap.get? b=some o:=λb o e=>(I.bs b o e).1
theorem Inv.mod(I:Inv X pins σ H s):Mod X.K X.mg X.base:=I.ok.mod
theorem Inv.kIn(I:Inv X pins σ H s):X.K.In s.heap:=I.ok.mod.kin.keeps I.bk
theorem Inv.lt(I:Inv X pins σ H s):X.env.locals<s.heap.objs.size:=let⟨_,hn,_⟩:=I.loc;hn.lt
theorem Inv.sz(I:Inv X pins σ H s):X.s₀.heap.objs.size<=s.heap.objs.size:=J1 I.ok.above (Z2 I.lt)
theorem Inv.nofs(I:Inv X pins σ H s)(h:s.heap.objs.size<=a):a∉X.fs:=λhb=>by
 obtain⟨_,o,ho,_⟩:=I.ok.funs.mem hb
 exact absurd (E2 (X0 ho) (J1 I.sz h)) (R3 _)
theorem Inv.cne(I:Inv X pins σ H s):∀x c,X.env.cells.lookup x=some c->c≠X.env.locals:=λx c e z=>by
 obtain⟨v,o,ho,hd⟩:=I.cell x c e
 obtain⟨m,⟨o',es,ep,ho',hd',_⟩,_⟩:=I.loc
 rw[z,ho'] at ho;cases ho;rw[hd'] at hd;cases hd
theorem Inv.funs(I:Inv X pins σ H s):s.heap.FunFrames X.base X.outer:=by
 have all:∀(l:List Env),(∀b∈frs l,b∈X.fs)->X.s₀.heap.FunFrames X.base l->s.heap.FunFrames X.base l:=by
  intro l
  induction l with
  |nil=>intro _ _;trivial
  |cons env r ih=>
   intro hs hl
   obtain⟨hk,⟨L,o,hf,hn,ho,hd⟩,hr⟩:=hl
   have hL:L∈X.fs:=hs L (by unfold frs;rw[List.filterMap_cons,hf];exact Z0)
   obtain⟨sl,e⟩:=I.base.slot L o ho (I.ok.frf L hL) hL λz=>I.ok.exfs L z hL
   exact⟨hk,⟨L,_,hf,hn,e,hd⟩,ih (λb hb=>hs b (by unfold frs;rw[List.filterMap_cons,hf];exact N1 _ hb)) hr⟩
 exact all X.outer (λ_ hb=>hb) I.ok.funs
theorem Inv.stack(I:Inv X pins σ H s):s.heap.FunFrames X.base X.stack:=by
 rcases I.ok.stk with e|⟨e,hf⟩
 ·rw[e];exact I.funs
 ·rw[e]
  obtain⟨m,hn,_⟩:=I.loc
  refine .cons (by rw[I.ok.kind];decide) hf hn ?_ I.funs
  exact Heap.get?_none_of_le (J1 I.ok.bsz I.ok.above)
theorem Inv.stkSub(I:Inv X pins σ H s):∀b∈frs X.stack,b∈X.env.locals::X.fs:=λb hb=>by
 rcases I.ok.stk with e|⟨e,hf⟩
 ·rw[e] at hb;exact N1 _ hb
 ·rw[e] at hb
  unfold frs at hb
  rw[List.filterMap_cons,hf] at hb
  exact hb
theorem Inv.stkFree(I:Inv X pins σ H s):∀b∈frs X.stack,H b=none:=λb hb=>by
 rcases K0.mp (I.stkSub b hb)with e|hb
 ·rw[e];exact I.free
 ·obtain ⟨_,o,ho,_⟩:=I.ok.funs.mem hb
  exact I.base.free b o ho (I.ok.frf b hb) λz=>I.ok.exfs b z hb
theorem Inv.step{ch:List Addr}(I:Inv X pins σ H s)
 (hch:∀b∈ch,(b∈X.ex\/X.s₀.heap.objs.size<=b)/\b≠X.env.locals/\(∀x c,X.env.cells.lookup x=some c->c≠b)/\∀p∈X.pn ++pins,p.1≠b)
 (keep:∀b o,b≠X.env.locals->b∉X.fs->b∉ch->s.heap.get? b=some o->H b=none->h'.get? b=some o)
 (slot:∀b o,b≠X.env.locals->b∈X.fs->b∉ch->s.heap.get? b=some o->H b=none->∃sl,h'.get? b=some {o with slots:=sl}) (free:∀b o,b∉ch->s.heap.get? b=some o->H b=none->H' b=none)
 (there:∀b o,b∉ch->s.heap.get? b=some o->∃o',h'.get? b=some o')
 (tups:∀b xs,H b=some (.tup xs)->H' b=some (.tup xs)) (frzs:∀b o u,H b=some (.frz o u)->H' b=some (.frz o u)) (tbls:∀b ps,H b=some (.tbl ps)->∃more,H' b=some (.tbl (ps ++more)))
 (ns:∀m,s.heap.Ns X.env.locals m->h'.Ns X.env.locals m) (hok:HOk X.prog X.w H' h') (hg:AllBare g'):
 Inv X pins σ H' {s with heap:=h',gens:=g',drawn:=d',toks:=t'}:=by
 have neL:∀b o,X.s₀.heap.get? b=some o->b≠X.env.locals:=λb o e=>Z1 (E2 (X0 e) I.ok.above)
 have neC:∀b o,X.s₀.heap.get? b=some o->b∉X.ex->b∉ch:=λb o e hx hb=>by
  rcases(hch b hb).1 with z|z
  ·exact hx z
  ·exact absurd (E2 (X0 e) z) (R3 _)
 have cellK:∀x c,X.env.cells.lookup x=some c->∀v,s.heap.IsCell c v->h'.IsCell c v:=λx c e v ⟨o,ho,hd⟩=>by
  have nch:c∉ch:=λz=>(hch c z).2.2.1 x c e rfl
  by_cases hc:c∈X.fs
  ·obtain ⟨sl,q⟩:=slot c o (I.cne x c e) hc nch ho (I.freeC x c e)
   exact⟨_,q,hd⟩
  ·exact ⟨o,keep c o (I.cne x c e) hc nch ho (I.freeC x c e),hd⟩
 refine⟨I.ok,I.os,hg,⟨λb o e n hb hx=>?_,λb o e n hb hx=>?_,λb o e n hx=>?_,λb o e hx=>?_,λb xs e=>tups b xs (I.base.tups b xs e),λb o xs e=>frzs b o xs (I.base.frzs b o xs e),λb ps e=>?_⟩,?_,λx c e=>?_,?_,λx c e=>?_,λp hp=>?_,hok,I.len⟩
 ·exact keep b o (neL b o e) hb (neC b o e hx) (I.base.keep b o e n hb hx) (I.base.free b o e n hx)
 ·obtain ⟨sl,e1⟩:=I.base.slot b o e n hb hx
  obtain⟨sl',e2⟩:=slot b _ (neL b o e) hb (neC b o e hx) e1 (I.base.free b o e n hx)
  exact⟨sl',e2⟩
 ·obtain ⟨o',e1⟩:=I.base.there b o e hx
  exact free b o' (neC b o e hx) e1 (I.base.free b o e n hx)
 ·obtain ⟨o',e1⟩:=I.base.there b o e hx
  exact there b o' (neC b o e hx) e1
 ·obtain ⟨m1,e1⟩:=I.base.tbls b ps e
  obtain⟨m2,e2⟩:=tbls b _ e1
  exact⟨m1 ++m2,by rw[e2,Array.append_assoc]⟩
 ·obtain ⟨m,hn,hl⟩:=I.loc
  refine⟨m,ns m hn,λi x v e1 e2 e3=>?_⟩
  obtain⟨u,r,l⟩:=hl i x v e1 e2 e3
  refine⟨u,r,?_⟩
  rcases l with l|⟨k,c,e,z⟩
  ·exact .inl l
  ·exact .inr ⟨k,c,e,cellK x c e _ z⟩
 ·obtain ⟨v,z⟩:=I.cell x c e
  exact⟨v,cellK x c e v z⟩
 ·obtain ⟨m,⟨o,_,_,ho,_⟩,_⟩:=I.loc
  exact free _ o (λz=>(hch _ z).2.1 rfl) ho I.free
 ·obtain ⟨v,o,ho,hd⟩:=I.cell x c e
  exact free c o (λz=>(hch c z).2.2.1 x c e rfl) ho (I.freeC x c e)
 ·obtain ⟨e,n,ne,nf,d⟩:=I.pin p hp
  have nch:p.1∉ch:=λz=>(hch p.1 z).2.2.2 p hp rfl
  exact⟨keep p.1 p.2 ne nf nch e n,free p.1 p.2 nch e n,ne,nf,d⟩
theorem Inv.un(I:Inv X pins σ H s)(u:Un X.fs [] H H' s.heap h')(hok:HOk X.prog X.w H' h'):Inv X pins σ H' {s with heap:=h',toks:=t'}:=by
 obtain⟨m,⟨o,es,ep,ho,r⟩,_⟩:=id I.loc
 obtain⟨sl,hL⟩:=u.any ho I.free `n3
 exact I.step (g':=s.gens) (d':=s.drawn) (ch:=[]) (λ_ z=>nomatch z) (λb o _ hb _ e n=>u.keep b o e n hb `n3) (λb o _ hb _ e n=>u.slot b o e n hb `n3) (λb o _ e n=>u.free b o e n `n3) (λb o _ e=>u.there b o e `n3) u.tups u.frzs u.tbls (λm' hm=>by
  obtain⟨o',es',ep',ho',r'⟩:=hm
  rw[ho] at ho';cases ho'
  exact⟨_,es',ep',hL,r'⟩) hok I.bare
theorem Inv.call{ch:List Addr}(I:Inv X pins σ H s)(u:Un (frs X.stack) ch H H' s.heap h')(hok:HOk X.prog X.w H' h')(hg:AllBare g')
 (hch:∀b∈ch,(b∈X.ex\/X.s₀.heap.objs.size<=b)/\b≠X.env.locals/\(∀x c,X.env.cells.lookup x=some c->c≠b)/\∀p∈X.pn ++pins,p.1≠b):
 Inv X pins σ H' {s with heap:=h',gens:=g',drawn:=d',toks:=t'}:=by
 obtain⟨m,⟨o,es,ep,ho,r⟩,_⟩:=id I.loc
 obtain⟨sl,hL⟩:=u.any ho I.free λz=>(hch _ z).2.1 rfl
 exact I.step (ch:=ch) hch (λb o hL hb hc e n=>u.keep b o e n (λz=>(K0.mp (I.stkSub b z)).elim hL hb) hc) (λb o _ _ hc e n=>u.any e n hc) (λb o hc e n=>u.free b o e n hc) (λb o hc e=>u.there b o e hc) u.tups u.frzs u.tbls (λm' hm=>by
  obtain⟨o',es',ep',ho',r'⟩:=hm
  rw[ho] at ho';cases ho'
  exact⟨_,es',ep',hL,r'⟩) hok hg
theorem Inv.turned(I:Inv X pins σ H s)(k:∀b o,b≠it->s.heap.get? b=some o->h'.get? b=some o)(hn:H it=none)(hL:it≠X.env.locals)
 (h1:it∈X.ex\/X.s₀.heap.objs.size<=it) (h2:∀x c,X.env.cells.lookup x=some c->c≠it) (h3:∀p∈X.pn ++pins,p.1≠it):Inv X pins σ H {s with heap:=h',toks:=t'}:=by
 have nit:∀b u,H b=some u->b≠it:=λb u e z=>by rw[z,hn] at e;cases e
 refine I.step (g':=s.gens) (d':=s.drawn) (ch:=[it]) (λb hb=>?_) (λb o _ _ hc e _=>k b o (λz=>hc (by simp[z])) e) (λb o _ _ hc e _=>⟨o.slots,k b o (λz=>hc (by simp[z])) e⟩) (λ_ _ _ _ n=>n)
  (λb o hc e=>⟨o,k b o (λz=>hc (by simp[z])) e⟩) (λ_ _ e=>e) (λ_ _ _ e=>e) (λb ps e=>⟨#[],by rw[e];simp⟩) (λm hm=>?_) (λb u e=>?_) I.bare
 ·have e:b=it:=by simpa using hb
  subst e
  exact⟨h1,hL,h2,h3⟩
 ·obtain ⟨o,es,ep,ho,r⟩:=hm
  exact⟨o,es,ep,k _ o (Ne.symm hL) ho,r⟩
 ·refine (I.hok b u e).stay (λc v hc q=>k c v ?_ q) (λ_ q=>q) λ_ _ q=>q
  rcases hc with z|z
  ·rw[z];exact nit b u e
  ·exact nit c _ z
theorem Inv.tok(I:Inv X pins σ H s)(t:Nat):Inv X pins σ H {s with toks:=t}:=I.un (h':=s.heap) (t':=t) Un.refl I.hok
theorem Inv.kept(I:Inv X pins σ H s)(k:∀b u,s.heap.get? b=some u->h'.get? b=some u):Inv X pins σ H {s with heap:=h',toks:=t'}:=I.un (Un.kept k) (I.hok.kept k)
theorem Inv.laid{o:HO}(I:Inv X pins σ H s)(k:∀b u,s.heap.get? b=some u->h'.get? b=some u)(hp:s.heap.objs.size<=a)(new:ObjOk X.prog X.w (upd H a o) h' a o):
 Inv X pins σ (upd H a o) {s with heap:=h',toks:=t'}:=I.un (Un.laid k hp (I.hok.fresh hp)) (I.hok.laid k hp new)
theorem Inv.write{x e:Addr}{o:HO}(I:Inv X pins σ H s)(mu:Mut (H x))(he:e=x\/H e=some (.own x))(k:∀b u,b≠e->s.heap.get? b=some u->h'.get? b=some u)(heo:∃u,h'.get? e=some u)
 (new:ObjOk X.prog X.w (upd H x o) h' x o):Inv X pins σ (upd H x o) {s with heap:=h',toks:=t'}:=I.un (Un.write mu he k heo) (I.hok.write mu he k heo new)
theorem Inv.pins_of{pins':List (Addr×Obj)}(I:Inv X pins σ H s)(h:∀p∈pins',s.heap.get? p.1=some p.2/\H p.1=none/\p.1≠X.env.locals/\p.1∉X.fs/\∀v,p.2.data≠ .cell v):Inv X pins' σ H s:=
 ⟨I.ok,I.os,I.bare,I.base,I.loc,I.cell,I.free,I.freeC,λp hp=>(X1.mp hp).elim (λz=>I.pin p (List.mem_append_left _ z)) (h p),I.hok,I.len⟩
theorem zjV(hN:N.Nodup)(a:N[i]?=some x)(b:N[j]?=some x):i=j:=by
 obtain⟨h1,e1⟩:=List.getElem?_eq_some_iff.mp a
 obtain⟨h2,e2⟩:=List.getElem?_eq_some_iff.mp b
 exact(List.getElem_inj hN).mp (e1.trans e2.symm)
theorem zl3{Q:Unit->Shared->Prop}(I:Inv X pins σ H s)(hN:X.N.Nodup)(hi:X.N[i]?=some x)(hx:Loc X.env.scope x)(r:RelV v u)
 (h:∀s',Inv X pins (σ.set i (some v)) H s'->(∃a,Heap.SameBut a s.heap s'.heap/\(a=X.env.locals\/X.env.cells.lookup x=some a))->Q Unit.unit s') (hf:autoParam (X.fn x=true\/X.env.scope.names.lookup x=some .local) t7):wpAny M A (storeName X.env x u) Q E s:=by
 obtain⟨m,hn,hl⟩:=id I.loc
 have hcls:(X.env.scope.kind== .class||(X.env.scope.kind== .module&&X.env.locals !=X.env.globals))=false:=by rw[I.ok.kind];rfl
 have hiσ:i<σ.length:=by rw[I.len];exact(List.getElem?_eq_some_iff.mp hi).1
 have cne:=I.cne
 have tracked:∀{a:Addr} {h':Heap},(∃o,s.heap.get? a=some o/\H a=none)->Heap.SameBut a s.heap h'->HOk X.prog X.w H h':=λ{a h'} ha hs b ob e=>by
  obtain⟨_,_,hfree⟩:=ha
  refine(I.hok b ob e).stay (λc w' hc q=>(hs.2 c ?_).trans q) (λ_ q=>q) λ_ _ q=>q
  rintro rfl
  rcases hc with rfl|hc
  ·rw[hfree] at e;cases e
  ·rw[hfree] at hc;cases hc
 rcases hx with hk|hk
 ·refine wpAny_storeName_local hk hn (λh' hn' hs=>?_) hcls
  obtain⟨oL,_,_,hoL,_⟩:=id hn
  refine h _ ⟨I.ok,I.os,I.bare,⟨λb o e n hb hx=>?_,λb o e n hb hx=>?_,I.base.free,λb o e hx=>?_,I.base.tups,I.base.frzs,I.base.tbls⟩,⟨_,hn',λj y v' e1 e2 e3=>?_⟩,λy c e=>?_,I.free,I.freeC,λp hp=>?_,tracked ⟨oL,hoL,I.free⟩ hs,by simpa using I.len⟩ ⟨_,hs, .inl rfl⟩
  ·exact (hs.2 b (Z1 (E2 (X0 e) I.ok.above))).trans (I.base.keep b o e n hb hx)
  ·obtain ⟨sl,e1⟩:=I.base.slot b o e n hb hx
   exact⟨sl,(hs.2 b (Z1 (E2 (X0 e) I.ok.above))).trans e1⟩
  ·obtain ⟨o',e1⟩:=I.base.there b o e hx
   exact⟨o',(hs.2 b (Z1 (E2 (X0 e) I.ok.above))).trans e1⟩
  ·by_cases hj:j=i
   ·subst hj
    rw[hi] at e1;cases e1
    rw[List.getElem?_set_self hiσ] at e2
    cases e2
    exact⟨u,r, .inl ⟨hk,`n3⟩⟩
   ·rw[List.getElem?_set_ne (Ne.symm hj)] at e2
    obtain⟨u',r',q⟩:=hl j y v' e1 e2 e3
    refine⟨u',r',?_⟩
    rcases q with⟨k,e⟩|⟨k,c,e,z⟩
    ·refine .inl ⟨k,?_⟩
     have:y≠x:=λe=>hj (zjV hN e1 (e▸hi))
     simp[this,e]
    ·exact .inr ⟨k,c,e,z.sameBut hs (cne y c e)⟩
  ·obtain ⟨w',z⟩:=I.cell y c e
   exact⟨w',z.sameBut hs (cne y c e)⟩
  ·obtain ⟨e,n,ne,nf,d⟩:=I.pin p hp
   exact⟨(hs.2 p.1 ne).trans e,n,ne,nf,d⟩
 ·have hfn:X.fn x=true:=by
   rcases hf with z|z
   ·exact z
   ·rw[z] at hk;cases hk
  obtain⟨c,hc⟩:=I.ok.has x (.inl hk)
  obtain⟨w',z⟩:=I.cell x c hc
  refine wpAny_storeName_cell I.ok.kind hk hc z (λh' hc' hs=>?_)
  obtain⟨oc,hoc,hocd⟩:=id z
  refine h {s with heap:=h'} ⟨I.ok,I.os,I.bare,⟨λb o e n hb hx=>?_,λb o e n hb hx=>?_,I.base.free,λb o e hx=>?_,I.base.tups,I.base.frzs,I.base.tbls⟩,⟨m,hn.sameBut hs (Ne.symm (cne x c hc)),λj y v' e1 e2 e3=>?_⟩,λy c' e=>?_,I.free,I.freeC,λp hp=>?_,tracked ⟨oc,hoc,I.freeC x c hc⟩ hs,by simpa using I.len⟩ ⟨c,hs, .inr hc⟩
  ·exact (hs.2 b (Z1 (E2 (X0 e) (I.ok.cab x c hfn hc)))).trans (I.base.keep b o e n hb hx)
  ·obtain ⟨sl,e1⟩:=I.base.slot b o e n hb hx
   exact⟨sl,(hs.2 b (Z1 (E2 (X0 e) (I.ok.cab x c hfn hc)))).trans e1⟩
  ·obtain ⟨o',e1⟩:=I.base.there b o e hx
   exact⟨o',(hs.2 b (Z1 (E2 (X0 e) (I.ok.cab x c hfn hc)))).trans e1⟩
  ·by_cases hj:j=i
   ·subst hj
    rw[hi] at e1;cases e1
    rw[List.getElem?_set_self hiσ] at e2
    cases e2
    exact⟨u,r, .inr ⟨.inl hk,c,hc,hc'⟩⟩
   ·rw[List.getElem?_set_ne (Ne.symm hj)] at e2
    obtain⟨u',r',q⟩:=hl j y v' e1 e2 e3
    refine⟨u',r',?_⟩
    rcases q with q|⟨k,c',e,z'⟩
    ·exact .inl q
    ·refine .inr ⟨k,c',e,z'.sameBut hs ?_⟩
     rintro rfl
     exact hj (zjV hN e1 (I.ok.inj _ _ _ e hc▸hi))
  ·by_cases hcc:c'=c
   ·subst hcc;exact⟨_,hc'⟩
   ·obtain ⟨w2,z2⟩:=I.cell y c' e
    exact⟨w2,z2.sameBut hs hcc⟩
  ·obtain ⟨e,n,ne,nf,d⟩:=I.pin p hp
   refine⟨(hs.2 p.1 ?_).trans e,n,ne,nf,d⟩
   intro q
   rw[q,hoc] at e
   have q':oc=p.2:=U1 e
   exact d w' (by rw[←q'];exact hocd)
theorem zeg{Q:Unit->Shared->Prop}(I:Inv X pins σ H s)(hN:X.N.Nodup)(hi:X.N[i]?=some x)(hx:Loc X.env.scope x)(r:RelV v u)
 (h:∀s',Inv X pins (σ.set i (some v)) H s'->Q Unit.unit s') (hf:autoParam (X.fn x=true\/X.env.scope.names.lookup x=some .local) t7):wpAny M A (storeName X.env x u) Q E s:=
 zl3 I hN hi hx r (λs' I' _=>h s' I') hf
theorem Inv.call'{ch:List Addr}(I:Inv X pins σ H s)(ho:s'.os=s.os)(u:Un (frs X.stack) ch H H' s.heap s'.heap)(hok:HOk X.prog X.w H' s'.heap)(hg:AllBare s'.gens)
 (hch:∀b∈ch,(b∈X.ex\/X.s₀.heap.objs.size<=b)/\b≠X.env.locals/\(∀x c,X.env.cells.lookup x=some c->c≠b)/\∀p∈X.pn ++pins,p.1≠b):Inv X pins σ H' s':=by
 obtain⟨h',g',d',t',o'⟩:=s'
 have e:o'=s.os:=ho
 subst e
 exact I.call (g':=g') (t':=t') (d':=d') u hok hg hch
end
noncomputable abbrev XK:=Value->Option Addr->Hp->Prop
noncomputable abbrev St:=List (Option V)
variable{σ σr:St}
noncomputable abbrev VK:=V->Hp->Prop
noncomputable abbrev TE:=St->Hp->VK->Prop
variable{te ti tl tv td tf:TE}
noncomputable abbrev TT:=St->Hp->(Bool->Hp->Prop)->Prop
variable{tc tc2:TT}
noncomputable abbrev TA:=St->Hp->(List V->Hp->Prop)->Prop
variable{ta:TA}
structure Ends where
 nx:St->Hp->Prop
 rt:VK
 bk:St->Hp->Prop:=λ_ _=>False
 ct:St->Hp->Prop:=λ_ _=>False
variable{ct:Value}{De:Ends}
noncomputable abbrev TS:=Ends->St->Hp->Prop
variable{tb sb:TS}
def EP(X:Cx)(pins:List (Addr×Obj))(σ:St)(Q:VK)(u:Value)(s':Shared):Prop:=∃v H',Inv X pins σ H' s'/\RelV v u/\Q v H'
def TP(X:Cx)(pins:List (Addr×Obj))(σ:St)(Q:Bool->Hp->Prop)(b:Bool)(s':Shared):Prop:=∃H',Inv X pins σ H' s'/\Q b H'
def AP(X:Cx)(pins:List (Addr×Obj))(σ:St)(Q:List V->Hp->Prop)(us:List Value)(s':Shared):Prop:=∃vs H',Inv X pins σ H' s'/\Vals vs us/\Q vs H'
def SP(X:Cx)(pins:List (Addr×Obj))(D:Ends)(f:Flow)(s':Shared):Prop:=
 match f with
 | .next=>∃σ' H',Inv X pins σ' H' s'/\D.nx σ' H'
 | .brk=>∃σ' H',Inv X pins σ' H' s'/\D.bk σ' H'
 | .cont=>∃σ' H',Inv X pins σ' H' s'/\D.ct σ' H'
 | .ret u=>∃v σ' H',Inv X pins σ' H' s'/\RelV v u/\D.rt v H'
def PE(X:Cx)(e:Expr)(t:TE):Prop:=
 ∀(pins:List (Addr×Obj)) (s:Shared) (σ:St) (H:Hp) (Q:VK),Inv X pins σ H s->t σ H Q->wpAny `Y4 X.A (eval e X.env) (EP X pins σ Q) X.xe s
def PT(X:Cx)(e:Expr)(t:TT):Prop:=
 ∀(pins:List (Addr×Obj)) (s:Shared) (σ:St) (H:Hp) (Q:Bool->Hp->Prop),Inv X pins σ H s->t σ H Q->wpAny `Y4 X.A (isTrue e X.env (eval e X.env)) (TP X pins σ Q) X.xe s
def PW(X:Cx)(e:Expr)(t:TT):Prop:=
 ∀(whole:Sem Value) (pins:List (Addr×Obj)) (s:Shared) (σ:St) (H:Hp) (Q:Bool->Hp->Prop),Inv X pins σ H s->t σ H Q->wpAny `Y4 X.A (isTrue e X.env whole) (TP X pins σ Q) X.xe s
theorem PW.pt{t:TT}(h:PW X e t):PT X e t:=h _
variable{pt:Pos}
def PA(X:Cx)(es:List Expr)(t:TA):Prop:=
 ∀(pos:Pos) (pins:List (Addr×Obj)) (s:Shared) (σ:St) (H:Hp) (Q:List V->Hp->Prop),Inv X pins σ H s->t σ H Q->wpAny `Y4 X.A (spliced (backTo pos (starEach es X.env))) (AP X pins σ Q) X.xe s
def PS(X:Cx)(st:Stmt)(t:TS):Prop:=
 ∀(pins:List (Addr×Obj)) (s:Shared) (σ:St) (H:Hp) (D:Ends),Inv X pins σ H s->t D σ H->wpAny `Y4 X.A (exec st X.env) (SP X pins D) X.xe s
def PSs(X:Cx)(st:List Stmt)(t:TS):Prop:=
 ∀(pins:List (Addr×Obj)) (s:Shared) (σ:St) (H:Hp) (D:Ends),Inv X pins σ H s->t D σ H->wpAny `Y4 X.A (execs st X.env) (SP X pins D) X.xe s
theorem thn{t:Sem α}{Q Q':α->Shared->Prop}(h:wpAny M A t Q E s)(hQ:∀a s,Q a s->Q' a s):wpAny M A t Q' E s:=wpAny_mono h hQ λ_ _ x=>x
section
noncomputable def zfr(i:Nat):TE:=λσ H Q=>∃v,σ[i]?=some (some v)/\Q v H
noncomputable def tC(v:V):TE:=λ_ H Q=>Q v H
theorem znp(hN:X.N[i]?=some x)(hv:Vis X.env.scope x)(hd:autoParam ((x==("__debug__":Str))=false) u5)(hcd:autoParam ((x==("__classdict__":Str))=false) u5):PE X (.Name x pos) (zfr i):=by
 intro pins s σ H Q I h
 obtain⟨v,e,h⟩:=h
 obtain⟨m,hn,hl⟩:=I.loc
 obtain⟨u,r,l⟩:=hl i x v hN e hv
 have fin:EP X pins σ Q u s:=⟨v,H,I,r,h⟩
 rcases l with⟨hk,hm⟩|⟨hk,c,hc,hcell⟩
 ·exact wpAny_Name (wpAny_loadName_local I.ok.kind hk hn hm fin) hd
 ·rcases hk with hk|hk
  ·exact wpAny_Name (wpAny_loadName_cell I.ok.kind hk hc hcell fin) hd
  ·exact wpAny_Name (wpAny_loadName_free I.ok.kind hk hc hcell fin hcd) hd
theorem zn3{i j pos}:PE X (.Constant (.int i) j pos) (tC (.int i)):=λ_ _ _ H _ I h=>wpAny_Constant_int ⟨.int i,H,I.tok _,⟨_,rfl⟩,h⟩
theorem zqp{b j pos}:PE X (.Constant (.bool b) j pos) (tC (.bl b)):=λ_ _ _ H _ I h=>Constant_bool ⟨.bl b,H,I,rfl,h⟩
theorem zoT{j pos}:PE X (.Constant .none j pos) (tC .non):=λ_ _ _ H _ I h=>Constant_none ⟨.non,H,I,rfl,h⟩
theorem znE{x j pos}:PE X (.Constant (.str x) j pos) (tC (.str x)):=λ_ _ _ H _ I h=>Calls.Constant_str ⟨.str x,H,I.tok _,⟨_,rfl⟩,h⟩
def Gl(X:Cx)(x:Str):Prop:=X.env.kindOf x=some .globalImplicit
theorem zk0(I:Inv X pins σ H s)(hg:Gl X x)(hm:X.mg x=some u)(h:Q u s)
 (hd:autoParam ((x==("__debug__":Str))=false) u5):wpAny `Y4 X.A (eval (.Name x pos) X.env) Q E s:=
 Calls.Name_function_global I.ok.kind hg (Calls.loadGlobal_global (by rw[I.ok.glob];exact I.mod.glob.keeps I.bk) hm h) hd
theorem zc9(I:Inv X pins σ H s)(hg:Gl X x)(hm:X.mg x=none)(hv:bootBuiltins x=some u)(h:Q u s)
 (hn:autoParam (x≠"__name__") u5) (hd:autoParam ((x==("__debug__":Str))=false) u5):wpAny `Y4 X.A (eval (.Name x pos) X.env) Q E s:=by
 obtain⟨mb,h1,h2⟩:=I.mod.blt
 exact Calls.Name_function_global I.ok.kind hg (Calls.loadGlobal_builtin (by rw[I.ok.glob];exact I.mod.glob.keeps I.bk) hm (by rw[I.ok.blt];exact h1.keeps I.bk) ((h2 x hn).trans hv) h) hd
theorem zpZ(hg:Gl X x)(hm:X.mg x=some u)(r:RelV v u)(hd:autoParam ((x==("__debug__":Str))=false) u5):PE X (.Name x pos) (tC v):=
 λ_ _ _ H _ I h=>zk0 I hg hm ⟨v,H,I,r,h⟩ hd
theorem zps(hg:Gl X x)(hm:X.mg x=none)(hv:bootBuiltins x=some u)(r:RelV v u)(hn:autoParam (x≠"__name__") u5)(hd:autoParam ((x==("__debug__":Str))=false) u5):PE X (.Name x pos) (tC v):=
 λ_ _ _ H _ I h=>zc9 I hg hm hv ⟨v,H,I,r,h⟩ hn hd
variable{a b:Expr}{ta tb:TE}
noncomputable def tB(t:TE):TT:=λσ H Q=>t σ H λx H1=>∃c,x= .bl c/\Q c H1
theorem zrv{t:TE}(h:PE X e t)(he:autoParam (∀whole,isTrue e X.env whole=(do let v ←whole;standAt e.pos;holding [v] (truthy v))) u6):PT X e (tB t):=by
 intro pins s σ H Q I hw
 refine isTrue_plain (thn (h pins s σ H _ I hw) λv s1 zq=>?_) (he _)
 obtain⟨x,H1,I1,r1,q1⟩:=zq
 obtain⟨d,rfl,q⟩:=q1
 cases r1
 exact wpAny_truthy_bool ⟨H1,I1,q⟩
variable{tA tB':TT}
noncomputable def zsr(t u:TT):TT:=λσ H Q=>t σ H λc H1=>if c=true then u σ H1 Q else Q false H1
noncomputable def tOr(t u:TT):TT:=λσ H Q=>t σ H λc H1=>if c=true then Q true H1 else u σ H1 Q
noncomputable def zsF(t:TT):TT:=λσ H Q=>t σ H λc H1=>Q (!c) H1
theorem zpN(ha:PT X a tA):PW X (.BoolOp .And [a] pos) tA:=by
 intro wh pins s σ H Q I h
 refine isTrue_and (thn (ha pins s σ H Q I h) λc s1 e=>?_)
 cases c with
 |true=>exact isTrue_and_nil e
 |false=>exact e
theorem zrk(ha:PT X a tA):PW X (.BoolOp .Or [a] pos) tA:=by
 intro wh pins s σ H Q I h
 refine isTrue_or (thn (ha pins s σ H Q I h) λc s1 e=>?_)
 cases c with
 |false=>exact isTrue_or_nil e
 |true=>exact e
theorem zr1(ha:PT X a tA)(hb:PW X (.BoolOp .And (b::rest) pos) tB'):PW X (.BoolOp .And (a::b::rest) pos) (zsr tA tB'):=by
 intro wh pins s σ H Q I h
 refine isTrue_and (thn (ha pins s σ H _ I h) λc s1 zq=>?_)
 obtain⟨H1,I1,q1⟩:=zq
 cases c with
 |true=>exact hb wh pins s1 σ H1 Q I1 q1
 |false=>exact ⟨H1,I1,q1⟩
theorem zsg(ha:PT X a tA)(hb:PW X (.BoolOp .Or (b::rest) pos) tB'):PW X (.BoolOp .Or (a::b::rest) pos) (tOr tA tB'):=by
 intro wh pins s σ H Q I h
 refine isTrue_or (thn (ha pins s σ H _ I h) λc s1 zq=>?_)
 obtain⟨H1,I1,q1⟩:=zq
 cases c with
 |true=>exact ⟨H1,I1,q1⟩
 |false=>exact hb wh pins s1 σ H1 Q I1 q1
theorem zre(ha:PT X a tA):PT X (.UnaryOp .Not a pos) (zsF tA):=by
 intro pins s σ H Q I h
 exact isTrue_not (ha pins s σ H (λc H1=>Q (!c) H1) I h)
noncomputable def zqK(ta tb:TE):TE:=λσ H Q=>ta σ H λx H1=>∃c,x= .bl c/\if c=true then tb σ H1 Q else Q (.bl false) H1
noncomputable def zsx(ta tb:TE):TE:=λσ H Q=>ta σ H λx H1=>∃c,x= .bl c/\if c=true then Q (.bl true) H1 else tb σ H1 Q
noncomputable def zqn(ta:TE):TE:=λσ H Q=>ta σ H λx H1=>∃c,x= .bl c/\Q (.bl (!c)) H1
theorem zrV{op}{t:TE}(h:PE X a t):PE X (.BoolOp op [a] pos) t:=λpins s σ H Q I hw=>BoolOp_one (h pins s σ H Q I hw)
theorem zrN(ha:PE X a ta)(hb:PE X (.BoolOp .And (b::rest) pos) tb):PE X (.BoolOp .And (a::b::rest) pos) (zqK ta tb):=by
 intro pins s σ H Q I h
 refine BoolOp_and (thn (ha pins s σ H _ I h) λv s1 zq=>?_)
 obtain⟨x,H1,I1,r1,q1⟩:=zq
 obtain⟨c,rfl,q1⟩:=q1
 cases r1
 refine wpAny_truthy_bool ?_
 cases c with
 |true=>exact hb pins s1 σ H1 Q I1 q1
 |false=>exact ⟨.bl false,H1,I1,rfl,q1⟩
theorem zsC(ha:PE X a ta)(hb:PE X (.BoolOp .Or (b::rest) pos) tb):PE X (.BoolOp .Or (a::b::rest) pos) (zsx ta tb):=by
 intro pins s σ H Q I h
 refine BoolOp_or (thn (ha pins s σ H _ I h) λv s1 zq=>?_)
 obtain⟨x,H1,I1,r1,q1⟩:=zq
 obtain⟨c,rfl,q1⟩:=q1
 cases r1
 refine wpAny_truthy_bool ?_
 cases c with
 |false=>exact hb pins s1 σ H1 Q I1 q1
 |true=>exact ⟨.bl true,H1,I1,rfl,q1⟩
theorem zrc(ha:PE X a ta):PE X (.UnaryOp .Not a pos) (zqn ta):=by
 intro pins s σ H Q I h
 refine UnaryOp_ (thn (ha pins s σ H _ I h) λv s1 zq=>?_)
 obtain⟨x,H1,I1,r1,q1⟩:=zq
 obtain⟨c,rfl,q1⟩:=q1
 cases r1
 exact not_of (wpAny_truthy_bool ⟨.bl (!c),H1,I1,rfl,q1⟩)
noncomputable def tIf(t:TT)(ta tb:TE):TE:=λσ H Q=>t σ H λc H1=>if c=true then ta σ H1 Q else tb σ H1 Q
theorem zns(hc:PT X c tA)(ha:PE X a ta)(hb:PE X b tb):PE X (.IfExp c a b pos) (tIf tA ta tb):=by
 intro pins s σ H Q I h
 refine wpAny_IfExp (thn (hc pins s σ H _ I h) λd s1 zq=>?_)
 obtain⟨H1,I1,q1⟩:=zq
 cases d with
 |true=>exact ha pins s1 σ H1 Q I1 q1
 |false=>exact hb pins s1 σ H1 Q I1 q1
end
def SqL(K:W.Frag)(H:Hp)(a:Addr)(xs:List V):Prop:=
 Rd H a (.lst xs)\/
  ∃(o:Obj) (its:Array Value) (n:Nat),K.lookup a=some o/\o.cls= .type "list"/\o.dict=none/\o.data= .seq its n/\its.size<=sizeLine/\Vals xs its.toList
def SqT(K:W.Frag)(H:Hp)(a:Addr)(xs:List V):Prop:=
 Rd H a (.tup xs)\/
  ∃(o:Obj) (its:Array Value) (n:Nat),K.lookup a=some o/\o.cls= .type "tuple"/\o.data= .seq its n/\its.size<=sizeLine/\Vals xs its.toList
noncomputable def zsP:Value->Option V
 | .none=>some .non
 | .bool b=>some (.bl b)
 | .int i _=>some (.int i)
 | .str x _=>some (.str x)
 | .bytes b _=>some (.byt b)
 | .float b _=>some (.flt b)
 | .ref a=>some (.ref a)
 | .type n=>some (.ty n)
 |_=>none
theorem RelV.abs{x:V}(r:RelV x u):zsP u=some x:=by
 cases x with
 |non=>cases r;rfl
 |bl _=>cases r;rfl
 |int _=>obtain ⟨t,rfl⟩:=r;rfl
 |str _=>obtain ⟨t,rfl⟩:=r;rfl
 |byt _=>obtain ⟨t,rfl⟩:=r;rfl
 |flt _=>obtain ⟨t,rfl⟩:=r;rfl
 |ref _=>cases r;rfl
 |ty _=>cases r;rfl
theorem RelV.inj{x y:V}(r:RelV x u)(q:RelV y u):x=y:=U1 (r.abs.symm.trans q.abs)
theorem Vals.inj(h:Vals xs us)(h':Vals ys us):xs=ys:=by
 induction h generalizing ys with
 |nil=>cases h';rfl
 |cons r t ih=>
  cases h' with
  |cons r' t'=>rw[r.inj r',ih t']
theorem SqL.of(h:H a=some (.lst xs)):SqL K H a xs:= .inl (.inl h)
theorem SqT.of(h:H a=some (.tup xs)):SqT K H a xs:= .inl (.inl h)
theorem Inv.list(I:Inv X pins σ H s)(h:SqL X.K H a xs):∃its:List Value,Vals xs its/\PlainL s.heap a its.toArray/\xs.length<=sizeLine:=by
 rcases h with h|⟨o,its,n,hk,hc,hd,hs,hz,r⟩
 ·obtain ⟨z,its,n,r,e⟩:=h.ok I.hok
  exact⟨its,r,⟨_,n,e,rfl,rfl,rfl⟩,z⟩
 ·refine ⟨its.toList,r,⟨o,n,I.kIn a o hk,hc,hd,by simpa using hs⟩,?_⟩
  have e:=r.length
  simp only[j1] at e
  lia
theorem Inv.tuple(I:Inv X pins σ H s)(h:SqT X.K H a xs):∃its:List Value,Vals xs its/\IsTup s.heap a its.toArray/\xs.length<=sizeLine:=by
 rcases h with h|⟨o,its,n,hk,hc,hs,hz,r⟩
 ·obtain ⟨z,its,r,p,_⟩:=h.ok I.hok
  exact⟨its,r,p,z⟩
 ·refine ⟨its.toList,r,⟨o,I.kIn a o hk,hc,n,by simpa using hs⟩,?_⟩
  have e:=r.length
  simp only[j1] at e
  lia
theorem Inv.list_inj(I:Inv X pins σ H s)(h:SqL X.K H a xs)(h':SqL X.K H a ys):xs=ys:=by
 obtain⟨its,r,⟨o,n,e,_,_,d⟩,_⟩:=I.list h
 obtain⟨its',r',⟨o',n',e',_,_,d'⟩,_⟩:=I.list h'
 rw[e] at e';cases e'
 rw[d] at d'
 injection d' with d1 _
 have:its=its':=by simpa using j3 Array.toList d1
 subst this
 exact r.inj r'
theorem Inv.tuple_inj(I:Inv X pins σ H s)(h:SqT X.K H a xs)(h':SqT X.K H a ys):xs=ys:=by
 obtain⟨its,r,⟨o,e,_,n,d⟩,_⟩:=I.tuple h
 obtain⟨its',r',⟨o',e',_,n',d'⟩,_⟩:=I.tuple h'
 rw[e] at e';cases e'
 rw[d] at d'
 injection d' with d1 _
 have:its=its':=by simpa using j3 Array.toList d1
 subst this
 exact r.inj r'
abbrev Cx.wish(X:Cx)(E:Value->Shared->Prop):Cx:={X with xe:=E}
noncomputable abbrev Cx.nox(X:Cx):Cx:=X.wish λ_ _=>False
theorem Cx.Ok.wish(ok:X.Ok)(E:Value->Shared->Prop):(X.wish E).Ok:=
 ⟨ok.mod,ok.kind,ok.glob,ok.blt,ok.above,ok.inj,ok.has,ok.cab,ok.hd,ok.frames,ok.stk,ok.exf,ok.bs,ok.bsz,ok.noex,ok.exfs,ok.funs,ok.frf⟩
theorem Cx.Ok.unwish(ok:(X.wish E).Ok):X.Ok:=
 ⟨ok.mod,ok.kind,ok.glob,ok.blt,ok.above,ok.inj,ok.has,ok.cab,ok.hd,ok.frames,ok.stk,ok.exf,ok.bs,ok.bsz,ok.noex,ok.exfs,ok.funs,ok.frf⟩
theorem Inv.wish(I:Inv X pins σ H s)(E:Value->Shared->Prop):Inv (X.wish E) pins σ H s:=⟨I.ok.wish E,I.os,I.bare,I.base,I.loc,I.cell,I.free,I.freeC,I.pin,I.hok,I.len⟩
theorem Inv.unwish(I:Inv (X.wish E) pins σ H s):Inv X pins σ H s:=⟨I.ok.unwish,I.os,I.bare,I.base,I.loc,I.cell,I.free,I.freeC,I.pin,I.hok,I.len⟩
theorem SP.unwish{D:Ends}{f:Flow}(h:SP (X.wish E) pins D f s'):SP X pins D f s':=by
 cases f with
 |next=>obtain ⟨σ',H',I,q⟩:=h;exact⟨σ',H',I.unwish,q⟩
 |brk=>obtain ⟨σ',H',I,q⟩:=h;exact⟨σ',H',I.unwish,q⟩
 |cont=>obtain ⟨σ',H',I,q⟩:=h;exact⟨σ',H',I.unwish,q⟩
 |ret u=>obtain ⟨v,σ',H',I,r,q⟩:=h;exact⟨v,σ',H',I.unwish,r,q⟩
theorem PSs.nox{st:List Stmt}{t:TS}(h:PSs X.nox st t):PSs X st t:=λpins s σ H D I hw=>
 wpAny_mono (h pins s σ H D (I.wish _) hw) (λ_ _ q=>q.unwish) λ_ _ z=>False.elim z
section
variable{st:Stmt}{rest:List Stmt}{t u:TS}
noncomputable def zqE:TS:=λD σ H=>D.nx σ H
noncomputable def zm2(t u:TS):TS:=λD σ H=>t {D with nx:=u D} σ H
theorem zpR:PSs X [] zqE:=λ_ _ σ H _ I h=>wpAny_execs_nil ⟨σ,H,I,h⟩
theorem zi5(h1:PS X st t)(h2:PSs X rest u):PSs X (st::rest) (zm2 t u):=by
 intro pins s σ H D I h
 refine wpAny_execs_cons (thn (h1 pins s σ H {D with nx:=u D} I h) λf s1 q=>?_)
 cases f with
 |next=>
  obtain⟨σ',H',I',q⟩:=q
  exact h2 pins s1 σ' H' D I' q
 |ret v=>exact q
 |brk=>exact q
 |cont=>exact q
theorem zoZ(h1:PS X st t):PSs X [st] t:=by
 intro pins s σ H D I h
 refine wpAny_execs_cons (thn (h1 pins s σ H D I h) λf s1 q=>?_)
 cases f with
 |next=>exact wpAny_execs_nil q
 |ret v=>exact q
 |brk=>exact q
 |cont=>exact q
noncomputable def zqF:TS:=λD σ H=>D.ct σ H
theorem zjc:PS X (.Continue pos) zqF:=λ_ _ σ H _ I h=>wpAny_Continue ⟨σ,H,I,h⟩
theorem Inv.quiet(I:Inv X pins σ H s):interactive X.env=false:=by simp[interactive,I.ok.kind]
noncomputable def zqw(te:TE):TS:=λD σ H=>te σ H λ_ H1=>D.nx σ H1
theorem zp9(he:PE X e te)(hs:autoParam (swapsWith e none pos.line X.env=pure false) u4):PS X (.Expr e pos) (zqw te):=by
 intro pins s σ H D I h
 refine wpAny_Expr_any (thn (he pins s σ H _ I h) λv s1 zq=>?_) I.quiet hs
 obtain⟨x,H1,I1,r1,q1⟩:=zq
 exact⟨σ,H1,I1,q1⟩
noncomputable def zrH(te:TE):TS:=λD σ H=>te σ H D.rt
theorem zrb(he:PE X e te):PS X (.Return (some e) pos) (zrH te):=by
 intro pins s σ H D I h
 refine wpAny_Return_some (thn (he pins s σ H _ I h) λv s1 zq=>?_)
 obtain⟨x,H1,I1,r1,q1⟩:=zq
 exact⟨x,σ,H1,I1,r1,q1⟩
noncomputable def zro(c:TT)(t u:TS):TS:=λD σ H=>c σ H λb H1=>if b=true then t D σ H1 else u D σ H1
theorem zr8{a b:List Stmt}(hc:PT X c tc)(ha:PSs X a t)(hb:PSs X b u):PS X (.If c a b pos) (zro tc t u):=by
 intro pins s σ H D I h
 refine wpAny_If (thn (hc pins s σ H _ I h) λd s1 zq=>?_)
 obtain⟨H1,I1,q1⟩:=zq
 cases d with
 |true=>exact ha pins s1 σ H1 D I1 q1
 |false=>exact hb pins s1 σ H1 D I1 q1
end
noncomputable abbrev TG:=V->St->Hp->(St->Hp->Prop)->Prop
variable{g2:TG}
noncomputable abbrev TGs:=List V->St->Hp->(St->Hp->Prop)->Prop
variable{tgs:TGs}
def PG(X:Cx)(target:Expr)(t:TG):Prop:=
 ∀(pins:List (Addr×Obj)) (s:Shared) (σ:St) (H:Hp) (v:V) (u:Value) (Q:St->Hp->Prop),Inv X pins σ H s->RelV v u->t v σ H Q->
  wpAny `Y4 X.A (assign target X.env u) (λ_ s'=>∃σ' H',Inv X pins σ' H' s'/\Q σ' H') X.xe s
def PGs(X:Cx)(ts:List Expr)(t:TGs):Prop:=
 ∀(pins:List (Addr×Obj)) (s:Shared) (σ:St) (H:Hp) (vs:List V) (us:List Value) (Q:St->Hp->Prop),Inv X pins σ H s->Vals vs us->t vs σ H Q->
  wpAny `Y4 X.A (assignInOrder ((assignEach ts X.env).map (·.2)) us) (λ_ s'=>∃σ' H',Inv X pins σ' H' s'/\Q σ' H') X.xe s
noncomputable abbrev zph:=V->V->V->Hp->(Hp->Prop)->Prop
def zrP(X:Cx)(t:zph):Prop:=
 ∀(pins:List (Addr×Obj)) (s:Shared) (σ:St) (H:Hp) (o i v:V) (ov iv u:Value) (Q:Hp->Prop),Inv X pins σ H s->RelV o ov->RelV i iv->RelV v u->t o i v H Q->
  wpAny `Y4 X.A (setItem ov iv u) (λ_ s'=>∃H',Inv X pins σ H' s'/\Q H') X.xe s
noncomputable def za5(i:Nat):TG:=λv σ H Q=>Q (σ.set i (some v)) H
theorem zlx(hN:X.N.Nodup)(hi:X.N[i]?=some x)(hx:Loc X.env.scope x)(hf:autoParam (X.fn x=true\/X.env.scope.names.lookup x=some .local) t7):PG X (.Name x pos) (za5 i):=by
 intro pins s σ H v u Q I r h
 exact wpAny_assign_Name (zeg I hN hi hx r (λs' I'=>⟨_,H,I',h⟩) hf)
noncomputable def zsJ:TGs:=λvs σ H Q=>vs=[]/\Q σ H
noncomputable def zqo(t:TG)(u:TGs):TGs:=λvs σ H Q=>∃v r,vs=v::r/\t v σ H λσ' H'=>u r σ' H' Q
theorem zpn:PGs X [] zsJ:=by
 intro pins s σ H vs us Q I r h
 obtain⟨e,h⟩:=h
 subst e
 cases r
 exact assignInOrder_nil ⟨σ,H,I,h⟩
theorem zoO{t:TG}{u:TGs}(h1:PG X e t)(h2:PGs X es u)
 (hs:autoParam ((assignEach (e::es) X.env).map (·.2)=assign e X.env::(assignEach es X.env).map (·.2)) u4):PGs X (e::es) (zqo t u):=by
 intro pins s σ H vs us Q I r h
 obtain⟨v,vr,e1,h⟩:=h
 subst e1
 cases r with
 |cons r rr=>
  rw[hs]
  refine assignInOrder_cons (thn (h1 pins s σ H _ _ _ I r h) λ_ s1 zq=>?_)
  obtain⟨σ1,H1,I1,q1⟩:=zq
  exact h2 pins s1 σ1 H1 _ _ Q I1 rr q1
noncomputable def zrJ(K:W.Frag)(n:Nat)(t:TGs):TG:=λv σ H Q=>∃a xs,v= .ref a/\SqT K H a xs/\xs.length=n/\t xs σ H Q
theorem zru{t:TGs}(hc:X.calm=true)(h:PGs X es t)
 (hn:autoParam ((assignEach es X.env).length=n) u4) (hst:autoParam ((assignEach es X.env).findIdx? (·.1)=none) u4):PG X (.Tuple es k pos) (zrJ X.K n t):=by
 intro pins s σ H v u Q I r hw
 obtain⟨a,xs,e1,hq,hl,hw⟩:=hw
 subst e1
 cases r
 obtain⟨its,rv,ht,hz⟩:=I.tuple hq
 refine assign_Tuple_tuple (I.ok.hd hc) ht (by simp[hn,←hl,rv.length]) hst λh' hx=>?_
 have I1:Inv X pins σ H {s with heap:=h'}:=I.kept (t':=s.toks) λb o e=>hx b o (Z1 (X0 e)) e
 exact h pins _ σ H xs _ Q I1 (by simpa using rv) hw
noncomputable def zsp(to ti:TE)(t:zph):TG:=λv σ H Q=>to σ H λo H1=>ti σ H1 λi H2=>t o i v H2 λH3=>Q σ H3
theorem zrG{o i:Expr}{to:TE}{t:zph}(ho:PE X o to)(hi:PE X i ti)(hs:zrP X t)
 (ha:autoParam (∀v,assign (.Subscript o i pos) X.env v=(do
   let ov ←holding [v] (eval o X.env)
   let iv ←holding [v,ov] (eval i X.env)
   standAt pos
   holding [v,ov,iv] (setItem ov iv v)
   release [v,ov,iv] [])) u6):PG X (.Subscript o i pos) (zsp to ti t):=by
 intro pins s σ H v u Q I r h
 rw[ha]
 refine A0 (K3 (thn (ho pins s σ H _ I h) λov s1 zq=>?_))
 obtain⟨x,H1,I1,r1,q1⟩:=zq
 refine A0 (K3 (thn (hi pins s1 σ H1 _ I1 q1) λiv s2 zq=>?_))
 obtain⟨y,H2,I2,r2,q2⟩:=zq
 refine A0 (wpAny_standAt (A0 (K3 (thn (hs pins s2 σ H2 x y v ov iv u _ I2 r1 r2 r q2) λ_ s3 zq=>?_))))
 obtain⟨H3,I3,q3⟩:=zq
 exact wpAny_release ⟨σ,H3,I3,q3⟩
noncomputable def zi2(te:TE)(g:TG):TS:=λD σ H=>te σ H λx H1=>g x σ H1 D.nx
theorem zrm{g:TG}(he:PE X e te)(hg:PG X tg g)(hs:autoParam (swapsWithSole [tg] e pos.line X.env=pure false) u4)(hw:autoParam (swappedStores [tg] e X.env=pure none) u4)
 (h1:autoParam ((assignEach [tg] X.env).map (·.2)=[assign tg X.env]) u4):PS X (.Assign [tg] e pos) (zi2 te g):=by
 intro pins s σ H D I h
 refine wpAny_Assign_stores (thn (he pins s σ H _ I h) λv s1 zq=>?_) hs hw
 obtain⟨x,H1,I1,r1,q1⟩:=zq
 rw[h1]
 exact thn (hg pins s1 σ H1 x v _ I1 r1 q1) λ_ s2 q=>q
theorem znt(hN:X.N.Nodup)(hi:X.N[i]?=some x)(hx:Loc X.env.scope x)(he:PE X e te)(hs:autoParam (swapsWith e (some (.Name x pos')) pos.line X.env=pure false) u4)(hf:autoParam (X.fn x=true\/X.env.scope.names.lookup x=some .local) t7):
 PS X (.Assign [.Name x pos'] e pos) (zi2 te (za5 i)):=by
 intro pins s σ H D I h
 refine wpAny_Assign_Name (thn (he pins s σ H _ I h) λv s1 zq=>?_) hs
 obtain⟨y,H1,I1,r1,q1⟩:=zq
 exact zeg I1 hN hi hx r1 (λs2 I2=>⟨_,H1,I2,q1⟩) hf
noncomputable def zsM(i j:Nat)(ta:TA):TS:=λD σ H=>ta σ H λvs H1=>∃v w,vs=[v,w]/\D.nx ((σ.set i (some v)).set j (some w)) H1
theorem zrC{a b:Expr}{kt k2 pt2}(hc:X.calm=true)(hN:X.N.Nodup)(hi:X.N[i]?=some x)(hj:X.N[j]?=some y)(hij:i≠j)
 (hx:X.env.scope.names.lookup x=some .local) (hy:X.env.scope.names.lookup y=some .local) (ha:PA X [a,b] ta)
 (hw:swappedStores [.Tuple [.Name x px, .Name y py] kt pt] (.Tuple [a,b] k2 pt2) X.env=pure (some [x,y]))
 (hs:autoParam (swapsWithSole [.Tuple [.Name x px, .Name y py] kt pt] (.Tuple [a,b] k2 pt2) pos.line X.env=pure false) u4):
 PS X (.Assign [.Tuple [.Name x px, .Name y py] kt pt] (.Tuple [a,b] k2 pt2) pos) (zsM i j ta):=by
 intro pins s σ H D I h
 rw[exec_Assign_arm]
 refine A0 (wpAny_standAt ?_)
 rw[hs]
 refine A0 (D0 ?_)
 rw[Y0 ⋯]
 refine A0 (Tuple_ (thn (ha _ pins s σ H _ I h) λus s1 zq=>?_))
 obtain⟨vs,H1,I1,r1,q1⟩:=zq
 obtain⟨v,w,e1,q1⟩:=q1
 subst e1
 obtain⟨u1,u2,rfl,rv,rw'⟩:∃u1 u2,us=[u1,u2]/\RelV v u1/\RelV w u2:=by
  cases r1 with
  |cons p q=>
   cases q with
   |cons p' q'=>
    cases q'
    exact⟨_,_,rfl,p,p'⟩
 refine V2 ?_ (by show 2<=sizeLine;decide)
 have I2:Inv X pins σ H1 {s1 with heap:=s1.heap.push {cls:= .type "tuple",data:= .seq [u1,u2].toArray}}:=I1.kept (t':=s1.toks) λb o e=>C0 _ e
 rw[hw]
 refine A0 (D0 ?_)
 show wpAny `Y4 X.A (do rule "assign.swapped-stores";let items ←unpackItems (.ref s1.heap.objs.size) 2 none;assignInOrder [λv=>bindName X.env y v,λv=>bindName X.env x v] items.reverse;pure Flow.next) _ _ _
 refine A0 (wpAny_rule (A0 (unpackItems_tuple (items:= #[u1,u2]) (I.ok.hd hc) (IsTup.new s1.heap _) λh' hx'=>?_)))
 have I3:=I2.kept (h':=h') (t':=s1.toks) λb o e=>hx' b o (Z1 (X0 e)) e
 show wpAny _ _ (assignInOrder [λv=>bindName X.env y v,λv=>bindName X.env x v] [u2,u1]>>=λ_=>pure Flow.next) _ _ _
 refine A0 (assignInOrder_cons (wpAny_bindName (zeg I3 hN hj (.inl hy) rw' (λs2 I4=>?_) (.inr hy))))
 refine assignInOrder_cons (wpAny_bindName (zeg I4 hN hi (.inl hx) rv (λs3 I5=>assignInOrder_nil (D0 ?_)) (.inr hx)))
 rw[List.set_comm _ _ (Ne.symm hij)] at I5
 exact⟨_,H1,I5,q1⟩
structure It where
 go:Nat->Hp->Prop
 yld:Nat->Hp->V->Hp->Prop
 stop:Nat->Hp->Prop
variable{J:It}
def zfa(X:Cx)(pins:List (Addr×Obj))(H:Hp)(b:Addr):Prop:=
 H b=none/\b≠X.env.locals/\b∉X.fs/\(b∈X.ex\/X.s₀.heap.objs.size<=b)/\(∀x c,X.env.cells.lookup x=some c->c≠b)/\∀p∈X.pn ++pins,p.1≠b
theorem Inv.fpOk{b:Addr}(I:Inv X pins σ H s)(hb:s.heap.objs.size<=b)(hn:H' b=none):zfa X pins H' b:=by
 refine⟨hn,Nat.ne_of_gt (E2 I.lt hb),I.nofs hb, .inr (J1 I.sz hb),λx c e z=>?_,λp hp z=>?_⟩
 ·obtain ⟨v,q⟩:=I.cell x c e
  exact absurd (E2 q.lt (by rw[z];exact hb)) (R3 _)
 ·exact absurd (E2 (X0 (I.pin p hp).1) (by rw[z];exact hb)) (R3 _)
structure Turn(P:Program)(w:World)(K:W.Frag)(tg:Expr)(J:It)(fp:List Addr)(it:Addr)(tn:Nat->Heap->Prop):Prop where
 mem:it∈fp
 obj:∀i h,tn i h->∀b∈fp,∃o,h.get? b=some o/\∀v,o.data≠ .cell v
 keep:∀i h h',tn i h->(∀b∈fp,∀o,h.get? b=some o->h'.get? b=some o)->tn i h'
 item:∀(X:Cx),X.prog=P->X.w=w->X.K=K->X.calm=true->∀(i:Nat) (pins:List (Addr×Obj)) (s:Shared) (σ:St) (H:Hp) (E:Value->Shared->Prop),Inv X pins σ H s->(∀b∈fp,zfa X pins H b)->tn i s.heap->J.go i H->
  wpAny (model P w) X.A (pyNext (.ref it)) (λr s1=>∃u,r=some u/\
   wpAny (model P w) X.A (letOwnedTupleGo tg (.ref it) u) (λ_ s2=>∃x H',Inv X pins σ H' s2/\RelV x u/\J.yld i H x H'/\tn (i+1) s2.heap/\∀b∈fp,H' b=none) E s1) E s
 done:∀(X:Cx),X.prog=P->X.w=w->X.K=K->X.calm=true->∀(i:Nat) (pins:List (Addr×Obj)) (s:Shared) (σ:St) (H:Hp) (E:Value->Shared->Prop),Inv X pins σ H s->(∀b∈fp,zfa X pins H b)->tn i s.heap->J.stop i H->
   wpAny (model P w) X.A (pyNext (.ref it)) (λr s1=>r=none/\Inv X pins σ H s1) E s
 self:∀(A:Around) (i:Nat) (s:Shared) (Q:Value->Shared->Prop) (E:Value->Shared->Prop),tn i s.heap->Q (.ref it) s->wpAny (model P w) A (pyIter (.ref it)) Q E s
noncomputable abbrev TI:=St->Hp->(It->Hp->Prop)->Prop
variable{wi wi2:TI}
def PIE(X:Cx)(pins:List (Addr×Obj))(σ:St)(tg:Expr)(R:It->Hp->Prop)(itv:Value)(s2:Shared):Prop:=
 ∃(it:Addr) (fp:List Addr) (tn:Nat->Heap->Prop) (J:It) (H':Hp),itv= .ref it/\Inv X pins σ H' s2/\Turn X.prog X.w X.K tg J fp it tn/\tn 0 s2.heap/\(∀b∈fp,zfa X pins H' b)/\R J H'
def PI(X:Cx)(tg iter:Expr)(wi:TI):Prop:=
 ∀(pins:List (Addr×Obj)) (s:Shared) (σ:St) (H:Hp) (R:It->Hp->Prop),Inv X pins σ H s->wi σ H R->
  wpAny `Y4 X.A (eval iter X.env) (λv s1=>wpAny `Y4 X.A (pyIter v) (PIE X pins σ tg R) X.xe s1) X.xe s
theorem zhg{o:Obj}{n:String}{vs:Array Value}{Q:Unit->Shared->Prop}(ho:s.heap.get? it=some o)(hc:o.cls= .type n)(hd:o.data= .fields vs)
 (hn:["enumerate","zip","dict_itemiterator","dict_reverseitemiterator","odict_iterator","itertools.zip_longest","itertools.pairwise"].contains n=false) (hQ:Q Unit.unit s):wpAny M A (letOwnedTupleGo tg (.ref it) u) Q E s:=by
 unfold letOwnedTupleGo
 cases tg<;>first
  |exact D0 hQ
  |(cases u<;>first
     |exact D0 hQ
     |(refine A0 (wpAny_load ho ?_)
       rw[hc,hd]
       show wpAny M A (if(["enumerate","zip","dict_itemiterator","dict_reverseitemiterator","odict_iterator","itertools.zip_longest","itertools.pairwise"].contains n&&vs[0]?==some (rawInt _))=true then _ else _) Q E s
       rw[Y0 (by intro h;rw[hn,Bool.false_and] at h;cases h)]
       exact D0 hQ))
noncomputable def Itl(K:W.Frag)(a:Addr):It:=
 ⟨λi H=>∃xs x,SqL K H a xs/\xs[i]?=some x,λi H x H'=>H'=H/\∀xs,SqL K H a xs->xs[i]?=some x,λi H=>∃xs,SqL K H a xs/\xs.length<=i⟩
noncomputable def Itt(K:W.Frag)(a:Addr):It:=
 ⟨λi H=>∃xs x,SqT K H a xs/\xs[i]?=some x,λi H x H'=>H'=H/\∀xs,SqT K H a xs->xs[i]?=some x,λi H=>∃xs,SqT K H a xs/\xs.length<=i⟩
noncomputable def Itr(lo:Int)(n:Nat):It:=⟨λi _=>i<n,λi H x H'=>H'=H/\x= .int (lo+i),λi _=>n<=i⟩
theorem zmV(a it:Addr):Turn P w K tg (Itl K a) [it] it (λi h=>h.IsListIter it a i) where
 mem:=`n3
 obj:=λi h st b hb=>by
  have e:b=it:=by simpa using hb
  subst e
  obtain⟨o,e,c,d⟩:=st
  exact⟨o,e,λv z=>by rw[d] at z;cases z⟩
 keep:=λi h h' st k=>st.at λo e=>k it `n3 o e
 item:=by
  intro X hP hw hK hc i pins s σ H E I hf st hg
  subst hP hw hK
  obtain⟨xs,x,hq,hx⟩:=hg
  obtain⟨its,rv,p,hz⟩:=I.list hq
  obtain⟨u,hu,ru⟩:=rv.get hx
  obtain⟨f0,f1,f2,f3,f4,f5⟩:=hf it `n3
  refine wpAny_pyNext_list_item st p.isList (x:=u) (by simpa using hu) λh' st' sb=>?_
  have I1:Inv X pins σ H {s with heap:=h'}:=I.turned (t':=s.toks) (λb o hb e=>(sb.2 b hb).trans e) f0 f1 f3 f4 f5
  obtain⟨o,e,c,d⟩:=id st'
  exact⟨u,rfl,zhg (s:={s with heap:=h'}) e c d ⋯ ⟨x,H,I1,ru,⟨rfl,λys hy=>by rw[I.list_inj hy hq];exact hx⟩,st',λb hb=>(hf b hb).1⟩⟩
 done:=by
   intro X hP hw hK hc i pins s σ H E I hf st hg
   subst hP hw hK
   obtain⟨xs,hq,hx⟩:=hg
   obtain⟨its,rv,p,hz⟩:=I.list hq
   obtain⟨f0,f1,f2,f3,f4,f5⟩:=hf it `n3
   have hl:=rv.length
   exact wpAny_pyNext_list_end (I.ok.hd hc) st p.isList (by simp;lia) λh' eb=>⟨rfl,I.turned (t':=s.toks) (λb o hb e=>eb b o hb e) f0 f1 f3 f4 f5⟩
 self:=λ_ _ _ _ _ st h=>wpAny_pyIter_listiter st h
theorem zkt(a it:Addr):Turn P w K tg (Itt K a) [it] it (λi h=>h.IsTupleIter it a i) where
 mem:=`n3
 obj:=λi h st b hb=>by
  have e:b=it:=by simpa using hb
  subst e
  obtain⟨o,e,c,d⟩:=st
  exact⟨o,e,λv z=>by rw[d] at z;cases z⟩
 keep:=λi h h' st k=>st.at λo e=>k it `n3 o e
 item:=by
  intro X hP hw hK hc i pins s σ H E I hf st hg
  subst hP hw hK
  obtain⟨xs,x,hq,hx⟩:=hg
  obtain⟨its,rv,p,hz⟩:=I.tuple hq
  obtain⟨u,hu,ru⟩:=rv.get hx
  obtain⟨f0,f1,f2,f3,f4,f5⟩:=hf it `n3
  refine wpAny_pyNext_tuple_item st (show s.heap.IsTuple a its.toArray from p) (x:=u) (by simpa using hu) λh' st' sb=>?_
  have I1:Inv X pins σ H {s with heap:=h'}:=I.turned (t':=s.toks) (λb o hb e=>(sb.2 b hb).trans e) f0 f1 f3 f4 f5
  obtain⟨o,e,c,d⟩:=id st'
  exact⟨u,rfl,zhg (s:={s with heap:=h'}) e c d ⋯ ⟨x,H,I1,ru,⟨rfl,λys hy=>by rw[I.tuple_inj hy hq];exact hx⟩,st',λb hb=>(hf b hb).1⟩⟩
 done:=by
   intro X hP hw hK hc i pins s σ H E I hf st hg
   subst hP hw hK
   obtain⟨xs,hq,hx⟩:=hg
   obtain⟨its,rv,p,hz⟩:=I.tuple hq
   obtain⟨f0,f1,f2,f3,f4,f5⟩:=hf it `n3
   have hl:=rv.length
   exact wpAny_pyNext_tuple_end (I.ok.hd hc) st (show s.heap.IsTuple a its.toArray from p) (by simp;lia) λh' eb=>⟨rfl,I.turned (t':=s.toks) (λb o hb e=>eb b o hb e) f0 f1 f3 f4 f5⟩
 self:=λ_ _ _ _ _ st h=>wpAny_pyIter_tupleiter st h
theorem zkV(it:Addr)(lo:Int)(n:Nat):Turn P w K tg (Itr lo n) [it] it (λi h=>IsRangeIter h it (lo+(i:Nat)*1) ((n:Int) -(i:Nat)) 1) where
 mem:=`n3
 obj:=λi h st b hb=>by
  have e:b=it:=by simpa using hb
  subst e
  exact⟨_,st,λv z=>by
   have z':Data.fields _=Data.cell v:=z
   cases z'⟩
 keep:=λi h h' st k=>k it `n3 _ st
 item:=by
  intro X hP hw hK hc i pins s σ H E I hf st hg
  subst hP hw hK
  obtain⟨f0,f1,f2,f3,f4,f5⟩:=hf it `n3
  have W:=Walks.range (prog:=X.prog) (w:=X.w) (I.ok.hd hc) it lo 1 n
  refine W.item i s _ _ hg st λv h' tk hv st' kk=>?_
  obtain⟨t,rfl⟩:=hv
  have I1:Inv X pins σ H {s with heap:=h',toks:=tk}:=I.turned (λb o hb e=>kk b o (by simpa using hb) e) f0 f1 f3 f4 f5
  refine⟨_,rfl,zhg (s:={s with heap:=h',toks:=tk}) (n:="range_iterator") st' rfl rfl ⋯ ⟨.int (lo+i),H,I1,⟨t,?_⟩,⟨rfl,rfl⟩,st',λb hb=>(hf b hb).1⟩⟩
  rw[Int.mul_one]
 done:=by
   intro X hP hw hK hc i pins s σ H E I hf st hg
   subst hP hw hK
   obtain⟨f0,f1,f2,f3,f4,f5⟩:=hf it `n3
   exact wpAny_pyNext_range_end (I.ok.hd hc) st (by have:n<=i:=hg;lia) λh' eb=>⟨rfl,I.turned (t':=s.toks) (λb o hb e=>eb b o hb e) f0 f1 f3 f4 f5⟩
 self:=λ_ _ _ _ _ st h=>wpAny_pyIter_rangeiter st h
noncomputable def zm0(K:W.Frag)(tl:TE):TI:=λσ H R=>tl σ H λx H1=>∃a,x= .ref a/\(∃xs,SqL K H1 a xs)/\R (Itl K a) H1
noncomputable def zrt(K:W.Frag)(tl:TE):TI:=λσ H R=>tl σ H λx H1=>∃a,x= .ref a/\(∃xs,SqT K H1 a xs)/\R (Itt K a) H1
theorem zpY{l:Expr}(hl:PE X l tl):PI X tg l (zm0 X.K tl):=by
 intro pins s σ H R I h
 refine thn (hl pins s σ H _ I h) λv s1 zq=>?_
 obtain⟨x,H1,I1,r1,q1⟩:=zq
 obtain⟨a,e,⟨xs,hq⟩,q⟩:=q1
 subst e
 cases r1
 obtain⟨its,rv,p,hz⟩:=I1.list hq
 refine wpAny_pyIter_list p.isList ?_
 refine⟨s1.heap.objs.size,[s1.heap.objs.size],_,_,H1,rfl,I1.kept (t':=s1.toks) λb o e=>C0 _ e,zmV a _,⟨_,Q0 _ rfl,rfl,rfl⟩,λb hb=>?_,q⟩
 have e:b=s1.heap.objs.size:=by simpa using hb
 subst e
 exact I1.fpOk (O0 _) (I1.hok.fresh (O0 _))
theorem zrL{l:Expr}(hl:PE X l tl):PI X tg l (zrt X.K tl):=by
 intro pins s σ H R I h
 refine thn (hl pins s σ H _ I h) λv s1 zq=>?_
 obtain⟨x,H1,I1,r1,q1⟩:=zq
 obtain⟨a,e,⟨xs,hq⟩,q⟩:=q1
 subst e
 cases r1
 obtain⟨its,rv,p,hz⟩:=I1.tuple hq
 refine wpAny_pyIter_tuple (show s1.heap.IsTuple a its.toArray from p) ?_
 refine⟨s1.heap.objs.size,[s1.heap.objs.size],_,_,H1,rfl,I1.kept (t':=s1.toks) λb o e=>C0 _ e,zkt a _,⟨_,Q0 _ rfl,rfl,rfl⟩,λb hb=>?_,q⟩
 have e:b=s1.heap.objs.size:=by simpa using hb
 subst e
 exact I1.fpOk (O0 _) (I1.hok.fresh (O0 _))
theorem zjv{R:It->Hp->Prop}{lo hi:Int}{t u v:Tok}{tk:Nat}(I:Inv X pins σ H s)(h1: -(2^62)<=lo)(h2:lo<2^62)(h3: -(2^62)<=hi)(h4:hi<2^62)
 (q:R (Itr lo (hi -lo).toNat) H):wpAny `Y4 X.A (pyIter (.ref s.heap.objs.size)) (PIE X pins σ tg R) E {s with heap:=s.heap.push {cls:= .type "range",data:= .fields #[.int lo t, .int hi u, .int 1 v]},toks:=tk}:=by
 refine wpAny_pyIter_range (IsRange.new ..) (small_one h1 h2 h3 h4) ?_
 have I1:Inv X pins σ H {s with heap:=s.heap.push {cls:= .type "range",data:= .fields #[.int lo t, .int hi u, .int 1 v]},toks:=tk}:=I.kept λb o e=>C0 _ e
 refine⟨(s.heap.push {cls:= .type "range",data:= .fields #[.int lo t, .int hi u, .int 1 v]}).objs.size,[(s.heap.push {cls:= .type "range",data:= .fields #[.int lo t, .int hi u, .int 1 v]}).objs.size],_,_,H,rfl,
  I1.kept (t':=tk) λb o e=>C0 _ e,zkV _ lo (hi -lo).toNat,?_,λb hb=>?_,q⟩
 ·have e1:lo+((0:Nat):Int)*1=lo:=`n3
  have e2:(((hi -lo).toNat:Nat):Int) -((0:Nat):Int)=Builtin.Range.rangeSize lo hi 1:=by rw[rangeSize_one];split<;>lia
  show IsRangeIter _ _ (lo+((0:Nat):Int)*1) ((((hi -lo).toNat:Nat):Int) -((0:Nat):Int)) 1
  rw[e1,e2]
  exact Q0 _ rfl
 ·have e:b=(s.heap.push {cls:= .type "range",data:= .fields #[.int lo t, .int hi u, .int 1 v]}).objs.size:=by simpa using hb
  subst e
  exact I1.fpOk (O0 _) (I1.hok.fresh (O0 _))
noncomputable def zqy(ta:TA):TI:=λσ H R=>ta σ H λvs H1=>∃j:Int,vs=[.int j]/\-(2^62)<=j/\j<2^62/\R (Itr 0 j.toNat) H1
noncomputable def zqv(ta:TA):TI:=λσ H R=>ta σ H λvs H1=>∃i j:Int,vs=[.int i, .int j]/\(-(2^62)<=i/\i<2^62/\-(2^62)<=j/\j<2^62)/\R (Itr i (j -i).toNat) H1
theorem zml{a:Expr}{p:Pos}(hg:Gl X "range")(hm:X.mg "range"=none)(ha:PA X [a] ta)(hs:autoParam (starEach [a] X.env=[(false,eval a X.env)]) u4):PI X tg (.Call (.Name "range" p) [a] [] pos) (zqy ta):=by
 intro pins s σ H R I h
 refine Call_ (zc9 I hg hm boot_range (PyProof.Rows.callWith_type1 (thn (ha pos pins s σ H _ I h) λus s1 zq=>?_) hs rfl))
 obtain⟨vs,H1,I1,r1,q1⟩:=zq
 obtain⟨j,e,q1,q2,q⟩:=q1
 subst e
 cases r1 with
 |cons r rr=>
  cases rr
  obtain⟨t,rfl⟩:=r
  exact call_range_1 (zjv I1 () () q1 q2 (by simpa using q))
theorem zmT{a b:Expr}{p:Pos}(hg:Gl X "range")(hm:X.mg "range"=none)(ha:PA X [a,b] ta)(hs:autoParam (starEach [a,b] X.env=[(false,eval a X.env),(false,eval b X.env)]) u4)(hs2:autoParam (starEach [b] X.env=[(false,eval b X.env)]) u4):
 PI X tg (.Call (.Name "range" p) [a,b] [] pos) (zqv ta):=by
 intro pins s σ H R I h
 refine Call_ (zc9 I hg hm boot_range (PyProof.Rows.callWith_type1 (thn (ha pos pins s σ H _ I h) λus s1 ⟨vs,H1,I1,r1,q1⟩=>?_) (by rw[hs,hs2]) (by rw[hs2];rfl)))
 obtain⟨i,j,e,⟨q1,q2,q3,q4⟩,q⟩:=q1
 subst e
 cases r1 with
 |cons r rr=>
  cases rr with
  |cons r' rr=>
   cases rr
   obtain⟨t,rfl⟩:=r
   obtain⟨t',rfl⟩:=r'
   exact call_range_2 (zjv I1 q1 q2 q3 q4 q)
noncomputable def zsT(wi:TI)(g:TG)(tb:TS):TS:=λD σ H=>wi σ H λJ H1=>∃W:Nat->Nat->St->Hp->Prop,(∃m,W 0 m σ H1)/\∀i m σ H,W i m σ H->
 (J.stop i H/\D.nx σ H)\/(J.go i H/\∃N:St->Hp->Prop,(∀σ' H',N σ' H'->∃m',m'<m/\W (i+1) m' σ' H')/\∀x H',J.yld i H x H'->g x σ H' λσ2 H2=>tb {D with nx:=N,ct:=N,bk:=D.nx} σ2 H2)
noncomputable def zft(fp:List Addr)(h:Heap):List (Addr×Obj):=fp.filterMap λb=>(h.get? b).map λo=>(b,o)
theorem zby{b:Addr}{o:Obj}(hb:b∈fp)(e:h.get? b=some o):(b,o)∈zft fp h:=List.mem_filterMap.mpr ⟨b,hb,by rw[e];rfl⟩
theorem zl1{p:Addr×Obj}(hp:p∈zft fp h):p.1∈fp/\h.get? p.1=some p.2:=by
 obtain⟨b,hb,e⟩:=List.mem_filterMap.mp hp
 cases q:h.get? b with
 |none=>rw[q] at e;cases e
 |some o=>
  rw[q] at e
  have e':(b,o)=p:=U1 e
  subst e'
  exact⟨hb,q⟩
theorem Inv.pinned(I:Inv X pins σ H s)(hf:∀b∈fp,zfa X pins H b)(ho:∀b∈fp,∃o,s.heap.get? b=some o/\∀v,o.data≠ .cell v):Inv X (pins ++zft fp s.heap) σ H s:=
 I.pins_of λp hp=>(X1.mp hp).elim (λz=>I.pin p (O2 _ z)) λz=>by
  obtain⟨hb,e⟩:=zl1 z
  obtain⟨f0,f1,f2,_⟩:=hf p.1 hb
  obtain⟨o,e',d⟩:=ho p.1 hb
  rw[e] at e';cases e'
  exact⟨e,f0,f1,f2,d⟩
theorem Inv.unpinned{pl:List (Addr×Obj)}(I:Inv X (pins ++pl) σ H s):Inv X pins σ H s:=I.pins_of λp hp=>I.pin p (O2 _ (List.mem_append_left _ hp))
theorem zrj{g:TG}(hp:PassesOwn `Y4 X.A X.env X.xe)(hc:X.calm=true)(hi:PI X tg iter wi)(hg:PG X tg g)(hb:PSs X body tb)
 (hs:autoParam (∀x,foldedSetIterable iter X.env x=pure x) u6):PS X (.For tg iter body [] pos) (zsT wi g tb):=by
 intro pins s σ H D I h
 refine wpAny_For (thn (hi pins s σ H _ I h) λv s1 h1=>thn h1 λitv s2 h2=>?_) hs
 obtain⟨it,fp,tn,J,H2,e,I2,T,st2,f2,W,⟨m0,w0⟩,turn⟩:=h2
 subst e
 have stat:∀{H':Hp},(∀b∈fp,H' b=none)->∀b∈fp,zfa X pins H' b:=λhn b hb=>⟨hn b hb,(f2 b hb).2⟩
 refine codeAny_forLoop_any (λn s'=>∃i σ' H',Inv X pins σ' H' s'/\tn i s'.heap/\(∀b∈fp,H' b=none)/\W i n σ' H') ?_ m0 ⟨0,σ,H2,I2,st2,λb hb=>(f2 b hb).1,w0⟩
 rintro n s3 ⟨i,σ3,H3,I3,st3,fr3,w3⟩
 rcases turn i n σ3 H3 w3 with⟨stop,qn⟩|⟨go,N,hN,step⟩
 ·refine wpAny_passesOwn hp (thn (T.done X rfl rfl rfl hc i pins s3 σ3 H3 X.xe I3 (stat fr3) st3 stop) λr s4 zq=>?_)
  obtain⟨hr,I4⟩:=zq
  subst hr
  exact wpAny_execs_nil ⟨σ3,H3,I4,qn⟩
 ·refine wpAny_passesOwn hp (thn (T.item X rfl rfl rfl hc i pins s3 σ3 H3 X.xe I3 (stat fr3) st3 go) λr s4 zq=>?_)
  obtain⟨u,hr,h4⟩:=zq
  subst hr
  refine wpAny_passesOwn hp (thn h4 λ_ s5 zq=>?_)
  obtain⟨x,H5,I5,r5,y5,st5,fr5⟩:=zq
  have I5':=I5.pinned (stat fr5) (T.obj _ _ st5)
  refine wpAny_passesOwn hp (thn (hg _ s5 σ3 H5 x u _ I5' r5 (step x H5 y5)) λ_ s6 zq=>?_)
  obtain⟨σ6,H6,I6,q6⟩:=zq
  refine wpAny_passesOwn hp (thn (hb _ s6 σ6 H6 _ I6 q6) λf s7 q7=>?_)
  have again:∀{σ7:St} {H7:Hp},Inv X (pins ++zft fp s5.heap) σ7 H7 s7->N σ7 H7->∃m,m<n/\∃i σ' H',Inv X pins σ' H' s7/\tn i s7.heap/\(∀b∈fp,H' b=none)/\W i m σ' H':=λ{σ7 H7} I7 n7=>by
   obtain⟨m',hm,w7⟩:=hN σ7 H7 n7
   refine⟨m',hm,i+1,σ7,H7,I7.unpinned,T.keep _ _ _ st5 λb hb o e=>(I7.pin (b,o) (O2 _ (O2 _ (zby hb e)))).1,λb hb=>?_,w7⟩
   obtain⟨o,e,d⟩:=T.obj _ _ st5 b hb
   exact(I7.pin (b,o) (O2 _ (O2 _ (zby hb e)))).2.1
  cases f with
  |next=>obtain ⟨σ7,H7,I7,n7⟩:=q7;exact again I7 n7
  |cont=>obtain ⟨σ7,H7,I7,n7⟩:=q7;exact again I7 n7
  |brk=>obtain ⟨σ7,H7,I7,q7⟩:=q7;exact⟨σ7,H7,I7.unpinned,q7⟩
  |ret v=>obtain ⟨x7,σ7,H7,I7,r7,q7⟩:=q7;exact⟨x7,σ7,H7,I7.unpinned,r7,q7⟩
noncomputable abbrev R2:=V->V->Hp->VK->Prop
variable{r r':R2}
def OpR(X:Cx)(f:Value->Value->Sem Value)(r:R2):Prop:=
 ∀(pins:List (Addr×Obj)) (s:Shared) (σ:St) (H:Hp) (x y:V) (v u:Value) (Q:VK),Inv X pins σ H s->RelV x v->RelV y u->r x y H Q->
  wpAny `Y4 X.A (f v u) (EP X pins σ Q) X.xe s
def UnR(X:Cx)(f:Value->Sem Value)(r:V->Hp->VK->Prop):Prop:=
 ∀(pins:List (Addr×Obj)) (s:Shared) (σ:St) (H:Hp) (x:V) (v:Value) (Q:VK),Inv X pins σ H s->RelV x v->r x H Q->
  wpAny `Y4 X.A (f v) (EP X pins σ Q) X.xe s
def CallR(X:Cx)(f:Value)(r:List V->Hp->VK->Prop):Prop:=
 ∀(pins:List (Addr×Obj)) (s:Shared) (σ:St) (H:Hp) (xs:List V) (us:List Value) (Q:VK),Inv X pins σ H s->Vals xs us->r xs H Q->
  wpAny `Y4 X.A (call f us) (EP X pins σ Q) X.xe s
noncomputable def tOp(r:R2)(ta tb:TE):TE:=λσ H Q=>ta σ H λx H1=>tb σ H1 λy H2=>r x y H2 Q
def tUn(r:V->Hp->VK->Prop)(ta:TE):TE:=λσ H Q=>ta σ H λx H1=>r x H1 Q
def rI(C:Int->Int->Prop)(g:Int->Int->V):R2:=λx y H Q=>∃i j,x= .int i/\y= .int j/\C i j/\Q (g i j) H
noncomputable def rI0(g:Int->Int->V):R2:=λx y H Q=>∃i j,x= .int i/\y= .int j/\Q (g i j) H
def rU(g:Int->V):V->Hp->VK->Prop:=λx H Q=>∃i,x= .int i/\Q (g i) H
section
variable{a b:Expr}{ta tb tc:TE}
theorem zri(ha:PE X a ta)(hb:PE X b tb){R:V->V->Hp->Prop}(I:Inv X pins σ H s)
 (h:ta σ H λx H1=>tb σ H1 λy H2=>R x y H2)  {f:Value->Value->Sem Value}
 (hf:∀v u s2 x y H2,Inv X pins σ H2 s2->RelV x v->RelV y u->R x y H2->wpAny `Y4 X.A (f v u) Q X.xe s2):
 wpAny `Y4 X.A (eval a X.env) (λv s₁=>wpAny `Y4 X.A (eval b X.env) (λu s₂=>wpAny `Y4 X.A (f v u) Q X.xe s₂) X.xe s₁) X.xe s:=by
 refine thn (ha pins s σ H _ I h) λv s1 zq=>?_
 obtain⟨x,H1,I1,r1,q1⟩:=zq
 refine thn (hb pins s1 σ H1 _ I1 q1) λu s2 zq=>?_
 obtain⟨y,H2,I2,r2,q2⟩:=zq
 exact hf v u s2 x y H2 I2 r1 r2 q2
theorem zsh{op:Operator}(ho:OpR X (binaryOp op) r)(ha:PE X a ta)(hb:PE X b tb):PE X (.BinOp a op b pos) (tOp r ta tb):=by
 intro pins s σ H Q I h
 exact wpAny_BinOp (zri ha hb I h λv u s2 x y H2 I2 rx ry q=>ho pins s2 σ H2 x y v u Q I2 rx ry q)
theorem zsl{op:UnaryOp}{r:V->Hp->VK->Prop}(ho:UnR X (unaryOp op) r)(ha:PE X a ta):PE X (.UnaryOp op a pos) (tUn r ta):=by
 intro pins s σ H Q I h
 refine UnaryOp_ (thn (ha pins s σ H _ I h) λv s1 zq=>?_)
 obtain⟨x,H1,I1,r1,q1⟩:=zq
 exact ho pins s1 σ H1 x v Q I1 r1 q1
theorem opI{f:Value->Value->Sem Value}{C:Int->Int->Prop}{g:Int->Int->Int}
 (rule:∀(i j:Int) (t u:Tok) (s:Shared) (Q:Value->Shared->Prop) (E:Value->Shared->Prop),C i j->Q (.int (g i j) s.toks) {s with toks:=s.toks+1}->wpAny `Y4 X.A (f (.int i t) (.int j u)) Q E s):
 OpR X f (rI C λi j=> .int (g i j)):=by
 intro pins s σ H x y v u Q I rx ry h
 obtain⟨i,j,rfl,rfl,hc,q⟩:=h
 obtain⟨t,rfl⟩:=rx
 obtain⟨t',rfl⟩:=ry
 exact rule i j t t' s _ _ hc ⟨.int (g i j),H,I.tok _,⟨_,rfl⟩,q⟩
theorem zss{f:Value->Value->Sem Value}{g:Int->Int->Int}
 (rule:∀(i j:Int) (t u:Tok) (s:Shared) (Q:Value->Shared->Prop) (E:Value->Shared->Prop),Q (.int (g i j) s.toks) {s with toks:=s.toks+1}->wpAny `Y4 X.A (f (.int i t) (.int j u)) Q E s):
 OpR X f (rI0 λi j=> .int (g i j)):=by
 intro pins s σ H x y v u Q I rx ry h
 obtain⟨i,j,rfl,rfl,q⟩:=h
 obtain⟨t,rfl⟩:=rx
 obtain⟨t',rfl⟩:=ry
 exact rule i j t t' s _ _ ⟨.int (g i j),H,I.tok _,⟨_,rfl⟩,q⟩
theorem zpD{f:Value->Value->Sem Value}{g:Int->Int->Bool}
 (rule:∀(i j:Int) (t u:Tok) (s:Shared) (Q:Value->Shared->Prop) (E:Value->Shared->Prop),Q (.bool (g i j)) s->wpAny `Y4 X.A (f (.int i t) (.int j u)) Q E s):
 OpR X f (rI0 λi j=> .bl (g i j)):=by
 intro pins s σ H x y v u Q I rx ry h
 obtain⟨i,j,rfl,rfl,q⟩:=h
 obtain⟨t,rfl⟩:=rx
 obtain⟨t',rfl⟩:=ry
 exact rule i j t t' s _ _ ⟨.bl (g i j),H,I,rfl,q⟩
def ztb(i j:Int):Prop:=0<j/\j<1073741824
def zsS(i j:Int):Prop:=0<=j/\j<=1000000/\i.natAbs<2^64
def CMul(i j:Int):Prop:=(-(2^64)<i/\i<2^64)\/(-(2^64)<j/\j<2^64)
theorem CMul.ok{i j:Int}(h:CMul i j):IntMulOk i j:=by
 rcases h with⟨h1,h2⟩|⟨h1,h2⟩
 ·exact .of_left (intBits_le_64 h1 h2)
 ·exact .of_right (intBits_le_64 h1 h2)
theorem zaU:OpR X (binaryOp .Add) (rI0 λi j=> .int (i+j)):=zss λ_ _ _ _ _ _ _ q=>add_int q
theorem zdG:OpR X (binaryOp .Sub) (rI0 λi j=> .int (i -j)):=zss λ_ _ _ _ _ _ _ q=>sub_int q
theorem zcJ:OpR X (binaryOp .Mult) (rI CMul λi j=> .int (i*j)):=opI λ_ _ _ _ _ _ _ hc q=>mul_int q hc.ok
theorem zgd:OpR X (binaryOp .FloorDiv) (rI ztb λi j=> .int (i/j)):=opI λi j _ _ _ _ _ hc q=>by
 have h1:(0:Int)<j:=hc.1
 have h2:j<1073741824:=hc.2
 exact floordiv_int () (by rw[Int.fdiv_eq_ediv_of_nonneg i ()];exact q) (.inl (PyProof.noPylong_small ()))
theorem zdy:OpR X (binaryOp .Mod) (rI (λ_ j=>0<j) λi j=> .int (i%j)):=opI λi j _ _ _ _ _ hc q=>by
 have h1:(0:Int)<j:=hc
 exact mod_int' () (by rw[Int.fmod_eq_emod_of_nonneg i ()];exact q)
theorem zr3:OpR X (binaryOp .Pow) (rI zsS λi j=> .int (i^j.toNat)):=opI λ_ _ _ _ _ _ _ hc q=>pow_int_small hc.1 hc.2.1 hc.2.2 q
theorem unI{f:Value->Sem Value}{g:Int->Int}
 (rule:∀(i:Int) (t:Tok) (s:Shared) (Q:Value->Shared->Prop) (E:Value->Shared->Prop),Q (.int (g i) s.toks) {s with toks:=s.toks+1}->wpAny `Y4 X.A (f (.int i t)) Q E s):
 UnR X f (rU λi=> .int (g i)):=by
 intro pins s σ H x v Q I rx h
 obtain⟨i,rfl,q⟩:=h
 obtain⟨t,rfl⟩:=rx
 exact rule i t s _ _ ⟨.int (g i),H,I.tok _,⟨_,rfl⟩,q⟩
theorem zcd:UnR X (unaryOp .USub) (rU λi=> .int (-i)):=unI λ_ _ _ _ _ q=>neg_int q
end
noncomputable def zqS:V->V->Bool
 | .non, .non=>true| .non, .int _=>true| .int _, .non=>true| .non, .bl _=>true| .bl _, .non=>true| .non, .str _=>true| .str _, .non=>true
 | .int _, .int _=>true| .bl _, .bl _=>true| .str _, .str _=>true| .byt _, .byt _=>true
 | .int _, .str _=>true| .str _, .int _=>true| .bl _, .str _=>true| .str _, .bl _=>true
 |_,_=>false
noncomputable def rEq:R2:=λx y H Q=>zqS x y=true/\Q (.bl (decide (x=y))) H
noncomputable def rNe:R2:=λx y H Q=>zqS x y=true/\Q (.bl (!decide (x=y))) H
theorem zlb{i j:Int}:decide (V.int i=V.int j)=(i==j):=by
 rw[G2]
 simp
theorem zm4{i j:Bool}:decide (V.bl i=V.bl j)=(i==j):=by
 rw[G2]
 simp
theorem zli{i j:Str}:decide (V.str i=V.str j)=(i==j):=by
 rw[G2]
 simp
theorem zk7{i j:Array UInt8}:decide (V.byt i=V.byt j)=(i.toList==j.toList):=by
 rw[G2]
 cases i
 cases j
 simp
section
variable{a b:Expr}{ta tb tc:TE}
theorem zX{Q:VK}{k k':Bool}(I:Inv X pins σ H s)(q:Q (.bl k) H)(e:k=k'):EP X pins σ Q (.bool k') s:=by
 subst e
 exact⟨.bl k,H,I,rfl,q⟩
theorem zax:OpR X (compareOp .Eq) rEq:=by
 intro pins s σ H x y v u Q I rx ry h
 obtain⟨hs,q⟩:=h
 cases x with
 |non=>
  cases rx
  cases y with
  |non=>cases ry;exact EqNone.eq_none_none (zX I q `n3)
  |bl j=>cases ry;exact EqNone.eq_none_bool (zX I q `n3)
  |int j=>obtain ⟨t',rfl⟩:=ry;exact EqNone.eq_none_int (zX I q `n3)
  |str j=>obtain ⟨t',rfl⟩:=ry;exact EqNone.eq_none_str (zX I q `n3)
  |_=>exact absurd (show false=true from hs) A2
 |bl i=>
  cases rx
  cases y with
  |non=>cases ry;exact EqNone.eq_bool_none (zX I q `n3)
  |bl j=>cases ry;exact eq_bool (zX I q zm4)
  |str j=>obtain ⟨t',rfl⟩:=ry;exact EqMixed.eq_bool_str (zX I q `n3)
  |_=>exact absurd (show false=true from hs) A2
 |int i=>
  obtain⟨t,rfl⟩:=rx
  cases y with
  |non=>cases ry;exact EqNone.eq_int_none (zX I q `n3)
  |int j=>obtain ⟨t',rfl⟩:=ry;exact eq_int (zX I q zlb)
  |str j=>obtain ⟨t',rfl⟩:=ry;exact EqMixed.eq_int_str (zX I q `n3)
  |_=>exact absurd (show false=true from hs) A2
 |str i=>
  obtain⟨t,rfl⟩:=rx
  cases y with
  |non=>cases ry;exact EqNone.eq_str_none (zX I q `n3)
  |bl j=>cases ry;exact EqMixed.eq_str_bool (zX I q `n3)
  |int j=>obtain ⟨t',rfl⟩:=ry;exact EqMixed.eq_str_int (zX I q `n3)
  |str j=>obtain ⟨t',rfl⟩:=ry;exact eq_str (zX I q zli)
  |_=>exact absurd (show false=true from hs) A2
 |byt i=>
  obtain⟨t,rfl⟩:=rx
  cases y with
  |byt j=>obtain ⟨t',rfl⟩:=ry;exact W.eq_bytes (zX I q zk7)
  |_=>exact absurd (show false=true from hs) A2
 |_=>cases y<;>exact absurd (show false=true from hs) A2
theorem zeT:OpR X (compareOp .NotEq) rNe:=by
 intro pins s σ H x y v u Q I rx ry h
 obtain⟨hs,q⟩:=h
 cases x with
 |non=>
  cases rx
  cases y with
  |non=>cases ry;exact EqNone.ne_none_none (zX I q `n3)
  |bl j=>cases ry;exact EqNone.ne_none_bool (zX I q `n3)
  |int j=>obtain ⟨t',rfl⟩:=ry;exact EqNone.ne_none_int (zX I q `n3)
  |str j=>obtain ⟨t',rfl⟩:=ry;exact EqNone.ne_none_str (zX I q `n3)
  |_=>exact absurd (show false=true from hs) A2
 |bl i=>
  cases rx
  cases y with
  |non=>cases ry;exact EqNone.ne_bool_none (zX I q `n3)
  |bl j=>cases ry;exact ne_bool (zX I q (j3 not zm4))
  |str j=>obtain ⟨t',rfl⟩:=ry;exact EqMixed.ne_bool_str (zX I q `n3)
  |_=>exact absurd (show false=true from hs) A2
 |int i=>
  obtain⟨t,rfl⟩:=rx
  cases y with
  |non=>cases ry;exact EqNone.ne_int_none (zX I q `n3)
  |int j=>obtain ⟨t',rfl⟩:=ry;exact ne_int (zX I q (j3 not zlb))
  |str j=>obtain ⟨t',rfl⟩:=ry;exact EqMixed.ne_int_str (zX I q `n3)
  |_=>exact absurd (show false=true from hs) A2
 |str i=>
  obtain⟨t,rfl⟩:=rx
  cases y with
  |non=>cases ry;exact EqNone.ne_str_none (zX I q `n3)
  |bl j=>cases ry;exact EqMixed.ne_str_bool (zX I q `n3)
  |int j=>obtain ⟨t',rfl⟩:=ry;exact EqMixed.ne_str_int (zX I q `n3)
  |str j=>obtain ⟨t',rfl⟩:=ry;exact ne_str (zX I q (j3 not zli))
  |_=>exact absurd (show false=true from hs) A2
 |byt i=>
  obtain⟨t,rfl⟩:=rx
  cases y with
  |byt j=>obtain ⟨t',rfl⟩:=ry;exact W.ne_bytes (zX I q (j3 not zk7))
  |_=>exact absurd (show false=true from hs) A2
 |_=>cases y<;>exact absurd (show false=true from hs) A2
theorem zjq:OpR X (compareOp .Lt) (rI0 λi j=> .bl (decide (i<j))):=zpD λ_ _ _ _ _ _ _ q=>lt_int q
theorem zlF:OpR X (compareOp .LtE) (rI0 λi j=> .bl (decide (i<=j))):=zpD λ_ _ _ _ _ _ _ q=>le_int q
theorem zew:OpR X (compareOp .Gt) (rI0 λi j=> .bl (decide (j<i))):=zpD λ_ _ _ _ _ _ _ q=>gt_int q
theorem zql:OpR X (compareOp .GtE) (rI0 λi j=> .bl (decide (j<=i))):=zpD λ_ _ _ _ _ _ _ q=>ge_int q
theorem zmu:OpR X (compareOp .Lt) (λx y H Q=>∃i j,x= .str i/\y= .str j/\Q (.bl (decide (i.cps.toList<j.cps.toList))) H):=by
 intro pins s σ H x y v u Q I rx ry h
 obtain⟨i,j,rfl,rfl,q⟩:=h
 obtain⟨t,rfl⟩:=rx
 obtain⟨t',rfl⟩:=ry
 exact lt_str (zX I q rfl)
theorem zd4:OpR X (compareOp .Is) (λx y H Q=>y= .non/\Q (.bl (decide (x= .non))) H):=by
 intro pins s σ H x y v u Q I rx ry h
 obtain⟨rfl,q⟩:=h
 cases ry
 refine is_none_gen (zX I q ?_)
 cases x<;>first
  |(cases rx;rfl)
  |(obtain⟨t,rfl⟩:=rx;rfl)
theorem zlK:OpR X (compareOp .IsNot) (λx y H Q=>y= .non/\Q (.bl (!decide (x= .non))) H):=by
 intro pins s σ H x y v u Q I rx ry h
 obtain⟨rfl,q⟩:=h
 cases ry
 refine isnot_none_gen (zX I q ?_)
 cases x<;>first
  |(cases rx;rfl)
  |(obtain⟨t,rfl⟩:=rx;rfl)
theorem OpR.or{f:Value->Value->Sem Value}(h:OpR X f r)(h':OpR X f r'):OpR X f (λx y H Q=>r x y H Q\/r' x y H Q):=by
 intro pins s σ H x y v u Q I rx ry q
 rcases q with q|q
 ·exact h pins s σ H x y v u Q I rx ry q
 ·exact h' pins s σ H x y v u Q I rx ry q
theorem zpm(ho:OpR X (compareOp op) r)(ha:PE X a ta)(hb:PE X b tb)(hm:behindInMarks op b=false):PE X (.Compare a [op] [b] pos) (tOp r ta tb):=by
 intro pins s σ H Q I h
 exact wpAny_Compare1 (zri ha hb I h λv u s2 x y H2 I2 rx ry q=>ho pins s2 σ H2 x y v u Q I2 rx ry q) hm
noncomputable def zlh(t:TE):TT:=λσ H Q=>t σ H λx H'=>∃k,x= .bl k/\Q k H'
theorem zo7(ho:OpR X (compareOp op) r)(ha:PE X a ta)(hb:PE X b tb)(hm:behindInMarks op b=false):PT X (.Compare a [op] [b] pos) (zlh (tOp r ta tb)):=by
 intro pins s σ H Q I h
 refine wpAny_isTrue_Compare1 (thn (ha pins s σ H _ I h) λv s1 ⟨x,H1,I1,r1,q1⟩=>thn (hb pins s1 σ H1 _ I1 q1) λu s2 ⟨y,H2,I2,r2,q2⟩=>
  thn (ho pins s2 σ H2 x y v u _ I2 r1 r2 q2) λc s3 ⟨z,H3,I3,r3,k,e,q3⟩=>?_) hm
 subst e
 cases r3
 exact wpAny_truthy_bool ⟨H3,I3,q3⟩
noncomputable def zie(r r':R2)(ta tb tc:TE):TE:=λσ H Q=>ta σ H λx H1=>tb σ H1 λy H2=>r x y H2 λz H3=>∃k,z= .bl k/\
 (if k=true then tc σ H3 λw' H4=>r' y w' H4 Q else Q (.bl false) H3)
theorem znc(ho:OpR X (compareOp op) r)(ho':OpR X (compareOp op') r')(ha:PE X a ta)(hb:PE X b tb)(hc:PE X c tc)
 (hm:autoParam (lastMarks [op,op'] [b,c]=false) v7):PE X (.Compare a [op,op'] [b,c] pos) (zie r r' ta tb tc):=by
 intro pins s σ H Q I h
 refine Compare_chain (thn (ha pins s σ H _ I h) λv s1 ⟨x,H1,I1,r1,q1⟩=>chain_link (thn (hb pins s1 σ H1 _ I1 q1) λu s2 ⟨y,H2,I2,r2,q2⟩=>
  thn (ho pins s2 σ H2 x y v u _ I2 r1 r2 q2) λd s3 ⟨z,H3,I3,r3,k,e,q3⟩=>?_)) hm
 subst e
 cases r3
 refine wpAny_truthy_bool ?_
 cases k with
 |false=>exact ite_ff ⟨.bl false,H3,I3,rfl,q3⟩
 |true=>exact ite_tt (chain_last (thn (hc pins s3 σ H3 _ I3 q3) λw' s4 ⟨z',H4,I4,r4,q4⟩=>ho' pins s4 σ H4 y z' u w' Q I4 r2 r4 q4))
theorem zoj(ho:OpR X (compareOp op) r)(ho':OpR X (compareOp op') r')(ha:PE X a ta)(hb:PE X b tb)(hc:PE X c tc)
 (hm:autoParam (lastMarks [op,op'] [b,c]=false) v7):PT X (.Compare a [op,op'] [b,c] pos) (zlh (zie r r' ta tb tc)):=by
 intro pins s σ H Q I h
 refine isTrue_chain (thn (ha pins s σ H _ I h) λv s1 ⟨x,H1,I1,r1,q1⟩=>test_link (thn (hb pins s1 σ H1 _ I1 q1) λu s2 ⟨y,H2,I2,r2,q2⟩=>
  thn (ho pins s2 σ H2 x y v u _ I2 r1 r2 q2) λd s3 ⟨z,H3,I3,r3,k,e,q3⟩=>?_)) hm
 subst e
 cases r3
 refine wpAny_truthy_bool ?_
 cases k with
 |false=>
  obtain⟨k',e',q'⟩:=q3
  cases e'
  exact ite_ff ⟨H3,I3,q'⟩
 |true=>
  refine ite_tt (test_last (thn (hc pins s3 σ H3 _ I3 q3) λw' s4 zq=>?_))
  obtain⟨z',H4,I4,r4,q4⟩:=zq
  refine thn (ho' pins s4 σ H4 y z' u w' _ I4 r2 r4 q4) λd' s5 zq1=>?_
  obtain⟨z2,H5,I5,r5,k2,e2,q5⟩:=zq1
  subst e2
  cases r5
  exact wpAny_truthy_bool ⟨H5,I5,q5⟩
theorem zfw:(sizeLine:Nat)<2^63:=by rw[sizeLine_eq];decide
theorem zb7{x:V}(r:Vals [x] us):∃u,us=[u]/\RelV x u:=by
 cases r with
 |cons r1 r2=>cases r2;exact⟨_,rfl,r1⟩
theorem zhh{x y:V}(r:Vals [x,y] us):∃u w',us=[u,w']/\RelV x u/\RelV y w':=by
 cases r with
 |cons r1 r2=>
  cases r2 with
  |cons r3 r4=>cases r4;exact⟨_,_,rfl,r1,r3⟩
theorem zmR(hc:X.calm=true):CallR X (.builtin "max") (λxs H Q=>∃i j,xs=[.int i, .int j]/\Q (.int (if j>i then j else i)) H):=by
 intro pins s σ H xs us Q I r h
 obtain⟨i,j,rfl,q⟩:=h
 obtain⟨u,w',rfl,⟨t,rfl⟩,⟨t',rfl⟩⟩:=zhh r
 refine max_two_ints (I.ok.hd hc) λh' tk k=>⟨_,H,I.kept k,?_,q⟩
 by_cases hj:j>i
 ·rw[E1 hj,E1 hj];exact⟨_,rfl⟩
 ·rw[Y0 hj,Y0 hj];exact⟨_,rfl⟩
theorem zhJ(hc:X.calm=true):CallR X (.builtin "min") (λxs H Q=>∃i j,xs=[.int i, .int j]/\Q (.int (if j<i then j else i)) H):=by
 intro pins s σ H xs us Q I r h
 obtain⟨i,j,rfl,q⟩:=h
 obtain⟨u,w',rfl,⟨t,rfl⟩,⟨t',rfl⟩⟩:=zhh r
 refine min_two_ints (I.ok.hd hc) λh' tk k=>⟨_,H,I.kept k,?_,q⟩
 by_cases hj:j<i
 ·rw[E1 hj,E1 hj];exact⟨_,rfl⟩
 ·rw[Y0 hj,Y0 hj];exact⟨_,rfl⟩
theorem zdo:CallR X (.type "int") (λxs H Q=>(∃i,xs=[.int i]/\Q (.int i) H)\/∃k,xs=[.bl k]/\Q (.int (if k then 1 else 0)) H):=by
 intro pins s σ H xs us Q I r h
 rcases h with⟨i,rfl,q⟩|⟨k,rfl,q⟩
 ·obtain ⟨u,rfl,t,rfl⟩:=zb7 r
  exact call_int_int ⟨.int i,H,I,⟨_,rfl⟩,q⟩
 ·obtain ⟨u,rfl,r1⟩:=zb7 r
  cases r1
  exact call_int_bool ⟨.int (if k then 1 else 0),H,I.tok _,⟨_,rfl⟩,q⟩
end
structure ObjM(h:Heap)(x dx C:Addr)(mA:Str->Option Value):Prop where
 obj:h.get? x=some (W.instObj C dx)
 ns:h.Ns1 dx mA
 ne:dx≠x
theorem zmD(n:h.Ns1 dx mA):∃od,h.get? dx=some od/\∀name,W.lookIn name od=some (mA name):=by
 obtain⟨o,es,ep,ho,hd,hk,_,hm⟩:=n
 refine⟨o,ho,λname=>?_⟩
 have e:=hm name
 unfold nsFind findBy at e
 rw[←Array.find?_toList] at e
 unfold W.lookIn
 rw[hd]
 dsimp only
 split
 ·rename_i y q
  rw[q] at e
  exact j3 some e
 ·rename_i q
  rw[q] at e
  have a:es.toList.any (·.refKey)=false:=by
   rw[List.any_eq_false]
   intro y hy
   obtain⟨z,t,hkey⟩:=hk y (Array.mem_toList_iff.mp hy)
   simp[DictEntry.refKey,hkey]
  have a':¬es.toList.any (·.refKey)=true:=by rw[a];exact A2
  rw[Y0 a']
  exact j3 some e
theorem ObjM.look{x:Addr}(I:ObjM h x dx C mA):∃od,W.InstAt h x (W.instObj C dx) C (some od)/\∀name,W.lookIn name od=some (mA name):=
 let⟨od,ho,hl⟩:=zmD I.ns
 ⟨od,⟨I.obj,rfl,rfl,ho⟩,hl⟩
section
variable{x:Addr}{v:Value}
end
section
variable{fs fs':List (Str×V)}
theorem zo5(hok:HOk P w H h)(e:H a=some (.ins C dx fs)):∃mA,ObjM h a dx C mA/\(∀f,RelO (fs.lookup f) (mA f))/\PySem.Within mA (fs.map (·.1))/\fs.length<=1000/\H dx=some (.own a):=by
 obtain⟨d,z,ne,ob,mA,n,r,q⟩:=(show ObjOk P w H h a (.ins C dx fs)from hok a _ e)
 exact⟨mA,⟨ob,n,ne⟩,r,q,z,d⟩
end
structure Cls(K:W.Frag)(C:Addr):Prop where
 pg:W.plainGet K C Str.empty=true
 hd:W.hasDictIn K C=true
 po:W.plainOver K C=true
 sa:W.findIn K (.ref C) "__setattr__"=some (some (.builtin "object.__setattr__"))
variable{sa:TS}
theorem Cls.get(c:Cls K C)(f:Str):W.plainGet K C f=true:=c.pg
structure Con(K:W.Frag)(C:Addr)(f:Str)(v:V)(u:Value):Prop where
 at_:W.findIn K (.ref C) f=some (some u)
 rel:RelV v u
 get:W.specialIn K u "__get__"=some none
 cp:W.copiedNames.contains f=false
structure Meth(K:W.Frag)(C:Addr)(m:Str)(f:Addr):Prop where
 at_:W.findIn K (.ref C) m=some (some (.ref f))
 fn:W.isFn K (.ref f)=true
 kp:W.keepIn K (.ref f)=true
section
variable{fs:List (Str×V)}{f:Str}
end
section
variable{o:Expr}{f:Str}{ta:TE}
end
section
variable{c:Value}{b:Bool}
inductive TyOf(K:W.Frag)(H:Hp):V->Value->Prop where
 |non:TyOf K H .non (.type "NoneType")
 |bl (x:Bool):TyOf K H (.bl x) (.type "bool")
 |int (i:Int):TyOf K H (.int i) (.type "int")
 |str (x:Str):TyOf K H (.str x) (.type "str")
 |flt (x:UInt64):TyOf K H (.flt x) (.type "float")
 |lst {a:Addr} {xs:List V} (e:H a=some (.lst xs)):TyOf K H (.ref a) (.type "list")
 |frz {a:Addr} {o:Obj} {xs:List V} (e:H a=some (.frz o (.lst xs))):TyOf K H (.ref a) (.type "list")
 |tup {a:Addr} {xs:List V} (e:H a=some (.tup xs)):TyOf K H (.ref a) (.type "tuple")
 |dK {a:Addr} {kvs:List (Key×V)} (e:H a=some (.dK kvs)):TyOf K H (.ref a) (.type "dict")
 |dT {a:Addr} {kvs:List (List Key×V)} (e:H a=some (.dT kvs)):TyOf K H (.ref a) (.type "dict")
 |ins {a C dx:Addr} {fs:List (Str×V)} (e:H a=some (.ins C dx fs)) (cl:Cls K C) (ha:W.findIn K (.ref C) "__class__"=some (some (.builtin "object.__class__")))
   (hn:W.specialIn K (.builtin "object.__class__") "__get__"=some (some (.builtin "getset_descriptor.__get__"))) (htk:W.takesIn K (.builtin "object.__class__")=some true)
   (hm:W.mroIn K C (.type "object")=some true):TyOf K H (.ref a) (.ref C)
theorem zl2{x:V}{t:Value}(I:Inv X pins σ H s)(rx:RelV x u)(ty:TyOf X.K H x t)(e:W.kitOne X.K t c=some b)(h:∀tk,Q (.bool b) {s with toks:=tk}):
 wpAny `Y4 A (call (.builtin "isinstance") [u,c]) Q E s:=by
 cases ty with
 |non=>cases (show u=Value.none from rx);exact W.kia_one W.kitx_none I.kIn True.intro e (λz=>nomatch z) h
 |bl y=>cases (show u=Value.bool y from rx);exact W.kia_one W.kitx_bool I.kIn True.intro e (λz=>nomatch z) h
 |int i=>obtain ⟨t,q⟩:=(show∃t,u=Value.int i t from rx);cases q;exact W.kia_one W.kitx_int I.kIn True.intro e (λz=>nomatch z) h
 |str y=>obtain ⟨t,q⟩:=(show∃t,u=Value.str y t from rx);cases q;exact W.kia_one W.kitx_str I.kIn True.intro e (λz=>nomatch z) h
 |flt y=>obtain ⟨t,q⟩:=(show∃t,u=Value.float y t from rx);cases q;exact W.kia_one W.kitx_float I.kIn True.intro e (λz=>nomatch z) h
 | @lst a xs ea=>
   cases(show u=Value.ref a from rx)
   obtain⟨_,_,n,_,h1⟩:=(show ObjOk X.prog X.w H s.heap a (.lst xs)from I.hok a _ ea)
   exact W.kia_one W.kitx_list I.kIn ⟨_,h1,rfl⟩ e (λz=>nomatch z) h
 | @frz a ob xs ea=>
   cases(show u=Value.ref a from rx)
   obtain⟨_,_,_,n,_,h1⟩:=(show ObjOk X.prog X.w H s.heap a (.frz ob (.lst xs))from I.hok a _ ea)
   exact W.kia_one W.kitx_list I.kIn ⟨_,h1,rfl⟩ e (λz=>nomatch z) h
 | @tup a xs ea=>
   cases(show u=Value.ref a from rx)
   obtain⟨_,_,_,p,_⟩:=(show ObjOk X.prog X.w H s.heap a (.tup xs)from I.hok a _ ea)
   obtain⟨o,h1,h2,_⟩:=p
   exact W.kia_one W.kitx_tuple I.kIn ⟨o,h1,h2⟩ e (λz=>nomatch z) h
 | @dK a kvs ea=>
   cases(show u=Value.ref a from rx)
   obtain⟨_,_,vs,_,p⟩:=(show ObjOk X.prog X.w H s.heap a (.dK kvs)from I.hok a _ ea)
   obtain⟨o,es,ep,h1,h2,_⟩:=p
   exact W.kia_one W.kitx_dict I.kIn ⟨o,h1,h2.1⟩ e (λz=>nomatch z) h
 | @dT a kvs ea=>
   cases(show u=Value.ref a from rx)
   obtain⟨_,_,xs,_,o,es,ep,h1,h2,_⟩:=(show ObjOk X.prog X.w H s.heap a (.dT kvs)from I.hok a _ ea)
   exact W.kia_one W.kitx_dict I.kIn ⟨o,h1,h2.1⟩ e (λz=>nomatch z) h
 | @ins a C dx fs ea cl ha hn htk hm=>
   cases(show u=Value.ref a from rx)
   obtain⟨mA,O,_⟩:=zo5 I.hok ea
   obtain⟨od,J,_⟩:=O.look
   exact W.kia_one (W.kitx_own (cl.get _) cl.hd ha hn htk hm) I.kIn J e (λz=>nomatch z) h
end
structure Room(k:Nat)(A:Around):Prop where
 hd:A.handled=none
 dp:A.depth+3*k+5<recursionLimit
 un:A.units+16*k+200<cLine
 gd:A.guards=some []
theorem Room.mono(r:Room k A)(h:j<=k):Room j A:=⟨r.hd,by have:=r.dp;lia,by have:=r.un;lia,r.gd⟩
theorem Room.deeper(r:Room (k+1) A)(env:Env):Room k (A.deeper env):=
 ⟨r.hd,by have:=r.dp;show A.depth+1+3*k+5<_;lia,by have:=r.un;show A.units+3+16*k+200<_;lia,r.gd⟩
theorem Room.depth(r:Room k A):A.depth<recursionLimit:=by have:=r.dp;lia
theorem Room.units(r:Room k A):A.units+64<cLine:=by have:=r.un;lia
theorem Room.units0(r:Room k A):A.units<cLine:=by have:=r.un;lia
noncomputable def zhX:TA:=λ_ H Q=>Q [] H
noncomputable def zfN(ta:TE)(tr:TA):TA:=λσ H Q=>ta σ H λx H1=>tr σ H1 λxs H2=>Q (x::xs) H2
section
variable{t:TA}
theorem zn5:PA X [] zhX:=λ_ _ _ _ H Q I h=>Calls.spliced_nil ⟨[],H,I, .nil,h⟩
theorem zlI(ha:PE X e te)(hr:PA X es t)(hs:autoParam (starEach (e::es) X.env=(false,eval e X.env)::starEach es X.env) u4):PA X (e::es) (zfN te t):=by
 intro pos pins s σ H Q I h
 rw[hs]
 show wpAny _ _ (spliced ((false,eval e X.env)::backTo pos (starEach es X.env))) _ _ s
 refine Calls.spliced_cons (thn (ha pins s σ H _ I h) λu s1 zq=>?_)
 obtain⟨x,H1,I1,r1,q1⟩:=zq
 refine thn (hr pos pins s1 σ H1 _ I1 q1) λus s2 zq=>?_
 obtain⟨xs,H2,I2,r2,q2⟩:=zq
 exact⟨x::xs,H2,I2, .cons r1 r2,q2⟩
noncomputable def zqZ(t:TA):TE:=λσ H Q=>t σ H λxs H1=>xs.length<=sizeLine/\∀p,H1 p=none->Q (.ref p) (upd H1 p (.tup xs))
noncomputable def zr4(t:TA):TE:=λσ H Q=>t σ H λxs H1=>xs.length<=sizeLine/\∀p,H1 p=none->Q (.ref p) (upd H1 p (.lst xs))
theorem zrd{x1}(h:PA X es t):PE X (.Tuple es x1 pos) (zqZ t):=by
 intro pins s σ H Q I hq
 refine wpAny_Tuple_spliced (thn (h pos pins s σ H _ I hq) λus s1 ⟨xs,H1,I1,r,z,q⟩=>⟨by rw[←r.length];exact z,?_⟩)
 have hf:H1 s1.heap.objs.size=none:=I1.hok.fresh (O0 _)
 refine⟨.ref s1.heap.objs.size,upd H1 s1.heap.objs.size (.tup xs),I1.laid (t':=s1.toks) (λb u e=>C0 _ e) (O0 _) ?_,rfl,q _ hf⟩
 exact⟨z,us,r,⟨_,Q0 _ rfl,rfl,_,rfl⟩,NoDict.new rfl (Q0 _ rfl)⟩
theorem zn8(h:PA X es t):PE X (.List es pos) (zr4 t):=by
 intro pins s σ H Q I hq
 refine wpAny_List_spliced (thn (h pos pins s σ H _ I hq) λus s1 ⟨xs,H1,I1,r,z,q⟩=>⟨by rw[←r.length];exact z,?_⟩)
 have hf:H1 s1.heap.objs.size=none:=I1.hok.fresh (O0 _)
 refine⟨.ref s1.heap.objs.size,upd H1 s1.heap.objs.size (.lst xs),I1.laid (t':=s1.toks) (λb u e=>C0 _ e) (O0 _) ?_,rfl,q _ hf⟩
 exact⟨z,us,0,r,Q0 _ rfl⟩
end
noncomputable abbrev Sp:=List V->Hp->VK->XK->Prop
variable{sp:Sp}
noncomputable abbrev CXT:=List Env->Hp->Shared->XK->Value->Shared->Prop
variable{CX:CXT}
structure Env0(P:Program)(w:World)(K:W.Frag)(mg:Str->Option Value)(base:Heap)(A:Around)(outer:List Env)(s:Shared)(H:Hp):Prop where
 frames:A.frames=some outer
 mod:Mod K mg base
 bs:∀b o,base.get? b=some o->s.heap.get? b=some o/\H b=none
 bsz:base.objs.size<=s.heap.objs.size
 funs:s.heap.FunFrames base outer
 frf:∀b∈frs outer,H b=none
 hok:HOk P w H s.heap
 bare:AllBare s.gens
def CE(outer:List Env)(P:Program)(w:World)(H:Hp)(s:Shared)(Q:VK)(u:Value)(s':Shared):Prop:=
 ∃v H',s'.os=s.os/\AllBare s'.gens/\Un (frs outer) [] H H' s.heap s'.heap/\HOk P w H' s'.heap/\RelV v u/\Q v H'
def CR(CX:CXT)(outer:List Env)(P:Program)(w:World)(H:Hp)(s:Shared)(Q:VK)(E:XK)(r:Result)(s':Shared):Prop:=
 match r with
 | .ok (.ret u)=>CE outer P w H s Q u s'
 | .ok _=>False
 | .error e=>CX outer H s E e s'
structure FnOk(P:Program)(w:World)(K:W.Frag)(mg:Str->Option Value)(base:Heap)(CX:CXT)(k:Nat)(f:Addr)(fd:FuncData)(ps:List Str)(sp:Sp):Prop where
 len:∀vs H Q E,sp vs H Q E->vs.length=ps.length
 run:∀(A:Around) (outer:List Env) (s:Shared) (H:Hp) (args:Args) (us:List Value) (vs:List V) (Q:VK) (E:XK),Room k A->Env0 P w K mg base A outer s H->BindsTo s fd args (ps.zip us)->Vals vs us->sp vs H Q E->
  codeAny (model P w) A (.call (.ref f) args) (CR CX outer P w H s Q E) s
theorem FnOk.imp{mg:Str->Option Value}{base:Heap}{ps:List Str}{sp':Sp}(F:FnOk P w K mg base CX k f fd ps sp)
 (h:∀vs H Q E,sp' vs H Q E->sp vs H Q E):FnOk P w K mg base CX k f fd ps sp':=
 ⟨λvs H Q E q=>F.len vs H Q E (h _ _ _ _ q),λA outer s H args us vs Q E hr he hb hv hs=>F.run A outer s H args us vs Q E hr he hb hv (h _ _ _ _ hs)⟩
theorem Inv.env0(I:Inv X pins σ H s):Env0 X.prog X.w X.K X.mg X.base X.A X.stack s H:=
 ⟨I.ok.frames,I.ok.mod,I.bs,J1 I.ok.bsz I.sz,I.stack,I.stkFree,I.hok,I.bare⟩
theorem Inv.after{Q:VK}(I:Inv X pins σ H s)(h:CE X.stack X.prog X.w H s Q u s'):EP X pins σ Q u s':=by
 obtain⟨v,H',os,bare,un,hok,r,q⟩:=h
 obtain⟨hh,g,d,t,os'⟩:=s'
 obtain rfl:os'=s.os:=os
 exact⟨v,H',I.call (h':=hh) (g':=g) (d':=d) (t':=t) (ch:=[]) un hok bare (λb z=>absurd z `n3),r,q⟩
noncomputable def zhk(sp:Sp)(dvs:List V)(E:XK)(t:TA):TE:=λσ H Q=>t σ H λvs H1=>sp (vs ++dvs) H1 Q E
def Binds(K:W.Frag)(fd:FuncData)(ps:List Str)(ds:List Value):Prop:=
 ∀(s:Shared) (us:List Value),K.In s.heap->(us ++ds).length=ps.length->BindsTo s fd ⟨us,[]⟩ (ps.zip (us ++ds))
theorem Binds.all{ps:List Str}(h:∀us:List Value,us.length=ps.length->bindArgs fd ⟨us,[]⟩=pure (ps.zip us)):Binds K fd ps []:=λs us _ hl=>by
 rw[List.append_nil] at hl⊢
 exact .of_eq (h us hl)
def zid(CX:CXT)(X:Cx)(E:XK):Prop:=∀(pins:List (Addr×Obj)) (σ:St) (H:Hp) (s:Shared) (e:Value) (s':Shared),Inv X pins σ H s->CX X.stack H s E e s'->X.xe e s'
section
variable{ps:List Str}{ds:List Value}{E:XK}{m:Str}{p:Pos}{o:Expr}{ta:TE}{t:TA}
theorem zq9{Q:VK}(F:FnOk X.prog X.w X.K X.mg X.base CX k f fd ps sp)(hr:Room k X.A)(hb:Binds X.K fd ps ds)(hd:Vals dvs ds)(hx:zid CX X E)
 (I:Inv X pins σ H s) (r:Vals vs us) (h:sp (vs ++dvs) H Q E):wpAny `Y4 X.A (call (.ref f) us) (EP X pins σ Q) X.xe s:=by
 have r2:Vals (vs ++dvs) (us ++ds):=r.append hd
 have hl:(us ++ds).length=ps.length:=by rw[←r2.length];exact F.len _ _ _ _ h
 refine wpAny_call (codeAny_mono (F.run X.A X.stack s H ⟨us,[]⟩ (us ++ds) (vs ++dvs) Q E hr I.env0 (hb s us I.kIn hl) r2 h) λr s' hq=>?_)
 cases r with
 |error e=>exact hx pins σ H s e s' I hq
 |ok fl=>
  cases fl with
  |ret u=>exact I.after hq
  |next=>exact False.elim hq
  |brk=>exact False.elim hq
  |cont=>exact False.elim hq
theorem zpT(F:FnOk X.prog X.w X.K X.mg X.base CX k f fd ps sp)(hr:Room k X.A)(hg:Gl X x)(hm:X.mg x=some (.ref f))(hk:W.keepIn X.K (.ref f)=true)(hb:Binds X.K fd ps ds)(hd:Vals dvs ds)(hx:zid CX X E)
 (ha:PA X (e::es) t) (hdb:autoParam ((x==("__debug__":Str))=false) u5) (he:autoParam (starEach (e::es) X.env=(false,eval e X.env)::starEach es X.env) u4) (hpl:autoParam ((backTo pos (starEach es X.env)).any (·.1)=false) u4):
 PE X (.Call (.Name x p) (e::es) [] pos) (zhk sp dvs E t):=by
 intro pins s σ H Q I h
 refine wpAny_Call_Name_kw (zk0 I hg hm ?_ hdb)
 refine W.callWith_K (h₀:=X.base) I.ok.mod.kin hk (thn (ha pos pins s σ H _ I h) λus s1 zq=>?_) he hpl
 obtain⟨vs,H1,I1,r,q⟩:=zq
 refine⟨I1.kIn,?_⟩
 exact zq9 F hr hb hd hx I1 r q
structure Mk(K:W.Frag)(C f:Addr):Prop where
 makes:W.makesIn K C=true
 init:W.findIn K (.ref C) "__init__"=some (some (.ref f))
 fn:W.isFn K (.ref f)=true
 kp:W.keepIn K (.ref C)=true
end
section
variable{ps ks:List Str}{E:XK}{m:Str}{p kpos:Pos}{o:Expr}{kws:List Keyword}{ta:TE}{t tk:TA}{nm:Option Str}
structure KBinds(K:W.Frag)(fd:FuncData)(ps ks:List Str)(g:List Value->List Value->List Value)(gV:List V->List V->List V):Prop where
 to:∀(s:Shared) (us ws:List Value),K.In s.heap->(g us ws).length=ps.length->BindsTo s fd ⟨us,ks.zip ws⟩ (ps.zip (g us ws))
 rel:∀{vs:List V} {us:List Value} {zs:List V} {ws:List Value},Vals vs us->Vals zs ws->Vals (gV vs zs) (g us ws)
variable{g:List Value->List Value->List Value}{gV:List V->List V->List V}
end
structure FnScope(N P:List Str)(sc:Scope):Prop where
 kind:sc.kind= .function
 co:sc.isCoroutine=false
 gen:sc.isGenerator=false
 nd:N.Nodup
 pre:N.take P.length=P
 par:∀x∈P,sc.names.lookup x=some .local\/sc.names.lookup x=some .cell
 nofree:∀y∈sc.names,y.2≠ .free
theorem zhC{kindOf:Str->Option NameKind}{x:Str}:∀{binds:List (Str×Value)} {m:Str->Option Value},(∀v,(x,v)∉binds)->bindL kindOf binds m x=m x
 |[],_,_=>rfl
 |(n,v)::r,m,h=>by
  unfold bindL
  rw[zhC λw hw=>h w (N1 _ hw)]
  split
  ·have:x≠n:=by rintro rfl;exact h v Z0
   simp[this]
  ·rfl
theorem zht{kindOf:Str->Option NameKind}{x:Str}:∀{binds:List (Str×Value)} {m:Str->Option Value},(∀v,(x,v)∉binds)->bindC kindOf binds m x=m x
 |[],_,_=>rfl
 |(n,v)::r,m,h=>by
  unfold bindC
  rw[zht λw hw=>h w (N1 _ hw)]
  split
  ·rfl
  ·have:x≠n:=by rintro rfl;exact h v Z0
   simp[this]
theorem zhH{kindOf:Str->Option NameKind}{x:Str}{v:Value}:∀{P:List Str} {vs:List Value} {i:Nat} {m:Str->Option Value},P.Nodup->P[i]?=some x->vs[i]?=some v->kindOf x=some .local->
 bindL kindOf (P.zip vs) m x=some v
 |[],_,_,_,_,h,_,_=>by simp at h
 |_::_,[],_,_,_,_,h,_=>by simp at h
 |p::P,w::vs,0,m,nd,h1,h2,hk=>by
  simp at h1 h2;subst h1;subst h2
  show bindL kindOf ((p,w)::P.zip vs) m p=_
  unfold bindL
  rw[zhC λv hv=>(List.nodup_cons.mp nd).1 (List.of_mem_zip hv).1,E1 hk]
  simp
 |p::P,w::vs,i+1,m,nd,h1,h2,hk=>by
  show bindL kindOf ((p,w)::P.zip vs) m x=_
  unfold bindL
  exact zhH (i:=i) (List.nodup_cons.mp nd).2 (by simpa using h1) (by simpa using h2) hk
theorem zhf{kindOf:Str->Option NameKind}{x:Str}{v:Value}:∀{P:List Str} {vs:List Value} {i:Nat} {m:Str->Option Value},P.Nodup->P[i]?=some x->vs[i]?=some v->kindOf x≠some .local->
 bindC kindOf (P.zip vs) m x=some v
 |[],_,_,_,_,h,_,_=>by simp at h
 |_::_,[],_,_,_,_,h,_=>by simp at h
 |p::P,w::vs,0,m,nd,h1,h2,hk=>by
  simp at h1 h2;subst h1;subst h2
  show bindC kindOf ((p,w)::P.zip vs) m p=_
  unfold bindC
  rw[zht λv hv=>(List.nodup_cons.mp nd).1 (List.of_mem_zip hv).1,Y0 hk]
  simp
 |p::P,w::vs,i+1,m,nd,h1,h2,hk=>by
  show bindC kindOf ((p,w)::P.zip vs) m x=_
  unfold bindC
  exact zhf (i:=i) (List.nodup_cons.mp nd).2 (by simpa using h1) (by simpa using h2) hk
noncomputable def zet(N:List Str)(vs:List V):St:=vs.map some ++List.replicate (N.length -vs.length) none
noncomputable def zav(CX:CXT)(P:Program)(w:World)(K:W.Frag)(mg:Str->Option Value)(base:Heap)(N:List Str)(qual:Str)(scope:Scope)(f:Addr)(cd:Value)(A:Around)(outer:List Env)(s:Shared)(H:Hp)(E:XK):Cx where
 prog:=P
 w:=w
 K:=K
 mg:=mg
 base:=base
 A:=A.deeper (envOfC qual scope s.heap.objs.size f cd)
 N:=N
 s₀:=s
 H₀:=H
 env:=envOfC qual scope s.heap.objs.size f cd
 outer:=outer
 stack:=envOfC qual scope s.heap.objs.size f cd::outer
 ex:=[]
 calm:=true
 fn:=λ_=>true
 pn:=[]
 xe:=λe s'=>wpAny (model P w) (A.deeper (envOfC qual scope s.heap.objs.size f cd)) (leaving (envOfC qual scope s.heap.objs.size f cd) e) (λ_ s''=>CX outer H s E e s'') (λe' s''=>CX outer H s E e' s'') s'
theorem zjt{sc:Scope}(h:sc.names.lookup x=some .cell):∃c,(cellsFrom n sc.names []).lookup x=some c:=by
 have q:=W.cellsFrom_some sc.names n [] (.inl h)
 exact Option.isSome_iff_exists.mp q
theorem zl7{mg:Str->Option Value}{base:Heap}{ps:List Str}{cd:Value}{outer:List Env}{s1:Shared}{E:XK}
 (S:FnScope N ps scope) (hd:A.handled=none) (e0:Env0 P w K mg base A outer s H) (hl:vs.length=ps.length) (r:Vals vs us)
 (x:InCallC s s.heap.objs.size (bindL (envOfC qual scope s.heap.objs.size f cd).kindOf (ps.zip us) λ_=>none) (cellsFrom (s.heap.objs.size+1) scope.names []) (bindC (envOfC qual scope s.heap.objs.size f cd).kindOf (ps.zip us) λ_=>none) s1):
 Inv (zav CX P w K mg base N qual scope f cd A outer s H E) [] (zet N vs) H s1:=by
 have hpl:ps.length<=N.length:=by have:=j3 List.length S.pre;rw[N2] at this;lia
 obtain⟨h1,tk,rfl,hk⟩:=x.done
 have noA:∀b:Addr,b∉(zav CX P w K mg base N qual scope f cd A outer s H E).ex:=λb z=>absurd (show b∈([]:List Addr)from z) `n3
 refine⟨⟨e0.mod,S.kind,rfl,rfl,O0 _,λy z c h1 h2=>?_,λy hy=>?_,λy c _ h=>?_,λ_=>hd,Around.frames_deeper e0.frames, .inr ⟨rfl,rfl⟩,λb z=>absurd z (noA b),e0.bs,e0.bsz,λb _ _=>noA b,λb z=>absurd z (noA b),e0.funs,e0.frf⟩,
  rfl,e0.bare,Un.kept hk,⟨_,x.toInCall.ns,λi y v h1 h2 h3=>?_⟩,λy c h=>⟨_,x.cell y c h⟩,e0.hok.fresh (O0 _),λy c h=>?_,λp hp=>absurd (show p∈([]:List (Addr×Obj))from hp) `n3,e0.hok.kept hk,?_⟩
 ·exact name_of_addr x.apart (PySem.mem_of_lookup h1) (PySem.mem_of_lookup h2)
 ·have hy:scope.names.lookup y=some .cell\/scope.names.lookup y=some .free:=hy
  rcases hy with hy|hy
  ·exact zjt hy
  ·exact absurd rfl (S.nofree _ (PySem.mem_of_lookup hy))
 ·exact Z2 (x.above y c (PySem.mem_of_lookup h))
 ·have hi:i<vs.length:=by
   unfold zet at h2
   by_cases hi:i<vs.length
   ·exact hi
   ·rw[Y2 (by simpa using hi)] at h2
    rw[List.getElem?_replicate] at h2
    split at h2<;>cases h2
  have ha:vs[i]?=some v:=by
   unfold zet at h2
   rw[A3 (by simpa using hi),V0] at h2
   cases e:vs[i]? with
   |none=>rw[e] at h2;cases h2
   |some a=>rw[e] at h2;cases h2;rfl
  obtain⟨u,hu,rv⟩:=r.get ha
  have hp:ps[i]?=some y:=by
   rw[←S.pre,List.getElem?_take_of_lt ()];exact h1
  have ndP:ps.Nodup:=by rw[←S.pre];exact S.nd.sublist (List.take_sublist _ _)
  refine⟨u,rv,?_⟩
  rcases S.par y (U0 hp)with k|k
  ·exact .inl ⟨k,zhH ndP hp hu k⟩
  ·obtain ⟨c,e⟩:=zjt (n:=s.heap.objs.size+1) k
   refine .inr ⟨.inl k,c,e,?_⟩
   have q:=x.cell y c e
   rw[zhf ndP hp hu (by show scope.names.lookup y≠_;rw[k];decide)] at q
   exact q
 ·exact e0.hok.fresh (Z2 (x.above y c (PySem.mem_of_lookup h)))
 ·unfold zet
  show _=N.length
  rw[W0,B0,List.length_replicate]
  lia
theorem zqG{mg:Str->Option Value}{base:Heap}{params:Arguments}{dV kV:Value}
  {ps:List Str}  (lk:K.lookup f=some ⟨oc,od, .func (W.fnOf name qual params body scope dV kV doc pm an cdv ct),osl⟩) (hcd:W.codeIn K cdv qual=true) (S:FnScope N ps scope)
 (len:∀vs H Q E,sp vs H Q E->vs.length=ps.length)
 (hbody:∀(A:Around) (outer:List Env) (s:Shared) (H:Hp) (vs:List V) (Q:VK) (E:XK),Room k (A.deeper (envOfC qual scope s.heap.objs.size f cdv))->sp vs H Q E->
   ∃t,PSs (zav CX P w K mg base N qual scope f cdv A outer s H E) body t/\t {nx:=λ_ H'=>Q .non H',rt:=Q} (zet N vs) H):
 FnOk P w K mg base CX (k+1) f (W.fnOf name qual params body scope dV kV doc pm an cdv ct) ps sp:=by
 refine⟨len,λA outer s H args us vs Q E hr e0 hb r hsp=>?_⟩
 have hl:=len _ _ _ _ hsp
 have KX:K.In s.heap:=e0.mod.kin.keeps λb o e=>(e0.bs b o e).1
 have lim:s.heap.NoLimit:=e0.mod.nolimit.keeps λb o e=>(e0.bs b o e).1
 have hkind:∀y∈ps.zip us,scope.names.lookup y.1=some .local\/(scope.names.lookup y.1=some .cell/\((cellsFrom (s.heap.objs.size+1) scope.names []).lookup y.1).isSome=true):=λ⟨n,v⟩ hy=>by
  rcases S.par n (List.of_mem_zip hy).1 with q|q
  ·exact .inl q
  ·exact .inr ⟨q,W.cellsFrom_some _ _ _ (.inl q)⟩
 refine codeAny_call_function hr.depth (KX _ _ lk) rfl S.co S.gen rfl (W.codeRec_of KX hcd) (hb _ _ _ _ ?_)
 refine wpAny_newFunctionEnv_cells S.kind hkind λenv he s1 x=>?_
 subst he
 refine⟨lim.keeps x.toInCall.keep,codeAny_func ?_⟩
 obtain⟨t,ht,hq⟩:=hbody A outer s H vs Q E (hr.deeper _) hsp
 have I:Inv (zav CX P w K mg base N qual scope f cdv A outer s H E) [] (zet N vs) H s1:=zl7 S hr.hd e0 hl r x
 refine wpAny_mono (ht [] s1 (zet N vs) H _ I hq) (λfl s' hs=>?_) λe s' hs=>hs
 have fin:∀{σ':St} {H':Hp} {v:V} {u:Value},Inv (zav CX P w K mg base N qual scope f cdv A outer s H E) [] σ' H' s'->RelV v u->Q v H'->CE outer P w H s Q u s':=
  λ{σ' H' v u} J rv q=>⟨v,H',J.os,J.bare,J.base,J.hok,rv,q⟩
 cases fl with
 |ret u=>
  obtain⟨v,σ',H',J,rv,q⟩:=hs
  exact fin J rv q
 |next=>
  obtain⟨σ',H',J,q⟩:=hs
  exact fin (v:=V.non) (u:=Value.none) J rfl q
 |brk=>
  obtain⟨_,_,_,q⟩:=hs
  exact False.elim q
 |cont=>
  obtain⟨_,_,_,q⟩:=hs
  exact False.elim q
section
variable{p:Pos}{t:TA}{id:String}{r:List V->Hp->VK->Prop}
def tCB(r:List V->Hp->VK->Prop)(t:TA):TE:=λσ H Q=>t σ H λvs H1=>r vs H1 Q
theorem znT(hc:CallR X (.builtin id) r)(hg:Gl X x)(hm:X.mg x=none)(hv:bootBuiltins x=some (.builtin id))(ha:PA X (e::es) t)(hn:autoParam (x≠"__name__") u5)(hdb:autoParam ((x==("__debug__":Str))=false) u5)
 (he:autoParam (starEach (e::es) X.env=(false,eval e X.env)::starEach es X.env) u4) (hpl:autoParam ((backTo pos (starEach es X.env)).any (·.1)=false) u4):PE X (.Call (.Name x p) (e::es) [] pos) (tCB r t):=by
 intro pins s σ H Q I h
 refine wpAny_Call_Name_kw (zc9 I hg hm hv ?_ hn hdb)
 refine PyProof.Rows.callWith_builtin1 (thn (ha pos pins s σ H _ I h) λus s1 zq=>?_) he hpl
 obtain⟨vs,H1,I1,r1,q1⟩:=zq
 exact hc pins s1 σ H1 vs us Q I1 r1 q1
theorem zmC(hc:CallR X (.type T) r)(hg:Gl X x)(hm:X.mg x=none)(hv:bootBuiltins x=some (.type T))(ha:PA X (e::es) t)(hn:autoParam (x≠"__name__") u5)(hdb:autoParam ((x==("__debug__":Str))=false) u5)
 (he:autoParam (starEach (e::es) X.env=(false,eval e X.env)::starEach es X.env) u4) (hpl:autoParam ((backTo pos (starEach es X.env)).any (·.1)=false) u4):PE X (.Call (.Name x p) (e::es) [] pos) (tCB r t):=by
 intro pins s σ H Q I h
 refine wpAny_Call_Name_kw (zc9 I hg hm hv ?_ hn hdb)
 refine PyProof.Rows.callWith_type1 (thn (ha pos pins s σ H _ I h) λus s1 zq=>?_) he hpl
 obtain⟨vs,H1,I1,r1,q1⟩:=zq
 exact hc pins s1 σ H1 vs us Q I1 r1 q1
theorem zki(hc:CallR X (.type T) r)(hg:Gl X x)(hm:X.mg x=none)(hv:bootBuiltins x=some (.type T))(hn:autoParam (x≠"__name__") u5)(hdb:autoParam ((x==("__debug__":Str))=false) u5):
 PE X (.Call (.Name x p) [] [] pos) (tCB r zhX):=by
 intro pins s σ H Q I h
 refine wpAny_Call_Name_kw (zc9 I hg hm hv ?_ hn hdb)
 exact PyProof.Rows.callWith_type0 (hc pins s σ H [] [] Q I .nil h)
end
section
open PySem.SeqAt
open PySem.AutoSeq1 (wpAny_loadPart')
open PySem.MeetsSeq PySem.MeetsSeq2 PySem.MeetsSeq3
end
theorem cat_tup{t b:Addr}{vs ws:List Value}(ht:IsTup s.heap t vs.toArray)(hb:IsTup s.heap b ws.toArray)(hv:vs≠ [])
 (h1:ws=[]->Q (.ref t) s) (h2:ws≠ []->Q (.ref s.heap.objs.size) {s with heap:=s.heap.push {cls:= .type "tuple",data:= .seq (vs ++ws).toArray}})
 (hsz:vs.length+ws.length<=sizeLine):wpAny `i4 A (binaryOp .Add (.ref t) (.ref b)) Q E s:=by
 obtain⟨⟨cls,dd,data,sl⟩,ho,hc,n,hd⟩:=id ht
 obtain⟨⟨cls2,dd2,data2,sl2⟩,ho2,hc2,n2,hd2⟩:=id hb
 simp only at hc hd hc2 hd2
 subst hc hd hc2 hd2
 have e:vs.toArray ++ws.toArray=(vs ++ws).toArray:=`n3
 by_cases hw:ws=[]
 ·exact concat_meets ⟨_,ho,rfl⟩ ⟨_,ho2,rfl⟩ noFill_tuple_add seq_tuple_add F.slot_tuple_add F.entry_tuple_add (F.args_tuple_add_2 _ _)
   (tuple_addW1 t b vs.toArray ws.toArray n n2 dd dd2 sl sl2 (by simpa using hv) (by simp[hw])) ⟨ho,ho2,h1 hw⟩
 ·refine concat_meets ⟨_,ho,rfl⟩ ⟨_,ho2,rfl⟩ noFill_tuple_add seq_tuple_add F.slot_tuple_add F.entry_tuple_add (F.args_tuple_add_2 _ _)
   (tuple_addW2 t b vs.toArray ws.toArray n n2 dd dd2 sl sl2 (by simpa using hv) (by simpa using hw) (by rw[K1,K1];exact hsz)) ⟨ho,ho2,?_⟩
  rw[e]
  exact h2 hw
noncomputable def sIx(n d:Nat):Option Int->Nat
 |none=>d
 |some v=>if v<0 then(v+(n:Int)).toNat else min v.toNat n
theorem zqQ(n d:Nat)(hd:d<=n)(o:Option Int):sIx n d o<=n:=by
 cases o with
 |none=>exact hd
 |some v=>
  show(if v<0 then(v+(n:Int)).toNat else min v.toNat n)<=n
  by_cases hv:v<0
  ·rw[E1 hv];lia
  ·rw[Y0 hv];exact M3 _ _
theorem zk8(v:Int)(n d:Nat):(if v<0 then max (v+(n:Int)) 0 else min v (n:Int))=((sIx n d (some v):Nat):Int):=by
 show(if v<0 then max (v+(n:Int)) 0 else min v (n:Int))=(((if v<0 then(v+(n:Int)).toNat else min v.toNat n):Nat):Int)
 by_cases hv:v<0
 ·simp only[E1 hv];lia
 ·simp only[Y0 hv];lia
theorem zkz(lo hi:Option Int)(n:Nat):Builtin.Slice.sliceAdjust lo hi 1 (n:Int)=(((sIx n 0 lo:Nat):Int),((sIx n n hi:Nat):Int)):=by
 have h1:¬((1:Int)<0):=()
 unfold Builtin.Slice.sliceAdjust
 simp only[h1,if_false]
 refine Prod.ext ?_ ?_
 ·cases lo with
  |none=>rfl
  |some v=>exact zk8 v n 0
 ·cases hi with
  |none=>rfl
  |some v=>exact zk8 v n n
theorem zkA(i j:Nat):Builtin.Slice.slicePlaces (i:Int) (j:Int) 1=j -i:=by
 unfold Builtin.Slice.slicePlaces
 have h1:(1:Int)>0:=()
 simp only[h1,if_true,Int.ediv_one]
 split<;>lia
theorem zcL{v:Value}{o:Option Int}{Q:Option Int->Shared->Prop}(p:IsPart v o)(h:Q o s):wpAny `i4 A (Builtin.Slice.slicePartIndex v) Q E s:=by
 cases p with
 |none=>exact slicePart_none h
 |int i t=>exact slicePart_int h
theorem zdr{Q:Int×Int×Nat->Shared->Prop}(hs:s.heap.IsSliceOf sl vl vu .none)(pl:IsPart vl lo)(pu:IsPart vu hi)
 (h:Q (((sIx n 0 lo:Nat):Int),1,sIx n n hi -sIx n 0 lo) s):wpAny `i4 A (Builtin.Slice.sliceApplied (.ref sl) (pure (n:Int))) Q E s:=by
 obtain⟨os,hos,hcs,hds⟩:=id hs
 unfold Builtin.Slice.sliceApplied Builtin.Slice.sliceFields
 refine A0 (A0 (wpAny_field hos hds (x:=vl) rfl (A0 (wpAny_field hos hds (x:=vu) rfl (A0 (wpAny_field hos hds (x:= .none) rfl (D0 ?_)))))))
 refine A0 (slicePart_none ?_)
 show wpAny _ _ (if((1:Int)==0)=true then _ else _) _ _ s
 rw[Y0 ⋯]
 refine A0 (zcL pl (A0 (zcL pu (A0 (D0 ?_)))))
 show wpAny _ _ (match Builtin.Slice.sliceAdjust lo hi 1 (n:Int)with|(lo,hi)=>pure (lo,(1:Int),Builtin.Slice.slicePlaces lo hi 1)) _ _ s
 rw[zkz lo hi n]
 show wpAny _ _ (pure (((sIx n 0 lo:Nat):Int),(1:Int),Builtin.Slice.slicePlaces ((sIx n 0 lo:Nat):Int) ((sIx n n hi:Nat):Int) 1)) _ _ s
 rw[zkA]
 exact D0 h
theorem znu(xs:Array Value)(i k:Nat):((List.range k).filterMap λ(m:Nat)=>xs[((i:Int)+(m:Int)*1).toNat]?).toArray=((xs.toList.drop i).take k).toArray:=by
 have e:(λ(m:Nat)=>xs[((i:Int)+(m:Int)*1).toNat]?)=λm=>xs[i+m]?:=by
  funext m
  have:((i:Int)+(m:Int)*1).toNat=i+m:=()
  rw[this]
 rw[e]
 have:=pick_run xs i k
 rw[List.filterMap_map] at this
 have e2:((λx=>xs[x]?)∘λx=>i+x)=λm=>xs[i+m]?:=rfl
 rw[e2] at this
 rw[this]
theorem getItem_tuple_cut{t:Addr}(ht:IsTup s.heap t items)(hs:s.heap.IsSliceOf sl vl vu .none)(pl:IsPart vl lo)(pu:IsPart vu hi)
 (hw:¬(sIx items.size 0 lo=0/\sIx items.size items.size hi=items.size))
 (h:Q (.ref s.heap.objs.size) {s with heap:=s.heap.push {cls:= .type "tuple",data:= .seq ((items.toList.drop (sIx items.size 0 lo)).take (sIx items.size items.size hi -sIx items.size 0 lo)).toArray}})
 (hsz:items.size<=sizeLine):wpAny `i4 A (getItem (.ref t) (.ref sl)) Q E s:=by
 have htake:sizeOk (.seq ((items.toList.drop (sIx items.size 0 lo)).take (sIx items.size items.size hi -sIx items.size 0 lo)).toArray):=by
  show((items.toList.drop (sIx items.size 0 lo)).take (sIx items.size items.size hi -sIx items.size 0 lo)).toArray.size<=sizeLine
  rw[K1,N2,D3,j1]
  lia
 have hj:sIx items.size items.size hi<=items.size:=zqQ _ _ (O0 _) hi
 obtain⟨os,hos,hcs,hds⟩:=id hs
 have hTs:s.TypeIs (.ref sl) "slice":=⟨os,hos,hcs⟩
 unfold getItem
 try with_reducible refine K3 ?_
 first|refine A0 (D0 ?_)|skip
 refine A0 (wpAny_sequenceKey ht.typeIs ⋯ ?_)
 refine A0 (B3 (name:=Str.ofString "__getitem__") ht.typeIs PyProof.Rows.slot_tuple_getitem
  (Q2 PyProof.Rows.slot_tuple_getitem ht.typeIs entry_tuple_getitem ?_ (args_tuple_getitem _ _)))
 show wpAny _ _ (Builtin.Tuple.tupleItemsOf (.ref t)>>=_) _ _ s
 refine A0 (tupleItemsOf_ ht ?_)
 refine A0 (wpAny_typeOf hTs ?_)
 rw[E1 ⋯]
 refine A0 (zdr hs pl pu ?_)
 have hno:¬((((sIx items.size 0 lo:Nat):Int)==0&&(1:Int)==1&&(sIx items.size items.size hi -sIx items.size 0 lo)==items.size)=true):=by
  intro q
  rw[L0,L0] at q
  have q1:((sIx items.size 0 lo:Nat):Int)=0:=eq_of_beq q.1.1
  have q2:sIx items.size items.size hi -sIx items.size 0 lo=items.size:=eq_of_beq q.2
  exact hw ⟨(),()⟩
 show wpAny _ _ (if(((sIx items.size 0 lo:Nat):Int)==0&&(1:Int)==1&&(sIx items.size items.size hi -sIx items.size 0 lo)==items.size)=true then _ else _) _ _ s
 rw[Y0 hno,znu]
 first
  |exact A0 (m:=Builtin.Tuple.tupleExact _) (V2 (D0 ⟨_,rfl,D0 h⟩) htake)
  |exact A0 (m:=Builtin.Tuple.tupleExact _) (V2 (A0 (D0 (D0 ⟨_,rfl,D0 h⟩))) htake)
  |exact A0 (A0 (m:=Builtin.Tuple.tupleExact _) (V2 (D0 (D0 ⟨_,rfl,D0 h⟩)) htake))
  |exact A0 (A0 (m:=Builtin.Tuple.tupleExact _) (V2 (D0 ⟨_,rfl,D0 h⟩) htake))
noncomputable abbrev TO:=St->Hp->(Option Int->Hp->Prop)->Prop
variable{th:TO}
def PO(X:Cx)(e:Option Expr)(t:TO):Prop:=
 ∀(pins:List (Addr×Obj)) (s:Shared) (σ:St) (H:Hp) (Q:Option Int->Hp->Prop),Inv X pins σ H s->t σ H Q->
  wpAny `Y4 X.A (evalPart e X.env) (λu s'=>∃o H',Inv X pins σ H' s'/\IsPart u o/\Q o H') X.xe s
noncomputable def zb4:TO:=λ_ H Q=>Q none H
noncomputable def zjN(t:TE):TO:=λσ H Q=>t σ H λx H1=>∃i,x= .int i/\Q (some i) H1
section
variable{lo hi:Option Expr}{tl:TO}{p2:Pos}
theorem zpJ:PO X none zb4:=by
 intro pins s σ H Q I h
 rw[evalPart_none]
 exact D0 ⟨none,H,I, .none,h⟩
theorem zpB(h:PE X e te):PO X (some e) (zjN te):=by
 intro pins s σ H Q I hw
 rw[evalPart_some]
 refine thn (h pins s σ H _ I hw) λu s1 zq=>?_
 obtain⟨x,H1,I1,r1,q1⟩:=zq
 obtain⟨i,rfl,q⟩:=q1
 obtain⟨t,rfl⟩:=r1
 exact⟨some i,H1,I1, .int i t,q⟩
def SlR(X:Cx)(r:V->Option Int->Option Int->Hp->VK->Prop):Prop:=
 ∀(pins:List (Addr×Obj)) (s:Shared) (σ:St) (H:Hp) (x:V) (v vl vu:Value) (lo hi:Option Int) (sl:Addr) (Q:VK),Inv X pins σ H s->RelV x v->s.heap.IsSliceOf sl vl vu .none->IsPart vl lo->IsPart vu hi->r x lo hi H Q->
  ∃T id,typeLookup (.type T) "__getitem__"=pure (some (.builtin id))/\s.TypeIs v T/\wpAny `Y4 X.A (getItem v (.ref sl)) (EP X pins σ Q) X.xe s
def tSl(r:V->Option Int->Option Int->Hp->VK->Prop)(te:TE)(tl th:TO):TE:=λσ H Q=>te σ H λx H1=>tl σ H1 λl H2=>th σ H2 λu H3=>r x l u H3 Q
theorem znJ{r:V->Option Int->Option Int->Hp->VK->Prop}(hr:SlR X r)(he:PE X e te)(hl:PO X lo tl)(hu:PO X hi th):PE X (.Subscript e (.Slice lo hi none p2) pos) (tSl r te tl th):=by
 intro pins s σ H Q I h
 refine Subscript_ (thn (he pins s σ H _ I h) λv s1 zq=>?_)
 obtain⟨x,H1,I1,r1,q1⟩:=zq
 refine wpAny_Slice (thn (hl pins s1 σ H1 _ I1 q1) λvl s2 zq=>?_)
 obtain⟨l,H2,I2,pl,q2⟩:=zq
 refine thn (hu pins s2 σ H2 _ I2 q2) λvu s3 zq1=>?_
 obtain⟨u,H3,I3,pu,q3⟩:=zq1
 rw[evalPart_none]
 refine D0 ?_
 have I4:Inv X pins σ H3 {s3 with heap:=s3.heap.push {cls:= .type "slice",data:= .fields #[vl,vu, .none]}}:=I3.kept (t':=s3.toks) λb ob q=>C0 _ q
 obtain⟨T,id,hT,ht,hg⟩:=hr pins {s3 with heap:=s3.heap.push {cls:= .type "slice",data:= .fields #[vl,vu, .none]}} σ H3 x v vl vu l u s3.heap.objs.size Q I4 r1 (Heap.IsSliceOf.new ..) pl pu q3
 show wpAny `Y4 X.A (subscriptTail e (.Slice lo hi none p2) v (.ref s3.heap.objs.size)) (EP X pins σ Q) X.xe {s3 with heap:=s3.heap.push {cls:= .type "slice",data:= .fields #[vl,vu, .none]}}
 exact tail_any (ops:=[.ref s3.heap.objs.size,v]) ht hT hg (by with_unfolding_all rfl)
noncomputable def za9(xs:List V)(lo hi:Option Int):List V:=(xs.drop (sIx xs.length 0 lo)).take (sIx xs.length xs.length hi -sIx xs.length 0 lo)
theorem zfV(xs:List V)(lo hi:Option Int):(za9 xs lo hi).length<=xs.length:=by
 unfold za9
 rw[N2,D3]
 lia
def zsW(K:W.Frag):V->Option Int->Option Int->Hp->VK->Prop:=λx lo hi H Q=>∃a xs,x= .ref a/\SqT K H a xs/\
 ¬(sIx xs.length 0 lo=0/\sIx xs.length xs.length hi=xs.length)/\∀p,H p=none->Q (.ref p) (upd H p (.tup (za9 xs lo hi)))
theorem zrD:SlR X (zsW X.K):=by
 intro pins s σ H x v vl vu lo hi sl Q I rx hs pl pu h
 obtain⟨a,xs,rfl,hx,hw,q⟩:=h
 cases rx
 obtain⟨its,r,ht,hz⟩:=I.tuple hx
 have hlen:its.toArray.size=xs.length:=by rw[K1];exact r.length.symm
 refine⟨"tuple",_,PyProof.Rows.slot_tuple_getitem.lookup,ht.typeIs,?_⟩
 refine getItem_tuple_cut ht hs pl pu (by rw[hlen];exact hw) ?_ (by rw[hlen];exact hz)
 rw[hlen]
 refine⟨.ref s.heap.objs.size,_,I.laid (t':=s.toks) (o:= .tup (za9 xs lo hi)) (λb ob q=>C0 _ q) (O0 _) ?_,rfl,q _ (I.hok.fresh (O0 _))⟩
 exact⟨J1 (zfV xs lo hi) hz,_,(r.drop (sIx xs.length 0 lo)).take (sIx xs.length xs.length hi -sIx xs.length 0 lo),IsTup.new _ _,NoDict.new rfl (Q0 _ rfl)⟩
noncomputable def zsu(K:W.Frag):R2:=λx y H Q=>∃a b xs ys,x= .ref a/\y= .ref b/\SqT K H a xs/\SqT K H b ys/\xs≠ []/\xs.length+ys.length<=sizeLine/\
 (ys=[]->Q (.ref a) H)/\(ys≠ []->∀p,H p=none->Q (.ref p) (upd H p (.tup (xs ++ys))))
theorem Vals.nil_iff(r:Vals xs us):us=[]↔xs=[]:=by
 cases r with
 |nil=>simp
 |cons _ _=>simp
theorem zp8:OpR X (binaryOp .Add) (zsu X.K):=by
 intro pins s σ H x y v u Q I rx ry h
 obtain⟨a,b,xs,ys,rfl,rfl,ha,hb,hx,hz,q1,q2⟩:=h
 cases rx
 cases ry
 obtain⟨its,r1,p1,_⟩:=I.tuple ha
 obtain⟨its2,r2,p2,_⟩:=I.tuple hb
 refine cat_tup p1 p2 (λz=>hx (r1.nil_iff.mp z)) (λz=>⟨.ref a,H,I,rfl,q1 (r2.nil_iff.mp z)⟩) (λz=>?_) (by rw[←r1.length,←r2.length];exact hz)
 refine⟨.ref s.heap.objs.size,_,I.laid (t':=s.toks) (o:= .tup (xs ++ys)) (λb ob q=>C0 _ q) (O0 _) ?_,rfl,q2 (λw=>z (r2.nil_iff.mpr w)) _ (I.hok.fresh (O0 _))⟩
 exact⟨by rw[W0];exact hz,_,r1.append r2,IsTup.new _ _,NoDict.new rfl (Q0 _ rfl)⟩
end
noncomputable def ixN(n:Nat)(i:Int):Option Nat:=if 0<=i then(if i<n then some i.toNat else none)else if -(n:Int)<=i then some (i+n).toNat else none
noncomputable def atI(xs:List α)(i:Int):Option α:=(ixN xs.length i).bind λj=>xs[j]?
theorem zlO{i:Int}(h:ixN n i=some j):seqIndex? i n=some j/\j<n/\-(n:Int)<=i/\i<n:=by
 unfold ixN at h
 by_cases h0:0<=i
 ·rw[E1 h0] at h
  by_cases h1:i<n
  ·rw[E1 h1] at h
   have e:i.toNat=j:=U1 h
   exact⟨by rw[seqIndex_of h0 h1,e],(),(),h1⟩
  ·rw[Y0 h1] at h;cases h
 ·rw[Y0 h0] at h
  by_cases h1: -(n:Int)<=i
  ·rw[E1 h1] at h
   have e:(i+n).toNat=j:=U1 h
   exact⟨by rw[seqIndex_neg () h1,e],(),h1,()⟩
  ·rw[Y0 h1] at h;cases h
theorem zhR{xs:List α}{i:Int}{v:α}(h:atI xs i=some v):∃j,seqIndex? i xs.length=some j/\xs[j]?=some v/\j<xs.length/\-(xs.length:Int)<=i/\i<xs.length:=by
 unfold atI at h
 cases e:ixN xs.length i with
 |none=>rw[e] at h;cases h
 |some j=>
  rw[e] at h
  obtain⟨h1,h2,h3,h4⟩:=zlO e
  exact⟨j,h1,h,h2,h3,h4⟩
theorem zG{xs:List α}{v:α}(h:xs[j]?=some v):atI xs (j:Int)=some v:=by
 have hj:j<xs.length:=(List.getElem?_eq_some_iff.mp h).1
 have e:ixN xs.length (j:Int)=some j:=by
  unfold ixN
  rw[E1 (),E1 ()];simp
 unfold atI;rw[e];exact h
theorem zgB(xs:List α)(v:α):atI (xs ++ [v]) (-1)=some v:=by
 have hl:(xs ++ [v]).length=xs.length+1:=`n3
 have e:ixN (xs ++ [v]).length (-1)=some xs.length:=by
  unfold ixN
  rw[hl,Y0 ⋯,E1 ()]
  congr 1
  lia
 unfold atI
 rw[e]
 show(xs ++ [v])[xs.length]?=some v
 simp
def zlg(b:Expr):Prop:=∀o i,subscripted b false o i=operate [o,i] (getItem o i)
def IxR(X:Cx)(r:R2):Prop:=
 ∀(value slice:Expr) (pins:List (Addr×Obj)) (s:Shared) (σ:St) (H:Hp) (x y:V) (v u:Value) (Q:VK),Inv X pins σ H s->RelV x v->RelV y u->r x y H Q->
  subscripted slice false v u=operate [v,u] (getItem v u)->wpAny `Y4 X.A (subscriptTail value slice v u) (EP X pins σ Q) X.xe s
def MtR(X:Cx)(id:String)(r:V->List V->Hp->VK->Prop):Prop:=
 ∀(pins:List (Addr×Obj)) (s:Shared) (σ:St) (H:Hp) (x:V) (xs:List V) (v:Value) (us:List Value) (Q:VK),Inv X pins σ H s->RelV x v->Vals xs us->r x xs H Q->
  wpAny `Y4 X.A (call (.builtin id) (v::us)) (EP X pins σ Q) X.xe s
section
variable{a b:Expr}{ta tb:TE}
theorem IxR.or(h:IxR X r)(h':IxR X r'):IxR X (λx y H Q=>r x y H Q\/r' x y H Q):=by
 intro value slice pins s σ H x y v u Q I rx ry q hs
 rcases q with q|q
 ·exact h value slice pins s σ H x y v u Q I rx ry q hs
 ·exact h' value slice pins s σ H x y v u Q I rx ry q hs
theorem zsA(hr:IxR X r)(ha:PE X a ta)(hb:PE X b tb)(hs:zlg b):PE X (.Subscript a b pos) (tOp r ta tb):=by
 intro pins s σ H Q I h
 exact Subscript_ (zri ha hb I h λv u s2 x y H2 I2 rx ry q=>hr a b pins s2 σ H2 x y v u Q I2 rx ry q (hs _ _))
noncomputable def zsj(K:W.Frag):R2:=λx y H Q=>∃p xs i v,x= .ref p/\y= .int i/\SqL K H p xs/\atI xs i=some v/\Q v H
noncomputable def zrX(K:W.Frag):R2:=λx y H Q=>∃p xs i v,x= .ref p/\y= .int i/\SqT K H p xs/\atI xs i=some v/\Q v H
noncomputable def zse:R2:=λx y H Q=>∃z i c,x= .str z/\y= .int i/\z.length<=sizeLine/\atI z.cps.toList i=some c/\Q (.str ⟨#[c]⟩) H
theorem zag:IxR X (zsj X.K):=by
 intro value slice pins s σ H x y v u Q I rx ry h hs
 obtain⟨p,xs,i,z,rfl,rfl,hq,he,q⟩:=h
 cases rx
 obtain⟨t,rfl⟩:=ry
 obtain⟨its,r,pl,hz⟩:=I.list hq
 obtain⟨j,h1,h2,h3,h4,h5⟩:=zhR he
 obtain⟨w,ew,rw'⟩:=r.get h2
 have hl:=r.length
 have hn:=zfw
 have fin:EP X pins σ Q w s:=⟨z,H,I,rw',q⟩
 by_cases h0:0<=i
 ·have hj:i.toNat=j:=by
   rw[seqIndex_of h0 h5] at h1
   exact U1 h1
  exact item_listR pl.isList h0 () (by rw[hj];simpa using ew) fin hs
 ·have hj:(i+(its.toArray.size:Int)).toNat=j:=by
   rw[seqIndex_neg () h4] at h1
   rw[K1,←hl]
   exact U1 h1
  exact subscriptTail_builtinR (x:=w) pl.isList.typeIs slot_list_getitem.lookup
   (wpAny_getItem_list_neg (Q:=λr s'=>r=w/\EP X pins σ Q r s') pl.isList () (by rw[K1]<;>lia) () (by rw[hj];simpa using ew) ⟨rfl,fin⟩) hs
theorem zm:IxR X (zrX X.K):=by
 intro value slice pins s σ H x y v u Q I rx ry h hs
 obtain⟨p,xs,i,z,rfl,rfl,hq,he,q⟩:=h
 cases rx
 obtain⟨t,rfl⟩:=ry
 obtain⟨its,r,pl,hz⟩:=I.tuple hq
 obtain⟨j,h1,h2,h3,h4,h5⟩:=zhR he
 obtain⟨w,ew,rw'⟩:=r.get h2
 have hl:=r.length
 have hn:=zfw
 have fin:EP X pins σ Q w s:=⟨z,H,I,rw',q⟩
 exact subscriptTail_builtinR (x:=w) pl.typeIs slot_tuple_getitem.lookup
  (getItem_tuple (j:=j) (Q:=λr s'=>r=w/\EP X pins σ Q r s') pl () () (by rw[K1,←hl];exact h1) (by simpa using ew) ⟨rfl,fin⟩) hs
theorem zn1:IxR X zse:=by
 intro value slice pins s σ H x y v u Q I rx ry h hs
 obtain⟨z,i,c,rfl,rfl,hz,he,q⟩:=h
 obtain⟨t,rfl⟩:=rx
 obtain⟨t',rfl⟩:=ry
 obtain⟨j,h1,h2,h3,h4,h5⟩:=zhR he
 have hl:z.cps.toList.length=z.length:=by simp[Str.length]
 rw[hl] at h1 h4 h5
 have hn:=zfw
 exact tail_any (typeIs_str s z t) slot_str_getitem.lookup (getItem_str (c:=c) (by
  have e1:decide (i< -(2^63:Int))=false:=A1 ()
  have e2:decide (i≥2^63)=false:=A1 ()
  rw[e1,e2,Bool.or_false]) (by rw[h1];simpa using h2) ⟨.str ⟨#[c]⟩,H,I.tok _,⟨_,rfl⟩,q⟩) hs
noncomputable def rIx(K:W.Frag):R2:=λx y H Q=>zsj K x y H Q\/zrX K x y H Q\/zse x y H Q
theorem zkb:IxR X (rIx X.K):=zag.or (zm.or zn1)
theorem zj1(its:List Value)(n j:Nat)(u:Value):Obj.mapSeq (·.setIfInBounds j u) {cls:= .type "list",data:= .seq its.toArray n}={cls:= .type "list",data:= .seq (its.set j u).toArray n}:=by
 simp[Obj.mapSeq]
theorem Inv.lst{pins:List (Addr×Obj)}{σ:St}{H:Hp}{s:Shared}{p:Addr}{xs:List V}(I:Inv X pins σ H s)(h:H p=some (.lst xs)):
 ∃(its:List Value) (n:Nat),Vals xs its/\s.heap.get? p=some {cls:= .type "list",data:= .seq its.toArray n}/\xs.length<=sizeLine:=by
 obtain⟨z,its,n,r,e⟩:=I.hok p _ h
 exact⟨its,n,r,e,z⟩
theorem Inv.lstUpd{n':Nat}{f:Obj->Obj}(I:Inv X pins σ H s)(h:H p=some (.lst xs))
 (ho:s.heap.get? p=some {cls:= .type "list",data:= .seq its.toArray n}) (hf:f {cls:= .type "list",data:= .seq its.toArray n}={cls:= .type "list",data:= .seq its'.toArray n'}) (r:Vals ys its') (hz:ys.length<=sizeLine) (t:Nat):
 Inv X pins σ (upd H p (.lst ys)) {s with heap:=s.heap.update p f,toks:=t}:=by
 have e:(s.heap.update p f).get? p=some {cls:= .type "list",data:= .seq its'.toArray n'}:=by
  rw[Heap.get?_update_self f ho (by rw[hf]<;>rfl),hf]
 refine I.write (x:=p) (e:=p) (by rw[h];trivial) (.inl rfl) (λb u hb q=>(Heap.get?_update_other _ _ (Ne.symm hb)).trans q) ⟨_,e⟩ ?_
 exact⟨hz,its',n',r,e⟩
def zsf:V->V->V->Hp->(Hp->Prop)->Prop:=λo i v H Q=>∃p xs k j,o= .ref p/\i= .int k/\H p=some (.lst xs)/\ixN xs.length k=some j/\Q (upd H p (.lst (xs.set j v)))
theorem zgC:zrP X zsf:=by
 intro pins s σ H o i v ov iv u Q I ro ri rv h
 obtain⟨p,xs,k,j,rfl,rfl,hp,hj,q⟩:=h
 cases ro
 obtain⟨t,rfl⟩:=ri
 obtain⟨its,n,r,ho,hz⟩:=I.lst hp
 obtain⟨h1,h2,h3,h4⟩:=zlO hj
 have hl:=r.length
 have hn:=zfw
 have I':Inv X pins σ (upd H p (.lst (xs.set j v))) {s with heap:=s.heap.update p (Obj.mapSeq (·.setIfInBounds j u))}:=
  I.lstUpd hp ho (zj1 its n j u) (r.set rv j) (by rw[List.length_set];exact hz) s.toks
 by_cases h0:0<=k
 ·have hk:k.toNat=j:=by
   rw[seqIndex_of h0 h4] at h1
   exact U1 h1
  exact W.ki_setAt ho h0 () (by rw[K1,←hl];exact h4) (by rw[hk];exact⟨_,I',q⟩)
 ·have hk:(k+(its.toArray.size:Int)).toNat=j:=by
   rw[seqIndex_neg () h3] at h1
   rw[K1,←hl]
   exact U1 h1
  exact W.ki_setBack ho () (by rw[K1,←hl];exact h3) () (by rw[hk];exact⟨_,I',q⟩)
theorem zif(lo hi:Option Int)(n:Nat):(sliceBounds lo hi none n).1=((sIx n 0 lo:Nat):Int)/\(sliceBounds lo hi none n).2.1=((sIx n n hi:Nat):Int)/\(sliceBounds lo hi none n).2.2=1:=by
 refine⟨?_,?_,rfl⟩
 ·cases lo with
  |none=>simp[sliceBounds,sIx]
  |some i=>
   simp only[sliceBounds,sIx,Option.getD_none,show(1:Int)>0 by decide,if_true]
   by_cases h:i<0
   ·simp only[h,if_true]<;>lia
   ·simp only[h,if_false]<;>lia
 ·cases hi with
  |none=>simp[sliceBounds,sIx]
  |some i=>
   simp only[sliceBounds,sIx,Option.getD_none,show(1:Int)>0 by decide,if_true]
   by_cases h:i<0
   ·simp only[h,if_true]<;>lia
   ·simp only[h,if_false]<;>lia
theorem zg3(its:List Value)(lo hi:Option Int):slicePick its.toArray lo hi none=((its.drop (sIx its.length 0 lo)).take (sIx its.length its.length hi -sIx its.length 0 lo)).toArray:=by
 obtain⟨h1,h2,h3⟩:=zif lo hi its.toArray.size
 unfold slicePick
 rw[h1,h2,h3]
 simp only[sliceRange_one,pick_run,K1]<;>rfl
def zsV(K:W.Frag):V->Option Int->Option Int->Hp->VK->Prop:=λx lo hi H Q=>∃a xs,x= .ref a/\SqL K H a xs/\∀p,H p=none->Q (.ref p) (upd H p (.lst (za9 xs lo hi)))
theorem zga:SlR X (zsV X.K):=by
 intro pins s σ H x v vl vu lo hi sl Q I rx hs pl pu h
 obtain⟨a,xs,rfl,hx,q⟩:=h
 cases rx
 obtain⟨its,r,ht,hz⟩:=I.list hx
 have hlen:=r.length
 refine⟨"list",_,slot_list_getitem.lookup,ht.isList.typeIs,?_⟩
 refine wpAny_getItem_list_slice ht.isList hs pl pu .none `n3 ?_ (by rw[K1]<;>lia)
 rw[zg3,←hlen]
 refine⟨.ref s.heap.objs.size,_,I.laid (t':=s.toks) (o:= .lst (za9 xs lo hi)) (λb ob q=>C0 _ q) (O0 _) ?_,rfl,q _ (I.hok.fresh (O0 _))⟩
 exact⟨J1 (zfV xs lo hi) hz,_,0,(r.drop (sIx xs.length 0 lo)).take (sIx xs.length xs.length hi -sIx xs.length 0 lo),Q0 _ rfl⟩
noncomputable def ze3:V->Bool
 | .non=>true
 | .bl _=>true
 | .int _=>true
 | .str _=>true
 |_=>false
noncomputable def eqV:V->V->Bool
 | .non, .non=>true
 | .bl a, .bl b=>a==b
 | .bl a, .int b=>(if a then 1 else 0)==b
 | .int a, .bl b=>a==(if b then 1 else 0)
 | .int a, .int b=>a==b
 | .str a, .str b=>a==b
 |_,_=>false
theorem zrx{y x:V}{v:Value}(ry:RelV y u)(rx:RelV x v)(fy:ze3 y=true)(fx:ze3 x=true):SeqAt.EqAt A s u v (eqV y x):=by
 cases y with
 |non=>
  cases ry
  cases x with
  |non=>cases rx;exact SeqAt.EqAt.same _
  |bl b=>cases rx;exact SeqAt.EqAt.none_bool b
  |int b=>obtain ⟨t,rfl⟩:=rx;exact SeqAt.EqAt.none_int b t
  |str b=>obtain ⟨t,rfl⟩:=rx;exact SeqAt.EqAt.none_str b t
  |_=>exact absurd (show false=true from fx) A2
 |bl a=>
  cases ry
  cases x with
  |non=>cases rx;exact SeqAt.EqAt.bool_none a
  |bl b=>cases rx;exact SeqAt.EqAt.bool_bool a b
  |int b=>obtain ⟨t,rfl⟩:=rx;exact SeqAt.EqAt.bool_int a b t
  |str b=>obtain ⟨t,rfl⟩:=rx;exact SeqAt.EqAt.bool_str a b t
  |_=>exact absurd (show false=true from fx) A2
 |int a=>
  obtain⟨t',rfl⟩:=ry
  cases x with
  |non=>cases rx;exact SeqAt.EqAt.int_none a t'
  |bl b=>cases rx;exact SeqAt.EqAt.int_bool a t' b
  |int b=>obtain ⟨t,rfl⟩:=rx;exact SeqAt.EqAt.int_int a t' b t
  |str b=>obtain ⟨t,rfl⟩:=rx;exact SeqAt.EqAt.int_str a t' b t
  |_=>exact absurd (show false=true from fx) A2
 |str a=>
  obtain⟨t',rfl⟩:=ry
  cases x with
  |non=>cases rx;exact SeqAt.EqAt.str_none a t'
  |bl b=>cases rx;exact SeqAt.EqAt.str_bool a t' b
  |int b=>obtain ⟨t,rfl⟩:=rx;exact SeqAt.EqAt.str_int a t' b t
  |str b=>obtain ⟨t,rfl⟩:=rx;exact SeqAt.EqAt.str_str a t' b t
  |_=>exact absurd (show false=true from fx) A2
 |_=>exact absurd (show false=true from fy) A2
noncomputable def eqU(x:V)(u:Value):Bool:=match u with
 | .none=>eqV .non x
 | .bool b=>eqV (.bl b) x
 | .int i _=>eqV (.int i) x
 | .str z _=>eqV (.str z) x
 |_=>false
theorem znP{x y:V}(r:RelV y u)(f:ze3 y=true):eqU x u=eqV y x:=by
 cases y with
 |non=>cases r;rfl
 |bl b=>cases r;rfl
 |int i=>obtain ⟨t,rfl⟩:=r;rfl
 |str z=>obtain ⟨t,rfl⟩:=r;rfl
 |_=>exact absurd (show false=true from f) A2
theorem zeS{x:V}:∀{xs:List V} {us:List Value},Vals xs us->xs.all ze3=true->us.any (eqU x)=xs.any λy=>eqV y x
 |_,_, .nil,_=>rfl
 |y::xs,u::us, .cons r t,f=>by
  rw[List.all_cons,L0] at f
  rw[List.any_cons,List.any_cons,znP r f.1,zeS t f.2]
theorem zd9{A:Around}{s:Shared}{x:V}{v:Value}(rx:RelV x v)(fx:ze3 x=true):∀{xs:List V} {us:List Value},Vals xs us->xs.all ze3=true->∀u∈us,SeqAt.EqAt A s u v (eqU x u)
 |_,_, .nil,_=>λu hu=>by cases hu
 |y::xs,u::us, .cons r t,f=>λu' hu=>by
  rw[List.all_cons,L0] at f
  rcases K0.mp hu with rfl|hu
  ·rw[znP r f.1];exact zrx r rx f.1 fx
  ·exact zd9 rx fx t f.2 u' hu
noncomputable def inV(x:V)(xs:List V):Bool:=xs.any λy=>eqV y x
noncomputable def rIn(K:W.Frag)(neg:Bool):R2:=λx y H Q=>∃p xs,y= .ref p/\(SqL K H p xs\/SqT K H p xs)/\ze3 x=true/\xs.all ze3=true/\Q (.bl (if neg then !inV x xs else inV x xs)) H
theorem zen:OpR X (compareOp .In) (rIn X.K false):=by
 intro pins s σ H x y v u Q I rx ry h
 obtain⟨p,xs,rfl,hq,fx,fs,q⟩:=h
 cases ry
 rcases hq with hq|hq
 ·obtain ⟨its,r,pl,hz⟩:=I.list hq
  refine SeqAt.in_listAt (eqU x) pl.isList (λw hw=>zd9 rx fx r fs w (by simpa using hw)) ⟨.bl _,H,I,rfl,?_⟩
  rw[show its.toArray.any (eqU x)=its.any (eqU x) by simp,zeS r fs]
  exact q
 ·obtain ⟨its,r,pl,hz⟩:=I.tuple hq
  refine SeqAt.in_tupleAt (eqU x) pl (λw hw=>zd9 rx fx r fs w (by simpa using hw)) ⟨.bl _,H,I,rfl,?_⟩
  rw[show its.toArray.any (eqU x)=its.any (eqU x) by simp,zeS r fs]
  exact q
theorem zcp:OpR X (compareOp .NotIn) (rIn X.K true):=by
 intro pins s σ H x y v u Q I rx ry h
 obtain⟨p,xs,rfl,hq,fx,fs,q⟩:=h
 cases ry
 rcases hq with hq|hq
 ·obtain ⟨its,r,pl,hz⟩:=I.list hq
  refine SeqAt.notIn_listAt (eqU x) pl.isList (λw hw=>zd9 rx fx r fs w (by simpa using hw)) ⟨.bl _,H,I,rfl,?_⟩
  rw[show its.toArray.any (eqU x)=its.any (eqU x) by simp,zeS r fs]
  exact q
 ·obtain ⟨its,r,pl,hz⟩:=I.tuple hq
  refine SeqAt.notIn_tupleAt (eqU x) pl (λw hw=>zd9 rx fx r fs w (by simpa using hw)) ⟨.bl _,H,I,rfl,?_⟩
  rw[show its.toArray.any (eqU x)=its.any (eqU x) by simp,zeS r fs]
  exact q
theorem zh4:CallR X (.builtin "len") (λxs H Q=>∃p ys,xs=[.ref p]/\(SqL X.K H p ys\/SqT X.K H p ys)/\Q (.int ys.length) H):=by
 intro pins s σ H xs us Q I r h
 obtain⟨p,ys,rfl,hq,q⟩:=h
 obtain⟨u,rfl,rx⟩:=zb7 r
 cases rx
 have hn:=zfw
 rcases hq with hq|hq
 ·obtain ⟨its,r',pl,hz⟩:=I.list hq
  have hlen:=r'.length
  exact Calls.call_len_list pl.isList (by simp only[K1]<;>lia) ⟨.int ys.length,H,I.tok _,⟨s.toks+1,by rw[K1,hlen]⟩,q⟩
 ·obtain ⟨its,r',pl,hz⟩:=I.tuple hq
  have hlen:=r'.length
  exact len_tuple pl (by simp only[K1]<;>lia) ⟨.int ys.length,H,I.tok _,⟨s.toks+1,by rw[K1,hlen]⟩,q⟩
theorem zis:CallR X (.builtin "len") (λxs H Q=>∃z,xs=[.str z]/\z.length<=sizeLine/\Q (.int z.length) H):=by
 intro pins s σ H xs us Q I r h
 obtain⟨z,rfl,hz,q⟩:=h
 obtain⟨u,rfl,t,rfl⟩:=zb7 r
 have hn:=zfw
 exact len_str () ⟨.int z.length,H,I.tok _,⟨_,rfl⟩,q⟩
theorem CallR.or{f:Value}{r r':List V->Hp->VK->Prop}(h:CallR X f r)(h':CallR X f r'):CallR X f (λxs H Q=>r xs H Q\/r' xs H Q):=by
 intro pins s σ H xs us Q I rs q
 rcases q with q|q
 ·exact h pins s σ H xs us Q I rs q
 ·exact h' pins s σ H xs us Q I rs q
theorem zfl:CallR X (.type "list") (λxs H Q=>∃p ys,xs=[.ref p]/\(SqL X.K H p ys\/SqT X.K H p ys)/\∀l,H l=none->Q (.ref l) (upd H l (.lst ys))):=by
 intro pins s σ H xs us Q I r h
 obtain⟨p,ys,rfl,hq,q⟩:=h
 obtain⟨u,rfl,rx⟩:=zb7 r
 cases rx
 have fin:∀(its:List Value),Vals ys its->ys.length<=sizeLine->∀(h':Heap) (c':Nat),(∀b o',s.heap.get? b=some o'->h'.get? b=some o')->
  h'.get? s.heap.objs.size=some {cls:= .type "list",dict:=none,data:= .seq its.toArray c',slots:= #[]}->EP X pins σ Q (.ref s.heap.objs.size) {s with heap:=h'}:=λits r' hz h' c' kp e=>
  ⟨.ref s.heap.objs.size,_,I.laid (t':=s.toks) kp (O0 _) (show ObjOk X.prog X.w _ h' _ (.lst ys)from⟨hz,its,c',r',e⟩),rfl,q _ (I.hok.fresh (O0 _))⟩
 rcases hq with hq|hq
 ·obtain ⟨its,r',pl,hz⟩:=I.list hq
  have hlen:=r'.length
  obtain⟨o,ho,hc,n,hd⟩:=pl.isList
  exact call_list_seq p (.inl rfl) ho hc hd (λh' c' kp e=>fin its r' hz h' c' kp e) (by simp only[K1]<;>lia)
 ·obtain ⟨its,r',pl,hz⟩:=I.tuple hq
  have hlen:=r'.length
  obtain⟨o,ho,hc,n,hd⟩:=pl
  exact call_list_seq p (.inr rfl) ho hc hd (λh' c' kp e=>fin its r' hz h' c' kp e) (by simp only[K1]<;>lia)
theorem zaf:CallR X (.type "tuple") (λxs H Q=>∃p ys,xs=[.ref p]/\((SqL X.K H p ys/\∀l,H l=none->Q (.ref l) (upd H l (.tup ys)))\/(SqT X.K H p ys/\Q (.ref p) H))):=by
 intro pins s σ H xs us Q I r h
 obtain⟨p,ys,rfl,h⟩:=h
 obtain⟨u,rfl,rx⟩:=zb7 r
 cases rx
 rcases h with⟨hq,q⟩|⟨hq,q⟩
 ·obtain ⟨its,r',pl,hz⟩:=I.list hq
  have hlen:=r'.length
  refine call_tuple_list pl.isList (λh' kp=>?_) (by simp only[K1]<;>lia)
  have I1:Inv X pins σ H {s with heap:=h'}:=I.kept (t':=s.toks) kp
  have I2:Inv X pins σ (upd H h'.objs.size (.tup ys)) {s with heap:=h'.push {cls:= .type "tuple",data:= .seq its.toArray}}:=
   I1.laid (t':=s.toks) (λb o e=>C0 _ e) (O0 _) (show ObjOk X.prog X.w _ _ _ (.tup ys)from⟨hz,its,r',IsTup.new _ _,NoDict.new rfl (Q0 _ rfl)⟩)
  exact⟨.ref h'.objs.size,_,I2,rfl,q _ (I1.hok.fresh (O0 _))⟩
 ·obtain ⟨its,r',pl,hz⟩:=I.tuple hq
  exact call_tuple_same pl ⟨.ref p,H,I,rfl,q⟩
def tyV(K:W.Frag)(T:String)(x:V)(H:Hp):Prop:=match x with
 | .str _=>T="str"
 | .int _=>T="int"
 | .ref p=>(T="list"/\∃xs,SqL K H p xs)\/(T="tuple"/\∃o,K.lookup p=some o/\o.cls= .type "tuple"/\o.dict=none)\/
    (T="dict"/\((∃kvs,H p=some (.dK kvs))\/∃kvs,H p=some (.dT kvs)))\/(T="set"/\∃S n,H p=some (.set S n))\/(T="tuple"/\∃xs,H p=some (.tup xs))
 |_=>False
theorem zrh{x:V}{v:Value}(I:Inv X pins σ H s)(r:RelV x v)(ty:tyV X.K T x H):
 s.TypeIs v T/\∀a,v= .ref a->∃ob,s.heap.get? a=some ob/\ob.dict=none:=by
 cases x with
 |str z=>
  obtain⟨t,rfl⟩:=r
  cases(show T="str"from ty)
  exact⟨typeIs_str s z t,λ_ e=>nomatch e⟩
 |int i=>
  obtain⟨t,rfl⟩:=r
  cases(show T="int"from ty)
  exact⟨typeIs_int s i t,λ_ e=>nomatch e⟩
 |ref p=>
  cases r
  rcases ty with⟨rfl,xs,hq⟩|⟨rfl,o,hk,hc,hd⟩|⟨rfl,hk⟩|⟨rfl,S,n,hk⟩|⟨rfl,xs,hk⟩
  ·obtain ⟨its,_,pl,_⟩:=I.list hq
   refine⟨pl.isList.typeIs,λa e=>?_⟩
   cases e
   obtain⟨o,n,e,c,hd,_⟩:=pl
   exact⟨o,e,hd⟩
  ·refine ⟨⟨o,I.kIn p o hk,hc⟩,λa e=>?_⟩
   cases e
   exact⟨o,I.kIn _ o hk,hd⟩
  ·have z:∃o,s.heap.get? p=some o/\o.ExactDict:=by
    rcases hk with⟨kvs,hk⟩|⟨kvs,hk⟩
    ·obtain ⟨_,_,_,_,o,_,_,e,ex,_⟩:=I.hok p _ hk
     exact⟨o,e,ex⟩
    ·obtain ⟨_,_,_,_,o,_,_,e,ex,_⟩:=I.hok p _ hk
     exact⟨o,e,ex⟩
   obtain⟨o,e,ex⟩:=z
   refine⟨⟨o,e,ex.1⟩,λa e2=>?_⟩
   cases e2
   exact⟨o,e,ex.2.1⟩
  ·obtain ⟨o,_,_,_,e,ex,_⟩:=I.hok p _ hk
   refine⟨⟨o,e,ex.1⟩,λa e2=>?_⟩
   cases e2
   exact⟨o,e,ex.2.1⟩
  ·obtain ⟨_,_,_,⟨o,e,c,_⟩,nd⟩:=I.hok p _ hk
   refine⟨⟨o,e,c⟩,λa e2=>?_⟩
   cases e2
   exact⟨o,e,nd o e⟩
 |_=>exact False.elim ty
def tBM(K:W.Frag)(T:String)(r:V->List V->Hp->VK->Prop)(to:TE)(t:TA):TE:=λσ H Q=>to σ H λx H1=>tyV K T x H1/\t σ H1 λxs H2=>r x xs H2 Q
variable{o:Expr}{to:TE}{t:TA}{id:String}{r:V->List V->Hp->VK->Prop}
theorem zsN(pa:PlainAttrs T)(slot:Slot T name id)(hty:typeOf (.builtin id)=pure (.type "method_descriptor"))(hm:MtR X id r)(ho:PE X o to)(ha:PA X (e::es) t)
 (hbase:autoParam (attributeBase o name X.env (eval o X.env)=eval o X.env) u4)
 (hfew:autoParam (((backTo cpos (starEach (e::es) X.env)).all (λx=>!x.1)&&(backToKw cpos (keywordEach [] X.env)).all (λx=>x.1.isSome)
   &&decide ((e::es).length+([]:List Keyword).length+(if([]:List Keyword).isEmpty then 0 else 1)<30))=true) u4)
 (hline:autoParam ((apos.endLine==cpos.line)=true) u4) (hs:autoParam (starEach (e::es) X.env=(false,eval e X.env)::starEach es X.env) u4) (hplain:autoParam ((backTo cpos (starEach es X.env)).any (·.1)=false) u4):
 PE X (.Call (.Attribute o name apos) (e::es) [] cpos) (tBM X.K T r to t):=by
 intro pins s σ H Q I h
 refine wpAny_Call_method_late hbase hfew hline rfl (thn (ho pins s σ H _ I h) λv s1 zq=>?_)
 obtain⟨x,H1,I1,r1,ty,q1⟩:=zq
 obtain⟨h1,h2⟩:=zrh I1 r1 ty
 refine⟨T,id,pa,slot,hty,h1,h2,?_⟩
 have hA:=ha cpos pins s1 σ H1 _ I1 q1
 rw[hs] at hA⊢
 refine Calls.callWith_builtin (by show(false||(backTo cpos (starEach es X.env)).any (·.1))=false;rw[hplain]<;>rfl) (Calls.evalArgs_plain ?_)
 refine thn hA λus s2 zq=>?_
 obtain⟨vs,H2,I2,r2,q2⟩:=zq
 exact hm pins s2 σ H2 x vs v us Q I2 r1 r2 q2
end
def MtM(X:Cx)(id:String)(r:V->List V->Hp->VK->Prop):Prop:=
 ∀(pins:List (Addr×Obj)) (s:Shared) (σ:St) (H:Hp) (x:V) (xs:List V) (v:Value) (us:List Value) (Q:VK),Inv X pins σ H s->RelV x v->Vals xs us->r x xs H Q->
  wpAny `Y4 X.A (call (.builtin id) (v::us)) (EP X pins σ Q) X.xe s
theorem Vals.one{x:V}(h:Vals [x] us):∃u,us=[u]/\RelV x u:=by
 cases h with
 |cons r t=>cases t;exact⟨_,rfl,r⟩
theorem Vals.two{x y:V}(h:Vals [x,y] us):∃u v,us=[u,v]/\RelV x u/\RelV y v:=by
 cases h with
 |cons r t=>
  cases t with
  |cons q t=>cases t;exact⟨_,_,rfl,r,q⟩
theorem Vals.rep(h:Vals xs us):∀k:Nat,Vals (List.replicate k xs).flatten (List.replicate k us).flatten
 |0=> .nil
 |k+1=>by
  rw[E3,E3,List.flatten_cons,List.flatten_cons]
  exact Vals.append h (Vals.rep h k)
theorem zhD(its:List Value):∀(k:Nat) (acc:List Value),
 List.foldl (λx1 x2=>x1 ++x2) acc.toArray (List.replicate k its.toArray)=(acc ++(List.replicate k its).flatten).toArray
 |0,acc=>`n3
 |k+1,acc=>by
  have e:acc.toArray ++its.toArray=(acc ++its).toArray:=`n3
  have e2:(acc ++its)++(List.replicate k its).flatten=acc ++(List.replicate (k+1) its).flatten:=by
   rw[E3,List.flatten_cons,List.append_assoc]
  rw[←e2,←zhD its k (acc ++its),←e,E3,List.foldl_cons]
section
variable{b:Addr}
theorem Inv.lset{f:Array Value->Array Value}(I:Inv X pins σ H s)(hH:H l=some (.lst xs))
 (e:s.heap.get? l=some {cls:= .type "list",data:= .seq its.toArray n}) (hf:f its.toArray=its'.toArray) (hv:Vals ys its') (hz:ys.length<=sizeLine):
 Inv X pins σ (upd H l (.lst ys)) {s with heap:=s.heap.update l (Obj.mapSeq f),toks:=t'}:=by
 have q:=IsL.update e f
 rw[hf] at q
 refine I.write (x:=l) (e:=l) (by rw[hH];exact trivial) (.inl rfl) (λb' u hb hu=>(Heap.get?_update_other s.heap (Obj.mapSeq f) (Ne.symm hb)).trans hu) ⟨_,q⟩ ?_
 exact⟨hz,its',_,hv,q⟩
theorem Inv.lnew(I:Inv X pins σ H s)(hv:Vals ys its)(hz:ys.length<=sizeLine):
 Inv X pins σ (upd H s.heap.objs.size (.lst ys)) {s with heap:=s.heap.push {cls:= .type "list",data:= .seq its.toArray},toks:=t'}:=
 I.laid (λ_ _ q=>C0 _ q) (O0 _) ⟨hz,its,0,hv,Q0 _ rfl⟩
theorem Inv.fresh(I:Inv X pins σ H s):H s.heap.objs.size=none:=I.hok.fresh (O0 _)
theorem Inv.lstM(I:Inv X pins σ H s)(hH:H l=some (.lst xs)):xs.length<=sizeLine/\∃(its:List Value) (n:Nat),Vals xs its/\xs.length=its.length/\s.heap.get? l=some {cls:= .type "list",data:= .seq its.toArray n}:=by
 obtain⟨z,its,n,r,e⟩:=I.hok l _ hH
 exact⟨z,its,n,r,r.length,e⟩
theorem zjr(h:n<=sizeLine):Builtin.List.listTooLong n=false:=by
 unfold Builtin.List.listTooLong
 exact A1 ()
end
def zp5:V->List V->Hp->VK->Prop:=λx vs H Q=>∃l xs y,x= .ref l/\vs=[y]/\H l=some (.lst xs)/\xs.length<sizeLine/\Q .non (upd H l (.lst (xs ++ [y])))
theorem zaV:MtM X "list.append" zp5:=by
 intro pins s σ H x vs v us Q I rx rv h
 obtain⟨l,xs,y,rfl,rfl,hH,hz,q⟩:=h
 cases rx
 obtain⟨u,rfl,ru⟩:=rv.one
 obtain⟨z,its,n,r,hl,e⟩:=I.lstM hH
 refine call_meets F.slot_list_append ⟨_,e,rfl⟩ F.entry_list_append (F.args_list_append_2 _ _) (PySem.list_append l its.toArray n u (by rw[K1];lia)) ⟨e,?_⟩
 refine⟨.non,_,I.lset (its':=its ++ [u]) hH e `n3 (r.append (.cons ru .nil)) ?_,rfl,q⟩
 rw[W0,List.length_singleton]
 lia
def zpe:V->List V->Hp->VK->Prop:=λx vs H Q=>∃l b xs zs,x= .ref l/\vs=[.ref b]/\H l=some (.lst xs)/\H b=some (.lst zs)/\xs.length+zs.length<=sizeLine/\Q .non (upd H l (.lst (xs ++zs)))
theorem mt_extend:MtM X "list.extend" zpe:=by
 intro pins s σ H x vs v us Q I rx rv h
 obtain⟨l,b,xs,zs,rfl,rfl,hH,hB,hz,q⟩:=h
 cases rx
 obtain⟨u,rfl,ru⟩:=rv.one
 cases ru
 obtain⟨z,its,n,r,hl,e⟩:=I.lstM hH
 obtain⟨z2,its2,n2,r2,hl2,e2⟩:=I.lstM hB
 have hsz:its.toArray.size+its2.toArray.size<=sizeLine:=by rw[K1,K1];lia
 have hlong:¬(!its.toArray.isEmpty&&Builtin.List.listTooLong (its.toArray.size+its2.toArray.size))=true:=by
  rw[zjr hsz,F3]
  exact A2
 refine call_meets F.slot_list_extend ⟨_,e,rfl⟩ F.entry_list_extend (F.args_list_extend_2 _ _)
  (AutoSeq1.list_extend_list_list_0 l its.toArray n b its2.toArray n2 hlong (by rw[K1];lia) ()) ⟨e,e2,?_⟩
 refine⟨.non,_,I.lset (its':=its ++its2) hH e `n3 (r.append r2) ?_,rfl,q⟩
 rw[W0]
 lia
noncomputable def zsR:R2:=λx y H Q=>∃l b xs zs,x= .ref l/\y= .ref b/\H l=some (.lst xs)/\H b=some (.lst zs)/\xs.length+zs.length<=sizeLine/\∀p,H p=none->Q (.ref p) (upd H p (.lst (xs ++zs)))
theorem zdE:OpR X (binaryOp .Add) zsR:=by
 intro pins s σ H x y v u Q I rx ry h
 obtain⟨l,b,xs,zs,rfl,rfl,hH,hB,hz,q⟩:=h
 cases rx
 cases ry
 obtain⟨z,its,n,r,hl,e⟩:=I.lstM hH
 obtain⟨z2,its2,n2,r2,hl2,e2⟩:=I.lstM hB
 refine P.add_list e e2 ?_ (by rw[K1,K1];lia)
 have ea:its.toArray ++its2.toArray=(its ++its2).toArray:=`n3
 rw[ea]
 exact⟨.ref _,_,I.lnew (t':=s.toks) (r.append r2) (by rw[W0];lia),rfl,q _ I.fresh⟩
noncomputable def zsZ:R2:=λx y H Q=>∃l k xs,x= .ref l/\y= .int k/\H l=some (.lst xs)/\-(2^63)<=k/\k<2^63/\xs.length*k.toNat<=sizeLine/\
 ∀p,H p=none->Q (.ref p) (upd H p (.lst (List.replicate k.toNat xs).flatten))
theorem zh6(xs:List α)(k:Nat):(List.replicate k xs).flatten.length=k*xs.length:=by
 induction k with
 |zero=>simp
 |succ k ih=>rw[E3,List.flatten_cons,W0,ih,Nat.succ_mul,Nat.add_comm]
theorem zor:OpR X (binaryOp .Mult) zsZ:=by
 intro pins s σ H x y v u Q I rx ry h
 obtain⟨l,k,xs,rfl,rfl,hH,h1,h2,hz,q⟩:=h
 cases rx
 obtain⟨t,rfl⟩:=ry
 obtain⟨z,its,n,r,hl,e⟩:=I.lstM hH
 have hlen:its.toArray.size*k.toNat<=sizeLine:=by rw[K1,←hl];exact hz
 have hcap:¬its.toArray.size*k.toNat>(2^63 -1)/8:=by
  have:(sizeLine:Nat)<=(2^63 -1)/8:=⋯
  lia
 have hfit:¬(!Builtin.List.listFitsIndex k)=true:=by
  rw[fitsIndex_both h1 h2]
  exact A2
 have hlong:¬Builtin.List.listTooLong (its.toArray.size*k.toNat)=true:=by
  rw[zjr hlen]
  exact A2
 have hnew:List.foldl (λx1 x2=>x1 ++x2) #[] (List.replicate (if its.toArray.isEmpty=true then 0 else k.toNat) its.toArray)=(List.replicate k.toNat its).flatten.toArray:=by
  have f0:∀m:Nat,List.foldl (λx1 x2=>x1 ++x2) #[] (List.replicate m its.toArray)=(List.replicate m its).flatten.toArray:=λm=>by
   have:=zhD its m []
   rw[List.nil_append] at this
   exact this
  rw[f0]
  cases its with
  |nil=>simp
  |cons a r'=>rw[Y0 `n3]
 refine wpAny_binaryOp_repeat_ref (T:="list") (U:="int") ⋯ ⟨_,e,rfl⟩ (λs'=>typeIs_int s' k t) noFill_list_mul F.fills_int_mul F.slot_int_rmul repeat_list F.slot_int_index.lookup
  (call_meets F.slot_int_rmul (typeIs_int s k t) F.entry_int_rmul (F.args_int_rmul_2 _ _) (int___rmul___int_list k t l its.toArray n)
    ⟨e,rfl,⟨_,e,rfl⟩,call_meets F.slot_list_mul ⟨_,e,rfl⟩ F.entry_list_mul (F.args_list_mul_2 _ _) (AutoListH.list___mul___list_int_3 l its.toArray n k t hfit hcap hlong) ⟨e,?_⟩⟩)
 rw[hnew]
 exact⟨.ref _,_,I.lnew (t':=s.toks) (r.rep k.toNat) (by rw[zh6,Nat.mul_comm];exact hz),rfl,q _ I.fresh⟩
section
set_option maxRecDepth 100000 in
end
section
open PySem.W PySem.Calls
theorem zf2{P:Params}:∀(ns:List Int) (vs:List Value),WellAll P h vs (ns.map WData.int)->IntsAre vs ns:=by
 intro ns
 induction ns with
 |nil=>
  intro vs w
  rw[List.map_nil] at w
  cases w
  exact .nil
 |cons n ns ih=>
  intro vs w
  rw[Y1] at w
  cases w with
  |cons a b=>
   cases a
   exact .cons _ _ (ih _ b)
theorem zmv{l:OpenLaw}(hn:l.most=some n){P:Params}{args:List WData}{vals:List Value}
 (hpre:l.row.toRowW.claim.pre args=true) (hwl:WellAll P h vals args):
 ∃a vs ns,vals=[Value.ref a]/\args=[WData.list (ns.map WData.int)]/\h.get? a=some {cls:= .type "list",data:= .seq vs.toArray}/\IntsAre vs ns/\ns.length<=n:=by
 have hsh:WShape.hasAll [] args [.list .int]=true:=(pre_splitW hpre).1
 have hc:l.pre.holds [] {args:=args}=true:=(pre_splitW hpre).2
 obtain⟨d,r,rfl,h1,h2⟩:=hasAllW_cons hsh
 obtain rfl:=hasAllW_nil h2
 obtain⟨xs,rfl,h3⟩:=hasW_list h1
 obtain⟨ns,rfl⟩:=items_int h3
 have hlen:ns.length<=n:=by
  unfold OpenLaw.pre at hc
  have h4:(WTm.not (.lt (.lit (.int (n:Int))) (.len (.arg 0)))).holds [] {args:=[.list (ns.map .int)]}=true:=by
   have h4:=(holds_andW hc).1
   rw[hn] at h4
   exact h4
  have h5:=condW_of h4 (w_not (w_lt w_lit (w_len_list (w_arg rfl))))
  rw[B0] at h5
  refine Nat.le_of_not_lt λq=>?_
  have q':(n:Int)<((ns.length:Nat):Int):=()
  first
   |(rw[N0 q'] at h5;exact absurd h5 ⋯)
   |(simp at h5;lia)
 cases hwl with
 |cons w1 w2=>
  cases w2
  cases w1 with
  |list ho hall=>exact ⟨_,_,ns,rfl,rfl,ho,zf2 ns _ hall,hlen⟩
theorem zmm(l:OpenLaw)(args:List WData):l.row.toRowW.claim.post args (.bool true) args=true:=
 postW_of (r:=l.row.toRowW) (X:=(true==true))
  (show WShape.has [] (.bool true) .bool=true by first|rfl|decide|simp[WShape.has,WShape.arms,WShape.armsAll])
  (show(WTm.eq .res (.lit (.bool true))).value [] {args:=args,res:=some (.bool true),after:=args}=some (.bool (true==true))from w_eq_bool (w_res rfl) w_lit) rfl
theorem attach_call{l:OpenLaw}{q:Program}{d:DefRec}
 (hn:l.most=some n) (hdf:d.params.defaults=[])
 (call:∀(w:World) (s₀ s₁:Shared) (mg mb:Str->Option Value) (fa:Addr) (o:Obj) (pm cd doc:Value) (a:Addr) (vs:List Value) (ns:List Int),
   Ground q loose [] XP w s₀ mg mb s₁.heap->YP w s₁.heap->
   s₁.heap.get? fa=some o->o.data= .func (docDef d.name d.params d.body d.scope pm cd doc)->s₁.heap.CodeRec cd d.name->mg d.name=some (.ref fa)->
   s₁.heap.get? a=some {cls:= .type "list",data:= .seq vs.toArray}->IntsAre vs ns->ns.length<=n->s₁.gens= #[]->
   codeAny (model l.prog w) callerA (.call (.ref fa) ⟨[.ref a],[]⟩) (λr s'=>r= .ok (.ret (.bool true))/\OldK s₁.heap s'.heap/\s'.os=s₁.os/\AllBare s'.gens) s₁):
 WalkO q loose XP YP l.row.toRowW d [] (λf vs=>PySem.call f vs):=by
 intro w s₀ s₁ mg mb G Y fa o pm cd doc dV kV ho hd hcd hD hmg hg args vals as hpre hlay hrd hwl hlo
 obtain rfl:dV= .none:=Dflts.none hD hdf
 obtain rfl:kV= .none:=Dflts.noKw hD
 obtain⟨a,vs,ns,rfl,rfl,hobj,hints,hlen⟩:=zmv hn hpre hwl
 refine enter_call (codeAny_mono (call w s₀ s₁ mg mb fa o pm cd doc a vs ns G Y ho (fd_plain hd) hcd hmg hobj hints hlen hg) λr s' hq=>?_)
 obtain⟨rfl,h2,h3,h4⟩:=hq
 exact⟨.inl ⟨.bool true, .bool true,[],rfl,λ_=>rfl, .bool true,zmm l _,λ_=>⟨List.Pairwise.nil,λ_ hm=>(nomatch hm)⟩⟩,h2,h3,h4⟩
section
variable{K:Frag}
end
end
theorem zhM:∀{vs:List Value} {ns:List Int},IntsAre vs ns->Vals (ns.map V.int) vs
 |_,_, .nil=> .nil
 |_,_, .cons n t h=> .cons ⟨t,rfl⟩ (zhM h)
def zq0(H:Hp):Prop:=∀b,H b=none\/∃o xs,H b=some (.frz o (.lst xs))
theorem znM{mg mb:Str->Option Value}{s₁:Shared}{vs:List Value}{ns:List Int}
 (KX:K.In s₁.heap) (hns:s₁.heap.Ns mainGlobals mg) (hb:s₁.heap.Ns builtinsNs mb) (hbb:∀x:Str,x≠"__name__"->mb x=bootBuiltins x) (hlim:s₁.heap.NoLimit) (hg:s₁.gens= #[])
 (ha:s₁.heap.get? a=some {cls:= .type "list",data:= .seq vs.toArray}) (hi:IntsAre vs ns) (hl:ns.length<=sizeLine) (hr:Room k callerA)
 (F:∀base:Heap,K.In base->base.Ns mainGlobals mg->FnOk P w K mg base CX k fa fd [x] sp) (hbind:∀(s:Shared) (u:Value),BindsTo s fd ⟨[u],[]⟩ [(x,u)])
 (hsp:∀H:Hp,zq0 H->SqL K H a (ns.map V.int)->sp [.ref a] H (λv _=>v= .bl true) λ_ _ _=>False)
 (hCX:∀H e s',CX [] H s₁ (λ_ _ _=>False) e s'->False):
 codeAny (model P w) callerA (.call (.ref fa) ⟨[.ref a],[]⟩) (λr s'=>r= .ok (.ret (.bool true))/\OldK s₁.heap s'.heap/\s'.os=s₁.os/\AllBare s'.gens) s₁:=by
 have rv:=zhM hi
 have lenV:=hi.length
 have core:∀H:Hp,zq0 H->SqL K H a (ns.map V.int)->HOk P w H s₁.heap->(∀b,H b≠none->b=a)->(H a≠none->K.lookup a=none)->
  codeAny (model P w) callerA (.call (.ref fa) ⟨[.ref a],[]⟩) (λr s'=>r= .ok (.ret (.bool true))/\OldK s₁.heap s'.heap/\s'.os=s₁.os/\AllBare s'.gens) s₁:=by
  intro H hO hS hok hA hK
  have base_of:∀{b:Addr} {o:Obj},s₁.heap.get? b=some o->H b=none->(zhW s₁.heap H).get? b=some o:=λe n=>zog e n
  have noA:∀{b:Addr} {o:Obj} {es:Array DictEntry} {ep:Nat},s₁.heap.get? b=some o->o.data= .dict es ep->H b=none:=λ{b o es ep} e d=>by
   cases q:H b with
   |none=>rfl
   |some u=>
    have e':b=a:=hA b (by rw[q];simp)
    subst e'
    rw[ha] at e;cases e
    have d':Data.seq vs.toArray _=Data.dict es ep:=d
    cases d'
  have nsK:∀{b:Addr} {m:Str->Option Value},s₁.heap.Ns b m->(zhW s₁.heap H).Ns b m:=λ{b m} ⟨o,es,ep,e,d,r⟩=>⟨o,es,ep,base_of e (noA e d),d,r⟩
  have hKb:K.In (zhW s₁.heap H):=λb o e=>base_of (KX b o e) (by
   cases q:H b with
   |none=>rfl
   |some u=>
    have e':b=a:=hA b (by rw[q];simp)
    subst e'
    rw[hK (by rw[q];simp)] at e;cases e)
  have hM:Mod K mg (zhW s₁.heap H):=⟨hKb,nsK hns,⟨mb,nsK hb,hbb⟩,let⟨mc,h1,h2⟩:=hlim;⟨mc,nsK h1,h2⟩⟩
  have e0:Env0 P w K mg (zhW s₁.heap H) callerA [] s₁ H:=⟨rfl,hM,λb o e=>zpQ e,Nat.le_of_eq (zmM _ _),trivial,λb hb=>absurd (show b∈([]:List Addr)from hb) `n3,hok, .of_eq hg⟩
  refine codeAny_mono ((F _ hKb (nsK hns)).run callerA [] s₁ H ⟨[.ref a],[]⟩ [.ref a] [.ref a] _ _ hr e0 (hbind s₁ (.ref a)) (.cons rfl .nil) (hsp H hO hS)) λr s' h=>?_
  cases r with
  |error e=>exact (hCX H e s' h).elim
  |ok fl=>
   cases fl with
   |next=>exact False.elim h
   |brk=>exact False.elim h
   |cont=>exact False.elim h
   |ret u=>
    obtain⟨v,H',os,bare,un,hok',r',q⟩:=h
    have q':v= .bl true:=q
    subst q'
    obtain rfl:u=Value.bool true:=r'
    refine⟨rfl,OldK.of_keep λb o e=>?_,os,bare⟩
    cases q:H b with
    |none=>exact un.keep b o e q (by intro z;exact absurd (show b∈([]:List Addr)from z) `n3) `n3
    |some u=>
     rcases hO b with z|⟨ob,xs,z⟩
     ·rw[q] at z;cases z
     ·have z2:=un.frzs b ob _ z
      obtain⟨e1,_⟩:=hok b _ z
      obtain⟨e2,_⟩:=hok' b _ z2
      rw[e] at e1;cases e1
      exact e2
 cases hk:K.lookup a with
 |some o=>
  have e:=KX a o hk
  rw[ha] at e
  cases e
  refine core (λ_=>none) (λ_=> .inl rfl) (.inr ⟨_,vs.toArray,_,hk,rfl,rfl,rfl,by rw[K1,lenV];exact hl,by simpa using rv⟩) (λb u z=>by have z':(none:Option HO)=some u:=z;cases z') (λb z=>absurd rfl z) λz=>absurd rfl z
 |none=>
  refine core (λb=>if b=a then some (.frz {cls:= .type "list",data:= .seq vs.toArray} (.lst (ns.map V.int)))else none) (λb=>?_) (.inl (.inr ⟨{cls:= .type "list",data:= .seq vs.toArray},E1 rfl⟩)) (λb u z=>?_) (λb z=>?_) λ_=>hk
  ·by_cases hb:b=a
   ·exact .inr ⟨_,_,E1 hb⟩
   ·exact .inl (Y0 hb)
  ·by_cases hb:b=a
   ·have z':=(E1 hb).symm.trans z
    cases z'
    subst hb
    exact⟨ha,by rw[B0];exact hl,vs,_,rv,ha⟩
   ·have z':=(Y0 hb).symm.trans z
    cases z'
  ·by_cases hb:b=a
   ·exact hb
   ·exact absurd (Y0 hb) z
theorem walk_of{l:W.OpenLaw}{q:Program}{d:DefRec}{K:Params->W.Frag}{CX:World->CXT}{sp:World->Sp}
 (hn:l.most=some n) (hn2:n<=sizeLine) (hdf:d.params.defaults=[]) (hr:Room k callerA)
 (hY:∀(w:World) (h:Heap),YP w h->(K w.params).In h)
 (F:∀(w:World) (mg:Str->Option Value) (fa:Addr) (h:Heap),(K w.params).In h->h.Ns mainGlobals mg->mg d.name=some (.ref fa)->
   ∃fd:FuncData,(∀(s:Shared) (u:Value),BindsTo s fd ⟨[u],[]⟩ [(x,u)])/\
    ∀base:Heap,(K w.params).In base->base.Ns mainGlobals mg->FnOk l.prog w (K w.params) mg base (CX w) k fa fd [x] (sp w))
 (hsp:∀(w:World) (H:Hp) (a:Addr) (ns:List Int),ns.length<=n->zq0 H->SqL (K w.params) H a (ns.map V.int)->sp w [.ref a] H (λv _=>v= .bl true) λ_ _ _=>False)
 (hCX:∀(w:World) (H:Hp) (s:Shared) (e:Value) (s':Shared),CX w [] H s (λ_ _ _=>False) e s'->False):
 W.WalkO q loose XP YP l.row.toRowW d [] (λf vs=>PySem.call f vs):=by
 refine attach_call hn hdf λw s₀ s₁ mg mb fa o pm cd doc a vs ns G Y ho hd hcd hmg hobj hints hlen hg=>?_
 have KX:=hY w _ Y
 obtain⟨fd,hb,hF⟩:=F w mg fa _ KX G.T.g hmg
 exact znM KX G.T.g G.T.b G.T.builtins G.T.nolimit hg hobj hints (J1 hlen hn2) hr hF hb (λH hO hS=>hsp w H a ns hlen hO hS) λH e s'=>hCX w H s₁ e s'
noncomputable def zbm(s:Stmt):Arguments:=match s with
 | .FunctionDef _ a _ _ _ _ _ _ _ _=>a
 |_=>{posonlyargs:=[],args:=[],vararg:=none,kwonlyargs:=[],kw_defaults:=[],kwarg:=none,defaults:=[]}
noncomputable def zaS(s:Stmt):List Stmt:=match s with
 | .FunctionDef _ _ b _ _ _ _ _ _ _=>b
 |_=> []
noncomputable def zU(s:Stmt):Scope:=match s with
 | .FunctionDef _ _ _ _ _ _ sc _ _ _=>sc
 |_=>{kind:= .function,names:=[],isGenerator:=false,isCoroutine:=false}
noncomputable abbrev CX0:CXT:=λ_ _ _ _ _ _=>False
noncomputable abbrev E0:XK:=λ_ _ _=>False
theorem zoN:zid CX0 X E0:=λ_ _ _ _ _ _ _ h=>h.elim
structure Fun(K:W.Frag)(x qual:Str)(st:Stmt)(f:Addr)(fd:FuncData):Prop where
 ex:∃(oc:Value) (od:Option Addr) (kV doc pm:Value) (an:Option Addr) (cdv ct:Value) (osl:Array (Option Value)),
  fd=W.fnOf x qual (zbm st) (zaS st) (zU st) .none kV doc pm an cdv ct/\K.lookup f=some ⟨oc,od, .func fd,osl⟩/\W.codeIn K cdv qual=true
 kp:W.keepIn K (.ref f)=true
section
variable{mg:Str->Option Value}{base:Heap}
theorem Fun.ok{st:Stmt}{ps:List Str}(F:Fun K x qual st f fd)(S:FnScope N ps (zU st))(len:∀vs H Q E,sp vs H Q E->vs.length=ps.length)
 (hbody:∀(cdv:Value) (A:Around) (outer:List Env) (s:Shared) (H:Hp) (vs:List V) (Q:VK) (E:XK),Room k (A.deeper (envOfC qual (zU st) s.heap.objs.size f cdv))->sp vs H Q E->
   ∃t,PSs (zav CX0 P w K mg base N qual (zU st) f cdv A outer s H E).nox (zaS st) t/\t {nx:=λ_ H'=>Q .non H',rt:=Q} (zet N vs) H):FnOk P w K mg base CX0 (k+1) f fd ps sp:=by
 obtain⟨oc,od,kV,doc,pm,an,cdv,ct,osl,rfl,lk,hcd⟩:=F.ex
 refine zqG lk hcd S len λA outer s H vs Q E hr hsp=>?_
 obtain⟨t,h,q⟩:=hbody cdv A outer s H vs Q E hr hsp
 exact⟨t,h.nox,q⟩
theorem Fun.binds{st:Stmt}{ps:List Str}(F:Fun K x qual st f fd)
 (h:∀(kV doc pm:Value) (an:Option Addr) (cdv ct:Value) (us:List Value),us.length=ps.length->bindArgs (W.fnOf x qual (zbm st) (zaS st) (zU st) .none kV doc pm an cdv ct) ⟨us,[]⟩=pure (ps.zip us)):Binds K fd ps []:=by
 obtain⟨oc,od,kV,doc,pm,an,cdv,ct,osl,rfl,lk,hcd⟩:=F.ex
 exact .all (h kV doc pm an cdv ct)
theorem zna{st:Stmt}{kV:Value}(l:K.lookup f=some ⟨oc,od, .func (W.fnOf x qual (zbm st) (zaS st) (zU st) .none kV doc pm an cdv ct),osl⟩)
 (c:W.codeIn K cdv qual=true) (k:W.keepIn K (.ref f)=true):Fun K x qual st f (W.fnOf x qual (zbm st) (zaS st) (zU st) .none kV doc pm an cdv ct):=⟨⟨oc,od,kV,doc,pm,an,cdv,ct,osl,rfl,l,c⟩,k⟩
end
theorem zl(h:n<=1000):n<sizeLine:=Nat.lt_of_le_of_lt h ⋯
theorem zbK{c A B:Prop}[Decidable c](h1:c->A)(h2:¬c->B):if c then A else B:=by
 by_cases h:c
 ·rw[E1 h]
  exact h1 h
 ·rw[Y0 h]
  exact h2 h
def Same(H H':Hp):Prop:=∀b o,H b=some o->H' b=some o
theorem Same.refl(H:Hp):Same H H:=λ_ _ h=>h
theorem Same.trans(a:Same H H1)(b:Same H1 H2):Same H H2:=λc o h=>b c o (a c o h)
theorem Same.seq(e:Same H H')(h:SqL K H a xs):SqL K H' a xs:=by
 rcases h with(h|⟨o,h⟩)|h
 ·exact .inl (.inl (e _ _ h))
 ·exact .inl (.inr ⟨o,e _ _ h⟩)
 ·exact .inr h
set_option maxHeartbeats 4000000
noncomputable def zaq(X:Cx)(N':List Str)(scope:Scope)(cl:List (Str×Addr))(C:Addr)(s₀:Shared)(H₀:Hp)(fp:List Addr):Cx:=
 {prog:=X.prog,w:=X.w,K:=X.K,mg:=X.mg,base:=X.base,A:=X.A,N:=N',s₀:=s₀,H₀:=H₀,env:=compEnvC scope cl C X.env,outer:=X.stack,stack:=X.stack,ex:=fp,fn:=λ_=>false,
  calm:=X.calm,pn:=[],xe:=λ_ _=>False}
structure CompOk(N:List Str)(osc:Scope)(N':List Str)(src:List (Option Nat))(scope:Scope):Prop where
 kind:scope.kind= .function
 nocell:∀y∈scope.names,y.2≠ .cell
 loc:∀y∈scope.names,y.2= .local->scope.names.lookup y.1=some .local
 frees:∀y∈scope.names,y.2= .free->osc.names.lookup y.1=some .cell\/osc.names.lookup y.1=some .free
 nd:N'.Nodup
 len:src.length=N'.length
 src:∀q∈src.zip N',∀j∈q.1.toList,N[j]?=some q.2/\scope.names.lookup q.2=some .free
theorem zeK{env:Env}:∀(l:List (Str×NameKind)) (acc:List (Str×Addr)),(∀x c,acc.lookup x=some c->env.cells.lookup x=some c)->(∀y∈l,y.2= .free->∃c,env.cells.lookup y.1=some c)->
 ∃cl,(forIn l acc λ(x:Str×NameKind) (r:List (Str×Addr))=>(if(x.2==NameKind.free)=true then(cellOf env x.1>>=λa=>pure (ForInStep.yield ((x.1,a)::r)))else pure (ForInStep.yield r):Sem (ForInStep (List (Str×Addr)))))=pure cl/\
  (∀x c,cl.lookup x=some c->env.cells.lookup x=some c)/\(∀y∈l,y.2= .free->∃c,cl.lookup y.1=some c)/\(∀x c,acc.lookup x=some c->∃d,cl.lookup x=some d)
 |[],acc,h,_=>⟨acc,rfl,h,λ_ z=>(nomatch z),λx c e=>⟨c,e⟩⟩
 |(n,k)::l,acc,h,hf=>by
  by_cases hk:k= .free
  ·subst hk
   obtain⟨c,hc⟩:=hf (n, .free) Z0 rfl
   have hacc:∀x d,((n,c)::acc).lookup x=some d->env.cells.lookup x=some d:=λx d e=>by
    rw[List.lookup_cons] at e
    cases hx:x==n with
    |true=>
     rw[hx] at e
     have e1:x=n:=by simpa using hx
     have e2:c=d:=by simpa using e
     rw[e1,←e2];exact hc
    |false=>
     rw[hx] at e
     exact h x d e
   obtain⟨cl,e1,e2,e3,e4⟩:=zeK l ((n,c)::acc) hacc λy hy=>hf y (N1 _ hy)
   refine⟨cl,?_,e2,λy hy hyf=>?_,λx d e=>?_⟩
   ·rw[List.forIn_cons]
    have:cellOf env n=pure c:=by unfold cellOf;rw[hc]
    simp only[beq_self_eq_true,if_true,this,pure_bind]
    exact e1
   ·rcases K0.mp hy with rfl|hy
    ·exact e4 n c `n3
    ·exact e3 y hy hyf
   ·by_cases hx:x=n
    ·subst hx;exact e4 x c `n3
    ·have hb:(x==n)=false:=by simpa using hx
     exact e4 x d (by rw[List.lookup_cons,hb];exact e)
  ·obtain ⟨cl,e1,e2,e3,e4⟩:=zeK l acc h λy hy=>hf y (N1 _ hy)
   refine⟨cl,?_,e2,λy hy hyf=>?_,e4⟩
   ·rw[List.forIn_cons]
    have hb:(k==NameKind.free)=false:=by simpa using hk
    simp only[hb,Z3,if_false,pure_bind]
    exact e1
   ·rcases K0.mp hy with rfl|hy
    ·exact absurd hyf hk
    ·exact e3 y hy hyf
theorem zgK(hf:∀y∈scope.names,y.2= .free->∃c,env.cells.lookup y.1=some c):
 ∃cl,closureFor scope env=pure cl/\(∀x c,cl.lookup x=some c->env.cells.lookup x=some c)/\∀y∈scope.names,y.2= .free->∃c,cl.lookup y.1=some c:=by
 obtain⟨cl,e1,e2,e3,_⟩:=zeK (env:=env) scope.names [] (λ_ _ z=>by simp at z) hf
 refine⟨cl,?_,e2,e3⟩
 unfold closureFor
 refine Eq.trans ?_ (j3 (λt=>t>>=λc=>(pure c:Sem (List (Str×Addr)))) e1)
 first
  |rfl
  |(congr 1)
theorem zhV:∀{x:Str},(relabel scope env).names.lookup x=some .cell\/(relabel scope env).names.lookup x=some .free->(∀y∈scope.names,y.2≠ .cell)->(x,NameKind.free)∈scope.names:=by
 intro x h hc
 have key:∀(l:List (Str×NameKind)),(∀y∈l,y.2≠ .cell)->((l.map λ(n,k)=>if (k==NameKind.free&&env.scope.kind== .function&&env.kindOf n==some .cell)then(n,NameKind.cell)else(n,k)).lookup x=some .cell\/
  (l.map λ(n,k)=>if (k==NameKind.free&&env.scope.kind== .function&&env.kindOf n==some .cell)then(n,NameKind.cell)else(n,k)).lookup x=some .free)->(x,NameKind.free)∈l:=by
  intro l
  induction l with
  |nil=>intro _ h;simp at h
  |cons y l ih=>
   obtain⟨n,k⟩:=y
   intro hc h
   have hc':∀y∈l,y.2≠ .cell:=λy hy=>hc y (N1 _ hy)
   have hk:k≠ .cell:=hc (n,k) Z0
   rw[Y1] at h
   by_cases hx:x=n
   ·subst hx
    by_cases hf:k= .free
    ·subst hf;exact Z0
    ·exfalso
     have hb:(k==NameKind.free)=false:=by simpa using hf
     simp only[hb,Bool.false_and,Z3,if_false,List.lookup_cons,beq_self_eq_true] at h
     rcases h with h|h
     ·exact hk (U1 h)
     ·exact hf (U1 h)
   ·refine N1 _ (ih hc' ?_)
    have hb:(x==n)=false:=by simpa using hx
    by_cases hq:(k==NameKind.free&&env.scope.kind== .function&&env.kindOf n==some .cell)=true
    ·simp only[hq,if_true,List.lookup_cons,hb] at h
     exact h
    ·simp only[hq,Z3,if_false,List.lookup_cons,hb] at h
     exact h
 exact key _ hc h
theorem ziv(h:scope.names.lookup x=some .free):(relabel scope env).names.lookup x=some .cell\/(relabel scope env).names.lookup x=some .free:=by
 have key:∀(l:List (Str×NameKind)),l.lookup x=some .free->((l.map λ(n,k)=>if (k==NameKind.free&&env.scope.kind== .function&&env.kindOf n==some .cell)then(n,NameKind.cell)else(n,k)).lookup x=some .cell\/
  (l.map λ(n,k)=>if (k==NameKind.free&&env.scope.kind== .function&&env.kindOf n==some .cell)then(n,NameKind.cell)else(n,k)).lookup x=some .free):=by
  intro l
  induction l with
  |nil=>intro h;simp at h
  |cons y l ih=>
   obtain⟨n,k⟩:=y
   intro h
   rw[Y1]
   rw[List.lookup_cons] at h
   cases hx:x==n with
   |true=>
    rw[hx] at h
    have hk:k= .free:=U1 h
    subst hk
    by_cases hq:(NameKind.free==NameKind.free&&env.scope.kind== .function&&env.kindOf n==some .cell)=true
    ·simp only[hq,if_true,List.lookup_cons,hx];exact .inl trivial
    ·simp only[hq,Z3,if_false,List.lookup_cons,hx];exact .inr trivial
   |false=>
    rw[hx] at h
    by_cases hq:(k==NameKind.free&&env.scope.kind== .function&&env.kindOf n==some .cell)=true
    ·simp only[hq,if_true,List.lookup_cons,hx];exact ih h
    ·simp only[hq,Z3,if_false,List.lookup_cons,hx];exact ih h
 exact key _ h
noncomputable def zeM(src:List (Option Nat))(σ:St):St:=src.map λo=>o.bind λj=>(σ[j]?).join
section
variable{src:List (Option Nat)}{cl:List (Str×Addr)}
theorem zgq{h₁:Heap}{tk:Nat}(I:Inv X pins σ H s)(hf:∀b∈fp,zfa X pins H b)(hlt:∀b∈fp,b<s.heap.objs.size)(ok:CompOk X.N osc N' src scope)(hsc:X.env.scope=osc)
 (c1:∀x c,cl.lookup x=some c->X.env.cells.lookup x=some c) (c2:∀y∈scope.names,y.2= .free->∃c,cl.lookup y.1=some c)
 (hn:h₁.Ns s.heap.objs.size λ_=>none) (hk:∀b o,s.heap.get? b=some o->h₁.get? b=some o):
 Inv (zaq X N' scope cl s.heap.objs.size s H fp) [] (zeM src σ) H {s with heap:=h₁,toks:=tk}:=by
 have hkind:(relabel scope X.env).kind= .function:=ok.kind
 refine⟨⟨I.ok.mod,hkind,I.ok.glob,I.ok.blt,O0 _,λx y c h1 h2=>I.ok.inj x y c (c1 x c h1) (c1 y c h2),λx hx=>?_,λx c z _=>(by cases z),I.ok.hd,I.ok.frames, .inl rfl,λb hb=>?_,I.bs,J1 I.ok.bsz I.sz,λb o e hb=>?_,λb hb z=>?_,I.stack,I.stkFree⟩,
  rfl,I.bare,Un.kept hk,⟨_,hn,λi x v h1 h2 h3=>?_⟩,λx c e=>?_,I.hok.fresh (O0 _),λx c e=>I.freeC x c (c1 x c e),λp hp=>absurd (show p∈([]:List (Addr×Obj))from hp) `n3,I.hok.kept hk,?_⟩
 ·exact c2 _ (zhV (env:=X.env) (scope:=scope) (x:=x) hx ok.nocell) rfl
 ·obtain ⟨f0,f1,f2,f3,f4,f5⟩:=hf b hb
  exact⟨λz=>absurd (hlt b hb) (by rw[z];exact R3 _),λx c e=>f4 x c (c1 x c e)⟩
 ·obtain ⟨f0,f1,f2,f3,f4,f5⟩:=hf b hb
  rcases f3 with z|z
  ·exact I.ok.noex b o e z
  ·exact absurd (E2 (X0 e) (J1 I.ok.bsz z)) (R3 _)
 ·obtain ⟨f0,f1,f2,f3,f4,f5⟩:=hf b hb
  rcases K0.mp (I.stkSub b z)with q|q
  ·exact f1 q
  ·exact f2 q
 ·
  have hi:∃j,src[i]?=some (some j)/\σ[j]?=some (some v):=by
   unfold zeM at h2
   rw[V0] at h2
   cases e:src[i]? with
   |none=>rw[e] at h2;cases h2
   |some o=>
    rw[e] at h2
    cases o with
    |none=>cases h2
    |some j=>
     refine⟨j,rfl,?_⟩
     have h2':(σ[j]?).join=some v:=U1 h2
     cases e2:σ[j]? with
     |none=>rw[e2] at h2';cases h2'
     |some w=>rw[e2] at h2';exact j3 some h2'
  obtain⟨j,e1,e2⟩:=hi
  have hz:(some j,x)∈src.zip N':=by
   refine List.mem_iff_getElem?.mpr ⟨i,?_⟩
   rw[List.getElem?_zip_eq_some]
   exact⟨e1,h1⟩
  obtain⟨q1,q2⟩:=ok.src _ hz j `n3
  have hfr:=PySem.mem_of_lookup q2
  have hk0:=ok.frees _ hfr rfl
  rw[←hsc] at hk0
  obtain⟨m,hns,hl⟩:=I.loc
  obtain⟨u,r,l⟩:=hl j x v q1 e2 (hk0.elim (λz=> .inr (.inl z)) λz=> .inr (.inr z))
  refine⟨u,r,?_⟩
  rcases l with⟨l1,_⟩|⟨_,c,l2,l3⟩
  ·exfalso
   have l1':X.env.scope.names.lookup x=some .local:=l1
   rcases hk0 with z|z
   ·rw[l1'] at z;cases z
   ·rw[l1'] at z;cases z
  ·obtain ⟨d,hd⟩:=c2 _ hfr rfl
   have:d=c:=by
    have:=(c1 _ _ hd).symm.trans l2
    exact U1 this
   subst this
   obtain⟨o,ho,hod⟩:=l3
   exact .inr ⟨ziv q2,d,hd,o,hk _ _ ho,hod⟩
 ·obtain ⟨v,o,ho,hod⟩:=I.cell x c (c1 x c e)
  exact⟨v,o,hk _ _ ho,hod⟩
 ·show (zeM src σ).length=N'.length
  unfold zeM
  rw[B0]
  exact ok.len
theorem zgw{σ':St}(I:Inv X pins σ H s)(hf:∀b∈fp,zfa X pins H b)(hC:s.heap.objs.size<=C)(J:Inv (zaq X N' scope cl C s H fp) [] σ' H' s')(hs:Heap.SameBut C s'.heap h'):
 Inv X pins σ H' {s' with heap:=h'}:=by
 have nC:∀b o,s.heap.get? b=some o->b≠C:=λb o e z=>absurd (E2 (X0 e) (by rw[z];exact hC)) (R3 _)
 have B:Un (frs X.stack) fp H H' s.heap s'.heap:=J.base
 refine I.call' (ch:=fp) J.os ⟨λb o e n hb hx=>(hs.2 b (nC b o e)).trans (B.keep b o e n hb hx),λb o e n hb hx=>?_,B.free,λb o e hx=>?_,B.tups,B.frzs,B.tbls⟩ (λb ob e=>?_) J.bare λb hb=>?_
 ·obtain ⟨sl,e1⟩:=B.slot b o e n hb hx
  exact⟨sl,(hs.2 b (nC b o e)).trans e1⟩
 ·obtain ⟨o',e1⟩:=B.there b o e hx
  exact⟨o',(hs.2 b (nC b o e)).trans e1⟩
 ·refine (J.hok b ob e).stay (λc w' hc q=>(hs.2 c ?_).trans q) (λ_ q=>q) λ_ _ q=>q
  have hfree:H' C=none:=J.free
  rintro rfl
  rcases hc with rfl|hc
  ·rw[hfree] at e;cases e
  ·rw[hfree] at hc;cases hc
 ·obtain ⟨f0,f1,f2,f3,f4,f5⟩:=hf b hb
  exact⟨f3,f1,f4,f5⟩
end
noncomputable def zlv(ifs:List Expr)(env:Env):Sem Bool:=forIn ifs true λc r=>if r=true then do let ok ←isTrue c env (eval c env);pure (ForInStep.yield ok)else pure (ForInStep.yield r)
def PIf(X:Cx)(ifs:List Expr)(t:TT):Prop:=
 ∀(pins:List (Addr×Obj)) (s:Shared) (σ:St) (H:Hp) (Q:Bool->Hp->Prop),Inv X pins σ H s->t σ H Q->wpAny `Y4 X.A (zlv ifs X.env) (TP X pins σ Q) X.xe s
noncomputable def zoK:TT:=λ_ H Q=>Q true H
theorem zpy:PIf X [] zoK:=λpins s σ H Q I h=>wpAny_tests_nil ⟨H,I,h⟩
theorem zp3{t:TT}(h:PT X c t):PIf X [c] t:=λpins s σ H Q I hq=>wpAny_tests_one (h pins s σ H Q I hq)
theorem ze1{target:Expr}{it:Value}(I:Nat->Shared->Prop)
 (turn:∀n s,I n s->wpAny `i4 A (pyNext it) (λr s1=>match r with
   |none=>R (.ok .next) s1
   |some v=>wpAny `i4 A (letOwnedTupleGo target it v) (λ_ s1'=>wpAny `i4 A (assign target env v) (λ_ s2=>wpAny `i4 A (zlv ifs env) (λok s3=>
     if ok=true then wpAny `i4 A (eval elt env) (λx s4=>wpAny `i4 A (call (.builtin "list.append") [acc,x]) (λ_ s5=>∃m,m<n/\I m s5) (λ_ _=>False) s4) (λ_ _=>False) s3
     else∃m,m<n/\I m s3) (λ_ _=>False) s2) (λ_ _=>False) s1') (λ_ _=>False) s1) (λ_ _=>False) s)
 (n:Nat) (h:I n s):codeAny `i4 A (.compLoop (.ListComp elt [⟨target,iter,ifs,0⟩] scope pos) 0 it acc env) R s:=by
 have no:∀{E:Value->Shared->Prop} (e:Value) (s:Shared),(λ(_:Value) (_:Shared)=>False) e s->E e s:=λ_ _ z=>False.elim z
 refine codeAny_loop rfl I (λn s hI=>?_) n h
 show wpAny _ A ((compTurn (.ListComp elt [⟨target,iter,ifs,0⟩] scope pos) 0 it acc env).onRaise (λx=>do noteFrame x env;theTreesLotGoes x)) _ _ s
 refine wpAny_noted ?_
 rw[compTurn_list]
 refine A0 (wpAny_standAt (A0 (wpAny_mono (turn n s hI) (λr s₁ h₁=>?_) no)))
 cases r with
 |none=>exact D0 h₁
 |some v=>
  refine A0 (wpAny_mono h₁ (λ_ s1' h1'=>?_) no)
  refine A0 (wpAny_mono h1' (λ_ s₂ h₂=>A0 (wpAny_mono h₂ (λok s₃ h₃=>?_) no)) no)
  cases ok with
  |false=>exact D0 ⟨rfl,h₃⟩
  |true=>
   exact A0 (A0 (wpAny_mono h₃ (λx s₄ h₄=>A0 (wpAny_mono h₄ (λ_ s₅ h₅=>D0 (D0 ⟨rfl,h₅⟩)) no)) no))
def zcG(g:TG)(tc:TT)(te:TE)(src:List (Option Nat))(σ:St)(Q:VK)(J:It)(H1:Hp):Prop:=∀l,H1 l=none->
 ∃W:Nat->Nat->List V->St->Hp->Prop,(∃m,W 0 m [] (zeM src σ) (upd H1 l (.lst [])))/\∀i m ys σ' H',W i m ys σ' H'->H' l=some (.lst ys)->
  (J.stop i H'/\Q (.ref l) H')\/(J.go i H'/\∃N:List V->St->Hp->Prop,(∀zs σ2 H2,N zs σ2 H2->∃m',m'<m/\W (i+1) m' zs σ2 H2)/\∀x H2,J.yld i H' x H2->g x σ' H2 λσ2 H3=>tc σ2 H3 λb H4=>
    if b=true then te σ2 H4 λy H5=>H5 l=some (.lst ys)/\ys.length<sizeLine/\N (ys ++ [y]) σ2 (upd H5 l (.lst (ys ++ [y])))
    else H4 l=some (.lst ys)/\N ys σ2 H4)
noncomputable def zlT(wi:TI)(g:TG)(tc:TT)(te:TE)(src:List (Option Nat)):TE:=λσ H Q=>wi σ H (zcG g tc te src σ Q)
def zlr(g:TG)(tb:TS)(D:Ends)(σ:St)(J:It)(H1:Hp):Prop:=∃W:Nat->Nat->St->Hp->Prop,(∃m,W 0 m σ H1)/\∀i m σ H,W i m σ H->
 (J.stop i H/\D.nx σ H)\/(J.go i H/\∃N:St->Hp->Prop,(∀σ' H',N σ' H'->∃m',m'<m/\W (i+1) m' σ' H')/\∀x H',J.yld i H x H'->g x σ H' λσ2 H2=>tb {D with nx:=N,ct:=N,bk:=D.nx} σ2 H2)
noncomputable def zqx(wi:TI)(g:TG)(tb:TS):TS:=λD σ H=>wi σ H (zlr g tb D σ)
theorem zo1{g:TG}(hp:PassesOwn `Y4 X.A X.env X.xe)(hc:X.calm=true)(hi:PI X tg iter wi)(hg:PG X tg g)(hb:PSs X body tb)
 (hs:autoParam (∀x,foldedSetIterable iter X.env x=pure x) u6):PS X (.For tg iter body [] pos) (zqx wi g tb):=zrj hp hc hi hg hb hs
section
variable{src:List (Option Nat)}{g:TG}
theorem zpC(ok:CompOk X.N osc N' src scope)(hsc:X.env.scope=osc)(hc:X.calm=true)(hi:PI X tg iter wi)
 (hg:∀cl C s₀ H₀ fp,PG (zaq X N' scope cl C s₀ H₀ fp) tg g) (ht:∀cl C s₀ H₀ fp,PIf (zaq X N' scope cl C s₀ H₀ fp) ifs tc) (he:∀cl C s₀ H₀ fp,PE (zaq X N' scope cl C s₀ H₀ fp) elt te)
 (hs:autoParam (∀x,foldedSetIterable iter X.env x=pure x) u6):PE X (.ListComp elt [⟨tg,iter,ifs,0⟩] scope pos) (zlT wi g tc te src):=by
 intro pins s σ H Q I h
 obtain⟨cl,hcl,c1,c2⟩:=zgK (scope:=scope) (env:=X.env) λy hy hyf=>I.ok.has y.1 (by
  have z:=ok.frees y hy hyf
  rw[←hsc] at z
  exact z)
 rw[eval_ListComp]
 refine wpAny_comprehension_free (use:=none) rfl hs hcl ok.kind ok.loc (thn (hi pins s σ H _ I h) λv s1 h1=>thn h1 λitv s2 h2=>?_)
 obtain⟨it,fp,tn,J,H2,e,I2,T,st2,f2,q2⟩:=h2
 subst e
 have hlt2:∀b∈fp,b<s2.heap.objs.size:=λb hb=>by
  obtain⟨o,e,_⟩:=T.obj _ _ st2 b hb
  exact X0 e
 refine V2 ?_
 have hl:H2 s2.heap.objs.size=none:=I2.hok.fresh (O0 _)
 have I3:Inv X pins σ (upd H2 s2.heap.objs.size (.lst [])) {s2 with heap:=s2.heap.push {cls:= .type "list",dict:=none,data:= .seq ([]:List Value).toArray}}:=
  I2.laid (t':=s2.toks) (λb u e=>C0 _ e) (O0 _) ⟨K2 _,[],0, .nil,Q0 _ rfl⟩
 obtain⟨W,⟨m0,w0⟩,turn⟩:=q2 _ hl
 generalize hl2:s2.heap.objs.size=l at *
 generalize hs3:({s2 with heap:=s2.heap.push {cls:= .type "list",dict:=none,data:= .seq ([]:List Value).toArray}}:Shared)=s3 at *
 have f3:∀b∈fp,zfa X pins (upd H2 l (.lst [])) b:=λb hb=>⟨by rw[zj (Z1 (hlt2 b hb))];exact(f2 b hb).1,(f2 b hb).2⟩
 have k3:∀b o,s2.heap.get? b=some o->s3.heap.get? b=some o:=λb o e=>by rw[←hs3];exact C0 _ e
 have hlt3:∀b∈fp,b<s3.heap.objs.size:=λb hb=>by
  obtain⟨o,e,_⟩:=T.obj _ _ st2 b hb
  exact X0 (k3 b o e)
 refine wpAny_newFunctionEnv ok.nocell (by intro y hy;simp at hy) (λh₁ hns₁ hsb₁=>?_) ok.kind
 have k4:∀b o,s3.heap.get? b=some o->h₁.get? b=some o:=λb o e=>(hsb₁.2 b (Z1 (X0 e))).trans (C0 _ e)
 have J0:=zgq (tk:=s3.toks+([]:List (Str×Value)).length) I3 f3 hlt3 ok hsc c1 c2 hns₁ k4
 have st4:tn 0 h₁:=T.keep _ _ _ st2 λb hb o e=>k4 b o (k3 b o e)
 generalize hC:s3.heap.objs.size=C at *
 have stat:∀{H':Hp},(∀b∈fp,H' b=none)->∀b∈fp,zfa (zaq X N' scope cl C s3 (upd H2 l (.lst [])) fp) [] H' b:=λ{H'} hn b hb=>
  ⟨hn b hb,(J0.ok.exf b hb).1,J0.ok.exfs b hb, .inl hb,(J0.ok.exf b hb).2,λp hp=>absurd (show p∈([]:List (Addr×Obj))from hp) `n3⟩
 have loop:codeAny `Y4 X.A (.compLoop (.ListComp elt [⟨tg,iter,ifs,0⟩] scope pos) 0 (.ref it) (.ref l) (compEnvC scope cl C X.env))
  (compPost `Y4 X.A X.xe none (EP X pins σ Q) (.ref l) C) {s3 with heap:=h₁,toks:=s3.toks+([]:List (Str×Value)).length}:=by
  refine ze1 (λn s'=>∃i ys σ' H',Inv (zaq X N' scope cl C s3 (upd H2 l (.lst [])) fp) [] σ' H' s'/\tn i s'.heap/\(∀b∈fp,H' b=none)/\H' l=some (.lst ys)/\W i n ys σ' H') ?_ m0
   ⟨0,[],_,_,J0,st4,λb hb=>(f3 b hb).1,zc,w0⟩
  rintro n s5 ⟨i,ys,σ5,H5,I5,st5,fr5,hl5,w5⟩
  rcases turn i n ys σ5 H5 w5 hl5 with⟨stop,qn⟩|⟨go,N,hN,step⟩
  ·refine thn (T.done (zaq X N' scope cl C s3 (upd H2 l (.lst [])) fp) rfl rfl rfl hc i [] s5 σ5 H5 (λ_ _=>False) I5 (stat fr5) st5 stop) λr s6 ⟨hr,I6⟩=>?_
   subst hr
   obtain⟨m,hn,_⟩:=I6.loc
   exact⟨m,hn,λh' hsb=>⟨.ref l,H5,zgw I3 f3 (by rw[←hC];exact O0 _) I6 hsb,rfl,qn⟩⟩
  ·refine thn (T.item (zaq X N' scope cl C s3 (upd H2 l (.lst [])) fp) rfl rfl rfl hc i [] s5 σ5 H5 (λ_ _=>False) I5 (stat fr5) st5 go) λr s6 ⟨u,hr,h6⟩=>?_
   subst hr
   refine thn h6 λ_ s7 zq=>?_
   obtain⟨x,H7,I7,r7,y7,st7,fr7⟩:=zq
   have I7':=I7.pinned (stat fr7) (T.obj _ _ st7)
   refine thn (hg cl C s3 _ fp _ s7 σ5 H7 x u _ I7' r7 (step x H7 y7)) λ_ s8 zq=>?_
   obtain⟨σ8,H8,I8,q8⟩:=zq
   refine thn (ht cl C s3 _ fp _ s8 σ8 H8 _ I8 q8) λb s9 zq=>?_
   obtain⟨H9,I9,q9⟩:=zq
   have back:∀{s':Shared} {H':Hp},Inv (zaq X N' scope cl C s3 (upd H2 l (.lst [])) fp) ([]++zft fp s7.heap) σ8 H' s'->tn (i+1) s'.heap/\∀b∈fp,H' b=none:=λ{s' H'} I'=>by
    refine⟨T.keep _ _ _ st7 λb hb o e=>(I'.pin (b,o) (O2 _ (O2 _ (zby hb e)))).1,λb hb=>?_⟩
    obtain⟨o,e,d⟩:=T.obj _ _ st7 b hb
    exact(I'.pin (b,o) (O2 _ (O2 _ (zby hb e)))).2.1
   cases b with
   |false=>
    obtain⟨hl9,n9⟩:=q9
    obtain⟨m',hm,w9⟩:=hN _ _ _ n9
    obtain⟨t9,fr9⟩:=back I9
    exact⟨m',hm,i+1,ys,σ8,H9,I9.unpinned,t9,fr9,hl9,w9⟩
   |true=>
    refine thn (he cl C s3 _ fp _ s9 σ8 H9 _ I9 q9) λxv s10 zq=>?_
    obtain⟨y,H10,I10,r10,hl10,hz,n10⟩:=zq
    obtain⟨m',hm,w10⟩:=hN _ _ _ n10
    refine thn (zaV (X:=zaq X N' scope cl C s3 (upd H2 l (.lst [])) fp) _ s10 σ8 H10 (.ref l) [y] (.ref l) [xv] (λv H'=>H'=upd H10 l (.lst (ys ++ [y]))) I10 rfl (.cons r10 .nil) ⟨l,ys,y,rfl,rfl,hl10,hz,rfl⟩) λ_ s11 ⟨_,H11,I11,_,e11⟩=>?_
    subst e11
    obtain⟨t11,fr11⟩:=back I11
    exact⟨m',hm,i+1,ys ++ [y],σ8,_,I11.unpinned,t11,fr11,zc,w10⟩
 exact codeAny_compStart_list loop (T.self _ 0 _ _ _ st4 loop)
end
section
variable{κ:Type}[DecidableEq κ]
noncomputable def zbs(kvs:List (κ×V))(k:κ):Option V:=(kvs.find? λkv=>decide (kv.1=k)).map (·.2)
noncomputable def zcN(kvs:List (κ×V))(k:κ)(v:V):List (κ×V):=
 if(kvs.any λkv=>decide (kv.1=k))=true then kvs.map (λkv=>if kv.1=k then(kv.1,v)else kv)else kvs ++ [(k,v)]
theorem zbr{p:κ×V}{r:List (κ×V)}{k:κ}(e:p.1=k):zbs (p::r) k=some p.2:=by simp[zbs,List.find?_cons,e]
theorem zbt{p:κ×V}{r:List (κ×V)}{k:κ}(e:¬p.1=k):zbs (p::r) k=zbs r k:=by simp[zbs,List.find?_cons,e]
theorem zfj(k:κ):∀kvs:List (κ×V),(kvs.any λkv=>decide (kv.1=k))=(zbs kvs k).isSome
 |[]=>rfl
 |p::r=>by
  rw[List.any_cons]
  by_cases e:p.1=k
  ·simp only[zbr e,N0 e,Bool.true_or,Option.isSome_some]
  ·rw[zbt e,A1 e,Bool.false_or];exact zfj k r
theorem ziG(k j:κ)(y:V):∀kvs:List (κ×V),zbs (kvs.map λkv=>if kv.1=k then(kv.1,y)else kv) j=(zbs kvs j).map λx=>if j=k then y else x
 |[]=>rfl
 |p::r=>by
  have ih:=ziG k j y r
  rw[Y1]
  by_cases h:p.1=k
  ·rw[E1 h]
   by_cases e:p.1=j
   ·rw[zbr (p:=(p.1,y)) e,zbr e,Option.map_some,E1 (e.symm.trans h)]
   ·rw[zbt (p:=(p.1,y)) e,zbt e,ih]
  ·rw[Y0 h]
   by_cases e:p.1=j
   ·rw[zbr (p:=p) e,zbr e,Option.map_some,Y0 (λz=>h (e.trans z))]
   ·rw[zbt (p:=p) e,zbt e,ih]
theorem zhp(k j:κ)(y:V):∀kvs:List (κ×V),zbs kvs k=none->zbs (kvs ++ [(k,y)]) j=if j=k then some y else zbs kvs j
 |[],_=>by
  by_cases e:k=j
  ·rw[E1 e.symm];exact zbr (p:=(k,y)) e
  ·rw[Y0 (λz=>e z.symm)];exact zbt (p:=(k,y)) e
 |p::r,hn=>by
  rw[List.cons_append]
  have hk:¬p.1=k:=λz=>by rw[zbr z] at hn;cases hn
  rw[zbt hk] at hn
  have ih:=zhp k j y r hn
  by_cases e:p.1=j
  ·rw[zbr e,zbr e,Y0 (λz=>hk (e.trans z))]
  ·rw[zbt e,zbt e,ih]
theorem zjl(kvs:List (κ×V))(k j:κ)(y:V):zbs (zcN kvs k y) j=if j=k then some y else zbs kvs j:=by
 unfold zcN
 by_cases a:(kvs.any λkv=>decide (kv.1=k))=true
 ·rw[E1 a,ziG]
  rw[zfj] at a
  by_cases e:j=k
  ·obtain ⟨x,hx⟩:=Option.isSome_iff_exists.mp a
   rw[E1 e,e,hx,Option.map_some,E1 rfl]
  ·rw[Y0 e]
   cases zbs kvs j with
   |none=>rfl
   |some x=>rw[Option.map_some,Y0 e]
 ·rw[Y0 a]
  refine zhp k j y kvs ?_
  rw[zfj] at a
  cases q:zbs kvs k with
  |none=>rfl
  |some x=>rw[q] at a;exact(a rfl).elim
theorem zc4(kvs:List (κ×V))(k:κ)(v:V):(zcN kvs k v).length<=kvs.length+1:=by
 unfold zcN
 split
 ·rw[B0];lia
 ·rw[W0,O1,List.length_nil];lia
theorem RelO.isSome_eq{o:Option V}{u:Option Value}(r:RelO o u):o.isSome=u.isSome:=by
 cases o with
 |none=>cases u with
  |none=>rfl
  |some _=>exact (show False from r).elim
 |some _=>cases u with
  |none=>exact (show False from r).elim
  |some _=>rfl
theorem KV.any{kvs:List (κ×V)}{vs:List (κ×Value)}(r:KV kvs vs)(k:κ):(kvs.any λkv=>decide (kv.1=k))=vs.any λkv=>decide (kv.1=k):=by
 unfold KV at r
 induction r with
 |nil=>rfl
 |cons h t ih=>rw[List.any_cons,List.any_cons,ih,h.1]
theorem KV.repl{kvs:List (κ×V)}{vs:List (κ×Value)}(r:KV kvs vs)(k:κ){y:V}(ry:RelV y u):
 KV (kvs.map λkv=>if kv.1=k then(kv.1,y)else kv) (vs.map λkv=>if kv.1=k then(kv.1,u)else kv):=by
 unfold KV at r⊢
 induction r with
 |nil=>exact .nil
 | @cons p q ps qs h t ih=>
   rw[Y1,Y1]
   refine .cons ?_ ih
   obtain⟨h1,h2⟩:=h
   by_cases e:p.1=k
   ·rw[E1 e,E1 (h1.symm.trans e)];exact⟨h1,ry⟩
   ·rw[Y0 e,Y0 (λz=>e (h1.trans z))];exact⟨h1,h2⟩
theorem KV.put{kvs:List (κ×V)}{vs:List (κ×Value)}(r:KV kvs vs)(k:κ){y:V}(ry:RelV y u):KV (zcN kvs k y) (stored vs k u):=by
 unfold zcN stored
 rw[r.any k]
 by_cases e:(vs.any λkv=>decide (kv.1=k))=true
 ·rw[E1 e,E1 e];exact r.repl k ry
 ·rw[Y0 e,Y0 e];exact Paired.snoc r ⟨rfl,ry⟩
theorem KV.length{kvs:List (κ×V)}{vs:List (κ×Value)}(r:KV kvs vs):kvs.length=vs.length:=Paired.length r
end
theorem zqH{k:Key}(r:RelV (kV k) u):(zaE P w).is k u=true:=by
 cases k with
 |inl i=>obtain ⟨t,e⟩:=(show∃t,u=Value.int i t from r);subst e;exact ziY P w i t
 |inr x=>obtain ⟨t,e⟩:=(show∃t,u=Value.str x t from r);subst e;exact zdZ P w x t
theorem zho{P:Program}{w:World}:∀{ks:List Key} {us:List Value},Vals (ks.map kV) us->ItemsAre (zaE P w) ks us
 |[],_,r=>by rw[List.map_nil] at r;cases r;exact .nil
 |k::ks,_,r=>by
  rw[Y1] at r
  cases r with
  |cons h t=>exact .cons (zqH h) (zho t)
abbrev KT(H:Hp):List (List Key×V)->List (List Key×Addr×Value)->Prop:=Paired λp q=>p.1=q.1/\H q.2.1=some (.tup (p.1.map kV))/\RelV p.2 q.2.2
theorem KT.val{xs:List (List Key×Addr×Value)}(r:KT H kvs xs)(k:List Key):RelO (zbs kvs k) ((atKey xs k).map (·.2)):=by
 induction r with
 |nil=>exact True.intro
 | @cons p q ps qs h t ih=>
   obtain⟨h1,_,h2⟩:=h
   by_cases e:p.1=k
   ·have e':q.1=k:=h1.symm.trans e
    have b:atKey (q::qs) k=some q.2:=by simp[atKey,List.find?_cons,e']
    rw[zbr e,b];exact h2
   ·have e':¬q.1=k:=λz=>e (h1.trans z)
    have b:atKey (q::qs) k=atKey qs k:=by simp[atKey,List.find?_cons,e']
    rw[zbt e,b];exact ih
variable{val:Nat->Str}
theorem KT.repl{xs:List (List Key×Addr×Value)}(r:KT H kvs xs)(k:List Key){y:V}(ry:RelV y u):
 KT H (kvs.map λkv=>if kv.1=k then(kv.1,y)else kv) (xs.map (putAt k u)):=by
 induction r with
 |nil=>exact .nil
 | @cons p q ps qs h t ih=>
   rw[Y1,Y1]
   refine .cons ?_ ih
   obtain⟨h1,h2,h3⟩:=h
   unfold putAt
   by_cases e:p.1=k
   ·rw[E1 e,E1 (h1.symm.trans e)];exact⟨h1,h2,ry⟩
   ·rw[Y0 e,Y0 (λz=>e (h1.trans z))];exact⟨h1,h2,h3⟩
theorem KT.put{xs:List (List Key×Addr×Value)}(r:KT H kvs xs)(k:List Key){b:Addr}{y:V}(hb:H b=some (.tup (k.map kV)))(ry:RelV y u):
 KT H (zcN kvs k y) (storedH xs k b u):=by
 have e:(kvs.any λkv=>decide (kv.1=k))=(atKey xs k).isSome:=by
  rw[zfj,(r.val k).isSome_eq,Option.isSome_map]
 unfold zcN storedH
 rw[e]
 by_cases q:(atKey xs k).isSome=true
 ·rw[E1 q,E1 q];exact r.repl k ry
 ·rw[Y0 q,Y0 q];exact Paired.snoc r ⟨rfl,hb,ry⟩
theorem KT.keeps{xs:List (List Key×Addr×Value)}(r:KT H kvs xs)(ht:∀b ys,H b=some (.tup ys)->H' b=some (.tup ys)):KT H' kvs xs:=
 Paired.mapP r λ_ _ z=>⟨z.1,ht _ _ z.2.1,z.2.2⟩
theorem zqB{u:HO}(ok:HOk P w H h)(e:Rd H a u):ObjOk P w H h a u:=e.ok ok
theorem zsa{kvs:List (Key×V)}(ok:HOk P w H h)(e:Rd H a (.dK kvs)):kvs.length<=sizeLine/\(a==sysModules)=false/\∃vs,KV kvs vs/\h.DictOf (zaE P w) a vs:=
 show ObjOk P w H h a (.dK kvs)from zqB ok e
theorem zsd{kvs:List (Key×V)}(ok:HOk P w H h)(e:H a=some (.dK kvs)):kvs.length<=sizeLine/\(a==sysModules)=false/\∃vs,KV kvs vs/\h.DictOf (zaE P w) a vs:=zsa ok (.inl e)
theorem zkC{ks:List Key}(ok:HOk P w H h)(e:H a=some (.tup (ks.map kV))):(tupleKind (zaE P w)).is h ks a:=by
 obtain⟨_,its,r,⟨o,h1,h2,n,h3⟩,_⟩:=(show ObjOk P w H h a (.tup (ks.map kV))from ok a _ e)
 exact⟨o,its.toArray,n,h1,h2,h3,by simpa using zho r⟩
theorem zso(ok:HOk P w H h)(e:Rd H a (.dT kvs)):kvs.length<=sizeLine/\(a==sysModules)=false/\
 ∃xs,KT H kvs xs/\h.DictOfH (tupleKind (zaE P w)) a xs:=by
 obtain⟨z,y,xs,r,o,es,ep,h1,h2,h3,h4,h5⟩:=(show ObjOk P w H h a (.dT kvs)from zqB ok e)
 refine⟨z,y,xs,r,o,es,ep,h1,h2,h3,h4,λx hx=>?_,h5⟩
 have all:∀{l:List (List Key×V)} {m:List (List Key×Addr×Value)},KT H l m->∀x∈m,(tupleKind (zaE P w)).is h x.1 x.2.1:=by
  intro l m q
  induction q with
  |nil=>intro x hx;exact nomatch hx
  | @cons p q ps qs hq t ih=>
    intro x hx
    rcases K0.mp hx with e|hx
    ·subst e
     exact zkC ok (by rw[←hq.1];exact hq.2.1)
    ·exact ih x hx
 exact all r x hx
theorem zqM(ok:HOk P w H h)(e:H a=some (.dT kvs)):kvs.length<=sizeLine/\(a==sysModules)=false/\
 ∃xs,KT H kvs xs/\h.DictOfH (tupleKind (zaE P w)) a xs:=zso ok (.inl e)
def DPut(H:Hp)(a:Addr)(y v:V)(H':Hp):Prop:=
 (∃kvs k,H a=some (.dK kvs)/\y=kV k/\kvs.length<sizeLine/\H'=upd H a (.dK (zcN kvs k v)))\/
 ∃kvs k b,H a=some (.dT kvs)/\y= .ref b/\H b=some (.tup (k.map kV))/\kvs.length<sizeLine/\H'=upd H a (.dT (zcN kvs k v))
theorem DPut.t{b:Addr}{k:List Key}(e:H a=some (.dT kvs))(eb:H b=some (.tup (k.map kV)))(hl:kvs.length<sizeLine):
 DPut H a (.ref b) v (upd H a (.dT (zcN kvs k v))):= .inr ⟨kvs,k,b,e,rfl,eb,hl,rfl⟩
variable{t:SetTable}
section
variable{y:V}{r:Value}{o:Option V}
theorem Inv.big(I:Inv X pins σ H s):sysModules<s.heap.objs.size:=by
 have h:mainGlobals<s.heap.objs.size:=(I.mod.glob.keeps I.bk).lt
 exact Nat.lt_trans ⋯ h
theorem zio{ob:HO}(I:Inv X pins σ H s)(mu:Mut (H a))(hs:Heap.SameBut a s.heap h')(he:∃q,h'.get? a=some q)(new:ObjOk X.prog X.w (upd H a ob) h' a ob):
 Inv X pins σ (upd H a ob) {s with heap:=h',toks:=t'}:=
 I.write (x:=a) (e:=a) mu (.inl rfl) (λb q hb z=>(hs.2 b hb).trans z) he new
theorem zqU{kvs:List (Key×V)}{vs:List (Key×Value)}(z:kvs.length<=sizeLine)(hd:(a==sysModules)=false)(rel:KV kvs vs)(dd:h'.DictOf (zaE P w) a vs):
 ObjOk P w H' h' a (.dK kvs):=⟨z,hd,vs,rel,dd⟩
theorem zmS{Q:Unit->Shared->Prop}(hu:A.units+1<cLine)(I:Inv X pins σ H s)(g:DPut H a y v H')(ry:RelV y u)(rv:RelV v r)(h:∀s',Inv X pins σ H' s'->Q Unit.unit s'):
 wpAny `Y4 A (setItem (.ref a) u r) Q E s:=by
 rcases g with⟨kvs,k,e,ey,l,eH⟩|⟨kvs,k,b,e,ey,eb,l,eH⟩
 ·subst ey eH
  obtain⟨z,hd,vs,rel,dd⟩:=zsd I.hok e
  have hz:vs.length<=sizeLine:=by rw[←rel.length];exact z
  have hl:(zcN kvs k v).length<=sizeLine:=by have:=zc4 kvs k v;lia
  refine wpAny_setItem_pairs (hsz:=hz) (zqH ry) dd λh' dd' hs=>h _ ?_
  have he:∃q,h'.get? a=some q:=let⟨q,_,_,hq,_⟩:=dd';⟨q,hq⟩
  exact zio I (by rw[e];exact True.intro) hs he (zqU hl hd (rel.put k rv) dd')
 ·subst ey eH
  cases(show u=Value.ref b from ry)
  obtain⟨z,hd,xs,rel,dd⟩:=zqM I.hok e
  have hz:xs.length<=sizeLine:=by rw[←Paired.length rel];exact z
  have hl:(zcN kvs k v).length<=sizeLine:=by have:=zc4 kvs k v;lia
  refine wpAny_setItem_heap (hsz:=hz) (tupleKind_room_in1 hu) (zkC I.hok eb) dd λh' dd' hs=>h _ ?_
  obtain⟨q,es,ep,hq,h2,h3,h4,_,h5⟩:=dd'
  refine zio I (by rw[e];exact True.intro) hs ⟨q,hq⟩ ⟨hl,hd,_,(rel.put k eb rv).keeps λc ys ec=>?_,q,es,ep,hq,h2,h3,h4,h5⟩
  rw[zj (zqC ec e (λz=>nomatch z))]
  exact ec
end
section
variable{kvs:List (Key×V)}{k:Key}
end
noncomputable def zqI(td ty tv:TE):TS:=λD σ H=>tv σ H λv H1=>td σ H1 λx H2=>ty σ H2 λy H3=>∃a H4,x= .ref a/\DPut H3 a y v H4/\D.nx σ H4
section
variable{o i:Expr}{ty:TE}
theorem zp7(hu:X.A.units+1<cLine)(ho:PE X o td)(hi:PE X i ty)(hv:PE X value tv)(hs:swapsWith value (some (.Subscript o i pos')) pos.line X.env=pure false):
 PS X (.Assign [.Subscript o i pos'] value pos) (zqI td ty tv):=by
 intro pins s σ H D I h
 refine wpAny_Assign_Subscript (thn (hv pins s σ H _ I h) λr s1 zq=>?_) hs
 obtain⟨v,H1,I1,rv,q1⟩:=zq
 refine thn (ho pins s1 σ H1 _ I1 q1) λu s2 zq1=>?_
 obtain⟨x,H2,I2,rx,q2⟩:=zq1
 refine thn (hi pins s2 σ H2 _ I2 q2) λiv s3 zq2=>?_
 obtain⟨y,H3,I3,ry,a,H4,ex,g,q3⟩:=zq2
 subst ex
 obtain rfl:u=Value.ref a:=rx
 exact zmS hu I3 g ry rv λs4 I4=>⟨σ,H4,I4,q3⟩
end
theorem znA(h:Heap)(hb:sysModules<h.objs.size):ObjOk P w H (h.push {cls:= .type "dict",data:= .dict #[]}) h.objs.size (.dT []):=
 ⟨K2 _,beq_eq_false_iff_ne.mpr (Ne.symm (Z1 hb)),[], .nil,_, #[],0,Q0 _ rfl,⟨rfl,rfl,rfl⟩,rfl,rfl,List.nodup_nil⟩
noncomputable def zoE:TE:=λ_ H Q=>∀p,H p=none->Q (.ref p) (upd H p (.dT []))
theorem zon:PE X (.Dict [] [] pos) zoE:=λpins s σ H Q I h=>
 wpAny_Dict_empty ⟨.ref s.heap.objs.size,_,I.laid (a:=s.heap.objs.size) (o:= .dT []) (t':=s.toks) (λ_ _ q=>C0 _ q) (O0 _) (znA s.heap I.big),rfl,h _ (I.hok.fresh (O0 _))⟩
def znl:List (TE×TE)->St->Hp->(List (V×V)->Hp->Prop)->Prop
 |[],_,H,Q=>Q [] H
 |(tk,tv)::r,σ,H,Q=>tk σ H λx H1=>tv σ H1 λy H2=>znl r σ H2 λps H3=>Q ((x,y)::ps) H3
abbrev VV:List (V×V)->List (Value×Value)->Prop:=Paired λp q=>RelV p.1 q.1/\RelV p.2 q.2
def PPs(X:Cx)(pos:Pos)(keys:List (Option Expr))(values:List Expr)(trs:List (TE×TE)):Prop:=
 ∀(pins:List (Addr×Obj)) (s:Shared) (σ:St) (H:Hp) (Q:List (V×V)->Hp->Prop),Inv X pins σ H s->znl trs σ H Q->
  wpAny `Y4 X.A (evalPairs (pairTrees keys values X.env pos)) (λvs s'=>∃ps H',Inv X pins σ H' s'/\VV ps vs/\Q ps H') X.xe s
structure M1(X:Cx)(o:Expr)(m:Str)(apos:Pos)(e:Expr)(cpos:Pos):Prop where
 base:attributeBase o m X.env (eval o X.env)=eval o X.env
 few:((backTo cpos (starEach [e] X.env)).all (λx=>!x.1)&&(backToKw cpos (keywordEach [] X.env)).all (λx=>x.1.isSome)
  &&decide (([e]:List Expr).length+([]:List Keyword).length+(if([]:List Keyword).isEmpty then 0 else 1)<30))=true
 line:(apos.endLine==cpos.line)=true
 trees:backTo cpos (starEach [e] X.env)=[(false,eval e X.env)]
structure M2(X:Cx)(o:Expr)(m:Str)(apos:Pos)(e f:Expr)(cpos:Pos):Prop where
 base:attributeBase o m X.env (eval o X.env)=eval o X.env
 few:((backTo cpos (starEach [e,f] X.env)).all (λx=>!x.1)&&(backToKw cpos (keywordEach [] X.env)).all (λx=>x.1.isSome)
  &&decide (([e,f]:List Expr).length+([]:List Keyword).length+(if([]:List Keyword).isEmpty then 0 else 1)<30))=true
 line:(apos.endLine==cpos.line)=true
 trees:backTo cpos (starEach [e,f] X.env)=[(false,eval e X.env),(false,eval f X.env)]
variable{base:Heap}
section
variable{y d:V}{r:Value}{o:Option V}
end
section
variable{o f:Expr}{ty tx:TE}
end
section
variable{kvs:List (Key×V)}
end
section
variable{y:V}
end
theorem zhq:OpR X (compareOp .LtE) (λx y H Q=>∃i j,x= .str i/\y= .str j/\Q (.bl (!decide (j.cps.toList<i.cps.toList))) H):=by
 intro pins s σ H x y v u Q I rx ry h
 obtain⟨i,j,rfl,rfl,q⟩:=h
 obtain⟨t,rfl⟩:=rx
 obtain⟨t',rfl⟩:=ry
 exact P.le_str (zX I q rfl)
theorem zlH:∀{bs:List Bool} {us:List Value} {i:Nat} {v:Value},Vals (bs.map V.bl) us->us[i]?=some v->∃b,bs[i]?=some b/\v= .bool b
 |[],_,_,_, .nil,e=>by simp at e
 |b::bs,_,0,v, .cons r _,e=>by
  simp at e
  subst e
  exact⟨b,rfl,r⟩
 |b::bs,_,i+1,v, .cons _ t,e=>by
  obtain⟨c,h1,h2⟩:=zlH (i:=i) t (by simpa using e)
  exact⟨c,by simpa using h1,h2⟩
noncomputable def atB(bs:List Bool)(j:Nat):Bool:=match bs[j]? with|some b=>b|none=>true
theorem ziy(bs:List Bool):(List.range bs.length).all (atB bs)=bs.all id:=by
 refine Eq.trans ?_ (PyProof.Rows.all_rangeD bs (id:Bool->Bool))
 congr 1
 funext j
 unfold atB
 cases bs[j]?<;>rfl
theorem zbC(hc:X.calm=true):CallR X (.builtin "all") (λxs H Q=>∃(p:Addr) (bs:List Bool),xs=[.ref p]/\SqL X.K H p (bs.map V.bl)/\Q (.bl (bs.all id)) H):=by
 intro pins s σ H xs us Q I r h
 obtain⟨p,bs,rfl,hq,q⟩:=h
 obtain⟨u,rfl,ru⟩:=zb7 r
 cases ru
 obtain⟨its,rv,pl,hz⟩:=I.list hq
 have hp:p≠s.heap.objs.size:=Z1 pl.lt
 refine call_all_walk (wpAny_pyIter_list pl.isList ?_)
 refine⟨s.heap.objs.size,_,_,_,_,_,atB bs,rfl,Walks.list (A:=X.A.in1) (show X.A.in1.handled=none from I.ok.hd hc) _ p hp its.toArray,⟨⟨_,Q0 _ rfl,rfl,rfl⟩,?_⟩,?_,λh' tk hk=>?_⟩
 ·obtain ⟨o,n,e,c,_,d⟩:=pl
  exact⟨o,C0 _ e,c,n,d⟩
 ·intro i v s' Q' E' hP hQ
  obtain⟨b,h1,rfl⟩:=zlH (i:=i) (v:=v) rv (by simpa using hP)
  refine wpAny_truthy_bool ?_
  have e:atB bs i=b:=by unfold atB;rw[h1]
  rw[e] at hQ
  exact hQ
 ·have hl:its.toArray.size=bs.length:=by
   have:=rv.length
   simp at this
   simp[this]
  rw[hl,ziy]
  refine⟨.bl (bs.all id),H,I.kept λb o e=>hk b o ?_ (C0 _ e),rfl,q⟩
  intro z
  have:b=s.heap.objs.size:=by simpa using z
  exact absurd (X0 e) (by rw[this];exact R3 _)
theorem zbZ:∀{ys:List Str} {us:List Value},Vals (ys.map V.str) us->StrsAre us ys
 |[],_, .nil=>by first|exact .nil|trivial
 |y::ys,_, .cons r t=>by
  obtain⟨k,rfl⟩:=r
  first
   |exact .cons _ _ (zbZ t)
   |exact .cons (zbZ t)
   |exact⟨⟨k,rfl⟩,zbZ t⟩
noncomputable def zgY(z:Str)(n:Nat):Str:=⟨(List.replicate n z.cps).foldl (·++·) #[]⟩
theorem zkG:OpR X (binaryOp .Mult) (λx y H Q=>∃z n,x= .str z/\y= .int n/\1<n/\n<=1000/\0<z.length/\z.length<=1000/\Q (.str (zgY z n.toNat)) H):=by
 intro pins s σ H x y v u Q I rx ry h
 obtain⟨z,n,rfl,rfl,h1,h2,h3,h4,q⟩:=h
 obtain⟨t,rfl⟩:=rx
 obtain⟨t',rfl⟩:=ry
 have e1:¬n<1:=()
 have e2:(n==1||z.length==0)=false:=by
  have a:(n==1)=false:=beq_eq_false_iff_ne.mpr ()
  have b:(z.length==0)=false:=beq_eq_false_iff_ne.mpr ()
  rw[a,b];rfl
 have hz:z.length*n.toNat<=1000*1000:=Nat.mul_le_mul h4 ()
 refine P.mul_str ?_ (λ_ _=>?_) (λ_ _=>?_) ?_
 ·have a:decide (n< -(2^63:Int))=false:=A1 ()
  have b:decide (n≥2^63)=false:=A1 ()
  rw[a,b];rfl
 ·have hd:(1000:Int)<=(2^63 -1)/n:=by
   apply Int.le_ediv_of_mul_le ()
   lia
  lia
 ·have hb:z.length*n.toNat<=sizeLine:=J1 hz ⋯
  unfold Builtin.Str.tooLong
  exact A1 ()
 ·rw[Y0 e1,e2]
  simp only[Z3,if_false]
  refine⟨?_,⟨.str _,H,I.tok _,⟨_,rfl⟩,q⟩⟩
  have key:∀(k:Nat) (acc:Array Nat),((List.replicate k z.cps).foldl (·++·) acc).size=acc.size+k*z.cps.size:=by
   intro k
   induction k with
   |zero=>intro acc;simp
   |succ k ih=>intro acc;rw[E3,List.foldl_cons,ih,Array.size_append,Nat.succ_mul];lia
  have hk:=key n.toNat #[]
  have hz':n.toNat *z.cps.size<=1000*1000:=Nat.mul_le_mul () h4
  have hsl:1000*1000<=sizeLine:=⋯
  show((List.replicate n.toNat z.cps).foldl (·++·) #[]).size<=sizeLine
  rw[hk]
  simp only[Array.size_empty]
  lia
theorem zdk:CallR X (.builtin "isinstance") (λxs H Q=>∃x T t b,xs=[x, .ty T]/\TyOf X.K H x t/\W.kitOne X.K t (.type T)=some b/\Q (.bl b) H):=by
 intro pins s σ H xs us Q I r h
 obtain⟨x,T,t,b,rfl,ht,hk,q⟩:=h
 obtain⟨u,w',rfl,ru,rw'⟩:=zhh r
 cases rw'
 exact zl2 I ru ht hk λtk=>⟨.bl b,H,I.tok _,rfl,q⟩
noncomputable def Its(x:Str):It:=⟨λi _=>i<x.length,λi H y H'=>H'=H/\∃c,x.cps[i]?=some c/\y= .str ⟨#[c]⟩,λi _=>x.length<=i⟩
theorem zmH(x:Str)(t:Tok)(it:Addr):Turn P w K tg (Its x) [it] it (λi h=>h.IsStrIter it "str_ascii_iterator" x t i) where
 mem:=`n3
 obj:=λi h st b hb=>by
  have e:b=it:=by simpa using hb
  subst e
  obtain⟨o,e,c,d⟩:=st
  exact⟨o,e,λv z=>by rw[d] at z;cases z⟩
 keep:=λi h h' st k=>by
  obtain⟨o,e,r⟩:=st
  exact⟨o,k it `n3 o e,r⟩
 item:=by
  intro X hP hw hK hc i pins s σ H E I hf st hg
  subst hP hw hK
  have hi:i<x.cps.size:=hg
  obtain⟨f0,f1,f2,f3,f4,f5⟩:=hf it `n3
  refine wpAny_pyNext_ascii_item st (c:=x.cps[i]) (by simp[hi]) λh' st' sb=>?_
  have I1:Inv X pins σ H {s with heap:=h',toks:=s.toks+1}:=I.turned (t':=s.toks+1) (λb o hb e=>(sb.2 b hb).trans e) f0 f1 f3 f4 f5
  obtain⟨o,e,c,d⟩:=id st'
  exact⟨_,rfl,zhg (s:={s with heap:=h',toks:=s.toks+1}) e c d ⋯ ⟨.str ⟨#[x.cps[i]]⟩,H,I1,⟨_,rfl⟩,⟨rfl,x.cps[i],by simp[hi],rfl⟩,st',λb hb=>(hf b hb).1⟩⟩
 done:=by
   intro X hP hw hK hc i pins s σ H E I hf st hg
   subst hP hw hK
   have hi:x.cps.size<=i:=hg
   obtain⟨f0,f1,f2,f3,f4,f5⟩:=hf it `n3
   exact wpAny_pyNext_ascii_end (I.ok.hd hc) st (by simp[hi]) λh' eb=>⟨rfl,I.turned (t':=s.toks) (λb o hb e=>eb b o hb e) f0 f1 f3 f4 f5⟩
 self:=λ_ _ _ _ _ st h=>wpAny_pyIter_striter_ascii st h
theorem zmB(x:Str)(t:Tok)(it:Addr):Turn P w K tg (Its x) [it] it (λi h=>h.IsStrIter it "str_iterator" x t i) where
 mem:=`n3
 obj:=λi h st b hb=>by
  have e:b=it:=by simpa using hb
  subst e
  obtain⟨o,e,c,d⟩:=st
  exact⟨o,e,λv z=>by rw[d] at z;cases z⟩
 keep:=λi h h' st k=>by
  obtain⟨o,e,r⟩:=st
  exact⟨o,k it `n3 o e,r⟩
 item:=by
  intro X hP hw hK hc i pins s σ H E I hf st hg
  subst hP hw hK
  have hi:i<x.cps.size:=hg
  obtain⟨f0,f1,f2,f3,f4,f5⟩:=hf it `n3
  refine wpAny_pyNext_wide_item st (c:=x.cps[i]) (by simp[hi]) λh' st' sb=>?_
  have I1:Inv X pins σ H {s with heap:=h',toks:=s.toks+1}:=I.turned (t':=s.toks+1) (λb o hb e=>(sb.2 b hb).trans e) f0 f1 f3 f4 f5
  obtain⟨o,e,c,d⟩:=id st'
  exact⟨_,rfl,zhg (s:={s with heap:=h',toks:=s.toks+1}) e c d ⋯ ⟨.str ⟨#[x.cps[i]]⟩,H,I1,⟨_,rfl⟩,⟨rfl,x.cps[i],by simp[hi],rfl⟩,st',λb hb=>(hf b hb).1⟩⟩
 done:=by
   intro X hP hw hK hc i pins s σ H E I hf st hg
   subst hP hw hK
   have hi:x.cps.size<=i:=hg
   obtain⟨f0,f1,f2,f3,f4,f5⟩:=hf it `n3
   exact wpAny_pyNext_wide_end (I.ok.hd hc) st (by simp[hi]) λh' eb=>⟨rfl,I.turned (t':=s.toks) (λb o hb e=>eb b o hb e) f0 f1 f3 f4 f5⟩
 self:=λ_ _ _ _ _ st h=>wpAny_pyIter_striter_wide st h
noncomputable def zsn(tl:TE):TI:=λσ H R=>tl σ H λy H1=>∃x,y= .str x/\R (Its x) H1
theorem zrS{l:Expr}(hl:PE X l tl):PI X tg l (zsn tl):=by
 intro pins s σ H R I h
 refine thn (hl pins s σ H _ I h) λv s1 zq=>?_
 obtain⟨y,H1,I1,r1,q1⟩:=zq
 obtain⟨x,rfl,q⟩:=q1
 obtain⟨t,rfl⟩:=r1
 cases ha:x.cps.all (·<128)
 ·refine wpAny_pyIter_wide ha ⟨s1.heap.objs.size,[s1.heap.objs.size],_,_,H1,rfl,I1.kept (t':=s1.toks) λb o e=>C0 _ e,zmB x t _,⟨_,Q0 _ rfl,rfl,rfl⟩,λb hb=>?_,q⟩
  have e:b=s1.heap.objs.size:=by simpa using hb
  subst e
  exact I1.fpOk (O0 _) (I1.hok.fresh (O0 _))
 ·refine wpAny_pyIter_ascii ha ⟨s1.heap.objs.size,[s1.heap.objs.size],_,_,H1,rfl,I1.kept (t':=s1.toks) λb o e=>C0 _ e,zmH x t _,⟨_,Q0 _ rfl,rfl,rfl⟩,λb hb=>?_,q⟩
  have e:b=s1.heap.objs.size:=by simpa using hb
  subst e
  exact I1.fpOk (O0 _) (I1.hok.fresh (O0 _))
theorem zap:bootBuiltins "len"=some (.builtin "len"):=`n4
theorem zd8:bootBuiltins "all"=some (.builtin "all"):=`n4
theorem za8:bootBuiltins "isinstance"=some (.builtin "isinstance"):=`n4
theorem zkJ:bootBuiltins "max"=some (.builtin "max"):=`n4
theorem zh1:bootBuiltins "min"=some (.builtin "min"):=`n4
theorem zbB:bootBuiltins "sorted"=some (.builtin "sorted"):=`n4
theorem zfu:bootBuiltins "int"=some (.type "int"):=`n4
theorem zrZ:bootBuiltins "str"=some (.type "str"):=`n4
theorem za6:bootBuiltins "tuple"=some (.type "tuple"):=`n4
theorem zil:bootBuiltins "list"=some (.type "list"):=`n4
theorem zqc:bootBuiltins "bool"=some (.type "bool"):=`n4
theorem few{xs:List α}(h:Nat.ble xs.length 1000=true):xs.length<=sizeLine:=Z2 (zl (C2 h))
noncomputable def zfA:Expr->Option V
 | .Constant (.str x) _ _=>some (.str x)
 | .Constant (.int i) _ _=>some (.int i)
 | .Constant (.bool b) _ _=>some (.bl b)
 | .Constant .none _ _=>some .non
 |_=>none
theorem znD(h:zfA e=some v):PE X e (tC v)/\∀es,starEach (e::es) X.env=(false,eval e X.env)::starEach es X.env:=by
 cases e with
 |Constant c j pos=>
  cases c with
  |str x=>cases h;exact⟨znE,λ_=>rfl⟩
  |int x=>cases h;exact⟨zn3,λ_=>rfl⟩
  |bool x=>cases h;exact⟨zqp,λ_=>rfl⟩
  |none=>cases h;exact⟨zoT,λ_=>rfl⟩
  |_=>cases h
 |_=>cases h
noncomputable def zsX(vs:List V):TA:=λ_ H Q=>Q vs H
theorem zff:∀{es:List Expr} {vs:List V},es.mapM zfA=some vs->PA X es (zsX vs)
 |[],vs,h=>by
  have e:vs=[]:=by simpa using h.symm
  subst e
  exact zn5
 |e::es,vs,h=>by
  rw[List.mapM_cons] at h
  cases h1:zfA e with
  |none=>rw[h1] at h;cases h
  |some v=>
   rw[h1] at h
   cases h2:es.mapM zfA with
   |none=>rw[h2] at h;cases h
   |some us=>
    rw[h2] at h
    have e1:v::us=vs:=U1 h
    subst e1
    obtain⟨p,st⟩:=znD (X:=X) h1
    have q:=zlI p (zff (es:=es) h2) (st es)
    exact q
noncomputable def zqu(vs:List V):TE:=λ_ H Q=>vs.length<=sizeLine/\∀p,H p=none->Q (.ref p) (upd H p (.lst vs))
theorem zo9(vs:List V)(h:es.mapM zfA=some vs):PE X (.List es pos) (zqu vs):=zn8 (zff h)
structure Wk(J:It)(n:Nat)(P:Nat->V->Prop)(ok:Hp->Prop):Prop where
 stop:∀i H,ok H->n<=i->J.stop i H
 go:∀i H,ok H->i<n->J.go i H
 yld:∀i H x H',ok H->i<n->J.yld i H x H'->H'=H/\P i x
theorem zcW:Wk (Itl K a) xs.length (λi x=>xs[i]?=some x) (λH=>SqL K H a xs) where
 stop:=λi H h l=>⟨xs,h,l⟩
 go:=λi H h l=>⟨xs,xs[i],h,by simp[l]⟩
 yld:=λi H x H' h l y=>⟨y.1,y.2 xs h⟩
theorem za1:Wk (Itt K a) xs.length (λi x=>xs[i]?=some x) (λH=>SqT K H a xs) where
 stop:=λi H h l=>⟨xs,h,l⟩
 go:=λi H h l=>⟨xs,xs[i],h,by simp[l]⟩
 yld:=λi H x H' h l y=>⟨y.1,y.2 xs h⟩
theorem zdb{lo:Int}:Wk (Itr lo n) n (λi x=>x= .int (lo+i)) (λ_=>True) where
 stop:=λi H h l=>l
 go:=λi H h l=>l
 yld:=λi H x H' h l y=>y
theorem zqW:Wk (Its x) x.length (λi y=>∃c,x.cps[i]?=some c/\y= .str ⟨#[c]⟩) (λ_=>True) where
 stop:=λi H h l=>l
 go:=λi H h l=>l
 yld:=λi H x H' h l y=>y
theorem zbv{P:Nat->V->Prop}{ok:Hp->Prop}{g:TG}{src:List (Option Nat)}{Q:VK}(wk:Wk J n P ok)(Pv:Addr->Nat->List V->St->Hp->Prop)
 (h0:∀l,H1 l=none->Pv l 0 [] (zeM src σ) (upd H1 l (.lst []))) (hok:∀l i ys σ H,H1 l=none->Pv l i ys σ H->ok H)
 (hs:∀l i x ys σ H,H1 l=none->i<n->P i x->Pv l i ys σ H->H l=some (.lst ys)->g x σ H λσ2 H3=>tc σ2 H3 λb H4=>
   if b=true then te σ2 H4 λy H5=>H5 l=some (.lst ys)/\ys.length<sizeLine/\Pv l (i+1) (ys ++ [y]) σ2 (upd H5 l (.lst (ys ++ [y])))else H4 l=some (.lst ys)/\Pv l (i+1) ys σ2 H4)
 (hd:∀l ys σ H,H1 l=none->Pv l n ys σ H->H l=some (.lst ys)->Q (.ref l) H):
 zcG g tc te src σ Q J H1:=by
 intro l hl
 refine⟨λi m ys σ H=>m=n -i/\i<=n/\Pv l i ys σ H,⟨n,`n3,K2 _,h0 l hl⟩,?_⟩
 rintro i m ys σ' H' ⟨rfl,hi,p⟩ hl'
 by_cases hlt:i<n
 ·refine .inr ⟨wk.go i H' (hok l i ys σ' H' hl p) hlt,Pv l (i+1),λzs σ2 H2 q=>⟨n -(i+1),(),rfl,hlt,q⟩,λx H2 y=>?_⟩
  obtain⟨rfl,px⟩:=wk.yld i H' x H2 (hok l i ys σ' H' hl p) hlt y
  exact hs l i x ys σ' _ hl hlt px p hl'
 ·have e:i=n:=()
  subst e
  exact .inl ⟨wk.stop _ _ (hok l _ ys σ' H' hl p) (O0 _),hd l ys σ' H' hl p hl'⟩
theorem zbi{P:Nat->V->Prop}{ok:Hp->Prop}{g:TG}{D:Ends}(wk:Wk J n P ok)(Pv:Nat->St->Hp->Prop)(h0:Pv 0 σ H)(hok:∀i σ H,Pv i σ H->ok H)
 (hs:∀i x σ H,i<n->P i x->Pv i σ H->g x σ H λσ2 H2=>tb {D with nx:=Pv (i+1),ct:=Pv (i+1),bk:=D.nx} σ2 H2) (hd:∀σ H,Pv n σ H->D.nx σ H):
 zlr g tb D σ J H:=by
 refine⟨λi m σ H=>m=n -i/\i<=n/\Pv i σ H,⟨n,`n3,K2 _,h0⟩,?_⟩
 rintro i m σ H ⟨rfl,hi,p⟩
 by_cases hlt:i<n
 ·refine .inr ⟨wk.go i H (hok i σ H p) hlt,Pv (i+1),λσ' H' q=>⟨n -(i+1),(),rfl,hlt,q⟩,λx H' y=>?_⟩
  obtain⟨rfl,px⟩:=wk.yld i H x H' (hok i σ H p) hlt y
  exact hs i x σ _ hlt px p
 ·have e:i=n:=()
  subst e
  exact .inl ⟨wk.stop _ _ (hok _ σ H p) (O0 _),hd σ H p⟩
structure QE(X:Cx)(e:Expr)(t:TE):Prop where o:PE X e t
structure QT(X:Cx)(e:Expr)(t:TT):Prop where o:PT X e t
structure QW(X:Cx)(e:Expr)(t:TT):Prop where o:PW X e t
structure QA(X:Cx)(es:List Expr)(t:TA):Prop where o:PA X es t
structure QS(X:Cx)(s:Stmt)(t:TS):Prop where o:PS X s t
structure QB(X:Cx)(s:List Stmt)(t:TS):Prop where o:PSs X s t
structure QI(X:Cx)(tg iter:Expr)(t:TI):Prop where o:PI X tg iter t
structure QG(X:Cx)(tg:Expr)(t:TG):Prop where o:PG X tg t
structure QGs(X:Cx)(tg:List Expr)(t:TGs):Prop where o:PGs X tg t
structure QF(X:Cx)(ifs:List Expr)(t:TT):Prop where o:PIf X ifs t
structure QO(X:Cx)(e:Option Expr)(t:TO):Prop where o:PO X e t
structure QPs(X:Cx)(pos:Pos)(keys:List (Option Expr))(values:List Expr)(trs:List (TE×TE)):Prop where o:PPs X pos keys values trs
section
variable{a b o i:Expr}{ta tb tc to:TE}{t u:TA}{p:Pos}{q q':TT}
theorem qv(i:Nat)(hN:autoParam (X.N[i]?=some x) u4)(hv:Vis X.env.scope x:=by exact Or.inl rfl)(hd:autoParam ((x==("__debug__":Str))=false) u5)
 (hcd:autoParam ((x==("__classdict__":Str))=false) u5):QE X (.Name x pos) (zfr i):=⟨znp hN hv hd hcd⟩
theorem qc(i:Nat)(hN:autoParam (X.N[i]?=some x) u4)(hv:autoParam (X.env.scope.names.lookup x=some .cell) u4)(hd:autoParam ((x==("__debug__":Str))=false) u5)
 (hcd:autoParam ((x==("__classdict__":Str))=false) u5):QE X (.Name x pos) (zfr i):=⟨znp hN (.inr (.inl hv)) hd hcd⟩
theorem ze{k:Int}:QE X (.Constant (.int k) j pos) (tC (.int k)):=⟨zn3⟩
theorem zar{k:Str}:QE X (.Constant (.str k) j pos) (tC (.str k)):=⟨znE⟩
theorem zbT{k:Bool}:QE X (.Constant (.bool k) j pos) (tC (.bl k)):=⟨zqp⟩
theorem zbR:QE X (.Constant .none j pos) (tC .non):=⟨zoT⟩
theorem zgl{u:Value}(hm:X.mg x=some u)(r:RelV v u)(hg:autoParam (Gl X x) u4)(hd:autoParam ((x==("__debug__":Str))=false) u5):QE X (.Name x pos) (tC v):=⟨zpZ hg hm r hd⟩
theorem zmb(hm:X.mg x=none)(hv:bootBuiltins x=some (.type T))(hg:autoParam (Gl X x) u4)(hn:autoParam (x≠"__name__") u5)(hd:autoParam ((x==("__debug__":Str))=false) u5):QE X (.Name x pos) (tC (.ty T)):=⟨zps hg hm hv rfl hn hd⟩
theorem zQ{op:Operator}(ho:OpR X (binaryOp op) r)(ha:QE X a ta)(hb:QE X b tb):QE X (.BinOp a op b pos) (tOp r ta tb):=⟨zsh ho ha.o hb.o⟩
theorem zf6{op:UnaryOp}{r:V->Hp->VK->Prop}(ho:UnR X (unaryOp op) r)(ha:QE X a ta):QE X (.UnaryOp op a pos) (tUn r ta):=⟨zsl ho ha.o⟩
theorem zaZ(ho:OpR X (compareOp op) r)(ha:QE X a ta)(hb:QE X b tb)(hm:autoParam (behindInMarks op b=false) u4):QE X (.Compare a [op] [b] pos) (tOp r ta tb):=⟨zpm ho ha.o hb.o hm⟩
theorem zE(ho:OpR X (compareOp op) r)(ha:QE X a ta)(hb:QE X b tb)(hm:autoParam (behindInMarks op b=false) u4):QT X (.Compare a [op] [b] pos) (zlh (tOp r ta tb)):=⟨zo7 ho ha.o hb.o hm⟩
theorem zlS(ho:OpR X (compareOp op) r)(ho':OpR X (compareOp op') r')(ha:QE X a ta)(hb:QE X b tb)(hc:QE X c tc)
 (hm:autoParam (lastMarks [op,op'] [b,c]=false) v7):QE X (.Compare a [op,op'] [b,c] pos) (zie r r' ta tb tc):=⟨znc ho ho' ha.o hb.o hc.o hm⟩
theorem zo6(ho:OpR X (compareOp op) r)(ho':OpR X (compareOp op') r')(ha:QE X a ta)(hb:QE X b tb)(hc:QE X c tc)
 (hm:autoParam (lastMarks [op,op'] [b,c]=false) v7):QT X (.Compare a [op,op'] [b,c] pos) (zlh (zie r r' ta tb tc)):=⟨zoj ho ho' ha.o hb.o hc.o hm⟩
theorem ze7{op:BoolOp}(h:QE X a ta):QE X (.BoolOp op [a] pos) ta:=⟨zrV h.o⟩
theorem zfP(ha:QE X a ta)(hb:QE X (.BoolOp .And (b::rest) pos) tb):QE X (.BoolOp .And (a::b::rest) pos) (zqK ta tb):=⟨zrN ha.o hb.o⟩
theorem zs1(ha:QE X a ta)(hb:QE X (.BoolOp .Or (b::rest) pos) tb):QE X (.BoolOp .Or (a::b::rest) pos) (zsx ta tb):=⟨zsC ha.o hb.o⟩
theorem zoI(ha:QE X a ta):QE X (.UnaryOp .Not a pos) (zqn ta):=⟨zrc ha.o⟩
theorem zta(hc:QT X c q)(ha:QE X a ta)(hb:QE X b tb):QE X (.IfExp c a b pos) (tIf q ta tb):=⟨zns hc.o ha.o hb.o⟩
theorem zgP(ha:QT X a q):QW X (.BoolOp .And [a] pos) q:=⟨zpN ha.o⟩
theorem zcZ(ha:QT X a q):QW X (.BoolOp .Or [a] pos) q:=⟨zrk ha.o⟩
theorem ziX(ha:QT X a q)(hb:QW X (.BoolOp .And (b::rest) pos) q'):QW X (.BoolOp .And (a::b::rest) pos) (zsr q q'):=⟨zr1 ha.o hb.o⟩
theorem zcO(ha:QT X a q)(hb:QW X (.BoolOp .Or (b::rest) pos) q'):QW X (.BoolOp .Or (a::b::rest) pos) (tOr q q'):=⟨zsg ha.o hb.o⟩
theorem t_w(h:QW X a q):QT X a q:=⟨h.o.pt⟩
theorem zbp(ha:QT X a q):QT X (.UnaryOp .Not a pos) (zsF q):=⟨zre ha.o⟩
theorem za4(h:QE X e te)(he:autoParam (∀whole,isTrue e X.env whole=(do let v ←whole;standAt e.pos;holding [v] (truthy v))) u6):QT X e (tB te):=⟨zrv h.o he⟩
theorem zd:QA X [] zhX:=⟨zn5⟩
theorem zb(ha:QE X e te)(hr:QA X es t)(hs:autoParam (starEach (e::es) X.env=(false,eval e X.env)::starEach es X.env) u4):QA X (e::es) (zfN te t):=⟨zlI ha.o hr.o hs⟩
theorem zM(h:QA X es t):QE X (.Tuple es k pos) (zqZ t):=⟨zrd h.o⟩
theorem za0(h:QA X es t):QE X (.List es pos) (zr4 t):=⟨zn8 h.o⟩
theorem zfx(vs:List V)(h:es.mapM zfA=some vs):QE X (.List es pos) (zqu vs):=⟨zo9 vs h⟩
theorem zkM{ps:List Str}{ds:List Value}{E:XK}(F:FnOk X.prog X.w X.K X.mg X.base CX k f fd ps sp)(hr:Room k X.A)(hm:X.mg x=some (.ref f))(hk:W.keepIn X.K (.ref f)=true)(hb:Binds X.K fd ps ds)(hd:Vals dvs ds)(hx:zid CX X E)
 (ha:QA X (e::es) t) (hg:autoParam (Gl X x) u4) (hdb:autoParam ((x==("__debug__":Str))=false) u5) (he:autoParam (starEach (e::es) X.env=(false,eval e X.env)::starEach es X.env) u4) (hpl:autoParam ((backTo pos (starEach es X.env)).any (·.1)=false) u4):
 QE X (.Call (.Name x p) (e::es) [] pos) (zhk sp dvs E t):=⟨zpT F hr hg hm hk hb hd hx ha.o hdb he hpl⟩
theorem zn{id:String}{r:List V->Hp->VK->Prop}(hc:CallR X (.builtin id) r)(hm:X.mg x=none)(hv:bootBuiltins x=some (.builtin id))(ha:QA X (e::es) t)(hg:autoParam (Gl X x) u4)(hn:autoParam (x≠"__name__") u5)(hdb:autoParam ((x==("__debug__":Str))=false) u5)
 (he:autoParam (starEach (e::es) X.env=(false,eval e X.env)::starEach es X.env) u4) (hpl:autoParam ((backTo pos (starEach es X.env)).any (·.1)=false) u4):QE X (.Call (.Name x p) (e::es) [] pos) (tCB r t):=⟨znT hc hg hm hv ha.o hn hdb he hpl⟩
theorem zah{r:List V->Hp->VK->Prop}(hc:CallR X (.type T) r)(hm:X.mg x=none)(hv:bootBuiltins x=some (.type T))(ha:QA X (e::es) t)(hg:autoParam (Gl X x) u4)(hn:autoParam (x≠"__name__") u5)(hdb:autoParam ((x==("__debug__":Str))=false) u5)
 (he:autoParam (starEach (e::es) X.env=(false,eval e X.env)::starEach es X.env) u4) (hpl:autoParam ((backTo pos (starEach es X.env)).any (·.1)=false) u4):QE X (.Call (.Name x p) (e::es) [] pos) (tCB r t):=⟨zmC hc hg hm hv ha.o hn hdb he hpl⟩
theorem zx(hr:IxR X r)(ha:QE X a ta)(hb:QE X b tb)(hs:zlg b:=by exact λ_ _=>rfl):QE X (.Subscript a b pos) (tOp r ta tb):=⟨zsA hr ha.o hb.o hs⟩
theorem zba:QO X none zb4:=⟨zpJ⟩
theorem zaW(h:QE X e te):QO X (some e) (zjN te):=⟨zpB h.o⟩
theorem zdB{r:V->Option Int->Option Int->Hp->VK->Prop}{lo hi:Option Expr}{tl:TO}(hr:SlR X r)(he:QE X e te)(hl:QO X lo tl)(hu:QO X hi th):QE X (.Subscript e (.Slice lo hi none p) pos) (tSl r te tl th):=⟨znJ hr he.o hl.o hu.o⟩
theorem zf3{id:String}{r:V->List V->Hp->VK->Prop}(pa:PlainAttrs T)(slot:Slot T name id)(hty:typeOf (.builtin id)=pure (.type "method_descriptor"))(hm:MtR X id r)(ho:QE X o to)(ha:QA X (e::es) t)
 (hbase:autoParam (attributeBase o name X.env (eval o X.env)=eval o X.env) u4)
 (hfew:autoParam (((backTo cpos (starEach (e::es) X.env)).all (λx=>!x.1)&&(backToKw cpos (keywordEach [] X.env)).all (λx=>x.1.isSome)
   &&decide ((e::es).length+([]:List Keyword).length+(if([]:List Keyword).isEmpty then 0 else 1)<30))=true) u4)
 (hline:autoParam ((apos.endLine==cpos.line)=true) u4) (hs:autoParam (starEach (e::es) X.env=(false,eval e X.env)::starEach es X.env) u4) (hplain:autoParam ((backTo cpos (starEach es X.env)).any (·.1)=false) u4):
 QE X (.Call (.Attribute o name apos) (e::es) [] cpos) (tBM X.K T r to t):=⟨zsN pa slot hty hm ho.o ha.o hbase hfew hline hs hplain⟩
theorem zdT(h:QE X e te):QI X tg e (zm0 X.K te):=⟨zpY h.o⟩
theorem zbM(h:QE X e te):QI X tg e (zrt X.K te):=⟨zrL h.o⟩
theorem zsk(h:QE X e te):QI X tg e (zsn te):=⟨zrS h.o⟩
theorem zcD(hm:X.mg "range"=none)(ha:QA X [a] t)(hg:autoParam (Gl X "range") u4)(hs:autoParam (starEach [a] X.env=[(false,eval a X.env)]) u4):QI X tg (.Call (.Name "range" p) [a] [] pos) (zqy t):=⟨zml hg hm ha.o hs⟩
theorem zrT(hm:X.mg "range"=none)(ha:QA X [a,b] t)(hg:autoParam (Gl X "range") u4)(hs:autoParam (starEach [a,b] X.env=[(false,eval a X.env),(false,eval b X.env)]) u4)(hs2:autoParam (starEach [b] X.env=[(false,eval b X.env)]) u4):QI X tg (.Call (.Name "range" p) [a,b] [] pos) (zqv t):=⟨zmT hg hm ha.o hs hs2⟩
theorem zk(k:Nat)(hN:X.N.Nodup)(hi:autoParam (X.N[k]?=some x) u4)(hx:autoParam (X.env.scope.names.lookup x=some .local) u4):QG X (.Name x pos) (za5 k):=⟨zlx hN hi (.inl hx) (.inr hx)⟩
theorem zaB:QGs X [] zsJ:=⟨zpn⟩
theorem zo{tg:TG}(h1:QG X e tg)(h2:QGs X es tgs)(hs:autoParam ((assignEach (e::es) X.env).map (·.2)=assign e X.env::(assignEach es X.env).map (·.2)) u4):QGs X (e::es) (zqo tg tgs):=⟨zoO h1.o h2.o hs⟩
theorem zbS(n:Nat)(hc:X.calm=true)(h:QGs X es tgs)(hn:autoParam ((assignEach es X.env).length=n) u4)(hst:autoParam ((assignEach es X.env).findIdx? (·.1)=none) u4):QG X (.Tuple es k pos) (zrJ X.K n tgs):=⟨zru hc h.o hn hst⟩
theorem zdi:QF X [] zoK:=⟨zpy⟩
theorem zcS(h:QT X c q):QF X [c] q:=⟨zp3 h.o⟩
theorem zL:QB X [] zqE:=⟨zpR⟩
theorem zh{st:Stmt}(h1:QS X st sa)(h2:QB X sts sb):QB X (st::sts) (zm2 sa sb):=⟨zi5 h1.o h2.o⟩
theorem zi{st:Stmt}(h1:QS X st sa):QB X [st] sa:=⟨zoZ h1.o⟩
theorem zak{A B:List Stmt}(hc:QT X c q)(ha:QB X A sa)(hb:QB X B sb):QS X (.If c A B pos) (zro q sa sb):=⟨zr8 hc.o ha.o hb.o⟩
theorem zv(h:QE X e te):QS X (.Return (some e) pos) (zrH te):=⟨zrb h.o⟩
theorem zcB(he:QE X e te)(hs:autoParam (swapsWith e none pos.line X.env=pure false) u4):QS X (.Expr e pos) (zqw te):=⟨zp9 he.o hs⟩
theorem zrg:QS X (.Continue pos) zqF:=⟨zjc⟩
theorem zI(k:Nat)(hN:X.N.Nodup)(he:QE X e te)(hi:autoParam (X.N[k]?=some x) u4)(hx:autoParam (X.env.scope.names.lookup x=some .local) u4)(hs:autoParam (swapsWith e (some (.Name x pos')) pos.line X.env=pure false) u4):
 QS X (.Assign [.Name x pos'] e pos) (zi2 te (za5 k)):=⟨znt hN hi (.inl hx) he.o hs (.inr hx)⟩
theorem zeh(k:Nat)(hN:X.N.Nodup)(he:QE X e te)(hi:autoParam (X.N[k]?=some x) u4)(hx:autoParam (X.env.scope.names.lookup x=some .cell) u4)(hf:autoParam (X.fn x=true) u4)(hs:autoParam (swapsWith e (some (.Name x pos')) pos.line X.env=pure false) u4):
 QS X (.Assign [.Name x pos'] e pos) (zi2 te (za5 k)):=⟨znt hN hi (.inr hx) he.o hs (.inl hf)⟩
theorem zbG{g:TG}(hp:PassesOwn `Y4 X.A X.env X.xe)(hc:X.calm=true)(hi:QI X tg iter wi)(hg:QG X tg g)(hb:QB X body sa)
 (hs:autoParam (∀x,foldedSetIterable iter X.env x=pure x) u6):QS X (.For tg iter body [] pos) (zqx wi g sa):=⟨zo1 hp hc hi.o hg.o hb.o hs⟩
end
section
variable{src:List (Option Nat)}{g:TG}
theorem zaQ(ok:CompOk X.N osc N' src scope)(hsc:X.env.scope=osc)(hc:X.calm=true)(hi:QI X tg iter wi)
 (hg:∀cl C s₀ H₀ fp,QG (zaq X N' scope cl C s₀ H₀ fp) tg g) (ht:∀cl C s₀ H₀ fp,QF (zaq X N' scope cl C s₀ H₀ fp) ifs tc) (he:∀cl C s₀ H₀ fp,QE (zaq X N' scope cl C s₀ H₀ fp) elt te)
 (hs:autoParam (∀x,foldedSetIterable iter X.env x=pure x) u6):QE X (.ListComp elt [⟨tg,iter,ifs,0⟩] scope pos) (zlT wi g tc te src):=
 ⟨zpC ok hsc hc hi.o (λcl C s₀ H₀ fp=>(hg cl C s₀ H₀ fp).o) (λcl C s₀ H₀ fp=>(ht cl C s₀ H₀ fp).o) (λcl C s₀ H₀ fp=>(he cl C s₀ H₀ fp).o) hs⟩
end
theorem Fun.okQ{mg:Str->Option Value}{st:Stmt}{ps:List Str}(F:Fun K x qual st f fd)(S:FnScope N ps (zU st))(len:∀vs H Q E,sp vs H Q E->vs.length=ps.length)
 (hbody:∀(cdv:Value) (A:Around) (outer:List Env) (s:Shared) (H:Hp) (vs:List V) (Q:VK) (E:XK),Room k (A.deeper (envOfC qual (zU st) s.heap.objs.size f cdv))->sp vs H Q E->
   ∃t,QB (zav CX0 P w K mg base N qual (zU st) f cdv A outer s H E).nox (zaS st) t/\t {nx:=λ_ H'=>Q .non H',rt:=Q} (zet N vs) H):FnOk P w K mg base CX0 (k+1) f fd ps sp:=
 F.ok S len λcdv A outer s H vs Q E hr h=>let ⟨t,a,b⟩:=hbody cdv A outer s H vs Q E hr h;⟨t,a.o,b⟩
theorem zqT{m:Str->Option Value}(hn:h.Ns a m):∃o,h.get? a=some o/\∀v,o.data≠ .cell v:=
 let⟨o,es,ep,e,d,_⟩:=hn;⟨o,e,λv z=>by rw[d] at z;cases z⟩
theorem zpg{m:Str->Option Value}{o:Obj}(hn:h.Ns a m)(e:h.get? a=some o)(e':h'.get? a=some o):h'.Ns a m:=by
 obtain⟨o',es,ep,e1,r⟩:=hn
 rw[e] at e1
 cases e1
 exact⟨o,es,ep,e',r⟩
section
variable{src:List (Option Nat)}{g:TG}
theorem zj2(ok:CompOk X.N osc N' src scope)(hsc:X.env.scope=osc)(hc:X.calm=true)(hi:PI X tg iter wi)
 (hg:∀cl C s₀ H₀ fp,PG (zaq X N' scope cl C s₀ H₀ fp) tg g) (ht:∀cl C s₀ H₀ fp,PIf (zaq X N' scope cl C s₀ H₀ fp) ifs tc) (he:∀cl C s₀ H₀ fp,PE (zaq X N' scope cl C s₀ H₀ fp) elt te)
 (hN:X.N.Nodup) (hk:X.N[k]?=some y) (hx:X.env.scope.names.lookup y=some .local) (hsw:swapsWith (.ListComp elt [⟨tg,iter,ifs,0⟩] scope pos) (some (.Name y py)) spos.line X.env=pure true)
 (hs:autoParam (∀x,foldedSetIterable iter X.env x=pure x) u6):PS X (.Assign [.Name y py] (.ListComp elt [⟨tg,iter,ifs,0⟩] scope pos) spos) (zi2 (zlT wi g tc te src) (za5 k)):=by
 intro pins s σ H D I h
 obtain⟨cl,hcl,c1,c2⟩:=zgK (scope:=scope) (env:=X.env) λy hy hyf=>I.ok.has y.1 (by
  have z:=ok.frees y hy hyf
  rw[←hsc] at z
  exact z)
 rw[exec_Assign_Name_used _ _ _ _ hsw]
 refine A0 (wpAny_standAt (A0 ?_))
 show wpAny _ X.A (do let _ ←comprehension (.ListComp elt [⟨tg,iter,ifs,0⟩] scope pos) scope X.env _ (newList []) false (eval iter X.env) (some (assign (.Name y py) X.env))) _ _ s
 refine A0 (wpAny_mono (wpAny_comprehension_free (use:=some (assign (.Name y py) X.env)) (Q:=λ_ s'=>∃σ' H',Inv X pins σ' H' s'/\D.nx σ' H') rfl hs hcl ok.kind ok.loc
  (thn (hi pins s σ H _ I h) λv s1 h1=>thn h1 λitv s2 h2=>?_)) (λ_ s' hq=>D0 (D0 hq)) λ_ _ e=>e)
 obtain⟨it,fp,tn,J,H2,e,I2,T,st2,f2,q2⟩:=h2
 subst e
 have hlt2:∀b∈fp,b<s2.heap.objs.size:=λb hb=>by
  obtain⟨o,e,_⟩:=T.obj _ _ st2 b hb
  exact X0 e
 refine V2 ?_
 have hl:H2 s2.heap.objs.size=none:=I2.hok.fresh (O0 _)
 have I3:Inv X pins σ (upd H2 s2.heap.objs.size (.lst [])) {s2 with heap:=s2.heap.push {cls:= .type "list",dict:=none,data:= .seq ([]:List Value).toArray}}:=
  I2.laid (t':=s2.toks) (λb u e=>C0 _ e) (O0 _) ⟨K2 _,[],0, .nil,Q0 _ rfl⟩
 obtain⟨W,⟨m0,w0⟩,turn⟩:=q2 _ hl
 generalize hl2:s2.heap.objs.size=l at *
 generalize hs3:({s2 with heap:=s2.heap.push {cls:= .type "list",dict:=none,data:= .seq ([]:List Value).toArray}}:Shared)=s3 at *
 have f3:∀b∈fp,zfa X pins (upd H2 l (.lst [])) b:=λb hb=>⟨by rw[zj (Z1 (hlt2 b hb))];exact(f2 b hb).1,(f2 b hb).2⟩
 have k3:∀b o,s2.heap.get? b=some o->s3.heap.get? b=some o:=λb o e=>by rw[←hs3];exact C0 _ e
 have hlt3:∀b∈fp,b<s3.heap.objs.size:=λb hb=>by
  obtain⟨o,e,_⟩:=T.obj _ _ st2 b hb
  exact X0 (k3 b o e)
 refine wpAny_newFunctionEnv ok.nocell (by intro y hy;simp at hy) (λh₁ hns₁ hsb₁=>?_) ok.kind
 have k4:∀b o,s3.heap.get? b=some o->h₁.get? b=some o:=λb o e=>(hsb₁.2 b (Z1 (X0 e))).trans (C0 _ e)
 have J0:=zgq (tk:=s3.toks+([]:List (Str×Value)).length) I3 f3 hlt3 ok hsc c1 c2 hns₁ k4
 have st4:tn 0 h₁:=T.keep _ _ _ st2 λb hb o e=>k4 b o (k3 b o e)
 generalize hC:s3.heap.objs.size=C at *
 have stat:∀{H':Hp},(∀b∈fp,H' b=none)->∀b∈fp,zfa (zaq X N' scope cl C s3 (upd H2 l (.lst [])) fp) [] H' b:=λ{H'} hn b hb=>
  ⟨hn b hb,(J0.ok.exf b hb).1,J0.ok.exfs b hb, .inl hb,(J0.ok.exf b hb).2,λp hp=>absurd (show p∈([]:List (Addr×Obj))from hp) `n3⟩
 have loop:codeAny `Y4 X.A (.compLoop (.ListComp elt [⟨tg,iter,ifs,0⟩] scope pos) 0 (.ref it) (.ref l) (compEnvC scope cl C X.env))
  (compPost `Y4 X.A X.xe (some (assign (.Name y py) X.env)) (λ_ s'=>∃σ' H',Inv X pins σ' H' s'/\D.nx σ' H') (.ref l) C) {s3 with heap:=h₁,toks:=s3.toks+([]:List (Str×Value)).length}:=by
  refine ze1 (λn s'=>∃i ys σ' H',Inv (zaq X N' scope cl C s3 (upd H2 l (.lst [])) fp) [] σ' H' s'/\tn i s'.heap/\(∀b∈fp,H' b=none)/\H' l=some (.lst ys)/\W i n ys σ' H') ?_ m0
   ⟨0,[],_,_,J0,st4,λb hb=>(f3 b hb).1,zc,w0⟩
  rintro n s5 ⟨i,ys,σ5,H5,I5,st5,fr5,hl5,w5⟩
  rcases turn i n ys σ5 H5 w5 hl5 with⟨stop,qn⟩|⟨go,N,hN,step⟩
  ·refine thn (T.done (zaq X N' scope cl C s3 (upd H2 l (.lst [])) fp) rfl rfl rfl hc i [] s5 σ5 H5 (λ_ _=>False) I5 (stat fr5) st5 stop) λr s6 ⟨hr,I6⟩=>?_
   subst hr
   obtain⟨m,hn,_⟩:=I6.loc
   have hCs:s3.heap.objs.size<=C:=by rw[←hC];exact O0 _
   have I7:Inv X pins σ H5 s6:=zgw (h':=s6.heap) I3 f3 hCs I6 ⟨rfl,λ_ _=>rfl⟩
   have fC:zfa X pins H5 C:=I3.fpOk hCs I6.free
   obtain⟨oC,eC,dC⟩:∃o,s6.heap.get? C=some o/\∀v,o.data≠ .cell v:=by
    obtain⟨o,e,d⟩:=zqT hn
    exact⟨o,e,d⟩
   have I8:=I7.pinned (fp:=[C]) (λb hb=>by rw[c0.mp hb];exact fC) (λb hb=>by rw[c0.mp hb];exact⟨oC,eC,dC⟩)
   refine wpAny_assign_Name (zeg (v:= .ref l) I8 hN hk (.inl hx) rfl (λs9 I9=>?_) (.inr hx))
   have p9:=(I9.pin (C,oC) (O2 _ (O2 _ (zby (c0.mpr rfl) eC)))).1
   refine⟨m,zpg hn eC p9,λh' hsb=>⟨_,H5,?_,qn⟩⟩
   obtain⟨f0,f1,f2,f3',f4,f5⟩:=fC
   exact I9.unpinned.turned (t':=s9.toks) (λb o hb e=>(hsb.2 b hb).trans e) f0 f1 f3' f4 f5
  ·refine thn (T.item (zaq X N' scope cl C s3 (upd H2 l (.lst [])) fp) rfl rfl rfl hc i [] s5 σ5 H5 (λ_ _=>False) I5 (stat fr5) st5 go) λr s6 ⟨u,hr,h6⟩=>?_
   subst hr
   refine thn h6 λ_ s7 zq=>?_
   obtain⟨x,H7,I7,r7,y7,st7,fr7⟩:=zq
   have I7':=I7.pinned (stat fr7) (T.obj _ _ st7)
   refine thn (hg cl C s3 _ fp _ s7 σ5 H7 x u _ I7' r7 (step x H7 y7)) λ_ s8 zq=>?_
   obtain⟨σ8,H8,I8,q8⟩:=zq
   refine thn (ht cl C s3 _ fp _ s8 σ8 H8 _ I8 q8) λb s9 zq=>?_
   obtain⟨H9,I9,q9⟩:=zq
   have back:∀{s':Shared} {H':Hp},Inv (zaq X N' scope cl C s3 (upd H2 l (.lst [])) fp) ([]++zft fp s7.heap) σ8 H' s'->tn (i+1) s'.heap/\∀b∈fp,H' b=none:=λ{s' H'} I'=>by
    refine⟨T.keep _ _ _ st7 λb hb o e=>(I'.pin (b,o) (O2 _ (O2 _ (zby hb e)))).1,λb hb=>?_⟩
    obtain⟨o,e,d⟩:=T.obj _ _ st7 b hb
    exact(I'.pin (b,o) (O2 _ (O2 _ (zby hb e)))).2.1
   cases b with
   |false=>
    obtain⟨hl9,n9⟩:=q9
    obtain⟨m',hm,w9⟩:=hN _ _ _ n9
    obtain⟨t9,fr9⟩:=back I9
    exact⟨m',hm,i+1,ys,σ8,H9,I9.unpinned,t9,fr9,hl9,w9⟩
   |true=>
    refine thn (he cl C s3 _ fp _ s9 σ8 H9 _ I9 q9) λxv s10 zq=>?_
    obtain⟨y,H10,I10,r10,hl10,hz,n10⟩:=zq
    obtain⟨m',hm,w10⟩:=hN _ _ _ n10
    refine thn (zaV (X:=zaq X N' scope cl C s3 (upd H2 l (.lst [])) fp) _ s10 σ8 H10 (.ref l) [y] (.ref l) [xv] (λv H'=>H'=upd H10 l (.lst (ys ++ [y]))) I10 rfl (.cons r10 .nil) ⟨l,ys,y,rfl,rfl,hl10,hz,rfl⟩) λ_ s11 ⟨_,H11,I11,_,e11⟩=>?_
    subst e11
    obtain⟨t11,fr11⟩:=back I11
    exact⟨m',hm,i+1,ys ++ [y],σ8,_,I11.unpinned,t11,fr11,zc,w10⟩
 exact codeAny_compStart_list loop (T.self _ 0 _ _ _ st4 loop)
theorem zcv(k:Nat)(ok:CompOk X.N osc N' src scope)(hsc:X.env.scope=osc)(hc:X.calm=true)(hN:X.N.Nodup)(hi:QI X tg iter wi)
 (hg:∀cl C s₀ H₀ fp,QG (zaq X N' scope cl C s₀ H₀ fp) tg g) (ht:∀cl C s₀ H₀ fp,QF (zaq X N' scope cl C s₀ H₀ fp) ifs tc) (he:∀cl C s₀ H₀ fp,QE (zaq X N' scope cl C s₀ H₀ fp) elt te)
 (hk:autoParam (X.N[k]?=some y) u4) (hx:autoParam (X.env.scope.names.lookup y=some .local) u4) (hsw:autoParam (swapsWith (.ListComp elt [⟨tg,iter,ifs,0⟩] scope pos) (some (.Name y py)) spos.line X.env=pure true) u4)
 (hs:autoParam (∀x,foldedSetIterable iter X.env x=pure x) u6):QS X (.Assign [.Name y py] (.ListComp elt [⟨tg,iter,ifs,0⟩] scope pos) spos) (zi2 (zlT wi g tc te src) (za5 k)):=
 ⟨zj2 ok hsc hc hi.o (λcl C s₀ H₀ fp=>(hg cl C s₀ H₀ fp).o) (λcl C s₀ H₀ fp=>(ht cl C s₀ H₀ fp).o) (λcl C s₀ H₀ fp=>(he cl C s₀ H₀ fp).o) hN hk hx hsw hs⟩
end
section
variable{o i:Expr}{to:TE}{g:TG}{t:zph}
theorem zdd(he:QE X e te)(hg:QG X tg g)(hs:autoParam (swapsWithSole [tg] e pos.line X.env=pure false) u4)(hw:autoParam (swappedStores [tg] e X.env=pure none) u4)
 (h1:autoParam ((assignEach [tg] X.env).map (·.2)=[assign tg X.env]) u4):QS X (.Assign [tg] e pos) (zi2 te g):=⟨zrm he.o hg.o hs hw h1⟩
theorem znh(ho:QE X o to)(hi:QE X i ti)(hs:zrP X t)(ha:autoParam (∀v,assign (.Subscript o i pos) X.env v=(do
 let ov ←holding [v] (eval o X.env)
 let iv ←holding [v,ov] (eval i X.env)
 standAt pos
 holding [v,ov,iv] (setItem ov iv v)
 release [v,ov,iv] [])) u6):QG X (.Subscript o i pos) (zsp to ti t):=⟨zrG ho.o hi.o hs ha⟩
theorem zfd(k:Nat)(hN:X.N.Nodup)(hi:autoParam (X.N[k]?=some x) u4)(hx:autoParam (X.env.scope.names.lookup x=some .cell) u4)(hf:autoParam (X.fn x=true) u4):QG X (.Name x pos) (za5 k):=⟨zlx hN hi (.inr hx) (.inl hf)⟩
end
noncomputable def zs2(t u:TS):TS:=λD σ H=>∃R:St->Hp->Prop,t {D with nx:=R} σ H/\∀σ' H',R σ' H'->u D σ' H'
theorem zey{st:Stmt}(h1:QS X st sa)(h2:QB X sts sb):QB X (st::sts) (zs2 sa sb):=by
 refine⟨λpins s σ H D I h=>?_⟩
 obtain⟨R,ha,hb⟩:=h
 have h3:PSs X sts (λD' σ' H'=>D'=D/\R σ' H'):=λpins s σ' H' D' I h=>by
  obtain⟨rfl,hR⟩:=h
  exact h2.o pins s σ' H' D' I (hb σ' H' hR)
 have e:(λσ' H'=>D=D/\R σ' H')=R:=by
  funext σ' H'
  simp
 refine zi5 h1.o h3 pins s σ H D I ?_
 show sa {D with nx:=λσ' H'=>D=D/\R σ' H'} σ H
 rw[e]
 exact ha
theorem zoR(z:Str):zgY z 1=z:=by
 unfold zgY
 simp
theorem zjp:OpR X (binaryOp .Mult) (λx y H Q=>∃z n,x= .str z/\y= .int n/\1<=n/\n<=1000/\0<z.length/\z.length<=1000/\Q (.str (zgY z n.toNat)) H):=by
 intro pins s σ H x y v u Q I rx ry h
 obtain⟨z,n,rfl,rfl,h1,h2,h3,h4,q⟩:=h
 by_cases h:1<n
 ·exact zkG pins s σ H _ _ v u Q I rx ry ⟨z,n,rfl,rfl,h,h2,h3,h4,q⟩
 ·have e:n=1:=()
  subst e
  obtain⟨t,rfl⟩:=rx
  obtain⟨t',rfl⟩:=ry
  refine P.mul_str ⋯ (λ_ z=>by simp at z) (λ_ z=>by simp at z) ?_
  simp only[show¬(1:Int)<1 by decide,if_false,beq_self_eq_true,Bool.true_or,if_true]
  refine⟨.str _,H,I,⟨_,rfl⟩,?_⟩
  have e:zgY z (1:Int).toNat=z:=zoR z
  rw[e] at q
  exact q
theorem zmn(h:X.K=K):CallR X (.builtin "isinstance") (λxs H Q=>∃x T t b,xs=[x, .ty T]/\TyOf K H x t/\W.kitOne K t (.type T)=some b/\Q (.bl b) H):=by subst h;exact zdk
theorem zbb(h:X.K=K):IxR X (zrX K):=by subst h;exact zm
theorem zln(h:X.K=K):IxR X (rIx K):=by subst h;exact zkb
theorem zkw(h:X.K=K):OpR X (compareOp .In) (rIn K false):=by subst h;exact zen
theorem zg1(h:X.K=K):OpR X (compareOp .NotIn) (rIn K true):=by subst h;exact zcp
theorem zJ:CallR X (.builtin "len") (λxs H Q=>(∃p ys,xs=[.ref p]/\(SqL X.K H p ys\/SqT X.K H p ys)/\Q (.int ys.length) H)\/∃z,xs=[.str z]/\z.length<=sizeLine/\Q (.int z.length) H):=zh4.or zis
theorem zfy(n:Nat)(hK:X.K=K)(hc:X.calm=true)(h:QGs X es tgs)(hn:autoParam ((assignEach es X.env).length=n) u4)(hst:autoParam ((assignEach es X.env).findIdx? (·.1)=none) u4):QG X (.Tuple es k pos) (zrJ K n tgs):=by subst hK;exact zbS n hc h hn hst
noncomputable def za2(c:Nat):Bool:=decide (97<=c)&&decide (c<=122)
noncomputable def zok:List Str:=["if","and","not","never"]
noncomputable def zg(x:Str):Bool:=decide (1<=x.length)&&decide (x.length<=8)&&x.cps.toList.all za2&&!(zok.any λy=>decide (y=x))
def Hand(H:Hp)(a:Addr)(n:Int):Prop:=∃x m t:Int,H a=some (.lst [.int x, .int m, .int t])/\0<=m/\m<2^63/\0<=t/\t<=n
def Keep(a:Addr)(H H':Hp):Prop:=∀b o,b≠a->H b=some o->H' b=some o
theorem Keep.trans(x:Keep a H H1)(y:Keep a H1 H2):Keep a H H2:=λb o n h=>y b o n (x b o n h)
theorem Keep.upd(a:Addr)(H:Hp)(o:HO):Keep a H (L2.upd H a o):=λb u n h=>by rw[zj n];exact h
theorem Keep.new{o:HO}(h:H p=none):Keep a H (L2.upd H p o):=λb u n e=>by rw[zj (zr e h)];exact e
theorem Keep.of(h:Same H H'):Keep a H H':=λb o _ e=>h b o e
theorem Hand.ne{n:Int}(h:Hand H a n)(e:H p=none):p≠a:=by
 obtain⟨x,m,t,h,_⟩:=h
 exact λz=>by rw[z,h] at e;cases e
theorem Hand.new{n:Int}{o:HO}(h:Hand H a n)(e:H p=none):Hand (upd H p o) a n:=by
 have ne:=h.ne e
 obtain⟨x,m,t,h,r⟩:=h
 exact⟨x,m,t,by rw[zj (Ne.symm ne)];exact h,r⟩
theorem Hand.same{n:Int}(h:Hand H a n)(s:Same H H'):Hand H' a n:=by
 obtain⟨x,m,t,h,r⟩:=h
 exact⟨x,m,t,s _ _ h,r⟩
theorem Hand.mono{n n':Int}(h:Hand H a n)(l:n<=n'):Hand H a n':=by
 obtain⟨x,m,t,h,h1,h2,h3,h4⟩:=h
 exact⟨x,m,t,h,h1,h2,h3,()⟩
theorem Keep.sqL{b:Addr}(k:Keep a H H')(n:b≠a)(h:SqL K H b xs):SqL K H' b xs:=by
 rcases h with(h|⟨o,h⟩)|h
 ·exact .inl (.inl (k _ _ n h))
 ·exact .inl (.inr ⟨o,k _ _ n h⟩)
 ·exact .inr h
theorem Hand.updNe{n:Int}{o:HO}(h:Hand H a n)(e:p≠a):Hand (upd H p o) a n:=by
 obtain⟨x,m,t,h,r⟩:=h
 exact⟨x,m,t,by rw[zj (Ne.symm e)];exact h,r⟩
theorem Keep.updNew{o:HO}(k:Keep a H H')(e:H p=none):Keep a H (L2.upd H' p o):=λb u n h=>by
 rw[zj (zr h e)]
 exact k b u n h
noncomputable def zb9:Str:="abcdefghijklmnopqrstuvwxyz"
noncomputable def one(c:Nat):Str:=⟨#[c]⟩
theorem Same.new{o:HO}(h:H p=none):Same H (upd H p o):=λb u e=>by rw[zj (zr e h)];exact e
structure At(K:W.Frag)(mg:Str->Option Value)(x:Str)(st:Stmt)(ps:List Str)(f:Addr)(fd:FuncData):Prop where
 fn:Fun K x x st f fd
 b:Binds K fd ps []
 mg:mg x=some (.ref f)
 kp:W.keepIn K (.ref f)=true
theorem zdA{xs:List α}{d:Int}(h0:0<=d)(h1:d<xs.length):∃v,atI xs d=some v/\v∈xs:=by
 obtain⟨k,rfl⟩:∃k:Nat,d=(k:Int):=⟨d.toNat,()⟩
 have hk:k<xs.length:=()
 exact⟨xs[k],zG (by simp[hk]),List.getElem_mem hk⟩
theorem at0{x:α}{xs:List α}:atI (x::xs) 0=some x:=zG (j:=0) rfl
theorem at1{x y:α}{xs:List α}:atI (x::y::xs) 1=some y:=zG (j:=1) rfl
theorem tru{b:Bool}(h:¬b=true):b=false:=by simpa using h
inductive D where
 |non|bl (b:Bool)|int (i:Int)|str (x:Str)|tup (ds:List D)|oth
variable{ds lks hds rs:List D}{d:D}
inductive Rep(H:Hp):V->D->Prop where
 |non:Rep H .non .non
 |bl (b:Bool):Rep H (.bl b) (.bl b)
 |int (i:Int):Rep H (.int i) (.int i)
 |str (x:Str) (h:x.length<=1000):Rep H (.str x) (.str x)
 |tup {p:Addr} {vs:List V} {ds:List D} (h:H p=some (.tup vs)) (l:vs.length=ds.length) (b:ds.length<=1000) (r:∀(i:Nat) (v:V) (d:D),vs[i]?=some v->ds[i]?=some d->Rep H v d):Rep H (.ref p) (.tup ds)
 |lst {p:Addr} {vs:List V} (h:H p=some (.lst vs)):Rep H (.ref p) .oth
 |dK {p:Addr} {kvs:List (Key×V)} (h:H p=some (.dK kvs)):Rep H (.ref p) .oth
structure Mono(H H':Hp):Prop where
 tup:∀p xs,H p=some (.tup xs)->H' p=some (.tup xs)
 lst:∀p xs,H p=some (.lst xs)->∃ys,H' p=some (.lst ys)
 dK:∀p xs,H p=some (.dK xs)->∃ys,H' p=some (.dK ys)
theorem Mono.refl(H:Hp):Mono H H:=⟨λ_ _ h=>h,λ_ xs h=>⟨xs,h⟩,λ_ xs h=>⟨xs,h⟩⟩
theorem Mono.trans(a:Mono H H1)(b:Mono H1 H2):Mono H H2:=⟨λp xs h=>b.tup p xs (a.tup p xs h),λp xs h=>let ⟨ys,e⟩:=a.lst p xs h;b.lst p ys e,λp xs h=>let ⟨ys,e⟩:=a.dK p xs h;b.dK p ys e⟩
theorem Mono.of(s:Same H H'):Mono H H':=⟨λp xs h=>s _ _ h,λp xs h=>⟨xs,s _ _ h⟩,λp xs h=>⟨xs,s _ _ h⟩⟩
theorem Mono.new{o:HO}(h:H p=none):Mono H (upd H p o):= .of (Same.new h)
theorem Mono.lset(h:H p=some (.lst xs)):Mono H (upd H p (.lst ys)):=by
 refine⟨λq zs e=>?_,λq zs e=>?_,λq zs e=>?_⟩
 ·by_cases hq:q=p
  ·subst hq;rw[h] at e;cases e
  ·rw[zj hq];exact e
 ·by_cases hq:q=p
  ·subst hq;exact⟨ys,zc⟩
  ·rw[zj hq];exact⟨zs,e⟩
 ·by_cases hq:q=p
  ·subst hq;rw[h] at e;cases e
  ·rw[zj hq];exact⟨zs,e⟩
theorem Mono.keep{n m:Int}(k:Keep a H H')(h:Hand H a n)(h':Hand H' a m):Mono H H':=by
 obtain⟨x,y,z,h,_⟩:=h
 obtain⟨x',y',z',h',_⟩:=h'
 refine⟨λq zs e=>?_,λq zs e=>?_,λq zs e=>?_⟩
 ·exact k q _ (λhq=>by subst hq;rw[h] at e;cases e) e
 ·by_cases hq:q=a
  ·subst hq;exact⟨_,h'⟩
  ·exact ⟨zs,k q _ hq e⟩
 ·exact ⟨zs,k q _ (λhq=>by subst hq;rw[h] at e;cases e) e⟩
theorem Rep.mono(h:Rep H v d)(m:Mono H H'):Rep H' v d:=by
 induction h with
 |non=>exact .non
 |bl b=>exact .bl b
 |int i=>exact .int i
 |str x h=>exact .str x h
 |tup h l b _ ih=>exact .tup (m.tup _ _ h) l b ih
 |lst h=>obtain ⟨ys,e⟩:=m.lst _ _ h;exact .lst e
 |dK h=>obtain ⟨ys,e⟩:=m.dK _ _ h;exact .dK e
theorem Rep.same(h:Rep H v d)(s:Same H H'):Rep H' v d:=h.mono (.of s)
def RepL(H:Hp)(vs:List V)(ds:List D):Prop:=vs.length=ds.length/\∀(i:Nat) (v:V) (d:D),vs[i]?=some v->ds[i]?=some d->Rep H v d
theorem RepL.nil:RepL H [] []:=⟨rfl,λi v d e=>by simp at e⟩
theorem RepL.cons{H:Hp}{v:V}{d:D}{vs:List V}{ds:List D}(h:Rep H v d)(r:RepL H vs ds):RepL H (v::vs) (d::ds):=by
 refine⟨by simp[r.1],λi w e h1 h2=>?_⟩
 cases i with
 |zero=>simp at h1 h2;subst h1;subst h2;exact h
 |succ i=>exact r.2 i w e (by simpa using h1) (by simpa using h2)
theorem RepL.head(r:RepL H (v::vs) (d::ds)):Rep H v d/\RepL H vs ds:=
 ⟨r.2 0 v d rfl rfl,by have:=r.1;simp at this;exact this,λi w e h1 h2=>r.2 (i+1) w e (by simpa using h1) (by simpa using h2)⟩
theorem RepL.mono(r:RepL H vs ds)(m:Mono H H'):RepL H' vs ds:=⟨r.1,λi v d h1 h2=>(r.2 i v d h1 h2).mono m⟩
theorem RepL.append{us:List V}{es:List D}(r:RepL H vs ds)(q:RepL H us es):RepL H (vs ++us) (ds ++es):=by
 refine⟨by rw[W0,W0,r.1,q.1],λi v d h1 h2=>?_⟩
 by_cases hi:i<vs.length
 ·rw[A3 hi] at h1
  rw[A3 (by rw[←r.1];exact hi)] at h2
  exact r.2 i v d h1 h2
 ·rw[Y2 ()] at h1
  rw[Y2 (by rw[←r.1];lia),←r.1] at h2
  exact q.2 _ v d h1 h2
theorem RepL.take(r:RepL H vs ds)(n:Nat):RepL H (vs.take n) (ds.take n):=by
 refine⟨by rw[N2,N2,r.1],λi v d h1 h2=>?_⟩
 rw[List.getElem?_take] at h1 h2
 split at h1
 ·rename_i h;rw[E1 h] at h2;exact r.2 i v d h1 h2
 ·cases h1
theorem RepL.drop(r:RepL H vs ds)(n:Nat):RepL H (vs.drop n) (ds.drop n):=by
 refine⟨by rw[D3,D3,r.1],λi v d h1 h2=>?_⟩
 rw[List.getElem?_drop] at h1 h2
 exact r.2 _ v d h1 h2
theorem RepL.get(r:RepL H vs ds)(h:vs[i]?=some v):∃d,ds[i]?=some d/\Rep H v d:=by
 have hi:i<vs.length:=by
  rcases R1 i vs.length with q|q
  ·exact q
  ·rw[G0 q] at h;cases h
 have hd:i<ds.length:=by rw[←r.1];exact hi
 exact⟨ds[i],by simp[hd],r.2 i v _ h (by simp[hd])⟩
theorem Rep.mkL(h:H p=some (.tup vs))(b:ds.length<=1000)(r:RepL H vs ds):Rep H (.ref p) (.tup ds):= .tup h r.1 b r.2
theorem Rep.ofT(h:Rep H v (.tup ds)):∃p vs,v= .ref p/\H p=some (.tup vs)/\RepL H vs ds/\ds.length<=1000:=by
 cases h with
 |tup h l b r=>exact ⟨_,_,rfl,h,⟨l,r⟩,b⟩
theorem Rep.of2{e:D}(h:Rep H v (.tup [d,e])):∃p x y,v= .ref p/\H p=some (.tup [x,y])/\Rep H x d/\Rep H y e:=by
 obtain⟨p,vs,rfl,hp,r,_⟩:=h.ofT
 match vs,r with
 |[x,y],r=>exact ⟨p,x,y,rfl,hp,r.head.1,r.head.2.head.1⟩
 |[],r=>exact absurd r.1 `n3
 |[_],r=>exact absurd r.1 `n3
 |_::_::_::_,r=>exact absurd r.1 `n3
theorem Rep.mk1{x:V}(h:H p=some (.tup [x]))(a:Rep H x d):Rep H (.ref p) (.tup [d]):= .mkL h `n3 (.cons a .nil)
theorem Rep.mk2{x y:V}{e:D}(h:H p=some (.tup [x,y]))(a:Rep H x d)(b:Rep H y e):Rep H (.ref p) (.tup [d,e]):= .mkL h `n3 (.cons a (.cons b .nil))
noncomputable def zkT:D->Bool| .tup _=>true|_=>false
noncomputable def zrF:D->Bool| .int _=>true| .bl _=>true|_=>false
noncomputable def zsv:D->Bool| .bl _=>true|_=>false
noncomputable def zrQ:D->Bool| .str _=>true|_=>false
theorem Rep.isi(h:Rep H v d):∃t,TyOf K H v t/\W.kitOne K t (.type "tuple")=some (zkT d)/\W.kitOne K t (.type "int")=some (zrF d)/\W.kitOne K t (.type "bool")=some (zsv d)/\W.kitOne K t (.type "str")=some (zrQ d):=by
 cases h with
 |non=>exact ⟨_, .non,rfl,rfl,rfl,rfl⟩
 |bl b=>exact ⟨_, .bl b,rfl,rfl,rfl,rfl⟩
 |int i=>exact ⟨_, .int i,rfl,rfl,rfl,rfl⟩
 |str x _=>exact ⟨_, .str x,rfl,rfl,rfl,rfl⟩
 |tup h _ _ _=>exact ⟨_, .tup h,rfl,rfl,rfl,rfl⟩
 |lst h=>exact ⟨_, .lst h,rfl,rfl,rfl,rfl⟩
 |dK h=>exact ⟨_, .dK h,rfl,rfl,rfl,rfl⟩
noncomputable def zeO:D->Bool| .int _=>true|_=>false
noncomputable def zgk(d:D)(lo hi:Int):Bool:=match d with| .int i=>decide (lo<=i)&&decide (i<=hi)|_=>false
noncomputable def zaN(d:D)(lo hi:Int):Bool:=match d with| .tup ds=>decide (lo<=(ds.length:Int))&&decide ((ds.length:Int)<=hi)|_=>false
noncomputable def headStrB:D->Bool| .tup (.str _::_)=>true|_=>false
noncomputable def zaw:D->Bool| .str x=>zg x|_=>false
noncomputable def zck:List Str:=["by","from","to","mark"]
noncomputable def zR:D->Bool
 | .tup [.str w,x]=>if w="long"then zgk x 0 99 else(zck.any λy=>decide (y=w))&&zaw x
 |_=>false
noncomputable def zT(d:D):Bool:=match d with
 | .tup [.str w,x]=>if w="not"then zR x else zR d
 |_=>false
noncomputable def zbl:D->Bool| .tup ds=>decide (ds.length<=4)&&ds.all zT|_=>false
noncomputable def zfO:D->Bool| .tup [.str w,_]=>decide (w="to")|_=>false
noncomputable def zfk:D->Bool| .tup [.str w,x]=>if w="not"then zfO x else decide (w="to")|_=>false
noncomputable def zdm:D->Bool| .non=>true|d=>zgk d (-999) 999
noncomputable def zf7:D->Bool| .tup ds=>ds.any zfk|_=>false
noncomputable def zaA:D->Bool| .tup [c,x]=>zbl c&&zdm x&&!zf7 c|_=>false
noncomputable def zcI:D->Bool
 | .tup [.str w]=>decide (w="keep")
 | .tup [.str w,x]=>(decide (w="put")||decide (w="strike"))&&zaw x
 |_=>false
noncomputable def zcr:D->Bool| .tup [c,x]=>zbl c&&zcI x|_=>false
theorem zs8(c:Nat):decide (({cps:= #[c]}:Str).cps.toList<(Str.ofString "a").cps.toList)=decide (c<97):=by
 have e:(Str.ofString "a").cps.toList=[97]:=`n4
 rw[e]
 show decide ([c]< [97])=_
 by_cases h:c<97
 ·rw[N0 h]
  exact N0 (List.cons_lt_cons_iff.mpr (.inl h))
 ·rw[A1 h]
  refine A1 λz=>?_
  rcases List.cons_lt_cons_iff.mp z with q|⟨_,q⟩
  ·exact h q
  ·exact absurd q `n3
theorem zs6(c:Nat):decide ((Str.ofString "z").cps.toList<({cps:= #[c]}:Str).cps.toList)=decide (122<c):=by
 have e:(Str.ofString "z").cps.toList=[122]:=`n4
 rw[e]
 show decide ([122]< [c])=_
 by_cases h:122<c
 ·rw[N0 h]
  exact N0 (List.cons_lt_cons_iff.mpr (.inl h))
 ·rw[A1 h]
  refine A1 λz=>?_
  rcases List.cons_lt_cons_iff.mp z with q|⟨_,q⟩
  ·exact h q
  ·exact absurd q `n3
theorem ze0{w:Str}{x:D}:zR (.tup [.str w,x])=if w="long"then zgk x 0 99 else(zck.any λy=>decide (y=w))&&zaw x:=rfl
theorem zem{w:Str}{x:D}:zT (.tup [.str w,x])=if w="not"then zR x else zR (.tup [.str w,x]):=rfl
theorem ziM:zbl (.tup ds)=(decide (ds.length<=4)&&ds.all zT):=rfl
theorem zl6{c x:D}:zaA (.tup [c,x])=(zbl c&&zdm x&&!zf7 c):=rfl
theorem zpu{c x:D}:zcr (.tup [c,x])=(zbl c&&zcI x):=rfl
theorem zrp{w:Str}{x:D}:zcI (.tup [.str w,x])=((decide (w="put")||decide (w="strike"))&&zaw x):=rfl
theorem zcK:zaw (.str x)=zg x:=rfl
theorem zab:decide (V.str x=V.str y)=decide (x=y):=by
 by_cases h:x=y
 ·subst h;rw[N0 rfl,N0 rfl]
 ·rw[A1 h,A1 λz=>h (V.str.inj z)]
theorem zcE(d:D)(h:zR d=true):∃x e,d= .tup [.str x,e]:=by
 unfold zR at h
 split at h
 ·exact ⟨_,_,rfl⟩
 ·cases h
theorem zhG(d:D)(h:zT d=true):∃x e,d= .tup [.str x,e]:=by
 unfold zT at h
 split at h
 ·exact ⟨_,_,rfl⟩
 ·cases h
theorem zdp{e:D}:zR (.tup [.str "not",e])=false:=by
 have h1:¬("not":Str)="long":=`n4
 have h2:(zck.any λy=>decide (y=("not":Str)))=false:=`n4
 rw[ze0,Y0 h1,h2];rfl
theorem zbV{ds:List α}{g:α->Bool}:(ds.map g).all id=ds.all g:=by rw[List.all_map];rfl
noncomputable def zjI(g:D->Bool):Sp:=λvs H Q _=>∃v d,vs=[v]/\Rep H v d/\∀H',Same H H'->Q (.bl (g d)) H'
theorem zcF:za9 xs none (some (n:Int))=xs.take n:=by
 unfold za9
 have e1:sIx xs.length 0 none=0:=rfl
 have e2:sIx xs.length xs.length (some (n:Int))=min n xs.length:=by
  unfold sIx
  have h:¬(n:Int)<0:=()
  simp only[Y0 h,N3]
 rw[e1,e2,List.drop_zero,Nat.sub_zero,List.take_eq_take_iff]
 lia
theorem zeE{N:Nat}{m c:Int}{Pd:Nat->D->Prop}{src:List (Option Nat)}{Q:VK}(hs:zeM src σ=none::σr)(hH:Hand H a m)(hN:N<=900)(hc:0<=c)
 (he:∀(i:Nat) (H1:Hp) (Q1:VK),i<N->Hand H1 a (m+c*i)->Keep a H H1->(∀v d H2,Rep H2 v d->Pd i d->Hand H2 a (m+c*i+c)->Keep a H1 H2->Q1 v H2)->te (some (.int (i:Int))::σr) H1 Q1)
 (q:∀l vs ds H',H l=none->H' l=some (.lst vs)->RepL H' vs ds->ds.length=N->(∀i d,ds[i]?=some d->Pd i d)->Hand H' a (m+c*N)->Keep a H H'->Q (.ref l) H'):zcG (za5 0) zoK te src σ Q (Itr 0 N) H:=by
 refine zbv zdb (λl i ys σ' H'=>(∃o,σ'=o::σr)/\(∃ds:List D,RepL H' ys ds/\ds.length=i/\∀j d,ds[j]?=some d->Pd j d)/\Hand H' a (m+c*i)/\Keep a H H') ?_ (λ_ _ _ _ _ _ _=>trivial) ?_ ?_
 ·exact λl hl=>⟨⟨_,hs⟩,⟨[],RepL.nil,rfl,λj d z=>by simp at z⟩,(hH.new hl).mono `n3,Keep.new hl⟩
 ·rintro l i y ys σ' H1 hl hi rfl ⟨⟨o,rfl⟩,⟨ds,hr,hl2,hp⟩,hH1,k1⟩ hl'
  have nl:=hH.ne hl
  rw[Int.zero_add]
  refine he i H1 _ hi hH1 k1 λv d H2 rv pd hH2 k2=>?_
  have hl2':H2 l=some (.lst ys):=k2 _ _ nl hl'
  have m2:Mono H1 H2:=Mono.keep k2 hH1 hH2
  have m3:Mono H2 (upd H2 l (.lst (ys ++ [v]))):=Mono.lset hl2'
  refine⟨hl2',?_,⟨_,rfl⟩,⟨ds ++ [d],((hr.mono m2).append (.cons rv .nil)).mono m3,?_,?_⟩,(hH2.updNe nl).mono ?_,(k1.trans k2).updNew hl⟩
  ·have:=hr.1
   exact zl ()
  ·rw[W0,hl2];rfl
  ·intro j e he
   by_cases hj:j<ds.length
   ·rw[A3 hj] at he
    exact hp j e he
   ·rw[Y2 ()] at he
    have hj2:j=ds.length:=by
     rcases R1 ds.length j with z|z
     ·rw[G0 (by simp;lia)] at he;cases he
     ·lia
    subst hj2
    simp at he
    subst he
    rw[hl2];exact pd
  ·rw[show((i+1:Nat):Int)=(i:Int)+1 by lia,Int.mul_add,Int.mul_one]
   lia
 ·rintro l ys σ' H1 hl ⟨⟨o,rfl⟩,⟨ds,hr,hl2,hp⟩,hH1,k1⟩ hl'
  exact q l ys ds H1 hl hl' hr hl2 hp hH1 k1
theorem zi3{g:D->Bool}{ok:Hp->Prop}{src:List (Option Nat)}{Q:VK}(wk:Wk J vs.length (λi x=>vs[i]?=some x) ok)(hok:∀H',Same H H'->ok H')(r:RepL H vs ds)(hl:ds.length<=1000)(e:zeM src σ=[none])
 (he:∀(x:V) (d:D) (H1:Hp) (Q1:VK),Same H H1->Rep H1 x d->d∈ds->(∀H2,Same H1 H2->Q1 (.bl (g d)) H2)->te [some x] H1 Q1)
 (q:∀l H',Same H H'->H l=none->H' l=some (.lst ((ds.map g).map V.bl))->Q (.ref l) H'):zcG (za5 0) zoK te src σ Q J H:=by
 refine zbv wk (λl i ys σ' H'=>(∃o,σ'=[o])/\ys=((ds.take i).map g).map V.bl/\Same H H') ?_ ?_ ?_ ?_
 ·exact λl h'=>⟨⟨none,e⟩,rfl,Same.new h'⟩
 ·exact λl i ys σ' H' _ p=>hok H' p.2.2
 ·rintro l i y ys σ' H1 h' hi hy ⟨⟨o,rfl⟩,rfl,s1⟩ hl'
  obtain⟨d,hd,rd⟩:=r.get hy
  refine he y d H1 _ s1 (rd.same s1) (U0 hd) λH2 s2=>?_
  refine⟨s2 _ _ hl',?_,⟨_,rfl⟩,?_,?_⟩
  ·rw[B0,B0,N2]
   exact zl ()
  ·rw[O3,hd]
   simp
  ·exact λc o e=>by
    rw[zj (zr e h')]
    exact s2 _ _ (s1 _ _ e)
 ·rintro l ys σ' H1 h' ⟨⟨o,rfl⟩,rfl,s1⟩ hl'
  rw[r.1,X3] at hl'
  exact q l H1 s1 h' hl'
section
open Sem (wp)
open MeetsSeq MeetsSeq2 MeetsSeq3 Builtin
end
def Dsp(te:TE)(σ:St)(H:Hp)(d:D):Prop:=∀(H1:Hp) (Q:VK),Same H H1->(∀v H2,Same H1 H2->Rep H2 v d->Q v H2)->te σ H1 Q
def zof(ta:TA)(σ:St)(H:Hp)(ds:List D):Prop:=∀(H1:Hp) (Q:List V->Hp->Prop),Same H H1->(∀vs H2,Same H1 H2->RepL H2 vs ds->Q vs H2)->ta σ H1 Q
section
variable{es:List D}
theorem zlL(h:x.length<=1000):Dsp (tC (.str x)) σ H (.str x):=λH1 Q s q=>q _ H1 (Same.refl _) (.str x h)
theorem zcV(h:σ[i]?=some (some v))(r:Rep H v d):Dsp (zfr i) σ H d:=λH1 Q s q=>⟨v,h,q v H1 (Same.refl _) (r.same s)⟩
theorem zbu:zof zhX σ H []:=λH1 Q s q=>q [] H1 (Same.refl _) RepL.nil
theorem zaj(h:Dsp te σ H d)(r:zof ta σ H ds):zof (zfN te ta) σ H (d::ds):=λH1 Q s q=>
 h H1 _ s λv H2 s2 rv=>r H2 _ (s.trans s2) λvs H3 s3 rs=>q (v::vs) H3 (s2.trans s3) (.cons (rv.same s3) rs)
theorem zcn(h:zof ta σ H ds)(hl:ds.length<=1000):Dsp (zqZ ta) σ H (.tup ds):=λH1 Q s q=>
 h H1 _ s λvs H2 s2 rs=>⟨Z2 (zl (by rw[rs.1];exact hl)),λp hp=>q _ _ (s2.trans (Same.new hp)) (.mkL zc hl (rs.mono (.new hp)))⟩
end
theorem zrq{Q:VK}(h:Dsp te σ H d)(q:∀v H2,Same H H2->Rep H2 v d->Q v H2):te σ H Q:=h H Q (Same.refl H) q
section
variable{tr:TA}
end
theorem zkQ{n:Int}(h:Hand H a n)(e:H l=some (.lst vs))(r:RepL H vs ds)(h3:ds.length≠3):l≠a:=λz=>by
 obtain⟨x,m,t,hh,_⟩:=h
 rw[z,hh] at e
 cases e
 exact h3 r.1.symm
section
open PySem.W
section
variable{N:Nat}{lt:Nat->Nat->Bool}
def OkT(N:Nat)(lt:Nat->Nat->Bool){α:Type}:KasT α->(α->Prop)->Prop
 | .ret a,P=>P a
 | .ask i j k,P=>i<N/\j<N/\OkT N lt (k (lt i j)) P
theorem OkT.mono{P Q:α->Prop}(h:∀a,P a->Q a):∀{t:KasT α},OkT N lt t P->OkT N lt t Q
 | .ret a,q=>h a q
 | .ask i j k,⟨h1,h2,q⟩=>⟨h1,h2,OkT.mono h q⟩
theorem OkT.bind{f:α->KasT β}{P:β->Prop}:∀{t:KasT α},OkT N lt t (λa=>OkT N lt (f a) P)->OkT N lt (t.bind f) P
 | .ret a,q=>q
 | .ask i j k,⟨h1,h2,q⟩=>⟨h1,h2,OkT.bind q⟩
theorem OkT.wp{cmp:Nat->Nat->(Bool->Shared->Prop)->Shared->Prop}{I:Shared->Prop}(hc:∀i j (C:Bool->Shared->Prop) s,i<N->j<N->I s->(∀s',I s'->C (lt i j) s')->cmp i j C s){P:α->Prop}{Q:α->Shared->Prop}(hq:∀a s,P a->I s->Q a s):
 ∀{t:KasT α} {s:Shared},I s->OkT N lt t P->t.kasWp cmp Q s
 | .ret a,s,hs,q=>hq a s q hs
 | .ask i j k,s,hs,⟨h1,h2,q⟩=>hc i j _ s h1 h2 hs λs' hs'=>OkT.wp hc hq hs' q
noncomputable abbrev gd(p:Array Nat)(i:Nat):Nat:=p.getD i 0
structure Strict(N:Nat)(lt:Nat->Nat->Bool):Prop where
 tot:∀i j,i<N->j<N->i≠j->lt i j=false->lt j i=true
 tr:∀i j k,i<N->j<N->k<N->lt i j=true->lt j k=true->lt i k=true
 asy:∀i j,i<N->j<N->lt i j=true->lt j i=false
def PermN(N:Nat)(p:Array Nat):Prop:=p.toList.Perm (List.range N)
theorem PermN.size{p:Array Nat}(h:PermN N p):p.size=N:=by
 have:=h.length_eq
 simpa using this
theorem gd_get{p:Array Nat}(h:i<p.size):gd p i=p[i]:=by simp[gd,Array.getD,h]
theorem zii{p q:Array Nat}(h:p[i]?=q[j]?):gd p i=gd q j:=by
 simp only[gd,Array.getD_eq_getD_getElem?,h]
theorem PermN.bd{p:Array Nat}(h:PermN N p)(hi:i<N):gd p i<N:=by
 have hs:=h.size
 rw[gd_get ()]
 have:p[i]∈p.toList:=`n3
 exact U2.mp (h.mem_iff.mp this)
theorem PermN.inj{p:Array Nat}(h:PermN N p)(hi:i<N)(hj:j<N)(hij:i≠j):gd p i≠gd p j:=by
 have hs:=h.size
 have nd:p.toList.Nodup:=h.nodup_iff.mpr List.nodup_range
 rw[gd_get (),gd_get ()]
 intro z
 exact hij ((List.getElem_inj (i:=i) (j:=j) (h₀:=by simp;lia) (h₁:=by simp;lia) nd).mp (by simpa using z))
def Sor(lt:Nat->Nat->Bool)(p:Array Nat)(m:Nat):Prop:=∀i j,i<j->j<m->lt (gd p i) (gd p j)=true
def Des(lt:Nat->Nat->Bool)(p:Array Nat)(m:Nat):Prop:=∀i j,i<j->j<m->lt (gd p j) (gd p i)=true
theorem Sor.snoc{p:Array Nat}(S:Strict N lt)(hp:PermN N p)(h:Sor lt p n)(h1:1<=n)(hn:n<N)(e:lt (gd p (n -1)) (gd p n)=true):Sor lt p (n+1):=by
 intro i j hij hj
 by_cases hjn:j<n
 ·exact h i j hij hjn
 ·have ej:j=n:=()
  subst ej
  by_cases hi:i=j -1
  ·subst hi;exact e
  ·exact S.tr _ _ _ (hp.bd ()) (hp.bd ()) (hp.bd hn) (h i (j -1) () ()) e
theorem Des.snoc{p:Array Nat}(S:Strict N lt)(hp:PermN N p)(h:Des lt p n)(h1:1<=n)(hn:n<N)(e:lt (gd p n) (gd p (n -1))=true):Des lt p (n+1):=by
 intro i j hij hj
 by_cases hjn:j<n
 ·exact h i j hij hjn
 ·have ej:j=n:=()
  subst ej
  by_cases hi:i=j -1
  ·subst hi;exact e
  ·exact S.tr _ _ _ (hp.bd hn) (hp.bd ()) (hp.bd ()) e (h i (j -1) () ())
theorem zkS{p:Array Nat}(S:Strict N lt)(hp:PermN N p):∀f n,1<=n->n+f<=N->Sor lt p n->OkT N lt (kas_asc p f n) (λm=>n<=m/\m<=n+f/\Sor lt p m/\(m<n+f->lt (gd p m) (gd p (m -1))=true))
 |0,n,_,_,hs=>⟨O0 _,O0 _,hs,λh=>()⟩
 |f+1,n,h1,hn,hs=>by
  refine⟨hp.bd (),hp.bd (),?_⟩
  cases hc:lt (gd p n) (gd p (n -1))with
  |true=>
   show OkT N lt (if true=true then _ else _) _
   rw[E1 rfl]
   exact⟨O0 _,(),hs,λ_=>hc⟩
  |false=>
   show OkT N lt (if false=true then _ else _) _
   rw[Y0 ⋯]
   refine OkT.mono (λm hm=>⟨(),(),hm.2.2.1,λh=>hm.2.2.2 ()⟩) (zkS S hp f (n+1) () () (hs.snoc S hp h1 () (S.tot _ _ (hp.bd ()) (hp.bd ()) (hp.inj () () ()) hc)))
theorem zld{p:Array Nat}(S:Strict N lt)(hp:PermN N p):∀f n,1<=n->n+f<=N->Des lt p n->OkT N lt (kas_desc f p n 0) (λr=>r.1=p/\n<=r.2.1/\r.2.1<=n+f/\Des lt p r.2.1/\r.2.2=0)
 |0,n,_,_,hs=>⟨rfl,O0 _,O0 _,hs,rfl⟩
 |f+1,n,h1,hn,hs=>by
  refine⟨hp.bd (),hp.bd (),?_⟩
  cases hc:lt (gd p n) (gd p (n -1))with
  |true=>
   show OkT N lt (if true=true then(if 0>0 then _ else _)else _) _
   rw[E1 rfl,Y0 ⋯]
   exact OkT.mono (λm hm=>⟨hm.1,(),(),hm.2.2.2⟩) (zld S hp f (n+1) () () (hs.snoc S hp h1 () hc))
  |false=>
   show OkT N lt (if false=true then _ else _) _
   rw[Y0 ⋯]
   refine⟨hp.bd (),hp.bd (),?_⟩
   have hd:lt (gd p (n -1)) (gd p n)=true:=S.tot _ _ (hp.bd ()) (hp.bd ()) (hp.inj () () ()) hc
   show OkT N lt (if lt (gd p (n -1)) (gd p n)=true then _ else _) _
   rw[E1 hd]
   exact⟨rfl,O0 _,by show n<=n+(f+1);lia,hs,rfl⟩
theorem ziO{p:Array Nat}(hp:PermN N p)(n:Nat):PermN N (kas_rev p 0 n):=(Array.perm_iff_toList_perm.mp (mirror_perm p 0 n _)).trans hp
theorem zpM{p:Array Nat}(hp:PermN N p)(hn:n<=N)(h:Des lt p n):Sor lt (kas_rev p 0 n) n:=by
 have hs:=hp.size
 have e:∀k,k<n->gd (kas_rev p 0 n) k=gd p (n -1 -k):=λk hk=>by
  refine zii ?_
  show(mirror p 0 n ((n -0)/2))[k]?=_
  rw[getElem?_mirror_all (),E1 ⟨K2 _,hk⟩,Nat.zero_add]
 intro i j hij hj
 rw[e i (),e j hj]
 exact h (n -1 -j) (n -1 -i) () ()
def znq(N:Nat)(lt:Nat->Nat->Bool)(r:Nat×Array Nat):Prop:=PermN N r.2/\Sor lt r.2 r.1/\1<=r.1/\r.1<=N
theorem znH{p:Array Nat}(S:Strict N lt)(hp:PermN N p)(h1:1<=n)(hn:n<=N)(h:Des lt p n):OkT N lt (kas_tail3 n N p) (znq N lt):=by
 refine OkT.bind (OkT.mono (λm hm=>?_) (zkS S (ziO hp n) (N -n) n h1 () (zpM hp hn h)))
 exact⟨ziO hp n,hm.2.2.1,by have:=hm.1;lia,by have:=hm.2.1;lia⟩
theorem zoD{p:Array Nat}(S:Strict N lt)(hp:PermN N p)(h1:1<=N):OkT N lt (kas_count N p) (znq N lt):=by
 refine OkT.bind (OkT.mono (λn hn=>?_) (zkS S hp (N -1) 1 (O0 _) () (λi j hij hj=>())))
 obtain⟨n1,n2,hs,hl⟩:=hn
 by_cases hN:(n==N)=true
 ·rw[E1 hN]
  exact⟨hp,hs,n1,()⟩
 ·have hne:n≠N:=by simpa using hN
  rw[Y0 hN]
  by_cases h2:n>1
  ·rw[E1 h2]
   refine⟨hp.bd (),hp.bd (),?_⟩
   show OkT N lt (if lt (gd p 0) (gd p (n -1))=true then _ else _) _
   rw[E1 (hs 0 (n -1) () ())]
   exact⟨hp,hs,n1,()⟩
  ·rw[Y0 h2]
   have e1:n=1:=()
   subst e1
   have hd:Des lt p 2:=λi j hij hj=>by
    have ei:i=0:=()
    have ej:j=1:=()
    subst ei ej
    exact hl ()
   refine OkT.bind (OkT.mono (λr hr=>?_) (zld S hp (N -(1+1)) (1+1) () () hd))
   obtain⟨e1,r1,r2,r3,r4⟩:=hr
   rw[Y0 (),e1]
   exact znH S hp () () r3
theorem zgi{p:Array Nat}{k:Nat}(S:Strict N lt)(hp:PermN N p)(hs:Sor lt p k)(hk:k<N):∀f l r,l<=r->r<=k->r -l<=f->(∀i,i<l->lt (gd p i) (gd p k)=true)->(∀i,r<=i->i<k->lt (gd p k) (gd p i)=true)->
 OkT N lt (kas_place p k f l r) (λm=>m<=k/\(∀i,i<m->lt (gd p i) (gd p k)=true)/\∀i,m<=i->i<k->lt (gd p k) (gd p i)=true)
 |0,l,r,h1,h2,h3,ha,hb=>⟨(),ha,λi hi=>hb i ()⟩
 |f+1,l,r,h1,h2,h3,ha,hb=>by
  by_cases hlr:l≥r
  ·show OkT N lt (if l≥r then _ else _) _
   rw[E1 hlr]
   exact⟨(),ha,λi hi=>hb i ()⟩
  ·show OkT N lt (if l≥r then _ else _) _
   rw[Y0 hlr]
   refine⟨hp.bd hk,hp.bd (),?_⟩
   cases hc:lt (gd p k) (gd p ((l+r)/2))with
   |true=>
    show OkT N lt (if true=true then _ else _) _
    rw[E1 rfl]
    refine zgi S hp hs hk f l ((l+r)/2) () () () ha λi hi hik=>?_
    by_cases e:i=(l+r)/2
    ·subst e;exact hc
    ·exact S.tr _ _ _ (hp.bd hk) (hp.bd ()) (hp.bd ()) hc (hs ((l+r)/2) i () hik)
   |false=>
    show OkT N lt (if false=true then _ else _) _
    rw[Y0 ⋯]
    have hm:lt (gd p ((l+r)/2)) (gd p k)=true:=S.tot _ _ (hp.bd hk) (hp.bd ()) (hp.inj hk () ()) hc
    refine zgi S hp hs hk f ((l+r)/2+1) r () h2 () (λi hi=>?_) hb
    by_cases e:i=(l+r)/2
    ·subst e;exact hm
    ·exact S.tr _ _ _ (hp.bd ()) (hp.bd ()) (hp.bd hk) (hs i ((l+r)/2) () ()) hm
theorem zku{p:Array Nat}{l:Nat}(hp:PermN N p)(hk:k<N)(hl:l<=k)(hs:Sor lt p k)(ha:∀i,i<l->lt (gd p i) (gd p k)=true)(hb:∀i,l<=i->i<k->lt (gd p k) (gd p i)=true):Sor lt (bubble p k (k -l)) (k+1):=by
 have hz:=hp.size
 have g:∀i,(bubble p k (k -l))[i]?=if i=l then p[k]? else if l<i/\i<=k then p[i -1]? else p[i]?:=λi=>by
  rw[getElem?_bubble () (k -l) (),show k -(k -l)=l by lia]
 have g1:gd (bubble p k (k -l)) l=gd p k:=zii (by rw[g,E1 rfl])
 have g2:∀i,l<i->i<=k->gd (bubble p k (k -l)) i=gd p (i -1):=λi h1 h2=>zii (by rw[g,Y0 (),E1 ⟨h1,h2⟩])
 have g3:∀i,i<l->gd (bubble p k (k -l)) i=gd p i:=λi h1=>zii (by rw[g,Y0 (),Y0 ()])
 intro i j hij hj
 rcases Nat.lt_trichotomy i l with hi|hi|hi
 ·rw[g3 i hi]
  rcases Nat.lt_trichotomy j l with h|h|h
  ·rw[g3 j h];exact hs i j hij ()
  ·subst h;rw[g1];exact ha i hi
  ·rw[g2 j h ()];exact hs i (j -1) () ()
 ·subst hi
  rw[g1,g2 j hij ()]
  exact hb (j -1) () ()
 ·rw[g2 i hi (),g2 j () ()]
  exact hs (i -1) (j -1) () ()
theorem znF(S:Strict N lt):∀f (p:Array Nat) k,PermN N p->Sor lt p k->k+f=N->OkT N lt (kas_bin f p k) (λp'=>PermN N p'/\Sor lt p' N)
 |0,p,k,hp,hs,hk=>⟨hp,by have:k=N:=()
                         rw[←this];exact hs⟩
 |f+1,p,k,hp,hs,hk=>by
  refine OkT.bind (OkT.mono (λl hl=>?_) (zgi S hp hs () k 0 k (K2 _) (O0 _) () (λi hi=>()) (λi hi hik=>())))
  exact znF S f _ (k+1) ((Array.perm_iff_toList_perm.mp (bubble_perm p k _)).trans hp) (zku hp () hl.1 hs hl.2.1 hl.2.2) ()
theorem sort_ok(S:Strict N lt)(h1:1<=N):OkT N lt (kas_sort N) (λp=>PermN N p/\Sor lt p N):=by
 have h0:PermN N (List.toArray (List.range N)):=by show(List.range N).Perm _;exact List.Perm.refl _
 refine OkT.bind (OkT.mono (λr hr=>?_) (zoD S h0 h1))
 obtain⟨c1,c2,c3,c4⟩:=hr
 by_cases h:r.1<N
 ·rw[E1 h]
  have e:max r.1 1=r.1:=()
  rw[e]
  exact znF S _ _ _ c1 c2 ()
 ·rw[Y0 h]
  have e:r.1=N:=()
  rw[e] at c2
  exact⟨c1,c2⟩
end
def RawD(h:Heap)(d:Addr)(ks:List Value)(ep:Nat):Prop:=∃o es,h.get? d=some o/\o.ExactDict/\o.data= .dict es ep/\es.toList.map (·.key)=ks
theorem RawD.at{d:Addr}(x:RawD h d ks ep)(e:∀o,h.get? d=some o->h'.get? d=some o):RawD h' d ks ep:=let⟨o,es,ho,r⟩:=x;⟨o,es,e _ ho,r⟩
theorem RawD.ty{d:Addr}(x:RawD s.heap d ks ep):s.TypeIs (.ref d) "dict":=let⟨o,_,ho,hc,_⟩:=x;⟨o,ho,hc.1⟩
theorem RawD.lt{d:Addr}(x:RawD h d ks ep):d<h.objs.size:=let⟨_,_,ho,_⟩:=x;X0 ho
section
variable{d:Addr}
theorem znm{R:Value->Shared->Prop}(nsys:(d==sysModules)=false)(x:RawD s.heap d ks ep)(q:R (.ref s.heap.objs.size) {s with heap:=s.heap.push {cls:= .type "dict_keyiterator",data:= .fields #[.ref d, .int 0 0, .int ks.length 0, .int ep 0]}}):
 wpAny `i4 A (pyIter (.ref d)) R E s:=by
 have ty:=x.ty
 obtain⟨o,es,ho,_,hdat,hks⟩:=x
 refine wpAny_pyIter_slot ty F.slot_dict_iter (Q2 F.slot_dict_iter ty F.entry_dict_iter ?_ (F.args_dict_iter_1 _))
 unfold Builtin.«dict.__iter__»
 refine A0 (by unfold Builtin.Dict.dictSlotNone;refine A0 (wpAny_notOrdered_dict ty ?_);show wpAny _ _ (pure (Value.ref d)) _ _ s;exact D0 (by
  show wpAny _ _ (Builtin.Dict.showsAll d>>=_) _ _ s
  unfold Builtin.Dict.showsAll
  rw[Y0 (λz=>by rw[nsys] at z;cases z)]
  refine A0 (D0 (A0 (wpAny_dictEntries ho hdat (A0 (wpAny_dictEpoch ho hdat ?_)))))
  have sz:es.size=ks.length:=by rw[←hks];simp
  refine A0 (V2 (D0 ⟨_,rfl,"dict_keyiterator",_,⟨_,Q0 _ rfl,rfl⟩,F.slot_dict_keyiterator_next.lookup,?_⟩))
  simpa[rawInt,sz] using q))
theorem zov{R:Option Value->Shared->Prop}{key:Value}(y:s.heap.IsKeyIter it d i ks.length ep)(x:RawD s.heap d ks ep)(hx:ks[i]?=some key)
 (q:∀h',h'.IsKeyIter it d (i+1) ks.length ep->Heap.SameBut it s.heap h'->R (some key) {s with heap:=h'}):wpAny `i4 A (pyNext (.ref it)) R E s:=by
 obtain⟨o,ho,hc,hd⟩:=id y
 obtain⟨od,es,hod,_,hdd,hks⟩:=x
 have sz:es.size=ks.length:=by rw[←hks];simp
 have li:i<ks.length:=by
  rcases R1 i ks.length with h|h
  ·exact h
  ·rw[G0 h] at hx;cases hx
 have li':i<es.size:=()
 have ek:es[i].key=key:=by
  have e1:ks[i]?=some es[i].key:=by rw[←hks];simp[li']
  rw[e1] at hx;exact U1 hx
 unfold pyNext
 refine A0 (wpAny_attempt (B3 (name:=Str.ofString "__next__") y.typeIs F.slot_dict_keyiterator_next (Q2 F.slot_dict_keyiterator_next y.typeIs F.entry_dict_keyiterator_next ?_ (F.args_dict_keyiterator_next_1 _))))
 refine A0 (D0 (A0 (A0 ?_)))
 first|refine A0 (wpAny_typeNameOfWhole_keyiter y.typeIs (D0 ?_))|refine A0 (wpAny_typeNameOf_keyiter y.typeIs (D0 ?_))
 refine A0 (wpAny_fieldsOf ho hd ?_)
 simp only[(by decide:Builtin.Dict_items.ownsTuple "dict_keyiterator"=false),Z3,if_false]
 show wpAny _ _ (if(Value.ref d==Value.none)=true then _ else _) _ _ s
 rw[Y0 (λz=>nomatch z)]
 refine A0 (D0 (A0 (wpAny_dictEntries hod hdd ?_)))
 rw[Y0 (λz=>by rw[sz] at z;simp at z)]
 refine A0 (D0 (A0 (wpAny_dictEpoch hod hdd ?_)))
 rw[Y0 (λz=>by simp at z)]
 refine D0 ?_
 simp only[(by lia:¬((i:Int)<0)),if_false,N3,W1 li']
 refine A0 ?_
 first|refine A0 (wpAny_typeNameOfWhole_keyiter y.typeIs (D0 ?_))|refine A0 (wpAny_typeNameOf_keyiter y.typeIs (D0 ?_))
 refine A0 (wpAny_isOneOf_keyiter y.typeIs ?_)
 show wpAny _ _ (setField (.ref it) 1 (rawInt ((i:Int)+1))>>=_) _ _ s
 refine A0 (wpAny_setField ho hd `n3 ?_)
 have y':(s.heap.update it (Obj.mapFields (·.setIfInBounds 1 (rawInt ((i:Int)+1))))).IsKeyIter it d (i+1) ks.length ep:=⟨_,Heap.get?_update_self _ ho (Obj.isFreed_of_fields (Obj.data_mapFields hd _)),(Obj.cls_mapFields ..).trans hc,by rw[Obj.data_mapFields hd];simp[rawInt]⟩
 refine A0 (K3 (A0 (wpAny_isOneOf_keyiter (s:={s with heap:=s.heap.update it (Obj.mapFields (·.setIfInBounds 1 (rawInt ((i:Int)+1))))}) y'.typeIs ?_)))
 show wpAny _ _ (pure es[i].key) _ _ _
 rw[ek]
 exact D0 (D0 ⟨_,rfl,D0 (q _ y' (W2 ..))⟩)
theorem zpi{R:Option Value->Shared->Prop}(hh:A.handled=none)(y:s.heap.IsKeyIter it d ks.length ks.length ep)(x:RawD s.heap d ks ep)(q:∀h',Heap.ExtBut it s.heap h'->R none {s with heap:=h'}):wpAny `i4 A (pyNext (.ref it)) R E s:=by
 obtain⟨o,ho,hc,hd⟩:=id y
 obtain⟨od,es,hod,_,hdd,hks⟩:=x
 have sz:es.size=ks.length:=by rw[←hks];simp
 unfold pyNext
 refine A0 (wpAny_attempt (B3 (name:=Str.ofString "__next__") y.typeIs F.slot_dict_keyiterator_next (Q2 F.slot_dict_keyiterator_next y.typeIs F.entry_dict_keyiterator_next ?_ (F.args_dict_keyiterator_next_1 _))))
 refine A0 (D0 (A0 (A0 ?_)))
 first|refine A0 (wpAny_typeNameOfWhole_keyiter y.typeIs (D0 ?_))|refine A0 (wpAny_typeNameOf_keyiter y.typeIs (D0 ?_))
 refine A0 (wpAny_fieldsOf ho hd ?_)
 simp only[(by decide:Builtin.Dict_items.ownsTuple "dict_keyiterator"=false),Z3,if_false]
 show wpAny _ _ (if(Value.ref d==Value.none)=true then _ else _) _ _ s
 rw[Y0 (λz=>nomatch z)]
 refine A0 (D0 (A0 (wpAny_dictEntries hod hdd ?_)))
 rw[Y0 (λz=>by rw[sz] at z;simp at z)]
 refine A0 (D0 (A0 (wpAny_dictEpoch hod hdd ?_)))
 rw[Y0 (λz=>by simp at z)]
 refine D0 ?_
 simp only[(by lia:¬((ks.length:Int)<0)),if_false,N3,Array.getElem?_eq_none (show es.size<=ks.length by lia)]
 refine A0 ?_
 first|refine A0 (wpAny_typeNameOfWhole_keyiter y.typeIs (D0 ?_))|refine A0 (wpAny_typeNameOf_keyiter y.typeIs (D0 ?_))
 show wpAny _ _ (setField (.ref it) 0 .none>>=_) _ _ s
 refine A0 (wpAny_setField ho hd `n3 ?_)
 show wpAny _ _ (newExc (.type "StopIteration") []>>=_) _ _ _
 refine A0 (by
  simp only[newExc,newTuple]
  refine A0 (V2 (A0 (m:=firstArgMember _ _) (wpAny_of_eq (a:=Value.none) (by first|rfl|(simp only[firstArgMember];rfl)) (V2 ?_ (by size_fits)))) (by size_fits))
  simp only[raiseNew]
  refine A0 (wpAny_handled ?_)
  rw[show A.in1.handled=none from hh]
  refine A0 (D0 (wpAny_throw ?_));refine A0 (wpAny_isInstance (T:="StopIteration") (b:=true) ⟨_,Q0 _ rfl,rfl⟩ isSubtype_stop ?_)
  exact D0 (q _ (((W2 ..).extBut.push _).push _)))
theorem zmd(hh:A.handled=none)(hne:d≠it):Walks prog w A it [it,d] [it] ks.length (λi v=>ks[i]?=some v) (λi h=>h.IsKeyIter it d i ks.length ep/\RawD h d ks ep) where
 sub:=λb hb=>by simp at hb;simp[hb]
 frame:=λ_ _ _ st hk=>⟨st.1.at λo e=>hk it `n3 o e,st.2.at λo e=>hk d `n3 o e⟩
 item:=λi s Q E hi st hQ=>zov st.1 st.2 (show ks[i]?=some ks[i] by simp[hi]) λh' y' hs=>hQ _ h' s.toks (by simp[hi]) ⟨y',st.2.at λo e=>hs.extBut d o hne e⟩ λb o hb e=>hs.extBut b o (λh=>hb (by simp[h])) e
 done:=λs Q E st hQ=>zpi hh st.1 st.2 λh' he=>hQ h' s.toks λb o hb e=>he b o (λh=>hb (by simp[h])) e
 self:=λ_ _ _ _ st hQ=>wpAny_pyIter_keyiter st.1 hQ
theorem zpW(nsys:(d==sysModules)=false):KdlSrc prog w "dict" d d ks.length (λi v=>ks[i]?=some v) (λh=>RawD h d ks ep) where
 type:=λ_ hm=>hm.ty
 there:=λ_ hm=>⟨hm.lt,hm.lt⟩
 keep:=λ_ _ hm hk=>hm.at λo e=>hk d (.inl rfl) o e
 notList:=⋯
 notTuple:=⋯
 hint:=λ_ _ _ _ hm hq=>kdl_hint_dict hm.ty hq
 iter:=λ_ _ hh hm=>⟨_,_,(λ_ _ hq=>znm nsys hm hq),zmd hh (Z1 hm.lt),⟨⟨_,Q0 _ rfl,rfl,rfl⟩,hm.at λo e=>C0 _ e⟩⟩
end
def Kp(a:Addr)(s s1:Shared):Prop:=s1={s with heap:=s1.heap}/\∀b o,b≠a->s.heap.get? b=some o->s1.heap.get? b=some o
theorem zhw{vs:List Value}{R:PySem.Fin->Shared->Prop}(ho:s.heap.get? a=some (seqObj "list" vs.toArray n))(h64:vs.length<64)
 (hk:2<=vs.length->∀s1:Shared,Kp a s s1->(∀C:SortKind->Shared->Prop,C κ s1->wpAny `i4 A (keyKind' vs.toArray) C E s1)/\(kas_sort vs.length).kasWp (kas_ask prog w A κ vs) (λp s'=>s'=s1/\G p) s1)
 (q:∀(out:List Value) (h':Heap) (c:Nat),(vs.length<2/\out=vs\/∃p:Array Nat,p.size=vs.length/\G p/\out=p.toList.map λi=>vs.getD i Value.none)->(∀b o,b≠a->s.heap.get? b=some o->h'.get? b=some o)->
   h'.get? a=some (seqObj "list" out.toArray c)->R (.done (.ret .none)) {s with heap:=h'}):wpAny `i4 A (Builtin.«list.sort» ⟨[.ref a],[]⟩) R E s:=by
 have la:a<s.heap.objs.size:=X0 ho
 have lz:vs.toArray.size=vs.length:=K1 ..
 have u1:=W2 s.heap a (Obj.mapSeq λ_=>(#[]:Array Value))
 obtain⟨e1,g1⟩:∃e1,(s.heap.update a (Obj.mapSeq λ_=>(#[]:Array Value))).get? a=some (seqObj "list" #[] e1):=⟨_,get?_update_seq ho λ_=> #[]⟩
 rw[list_sort_plain]
 refine A0 (listItems_at ho rfl (A0 (listUpdate_at ho rfl (A0 (seqEpoch_at g1 rfl (A0 (wpAny_newTuple (A0 (wpAny_newList (K3 ?_) (K2 _))) (by show vs.length<=_;rw[sizeLine_eq];lia))))) (by rw[lz,sizeLine_eq];lia) (K2 _))))
 generalize hs1:({s with heap:=((s.heap.update a (Obj.mapSeq λ_=>(#[]:Array Value))).push (seqObj "tuple" vs.toArray 0)).push (seqObj "list" #[] 0)}:Shared)=s1
 have kp:∀b o,(s.heap.update a (Obj.mapSeq λ_=>(#[]:Array Value))).get? b=some o->s1.heap.get? b=some o:=λb o e=>by rw[←hs1];exact C0 _ (C0 _ e)
 have k1:Kp a s s1:=⟨by rw[←hs1],λb o nb e=>kp b o ((u1.2 b nb).trans e)⟩
 have g2:s1.heap.get? a=some (seqObj "list" #[] e1):=kp a _ g1
 dsimp only
 have fin:∀(st:SortSt) (out:List Value),(arrOf st).map (·.2)=out.toArray->failedOf st=none->out.length<64->(vs.length<2/\out=vs\/∃p:Array Nat,p.size=vs.length/\G p/\out=p.toList.map λi=>vs.getD i Value.none)->
  wpAny `i4 A (do
   let touched:=(←seqEpoch a) !=e1
   Builtin.List.listUpdate (.ref a) λ_=>(arrOf st).map (·.2)
   if let some e:=failedOf st then rule "list.sort.comparison-raised";throw e
   if touched then rule "list.sort.modified";raiseError "ValueError" "list modified during sort"
   ret .none) R E s1:=by
  intro st out ho hf hl hc
  rw[ho]
  have u2:=W2 s1.heap a (Obj.mapSeq λ_=>out.toArray)
  obtain⟨c2,g3⟩:∃c2,(s1.heap.update a (Obj.mapSeq λ_=>out.toArray)).get? a=some (seqObj "list" out.toArray c2):=⟨_,get?_update_seq g2 λ_=>out.toArray⟩
  refine A0 (seqEpoch_at g2 rfl (A0 (listUpdate_at g2 rfl ?_ (K2 _) (by show out.toArray.size<=_;rw[K1,sizeLine_eq];lia))))
  rw[hf]
  simp only[bne_self_eq_false,Z3,if_false]
  have:=q out _ c2 hc (λb o nb e=>(u2.2 b nb).trans (k1.2 b o nb e)) g3
  rw[k1.1]
  exact D0 this
 by_cases h2:vs.toArray.size<2
 ·rw[E1 h2,E1 h2]
  refine A0 (D0 ?_)
  rw[StateT.run_pure]
  refine A0 (D0 ?_)
  refine fin _ vs ?_ rfl h64 (.inl ⟨(),rfl⟩)
  apply Array.toList_inj.mp
  show((vs.toArray.zip vs.toArray).map (·.2)).toList=_
  rw[Array.toList_map,Array.toList_zip]
  exact List.map_snd_zip (O0 _)
 ·rw[Y0 h2,Y0 h2]
  obtain⟨hkk,hw⟩:=hk () s1 k1
  refine A0 (hkk _ ?_)
  refine A0 (wpAny_mono (kat_run (E:=E) (Q:=λst' s'=>s'=s1/\∃p:Array Nat,p.size=vs.length/\arrOf st'=p.map (kas_item (vs.toArray.zip vs.toArray))/\failedOf st'=none/\G p) rfl () h64 (λp st' s' x1 x2 x3 x4=>⟨x4.1,p,x1,x2,x3,x4.2⟩) hw) ?_ λ_ _ e=>e)
  rintro⟨⟨⟩,st'⟩ s' ⟨rfl,p,hp,har,hf,hG⟩
  refine fin st' (p.toList.map λi=>vs.getD i Value.none) (kat_snds rfl har) hf (by rw[B0,j1,hp];exact h64) (.inr ⟨p,hp,hG,rfl⟩)
theorem zkD{r d:Addr}{Pn:Nat->Value->Prop}{R:List Value->Shared->Prop}(K:KdlSrc prog w T r d n Pn OK)(hh:A.handled=none)(hok:OK s.heap)(hn:n<=sizeLine)
 (q:∀(h':Heap) (tk:Nat) (acc:Array Value),(∀b o,s.heap.get? b=some o->h'.get? b=some o)->s.heap.objs.size<h'.objs.size->ItemsOf Pn acc n->R acc.toList {s with heap:=h',toks:=tk}):wpAny `i4 A (collect (.ref r)) R E s:=by
 have lt:=K.there _ hok
 have g0:(s.heap.push {cls:= .type "list",data:= .seq ([]:List Value).toArray}).get? s.heap.objs.size=some {cls:= .type "list",data:= .seq #[]}:=Q0 _ rfl
 have key:=kdl_extend (A:=A) (s:={s with heap:=s.heap.push {cls:= .type "list",data:= .seq ([]:List Value).toArray}}) (R:=λ(f:Result) (s':Shared)=>∃(h':Heap) (tk:Nat) (acc':Array Value) (c':Nat),f= .ok (.ret (.ref s.heap.objs.size))/\s'={s with heap:=h',toks:=tk}/\(∀b o,s.heap.get? b=some o->h'.get? b=some o)/\h'.get? s.heap.objs.size=some {cls:= .type "list",dict:=none,data:= .seq acc' c',slots:= #[]}/\ItemsOf Pn acc' n)
  K hh (K.keep _ _ hok λb _ o e=>C0 _ e) s.heap.objs.size (Nat.ne_of_gt lt.1) (Nat.ne_of_gt lt.2) (.ref s.heap.objs.size) 0 g0 (λh' tk acc' c' kp gS ia=>⟨h',tk,acc',c',rfl,rfl,λb o e=>kp b o (Z1 (X0 e)) (C0 _ e),gS,ia⟩) hn
 unfold collect
 refine A0 (wpAny_runValue (Y3 entry_proto_collect' (by
  rw[L3 F.plain_proto_collect _]
  show wpAny _ A.in1 (newList []>>=λl=>again (.builtin "list.__iadd__" ⟨[l, .ref r],[]⟩)) _ _ s
  refine A0 (V2 (D0 ⟨plainId_quiet F.plain_list_iadd _,Y3 entry_list_iadd' (by
   rw[L3 F.plain_list_iadd _]
   show wpAny _ A.in1 (Builtin.List.listExtendWith (.ref s.heap.objs.size) (.ref r) (.ref s.heap.objs.size)) _ _ _
   refine wpAny_mono key (λfin s' x=>?_) λe s' x=>?_
   ·cases fin with
    |done f=>
     obtain⟨h',tk,acc',c',e,rfl,kp,gS,ia⟩:=x;cases e
     show wpAny _ A (load s.heap.objs.size>>=_) _ _ _
     exact A0 (wpAny_load gS (D0 (q h' tk acc' kp (X0 gS) ia)))
    |again c₁=>
     refine⟨x.1,codeAny_mono x.2 λf s₂ y=>?_⟩
     obtain⟨h',tk,acc',c',rfl,rfl,kp,gS,ia⟩:=y
     show wpAny _ A (load s.heap.objs.size>>=_) _ _ _
     exact A0 (wpAny_load gS (D0 (q h' tk acc' kp (X0 gS) ia)))
   ·obtain ⟨_,_,_,_,e',_⟩:=x
    cases e')⟩)))))
theorem zkq{r d:Addr}{R:Value->Shared->Prop}(K:KdlSrc prog w T r d ks.length (λi v=>ks[i]?=some v) OK)(hh:A.handled=none)(hok:OK s.heap)(h64:ks.length<64)
 (hk:2<=ks.length->∀s1:Shared,(∀b o,s.heap.get? b=some o->s1.heap.get? b=some o)->(∀C:SortKind->Shared->Prop,C κ s1->wpAny `i4 A.in1.in1 (keyKind' ks.toArray) C (λ_ _=>False) s1)/\(kas_sort ks.length).kasWp (kas_ask prog w A.in1.in1 κ ks) (λp s'=>s'=s1/\G p) s1)
 (q:∀(D:Addr) (out:List Value) (h':Heap) (tk c:Nat),(ks.length<2/\out=ks\/∃p:Array Nat,p.size=ks.length/\G p/\out=p.toList.map λi=>ks.getD i Value.none)->(∀b o,s.heap.get? b=some o->h'.get? b=some o)->
   s.heap.objs.size<=D->h'.get? D=some (seqObj "list" out.toArray c)->R (.ref D) {s with heap:=h',toks:=tk}):wpAny `i4 A (call (.builtin "sorted") [.ref r]) R E s:=by
 refine Calls.call_function_entry kind_sorted plain_sorted entry_sorted (args_sorted1 _) ?_
 unfold Builtin.«sorted»
 refine A0 (m:=checkCount "sorted" 1 1 _) (D0 (A0 (zkD (A:=A.in1) K hh hok (by rw[sizeLine_eq];lia) λh1 tk acc kp gr0 hacc=>?_)))
 have ea:acc.toList=ks:=by
  apply List.ext_getElem?
  intro i
  rcases R1 i ks.length with h|h
  ·have hi:i<acc.size:=by rw[hacc.1];exact h
   rw[Array.getElem?_toList,W1 hi]
   exact(hacc.2 i acc[i] (by rw[W1 hi])).symm
  ·rw[G0 h,G0 (by rw[j1,hacc.1];exact h)]
 rw[ea]
 refine A0 (wpAny_newList ?_ (by rw[sizeLine_eq];lia))
 have hD:(h1.push (seqObj "list" ks.toArray 0)).get? h1.objs.size=some (seqObj "list" ks.toArray 0):=Q0 _ rfl
 have k2:∀b o,s.heap.get? b=some o->(h1.push (seqObj "list" ks.toArray 0)).get? b=some o:=λb o e=>C0 _ (kp b o e)
 have gr:s.heap.objs.size<=h1.objs.size:=Z2 gr0
 show wpAny _ _ _ _ _ {s with heap:=h1.push (seqObj "list" ks.toArray 0),toks:=tk}
 refine A0 (K3 (Q2 slot_list_sort ⟨_,hD,rfl⟩ entry_list_sort (zhw (G:=G) (κ:=κ) (s:={s with heap:=h1.push (seqObj "list" ks.toArray 0),toks:=tk}) hD h64 (λh2 s1 k1=>?_) λout h' c hc hkp hg=>?_) (args_list_sort _)))
 ·obtain ⟨x1,x2⟩:=hk h2 s1 λb o e=>k1.2 b o (Z1 (E2 (X0 e) gr)) (k2 b o e)
  exact⟨λC hC=>wpAny_mono (x1 C hC) (λ_ _ z=>z) λ_ _ z=>z.elim,x2⟩
 ·exact ⟨_,rfl,D0 ⟨_,rfl,q h1.objs.size out h' tk c hc (λb o e=>hkp b o (Z1 (E2 (X0 e) gr)) (k2 b o e)) gr hg⟩⟩
noncomputable abbrev ltS(x y:Str):Bool:=decide (x.cps.toList<y.cps.toList)
noncomputable def ltP(p q:Str×Str):Bool:=if p.1=q.1 then(if p.2=q.2 then false else ltS p.2 q.2)else ltS p.1 q.1
theorem zlt:∀(a b:List Nat),a≠b->¬a<b->b<a
 |[],[],h,_=>absurd rfl h
 |[],b::bs,_,h=>absurd (List.nil_lt_cons b bs) h
 |a::as,[],_,_=>List.nil_lt_cons a as
 |a::as,b::bs,h,hn=>by
  rw[List.cons_lt_cons_iff] at hn⊢
  rcases Nat.lt_trichotomy a b with q|q|q
  ·exact absurd (.inl q) hn
  ·subst q
   exact .inr ⟨rfl,zlt as bs (λz=>h (by rw[z])) (λz=>hn (.inr ⟨rfl,z⟩))⟩
  ·exact .inl q
theorem zj3:∀{a b c:List Nat},a<b->b<c->a<c
 |_,[],_,h,_=>absurd h `n3
 |_,_::_,[],_,h=>absurd h `n3
 |[],_::_,c::cs,_,_=>List.nil_lt_cons c cs
 |a::as,b::bs,c::cs,h1,h2=>by
  rw[List.cons_lt_cons_iff] at h1 h2⊢
  rcases h1 with h1|⟨rfl,h1⟩
  ·rcases h2 with h2|⟨rfl,h2⟩
   ·exact .inl ()
   ·exact .inl h1
  ·rcases h2 with h2|⟨rfl,h2⟩
   ·exact .inl h2
   ·exact .inr ⟨rfl,zj3 h1 h2⟩
theorem ziC:∀(a:List Nat),¬a<a
 |[],h=>absurd h `n3
 |a::as,h=>by
  rw[List.cons_lt_cons_iff] at h
  rcases h with h|⟨_,h⟩
  ·lia
  ·exact ziC as h
theorem zpb(h:x.cps.toList=y.cps.toList):x=y:=by
 cases x;cases y
 simp only[Str.mk.injEq]
 exact Array.toList_inj.mp h
theorem zcX(h:x≠y)(e:ltS x y=false):ltS y x=true:=N0 (zlt _ _ (λz=>h (zpb z)) (of_decide_eq_false e))
theorem zfq{z:Str}(h1:ltS x y=true)(h2:ltS y z=true):ltS x z=true:=N0 (zj3 (R0 h1) (R0 h2))
theorem ziw(x:Str):ltS x x=false:=A1 (ziC _)
theorem zgf(h:ltS x y=true):ltS y x=false:=A1 λz=>ziC _ (zj3 (R0 h) z)
theorem zkr(h:ltS x y=true):x≠y:=λz=>by rw[z,ziw] at h;cases h
theorem zpo{p q:Str×Str}(h:p≠q)(e:ltP p q=false):ltP q p=true:=by
 unfold ltP at e⊢
 by_cases h1:p.1=q.1
 ·rw[E1 h1] at e
  rw[E1 h1.symm]
  have h2:p.2≠q.2:=λz=>h (Prod.ext h1 z)
  rw[Y0 h2] at e
  rw[Y0 (Ne.symm h2)]
  exact zcX h2 e
 ·rw[Y0 h1] at e
  rw[Y0 (Ne.symm h1)]
  exact zcX h1 e
theorem znY{p q r:Str×Str}(h1:ltP p q=true)(h2:ltP q r=true):ltP p r=true:=by
 unfold ltP at h1 h2⊢
 by_cases e1:p.1=q.1
 ·rw[E1 e1] at h1
  by_cases e2:q.1=r.1
  ·rw[E1 e2] at h2
   rw[E1 (e1.trans e2)]
   by_cases f1:p.2=q.2
   ·rw[E1 f1] at h1;cases h1
   ·by_cases f2:q.2=r.2
    ·rw[E1 f2] at h2;cases h2
    ·rw[Y0 f1] at h1
     rw[Y0 f2] at h2
     have:=zfq h1 h2
     rw[Y0 (zkr this)];exact this
  ·rw[Y0 e2] at h2
   rw[Y0 (by rw[e1];exact e2),e1];exact h2
 ·rw[Y0 e1] at h1
  by_cases e2:q.1=r.1
  ·rw[Y0 (by rw[←e2];exact e1),←e2];exact h1
  ·rw[Y0 e2] at h2
   have:=zfq h1 h2
   rw[Y0 (zkr this)];exact this
theorem zib(p:Str×Str):ltP p p=false:=by unfold ltP;rw[E1 rfl,E1 rfl]
theorem zpt{p q:Str×Str}(h:ltP p q=true):ltP q p=false:=by
 cases e:ltP q p with
 |false=>rfl
 |true=>have:=znY h e;rw[zib] at this;cases this
theorem zhY:∀(l:List Str),sortedS l=true->l.Nodup->l.Pairwise (λa b=>ltS a b=true)
 |[],_,_=> .nil
 |[x],_,_=>`n3
 |x::y::r,h,hn=>by
  have h':(!ltCps y.cps.toList x.cps.toList&&risingS y r)=true:=h
  rw[L0] at h'
  have hr:sortedS (y::r)=true:=h'.2
  have ih:=zhY (y::r) hr (List.nodup_cons.mp hn).2
  have hxy:ltS x y=true:=by
   have h1:ltS y x=false:=by
    have:=h'.1
    rw[ltCps_eq] at this
    simpa using this
   exact zcX (λz=>(List.nodup_cons.mp hn).1 (by rw[z];exact Z0)) h1
  refine List.pairwise_cons.mpr ⟨λz hz=>?_,ih⟩
  rcases K0.mp hz with rfl|hz
  ·exact hxy
  ·exact zfq hxy ((List.pairwise_cons.mp ih).1 z hz)
theorem zhT:CallR X (.builtin "sorted") (λxs H Q=>∃(p:Addr) (ss:List Str),xs=[.ref p]/\SqL X.K H p (ss.map V.str)/\ss.length<64/\ss.Nodup/\∀(ss':List Str) l,ss'.Perm ss->ss'.Pairwise (λa b=>ltS a b=true)->H l=none->Q (.ref l) (upd H l (.lst (ss'.map V.str)))):=by
 intro pins s σ H xs us Q I r h
 obtain⟨p,ss,rfl,hq,h64,hnd,q⟩:=h
 obtain⟨u,rfl,ru⟩:=zb7 r
 cases ru
 obtain⟨its,rv,pl,hz⟩:=I.list hq
 have hS:=zbZ rv
 have hl:=rv.length
 rw[B0] at hl
 refine sorted_strs pl.isList hS () λout ss' a1 a2 a3=>?_
 have nl:H (s.heap.objs.size+1)=none:=I.hok.fresh (Nat.le_succ _)
 obtain⟨e,he⟩:=sortedAll_at s.heap its out
 have hn':ss'.Nodup:=a2.nodup_iff.mpr hnd
 refine⟨.ref _,_,I.laid (a:=s.heap.objs.size+1) (o:= .lst (ss'.map V.str)) (t':=s.toks) (λb o hb=>sortedAll_old hb) (Nat.le_succ _) ⟨?_,out.toList,e,?_,?_⟩,rfl,q ss' _ a2 (zhY ss' a3 hn') nl⟩
 ·rw[B0,a2.length_eq];exact Z2 (zl ())
 ·have mk:∀{vs:List Value} {zs:List Str},StrsAre vs zs->Vals (zs.map V.str) vs:=by
   intro vs zs h
   induction h with
   |nil=>exact .nil
   |cons x t _ ih=>exact .cons ⟨t,rfl⟩ ih
  exact mk a1
 ·rw[Array.toArray_toList];exact he
def zpU(H:Hp)(vs:List V)(ps:List (Str×Str)):Prop:=vs.length=ps.length/\∀(i:Nat) (v:V) (p:Str×Str),vs[i]?=some v->ps[i]?=some p->∃b,v= .ref b/\H b=some (.tup [.str p.1, .str p.2])
noncomputable def zg4(p:Str×Str):List Key:=[.inr p.1, .inr p.2]
def TupAt(h:Heap)(u:Value)(p:Str×Str):Prop:=∃b o n t1 t2,u= .ref b/\h.get? b=some o/\o.cls= .type "tuple"/\o.data= .seq #[.str p.1 t1, .str p.2 t2] n
theorem TupAt.keeps{p:Str×Str}(x:TupAt h u p)(k:∀b o,h.get? b=some o->h'.get? b=some o):TupAt h' u p:=let⟨b,o,n,t1,t2,e,g,r⟩:=x;⟨b,o,n,t1,t2,e,k _ _ g,r⟩
theorem zoL{v:Value}{p q:Str×Str}{C:Bool->Shared->Prop}(x:TupAt s.heap u p)(y:TupAt s.heap v q)(h:C (ltP p q) s):wpAny `i4 A (keyLt' (tuples' true) u v) C E s:=by
 obtain⟨b,o,n,t1,t2,rfl,g,_,d⟩:=x
 obtain⟨b',o',n',t3,t4,rfl,g',_,d'⟩:=y
 refine kat_lt g d g' d' ?_
 show KatLex prog w A true (decide (2<2)) C [(.str p.1 t1, .str q.1 t3),(.str p.2 t2, .str q.2 t4)] 0 s
 unfold ltP at h
 refine kat_cons (wpAny_eqBool_str ?_)
 by_cases e1:p.1=q.1
 ·rw[E1 e1] at h
  rw[N0 e1]
  refine kat_yes (kat_cons (wpAny_eqBool_str ?_))
  by_cases e2:p.2=q.2
  ·rw[E1 e2] at h
   rw[N0 e2]
   exact kat_yes (kat_nil h)
  ·rw[Y0 e2] at h
   rw[A1 e2]
   refine kat_no ?_
   show wpAny `i4 A (oneLt' false (.str p.2 t2) (.str q.2 t4)) C _ s
   exact kat_one _ _ (lt_str h)
 ·rw[Y0 e1] at h
  rw[A1 e1]
  refine kat_no ?_
  show wpAny `i4 A (oneLt' true (.str p.1 t1) (.str q.1 t3)) C _ s
  exact oneLt_str h
theorem zlu{h:Heap}:∀{us:List Value} {ps:List (Str×Str)},us.length=ps.length->(∀(i:Nat) (u:Value) (p:Str×Str),us[i]?=some u->ps[i]?=some p->TupAt h u p)->∃fs,KatTups h us fs/\fs.length=us.length/\∀f∈fs,∃x t,f=Value.str x t
 |[],[],_,_=>⟨[],trivial,rfl,λ_ z=>nomatch z⟩
 |[],_::_,z,_=>by simp at z
 |_::_,[],z,_=>by simp at z
 |u::us,p::ps,hl,hx=>by
  obtain⟨fs,h1,h2,h3⟩:=zlu (us:=us) (ps:=ps) (by simpa using hl) λi u p e1 e2=>hx (i+1) u p (by simpa using e1) (by simpa using e2)
  obtain⟨b,o,n,t1,t2,rfl,g,c,d⟩:=hx 0 u p rfl rfl
  refine⟨.str p.1 t1::fs,KatTups.cons g c d rfl h1,by simp[h2],λf hf=>?_⟩
  rcases K0.mp hf with rfl|hf
  ·exact ⟨_,_,rfl⟩
  ·exact h3 f hf
noncomputable def pAt(ps:List (Str×Str))(i:Nat):Str×Str:=ps.getD i (⟨#[]⟩,⟨#[]⟩)
theorem ziD(hn:ps.Nodup):Strict ps.length (λi j=>ltP (pAt ps i) (pAt ps j)) where
 tot:=λi j hi hj hij e=>zpo (λz=>hij ((List.getElem_inj hn (h₀:=hi) (h₁:=hj)).mp (by unfold pAt at z;simpa[hi,hj] using z))) e
 tr:=λi j k _ _ _ h1 h2=>znY h1 h2
 asy:=λi j _ _ h=>zpt h
theorem zmc{p:Array Nat}(hp:PermN ps.length p)(hs:Sor (λi j=>ltP (pAt ps i) (pAt ps j)) p ps.length):(p.toList.map (pAt ps)).Perm ps/\(p.toList.map (pAt ps)).Pairwise (λa b=>ltP a b=true):=by
 constructor
 ·have h1:=hp.map (pAt ps)
  have h2:(List.range ps.length).map (pAt ps)=ps:=by
   apply List.ext_getElem?
   intro i
   rw[V0]
   rcases R1 i ps.length with h|h
   ·rw[List.getElem?_range h]
    show some (pAt ps i)=_
    unfold pAt
    simp[h]
   ·rw[G0 (by simpa using h),G0 h];rfl
  rwa[h2] at h1
 ·have hz:=hp.size
  rw[List.pairwise_iff_getElem]
  intro i j hi hj hij
  have hi':i<p.size:=by simpa using hi
  have hj':j<p.size:=by simpa using hj
  have h:=hs i j hij ()
  rw[gd_get hi',gd_get hj'] at h
  simpa using h
theorem zgD{α β:Type}{R:α->β->Prop}:∀{as:List α} {bs:List β},Paired R as bs->as.length=bs.length/\∀(i:Nat) (a:α) (b:β),as[i]?=some a->bs[i]?=some b->R a b
 |_,_, .nil=>⟨rfl,λi a b e=>by simp at e⟩
 |_,_, .cons h t=>by
  obtain⟨h1,h2⟩:=zgD t
  refine⟨by simp[h1],λi a b e1 e2=>?_⟩
  cases i with
  |zero=>simp at e1 e2;subst e1;subst e2;exact h
  |succ i=>exact h2 i a b (by simpa using e1) (by simpa using e2)
theorem zhQ(hc:X.calm=true):CallR X (.builtin "sorted") (λxs H Q=>∃(d:Addr) (kvs:List (List Key×V)) (ps:List (Str×Str)),xs=[.ref d]/\H d=some (.dT kvs)/\kvs.map (·.1)=ps.map zg4/\ps.length<64/\
 ∀(ps':List (Str×Str)) (vs:List V) l,ps'.Perm ps->ps'.Pairwise (λa b=>ltP a b=true)->zpU H vs ps'->H l=none->Q (.ref l) (upd H l (.lst vs))):=by
 intro pins s σ H xs us Q I r h
 obtain⟨d,kvs,ps,rfl,hd,hk,h64,q⟩:=h
 obtain⟨u,rfl,ru⟩:=zb7 r
 cases ru
 obtain⟨_,nsys,zs,hp,o,es,ep,g,ex,dat,hes,hnd⟩:=(show ObjOk X.prog X.w H s.heap d (.dT kvs)from I.hok d _ hd)
 obtain⟨hl,hget⟩:=zgD hp
 have hlk:kvs.length=ps.length:=by have:=j3 List.length hk;simpa using this
 have hnp:ps.Nodup:=by
  have e:zs.map (·.1)=kvs.map (·.1):=by
   apply List.ext_getElem?
   intro i
   rw[V0,V0]
   rcases R1 i kvs.length with h|h
   ·have h':i<zs.length:=()
    have:=(hget i kvs[i] zs[i] (by simp[h]) (by simp[h'])).1
    simp[h,h',this]
   ·rw[G0 h,G0 ()];rfl
  rw[e,hk] at hnd
  exact(List.pairwise_map.mp hnd).imp λh z=>h (by rw[z])
 have kz:(zs.map λq=>Value.ref q.2.1).length=ps.length:=by rw[B0];lia
 have raw:RawD s.heap d (zs.map λq=>Value.ref q.2.1) ep:=⟨o,es,g,ex,dat,by rw[hes,List.map_map];rfl⟩
 have keyA:∀i (h:i<ps.length),∃b,(zs.map λq=>Value.ref q.2.1)[i]?=some (.ref b)/\H b=some (.tup [.str ps[i].1, .str ps[i].2]):=λi h=>by
  have h1:i<kvs.length:=()
  have h2:i<zs.length:=()
  have hr:=hget i kvs[i] zs[i] (by simp[h1]) (by simp[h2])
  refine⟨zs[i].2.1,by simp[h2],?_⟩
  have ek:kvs[i].1=zg4 ps[i]:=by
   have e1:(kvs.map (·.1))[i]?=some kvs[i].1:=by simp[h1]
   rw[hk] at e1
   have e2:(ps.map zg4)[i]?=some (zg4 ps[i]):=by simp[h]
   rw[e1] at e2
   exact U1 e2
  rw[hr.2.1,ek]
  rfl
 have keyT:∀(i:Nat) (u:Value) (p:Str×Str),(zs.map λq=>Value.ref q.2.1)[i]?=some u->ps[i]?=some p->TupAt s.heap u p:=λi u p e1 e2=>by
  have hi:i<ps.length:=by
   rcases R1 i ps.length with z|z
   ·exact z
   ·rw[G0 z] at e2;cases e2
  obtain⟨b,f1,f2⟩:=keyA i hi
  rw[f1] at e1
  cases e1
  have ep':ps[i]=p:=by simpa[hi] using e2
  rw[ep'] at f2
  obtain⟨_,its,rv,⟨o',g',c',n',d'⟩,_⟩:=(show ObjOk X.prog X.w H s.heap b (.tup [.str p.1, .str p.2])from I.hok b _ f2)
  cases rv with
  |cons r1 rv=>cases rv with
   |cons r2 rv=>cases rv with
    |nil=>
     obtain⟨t1,rfl⟩:=r1
     obtain⟨t2,rfl⟩:=r2
     exact⟨b,o',n',t1,t2,rfl,g',c',d'⟩
 generalize hks:(zs.map λq=>Value.ref q.2.1)=ks at *
 refine zkq (A:=X.A) (G:=λp=>PermN ps.length p/\Sor (λi j=>ltP (pAt ps i) (pAt ps j)) p ps.length) (κ:=tuples' true) (zpW (ks:=ks) (ep:=ep) nsys) (I.ok.hd hc) raw () (λh2 s1 k1=>?_) (λD out h' tk c ho kp hD gD=>?_)
 ·have keyT1:∀(i:Nat) (u:Value) (p:Str×Str),ks[i]?=some u->ps[i]?=some p->TupAt s1.heap u p:=λi u p e1 e2=>(keyT i u p e1 e2).keeps k1
  obtain⟨fs,ft,fl,fa⟩:=zlu kz keyT1
  refine⟨λC hC=>kat_kind (T:= .type "str") ft () (λf hf=>?_) rfl hC,?_⟩
  ·obtain ⟨x,t,rfl⟩:=fa f hf
   exact Looks.of_pure rfl
  ·rw[kz]
   refine OkT.wp (N:=ps.length) (lt:=λi j=>ltP (pAt ps i) (pAt ps j)) (I:=λs'=>s'=s1) (λi j C s' hi hj e hC=>?_) (λp s' hp e=>⟨e,hp⟩) rfl (sort_ok (ziD hnp) ())
   subst e
   have gi:∀i,i<ps.length->TupAt s'.heap (ks.getD i Value.none) (pAt ps i):=λi hi=>by
    have hi':i<ks.length:=()
    refine keyT1 i _ _ ?_ ?_
    ·simp[hi']
    ·unfold pAt;simp[hi]
   exact zoL (gi i hi) (gi j hj) (hC s' rfl)
 ·
  have nD:H D=none:=I.hok.fresh hD
  obtain⟨ps',hperm,hpw,hout⟩:∃ps':List (Str×Str),ps'.Perm ps/\ps'.Pairwise (λa b=>ltP a b=true)/\out.length=ps'.length/\∀(i:Nat) (u:Value) (p:Str×Str),out[i]?=some u->ps'[i]?=some p->∃b,u= .ref b/\H b=some (.tup [.str p.1, .str p.2]):=by
   rcases ho with⟨hlt,rfl⟩|⟨p,hp,⟨hP,hS⟩,rfl⟩
   ·refine ⟨ps, .refl _,?_,kz,λi u p e1 e2=>?_⟩
    ·match ps,(show ps.length<2 by lia)with
     |[],_=>exact .nil
     |[x],_=>exact List.pairwise_singleton _ _
    ·have hi:i<ps.length:=by
      rcases R1 i ps.length with z|z
      ·exact z
      ·rw[G0 z] at e2;cases e2
     obtain⟨b,f1,f2⟩:=keyA i hi
     rw[f1] at e1;cases e1
     have ep':ps[i]=p:=by simpa[hi] using e2
     rw[ep'] at f2
     exact⟨b,rfl,f2⟩
   ·obtain ⟨o1,o2⟩:=zmc hP hS
    refine⟨p.toList.map (pAt ps),o1,o2,by rw[B0,B0],λi u q e1 e2=>?_⟩
    rw[V0] at e1 e2
    cases hpi:p.toList[i]? with
    |none=>rw[hpi] at e1;cases e1
    |some j=>
     rw[hpi] at e1 e2
     have hj:j<ps.length:=U2.mp (hP.mem_iff.mp (U0 hpi))
     obtain⟨b,f1,f2⟩:=keyA j hj
     have hj':j<ks.length:=()
     have eu:ks.getD j Value.none= .ref b:=by
      rw[List.getD_eq_getElem?_getD,f1];rfl
     have e1':some (ks.getD j Value.none)=some u:=e1
     rw[eu] at e1'
     have e2':some (pAt ps j)=some q:=e2
     have eq:pAt ps j=ps[j]:=by unfold pAt;simp[hj]
     rw[eq] at e2'
     cases e1'
     cases e2'
     exact⟨b,rfl,f2⟩
  obtain⟨hol,hog⟩:=hout
  have hall:∀u∈out,∃b,u=Value.ref b:=λu hu=>by
   obtain⟨i,hi,rfl⟩:=U3 hu
   obtain⟨b,e,_⟩:=hog i out[i] (ps'[i]'()) (by simp[hi]) (by simp[show i<ps'.length by lia])
   exact⟨b,e⟩
  obtain⟨vs,rvs⟩:∃vs:List V,Vals vs out/\∀(i:Nat) (b:Addr),out[i]?=some (.ref b)->vs[i]?=some (.ref b):=by
   clear hog hol gD ho
   induction out with
   |nil=>exact ⟨[], .nil,λi b e=>by simp at e⟩
   |cons u out ih=>
    obtain⟨vs,h1,h2⟩:=ih λu hu=>hall u (N1 _ hu)
    obtain⟨b,rfl⟩:=hall u Z0
    refine⟨.ref b::vs, .cons rfl h1,λi b' e=>?_⟩
    cases i with
    |zero=>simpa using e
    |succ i=>exact h2 i b' (by simpa using e)
  have lv:vs.length=out.length:=rvs.1.length
  refine⟨.ref D,_,I.laid (a:=D) (o:= .lst vs) (t':=tk) kp hD ⟨by rw[lv,hol,hperm.length_eq];exact Z2 (zl ()),out,c,rvs.1,gD⟩,rfl,q ps' vs D hperm hpw ⟨(),λi v p e1 e2=>?_⟩ nD⟩
  have hi:i<out.length:=by
   rcases R1 i out.length with z|z
   ·exact z
   ·rw[G0 ()] at e1;cases e1
  obtain⟨b,f1,f2⟩:=hog i out[i] p (by simp[hi]) e2
  have:=rvs.2 i b (by rw[←f1];simp[hi])
  rw[this] at e1
  cases e1
  exact⟨b,rfl,f2⟩
noncomputable def ziQ(a c:Str)(t u:Tok)(i:Nat):Value:=if i=0 then .str a t else .str c u
theorem ziq{a c:Str}{t u:Tok}{v:Value}(h:(#[Value.str a t,Value.str c u])[i]?=some v):(i=0/\v= .str a t)\/(i=1/\v= .str c u):=by
 match i,h with
 |0,h=>exact .inl ⟨rfl,by simpa using h.symm⟩
 |1,h=>exact .inr ⟨rfl,by simpa using h.symm⟩
 |i+2,h=>simp at h
theorem zik{a c:Str}{t u:Tok}{R:Value->Shared->Prop}(hh:A.handled=none)(q:∀h' tk,(∀b o,s.heap.get? b=some o->h'.get? b=some o)->R (if ltS a c=true then .str c u else .str a t) {s with heap:=h',toks:=tk}):
 wpAny `i4 A (call (.builtin "max") [.str a t, .str c u]) R E s:=by
 have hT:(s.heap.push {cls:= .type "tuple",data:= .seq #[.str a t, .str c u]}).IsTuple s.heap.objs.size #[.str a t, .str c u]:=⟨_,Q0 _ rfl,rfl,0,rfl⟩
 have z:(s.heap.push {cls:= .type "tuple",data:= .seq #[.str a t, .str c u]}).objs.size=s.heap.objs.size+1:=Heap.size_push ..
 refine call_max_two (wpAny_pyIter_tuple hT ?_)
 refine⟨_,[_,s.heap.objs.size],[_],_,_,_,λi j=>ltS (strOf (ziQ a c t u j)) (strOf (ziQ a c t u i)),rfl,Walks.tuple (A:=A.in1) hh _ s.heap.objs.size (by rw[z];exact Z1 (Nat.lt_succ_self _)) #[.str a t, .str c u],⟨⟨_,Q0 _ rfl,rfl,rfl⟩,hT.push _⟩,λb hb=>?_,(by decide:0<2),?_,λv h' tk hP hk=>?_⟩
 ·show b<((s.heap.push _).push _).objs.size
  rw[Heap.size_push,z]
  rcases K0.mp hb with rfl|hb
  ·rw[z];exact Nat.lt_succ_self _
  ·rcases K0.mp hb with rfl|hb
   ·exact Nat.lt_succ_of_lt (Nat.lt_succ_self _)
   ·cases hb
 ·intro i j vi vj s' R' E' hi hj hq
  rcases ziq hi with⟨rfl,rfl⟩|⟨rfl,rfl⟩<;>rcases ziq hj with⟨rfl,rfl⟩|⟨rfl,rfl⟩<;>exact (P.gt_str hq:wpAny `i4 A.in1 (compareOp .Gt _ _) R' E' s')
 ·have keep:∀b o,s.heap.get? b=some o->h'.get? b=some o:=λb o e=>hk b o (λhm=>by
   rcases K0.mp hm with e1|hm
   ·have lb:=X0 e
    rw[e1,z] at lb
    exact absurd lb (Nat.not_lt.mpr (Nat.le_succ _))
   ·cases hm) (C0 _ (C0 _ e))
  have fin:=q h' tk keep
  have eb:argBest (λi j=>ltS (strOf (ziQ a c t u j)) (strOf (ziQ a c t u i))) (2 -1)=if ltS a c=true then 1 else 0:=rfl
  have hP':(#[Value.str a t,Value.str c u])[if ltS a c=true then 1 else 0]?=some v:=hP
  by_cases hc:ltS a c=true
  ·rw[E1 hc] at hP' fin
   have ev:Value.str c u=v:=by simpa using hP'
   rw[←ev];exact fin
  ·rw[Y0 hc] at hP' fin
   have ev:Value.str a t=v:=by simpa using hP'
   rw[←ev];exact fin
theorem zhU{a c:Str}{t u:Tok}{R:Value->Shared->Prop}(hh:A.handled=none)(q:∀h' tk,(∀b o,s.heap.get? b=some o->h'.get? b=some o)->R (if ltS c a=true then .str c u else .str a t) {s with heap:=h',toks:=tk}):
 wpAny `i4 A (call (.builtin "min") [.str a t, .str c u]) R E s:=by
 have hT:(s.heap.push {cls:= .type "tuple",data:= .seq #[.str a t, .str c u]}).IsTuple s.heap.objs.size #[.str a t, .str c u]:=⟨_,Q0 _ rfl,rfl,0,rfl⟩
 have z:(s.heap.push {cls:= .type "tuple",data:= .seq #[.str a t, .str c u]}).objs.size=s.heap.objs.size+1:=Heap.size_push ..
 refine call_min_two (wpAny_pyIter_tuple hT ?_)
 refine⟨_,[_,s.heap.objs.size],[_],_,_,_,λi j=>ltS (strOf (ziQ a c t u i)) (strOf (ziQ a c t u j)),rfl,Walks.tuple (A:=A.in1) hh _ s.heap.objs.size (by rw[z];exact Z1 (Nat.lt_succ_self _)) #[.str a t, .str c u],⟨⟨_,Q0 _ rfl,rfl,rfl⟩,hT.push _⟩,λb hb=>?_,(by decide:0<2),?_,λv h' tk hP hk=>?_⟩
 ·show b<((s.heap.push _).push _).objs.size
  rw[Heap.size_push,z]
  rcases K0.mp hb with rfl|hb
  ·rw[z];exact Nat.lt_succ_self _
  ·rcases K0.mp hb with rfl|hb
   ·exact Nat.lt_succ_of_lt (Nat.lt_succ_self _)
   ·cases hb
 ·intro i j vi vj s' R' E' hi hj hq
  rcases ziq hi with⟨rfl,rfl⟩|⟨rfl,rfl⟩<;>rcases ziq hj with⟨rfl,rfl⟩|⟨rfl,rfl⟩<;>exact (lt_str hq:wpAny `i4 A.in1 (compareOp .Lt _ _) R' E' s')
 ·have keep:∀b o,s.heap.get? b=some o->h'.get? b=some o:=λb o e=>hk b o (λhm=>by
   rcases K0.mp hm with e1|hm
   ·have lb:=X0 e
    rw[e1,z] at lb
    exact absurd lb (Nat.not_lt.mpr (Nat.le_succ _))
   ·cases hm) (C0 _ (C0 _ e))
  have fin:=q h' tk keep
  have eb:argBest (λi j=>ltS (strOf (ziQ a c t u i)) (strOf (ziQ a c t u j))) (2 -1)=if ltS c a=true then 1 else 0:=rfl
  have hP':(#[Value.str a t,Value.str c u])[if ltS c a=true then 1 else 0]?=some v:=hP
  by_cases hc:ltS c a=true
  ·rw[E1 hc] at hP' fin
   have ev:Value.str c u=v:=by simpa using hP'
   rw[←ev];exact fin
  ·rw[Y0 hc] at hP' fin
   have ev:Value.str a t=v:=by simpa using hP'
   rw[←ev];exact fin
theorem zgW(hc:X.calm=true):CallR X (.builtin "max") (λxs H Q=>∃a c,xs=[.str a, .str c]/\Q (.str (if ltS a c=true then c else a)) H):=by
 intro pins s σ H xs us Q I r h
 obtain⟨i,j,rfl,q⟩:=h
 obtain⟨u,w',rfl,⟨t,rfl⟩,⟨t',rfl⟩⟩:=zhh r
 refine zik (I.ok.hd hc) λh' tk k=>⟨_,H,I.kept k,?_,q⟩
 by_cases hj:ltS i j=true
 ·rw[E1 hj,E1 hj];exact⟨_,rfl⟩
 ·rw[Y0 hj,Y0 hj];exact⟨_,rfl⟩
theorem zgQ(hc:X.calm=true):CallR X (.builtin "min") (λxs H Q=>∃a c,xs=[.str a, .str c]/\Q (.str (if ltS c a=true then c else a)) H):=by
 intro pins s σ H xs us Q I r h
 obtain⟨i,j,rfl,q⟩:=h
 obtain⟨u,w',rfl,⟨t,rfl⟩,⟨t',rfl⟩⟩:=zhh r
 refine zhU (I.ok.hd hc) λh' tk k=>⟨_,H,I.kept k,?_,q⟩
 by_cases hj:ltS j i=true
 ·rw[E1 hj,E1 hj];exact⟨_,rfl⟩
 ·rw[Y0 hj,Y0 hj];exact⟨_,rfl⟩
section
open PySem.SeqAt
open PySem.AutoSeq1 (wpAny_loadPart')
open PySem.MeetsSeq PySem.MeetsSeq2 PySem.MeetsSeq3
theorem zg5(l b:Addr)(n n2:Nat)(dd dd2:Option Addr)(sl sl2:Array (Option Value))(x y z v:Str)(t1 t2 t3 t4:Tok):
 Meets (Builtin.«tuple.__lt__» ⟨[.ref l, .ref b],[]⟩) (λ_ R s=>s.heap.get? l=some {cls:= .type "tuple",dict:=dd,data:= .seq #[.str x t1, .str y t2] n,slots:=sl}/\s.heap.get? b=some {cls:= .type "tuple",dict:=dd2,data:= .seq #[.str z t3, .str v t4] n2,slots:=sl2}/\R (.ok (.ret (.bool (ltP (x,y) (z,v))))) s):=
 .of_wp λprog w A R s h=>by
  obtain⟨hp,g,d,tk,os⟩:=s;obtain⟨hl,hb,h⟩:=h
  have f2:=AutoSeq1.sub_tuple_tuple
  have cmp:∀(a c:Str) (t u:Tok) (E:Value->Shared->Prop) (Q:Value->Shared->Prop),Q (.bool (ltS a c)) ⟨hp,g,d,tk,os⟩->wpAny `i4 A.in1 (richCompare .Lt (.str a t) (.str c u)) Q E ⟨hp,g,d,tk,os⟩:=λa c t u E Q hq=>(PyProof.Rows.lt_str hq:wpAny `i4 A.in1 (compareOp .Lt (.str a t) (.str c u)) Q E ⟨hp,g,d,tk,os⟩)
  wp_walk using wpAny_loadPart' hl,wpAny_loadPart' hb,wpAny_forIn_list _ (λrest b s'=>b.1=none/\s'=⟨hp,g,d,tk,os⟩/\((rest=[(Value.str x t1,Value.str z t3),(Value.str y t2,Value.str v t4)])\/(rest=[(Value.str y t2,Value.str v t4)]/\x=z)\/(rest=[]/\x=z/\y=v))) _
  case turn=>
   rintro⟨p,q⟩ rest b s' ⟨hb',rfl,hr⟩
   rcases hr with hr|⟨hr,ex⟩|⟨hr,_⟩
   ·injection hr with h1 h2
    injection h1 with h3 h4
    subst h3 h4
    refine A0 (wpAny_eqBool_str ?_)
    by_cases ex:x=z
    ·rw[N0 ex]
     wp_walk
     exact⟨rfl,rfl, .inr (.inl ⟨h2,ex⟩)⟩
    ·rw[A1 ex]
     have c1:=cmp x z t1 t3
     wp_walk using c1
     unfold ltP at h
     rw[Y0 ex] at h
     exact⟨_,rfl,h⟩
   ·injection hr with h1 h2
    injection h1 with h3 h4
    subst h3 h4
    refine A0 (wpAny_eqBool_str ?_)
    by_cases ey:y=v
    ·rw[N0 ey]
     wp_walk
     exact⟨rfl,rfl, .inr (.inr ⟨h2,ex,ey⟩)⟩
    ·rw[A1 ey]
     have c1:=cmp y v t2 t4
     wp_walk using c1
     unfold ltP at h
     rw[E1 ex,Y0 ey] at h
     exact⟨_,rfl,h⟩
   ·cases hr
  case fin=>
   rintro⟨b1,b2⟩ s' ⟨hb',rfl,hr⟩
   simp only at hb'
   subst hb'
   rcases hr with hr|⟨hr,_⟩|⟨_,ex,ey⟩
   ·cases hr
   ·cases hr
   ·unfold ltP at h
    rw[E1 ex,E1 ey] at h
    wp_walk
    exact⟨_,rfl,h⟩
  case h=>
   exact⟨rfl,rfl, .inl rfl⟩
end
noncomputable def zsi:R2:=λx y H Q=>∃a b p q,x= .ref a/\y= .ref b/\H a=some (.tup [.str p.1, .str p.2])/\H b=some (.tup [.str q.1, .str q.2])/\Q (.bl (ltP p q)) H
theorem zlM{p:Str×Str}(I:Inv X pins σ H s)(h:H a=some (.tup [.str p.1, .str p.2])):∃t1 t2 n dd sl,s.heap.get? a=some {cls:= .type "tuple",dict:=dd,data:= .seq #[.str p.1 t1, .str p.2 t2] n,slots:=sl}:=by
 obtain⟨_,its,rv,⟨o',g',c',n',d'⟩,_⟩:=(show ObjOk X.prog X.w H s.heap a (.tup [.str p.1, .str p.2])from I.hok a _ h)
 cases rv with
 |cons r1 rv=>cases rv with
  |cons r2 rv=>cases rv with
   |nil=>
    obtain⟨t1,rfl⟩:=r1
    obtain⟨t2,rfl⟩:=r2
    obtain⟨cls,dd,data,sl⟩:=o'
    simp only at c' d'
    subst c' d'
    exact⟨t1,t2,n',dd,sl,g'⟩
theorem zrU(hu:X.A.units<cLine):OpR X (compareOp .Lt) zsi:=by
 intro pins s σ H x y v u Q I rx ry h
 obtain⟨a,b,p,q,rfl,rfl,ha,hb,fin⟩:=h
 cases rx
 cases ry
 obtain⟨t1,t2,n,dd,sl,g1⟩:=zlM I ha
 obtain⟨t3,t4,n2,dd2,sl2,g2⟩:=zlM I hb
 exact richCompare_meets_room (op:= .Lt) ⟨_,g1,rfl⟩ ⟨_,g2,rfl⟩ F.slot_tuple_lt F.entry_tuple_lt (F.args_tuple_lt_2 _ _) (zg5 a b n n2 dd dd2 sl sl2 p.1 p.2 q.1 q.2 t1 t2 t3 t4)
  ⟨g1,g2,show Value.bool (ltP p q)≠Value.notImplemented/\EP X pins σ Q (.bool (ltP p q)) s from⟨(λx=>nomatch x),⟨.bl (ltP p q),H,I,rfl,fin⟩⟩⟩ hu
noncomputable def zs0:R2:=λx y H Q=>(∃i j,x= .str i/\y= .str j/\Q (.bl (ltS i j)) H)\/zsi x y H Q
theorem zr0(hu:X.A.units<cLine):OpR X (compareOp .Lt) zs0:=zmu.or (zrU hu)
noncomputable def zou(K:W.Frag):R2:=λx y H Q=>∃a b xs ys,x= .ref a/\y= .ref b/\SqT K H a xs/\SqT K H b ys/\xs.length+ys.length<=sizeLine/\
 (xs=[]->Q (.ref b) H)/\(xs≠ []->ys=[]->Q (.ref a) H)/\(xs≠ []->ys≠ []->∀p,H p=none->Q (.ref p) (upd H p (.tup (xs ++ys))))
theorem zcU:OpR X (binaryOp .Add) (zou X.K):=by
 intro pins s σ H x y v u Q I rx ry h
 obtain⟨a,b,xs,ys,rfl,rfl,ha,hb,hz,q0,q1,q2⟩:=h
 by_cases hx:xs=[]
 ·cases rx
  cases ry
  obtain⟨its,r1,p1,_⟩:=I.tuple ha
  obtain⟨its2,r2,p2,_⟩:=I.tuple hb
  have e1:its=[]:=r1.nil_iff.mpr hx
  obtain⟨⟨cls,dd,data,sl⟩,ho,hc,n,hd⟩:=id p1
  obtain⟨⟨cls2,dd2,data2,sl2⟩,ho2,hc2,n2,hd2⟩:=id p2
  simp only at hc hd hc2 hd2
  subst hc hd hc2 hd2
  exact concat_meets ⟨_,ho,rfl⟩ ⟨_,ho2,rfl⟩ noFill_tuple_add seq_tuple_add F.slot_tuple_add F.entry_tuple_add (F.args_tuple_add_2 _ _) (tuple_addW0 a b its.toArray its2.toArray n n2 dd dd2 sl sl2 (by simp[e1])) ⟨ho,ho2,⟨.ref b,H,I,rfl,q0 hx⟩⟩
 ·exact zp8 pins s σ H _ _ v u Q I rx ry ⟨a,b,xs,ys,rfl,rfl,ha,hb,hx,hz,q1 hx,q2 hx⟩
section
open PySem.AutoSeq1 (wpAny_loadPart')
end
theorem hu1(r:Room k A):A.units+1<cLine:=by have:=r.units;lia
section
variable{a b o i:Expr}{pt2:Pos}{kt k2:Nat}{ty:TE}
theorem zqz(m n:Nat)(hN:X.N.Nodup)(ha:QA X [a,b] ta)(hc:autoParam (X.calm=true) u4)(hi:autoParam (X.N[m]?=some x) u4)(hj:autoParam (X.N[n]?=some y) u4)(hij:autoParam (m≠n) u5)
 (hx:autoParam (X.env.scope.names.lookup x=some .local) u4) (hy:autoParam (X.env.scope.names.lookup y=some .local) u4)
 (hw:autoParam (swappedStores [.Tuple [.Name x px, .Name y py] kt pt] (.Tuple [a,b] k2 pt2) X.env=pure (some [x,y])) u4)
 (hs:autoParam (swapsWithSole [.Tuple [.Name x px, .Name y py] kt pt] (.Tuple [a,b] k2 pt2) pos.line X.env=pure false) u4):
 QS X (.Assign [.Tuple [.Name x px, .Name y py] kt pt] (.Tuple [a,b] k2 pt2) pos) (zsM m n ta):=⟨zrC hc hN hi hj hij hx hy ha.o hw hs⟩
theorem znx(hu:X.A.units+1<cLine)(ho:QE X o td)(hi:QE X i ty)(hv:QE X value tv)(hs:autoParam (swapsWith value (some (.Subscript o i pos')) pos.line X.env=pure false) u4):
 QS X (.Assign [.Subscript o i pos'] value pos) (zqI td ty tv):=⟨zp7 hu ho.o hi.o hv.o hs⟩
theorem zlB:QE X (.Dict [] [] pos) zoE:=⟨zon⟩
end
end
noncomputable def ltD:D->D->Bool
 | .str x, .str y=>ltS x y
 | .tup [.str a, .str b], .tup [.str c, .str d]=>ltP (a,b) (c,d)
 |_,_=>false
noncomputable def isStrD:D->Bool| .str _=>true|_=>false
noncomputable def zb3(ds:List D):Bool:=(List.range (ds.length -1)).all λk=>ltD (ds.getD k .non) (ds.getD (k+1) .non)
noncomputable def areHousesB:D->Bool| .tup ds=>decide (1<=ds.length)&&decide (ds.length<=10)&&ds.all zaw&&zb3 ds|_=>false
noncomputable def inD(hs:List Str):D->Bool| .str x=>hs.any λy=>decide (y=x)|_=>false
noncomputable def zP(hs:List Str)(d:D):Bool:=zaw d&&inD hs d
noncomputable def zcR:D->Bool| .tup ds=>decide (ds.length<=90)&&ds.all zaA|_=>false
noncomputable def zep:D->Bool| .tup ds=>decide (ds.length<=90)&&ds.all zcr|_=>false
noncomputable def zfB:D->List Str| .tup ds=>ds.filterMap (λd=>match d with| .str x=>some x|_=>none)|_=> []
noncomputable def zkF(g:D->Bool):D->Bool| .tup ds=>ds.all g|_=>false
theorem strs_map(xs:List Str):zfB (.tup (xs.map D.str))=xs:=by
 show(xs.map D.str).filterMap _=xs
 rw[List.filterMap_map]
 exact List.filterMap_some
theorem zgO:∀{ds:List D},ds.all zaw=true->∃xs:List Str,ds=xs.map D.str/\∀x∈xs,zg x=true
 |[],_=>⟨[],rfl,λ_ z=>nomatch z⟩
 |d::ds,h=>by
  rw[List.all_cons,L0] at h
  obtain⟨xs,rfl,hx⟩:=zgO h.2
  cases d with
  |str x=>exact ⟨x::xs,rfl,λy hy=>by
    rcases K0.mp hy with rfl|hy
    ·exact h.1
    ·exact hx y hy⟩
  |_=>exact absurd h.1 (by simp[zaw])
theorem zmk{xs:List Str}(h:xs.Pairwise (λa b=>ltS a b=true)):zb3 (xs.map D.str)=true:=by
 unfold zb3
 rw[V1]
 intro k hk
 have hk':k+1<xs.length:=by have:=U2.mp hk;rw[B0] at this;lia
 have e:∀i,i<xs.length->(xs.map D.str).getD i .non=D.str (xs.getD i ⟨#[]⟩):=λi hi=>by simp[List.getD,hi]
 rw[e k (),e (k+1) hk']
 show ltS _ _=true
 have:=List.pairwise_iff_getElem.mp h k (k+1) () hk' ()
 simpa[List.getD,hk',show k<xs.length by lia] using this
theorem zmg(z:Str)(n:Nat):(zgY z n).cps.toList=(List.replicate n z.cps.toList).flatten:=by
 unfold zgY
 have key:∀(k:Nat) (acc:Array Nat),((List.replicate k z.cps).foldl (·++·) acc).toList=acc.toList ++(List.replicate k z.cps.toList).flatten:=by
  intro k
  induction k with
  |zero=>intro acc;simp
  |succ k ih=>intro acc;rw[E3,List.foldl_cons,ih,E3,List.flatten_cons,Array.toList_append,List.append_assoc]
 have:=key n #[]
 simpa using this
theorem zda(c n:Nat):(zgY (one c) n).cps.toList=List.replicate n c:=by
 rw[zmg]
 show(List.replicate n [c]).flatten=_
 induction n with
 |zero=>rfl
 |succ n ih=>rw[E3,List.flatten_cons,ih,E3];rfl
noncomputable def zlA(x:Str):Bool:=x.cps.toList.all λc=>some c==x.cps.toList.head?
theorem zi4(c n:Nat):zlA (zgY (one c) n)=true:=by
 unfold zlA
 rw[zda]
 cases n with
 |zero=>rfl
 |succ n=>
  rw[V1]
  intro d hd
  rw[List.eq_of_mem_replicate hd]
  simp[E3]
noncomputable def zev:List Str:=["goal","to","by","houses","tie","like","hand","keep","put","mark","long","from","strike"]
theorem zpP:∀x∈zev,zg x=true:=`n4
theorem zmZ:∀x∈zev,zlA x=false:=`n4
theorem zqh:∀c∈zb9.cps.toList,∀k∈List.range 8,zg (zgY (one c) (k+1))=true:=`n4
theorem zjx:zb9.length=26:=`n4
theorem zgz:∀k∈List.range 26,zb9.cps.toList[k]?=some (97+k):=`n4
theorem zk5(c:Nat):(one c).length=1:=rfl
noncomputable def zoM:List Nat:=[1,3,5,7,9,11]
theorem zn7:∀f∈List.range 26,∀st∈zoM,((List.range 13).map λk=>(f+st*k)%26).Nodup:=`n4
noncomputable def nmS(f st k:Nat):Str:=zgY (one (97+(f+st*k)%26)) (1+(k*k+f)%8)
noncomputable def kwS(sp k:Nat):Str:=zev.getD ((sp+3*k)%13) ""
noncomputable def zbH(f st sp j k:Nat):Str:=if k<j then kwS sp k else nmS f st k
theorem zrn:∀sp∈List.range 13,((List.range 4).map λk=>kwS sp k).Nodup:=`n4
theorem zkh(sp k:Nat):kwS sp k∈zev:=by
 unfold kwS
 have h:(sp+3*k)%13<zev.length:=Nat.mod_lt _ ⋯
 simp[List.getD,h]
theorem znb{l:List α}(h:l.Nodup)(hi:i<l.length)(hj:j<l.length)(hij:i≠j):l[i]≠l[j]:=λz=>hij ((List.getElem_inj h).mp z)
theorem zjA{f st sp m:Nat}(hf:f<26)(hst:st∈zoM)(hsp:sp<13)(hj:j<=4)(hm:m<=13):((List.range m).map (zbH f st sp j)).Nodup:=by
 have key:∀a b,a<b->b<13->zbH f st sp j a≠zbH f st sp j b:=by
  intro a b hab hb
  unfold zbH
  by_cases h1:a<j
  ·rw[E1 h1]
   by_cases h2:b<j
   ·rw[E1 h2]
    have:=znb (zrn sp (U2.mpr hsp)) (i:=a) (j:=b) (by simp;lia) (by simp;lia) ()
    simpa using this
   ·rw[Y0 h2]
    intro z
    have e1:=zmZ _ (zkh sp a)
    rw[z] at e1
    unfold nmS at e1
    rw[zi4] at e1
    cases e1
  ·rw[Y0 h1,Y0 ()]
   intro z
   have hh:(nmS f st a).cps.toList.head?=(nmS f st b).cps.toList.head?:=by rw[z]
   unfold nmS at hh
   rw[zda,zda,Nat.add_comm 1,Nat.add_comm 1,E3,E3] at hh
   simp only[List.head?_cons,Option.some.injEq] at hh
   have:=znb (zn7 f (U2.mpr hf) st hst) (i:=a) (j:=b) (by simp;lia) (by simp;lia) ()
   simp at this
   lia
 rw[List.nodup_iff_pairwise_ne,List.pairwise_map]
 refine List.Pairwise.imp_of_mem (λ{a b} ha hb hab=>?_) (List.pairwise_lt_range (n:=m))
 exact key a b hab (by have:=U2.mp hb;lia)
theorem zr6(f st k:Nat):zg (nmS f st k)=true:=by
 unfold nmS
 rw[Nat.add_comm 1]
 have hr:(f+st*k)%26<26:=Nat.mod_lt _ ⋯
 exact zqh _ (U0 (zgz _ (U2.mpr hr))) _ (U2.mpr (Nat.mod_lt _ ⋯))
theorem zpk(f st sp j k:Nat):zg (zbH f st sp j k)=true:=by
 unfold zbH
 split
 ·exact zpP _ (zkh sp k)
 ·exact zr6 f st k
theorem zni{f st sp m:Nat}(hj:j<m):((List.range m).map (zbH f st sp j)).set j (kwS sp j)=(List.range m).map (zbH f st sp (j+1)):=by
 apply List.ext_getElem?
 intro i
 rw[List.getElem?_set]
 by_cases e:j=i
 ·subst e
  rw[E1 rfl,E1 (by simp;exact hj)]
  simp[hj,zbH]
 ·rw[Y0 e]
  rcases R1 i m with h|h
  ·rw[V0,V0,List.getElem?_range h]
   show some _=some _
   congr 1
   unfold zbH
   by_cases h1:i<j
   ·rw[E1 h1,E1 ()]
   ·rw[Y0 h1,Y0 ()]
  ·rw[G0 (by simpa using h),G0 (by simpa using h)]
theorem zpw{sp:Nat}:zev[(sp+3*k)%13]?=some (kwS sp k):=by
 unfold kwS
 have h:(sp+3*k)%13<zev.length:=Nat.mod_lt _ ⋯
 simp[List.getD,h]
theorem zdh{m:Nat}:za9 xs (some (m:Int)) none=xs.drop m:=by
 unfold za9
 have e1:sIx xs.length xs.length none=xs.length:=rfl
 have e2:sIx xs.length 0 (some (m:Int))=min m xs.length:=by
  unfold sIx
  have h:¬(m:Int)<0:=()
  simp only[Y0 h,N3]
 rw[e1,e2]
 rcases R1 m xs.length with h|h
 ·rw[Nat.min_eq_left (),List.take_of_length_le (by rw[D3];lia)]
 ·rw[Nat.min_eq_right h,List.drop_of_length_le (O0 _),List.drop_of_length_le h];simp
noncomputable def pairD(p:Str×Str):D:= .tup [.str p.1, .str p.2]
structure TownOk(g:Str)(hs:List Str)(ps:List (Str×Str))(lks hds:List D):Prop where
 rise:hs.Pairwise (λa b=>ltS a b=true)
 one:1<=hs.length
 ten:hs.length<=10
 names:∀x∈hs,zg x=true
 goal:g∈hs
 riseP:ps.Pairwise (λa b=>ltP a b=true)
 ties:∀p∈ps,p.1∈hs/\p.2∈hs/\ltS p.1 p.2=true
 ll:lks.length=hs.length
 lh:hds.length=hs.length
 likes:∀d∈lks,zcR d=true
 hands:∀d∈hds,zep d=true
noncomputable def zbA(g:Str)(hs:List Str)(ps:List (Str×Str))(lks hds:List D):D:= .tup [.str g, .tup (hs.map D.str), .tup (ps.map pairD), .tup lks, .tup hds]
theorem zgS{hs:List Str}(h:x∈hs)(hn:zg x=true):zP hs (.str x)=true:=by
 show(zg x&&hs.any λy=>decide (y=x))=true
 rw[hn,List.any_eq_true.mpr ⟨x,h,N0 rfl⟩];rfl
section
variable{es:List D}
theorem zjb(h:Dsp te σ H (.tup ds))(g:Dsp tf σ H (.tup es))(hl:ds.length+es.length<=1000):Dsp (tOp (zou K) te tf) σ H (.tup (ds ++es)):=λH1 Q s q=>
 h H1 _ s λv H2 s2 rv=>g H2 _ (s.trans s2) λu H3 s3 ru=>by
  obtain⟨p,vs,rfl,hp,r1,_⟩:=rv.ofT
  obtain⟨p',us,rfl,hp',r2,_⟩:=ru.ofT
  have hp3:=s3 _ _ hp
  have r13:=r1.mono (.of s3)
  refine⟨p,p',vs,us,rfl,rfl, .inl (.inl hp3), .inl (.inl hp'),Z2 (zl (by rw[r1.1,r2.1];exact hl)),λz=>?_,λ_ z=>?_,λ_ _ p2 hp2=>?_⟩
  ·have e:ds=[]:=by have:=r1.1;rw[z] at this;exact List.eq_nil_of_length_eq_zero this.symm
   subst e
   exact q _ H3 (s2.trans s3) ru
  ·have e:es=[]:=by have:=r2.1;rw[z] at this;exact List.eq_nil_of_length_eq_zero this.symm
   subst e
   have q':=q (.ref p) H3 (s2.trans s3)
   rw[List.append_nil] at q'
   exact q' (rv.same s3)
  ·exact q _ _ ((s2.trans s3).trans (Same.new hp2)) (.mkL zc (by rw[W0];exact hl) ((r13.append r2).mono (.new hp2)))
end
section
variable{es:List D}
theorem zdv{f:D->D}{g:D->Bool}{ok:Hp->Prop}{src:List (Option Nat)}{Q:VK}(wk:Wk J vs.length (λi x=>vs[i]?=some x) ok)(hok:∀H',Same H H'->ok H')(r:RepL H vs ds)(hl:ds.length<=900)(e:zeM src σ=none::σr)
 (hc:∀(x:V) (d:D) (H1:Hp) (Q1:Bool->Hp->Prop),Same H H1->Rep H1 x d->d∈ds->(∀H2,Same H1 H2->Q1 (g d) H2)->tc (some x::σr) H1 Q1)
 (he:∀(x:V) (d:D) (H1:Hp),Same H H1->Rep H1 x d->d∈ds->Dsp te (some x::σr) H1 (f d))
 (q:∀l us H',Same H H'->H l=none->H' l=some (.lst us)->RepL H' us ((ds.filter g).map f)->Q (.ref l) H'):zcG (za5 0) tc te src σ Q J H:=by
 refine zbv wk (λl i ys σ' H'=>(∃o,σ'=o::σr)/\RepL H' ys (((ds.take i).filter g).map f)/\Same H H') ?_ ?_ ?_ ?_
 ·exact λl h'=>⟨⟨none,e⟩,RepL.nil,Same.new h'⟩
 ·exact λl i ys σ' H' _ p=>hok H' p.2.2
 ·rintro l i y ys σ' H1 h' hi hy ⟨⟨o,rfl⟩,ry,s1⟩ hl'
  obtain⟨d,hd,rd⟩:=r.get hy
  refine hc y d H1 _ s1 (rd.same s1) (U0 hd) λH2 s2=>?_
  have tk:((ds.take (i+1)).filter g).map f=((ds.take i).filter g).map f ++([d].filter g).map f:=by
   rw[O3,hd,List.filter_append,J2];rfl
  rw[tk]
  cases hg:g d with
  |false=>
   have e0:([d].filter g).map f=[]:=by simp[hg]
   rw[e0,List.append_nil]
   exact⟨s2 _ _ hl',⟨_,rfl⟩,ry.mono (.of s2),s1.trans s2⟩
  |true=>
   have e0:([d].filter g).map f=[f d]:=by simp[hg]
   rw[e0]
   refine he y d H2 (s1.trans s2) ((rd.same s1).same s2) (U0 hd) H2 _ (Same.refl _) λv H3 s3 rv=>?_
   refine⟨s3 _ _ (s2 _ _ hl'),?_,⟨_,rfl⟩,?_,?_⟩
   ·have h1:=ry.1
    have h2:=G3 g (ds.take i)
    rw[B0] at h1
    rw[N2] at h2
    exact zl ()
   ·exact ((ry.mono (.of (s2.trans s3))).append (.cons rv .nil)).mono (.lset (s3 _ _ (s2 _ _ hl')))
   ·exact λc o e=>by
     rw[zj (zr e h')]
     exact s3 _ _ (s2 _ _ (s1 _ _ e))
 ·rintro l ys σ' H1 h' ⟨⟨o,rfl⟩,ry,s1⟩ hl'
  rw[r.1,X3] at ry
  exact q l ys H1 s1 h' hl' ry
end
theorem zbj{hs:List Str}(h:∀x∈hs,x.length<=1000):RepL H (hs.map V.str) (hs.map D.str):=by
 refine⟨by rw[B0,B0],λi v d hv hd=>?_⟩
 rw[V0] at hv hd
 cases e:hs[i]? with
 |none=>rw[e] at hv;cases hv
 |some x=>
  rw[e] at hv hd
  cases hv
  cases hd
  exact .str x (h x (U0 e))
theorem zje{α β:Type}{F:α->List β}{m:Nat}(hF:∀a,(F a).length<=m):∀l:List α,(l.flatMap F).length<=l.length*m
 |[]=>K2 _
 |a::l=>by
  rw[List.flatMap_cons,W0,O1,Nat.succ_mul]
  have:=zje hF l
  have:=hF a
  lia
inductive Tr(H:Hp):V->PyData->Prop
 |non:Tr H .non .none
 |bl (b:Bool):Tr H (.bl b) (.bool b)
 |int (i:Int):Tr H (.int i) (.int i)
 |str (x:Str) (h:PyData.strOk x=true):Tr H (.str x) (.str x)
 |tup {p:Addr} {vs:List V} {ds:List PyData} (e:H p=some (.tup vs)) (hl:vs.length=ds.length) (h:∀(i:Nat) (v:V) (d:PyData),vs[i]?=some v->ds[i]?=some d->Tr H v d):Tr H (.ref p) (.tuple ds)
 |lst {p:Addr} {vs:List V} {ds:List PyData} (e:H p=some (.lst vs)) (hl:vs.length=ds.length) (h:∀(i:Nat) (v:V) (d:PyData),vs[i]?=some v->ds[i]?=some d->Tr H v d):Tr H (.ref p) (.list ds)
theorem zd3{h:Heap}:∀{vs:List V} {us:List Value} {ds:List PyData},Vals vs us->vs.length=ds.length->(∀(i:Nat) (v:V) (d:PyData),vs[i]?=some v->ds[i]?=some d->∀u,RelV v u->∃as,Reads h u d as)->∃bs,ReadsAll h us ds bs
 |_,_,[], .nil,_,_=>⟨_, .nil⟩
 |v::vs,u::us,d::ds, .cons r t,hl,hh=>by
  obtain⟨as,ha⟩:=hh 0 v d rfl rfl u r
  obtain⟨bs,hb⟩:=zd3 t (by simpa using hl) λi v' d' h1 h2=>hh (i+1) v' d' h1 h2
  exact⟨_, .cons ha hb⟩
 |[],_,d::ds, .nil,hl,_=>by simp at hl
 |v::vs,u::us,[], .cons r t,hl,_=>by simp at hl
theorem Tr.reads(I:Inv X pins σ H s){x:V}{d:PyData}(t:Tr H x d):∀v,RelV x v->∃as,Reads s.heap v d as:=by
 induction t with
 |non=>intro v r;cases r;exact⟨_, .none⟩
 |bl b=>intro v r;cases r;exact⟨_, .bool b⟩
 |int i=>intro v r;obtain⟨t,rfl⟩:=r;exact⟨_, .int i t⟩
 |str x h=>intro v r;obtain⟨t,rfl⟩:=r;exact⟨_, .str x t⟩
 |tup e hl h ih=>
  intro v r
  cases r
  obtain⟨its,rv,⟨o,ho,hc,n,hd⟩,_⟩:=I.tuple (SqT.of e)
  obtain⟨bs,hb⟩:=zd3 (h:=s.heap) rv hl ih
  exact⟨_, .tuple ho hc hd (by simpa using hb)⟩
 |lst e hl h ih=>
  intro v r
  cases r
  obtain⟨its,n,rv,ho,_⟩:=I.lst e
  obtain⟨bs,hb⟩:=zd3 (h:=s.heap) rv hl ih
  exact⟨_, .list ho rfl rfl (by simpa using hb)⟩
theorem zfs:∀{vs:List V} {ds:List PyData},vs.length=ds.length->(∀(i:Nat) (v:V) (d:PyData),vs[i]?=some v->ds[i]?=some d->d.canLay0=true)->PyData.canLayAll0 ds=true
 |_,[],_,_=>rfl
 |v::vs,d::ds,hl,hh=>by
  rw[PyData.canLayAll0,hh 0 v d rfl rfl,zfs (vs:=vs) (ds:=ds) (by simpa using hl) λi v' d' h1 h2=>hh (i+1) v' d' h1 h2];rfl
 |[],d::ds,hl,_=>by simp at hl
theorem Tr.can{x:V}{d:PyData}(t:Tr H x d):d.canLay0=true:=by
 induction t with
 |non=>rfl
 |bl b=>rfl
 |int i=>rfl
 |str x h=>simp only[PyData.canLay0];exact h
 |tup e hl h ih=>rw[PyData.canLay0];exact zfs hl ih
 |lst e hl h ih=>rw[PyData.canLay0];exact zfs hl ih
noncomputable def zsL:R2:=λx y H Q=>∃d e,Tr H x d/\Tr H y e/\min d.depth e.depth<=60/\Q (.bl (d.eqv e)) H
noncomputable def zs3:R2:=λx y H Q=>∃d e,Tr H x d/\Tr H y e/\min d.depth e.depth<=60/\Q (.bl (!d.eqv e)) H
theorem zeP(hu:X.A.units+64<cLine):OpR X (compareOp .Eq) zsL:=by
 intro pins s σ H x y v u Q I rx ry h
 obtain⟨d,e,t1,t2,hd,q⟩:=h
 obtain⟨as,r1⟩:=t1.reads I v rx
 obtain⟨bs,r2⟩:=t2.reads I u ry
 exact SeqAt.compareEq_reads r1 r2 t1.can t2.can () ⟨.bl _,H,I,rfl,q⟩
theorem zb0(hu:X.A.units+64<cLine):OpR X (compareOp .NotEq) zs3:=by
 intro pins s σ H x y v u Q I rx ry h
 obtain⟨d,e,t1,t2,hd,q⟩:=h
 obtain⟨as,r1⟩:=t1.reads I v rx
 obtain⟨bs,r2⟩:=t2.reads I u ry
 exact SeqAt.compareNe_reads r1 r2 t1.can t2.can () ⟨.bl _,H,I,rfl,q⟩
noncomputable def zs5:R2:=λx y H Q=>∃d es,Tr H x d/\(Tr H y (.list es)\/Tr H y (.tuple es))/\d.depth<=60/\Q (.bl (es.any λy=>y.eqv d)) H
theorem znW(hu:X.A.units+64<cLine):OpR X (compareOp .In) zs5:=by
 intro pins s σ H x y v u Q I rx ry h
 obtain⟨d,es,t1,t2,hd,q⟩:=h
 obtain⟨as,r1⟩:=t1.reads I v rx
 rcases t2 with t2|t2
 ·obtain ⟨bs,r2⟩:=t2.reads I u ry
  have c:=t2.can
  rw[PyData.canLay0] at c
  exact SeqAt.in_list_reads r2 r1 c t1.can () ⟨.bl _,H,I,rfl,q⟩
 ·obtain ⟨bs,r2⟩:=t2.reads I u ry
  have c:=t2.can
  rw[PyData.canLay0] at c
  exact SeqAt.in_tuple_reads r2 r1 c t1.can () ⟨.bl _,H,I,rfl,q⟩
theorem zb8(r:Room k A):A.units+64<cLine:=by have:=r.un;lia
theorem zoa{α β:Type}{f:α->Option β}{g:α->β}:∀{l:List α},(∀a∈l,f a=some (g a))->l.filterMap f=l.map g
 |[],_=>rfl
 |a::l,h=>by rw[List.filterMap_cons,h a Z0,zoa λb hb=>h b (N1 _ hb)];rfl
theorem zjL(xs:Array Value):((List.range xs.size).filterMap λ(m:Nat)=>xs[((xs.size:Int) -1+(m:Int)* -1).toNat]?).toArray=xs.toList.reverse.toArray:=by
 congr 1
 refine List.ext_getElem? λi=>?_
 have e:((List.range xs.size).filterMap λ(m:Nat)=>xs[((xs.size:Int) -1+(m:Int)* -1).toNat]?)=(List.range xs.size).map λm=>xs[xs.size -1 -m]?.getD .none:=by
  refine zoa λm hm=>?_
  have hm':=U2.mp hm
  rw[show((xs.size:Int) -1+(m:Int)* -1).toNat=xs.size -1 -m by lia]
  have:xs.size -1 -m<xs.size:=()
  simp[this]
 rw[e,V0]
 rcases R1 i xs.size with h|h
 ·rw[List.getElem?_range h,List.getElem?_reverse (by simpa using h)]
  have:xs.size -1 -i<xs.size:=()
  simp[this]
 ·rw[G0 (by simpa using h),G0 (by simpa using h)];rfl
theorem getItem_tuple_rev{t:Addr}(ht:IsTup s.heap t items)(hs:s.heap.IsSliceOf sl .none .none (.int (-1) tk))
 (h:Q (.ref s.heap.objs.size) {s with heap:=s.heap.push {cls:= .type "tuple",data:= .seq items.toList.reverse.toArray}})
 (hsz:items.size<=sizeLine):wpAny `i4 A (getItem (.ref t) (.ref sl)) Q E s:=by
 have htake:sizeOk (.seq items.toList.reverse.toArray):=by
  show items.toList.reverse.toArray.size<=sizeLine
  rw[K1,List.length_reverse,j1]
  exact hsz
 obtain⟨os,hos,hcs,hds⟩:=id hs
 have hTs:s.TypeIs (.ref sl) "slice":=⟨os,hos,hcs⟩
 unfold getItem
 try with_reducible refine K3 ?_
 first|refine A0 (D0 ?_)|skip
 refine A0 (wpAny_sequenceKey ht.typeIs ⋯ ?_)
 refine A0 (B3 (name:=Str.ofString "__getitem__") ht.typeIs PyProof.Rows.slot_tuple_getitem
  (Q2 PyProof.Rows.slot_tuple_getitem ht.typeIs entry_tuple_getitem ?_ (args_tuple_getitem _ _)))
 show wpAny _ _ (Builtin.Tuple.tupleItemsOf (.ref t)>>=_) _ _ s
 refine A0 (tupleItemsOf_ ht ?_)
 refine A0 (wpAny_typeOf hTs ?_)
 rw[E1 ⋯]
 have happ:∀{A:Around} {R:Int×Int×Nat->Shared->Prop},R ((items.size:Int) -1,-1,items.size) s->wpAny `i4 A (Builtin.Slice.sliceApplied (.ref sl) (pure (items.size:Int))) R E s:=by
  intro A R hR
  unfold Builtin.Slice.sliceApplied Builtin.Slice.sliceFields
  refine A0 (A0 (wpAny_field hos hds (x:= .none) rfl (A0 (wpAny_field hos hds (x:= .none) rfl (A0 (wpAny_field hos hds (x:= .int (-1) tk) rfl (D0 ?_)))))))
  refine A0 (zcL (.int (-1) tk) ?_)
  show wpAny _ _ (if((-1:Int)==0)=true then _ else _) _ _ s
  rw[Y0 ⋯]
  refine A0 (zcL .none (A0 (zcL .none (A0 (D0 ?_)))))
  show wpAny _ _ (pure ((items.size:Int) -1,(-1:Int),Builtin.Slice.slicePlaces ((items.size:Int) -1) (-1) (-1))) _ _ s
  have hp:Builtin.Slice.slicePlaces ((items.size:Int) -1) (-1) (-1)=items.size:=by
   unfold Builtin.Slice.slicePlaces
   rw[Y0 ⋯,show(- -1:Int)=1 by decide,Int.ediv_one]
   split<;>lia
  rw[hp]
  exact D0 hR
 refine A0 (happ ?_)
 have hno:¬(((items.size:Int) -1==0&&(-1:Int)==1&&items.size==items.size)=true):=by
  intro q
  rw[L0,L0] at q
  exact absurd q.1.2 ⋯
 show wpAny _ _ (if((items.size:Int) -1==0&&(-1:Int)==1&&items.size==items.size)=true then _ else _) _ _ s
 rw[Y0 hno,zjL]
 first
  |exact A0 (m:=Builtin.Tuple.tupleExact _) (V2 (D0 ⟨_,rfl,D0 h⟩) htake)
  |exact A0 (m:=Builtin.Tuple.tupleExact _) (V2 (A0 (D0 (D0 ⟨_,rfl,D0 h⟩))) htake)
  |exact A0 (A0 (m:=Builtin.Tuple.tupleExact _) (V2 (D0 (D0 ⟨_,rfl,D0 h⟩)) htake))
  |exact A0 (A0 (m:=Builtin.Tuple.tupleExact _) (V2 (D0 ⟨_,rfl,D0 h⟩) htake))
section
variable{p1 p2:Pos}
noncomputable def zqV(K:W.Frag)(te:TE):TE:=λσ H Q=>te σ H λx H1=>∃a xs,x= .ref a/\SqT K H1 a xs/\∀p,H1 p=none->Q (.ref p) (upd H1 p (.tup xs.reverse))
theorem Vals.rev:∀{xs:List V} {us:List Value},Vals xs us->Vals xs.reverse us.reverse
 |_,_, .nil=> .nil
 |x::xs,u::us, .cons r t=>by
  rw[List.reverse_cons,List.reverse_cons]
  exact(Vals.rev t).append (.cons r .nil)
theorem zrR{st:Expr}(he:PE X e te)(hst:PE X st (tUn (rU λi=> .int (-i)) (tC (.int 1)))):PE X (.Subscript e (.Slice none none (some st) p2) pos) (zqV X.K te):=by
 intro pins s σ H Q I h
 refine Subscript_ (thn (he pins s σ H _ I h) λv s1 zq=>?_)
 obtain⟨x,H1,I1,r1,q1⟩:=zq
 refine wpAny_Slice ?_
 rw[evalPart_none,evalPart_some]
 refine D0 (D0 ?_)
 refine thn (hst pins s1 σ H1 (λy H2=>y= .int (-1)/\H2=H1) I1 ⟨1,rfl,rfl,rfl⟩) λvst s3 ⟨y,H3,I3,r3,ey,eh⟩=>?_
 subst ey eh
 obtain⟨tk,rfl⟩:=r3
 obtain⟨a,xs,rfl,hx,q⟩:=q1
 cases r1
 have I4:Inv X pins σ _ {s3 with heap:=s3.heap.push {cls:= .type "slice",data:= .fields #[.none, .none, .int (-1) tk]}}:=I3.kept (t':=s3.toks) λb ob q=>C0 _ q
 obtain⟨its,r,ht,hz⟩:=I4.tuple hx
 have hlen:its.toArray.size=xs.length:=by rw[K1];exact r.length.symm
 show wpAny `Y4 X.A (subscriptTail e (.Slice none none (some st) p2) (.ref a) (.ref s3.heap.objs.size)) (EP X pins σ Q) X.xe {s3 with heap:=s3.heap.push {cls:= .type "slice",data:= .fields #[.none, .none, .int (-1) tk]}}
 refine tail_any (ops:=[.ref a, .ref s3.heap.objs.size]) ht.typeIs PyProof.Rows.slot_tuple_getitem.lookup ?_ (by with_unfolding_all rfl)
 refine getItem_tuple_rev (tk:=tk) ht (Heap.IsSliceOf.new ..) ?_ (by rw[hlen];exact hz)
 refine⟨.ref _,_,I4.laid (t':=s3.toks) (o:= .tup xs.reverse) (λb ob q=>C0 _ q) (O0 _) ?_,rfl,q _ (I4.hok.fresh (O0 _))⟩
 exact⟨by rw[List.length_reverse];exact hz,_,r.rev,IsTup.new _ _,NoDict.new rfl (Q0 _ rfl)⟩
theorem zsc{st:Expr}(he:QE X e te)(hst:QE X st (tUn (rU λi=> .int (-i)) (tC (.int 1)))):QE X (.Subscript e (.Slice none none (some st) p2) pos) (zqV X.K te):=⟨zrR he.o hst.o⟩
end
theorem getItem_tuple_whole{t:Addr}(ht:IsTup s.heap t items)(hs:s.heap.IsSliceOf sl vl vu .none)(pl:IsPart vl lo)(pu:IsPart vu hi)
 (h1:sIx items.size 0 lo=0) (h2:sIx items.size items.size hi=items.size)
 (h:Q (.ref t) s):wpAny `i4 A (getItem (.ref t) (.ref sl)) Q E s:=by
 obtain⟨os,hos,hcs,hds⟩:=id hs
 have hTs:s.TypeIs (.ref sl) "slice":=⟨os,hos,hcs⟩
 unfold getItem
 try with_reducible refine K3 ?_
 first|refine A0 (D0 ?_)|skip
 refine A0 (wpAny_sequenceKey ht.typeIs ⋯ ?_)
 refine A0 (B3 (name:=Str.ofString "__getitem__") ht.typeIs PyProof.Rows.slot_tuple_getitem
  (Q2 PyProof.Rows.slot_tuple_getitem ht.typeIs entry_tuple_getitem ?_ (args_tuple_getitem _ _)))
 show wpAny _ _ (Builtin.Tuple.tupleItemsOf (.ref t)>>=_) _ _ s
 refine A0 (tupleItemsOf_ ht ?_)
 refine A0 (wpAny_typeOf hTs ?_)
 rw[E1 ⋯]
 refine A0 (zdr hs pl pu ?_)
 rw[h1,h2]
 show wpAny _ _ (if(((0:Nat):Int)==0&&(1:Int)==1&&(items.size -0)==items.size)=true then _ else _) _ _ s
 rw[E1 `n3]
 unfold Builtin.Tuple.tupleIsExact
 refine A0 (A0 (wpAny_typeOf ht.typeIs (D0 ?_)))
 rw[E1 ⋯]
 refine A0 (wpAny_rule ?_)
 exact D0 ⟨_,rfl,D0 h⟩
def zmq(K:W.Frag):V->Option Int->Option Int->Hp->VK->Prop:=λx lo hi H Q=>∃a xs,x= .ref a/\SqT K H a xs/\
 (za9 xs lo hi=xs->Q (.ref a) H)/\∀p,H p=none->Q (.ref p) (upd H p (.tup (za9 xs lo hi)))
theorem zbc:SlR X (zmq X.K):=by
 intro pins s σ H x v vl vu lo hi sl Q I rx hs pl pu h
 obtain⟨a,xs,rfl,hx,q1,q2⟩:=h
 by_cases hw:sIx xs.length 0 lo=0/\sIx xs.length xs.length hi=xs.length
 ·have rx':v= .ref a:=rx
  subst rx'
  obtain⟨its,r,ht,hz⟩:=I.tuple hx
  have hlen:its.toArray.size=xs.length:=by rw[K1];exact r.length.symm
  refine⟨"tuple",_,PyProof.Rows.slot_tuple_getitem.lookup,ht.typeIs,?_⟩
  refine getItem_tuple_whole ht hs pl pu (by rw[hlen];exact hw.1) (by rw[hlen];exact hw.2) ⟨.ref a,H,I,rfl,q1 ?_⟩
  unfold za9
  rw[hw.1,hw.2];simp
 ·exact zrD pins s σ H (.ref a) v vl vu lo hi sl Q I rx hs pl pu ⟨a,xs,rfl,hx,hw,q2⟩
theorem zjX(h:X.K=K):SlR X (zmq K):=by subst h;exact zbc
section
variable{es:List D}
theorem zls{tl:TO}(hv:σ[i]?=some (some v))(r:Rep H v (.tup ds))(hl:∀H1 (Q:Option Int->Hp->Prop),Q lo H1->tl σ H1 Q)(hh:∀H1 (Q:Option Int->Hp->Prop),Q hi H1->th σ H1 Q)
 (hc:∀vs:List V,vs.length=ds.length->∃m k,za9 vs lo hi=(vs.drop m).take k/\es=(ds.drop m).take k):Dsp (tSl (zmq K) (zfr i) tl th) σ H (.tup es):=λH1 Q s q=>by
 obtain⟨p,vs,rfl,hp,r1,b⟩:=(r.same s).ofT
 obtain⟨m,k,e1,e2⟩:=hc vs r1.1
 refine⟨_,hv,hl _ _ (hh _ _ ⟨p,vs,rfl, .inl (.inl hp),λz=>?_,λp2 hp2=>?_⟩)⟩
 ·refine q _ H1 (Same.refl _) ?_
  have e3:es=ds:=by
   rw[e2]
   rw[e1] at z
   have z1:=j3 List.length z
   rw[N2,D3,r1.1] at z1
   rcases Nat.eq_zero_or_pos m with rfl|hm
   ·rw[List.drop_zero]
    exact List.take_of_length_le ()
   ·have:ds=[]:=List.eq_nil_of_length_eq_zero ()
    subst this;simp
  rw[e3]
  exact .mkL hp b r1
 ·refine q _ _ (Same.new hp2) (.mkL zc (by rw[e2,N2,D3];lia) ?_)
  rw[e1,e2]
  exact((r1.drop m).take k).mono (.new hp2)
theorem zhn{Q:Option Int->Hp->Prop}(h:Q none H1):zb4 σ H1 Q:=h
theorem ziR{Q:Option Int->Hp->Prop}{i:Int}(h:Q (some i) H1):zjN (tC (.int i)) σ H1 Q:=⟨i,rfl,h⟩
theorem znz(hv:σ[i]?=some (some v))(r:Rep H v (.tup ds)):Dsp (tSl (zmq K) (zfr i) (zjN (tC (.int 1))) zb4) σ H (.tup (ds.drop 1)):=
 zls (lo:=some 1) (hi:=none) hv r (λ_ _ h=>ziR h) (λ_ _ h=>zhn h) λvs hl=>⟨1,vs.length,by rw[show(1:Int)=((1:Nat):Int)from rfl,zdh];exact(List.take_of_length_le (by rw[D3];lia)).symm,(List.take_of_length_le (by rw[D3];lia)).symm⟩
theorem zhx(hv:σ[i]?=some (some v))(r:Rep H v (.tup ds)):Dsp (tSl (zmq K) (zfr i) zb4 (zjN (tC (.int (n:Int))))) σ H (.tup (ds.take n)):=
 zls (lo:=none) (hi:=some (n:Int)) hv r (λ_ _ h=>zhn h) (λ_ _ h=>ziR h) λvs hl=>⟨0,n,by rw[zcF,List.drop_zero],by rw[List.drop_zero]⟩
theorem zoY(hv:σ[i]?=some (some v))(r:Rep H v (.tup ds)):Dsp (zqV K (zfr i)) σ H (.tup ds.reverse):=λH1 Q s q=>by
 obtain⟨p,vs,rfl,hp,r1,b⟩:=(r.same s).ofT
 refine⟨_,hv,p,vs,rfl, .inl (.inl hp),λp2 hp2=>q _ _ (Same.new hp2) (.mkL zc (by rw[List.length_reverse];exact b) ?_)⟩
 have rr:RepL H1 vs.reverse ds.reverse:=by
  refine⟨by rw[List.length_reverse,List.length_reverse];exact r1.1,λi v d h1 h2=>?_⟩
  have hi:i<vs.length:=by
   rcases R1 i vs.length with z|z
   ·exact z
   ·rw[G0 (by simpa using z)] at h1;cases h1
  have l1:=r1.1
  rw[List.getElem?_reverse hi] at h1
  rw[List.getElem?_reverse ()] at h2
  exact r1.2 _ v d h1 (by rw[l1];exact h2)
 exact rr.mono (.new hp2)
end
theorem zl5:∀x∈zev,x≠"nowhere":=`n4
theorem zmi:zlA "nowhere"=false:=`n4
theorem zmQ(f st sp j k:Nat):zbH f st sp j k≠"nowhere":=by
 unfold zbH
 split
 ·exact zl5 _ (zkh sp k)
 ·intro z
  have e:=zmi
  rw[←z] at e
  unfold nmS at e
  rw[zi4] at e
  cases e
section
variable{es:List D}{g:D->Bool}{lf:Addr}{m:Nat}
end
section
variable{x h t l a:D}
end
section
variable{es:List D}{g:D->Bool}{m:Nat}
theorem zbI(s:Same H H')(h:H' p=none):H p=none:=by
 cases e:H p with
 |none=>rfl
 |some o=>have:=s _ _ e;rw[h] at this;cases this
end
theorem zp(h:zg x=true):PyData.strOk x=true:=by
 unfold zg at h
 simp only[L0] at h
 have h2:=h.1.2
 unfold PyData.strOk
 rw[Array.all_eq_true']
 intro c hc
 have:=V1.mp h2 c (by simpa using hc)
 unfold za2 at this
 simp only[L0,decide_eq_true_eq] at this
 exact N0 ()
noncomputable def zbF(p:Str×Str):PyData:= .tuple [.str p.1, .str p.2]
theorem zle{p:Str×Str}(r:Rep H v (pairD p))(h1:zg p.1=true)(h2:zg p.2=true):Tr H v (zbF p):=by
 obtain⟨q,x,y,rfl,hq,r1,r2⟩:=r.of2
 cases r1 with|str _ _=>
 cases r2 with|str _ _=>
 refine .tup hq rfl λi v d e1 e2=>?_
 match i with
 |0=>cases e1;cases e2;exact .str _ (zp h1)
 |1=>cases e1;cases e2;exact .str _ (zp h2)
 |i+2=>cases e1
theorem zjC(r:Rep H v (.tup (ps.map pairD)))(h:∀p∈ps,zg p.1=true/\zg p.2=true):Tr H v (.tuple (ps.map zbF)):=by
 obtain⟨q,vs,rfl,hq,rl,_⟩:=r.ofT
 refine .tup hq (by rw[rl.1,B0,B0]) λi v d e1 e2=>?_
 rw[V0] at e2
 cases e:ps[i]? with
 |none=>rw[e] at e2;cases e2
 |some p=>
  rw[e] at e2
  cases e2
  exact zle (rl.2 i v (pairD p) e1 (by rw[V0,e];rfl)) (h p (U0 e)).1 (h p (U0 e)).2
theorem nodup_len{α:Type}[DecidableEq α]:∀{l m:List α},l.Nodup->(∀x∈l,x∈m)->l.length<=m.length
 |[],m,_,_=>K2 _
 |a::l,m,hn,hs=>by
  have ha:=hs a Z0
  have:=nodup_len (l:=l) (m:=m.erase a) (List.nodup_cons.mp hn).2 λx hx=>(List.mem_erase_of_ne (λz:x=a=>(List.nodup_cons.mp hn).1 (by rw[←z];exact hx))).mpr (hs x (N1 _ hx))
  rw[List.length_erase_of_mem ha] at this
  have:1<=m.length:=List.length_pos_of_mem ha
  rw[O1]
  lia
theorem TownOk.lp{hs:List Str}(T:TownOk g hs ps lks hds):ps.length<=100:=by
 have nd:ps.Nodup:=T.riseP.imp λ{a b} h z=>by rw[z,zib] at h;cases h
 have:=nodup_len (m:=hs.flatMap λa=>hs.map λb=>(a,b)) nd λp hp=>by
  obtain⟨h1,h2,_⟩:=T.ties p hp
  exact List.mem_flatMap.mpr ⟨p.1,h1,G1.mpr ⟨p.2,h2,rfl⟩⟩
 have h2:=zje (F:=λa=>hs.map λb=>(a,b)) (m:=10) (λa=>by rw[B0];exact T.ten) hs
 have:=T.ten
 lia
theorem TownOk.tn{hs:List Str}(T:TownOk g hs ps lks hds):∀p∈ps,zg p.1=true/\zg p.2=true:=λp hp=>⟨T.names _ (T.ties p hp).1,T.names _ (T.ties p hp).2.1⟩
theorem zN{b:Bool}{X:Prop}(h:b=true)(x:X):if b=true then X else Y:=by rw[E1 h];exact x
theorem zO{b:Bool}{X:Prop}(h:b=false)(y:Y):if b=true then X else Y:=by rw[Y0 (by rw[h];decide)];exact y
section
open PySem.W
theorem zjM{r:Addr}{o:Obj}{vs:List Value}{R:List Value->Shared->Prop}(hT:T="list"\/T="tuple")(ho:s.heap.get? r=some o)(hc:o.cls= .type T)(hd:o.data= .seq vs.toArray n)(hz:vs.length<=sizeLine)
 (q:∀(h':Heap),(∀b o,s.heap.get? b=some o->h'.get? b=some o)->s.heap.objs.size<h'.objs.size->R vs {s with heap:=h'}):wpAny `i4 A (collect (.ref r)) R E s:=by
 have lt:=X0 ho
 have hne:r≠s.heap.objs.size:=Z1 lt
 have g0:(s.heap.push {cls:= .type "list",data:= .seq ([]:List Value).toArray}).get? s.heap.objs.size=some (seqObj "list" #[] 0):=Q0 _ rfl
 have gr:(s.heap.push {cls:= .type "list",data:= .seq ([]:List Value).toArray}).get? r=some o:=C0 _ ho
 obtain⟨e1,g1⟩:∃e1,((s.heap.push {cls:= .type "list",data:= .seq ([]:List Value).toArray}).update s.heap.objs.size (Obj.mapSeq λx=>x ++vs.toArray)).get? s.heap.objs.size=some (seqObj "list" ((#[]:Array Value)++vs.toArray) e1):=⟨_,get?_update_seq g0 λx=>x ++vs.toArray⟩
 have u1:=W2 (s.heap.push {cls:= .type "list",data:= .seq ([]:List Value).toArray}) s.heap.objs.size (Obj.mapSeq λx=>x ++vs.toArray)
 unfold collect
 refine A0 (wpAny_runValue (Y3 entry_proto_collect' (by
  rw[L3 F.plain_proto_collect _]
  show wpAny _ A.in1 (newList []>>=λl=>again (.builtin "list.__iadd__" ⟨[l, .ref r],[]⟩)) _ _ s
  refine A0 (V2 (D0 ⟨plainId_quiet F.plain_list_iadd _,Y3 entry_list_iadd' (by
   rw[L3 F.plain_list_iadd _]
   show wpAny _ A.in1 (Builtin.List.listExtendWith (.ref s.heap.objs.size) (.ref r) (.ref s.heap.objs.size)) _ _ _
   unfold Builtin.List.listExtendWith
   have hty:({s with heap:=s.heap.push {cls:= .type "list",data:= .seq ([]:List Value).toArray}}:Shared).TypeIs (.ref r) T:=⟨o,gr,hc⟩
   refine A0 (wpAny_typeOf hty ?_)
   rw[E1 (by rcases hT with rfl|rfl<;>simp)]
   refine A0 (listItems_at gr hd (A0 (listItems_at g0 rfl ?_)))
   rw[Y0 `n3]
   refine A0 (listUpdate_at g0 rfl ?_ (K2 _) (by show((#[]:Array Value)++vs.toArray).size<=_;simp;lia))
   refine D0 ?_
   show wpAny _ A (load s.heap.objs.size>>=_) _ _ _
   refine A0 (wpAny_load g1 (D0 ?_))
   have ev:((#[]:Array Value)++vs.toArray).toList=vs:=`n3
   show R ((#[]:Array Value)++vs.toArray).toList _
   rw[ev]
   exact q _ (λb o e=>(u1.2 b (Z1 (X0 e))).trans (C0 _ e)) (X0 g1))⟩)))))
theorem zf4{o:Obj}{vs:List Value}(hT:T="list"\/T="tuple")(ho:s.heap.get? l=some o)(hc:o.cls= .type T)(hd:o.data= .seq vs.toArray n)(hS:StrsAre vs ss)(h64:vs.length<64)
 (q:∀(D:Addr) (out:Array Value) (ss':List Str) (h':Heap) (e:Nat),StrsAre out.toList ss'->ss'.Perm ss->sortedS ss'=true->(∀b o,s.heap.get? b=some o->h'.get? b=some o)->s.heap.objs.size<=D->h'.get? D=some (seqObj "list" out e)->Q (.ref D) {s with heap:=h'}):
 wpAny `i4 A (call (.builtin "sorted") [.ref l]) Q E s:=by
 refine Calls.call_function_entry kind_sorted plain_sorted entry_sorted (args_sorted1 _) ?_
 unfold Builtin.«sorted»
 refine A0 (m:=checkCount "sorted" 1 1 _) (D0 (A0 (zjM hT ho hc hd (by rw[sizeLine_eq];lia) λh1 kp gr0=>?_)))
 refine A0 (wpAny_newList ?_ (by show vs.length<=_;rw[sizeLine_eq];lia))
 have hD:(h1.push (seqObj "list" vs.toArray 0)).get? h1.objs.size=some (seqObj "list" vs.toArray 0):=Q0 _ rfl
 have k2:∀b o,s.heap.get? b=some o->(h1.push (seqObj "list" vs.toArray 0)).get? b=some o:=λb o e=>C0 _ (kp b o e)
 have gr:s.heap.objs.size<=h1.objs.size:=Z2 gr0
 show wpAny _ _ _ _ _ {s with heap:=h1.push (seqObj "list" vs.toArray 0)}
 refine A0 (K3 (Q2 slot_list_sort ⟨_,hD,rfl⟩ entry_list_sort (list_sort_treeK strKind_oneLt (s:={s with heap:=h1.push (seqObj "list" vs.toArray 0)}) hD hS.keysOf (λv1 v2 rest e=>?_) h64 λst' hp hs=>?_) (args_list_sort _)))
 ·subst e
  exact keyKind_strs hS
 ·obtain ⟨ss',a1,a2,a3⟩:=sorted_out_str hS hp hs
  obtain⟨e,he⟩:=sortedHeap_at (h:=h1.push (seqObj "list" vs.toArray 0)) (vs:=vs) (out:=Array.map (λx=>x.snd) (arrOf st')) hD
  refine⟨_,rfl,D0 ⟨_,rfl,q h1.objs.size _ ss' _ e a1 a2 a3 (λb o hb=>?_) gr he⟩⟩
  have lb:=X0 hb
  rw[sortedHeap_old (Z1 (E2 lb gr)) (X0 (k2 b o hb))]
  exact k2 b o hb
def zqb(K:W.Frag):List V->Hp->VK->Prop:=λxs H Q=>∃(p:Addr) (ss:List Str),xs=[.ref p]/\(SqL K H p (ss.map V.str)\/SqT K H p (ss.map V.str))/\ss.length<64/\∀(ss':List Str) l,ss'.Perm ss->sortedS ss'=true->H l=none->Q (.ref l) (upd H l (.lst (ss'.map V.str)))
theorem zcq:CallR X (.builtin "sorted") (zqb X.K):=by
 intro pins s σ H xs us Q I r h
 obtain⟨p,ss,rfl,hq,h64,q⟩:=h
 obtain⟨u,rfl,ru⟩:=zb7 r
 cases ru
 have key:∀{its:List Value} {T:String} {o:Obj} {n:Nat},T="list"\/T="tuple"->s.heap.get? p=some o->o.cls= .type T->o.data= .seq its.toArray n->Vals (ss.map V.str) its->wpAny `Y4 X.A (call (.builtin "sorted") [.ref p]) (EP X pins σ Q) X.xe s:=by
  intro its T o n hT ho hc hd rv
  have hS:=zbZ rv
  have hl:=rv.length
  rw[B0] at hl
  refine zf4 hT ho hc hd hS () λD out ss' h' e a1 a2 a3 kp hD he=>?_
  refine⟨.ref D,_,I.laid (a:=D) (o:= .lst (ss'.map V.str)) (t':=s.toks) kp hD ⟨?_,out.toList,e,?_,?_⟩,rfl,q ss' D a2 a3 (I.hok.fresh hD)⟩
  ·rw[B0,a2.length_eq];exact Z2 (zl ())
  ·have mk:∀{vs:List Value} {zs:List Str},StrsAre vs zs->Vals (zs.map V.str) vs:=by
    intro vs zs h
    induction h with
    |nil=>exact .nil
    |cons x t _ ih=>exact .cons ⟨t,rfl⟩ ih
   exact mk a1
  ·rw[Array.toArray_toList];exact he
 rcases hq with hq|hq
 ·obtain ⟨its,rv,pl,hz⟩:=I.list hq
  obtain⟨o,ho,hc,n,hd⟩:=pl.isList
  exact key (.inl rfl) ho hc hd rv
 ·obtain ⟨its,rv,pl,hz⟩:=I.tuple hq
  obtain⟨o,ho,hc,n,hd⟩:=pl
  exact key (.inr rfl) ho hc hd rv
end
def HsAt(H:Hp)(v:V)(hs:List Str):Prop:=∃p,v= .ref p/\H p=some (.tup (hs.map V.str))/\hs.length<=10/\∀x∈hs,zg x=true
theorem HsAt.same{hs:List Str}(h:HsAt H v hs)(s:Same H H'):HsAt H' v hs:=let⟨p,e,g,r⟩:=h;⟨p,e,s _ _ g,r⟩
theorem zdx{hs:List Str}:inV (.str x) (hs.map V.str)=hs.any λy=>decide (y=x):=by
 unfold inV
 rw[List.any_map]
 congr 1
theorem zbX{hs:List Str}:(hs.map V.str).all ze3=true:=by
 rw[List.all_map,V1]
 exact λ_ _=>rfl
theorem zaC{xs:List Str}(h:Rep H v (.tup (xs.map D.str))):∃p,v= .ref p/\H p=some (.tup (xs.map V.str)):=by
 obtain⟨p,vs,rfl,hp,r,_⟩:=h.ofT
 refine⟨p,rfl,?_⟩
 have e:vs=xs.map V.str:=by
  apply List.ext_getElem?
  intro i
  rcases R1 i xs.length with hi|hi
  ·have hv:i<vs.length:=by rw[r.1,B0];exact hi
   have:=r.2 i vs[i] (.str xs[i]) (by simp[hv]) (by simp[hi])
   rw[F0 hv,V0,F0 hi]
   generalize vs[i]=z at this
   cases this
   rfl
  ·rw[G0 (by rw[r.1,B0];exact hi),G0 (by rw[B0];exact hi)]
 rw[←e];exact hp
theorem ze6{d1 d2 d3 d4 d5:D}(h:Rep H v (.tup [d1,d2,d3,d4,d5])):∃p x1 x2 x3 x4 x5,v= .ref p/\H p=some (.tup [x1,x2,x3,x4,x5])/\Rep H x1 d1/\Rep H x2 d2/\Rep H x3 d3/\Rep H x4 d4/\Rep H x5 d5:=by
 obtain⟨p,vs,rfl,hp,r,_⟩:=h.ofT
 match vs,r with
 |[x1,x2,x3,x4,x5],r=>exact ⟨p,x1,x2,x3,x4,x5,rfl,hp,r.head.1,r.head.2.head.1,r.head.2.head.2.head.1,r.head.2.head.2.head.2.head.1,r.head.2.head.2.head.2.head.2.head.1⟩
 |[],r=>exact absurd r.1 `n3
 |[_],r=>exact absurd r.1 `n3
 |[_,_],r=>exact absurd r.1 `n3
 |[_,_,_],r=>exact absurd r.1 `n3
 |[_,_,_,_],r=>exact absurd r.1 `n3
 |_::_::_::_::_::_::_,r=>exact absurd r.1 `n3
def zrs(H:Hp)(v:V)(g:Str)(hs:List Str)(ps:List (Str×Str))(lks hds:List D):Prop:=∃p pr pt pl pa vt vl va,v= .ref p/\H p=some (.tup [.str g, .ref pr, .ref pt, .ref pl, .ref pa])/\H pr=some (.tup (hs.map V.str))/\H pt=some (.tup vt)/\RepL H vt (ps.map pairD)/\H pl=some (.tup vl)/\RepL H vl lks/\H pa=some (.tup va)/\RepL H va hds
theorem zbL{hs:List Str}(h:Rep H v (zbA g hs ps lks hds)):zrs H v g hs ps lks hds:=by
 obtain⟨p,x1,x2,x3,x4,x5,rfl,hp,r1,r2,r3,r4,r5⟩:=ze6 h
 cases r1 with|str _ _=>
 obtain⟨pr,rfl,hpr⟩:=zaC r2
 obtain⟨pt,vt,rfl,hpt,rt,_⟩:=r3.ofT
 obtain⟨pl,vl,rfl,hpl,rl,_⟩:=r4.ofT
 obtain⟨pa,va,rfl,hpa,ra,_⟩:=r5.ofT
 exact⟨p,pr,pt,pl,pa,vt,vl,va,rfl,hp,hpr,hpt,rt,hpl,rl,hpa,ra⟩
noncomputable def zaR(ps:List (Str×Str))(x:Str):List Str:=(ps.filter λp=>decide (p.2=x)).map (·.1)++(ps.filter λp=>decide (p.1=x)).map (·.2)
theorem zbd:y∈zaR ps x↔(y,x)∈ps\/(x,y)∈ps:=by
 unfold zaR
 rw[X1,G1,G1]
 constructor
 ·rintro (⟨⟨a,b⟩,h,rfl⟩|⟨⟨a,b⟩,h,rfl⟩)
  ·obtain ⟨h1,h2⟩:=X2.mp h
   have h2:b=x:=R0 h2
   subst h2
   exact .inl h1
  ·obtain ⟨h1,h2⟩:=X2.mp h
   have h2:a=x:=R0 h2
   subst h2
   exact .inr h1
 ·rintro (h|h)
  ·exact .inl ⟨(y,x),X2.mpr ⟨h,N0 rfl⟩,rfl⟩
  ·exact .inr ⟨(x,y),X2.mpr ⟨h,N0 rfl⟩,rfl⟩
theorem TownOk.ps_nd{hs:List Str}(T:TownOk g hs ps lks hds):ps.Nodup:=T.riseP.imp λ{a b} h z=>by rw[z,zib] at h;cases h
theorem TownOk.hs_nd{hs:List Str}(T:TownOk g hs ps lks hds):hs.Nodup:=T.rise.imp λ{a b} h z=>by rw[z,ziw] at h;cases h
theorem zqj{hs:List Str}(T:TownOk g hs ps lks hds)(x:Str):(zaR ps x).Nodup:=by
 have nd:=T.ps_nd
 unfold zaR
 rw[List.nodup_append]
 refine⟨?_,?_,?_⟩
 ·rw[List.nodup_iff_pairwise_ne,List.pairwise_map]
  refine List.Pairwise.imp_of_mem (λ{a b} ha hb hab z=>?_) (nd.filter _)
  have h1:a.2=x:=R0 (X2.mp ha).2
  have h2:b.2=x:=R0 (X2.mp hb).2
  exact hab (Prod.ext z (h1.trans h2.symm))
 ·rw[List.nodup_iff_pairwise_ne,List.pairwise_map]
  refine List.Pairwise.imp_of_mem (λ{a b} ha hb hab z=>?_) (nd.filter _)
  have h1:a.1=x:=R0 (X2.mp ha).2
  have h2:b.1=x:=R0 (X2.mp hb).2
  exact hab (Prod.ext (h1.trans h2.symm) z)
 ·intro y hy z hz e
  subst e
  obtain⟨a,ha,rfl⟩:=G1.mp hy
  obtain⟨b,hb,eb⟩:=G1.mp hz
  obtain⟨ha1,ha2⟩:=X2.mp ha
  obtain⟨hb1,hb2⟩:=X2.mp hb
  have h1:a.2=x:=R0 ha2
  have h2:b.1=x:=R0 hb2
  have l1:=(T.ties a ha1).2.2
  have l2:=(T.ties b hb1).2.2
  rw[h1] at l1
  rw[h2,eb] at l2
  have:=zgf l1
  rw[l2] at this
  cases this
theorem zqd{hs:List Str}(T:TownOk g hs ps lks hds)(h:y∈zaR ps x):y∈hs:=by
 rcases zbd.mp h with h|h
 ·exact (T.ties _ h).1
 ·exact (T.ties _ h).2.1
theorem znS{hs:List Str}(T:TownOk g hs ps lks hds)(x:Str):(zaR ps x).length<=10:=J1 (nodup_len (zqj T x) λy hy=>zqd T hy) T.ten
theorem zjn{x y:D}{r:List D}:zb3 (x::y::r)=(ltD x y&&zb3 (y::r)):=by
 unfold zb3
 show(List.range (r.length+1)).all _=_
 rw[List.range_succ_eq_map,List.all_cons,List.all_map]
 rfl
theorem zhi:∀(xs:List Str),zb3 (xs.map D.str)=true->xs.Pairwise (λa b=>ltS a b=true)
 |[],_=> .nil
 |[x],_=>List.pairwise_singleton _ _
 |x::y::r,h=>by
  rw[Y1,Y1,zjn,L0] at h
  have ih:=zhi (y::r) h.2
  have hxy:ltS x y=true:=h.1
  refine List.pairwise_cons.mpr ⟨λz hz=>?_,ih⟩
  rcases K0.mp hz with rfl|hz
  ·exact hxy
  ·exact zfq hxy ((List.pairwise_cons.mp ih).1 z hz)
theorem zko(hp:ss.Perm ws)(hs:sortedS ss=true):zb3 (ss.map D.str)=decide ws.Nodup:=by
 rw[G2,P0]
 constructor
 ·intro h
  have:=zhi ss h
  exact hp.nodup_iff.mp (this.imp λ{a b} h z=>by rw[z,ziw] at h;cases h)
 ·intro h
  exact zmk (zhY ss hs (hp.nodup_iff.mpr h))
noncomputable def zpd(g:Str)(ps:List (Str×Str))(ws:List Str):Bool:=decide (ws.getLast?=some g)&&decide ws.Nodup&&(List.range (ws.length -1)).all λk=>decide (ws.getD (k+1) ""∈zaR ps (ws.getD k ""))
noncomputable def zbq(g:Str)(hs:List Str)(ps:List (Str×Str))(d:D):Bool:=zaN d 1 hs.length&&zkF (zP hs) d&&zpd g ps (zfB d)
theorem zee{hs:List Str}:∀{ds:List D},ds.all (zP hs)=true->∃ws:List Str,ds=ws.map D.str/\∀x∈ws,x∈hs
 |[],_=>⟨[],rfl,λ_ z=>nomatch z⟩
 |d::ds,h=>by
  rw[List.all_cons,L0] at h
  obtain⟨ws,rfl,hw⟩:=zee h.2
  cases d with
  |str x=>
   have h1:=h.1
   have h2:(zg x&&hs.any λy=>decide (y=x))=true:=h1
   rw[L0] at h2
   obtain⟨y,hy,e⟩:=List.any_eq_true.mp h2.2
   have e:y=x:=R0 e
   subst e
   refine⟨y::ws,rfl,λz hz=>?_⟩
   rcases K0.mp hz with rfl|hz
   ·exact hy
   ·exact hw z hz
  |_=>cases h.1
structure WayOk(g:Str)(hs:List Str)(ps:List (Str×Str))(ws:List Str):Prop where
 nd:ws.Nodup
 mem:∀x∈ws,x∈hs
 last:∃w0,ws=w0 ++ [g]
 tied:∀(i:Nat) (a b:Str),ws[i]?=some a->ws[i+1]?=some b->b∈zaR ps a
theorem WayOk.one{hs:List Str}(h:g∈hs):WayOk g hs ps [g] where
 nd:=`n3
 mem:=λx hx=>by rw[c0.mp hx];exact h
 last:=⟨[],rfl⟩
 tied:=λi a b h1 h2=>by cases h2
theorem WayOk.more{hs:List Str}{w0:Str}(W:WayOk g hs ps (w0::ws))(hx:x∈hs)(hn:x∉w0::ws)(ht:w0∈zaR ps x):WayOk g hs ps (x::w0::ws) where
 nd:=List.nodup_cons.mpr ⟨hn,W.nd⟩
 mem:=λy hy=>by
  rcases K0.mp hy with rfl|hy
  ·exact hx
  ·exact W.mem y hy
 last:=by obtain⟨v,e⟩:=W.last;exact⟨x::v,by rw[e];rfl⟩
 tied:=λi a b h1 h2=>by
  cases i with
  |zero=>cases h1;cases h2;exact ht
  |succ i=>exact W.tied i a b h1 h2
theorem WayOk.len{hs:List Str}(W:WayOk g hs ps ws):1<=ws.length/\ws.length<=hs.length:=by
 constructor
 ·obtain ⟨v,rfl⟩:=W.last
  simp
 ·exact nodup_len W.nd W.mem
theorem WayOk.ok{hs:List Str}(W:WayOk g hs ps ws)(hn:∀x∈hs,zg x=true):zbq g hs ps (.tup (ws.map D.str))=true:=by
 obtain⟨l1,l2⟩:=W.len
 unfold zbq
 have e1:zaN (.tup (ws.map D.str)) 1 hs.length=true:=by
  show(decide ((1:Int)<=((ws.map D.str).length:Int))&&decide (((ws.map D.str).length:Int)<=(hs.length:Int)))=true
  rw[B0,N0 (),N0 ()];rfl
 have e2:zkF (zP hs) (.tup (ws.map D.str))=true:=by
  show(ws.map D.str).all (zP hs)=true
  rw[List.all_map,V1]
  exact λx hx=>zgS (W.mem x hx) (hn x (W.mem x hx))
 rw[e1,e2,strs_map]
 unfold zpd
 have e3:ws.getLast?=some g:=by obtain⟨v,rfl⟩:=W.last;simp
 rw[N0 e3,N0 W.nd,V1.mpr λk hk=>?_];rfl
 have hk':=U2.mp hk
 refine N0 (W.tied k _ _ ?_ ?_)
 ·simp[List.getD,show k<ws.length by lia]
 ·simp[List.getD,show k+1<ws.length by lia]
theorem zoW{hs:List Str}(h:zaN d 1 hs.length=false):zbq g hs ps d=false:=by
 unfold zbq;rw[h];rfl
theorem zpK{hs:List Str}(h:zkF (zP hs) d=false):zbq g hs ps d=false:=by
 unfold zbq;rw[h];simp
theorem zeZ{sel:Str×Str->Bool}{f:Str×Str->Str}{ok:Hp->Prop}{g:TG}{src:List (Option Nat)}{Q:VK}(Iv:St->Prop)(wk:Wk J vs.length (λi x=>vs[i]?=some x) ok)(hok:∀H',Same H H'->ok H')(r:RepL H vs (ps.map pairD))(hl:ps.length<=900)(h0:Iv (zeM src σ))
 (hs:∀(q:Addr) (p:Str×Str) (σ':St) (H1:Hp) (A:V->Hp->St->Prop) (B:St->Hp->Prop),Iv σ'->Same H H1->H1 q=some (.tup [.str p.1, .str p.2])->p∈ps->(∀σ2,Iv σ2->if sel p=true then A (.str (f p)) H1 σ2 else B σ2 H1)->g (.ref q) σ' H1 λσ2 H3=>tc σ2 H3 λb H4=>if b=true then te σ2 H4 (λy H5=>A y H5 σ2)else B σ2 H4)
 (q:∀l H',Same H H'->H l=none->H' l=some (.lst (((ps.filter sel).map f).map V.str))->Q (.ref l) H'):zcG g tc te src σ Q J H:=by
 refine zbv wk (λl i ys σ' H'=>Iv σ'/\ys=(((ps.take i).filter sel).map f).map V.str/\Same H H') ?_ ?_ ?_ ?_
 ·exact λl h'=>⟨h0,rfl,Same.new h'⟩
 ·exact λl i ys σ' H' _ p=>hok H' p.2.2
 ·rintro l i y ys σ' H1 h' hi hy ⟨iv,rfl,s1⟩ hl'
  obtain⟨d,hd,rd⟩:=r.get hy
  rw[V0] at hd
  cases hp:ps[i]? with
  |none=>rw[hp] at hd;cases hd
  |some p=>
   rw[hp] at hd
   cases hd
   obtain⟨q,x,y,rfl,hq,r1,r2⟩:=(rd.same s1).of2
   cases r1 with|str _ _=>
   cases r2 with|str _ _=>
   refine hs q p σ' H1 (λy H5 σ2=>H5 l=some (.lst ((((ps.take i).filter sel).map f).map V.str))/\((((ps.take i).filter sel).map f).map V.str).length<sizeLine/\Iv σ2/\(((ps.take i).filter sel).map f).map V.str ++ [y]=(((ps.take (i+1)).filter sel).map f).map V.str/\Same H (upd H5 l (.lst ((((ps.take i).filter sel).map f).map V.str ++ [y])))) (λσ2 H4=>H4 l=some (.lst ((((ps.take i).filter sel).map f).map V.str))/\Iv σ2/\(((ps.take i).filter sel).map f).map V.str=(((ps.take (i+1)).filter sel).map f).map V.str/\Same H H4) iv s1 hq (U0 hp) λσ2 iv2=>?_
   have tk:((ps.take (i+1)).filter sel)=((ps.take i).filter sel)++ [p].filter sel:=by rw[O3,hp,List.filter_append];rfl
   cases hsel:sel p with
   |false=>
    refine zO rfl ⟨hl',iv2,?_,s1⟩
    rw[tk]
    simp[hsel]
   |true=>
    refine zN rfl ⟨hl',?_,iv2,?_,?_⟩
    ·rw[B0,B0]
     have h2:=G3 sel (ps.take i)
     rw[N2] at h2
     exact zl ()
    ·rw[tk]
     simp[hsel]
    ·exact λc o e=>by
      rw[zj (zr e h')]
      exact s1 _ _ e
 ·rintro l ys σ' H1 h' ⟨iv,rfl,s1⟩ hl'
  have e:ps.length=vs.length:=by rw[r.1,B0]
  rw[←e,X3] at hl'
  exact q l H1 s1 h' hl'
theorem zdz{g:D->Bool}{ok:Hp->Prop}{src:List (Option Nat)}{Q:VK}(wk:Wk J vs.length (λi x=>vs[i]?=some x) ok)(hok:∀H',Same H H'->ok H')(r:RepL H vs ds)(hl:ds.length<=1000)(e:zeM src σ=none::σr)
 (he:∀(x:V) (d:D) (H1:Hp) (Q1:VK),Same H H1->Rep H1 x d->d∈ds->(∀H2,Same H1 H2->Q1 (.bl (g d)) H2)->te (some x::σr) H1 Q1)
 (q:∀l H',Same H H'->H l=none->H' l=some (.lst ((ds.map g).map V.bl))->Q (.ref l) H'):zcG (za5 0) zoK te src σ Q J H:=by
 refine zbv wk (λl i ys σ' H'=>(∃o,σ'=o::σr)/\ys=((ds.take i).map g).map V.bl/\Same H H') ?_ ?_ ?_ ?_
 ·exact λl h'=>⟨⟨none,e⟩,rfl,Same.new h'⟩
 ·exact λl i ys σ' H' _ p=>hok H' p.2.2
 ·rintro l i y ys σ' H1 h' hi hy ⟨⟨o,rfl⟩,rfl,s1⟩ hl'
  obtain⟨d,hd,rd⟩:=r.get hy
  refine he y d H1 _ s1 (rd.same s1) (U0 hd) λH2 s2=>?_
  refine⟨s2 _ _ hl',?_,⟨_,rfl⟩,?_,?_⟩
  ·rw[B0,B0,N2]
   exact zl ()
  ·rw[O3,hd]
   simp
  ·exact λc o e=>by
    rw[zj (zr e h')]
    exact s2 _ _ (s1 _ _ e)
 ·rintro l ys σ' H1 h' ⟨⟨o,rfl⟩,rfl,s1⟩ hl'
  rw[r.1,X3] at hl'
  exact q l H1 s1 h' hl'
theorem znd(h:zaN d 1 n=true):∃ds,d= .tup ds/\1<=ds.length/\ds.length<=n:=by
 cases d with
 |tup ds=>
  simp[zaN] at h
  exact⟨ds,rfl,(),()⟩
 |_=>cases h
theorem zqX{hs:List Str}{w0:List Str}{z:Str}(h1:zaN (.tup ((w0 ++ [z]).map D.str)) 1 hs.length=true)(h2:((w0 ++ [z]).map D.str).all (zP hs)=true):zbq g hs ps (.tup ((w0 ++ [z]).map D.str))=(decide (z=g)&&decide (w0 ++ [z]).Nodup&&(List.range ((w0 ++ [z]).length -1)).all λk=>decide ((w0 ++ [z]).getD (k+1) ""∈zaR ps ((w0 ++ [z]).getD k ""))):=by
 unfold zbq
 have h3:zkF (zP hs) (.tup ((w0 ++ [z]).map D.str))=true:=h2
 rw[h1,h3,strs_map]
 unfold zpd
 have e:(decide ((w0 ++ [z]).getLast?=some g))=decide (z=g):=by
  rw[List.getLast?_append]
  simp
 rw[e];rfl
theorem zfv{us:List V}{xs:List Str}(r:RepL H us (xs.map D.str)):us=xs.map V.str:=by
 apply List.ext_getElem?
 intro i
 rcases R1 i xs.length with hi|hi
 ·have hv:i<us.length:=by rw[r.1,B0];exact hi
  have:=r.2 i us[i] (.str xs[i]) (by simp[hv]) (by simp[hi])
  rw[F0 hv,V0,F0 hi]
  generalize us[i]=z at this
  cases this
  rfl
 ·rw[G0 (by rw[r.1,B0];exact hi),G0 (by rw[B0];exact hi)]
noncomputable def zdX(ps:List (Str×Str))(x:Str):List Str:=(ps.filter λp=>decide (p.1=x)).map (·.2)++(ps.filter λp=>decide (p.2=x)).map (·.1)
theorem zot(h:y∈zdX ps x):(x,y)∈ps\/(y,x)∈ps:=by
 unfold zdX at h
 rw[X1,G1,G1] at h
 rcases h with⟨⟨a,b⟩,h,rfl⟩|⟨⟨a,b⟩,h,rfl⟩
 ·obtain ⟨h1,h2⟩:=X2.mp h
  have h2:a=x:=R0 h2
  subst h2
  exact .inl h1
 ·obtain ⟨h1,h2⟩:=X2.mp h
  have h2:b=x:=R0 h2
  subst h2
  exact .inr h1
theorem zn2(ps:List (Str×Str))(x:Str):(zdX ps x).length<=2*ps.length:=by
 unfold zdX
 rw[W0,B0,B0]
 have h1:=G3 (λp:Str×Str=>decide (p.1=x)) ps
 have h2:=G3 (λp:Str×Str=>decide (p.2=x)) ps
 lia
noncomputable def znN(ws:List Str):D->Bool| .str x=>!(ws.any λy=>decide (y=x))|_=>false
theorem zjR{xs:List Str}:(xs.map D.str).filter (znN ws)=(xs.filter λx=>!(ws.any λy=>decide (y=x))).map D.str:=by
 rw[List.filter_map];rfl
noncomputable def zal(xs:List Str):List PyData:=xs.map PyData.str
theorem zlm{xs:List Str}(e:H l=some (.lst (xs.map V.str)))(h:∀x∈xs,PyData.strOk x=true):Tr H (.ref l) (.list (zal xs)):=by
 refine .lst e (by unfold zal;rw[B0,B0]) λi v d e1 e2=>?_
 unfold zal at e2
 rw[V0] at e1 e2
 cases e3:xs[i]? with
 |none=>rw[e3] at e1;cases e1
 |some x=>
  rw[e3] at e1 e2
  cases e1
  cases e2
  exact .str x (h x (U0 e3))
theorem zgv(e:H l=some (.lst [])):Tr H (.ref l) (.list []):= .lst e rfl λi v d z=>by cases z
section
variable{es:List D}
end
theorem zhz(h:zg x=true):x.length<=8:=by
 unfold zg at h
 simp only[L0,decide_eq_true_eq] at h
 lia
section
variable{es:List D}
end
theorem ziN{p q:Str×Str}:(zbF p).eqv (zbF q)=decide (p=q):=by
 unfold zbF
 rw[PyData.eqv,PyData.eqvAll,PyData.eqvAll,PyData.eqvAll,PyData.eqv,PyData.eqv]
 obtain⟨a,b⟩:=p
 obtain⟨c,d⟩:=q
 rw[G2,P0,Prod.mk.injEq]
 simp
theorem zja{q:Str×Str}:((ps.map zbF).any λz=>z.eqv (zbF q))=decide (q∈ps):=by
 rw[List.any_map,G2,P0,List.any_eq_true]
 constructor
 ·rintro ⟨p,hp,e⟩
  have e:(zbF p).eqv (zbF q)=true:=e
  rw[ziN] at e
  rw[←R0 e];exact hp
 ·exact λh=>⟨q,h,by show(zbF q).eqv (zbF q)=true;rw[ziN];exact N0 rfl⟩
theorem zgA(p:Str×Str):(zbF p).depth<=60:=by
 unfold zbF
 rw[PyData.depth,PyData.depthAll,PyData.depthAll,PyData.depthAll,PyData.depth,PyData.depth];decide
theorem znV(e:H p=some (.tup [.str x, .str y]))(h1:zg x=true)(h2:zg y=true):Tr H (.ref p) (zbF (x,y)):=
 zle (p:=(x,y)) (.mk2 e (.str x (J1 (zhz h1) ⋯)) (.str y (J1 (zhz h2) ⋯))) h1 h2
theorem zd6:∀{xs ys:List Str},PyData.eqvAll (zal xs) (zal ys)=decide (xs=ys)
 |[],[]=>by unfold zal;rw[List.map_nil,PyData.eqvAll];rfl
 |[],y::ys=>by unfold zal;rw[List.map_nil,Y1,PyData.eqvAll];rfl
 |x::xs,[]=>by unfold zal;rw[List.map_nil,Y1,PyData.eqvAll];rfl
 |x::xs,y::ys=>by
  have ih:=zd6 (xs:=xs) (ys:=ys)
  unfold zal at ih⊢
  rw[Y1,Y1,PyData.eqvAll,PyData.eqv,ih,G2,P0,List.cons.injEq]
  simp
theorem ziU{xs ys:List Str}:(PyData.list (zal xs)).eqv (.list (zal ys))=decide (xs=ys):=by
 rw[PyData.eqv,zd6]
theorem zeB:∀{xs:List Str},PyData.depthAll (zal xs)<=1
 |[]=>by unfold zal;rw[List.map_nil,PyData.depthAll];decide
 |x::xs=>by
  have ih:=zeB (xs:=xs)
  unfold zal at ih⊢
  rw[Y1,PyData.depthAll,PyData.depth]
  lia
structure FunD(K:W.Frag)(x qual:Str)(st:Stmt)(f:Addr)(fd:FuncData):Prop where
 ex:∃(oc:Value) (od:Option Addr) (dt:Addr) (kV doc pm:Value) (an:Option Addr) (cdv ct:Value) (osl:Array (Option Value)) (od2:Option Addr) (n2:Nat) (sl2:Array (Option Value)),
  fd=W.fnOf x qual (zbm st) (zaS st) (zU st) (.ref dt) kV doc pm an cdv ct/\K.lookup f=some ⟨oc,od, .func fd,osl⟩/\W.codeIn K cdv qual=true/\K.lookup dt=some ⟨.type "tuple",od2, .seq #[.none] n2,sl2⟩
 kp:W.keepIn K (.ref f)=true
section
variable{mg:Str->Option Value}
theorem FunD.okQ{st:Stmt}{ps:List Str}(F:FunD K x qual st f fd)(S:FnScope N ps (zU st))(len:∀vs H Q E,sp vs H Q E->vs.length=ps.length)
 (hbody:∀(cdv:Value) (A:Around) (outer:List Env) (s:Shared) (H:Hp) (vs:List V) (Q:VK) (E:XK),Room k (A.deeper (envOfC qual (zU st) s.heap.objs.size f cdv))->sp vs H Q E->
   ∃t,QB (zav CX0 P w K mg base N qual (zU st) f cdv A outer s H E).nox (zaS st) t/\t {nx:=λ_ H'=>Q .non H',rt:=Q} (zet N vs) H):FnOk P w K mg base CX0 (k+1) f fd ps sp:=by
 obtain⟨oc,od,dt,kV,doc,pm,an,cdv,ct,osl,od2,n2,sl2,rfl,lk,hcd,ld⟩:=F.ex
 refine zqG lk hcd S len λA outer s H vs Q E hr hsp=>?_
 obtain⟨t,h,q⟩:=hbody cdv A outer s H vs Q E hr hsp
 exact⟨t,h.o.nox,q⟩
theorem zim{st:Stmt}{kV:Value}(l:K.lookup f=some ⟨oc,od, .func (W.fnOf x qual (zbm st) (zaS st) (zU st) (.ref dt) kV doc pm an cdv ct),osl⟩)
 (ld:K.lookup dt=some ⟨.type "tuple",od2, .seq #[.none] n2,sl2⟩) (c:W.codeIn K cdv qual=true) (k:W.keepIn K (.ref f)=true):FunD K x qual st f (W.fnOf x qual (zbm st) (zaS st) (zU st) (.ref dt) kV doc pm an cdv ct):=⟨⟨oc,od,dt,kV,doc,pm,an,cdv,ct,osl,od2,n2,sl2,rfl,l,c,ld⟩,k⟩
theorem FunD.binds{st:Stmt}{ps:List Str}{ds:List Value}(F:FunD K x qual st f fd)(m:Nat)(hm:ps.length=m+ds.length)
 (h:∀(dt:Addr) (kV doc pm:Value) (an:Option Addr) (cdv ct:Value) (us:List Value),us.length=m->∃k:Option (Array Value)->Sem (List (Str×Value)),bindArgs (W.fnOf x qual (zbm st) (zaS st) (zU st) (.ref dt) kV doc pm an cdv ct) ⟨us,[]⟩=seqItems? (.ref dt)>>=k/\k (some #[.none])=pure (ps.zip (us ++ds))):Binds K fd ps ds:=by
 obtain⟨oc,od,dt,kV,doc,pm,an,cdv,ct,osl,od2,n2,sl2,rfl,lk,hcd,ld⟩:=F.ex
 intro s us kin hl
 obtain⟨k,e1,e2⟩:=h dt kV doc pm an cdv ct us (by rw[W0] at hl;lia)
 exact BindsTo.of_defaults (T:=dt) rfl (kin _ _ ld) rfl e1 e2
end
structure AtD(K:W.Frag)(mg:Str->Option Value)(x:Str)(st:Stmt)(ps:List Str)(f:Addr)(fd:FuncData):Prop where
 fn:FunD K x x st f fd
 b:Binds K fd ps []
 bd:Binds K fd ps [.none]
 mg:mg x=some (.ref f)
 kp:W.keepIn K (.ref f)=true
variable{mg:Str->Option Value}
noncomputable def zam(O:List Str):D->Bool| .tup [_, .str x]=>decide (x∈O)|_=>true
noncomputable def zbW(O:List Str):D->Bool| .tup [.str w,e]=>if w="not"then zam O e else zam O (.tup [.str w,e])|_=>true
noncomputable def zpp(O:List Str):D->Bool| .tup ds=>ds.all (zbW O)|_=>true
noncomputable def zgp(O:List Str):D->Bool| .tup [c,t]=>zpp O c&&zam O t|_=>true
noncomputable def zc3(O:List Str):D->Bool| .tup ds=>ds.all (zgp O)|_=>true
structure Pool(hs:List Str)(lks hds:List D)(O:List Str):Prop where
 few:O.length<=14
 nm:∀x∈O,zg x=true
 hs:∀x∈hs,x∈O
 lk:∀d∈lks,zc3 O d=true
 hd:∀d∈hds,zc3 O d=true
variable{hs:List Str}
noncomputable def zke(O:List Str)(d:D):Bool:=zaA d&&zgp O d
noncomputable def zkp(O:List Str)(d:D):Bool:=zcr d&&zgp O d
theorem zbf{O:List Str}{y:D}(h:x∈O):zam O (.tup [y, .str x])=true:=N0 h
theorem zit{O:List Str}{w:Str}{e:D}(h:zR (.tup [.str w,e])=true)(hp:zam O (.tup [.str w,e])=true):zbW O (.tup [.str w,e])=true:=by
 show(if w="not"then _ else _)=true
 by_cases z:w="not"
 ·subst z;rw[zdp] at h;cases h
 ·rw[Y0 z];exact hp
theorem zmw{O:List Str}(h:zR d=true)(hp:zam O d=true):zbW O d=true:=by
 obtain⟨x,e,rfl⟩:=zcE d h
 exact zit h hp
theorem zkN{O:List Str}(hp:zam O d=true):zbW O (.tup [.str "not",d])=true:=by
 show(if("not":Str)="not"then zam O d else zam O (.tup [.str "not",d]))=true
 rw[E1 rfl];exact hp
theorem zhN{O:List Str}{t:D}(h:∀d∈ds,zbW O d=true)(ht:zam O t=true):zgp O (.tup [.tup ds,t])=true:=by
 show(ds.all (zbW O)&&zam O t)=true
 rw[V1.mpr h,ht];rfl
noncomputable def phB(ws ms:List Str)(to:Option Str)(w:Str)(x:D):Bool:=
 if w="by"then (match x with| .str y=>ws.any λz=>decide (z=y)|_=>false)
 else if w="from"then (match x with| .str y=>decide (ws[1]?=some y)|_=>false)
 else if w="to"then (match x with| .str y=>decide (to=some y)|_=>false)
 else if w="mark"then (match x with| .str y=>ms.any λz=>decide (z=y)|_=>false)
 else(match x with| .int i=>decide (i<(ws.length:Int))|_=>false)
noncomputable def zcH(ws ms:List Str)(to:Option Str):D->Bool| .tup [.str w,x]=>phB ws ms to w x|_=>false
noncomputable def zbg(ws ms:List Str)(to:Option Str):D->Bool| .tup [.str w,x]=>if w="not"then !zcH ws ms to x else phB ws ms to w x|_=>false
def TO0(v:V)(to:Option Str):Prop:=(v= .non/\to=none)\/∃x,v= .str x/\to=some x/\zg x=true
theorem zay{e:D}(h:zR (.tup [.str x,e])=true):(x="long"/\∃i:Int,e= .int i/\0<=i/\i<=99)\/(x∈zck/\∃y,e= .str y/\zg y=true):=by
 rw[ze0] at h
 by_cases z:x="long"
 ·rw[E1 z] at h
  cases e with
  |int i=>
   have h:(decide (0<=i)&&decide (i<=99))=true:=h
   rw[L0,P0,P0] at h
   exact .inl ⟨z,i,rfl,h.1,h.2⟩
  |_=>cases h
 ·rw[Y0 z,L0] at h
  obtain⟨h1,h2⟩:=h
  obtain⟨y,hy,ey⟩:=List.any_eq_true.mp h1
  have ey:y=x:=R0 ey
  subst ey
  cases e with
  |str y'=>exact .inr ⟨hy,y',rfl,h2⟩
  |_=>cases h2
theorem zeX(h:x∈zck):x="by"\/x="from"\/x="to"\/x="mark":=by
 unfold zck at h
 simpa using h
theorem zqt{to:Option Str}:phB ws ms to "by" (.str y)=ws.any λz=>decide (z=y):=by
 unfold phB;rw[E1 rfl]
theorem zlc{to:Option Str}:phB ws ms to "from" (.str y)=decide (ws[1]?=some y):=by
 unfold phB;rw[Y0 `n4,E1 rfl]
theorem zqs{to:Option Str}:phB ws ms to "to" (.str y)=decide (to=some y):=by
 unfold phB;rw[Y0 `n4,Y0 `n4,E1 rfl]
theorem zir{to:Option Str}:phB ws ms to "mark" (.str y)=ms.any λz=>decide (z=y):=by
 unfold phB;rw[Y0 `n4,Y0 `n4,Y0 `n4,E1 rfl]
theorem zk6{to:Option Str}{i:Int}:phB ws ms to "long" (.int i)=decide (i<(ws.length:Int)):=by
 unfold phB;rw[Y0 `n4,Y0 `n4,Y0 `n4,Y0 `n4]
theorem TO0.eq{to:Option Str}(h:TO0 v to):zqS v (.str y)=true/\decide (v= .str y)=decide (to=some y):=by
 rcases h with⟨rfl,rfl⟩|⟨x,rfl,rfl,_⟩
 ·exact ⟨rfl,rfl⟩
 ·refine ⟨rfl,?_⟩
  rw[zab,G2,P0,P0,Option.some.injEq]
noncomputable def eqD(y:Str):D->Bool| .str z=>decide (z=y)|_=>false
theorem zhO{us:List V}(r:RepL H us (((ws.map D.str).filter (eqD y)).map λd=>d)):decide ((0:Int)<(us.length:Int))=ws.any λz=>decide (z=y):=by
 have l:=r.1
 rw[B0,List.filter_map,B0] at l
 rw[l,G2,P0,List.any_eq_true]
 constructor
 ·intro h
  have h:0<(ws.filter (eqD y∘D.str)).length:=()
  obtain⟨z,hz⟩:=List.exists_mem_of_length_pos h
  obtain⟨h1,h2⟩:=X2.mp hz
  exact⟨z,h1,h2⟩
 ·rintro ⟨z,h1,h2⟩
  have:=List.length_pos_of_mem (X2.mpr ⟨h1,h2⟩:z∈ws.filter (eqD y∘D.str))
  lia
theorem zaG{xs:List Str}(e:H p=some (.tup (xs.map V.str)))(h:∀x∈xs,PyData.strOk x=true):Tr H (.ref p) (.tuple (zal xs)):=by
 refine .tup e (by unfold zal;rw[B0,B0]) λi v d e1 e2=>?_
 unfold zal at e2
 rw[V0] at e1 e2
 cases e3:xs[i]? with
 |none=>rw[e3] at e1;cases e1
 |some x=>
  rw[e3] at e1 e2
  cases e1
  cases e2
  exact .str x (h x (U0 e3))
theorem zaT{xs ys:List Str}:(PyData.tuple (zal xs)).eqv (.tuple (zal ys))=decide (xs=ys):=by
 rw[PyData.eqv,zd6]
theorem zad{xs:List Str}:(PyData.tuple (zal xs)).depth<=60:=by
 have:=zeB (xs:=xs)
 rw[PyData.depth]
 lia
theorem zoC(h:1<=xs.length):za9 xs (some 1) (some 2)=(xs.drop 1).take 1:=by
 unfold za9 sIx
 simp only[show¬((1:Int)<0) by lia,show¬((2:Int)<0) by lia,if_false]
 rcases R1 1 xs.length with z|z
 ·rw[show min (Int.toNat 1) xs.length=1 by lia,show min (Int.toNat 2) xs.length=2 by lia]
 ·match xs,h,z with
  |[a],_,_=>rfl
  |[],h,_=>exact absurd h `n3
  |_::_::_,_,z=>exact absurd z `n3
theorem zmW:decide ((ws.drop 1).take 1=[y])=decide (ws[1]?=some y):=by
 rw[G2,P0,P0]
 match ws with
 |[]=>simp
 |[a]=>simp
 |a::b::r=>simp
theorem TO0.notN{to:Option Str}(h:TO0 v to):(v= .non/\to=none)\/∃x,v= .str x/\to=some x:=h.imp id λ⟨x,a,b,_⟩=>⟨x,a,b⟩
noncomputable def ze2(c:D->Bool)(g:List Str->List Str->Option Str->D->Bool):Sp:=λvs H Q _=>∃(v:V) (d:D) (pw pm:Addr) (vt:V) (ws ms:List Str) (to:Option Str),vs=[v, .ref pw, .ref pm,vt]/\Rep H v d/\c d=true/\H pw=some (.tup (ws.map V.str))/\H pm=some (.tup (ms.map V.str))/\TO0 vt to/\(∀x∈ws,zg x=true)/\(∀x∈ms,zg x=true)/\1<=ws.length/\ws.length<=100/\ms.length<=100/\∀H',Same H H'->Q (.bl (g ws ms to d)) H'
theorem ziW{c:D}(h:zbl c=true):∃cs,c= .tup cs/\cs.length<=4/\∀d∈cs,zT d=true:=by
 cases c with
 |tup cs=>
  rw[ziM,L0] at h
  exact⟨cs,rfl,R0 h.1,V1.mp h.2⟩
 |_=>cases h
theorem zoe{f:D->D->Bool}(h:(match d with| .tup [c,x]=>f c x|_=>false)=true):∃c x,d= .tup [c,x]/\f c x=true:=by
 split at h
 ·exact ⟨_,_,rfl,h⟩
 ·cases h
theorem zfo(h:zaA d=true):∃cs x,d= .tup [.tup cs,x]/\cs.length<=4/\(∀c∈cs,zT c=true)/\(x= .non\/∃i,x= .int i):=by
 unfold zaA at h
 obtain⟨c,x,rfl,h⟩:=zoe (f:=λc x=>zbl c&&zdm x&&!zf7 c) h
 rw[L0,L0] at h
 obtain⟨cs,rfl,h4,hc⟩:=ziW h.1.1
 refine⟨cs,x,rfl,h4,hc,?_⟩
 have hx:=h.1.2
 cases x with
 |non=>exact .inl rfl
 |int i=>exact .inr ⟨i,rfl⟩
 |_=>cases hx
theorem znj{x:D}(h:zcI x=true):(x= .tup [.str "keep"])\/∃w y,x= .tup [.str w, .str y]/\(w="put"\/w="strike")/\zg y=true:=by
 unfold zcI at h
 split at h
 ·rename_i w
  exact .inl (by rw[R0 h])
 ·rename_i w y
  rw[L0,Bool.or_eq_true] at h
  have h2:=h.2
  cases y with
  |str y=>exact .inr ⟨w,y,rfl,h.1.imp R0 R0,h2⟩
  |_=>cases h2
 ·cases h
theorem zlp(h:zcr d=true):∃cs x,d= .tup [.tup cs,x]/\cs.length<=4/\(∀c∈cs,zT c=true)/\zcI x=true:=by
 unfold zcr at h
 obtain⟨c,x,rfl,h⟩:=zoe (f:=λc x=>zbl c&&zcI x) h
 rw[L0] at h
 obtain⟨cs,rfl,h4,hc⟩:=ziW h.1
 exact⟨cs,x,rfl,h4,hc,h.2⟩
theorem zmU{O:List Str}{cs:List D}{t:D}(h:zgp O (.tup [.tup cs,t])=true):(∀c∈cs,zbW O c=true)/\zam O t=true:=by
 have h:(cs.all (zbW O)&&zam O t)=true:=h
 rw[L0] at h
 exact⟨V1.mp h.1,h.2⟩
section
variable{es:List D}
end
theorem zfS:∀{vs:List Value} {ys:List Str},StrsAre vs ys->vs.length=ys.length/\∀(i:Nat) (y:Str),ys[i]?=some y->∃t,vs[i]?=some (.str y t)
 |_,_, .nil=>⟨rfl,λi y h=>by simp at h⟩
 |_,_, .cons y t r=>by
  obtain⟨h1,h2⟩:=zfS r
  refine⟨by simp[h1],λi z h=>?_⟩
  cases i with
  |zero=>cases h;exact⟨t,rfl⟩
  |succ i=>exact h2 i z h
theorem index_tup{t:Addr}{ys:List Str}(ht:IsTup s.heap t items)(hS:StrsAre items.toList ys)(hj:ys[j]?=some x)(hb:∀i<j,ys[i]?≠some x)
 (h:∀(t':Tok) (k:Nat),Q (.int j t') {s with toks:=k}):wpAny `i4 A (call (.builtin "tuple.index") [.ref t, .str x tk]) Q E s:=by
 refine Q2 F.slot_tuple_index ht.typeIs F.entry_tuple_index ?_ (F.args_tuple_index_2 _ _)
 unfold Builtin.«tuple.index»
 refine A0 (m:=selfAndSome "tuple.index" "index" 1 3 _) (D0 ?_)
 dsimp only
 refine A0 (tupleItemsOf_ ht ?_)
 refine A0 (D0 ?_)
 refine A0 (D0 ?_)
 obtain⟨hl,hg⟩:=zfS hS
 have hjn:j<items.size:=by
  rw[←j1,hl]
  rcases R1 j ys.length with z|z
  ·exact z
  ·rw[G0 z] at hj;cases hj
 rw[Std.Legacy.Range.forIn_eq_forIn_range']
 refine A0 (wpAny_forIn_list _ (λl b s'=>∃i,l=List.range' i (items.size -i) 1/\i<=j/\b=(none,Unit.unit)/\s'=s) _ ?_ ?_ _ _ ?_)
 ·rintro a rest b s' ⟨i,el,hij,rfl,rfl⟩
  obtain⟨m,em⟩:∃m,items.size -i=m+1:=⟨items.size -i -1,()⟩
  rw[em,List.range'_succ] at el
  have ea:=(List.cons.inj el).1
  have er:=(List.cons.inj el).2
  subst er
  rw[ea]
  have hiy:i<ys.length:=by rw[←hl,j1];lia
  obtain⟨t1,e1⟩:=hg i ys[i] (by simp[hiy])
  have e2:items[i]?=some (.str ys[i] t1):=by rw[←Array.getElem?_toList];exact e1
  rw[e2]
  dsimp only
  refine A0 (wpAny_eqBool_str ?_)
  rcases R1 i j with z|z
  ·have ne:¬ys[i]=x:=λy=>hb i z (by rw[←y];simp[hiy])
   rw[A1 ne]
   exact D0 ⟨i+1,by rw[show items.size -(i+1)=m by lia],(),rfl,rfl⟩
  ·have ei:i=j:=()
   subst ei
   have ey:ys[i]=x:=by
    have:ys[i]?=some ys[i]:=by simp[hiy]
    rw[this] at hj;exact U1 hj
   rw[N0 ey]
   refine A0 (m:=retInt _) (A0 (wpAny_mkInt (D0 (D0 ?_))))
   exact D0 ⟨_,rfl,h _ _⟩
 ·rintro b s' ⟨i,el,hij,rfl,rfl⟩
  have:=j3 List.length el
  rw[List.length_range',List.length_nil] at this
  lia
 ·exact ⟨0,by simp[Std.Legacy.Range.size],K2 _,rfl,rfl⟩
theorem zfg{d:Addr}{x:Value}(y:s.heap.IsTupleIter it d i)(ht:s.heap.IsTuple d items)(hx:items[i]?=some x)
 (q:∀h',h'.IsTupleIter it d (i+1)->Heap.SameBut it s.heap h'->Q x {s with heap:=h'}):wpAny `i4 A (Builtin.SmallTypes.nextOf (.ref it)) Q E s:=by
 obtain⟨o,ho,hc,hd⟩:=id y
 obtain⟨od,hod,hcd,n,hdd⟩:=id ht
 unfold Builtin.SmallTypes.nextOf
 refine A0 (B3 (name:=Str.ofString "__next__") ⟨o,ho,hc⟩ F.slot_tuple_iterator_next (Q2 F.slot_tuple_iterator_next ⟨o,ho,hc⟩ F.entry_tuple_iterator_next ?_ (F.args_tuple_iterator_next_1 _)))
 show wpAny _ _ (slotArgs "__next__" 0 _>>=_) _ _ s
 refine A0 (m:=slotArgs "__next__" 0 _) (D0 ?_)
 dsimp only
 refine A0 (wpAny_field ho hd (x:= .ref d) rfl ?_)
 rw[Y0 (λz=>nomatch z)]
 refine A0 (wpAny_field ho hd (x:= .int i 0) rfl ?_)
 dsimp only
 rw[seqItems?.eq_1]
 refine A0 (A0 (wpAny_load hod ?_))
 rw[hdd]
 refine D0 ?_
 dsimp only
 rw[N3,hx]
 dsimp only
 refine A0 (wpAny_setField ho hd `n3 ?_)
 refine D0 ⟨_,rfl,D0 (q _ ⟨_,Heap.get?_update_self _ ho (Obj.isFreed_of_fields (Obj.data_mapFields hd _)),(Obj.cls_mapFields ..).trans hc,?_⟩ (W2 ..))⟩
 rw[Obj.data_mapFields hd];simp[rawInt]
theorem zfE{d:Addr}(hh:A.handled=none)(y:s.heap.IsTupleIter it d i)(ht:s.heap.IsTuple d items)(hx:items[i]?=none)
 (q:∀(h':Heap) (e:Addr),Heap.ExtBut it s.heap h'->(∃o,h'.get? e=some o/\o.cls= .type "StopIteration")->E (.ref e) {s with heap:=h'}):wpAny `i4 A (Builtin.SmallTypes.nextOf (.ref it)) Q E s:=by
 obtain⟨o,ho,hc,hd⟩:=id y
 obtain⟨od,hod,hcd,n,hdd⟩:=id ht
 unfold Builtin.SmallTypes.nextOf
 refine A0 (B3 (name:=Str.ofString "__next__") ⟨o,ho,hc⟩ F.slot_tuple_iterator_next (Q2 F.slot_tuple_iterator_next ⟨o,ho,hc⟩ F.entry_tuple_iterator_next ?_ (F.args_tuple_iterator_next_1 _)))
 show wpAny _ _ (slotArgs "__next__" 0 _>>=_) _ _ s
 refine A0 (m:=slotArgs "__next__" 0 _) (D0 ?_)
 dsimp only
 refine A0 (wpAny_field ho hd (x:= .ref d) rfl ?_)
 rw[Y0 (λz=>nomatch z)]
 refine A0 (wpAny_field ho hd (x:= .int i 0) rfl ?_)
 dsimp only
 rw[seqItems?.eq_1]
 refine A0 (A0 (wpAny_load hod ?_))
 rw[hdd]
 refine D0 ?_
 dsimp only
 rw[N3,hx]
 dsimp only
 refine A0 (wpAny_rule ?_)
 refine A0 (wpAny_setField ho hd `n3 ?_)
 show wpAny _ _ (newExc (.type "StopIteration") []>>=_) _ _ _
 refine A0 (by
  simp only[newExc,newTuple]
  refine A0 (V2 (A0 (m:=firstArgMember _ _) (wpAny_of_eq (a:=Value.none) (by first|rfl|(simp only[firstArgMember];rfl)) (V2 ?_ (by size_fits)))) (by size_fits))
  simp only[raiseNew]
  refine A0 (wpAny_handled ?_)
  rw[show A.in1.handled=none from hh]
  refine A0 (D0 (wpAny_throw ?_))
  exact q _ _ (((W2 ..).extBut.push _).push _) ⟨_,Q0 _ rfl,rfl⟩)
theorem draws_tuple(hh:A.handled=none)(it l:Addr)(hne:l≠it)(items:Array Value):Draws prog w A it [it,l] items.size (λi v=>items[i]?=some v) (λi h=>h.IsTupleIter it l i/\h.IsTuple l items) where
 live:=λi h st=>let ⟨o,e,_⟩:=st.1;⟨o,e⟩
 frame:=λi h h' st k=>⟨st.1.at λo e=>k it `n3 o e,let⟨o,e,r⟩:=st.2;⟨o,k l `n3 o e,r⟩⟩
 item:=λi s Q E hi st q=>zfg st.1 st.2 (x:=items[i]) (by simp[hi]) λh' y' sb=>q _ h' s.toks (by simp[hi]) ⟨y',let⟨o,e,r⟩:=st.2;⟨o,(sb.2 l hne).trans e,r⟩⟩ sb
 done:=λs Q E st q=>zfE hh st.1 st.2 `n3 q
theorem zgs(l:Addr)(items:Array Value):Meets (Builtin.«enumerate.__new__» {pos:=[Value.type "enumerate",Value.ref l]}) λ_ R s=>
 s.heap.IsTuple l items/\R (Except.ok (Flow.ret (Value.ref (s.heap.objs.size+1)))) {s with heap:=(s.heap.push {cls:=Value.type "tuple_iterator",data:=Data.fields #[Value.ref l,Value.int 0 0]}).push {cls:=Value.type "enumerate",data:=Data.fields #[Value.none,Value.bool false,Value.ref s.heap.objs.size,rawInt 0,Value.none,Value.none]}}:=by
 intro prog w A R s h
 unfold Builtin.«enumerate.__new__»
 refine A0 (m:=Builtin.SmallTypes.newClass "enumerate" _) ?_
 unfold Builtin.SmallTypes.newClass
 dsimp only
 refine A0 (wpAny_of_eq (a:=true) rfl ?_)
 rw[Y0 ⋯]
 rw[sub_enumerate]
 refine A0 (D0 ?_)
 rw[Y0 ⋯]
 refine D0 ?_
 dsimp only
 rw[E1 ⋯]
 unfold Builtin.SmallTypes.calledThroughType
 refine A0 (A0 (wpAny_stack_any λst=>D0 ?_))
 have key:∀{B:Sem (Value×Option Value)} {F:Value×Option Value->Sem PySem.Fin},B=pure (Value.ref l,none)->F (Value.ref l,none)=(do
  let it ←pyIter (Value.ref l)
  let r ←Builtin.SmallTypes.newRecord (Value.type "enumerate") (Builtin.SmallTypes.ownedTupleFields ++ [it,rawInt 0,Value.none,Value.none])
  ret r)->wpAny `i4 A.in1 (B>>=F) (λfin s'=>match fin with
  |Fin.done f=>R (Except.ok f) s'
  |Fin.again c'=>c'.quiet=true/\codeAny `i4 A c' R s') (λe s'=>R (Except.error e) s') s:=by
  intro B F e1 e2
  rw[e1]
  refine A0 (D0 ?_)
  rw[e2]
  refine A0 (wpAny_pyIter_tuple h.1 ?_)
  refine A0 ?_
  unfold Builtin.SmallTypes.newRecord
  refine V2 (D0 ?_) (show(6:Nat)<=sizeLine+2 by decide)
  rw[show(s.heap.push {cls:=Value.type "tuple_iterator",data:=Data.fields #[Value.ref l,Value.int 0 0]}).objs.size=s.heap.objs.size+1 by simp[Heap.push]]
  exact h.2
 split<;>(try split)<;>exact key rfl rfl
theorem call_enum_tuple(ht:s.heap.IsTuple l items)
 (q:∀h',IsEnum h' (s.heap.objs.size+1) s.heap.objs.size 0 Value.none->h'.IsTupleIter s.heap.objs.size l 0->h'.objs.size=s.heap.objs.size+2->(∀(b:Addr) (o:Obj),s.heap.get? b=some o->h'.get? b=some o)->Q (.ref (s.heap.objs.size+1)) {s with heap:=h'}):
 wpAny `i4 A (call (.type "enumerate") [.ref l]) Q E s:=by
 refine callType_new F.called_enumerate ⋯ (F.typeCall_enumerate_1 _) (F.newCall_enumerate_1 _) ?_ F.entry_enumerate_new (zgs l items) ⟨ht,?_⟩
 ·exact λobj=>F.args_object_init_2 _ _
 ·have e1:(s.heap.push {cls:=Value.type "tuple_iterator",data:=Data.fields #[Value.ref l,Value.int 0 0]}).objs.size=s.heap.objs.size+1:=by simp[Heap.push]
  have g1:((s.heap.push {cls:=Value.type "tuple_iterator",data:=Data.fields #[Value.ref l,Value.int 0 0]}).push {cls:=Value.type "enumerate",data:=Data.fields #[Value.none,Value.bool false,Value.ref s.heap.objs.size,rawInt 0,Value.none,Value.none]}).get? (s.heap.objs.size+1)=some {cls:=Value.type "enumerate",data:=Data.fields #[Value.none,Value.bool false,Value.ref s.heap.objs.size,rawInt 0,Value.none,Value.none]}:=by
   rw[←e1];exact Q0 _ rfl
  exact⟨⟨_,g1,rfl⟩,q _ g1 ⟨_,C0 _ (Q0 _ rfl),rfl,rfl⟩ (by simp[Heap.push]) λb o e=>C0 _ (C0 _ e)⟩
def zpH(K:W.Frag):V->List V->Hp->VK->Prop:=λx vs H Q=>∃(p:Addr) (ys:List Str) (y:Str) (j:Nat),x= .ref p/\vs=[.str y]/\SqT K H p (ys.map V.str)/\ys[j]?=some y/\(∀i<j,ys[i]?≠some y)/\Q (.int (j:Int)) H
theorem zhv:MtR X "tuple.index" (zpH X.K):=by
 intro pins s σ H x xs v us Q I rx rs h
 obtain⟨p,ys,y,j,rfl,rfl,hq,hj,hb,q⟩:=h
 cases rx
 obtain⟨u,rfl,ru⟩:=zb7 rs
 obtain⟨t,rfl⟩:=ru
 obtain⟨its,rv,pl,hz⟩:=I.tuple hq
 exact index_tup pl (by simpa using zbZ rv) hj hb λt' k=>⟨.int _,H,I.tok _,⟨_,rfl⟩,q⟩
noncomputable def Ite(K:W.Frag)(a:Addr)(n:Nat):It:=
 ⟨λi H=>∃xs x,SqT K H a xs/\xs.length=n/\xs[i]?=some x,λi H x H'=>∃T y,x= .ref T/\H T=none/\(∀xs,SqT K H a xs->xs[i]?=some y)/\H'=upd H T (.tup [.int (i:Int),y]),λi H=>∃xs,SqT K H a xs/\xs.length=n/\n<=i⟩
theorem zhu(a e it:Addr)(n:Nat)(hne:e≠it):
 Turn P w K (.Tuple elts k pos) (Ite K a n) [e,it] e (λi h=>i<=n/\(∃old,IsEnum h e it (i:Int) old)/\h.IsTupleIter it a i) where
 mem:=`n3
 obj:=λi h st b hb=>by
  obtain⟨_,⟨old,he⟩,o,e',c,d⟩:=st
  rcases K0.mp hb with rfl|hb
  ·exact ⟨_,he,λv z=>by cases z⟩
  ·have:b=it:=by simpa using hb
   subst this
   exact⟨o,e',λv z=>by rw[d] at z;cases z⟩
 keep:=λi h h' st kk=>⟨st.1,let⟨old,he⟩:=st.2.1;⟨old,kk e `n3 _ he⟩,st.2.2.at λo e'=>kk it `n3 o e'⟩
 item:=by
  intro X hP hw hK hc i pins s σ H E I hf st hg
  subst hP hw hK
  obtain⟨xs,x,hq,hn,hx⟩:=hg
  obtain⟨its,rv,p,hz⟩:=I.tuple hq
  obtain⟨u,hu,ru⟩:=rv.get hx
  have pT:s.heap.IsTuple a its.toArray:=p
  have hil:i<its.length:=by
   rcases R1 i its.length with z|z
   ·exact z
   ·rw[G0 z] at hu;cases hu
  have hlen:its.length=n:=by rw[←rv.length];exact hn
  obtain⟨o1,ho1,hc1,_⟩:=id pT
  have na1:a≠it:=λz=>by
   obtain⟨o2,ho2,hc2,_⟩:=st.2.2
   rw[z,ho2] at ho1;cases ho1;rw[hc2] at hc1;injection hc1 with hc1;exact absurd hc1 ⋯
  have na2:a≠e:=λz=>by
   obtain⟨old,he⟩:=st.2.1
   rw[z,he] at ho1;cases ho1;injection hc1 with hc1;exact absurd hc1 ⋯
  obtain⟨f0,f1,f2,f3,f4,f5⟩:=hf e `n3
  obtain⟨g0,g1,g2,g3,g4,g5⟩:=hf it `n3
  have W:=WalksT.enumerateD (draws_tuple (prog:=X.prog) (w:=X.w) (A:=X.A.in1) (I.ok.hd hc) it a na1 its.toArray) e hne (by simp[hne,Ne.symm na2]) `n3
  obtain⟨old,he⟩:=st.2.1
  unfold pyNext
  refine A0 (wpAny_attempt (B3 (name:=Str.ofString "__next__") ⟨_,he,rfl⟩ F.slot_enumerate_next (Q2 F.slot_enumerate_next ⟨_,he,rfl⟩ F.entry_enumerate_next (enumerate_next_itemD (draws_tuple (prog:=X.prog) (w:=X.w) (A:=X.A.in1) (I.ok.hd hc) it a na1 its.toArray) he ⟨st.2.2,pT⟩ (by simpa using hil) hne (by simp[hne,Ne.symm na2]) λx' h' t hx' hOut hSt hTo hsz hk0=>?_) (F.args_enumerate_next_1 _))))
  refine D0 ?_
  obtain⟨tk,htk⟩:∃tk,tk=t+1:=⟨_,rfl⟩
  rw[←htk]
  obtain⟨T,hTT⟩:∃T,T=s.heap.objs.size:=⟨_,rfl⟩
  have hk:∀(b:Addr) (o:Obj),b∉ [e,it]->s.heap.get? b=some o->h'.get? b=some o:=λb o hb q=>hk0 b o (λz=>hb (by simp[z])) (λz=>hb (by simp[z])) q
  rw[←hTT] at hOut hTo⊢
  have hT:s.heap.objs.size<=T:=Nat.le_of_eq hTT.symm
  have hTup:h'.IsTuple T #[Value.int (i:Int) t,x']:=⟨_,hTo,rfl,_,rfl⟩
  have nTe:T≠e:=λz=>by have:=X0 he;rw[←z,hTT] at this;exact absurd this (R3 _)
  have nTi:T≠it:=λz=>by obtain⟨o2,ho2,_⟩:=st.2.2;have:=X0 ho2;rw[←z,hTT] at this;exact absurd this (R3 _)
  have hMid:(∃x,IsEnumOut h' e it ((i:Int)+1) x T)/\(h'.IsTupleIter it a (i+1)/\h'.IsTuple a its.toArray)/\T≠e/\T≠it:=⟨⟨_,hOut⟩,hSt,nTe,nTi⟩
  have ex:x'=u:=by
   have:its.toArray[i]?=some u:=by simpa using hu
   rw[this] at hx';exact(U1 hx').symm
  subst ex
  refine⟨_,rfl,W.go elts k pos i T {s with heap:=h',toks:=tk} _ _ hMid λh2 st2 hk2=>?_⟩
  have nT:T∉ [e,it]:=W.apart i T h' hMid
  have fT:H T=none:=I.hok.fresh hT
  have ltT:∀{b o},s.heap.get? b=some o->b≠T:=λq z=>by
   have:=X0 q
   rw[z] at this
   exact absurd (E2 this hT) (R3 _)
  have hTup2:h2.IsTuple T #[Value.int (i:Int) t,x']:=by
   obtain⟨o,ho,r⟩:=hTup
   exact⟨o,hk2 T o nT ho,r⟩
  have hND:NoDict h2 T:=λo q=>by rw[hk2 T _ nT hTo] at q;cases q;rfl
  have kk:∀b o,b∉ [e,it]->s.heap.get? b=some o->h2.get? b=some o:=λb o hb q=>hk2 b o hb (hk b o hb q)
  have neT:∀{b u'},H b=some u'->b≠T:=λq z=>by rw[z,fT] at q;cases q
  refine⟨.ref T,upd H T (.tup [.int (i:Int),x]),?_,rfl,⟨T,x,rfl,fT,λys hy=>by rw[I.tuple_inj hy hq];exact hx,rfl⟩,⟨(),st2.1,st2.2.1⟩,λb hb=>?_⟩
  ·show Inv X pins σ _ {s with heap:=h2,gens:=s.gens,drawn:=s.drawn,toks:=tk}
   refine Inv.step (s:=s) (h':=h2) (t':=tk) (g':=s.gens) (d':=s.drawn) (ch:=[e,it]) I (λb hb=>?_) (λb o _ _ hc e' _=>kk b o hc e') (λb o _ _ hc e' _=>⟨o.slots,kk b o hc e'⟩) (λb o _ e' z=>by rw[zj (ltT e')];exact z) (λb o hc e'=>⟨o,kk b o hc e'⟩) (λb xs z=>by rw[zj (neT z)];exact z) (λb o u' z=>by rw[zj (neT z)];exact z) (λb ps z=>⟨#[],by rw[zj (neT z),z];simp⟩) (λm hm=>?_) (λb u' z=>?_) I.bare
   ·rcases K0.mp hb with rfl|hb
    ·exact ⟨f3,f1,f4,f5⟩
    ·have:b=it:=by simpa using hb
     subst this
     exact⟨g3,g1,g4,g5⟩
   ·obtain ⟨o,es,ep,ho,r⟩:=hm
    refine⟨o,es,ep,kk _ o (λz=>?_) ho,r⟩
    rcases K0.mp z with z|z
    ·exact f1 z.symm
    ·exact g1 ((by simpa using z:X.env.locals=it).symm)
   ·by_cases hb:b=T
    ·subst hb
     rw[zc] at z
     cases z
     exact⟨few rfl,[Value.int (i:Int) t,x'], .cons ⟨t,rfl⟩ (.cons ru .nil),hTup2,hND⟩
    ·rw[zj hb] at z
     refine(I.hok b u' z).stay (λc v hc q=>kk c v (λy=>?_) q) (λc q=>by rw[zj (neT q)];exact q) λc xs q=>by rw[zj (neT q)];exact q
     have:∃u2,H c=some u2:=by
      rcases hc with rfl|hc
      ·exact ⟨_,z⟩
      ·exact ⟨_,hc⟩
     obtain⟨u2,hu2⟩:=this
     rcases K0.mp y with rfl|y
     ·rw[f0] at hu2;cases hu2
     ·have:c=it:=by simpa using y
      subst this
      rw[g0] at hu2;cases hu2
  ·have:b≠T:=λz=>nT (by rw[←z];exact hb)
   rw[zj this]
   exact(hf b hb).1
 done:=by
   intro X hP hw hK hc i pins s σ H E I hf st hg
   subst hP hw hK
   obtain⟨xs,hq,hn,hx⟩:=hg
   obtain⟨its,rv,p,hz⟩:=I.tuple hq
   have pT:s.heap.IsTuple a its.toArray:=p
   have hlen:its.length=n:=by rw[←rv.length];exact hn
   have ei:i=its.toArray.size:=by have:=st.1;simp;lia
   obtain⟨o1,ho1,hc1,_⟩:=id pT
   have na1:a≠it:=λz=>by
    obtain⟨o2,ho2,hc2,_⟩:=st.2.2
    rw[z,ho2] at ho1;cases ho1;rw[hc2] at hc1;injection hc1 with hc1;exact absurd hc1 ⋯
   have na2:a≠e:=λz=>by
    obtain⟨old,he⟩:=st.2.1
    rw[z,he] at ho1;cases ho1;injection hc1 with hc1;exact absurd hc1 ⋯
   obtain⟨f0,f1,f2,f3,f4,f5⟩:=hf e `n3
   obtain⟨g0,g1,g2,g3,g4,g5⟩:=hf it `n3
   have W:=WalksT.enumerateD (draws_tuple (prog:=X.prog) (w:=X.w) (A:=X.A.in1) (I.ok.hd hc) it a na1 its.toArray) e hne (by simp[hne,Ne.symm na2]) `n3
   subst ei
   refine W.done s _ _ ⟨st.2.1,st.2.2,pT⟩ λh' tk kk=>⟨rfl,?_⟩
   refine I.step (g':=s.gens) (d':=s.drawn) (ch:=[e,it]) (λb hb=>?_) (λb o _ _ hc e' _=>kk b o hc e') (λb o _ _ hc e' _=>⟨o.slots,kk b o hc e'⟩) (λ_ _ _ _ z=>z) (λb o hc e'=>⟨o,kk b o hc e'⟩) (λ_ _ z=>z) (λ_ _ _ z=>z) (λb ps z=>⟨#[],by rw[z];simp⟩) (λm hm=>?_) (λb u' z=>?_) I.bare
   ·rcases K0.mp hb with rfl|hb
    ·exact ⟨f3,f1,f4,f5⟩
    ·have:b=it:=by simpa using hb
     subst this
     exact⟨g3,g1,g4,g5⟩
   ·obtain ⟨o,es,ep,ho,r⟩:=hm
    refine⟨o,es,ep,kk _ o (λz=>?_) ho,r⟩
    rcases K0.mp z with z|z
    ·exact f1 z.symm
    ·exact g1 ((by simpa using z:X.env.locals=it).symm)
   ·refine (I.hok b u' z).stay (λc v hc q=>kk c v (λy=>?_) q) (λc q=>q) λc xs q=>q
    have:∃u2,H c=some u2:=by
     rcases hc with rfl|hc
     ·exact ⟨_,z⟩
     ·exact ⟨_,hc⟩
    obtain⟨u2,hu2⟩:=this
    rcases K0.mp y with rfl|y
    ·rw[f0] at hu2;cases hu2
    ·have:c=it:=by simpa using y
     subst this
     rw[g0] at hu2;cases hu2
 self:=λA i s Q E st h=>by
  obtain⟨_,⟨old,he⟩,_⟩:=st
  refine wpAny_pyIter_slot (T:="enumerate") ⟨_,he,rfl⟩ F.slot_enumerate_iter (Q2 F.slot_enumerate_iter ⟨_,he,rfl⟩ F.entry_enumerate_iter ?_ (F.args_enumerate_iter_1 _))
  unfold Builtin.«dict_keyiterator.__iter__»
  refine A0 (D0 (D0 ⟨_,rfl,"enumerate",_,⟨_,he,rfl⟩,F.slot_enumerate_next.lookup,h⟩))
noncomputable def zr9(K:W.Frag)(ta:TA):TI:=λσ H R=>ta σ H λvs H1=>∃a xs,vs=[.ref a]/\SqT K H1 a xs/\R (Ite K a xs.length) H1
theorem zkn{a:Expr}{p:Pos}(hm:X.mg "enumerate"=none)(ha:QA X [a] ta)(hg:autoParam (Gl X "enumerate") u4)(hs:autoParam (starEach [a] X.env=[(false,eval a X.env)]) u4):QI X (.Tuple elts k pos2) (.Call (.Name "enumerate" p) [a] [] pos) (zr9 X.K ta):=⟨by
 intro pins s σ H R I h
 refine Call_ (zc9 I hg hm boot_enumerate (PyProof.Rows.callWith_type1 (thn (ha.o pos pins s σ H _ I h) λus s1 zq=>?_) hs rfl))
 obtain⟨vs,H1,I1,r1,q1⟩:=zq
 obtain⟨l,xs,rfl,hq,q⟩:=q1
 obtain⟨u,rfl,ru⟩:=zb7 r1
 cases ru
 obtain⟨its,rv,pl,hz⟩:=I1.tuple hq
 refine call_enum_tuple (show s1.heap.IsTuple l its.toArray from pl) λh' he hit hsz kk=>?_
 have ne1:s1.heap.objs.size+1≠s1.heap.objs.size:=()
 refine(zhu (P:=X.prog) (w:=X.w) (K:=X.K) (elts:=elts) (k:=k) (pos:=pos2) l (s1.heap.objs.size+1) s1.heap.objs.size xs.length ne1).self X.A 0 _ _ _ ⟨K2 _,⟨_,he⟩,hit⟩ ?_
 refine⟨s1.heap.objs.size+1,[s1.heap.objs.size+1,s1.heap.objs.size],_,_,H1,rfl,I1.kept (t':=s1.toks) kk,zhu l _ _ xs.length ne1,⟨K2 _,⟨_,he⟩,hit⟩,λb hb=>?_,q⟩
 have hb':s1.heap.objs.size<=b:=by
  rcases K0.mp hb with z|z
  ·rw[z];exact Nat.le_succ _
  ·have z:b=s1.heap.objs.size:=by simpa using z
   rw[z];exact O0 _
 exact I1.fpOk hb' (I1.hok.fresh hb')⟩
theorem zob{g:TG}{src:List (Option Nat)}{Q:VK}(Pv:Addr->Nat->List V->St->Hp->Prop)
 (h0:∀l,H1 l=none->Pv l 0 [] (zeM src σ) (upd H1 l (.lst []))) (hok:∀l i ys σ H,H1 l=none->Pv l i ys σ H->SqT K H a xs)
 (hs:∀l i x ys σ H T,H1 l=none->i<xs.length->xs[i]?=some x->Pv l i ys σ H->H l=some (.lst ys)->H T=none->g (.ref T) σ (upd H T (.tup [.int ((i:Nat):Int),x])) λσ2 H3=>tc σ2 H3 λb H4=>
   if b=true then te σ2 H4 λy H5=>H5 l=some (.lst ys)/\ys.length<sizeLine/\Pv l (i+1) (ys ++ [y]) σ2 (upd H5 l (.lst (ys ++ [y])))else H4 l=some (.lst ys)/\Pv l (i+1) ys σ2 H4)
 (hd:∀l ys σ H,H1 l=none->Pv l xs.length ys σ H->H l=some (.lst ys)->Q (.ref l) H):zcG g tc te src σ Q (Ite K a xs.length) H1:=by
 intro l hl
 refine⟨λi m ys σ H=>m=xs.length -i/\i<=xs.length/\Pv l i ys σ H,⟨xs.length,`n3,K2 _,h0 l hl⟩,?_⟩
 rintro i m ys σ' H' ⟨rfl,hi,p⟩ hl'
 by_cases hlt:i<xs.length
 ·refine .inr ⟨⟨xs,xs[i],hok l i ys σ' H' hl p,rfl,by simp[hlt]⟩,Pv l (i+1),λzs σ2 H2 q=>⟨xs.length -(i+1),(),rfl,hlt,q⟩,λx H2 y=>?_⟩
  obtain⟨T,v,rfl,hT,hv,rfl⟩:=y
  exact hs l i v ys σ' H' T hl hlt (hv xs (hok l i ys σ' H' hl p)) p hl' hT
 ·have e:i=xs.length:=()
  subst e
  exact .inl ⟨⟨xs,hok l _ ys σ' H' hl p,rfl,O0 _⟩,hd l ys σ' H' hl p hl'⟩
theorem zjS(nd:hs.Nodup)(h1:hs[i]?=some x)(h2:hs[j]?=some x):i=j:=by
 have lt:∀{k:Nat},hs[k]?=some x->k<hs.length:=λ{k} z=>by
  rcases R1 k hs.length with y|y
  ·exact y
  ·rw[G0 y] at z;cases z
 have l1:=lt h1
 have l2:=lt h2
 rw[F0 l1] at h1
 rw[F0 l2] at h2
 have e:hs[i]=hs[j]:=(U1 h1).trans (U1 h2).symm
 have pw:=List.pairwise_iff_getElem.mp nd
 rcases Nat.lt_trichotomy i j with z|z|z
 ·exact absurd e (pw i j l1 l2 z)
 ·exact z
 ·exact absurd e.symm (pw j i l2 l1 z)
noncomputable def zg0(i:Nat):V:= .int (i:Int)
noncomputable def zdl(hs:List Str)(x:Str)(n:Nat):List Nat:=(List.range n).filter λi=>decide (hs[i]?=some x)
theorem zl4(h:hs[n]?=some y):zdl hs x (n+1)=zdl hs x n ++(if y=x then [n] else []):=by
 unfold zdl
 rw[List.range_succ,List.filter_append]
 congr 1
 by_cases z:y=x
 ·rw[E1 z];simp[h,z]
 ·rw[Y0 z];simp[h,z]
theorem zjJ(nd:hs.Nodup)(h:hs[j]?=some x):∀n,j<n->zdl hs x n=[j]:=by
 have key:∀i,hs[i]?=some x↔i=j:=λi=>⟨λz=>zjS nd z h,λz=>by rw[z];exact h⟩
 have small:∀n,n<=j->zdl hs x n=[]:=λn hn=>by
  unfold zdl
  rw[List.filter_eq_nil_iff]
  intro i hi
  have:=U2.mp hi
  simp[key];lia
 intro n hn
 induction n with
 |zero=>lia
 |succ n ih=>
  unfold zdl at ih⊢
  rw[List.range_succ,List.filter_append]
  rcases R1 j n with z|z
  ·rw[ih z]
   have:¬hs[n]?=some x:=λy=>by have:=(key n).mp y;lia
   simp[this]
  ·have e:n=j:=()
   subst e
   have:=small n (O0 _)
   unfold zdl at this
   rw[this]
   simp[h]
theorem zjw(nd:hs.Nodup)(h:hs[j]?=some x):∀i<j,hs[i]?≠some x:=λi hi z=>by
 have:=zjS nd z h
 lia
theorem zjz{g:TG}{src:List (Option Nat)}{Q:VK}(Iv:St->Prop)(hok:∀H',Same H H'->SqT K H' a (hs.map V.str))(hl:hs.length<=900)(h0:Iv (zeM src σ))
 (hst:∀(T:Addr) (i:Nat) (y:Str) (σ':St) (H1:Hp) (A:V->Hp->St->Prop) (B:St->Hp->Prop),Iv σ'->Same H H1->H1 T=some (.tup [.int (i:Int), .str y])->(∀σ2,Iv σ2->if decide (y=x)=true then A (.int (i:Int)) H1 σ2 else B σ2 H1)->g (.ref T) σ' H1 λσ2 H3=>tc σ2 H3 λb H4=>if b=true then te σ2 H4 (λv H5=>A v H5 σ2)else B σ2 H4)
 (q:∀l H',Same H H'->H l=none->H' l=some (.lst ((zdl hs x hs.length).map zg0))->Q (.ref l) H'):zcG g tc te src σ Q (Ite K a (hs.map V.str).length) H:=by
 refine zob (K:=K) (a:=a) (xs:=hs.map V.str) (λl i ys σ' H'=>Iv σ'/\ys=(zdl hs x i).map (zg0)/\Same H H') ?_ ?_ ?_ ?_
 ·exact λl h'=>⟨h0,rfl,Same.new h'⟩
 ·exact λl i ys σ' H' _ p=>hok H' p.2.2
 ·rintro l i v ys σ' H1 T h' hi hv ⟨iv,rfl,s1⟩ hl' hT
  rw[B0] at hi
  rw[V0,F0 hi] at hv
  cases hv
  have S:=Same.new (o:= .tup [V.int (i:Int), .str hs[i]]) hT
  have s2:=s1.trans S
  have hl2:=S _ _ hl'
  have hidx:=zl4 (x:=x) (n:=i) (y:=hs[i]) (F0 hi)
  refine hst T i hs[i] σ' _ (λy H5 σ2=>H5 l=some (.lst ((zdl hs x i).map zg0))/\((zdl hs x i).map zg0).length<sizeLine/\Iv σ2/\(zdl hs x i).map (zg0)++ [y]=(zdl hs x (i+1)).map (zg0)/\Same H (upd H5 l (.lst ((zdl hs x i).map (zg0)++ [y])))) (λσ2 H4=>H4 l=some (.lst ((zdl hs x i).map zg0))/\Iv σ2/\(zdl hs x i).map (zg0)=(zdl hs x (i+1)).map (zg0)/\Same H H4) iv s2 zc λσ2 iv2=>?_
  by_cases z:hs[i]=x
  ·refine zN (N0 z) ⟨hl2,?_,iv2,?_,?_⟩
   ·rw[B0]
    have:(zdl hs x i).length<=i:=by
     unfold zdl
     exact J1 (G3 _ _) (by rw[List.length_range];exact O0 _)
    exact zl ()
   ·rw[hidx,E1 z,J2];rfl
   ·exact λc o e=>by
     rw[zj (zr e h')]
     exact s2 _ _ e
  ·refine zO (A1 z) ⟨hl2,iv2,?_,s2⟩
   rw[hidx,Y0 z,List.append_nil]
 ·rintro l ys σ' H1 h' ⟨iv,rfl,s1⟩ hl'
  rw[B0] at hl'
  exact q l H1 s1 h' hl'
noncomputable def zch(ws ms:List Str)(to:Option Str)(cs:List D):Bool:=cs.all (zbg ws ms to)
noncomputable def zdc:D->List D| .tup [.tup cs,_]=>cs|_=> []
noncomputable def zca:D->D| .tup [_,t]=>t|_=> .non
noncomputable def zY(ws ms:List Str):List D->D
 |[]=> .int 0
 |r::rs=>if zch ws ms none (zdc r)=true then zca r else zY ws ms rs
theorem zgE{ws ms:List Str}:∀{rs:List D},∃es,(rs.filter λr=>zch ws ms none (zdc r)).map zca ++ [.int 0]=zY ws ms rs::es
 |[]=>⟨[],rfl⟩
 |r::rs=>by
  rw[List.filter_cons]
  cases h:zch ws ms none (zdc r)with
  |true=>exact ⟨_,by rw[E1 rfl,Y1,List.cons_append,zY,h,E1 rfl]⟩
  |false=>
   rw[Y0 ⋯,zY,h,Y0 ⋯]
   exact zgE
theorem zkB{sel:D->Bool}{ok:Hp->Prop}{g:TG}{src:List (Option Nat)}{Q:VK}(Iv:St->Prop)(wk:Wk J vs.length (λi x=>vs[i]?=some x) ok)(hok:∀H',Same H H'->ok H')(r:RepL H vs rs)(hl:rs.length<=900)(h0:Iv (zeM src σ))
 (hr:∀d∈rs,∃cs t,d= .tup [.tup cs,t])
 (hst:∀(p:Addr) (d:D) (v0 v1:V) (σ':St) (H1:Hp) (A:V->Hp->St->Prop) (B:St->Hp->Prop),Iv σ'->Same H H1->d∈rs->H1 p=some (.tup [v0,v1])->Rep H1 v0 (.tup (zdc d))->Rep H1 v1 (zca d)->(∀σ2 H2,Iv σ2->Same H1 H2->if sel d=true then A v1 H2 σ2 else B σ2 H2)->g (.ref p) σ' H1 λσ2 H3=>tc σ2 H3 λb H4=>if b=true then te σ2 H4 (λy H5=>A y H5 σ2)else B σ2 H4)
 (q:∀l us H',Same H H'->H l=none->H' l=some (.lst us)->RepL H' us ((rs.filter sel).map zca)->Q (.ref l) H'):zcG g tc te src σ Q J H:=by
 refine zbv wk (λl i ys σ' H'=>Iv σ'/\RepL H' ys (((rs.take i).filter sel).map zca)/\Same H H') ?_ ?_ ?_ ?_
 ·exact λl h'=>⟨h0,RepL.nil,Same.new h'⟩
 ·exact λl i ys σ' H' _ p=>hok H' p.2.2
 ·rintro l i y ys σ' H1 h' hi hy ⟨iv,ry,s1⟩ hl'
  obtain⟨d,hd,rd⟩:=r.get hy
  have hdm:=U0 hd
  obtain⟨cs,t,rfl⟩:=hr d hdm
  obtain⟨p,v0,v1,rfl,hp,r0,r1⟩:=(rd.same s1).of2
  have tk:((rs.take (i+1)).filter sel).map zca=((rs.take i).filter sel).map zca ++([D.tup [.tup cs,t]].filter sel).map zca:=by
   rw[O3,hd,List.filter_append,J2];rfl
  refine hst p _ v0 v1 σ' H1 (λy H5 σ2=>H5 l=some (.lst ys)/\ys.length<sizeLine/\Iv σ2/\RepL (upd H5 l (.lst (ys ++ [y]))) (ys ++ [y]) (((rs.take (i+1)).filter sel).map zca)/\Same H (upd H5 l (.lst (ys ++ [y])))) (λσ2 H4=>H4 l=some (.lst ys)/\Iv σ2/\RepL H4 ys (((rs.take (i+1)).filter sel).map zca)/\Same H H4) iv s1 hdm hp r0 r1 λσ2 H2 iv2 s2=>?_
  rw[tk]
  cases hg:sel (.tup [.tup cs,t])with
  |false=>
   have e0:([D.tup [.tup cs,t]].filter sel).map zca=[]:=by simp[hg]
   rw[e0,List.append_nil]
   exact⟨s2 _ _ hl',iv2,ry.mono (.of s2),s1.trans s2⟩
  |true=>
   have e0:([D.tup [.tup cs,t]].filter sel).map zca=[t]:=by simp[hg,zca]
   rw[e0]
   refine⟨s2 _ _ hl',?_,iv2,?_,?_⟩
   ·have h1:=ry.1
    have h2:=G3 sel (rs.take i)
    rw[B0] at h1
    rw[N2] at h2
    exact zl ()
   ·exact ((ry.mono (.of s2)).append (.cons (r1.same s2) .nil)).mono (.lset (s2 _ _ hl'))
   ·exact λc o e=>by
     rw[zj (zr e h')]
     exact s2 _ _ (s1 _ _ e)
 ·rintro l ys σ' H1 h' ⟨iv,ry,s1⟩ hl'
  rw[r.1,X3] at ry
  exact q l ys H1 s1 h' hl' ry
noncomputable def zkj:Sp:=λvs H Q _=>∃(v:V) (cs:List D) (pw pm:Addr) (vt:V) (ws ms:List Str) (to:Option Str),vs=[v, .ref pw, .ref pm,vt]/\Rep H v (.tup cs)/\(∀c∈cs,zT c=true)/\H pw=some (.tup (ws.map V.str))/\H pm=some (.tup (ms.map V.str))/\TO0 vt to/\(∀x∈ws,zg x=true)/\(∀x∈ms,zg x=true)/\1<=ws.length/\ws.length<=100/\ms.length<=100/\∀H',Same H H'->Q (.bl (zch ws ms to cs)) H'
noncomputable def zsK:Sp:=λvs H Q _=>∃(v:V) (x:Str) (g:Str) (hs:List Str) (ps:List (Str×Str)) (lks hds:List D) (j:Nat),vs=[v, .str x]/\Rep H v (zbA g hs ps lks hds)/\TownOk g hs ps lks hds/\hs[j]?=some x/\∀(vr:V) (d:D),lks[j]?=some d->Rep H vr d->Q vr H
noncomputable def zfc:Sp:=λvs H Q _=>∃(v:V) (pw pm:Addr) (x:Str) (ws ms:List Str) (g:Str) (hs:List Str) (ps:List (Str×Str)) (lks hds:List D) (j:Nat) (rs:List D),vs=[v, .ref pw, .ref pm]/\Rep H v (zbA g hs ps lks hds)/\TownOk g hs ps lks hds/\hs[j]?=some x/\lks[j]?=some (.tup rs)/\H pw=some (.tup ((x::ws).map V.str))/\H pm=some (.tup (ms.map V.str))/\(∀y∈x::ws,zg y=true)/\(∀y∈ms,zg y=true)/\ws.length<=90/\ms.length<=100/\∀(u:V) (H':Hp),Rep H' u (zY (x::ws) ms rs)->Same H H'->Q u H'
theorem zrK(T:TownOk g hs ps lks hds)(h:x∈hs):∃(j:Nat) (rs:List D),hs[j]?=some x/\lks[j]?=some (.tup rs)/\rs.length<=90/\∀r∈rs,zaA r=true:=by
 obtain⟨j,hj,e⟩:=U3 h
 have hl:j<lks.length:=by rw[T.ll];exact hj
 have hlk:=T.likes lks[j] (List.getElem_mem hl)
 cases hd:lks[j] with
 |tup rs=>
  rw[hd] at hlk
  have h:(decide (rs.length<=90)&&rs.all zaA)=true:=hlk
  rw[L0] at h
  exact⟨j,rs,by rw[F0 hj,e],by rw[F0 hl,hd],R0 h.1,V1.mp h.2⟩
 |_=>rw[hd] at hlk;cases hlk
theorem zh7{rs:List α}{d:α}(h:rs[i]?=some d):rs.drop i=d::rs.drop (i+1):=by
 have hi:i<rs.length:=by
  rcases R1 i rs.length with y|y
  ·exact y
  ·rw[G0 y] at h;cases h
 rw[List.drop_eq_getElem_cons hi]
 rw[F0 hi] at h
 rw[U1 h]
mutual
noncomputable def okD:D->Bool
 | .str x=>PyData.strOk x
 | .tup ds=>okL ds
 | .oth=>false
 | .non=>true
 | .bl _=>true
 | .int _=>true
noncomputable def okL:List D->Bool
 |[]=>true
 |d::ds=>okD d&&okL ds
end
mutual
noncomputable def pyD:D->PyData
 | .non=> .none
 | .bl b=> .bool b
 | .int i=> .int i
 | .str x=> .str x
 | .tup ds=> .tuple (pyL ds)
 | .oth=> .none
noncomputable def pyL:List D->List PyData
 |[]=> []
 |d::ds=>pyD d::pyL ds
end
theorem zgb:∀{ds:List D},pyL ds=ds.map pyD
 |[]=>by rw[pyL];rfl
 |d::ds=>by rw[pyL,Y1,zgb]
theorem zlU:∀{ds:List D},okL ds=true->∀d∈ds,okD d=true
 |[],_,_,z=>nomatch z
 |d::ds,h,e,he=>by
  rw[okL,L0] at h
  rcases K0.mp he with rfl|he
  ·exact h.1
  ·exact zlU h.2 e he
theorem zfH:∀{ds:List D},(∀d∈ds,okD d=true)->okL ds=true
 |[],_=>by rw[okL]
 |d::ds,h=>by rw[okL,h d Z0,zfH λe he=>h e (N1 _ he)];rfl
theorem zd2(r:Rep H v d):okD d=true->Tr H v (pyD d):=by
 induction r with
 |non=>intro _;rw[pyD];exact .non
 |bl b=>intro _;rw[pyD];exact .bl b
 |int i=>intro _;rw[pyD];exact .int i
 |str x _=>intro h;rw[okD] at h;rw[pyD];exact .str x h
 | @tup p vs ds hp l b r ih=>
   intro h
   rw[okD] at h
   rw[pyD,zgb]
   refine .tup hp (by rw[l,B0]) λi v d e1 e2=>?_
   rw[V0] at e2
   cases e:ds[i]? with
   |none=>rw[e] at e2;cases e2
   |some d'=>
    rw[e] at e2
    cases e2
    exact ih i v d' e1 e (zlU h d' (U0 e))
 |lst _=>intro h;rw[okD] at h;cases h
 |dK _=>intro h;rw[okD] at h;cases h
theorem zi8:(PyData.tuple (pyL ds)).eqv (.tuple [])=decide (ds=[]):=by
 rw[PyData.eqv]
 cases ds with
 |nil=>rw[pyL,PyData.eqvAll];rfl
 |cons d ds=>rw[pyL,PyData.eqvAll];rfl
theorem znf:(PyData.tuple []).depth<=60:=by rw[PyData.depth,PyData.depthAll];decide
theorem zlw(e:H p=some (.tup [])):Tr H (.ref p) (.tuple []):= .tup e rfl λi v d z=>by cases z
theorem RepL.reps(r:RepL H vs ds):∀k,RepL H (List.replicate k vs).flatten (List.replicate k ds).flatten
 |0=>RepL.nil
 |k+1=>by
  rw[E3,E3,List.flatten_cons,List.flatten_cons]
  exact r.append (RepL.reps r k)
noncomputable def leS(a b:Str):Bool:=!ltS b a
noncomputable def srt(l:List Str):List Str:=l.mergeSort leS
theorem zj7(a b c:Str)(h1:leS a b=true)(h2:leS b c=true):leS a c=true:=by
 unfold leS at *
 rw[Bool.not_eq_true'] at *
 cases h:ltS c a with
 |false=>rfl
 |true=>
  by_cases e:a=b
  ·subst e;rw[h] at h2;cases h2
  ·have ab:ltS a b=true:=zcX (λz=>e z.symm) h1
   have:=zfq h ab
   rw[this] at h2;cases h2
theorem zlQ(a b:Str):(leS a b||leS b a)=true:=by
 unfold leS
 cases h:ltS b a with
 |false=>rfl
 |true=>rw[zgf h];rfl
theorem zdf(l:List Str):(srt l).Perm l:=List.mergeSort_perm l leS
theorem znZ{l:List Str}(nd:l.Nodup):(srt l).Pairwise (λa b=>ltS a b=true):=by
 have h1:(srt l).Pairwise (λa b=>leS a b=true):=List.pairwise_mergeSort zj7 zlQ l
 have h2:(srt l).Nodup:=(zdf l).nodup_iff.mpr nd
 refine(h1.and h2).imp λ{a b} h=>?_
 obtain⟨ha,hn⟩:=h
 unfold leS at ha
 rw[Bool.not_eq_true'] at ha
 exact zcX (λz=>hn z.symm) ha
noncomputable def zaP(t:List Str)(w m:Str):List Str:=t.filter (λx=>!decide (x=m))++(if w="put"then [m] else [])
theorem zhE{t:List Str}{w m:Str}(nd:t.Nodup):(zaP t w m).Nodup:=by
 unfold zaP
 rw[List.nodup_append]
 refine⟨nd.filter _,?_,?_⟩
 ·split<;>simp
 ·intro a ha b hb e
  split at hb
  ·rw[c0.mp hb] at e
   have:=(X2.mp ha).2
   rw[e] at this
   simp at this
  ·cases hb
theorem zlX{t O:List Str}{w m:Str}(h:∀x∈t,x∈O)(hm:m∈O):∀x∈zaP t w m,x∈O:=by
 unfold zaP
 refine List.forall_mem_append.mpr ⟨λx hx=>h x (X2.mp hx).1,λx hx=>?_⟩
 split at hx
 ·rw[c0.mp hx];exact hm
 ·cases hx
noncomputable def ze4(t:List Str)(w m:Str):List Str:=srt (zaP t w m)
structure Mk0(O t:List Str):Prop where
 nd:t.Nodup
 mem:∀x∈t,x∈O
theorem Mk0.next{O t:List Str}{w m:Str}(h:Mk0 O t)(hm:m∈O):Mk0 O (ze4 t w m) where
 nd:=(zdf _).nodup_iff.mpr (zhE h.nd)
 mem:=λx hx=>zlX h.mem hm x ((zdf _).mem_iff.mp hx)
theorem Mk0.len{O t:List Str}(h:Mk0 O t)(hO:O.length<=14):t.length<=14:=J1 (nodup_len h.nd h.mem) hO
noncomputable def zD(ws:List Str)(to:Option Str):List D->List Str->Option (List Str)
 |[],t=>some t
 |r::rs,t=>if zch ws t to (zdc r)=true then(match zca r with| .tup [.str w, .str m]=>zD ws to rs (ze4 t w m)|_=>none)else zD ws to rs t
def zdI(O:List Str)(rs:List D):Prop:=rs.length<=90/\∀r∈rs,∃cs x,r= .tup [.tup cs,x]/\(∀c∈cs,zT c=true)/\(x= .tup [.str "keep"]\/∃w m,x= .tup [.str w, .str m]/\(w="put"\/w="strike")/\m∈O)
theorem zma{O:List Str}(h:zep d=true)(hi:zc3 O d=true):∃rs,d= .tup rs/\zdI O rs:=by
 cases d with
 |tup rs=>
  have h:(decide (rs.length<=90)&&rs.all zcr)=true:=h
  rw[L0] at h
  refine⟨rs,rfl,R0 h.1,λr hr=>?_⟩
  obtain⟨cs,x,rfl,h4,hc,hx⟩:=zlp (V1.mp h.2 r hr)
  obtain⟨h1,h2⟩:=zmU (V1.mp hi _ hr)
  refine⟨cs,x,rfl,hc,?_⟩
  rcases znj hx with rfl|⟨w,y,rfl,hw,_⟩
  ·exact .inl rfl
  ·exact .inr ⟨w,y,rfl,hw,R0 h2⟩
 |_=>cases h
def zrA(H:Hp)(u:V):Option (List Str)->Prop
 |none=>u= .non
 |some t=>∃p,u= .ref p/\H p=some (.tup (t.map V.str))
noncomputable def zsD:Sp:=λvs H Q _=>∃(v:V) (x:Str) (g:Str) (hs:List Str) (ps:List (Str×Str)) (lks hds:List D) (j:Nat),vs=[v, .str x]/\Rep H v (zbA g hs ps lks hds)/\TownOk g hs ps lks hds/\hs[j]?=some x/\∀(vr:V) (d:D),hds[j]?=some d->Rep H vr d->Q vr H
noncomputable def zgJ:Sp:=λvs H Q _=>∃(v:V) (pw pm:Addr) (vt:V) (x:Str) (ws ms:List Str) (to:Option Str) (g:Str) (hs:List Str) (ps:List (Str×Str)) (lks hds:List D) (j:Nat) (rs:List D) (O:List Str),vs=[v, .ref pw, .ref pm,vt]/\Rep H v (zbA g hs ps lks hds)/\TownOk g hs ps lks hds/\hs[j]?=some x/\hds[j]?=some (.tup rs)/\zdI O rs/\O.length<=14/\(∀y∈O,zg y=true)/\Mk0 O ms/\H pw=some (.tup ((x::ws).map V.str))/\H pm=some (.tup (ms.map V.str))/\TO0 vt to/\(∀y∈x::ws,zg y=true)/\ws.length<=90/\∀(u:V) (H':Hp),zrA H' u (zD (x::ws) to rs ms)->Same H H'->Q u H'
theorem zow(T:TownOk g hs ps lks hds)(h:x∈hs):∃(j:Nat) (d:D),hs[j]?=some x/\hds[j]?=some d/\d∈hds:=by
 obtain⟨j,hj,e⟩:=U3 h
 have hl:j<hds.length:=by rw[T.lh];exact hj
 exact⟨j,hds[j],by rw[F0 hj,e],F0 hl,List.getElem_mem hl⟩
noncomputable def neD(m:Str):D->Bool| .str z=>!decide (z=m)|_=>false
theorem znB{t:List Str}{m:Str}:((t.map D.str).filter (neD m)).map (λd=>d)=(t.filter λx=>!decide (x=m)).map D.str:=by
 rw[List.map_id',List.filter_map];rfl
section
open PySem.W
section
open PySem.SeqAt
open PySem.AutoSeq1 (wpAny_loadPart')
open PySem.MeetsSeq PySem.MeetsSeq2 PySem.MeetsSeq3
end
noncomputable def ltL:List Str->List Str->Bool
 |[],[]=>false
 |[],_::_=>true
 |_::_,[]=>false
 |x::xs,y::ys=>if x=y then ltL xs ys else ltS x y
theorem zlN:∀(ps:List Str),ltL ps ps=false
 |[]=>rfl
 |p::ps=>by rw[ltL,E1 rfl];exact zlN ps
end
section
variable{st:Expr}{ts:TE}{p1 p2:Pos}
end
section
variable{es:List D}
end
noncomputable def ItL(K:W.Frag)(a:Addr)(n:Nat):It:=
 ⟨λi H=>∃xs x,SqL K H a xs/\xs.length=n/\xs[i]?=some x,λi H x H'=>∃T y,x= .ref T/\H T=none/\(∀xs,SqL K H a xs->xs[i]?=some y)/\H'=upd H T (.tup [.int (i:Int),y]),λi H=>∃xs,SqL K H a xs/\xs.length=n/\n<=i⟩
theorem zgL(a e it:Addr)(n:Nat)(hne:e≠it):
 Turn P w K (.Tuple elts k pos) (ItL K a n) [e,it] e (λi h=>i<=n/\(∃old,IsEnum h e it (i:Int) old)/\h.IsListIter it a i) where
 mem:=`n3
 obj:=λi h st b hb=>by
  obtain⟨_,⟨old,he⟩,o,e',c,d⟩:=st
  rcases K0.mp hb with rfl|hb
  ·exact ⟨_,he,λv z=>by cases z⟩
  ·have:b=it:=by simpa using hb
   subst this
   exact⟨o,e',λv z=>by rw[d] at z;cases z⟩
 keep:=λi h h' st kk=>⟨st.1,let⟨old,he⟩:=st.2.1;⟨old,kk e `n3 _ he⟩,st.2.2.at λo e'=>kk it `n3 o e'⟩
 item:=by
  intro X hP hw hK hc i pins s σ H E I hf st hg
  subst hP hw hK
  obtain⟨xs,x,hq,hn,hx⟩:=hg
  obtain⟨its,rv,p,hz⟩:=I.list hq
  obtain⟨u,hu,ru⟩:=rv.get hx
  have pT:s.heap.IsList a its.toArray:=p.isList
  have hil:i<its.length:=by
   rcases R1 i its.length with z|z
   ·exact z
   ·rw[G0 z] at hu;cases hu
  have hlen:its.length=n:=by rw[←rv.length];exact hn
  obtain⟨o1,ho1,hc1,_⟩:=id pT
  have na1:a≠it:=λz=>by
   obtain⟨o2,ho2,hc2,_⟩:=st.2.2
   rw[z,ho2] at ho1;cases ho1;rw[hc2] at hc1;injection hc1 with hc1;exact absurd hc1 ⋯
  have na2:a≠e:=λz=>by
   obtain⟨old,he⟩:=st.2.1
   rw[z,he] at ho1;cases ho1;injection hc1 with hc1;exact absurd hc1 ⋯
  obtain⟨f0,f1,f2,f3,f4,f5⟩:=hf e `n3
  obtain⟨g0,g1,g2,g3,g4,g5⟩:=hf it `n3
  have W:=WalksT.enumerateD (Draws.list (prog:=X.prog) (w:=X.w) (A:=X.A.in1) (I.ok.hd hc) it a na1 its.toArray) e hne (by simp[hne,Ne.symm na2]) `n3
  obtain⟨old,he⟩:=st.2.1
  unfold pyNext
  refine A0 (wpAny_attempt (B3 (name:=Str.ofString "__next__") ⟨_,he,rfl⟩ F.slot_enumerate_next (Q2 F.slot_enumerate_next ⟨_,he,rfl⟩ F.entry_enumerate_next (enumerate_next_itemD (Draws.list (prog:=X.prog) (w:=X.w) (A:=X.A.in1) (I.ok.hd hc) it a na1 its.toArray) he ⟨st.2.2,pT⟩ (by simpa using hil) hne (by simp[hne,Ne.symm na2]) λx' h' t hx' hOut hSt hTo hsz hk0=>?_) (F.args_enumerate_next_1 _))))
  refine D0 ?_
  obtain⟨tk,htk⟩:∃tk,tk=t+1:=⟨_,rfl⟩
  rw[←htk]
  obtain⟨T,hTT⟩:∃T,T=s.heap.objs.size:=⟨_,rfl⟩
  have hk:∀(b:Addr) (o:Obj),b∉ [e,it]->s.heap.get? b=some o->h'.get? b=some o:=λb o hb q=>hk0 b o (λz=>hb (by simp[z])) (λz=>hb (by simp[z])) q
  rw[←hTT] at hOut hTo⊢
  have hT:s.heap.objs.size<=T:=Nat.le_of_eq hTT.symm
  have hTup:h'.IsTuple T #[Value.int (i:Int) t,x']:=⟨_,hTo,rfl,_,rfl⟩
  have nTe:T≠e:=λz=>by have:=X0 he;rw[←z,hTT] at this;exact absurd this (R3 _)
  have nTi:T≠it:=λz=>by obtain⟨o2,ho2,_⟩:=st.2.2;have:=X0 ho2;rw[←z,hTT] at this;exact absurd this (R3 _)
  have hMid:(∃x,IsEnumOut h' e it ((i:Int)+1) x T)/\(h'.IsListIter it a (i+1)/\h'.IsList a its.toArray)/\T≠e/\T≠it:=⟨⟨_,hOut⟩,hSt,nTe,nTi⟩
  have ex:x'=u:=by
   have:its.toArray[i]?=some u:=by simpa using hu
   rw[this] at hx';exact(U1 hx').symm
  subst ex
  refine⟨_,rfl,W.go elts k pos i T {s with heap:=h',toks:=tk} _ _ hMid λh2 st2 hk2=>?_⟩
  have nT:T∉ [e,it]:=W.apart i T h' hMid
  have fT:H T=none:=I.hok.fresh hT
  have ltT:∀{b o},s.heap.get? b=some o->b≠T:=λq z=>by
   have:=X0 q
   rw[z] at this
   exact absurd (E2 this hT) (R3 _)
  have hTup2:h2.IsTuple T #[Value.int (i:Int) t,x']:=by
   obtain⟨o,ho,r⟩:=hTup
   exact⟨o,hk2 T o nT ho,r⟩
  have hND:NoDict h2 T:=λo q=>by rw[hk2 T _ nT hTo] at q;cases q;rfl
  have kk:∀b o,b∉ [e,it]->s.heap.get? b=some o->h2.get? b=some o:=λb o hb q=>hk2 b o hb (hk b o hb q)
  have neT:∀{b u'},H b=some u'->b≠T:=λq z=>by rw[z,fT] at q;cases q
  refine⟨.ref T,upd H T (.tup [.int (i:Int),x]),?_,rfl,⟨T,x,rfl,fT,λys hy=>by rw[I.list_inj hy hq];exact hx,rfl⟩,⟨(),st2.1,st2.2.1⟩,λb hb=>?_⟩
  ·show Inv X pins σ _ {s with heap:=h2,gens:=s.gens,drawn:=s.drawn,toks:=tk}
   refine Inv.step (s:=s) (h':=h2) (t':=tk) (g':=s.gens) (d':=s.drawn) (ch:=[e,it]) I (λb hb=>?_) (λb o _ _ hc e' _=>kk b o hc e') (λb o _ _ hc e' _=>⟨o.slots,kk b o hc e'⟩) (λb o _ e' z=>by rw[zj (ltT e')];exact z) (λb o hc e'=>⟨o,kk b o hc e'⟩) (λb xs z=>by rw[zj (neT z)];exact z) (λb o u' z=>by rw[zj (neT z)];exact z) (λb ps z=>⟨#[],by rw[zj (neT z),z];simp⟩) (λm hm=>?_) (λb u' z=>?_) I.bare
   ·rcases K0.mp hb with rfl|hb
    ·exact ⟨f3,f1,f4,f5⟩
    ·have:b=it:=by simpa using hb
     subst this
     exact⟨g3,g1,g4,g5⟩
   ·obtain ⟨o,es,ep,ho,r⟩:=hm
    refine⟨o,es,ep,kk _ o (λz=>?_) ho,r⟩
    rcases K0.mp z with z|z
    ·exact f1 z.symm
    ·exact g1 ((by simpa using z:X.env.locals=it).symm)
   ·by_cases hb:b=T
    ·subst hb
     rw[zc] at z
     cases z
     exact⟨few rfl,[Value.int (i:Int) t,x'], .cons ⟨t,rfl⟩ (.cons ru .nil),hTup2,hND⟩
    ·rw[zj hb] at z
     refine(I.hok b u' z).stay (λc v hc q=>kk c v (λy=>?_) q) (λc q=>by rw[zj (neT q)];exact q) λc xs q=>by rw[zj (neT q)];exact q
     have:∃u2,H c=some u2:=by
      rcases hc with rfl|hc
      ·exact ⟨_,z⟩
      ·exact ⟨_,hc⟩
     obtain⟨u2,hu2⟩:=this
     rcases K0.mp y with rfl|y
     ·rw[f0] at hu2;cases hu2
     ·have:c=it:=by simpa using y
      subst this
      rw[g0] at hu2;cases hu2
  ·have:b≠T:=λz=>nT (by rw[←z];exact hb)
   rw[zj this]
   exact(hf b hb).1
 done:=by
   intro X hP hw hK hc i pins s σ H E I hf st hg
   subst hP hw hK
   obtain⟨xs,hq,hn,hx⟩:=hg
   obtain⟨its,rv,p,hz⟩:=I.list hq
   have pT:s.heap.IsList a its.toArray:=p.isList
   have hlen:its.length=n:=by rw[←rv.length];exact hn
   have ei:i=its.toArray.size:=by have:=st.1;simp;lia
   obtain⟨o1,ho1,hc1,_⟩:=id pT
   have na1:a≠it:=λz=>by
    obtain⟨o2,ho2,hc2,_⟩:=st.2.2
    rw[z,ho2] at ho1;cases ho1;rw[hc2] at hc1;injection hc1 with hc1;exact absurd hc1 ⋯
   have na2:a≠e:=λz=>by
    obtain⟨old,he⟩:=st.2.1
    rw[z,he] at ho1;cases ho1;injection hc1 with hc1;exact absurd hc1 ⋯
   obtain⟨f0,f1,f2,f3,f4,f5⟩:=hf e `n3
   obtain⟨g0,g1,g2,g3,g4,g5⟩:=hf it `n3
   have W:=WalksT.enumerateD (Draws.list (prog:=X.prog) (w:=X.w) (A:=X.A.in1) (I.ok.hd hc) it a na1 its.toArray) e hne (by simp[hne,Ne.symm na2]) `n3
   subst ei
   refine W.done s _ _ ⟨st.2.1,st.2.2,pT⟩ λh' tk kk=>⟨rfl,?_⟩
   refine I.step (g':=s.gens) (d':=s.drawn) (ch:=[e,it]) (λb hb=>?_) (λb o _ _ hc e' _=>kk b o hc e') (λb o _ _ hc e' _=>⟨o.slots,kk b o hc e'⟩) (λ_ _ _ _ z=>z) (λb o hc e'=>⟨o,kk b o hc e'⟩) (λ_ _ z=>z) (λ_ _ _ z=>z) (λb ps z=>⟨#[],by rw[z];simp⟩) (λm hm=>?_) (λb u' z=>?_) I.bare
   ·rcases K0.mp hb with rfl|hb
    ·exact ⟨f3,f1,f4,f5⟩
    ·have:b=it:=by simpa using hb
     subst this
     exact⟨g3,g1,g4,g5⟩
   ·obtain ⟨o,es,ep,ho,r⟩:=hm
    refine⟨o,es,ep,kk _ o (λz=>?_) ho,r⟩
    rcases K0.mp z with z|z
    ·exact f1 z.symm
    ·exact g1 ((by simpa using z:X.env.locals=it).symm)
   ·refine (I.hok b u' z).stay (λc v hc q=>kk c v (λy=>?_) q) (λc q=>q) λc xs q=>q
    have:∃u2,H c=some u2:=by
     rcases hc with rfl|hc
     ·exact ⟨_,z⟩
     ·exact ⟨_,hc⟩
    obtain⟨u2,hu2⟩:=this
    rcases K0.mp y with rfl|y
    ·rw[f0] at hu2;cases hu2
    ·have:c=it:=by simpa using y
     subst this
     rw[g0] at hu2;cases hu2
 self:=λA i s Q E st h=>by
  obtain⟨_,⟨old,he⟩,_⟩:=st
  refine wpAny_pyIter_slot (T:="enumerate") ⟨_,he,rfl⟩ F.slot_enumerate_iter (Q2 F.slot_enumerate_iter ⟨_,he,rfl⟩ F.entry_enumerate_iter ?_ (F.args_enumerate_iter_1 _))
  unfold Builtin.«dict_keyiterator.__iter__»
  refine A0 (D0 (D0 ⟨_,rfl,"enumerate",_,⟨_,he,rfl⟩,F.slot_enumerate_next.lookup,h⟩))
noncomputable def zrf(K:W.Frag)(ta:TA):TI:=λσ H R=>ta σ H λvs H1=>∃a xs,vs=[.ref a]/\SqL K H1 a xs/\R (ItL K a xs.length) H1
theorem zpr{a:Expr}{p:Pos}(hm:X.mg "enumerate"=none)(ha:QA X [a] ta)(hg:autoParam (Gl X "enumerate") u4)(hs:autoParam (starEach [a] X.env=[(false,eval a X.env)]) u4):QI X (.Tuple elts k pos2) (.Call (.Name "enumerate" p) [a] [] pos) (zrf X.K ta):=⟨by
 intro pins s σ H R I h
 refine Call_ (zc9 I hg hm boot_enumerate (PyProof.Rows.callWith_type1 (thn (ha.o pos pins s σ H _ I h) λus s1 zq=>?_) hs rfl))
 obtain⟨vs,H1,I1,r1,q1⟩:=zq
 obtain⟨l,xs,rfl,hq,q⟩:=q1
 obtain⟨u,rfl,ru⟩:=zb7 r1
 cases ru
 obtain⟨its,rv,pl,hz⟩:=I1.list hq
 refine call_enumerate_list pl.isList λh' he hit hsz kk=>?_
 have ne1:s1.heap.objs.size+1≠s1.heap.objs.size:=()
 refine(zgL (P:=X.prog) (w:=X.w) (K:=X.K) (elts:=elts) (k:=k) (pos:=pos2) l (s1.heap.objs.size+1) s1.heap.objs.size xs.length ne1).self X.A 0 _ _ _ ⟨K2 _,⟨_,he⟩,hit⟩ ?_
 refine⟨s1.heap.objs.size+1,[s1.heap.objs.size+1,s1.heap.objs.size],_,_,H1,rfl,I1.kept (t':=s1.toks) kk,zgL l _ _ xs.length ne1,⟨K2 _,⟨_,he⟩,hit⟩,λb hb=>?_,q⟩
 have hb':s1.heap.objs.size<=b:=by
  rcases K0.mp hb with z|z
  ·rw[z];exact Nat.le_succ _
  ·have z:b=s1.heap.objs.size:=by simpa using z
   rw[z];exact O0 _
 exact I1.fpOk hb' (I1.hok.fresh hb')⟩
theorem slicePick_rev(xs:Array Value):slicePick xs none none (some (-1))=xs.toList.reverse.toArray:=by
 unfold slicePick
 have hb:sliceBounds none none (some (-1)) xs.size=((xs.size:Int) -1,-1,-1):=rfl
 rw[hb]
 show((sliceRange ((xs.size:Int) -1) (-1) (-1)).filterMap _).toArray=_
 have hr:sliceRange ((xs.size:Int) -1) (-1) (-1)=(List.range xs.size).map λ(m:Nat)=>((xs.size:Int) -1+(m:Int)* -1).toNat:=by
  unfold sliceRange
  have hc:(if(-1:Int)>0 then(if(xs.size:Int) -1< -1 then(-1 -((xs.size:Int) -1)+ -1 -1)/ -1 else 0)else(if(xs.size:Int) -1> -1 then((xs.size:Int) -1 - -1 - -1 -1)/(- -1)else 0)).toNat=xs.size:=by
   rw[Y0 ⋯,show(- -1:Int)=1 by decide,Int.ediv_one]
   split<;>lia
  show(List.range (if(-1:Int)>0 then(if(xs.size:Int) -1< -1 then(-1 -((xs.size:Int) -1)+ -1 -1)/ -1 else 0)else(if(xs.size:Int) -1> -1 then((xs.size:Int) -1 - -1 - -1 -1)/(- -1)else 0)).toNat).map (λ(k:Nat)=>((xs.size:Int) -1+ -1*(k:Int)).toNat)=_
  rw[hc]
  refine List.map_congr_left λm _=>?_
  congr 1
  lia
 rw[hr,List.filterMap_map]
 exact zjL xs
section
variable{i o:Expr}{ty:TE}{p1 p2:Pos}
noncomputable def zst(K:W.Frag)(te:TE):TE:=λσ H Q=>te σ H λx H1=>∃a xs,x= .ref a/\SqL K H1 a xs/\∀p,H1 p=none->Q (.ref p) (upd H1 p (.lst xs.reverse))
theorem zod{st:Expr}(he:QE X e te)(hst:QE X st (tUn (rU λi=> .int (-i)) (tC (.int 1)))):QE X (.Subscript e (.Slice none none (some st) p2) pos) (zst X.K te):=⟨by
 intro pins s σ H Q I h
 refine Subscript_ (thn (he.o pins s σ H _ I h) λv s1 zq=>?_)
 obtain⟨x,H1,I1,r1,q1⟩:=zq
 refine wpAny_Slice ?_
 rw[evalPart_none,evalPart_some]
 refine D0 (D0 ?_)
 refine thn (hst.o pins s1 σ H1 (λy H2=>y= .int (-1)/\H2=H1) I1 ⟨1,rfl,rfl,rfl⟩) λvst s3 ⟨y,H3,I3,r3,ey,eh⟩=>?_
 subst ey eh
 obtain⟨tk,rfl⟩:=r3
 obtain⟨a,xs,rfl,hx,q⟩:=q1
 cases r1
 have I4:Inv X pins σ _ {s3 with heap:=s3.heap.push {cls:= .type "slice",data:= .fields #[.none, .none, .int (-1) tk]}}:=I3.kept (t':=s3.toks) λb ob q=>C0 _ q
 obtain⟨its,r,ht,hz⟩:=I4.list hx
 have hlen:its.toArray.size=xs.length:=by rw[K1];exact r.length.symm
 show wpAny `Y4 X.A (subscriptTail e (.Slice none none (some st) p2) (.ref a) (.ref s3.heap.objs.size)) (EP X pins σ Q) X.xe {s3 with heap:=s3.heap.push {cls:= .type "slice",data:= .fields #[.none, .none, .int (-1) tk]}}
 refine tail_any (ops:=[.ref a, .ref s3.heap.objs.size]) ht.isList.typeIs slot_list_getitem.lookup ?_ (by with_unfolding_all rfl)
 refine wpAny_getItem_list_slice (st:=some (-1)) ht.isList (Heap.IsSliceOf.new ..) .none .none (.int (-1) tk) `n3 ?_ (by rw[hlen];exact hz)
 rw[slicePick_rev]
 refine⟨.ref _,_,I4.laid (t':=s3.toks) (o:= .lst xs.reverse) (λb ob q=>C0 _ q) (O0 _) ?_,rfl,q _ (I4.hok.fresh (O0 _))⟩
 exact⟨by rw[List.length_reverse];exact hz,its.reverse,0,r.rev,Q0 _ rfl⟩⟩
end
noncomputable abbrev WM:=List Str×List Str
mutual
theorem zpc:∀d:D,(pyD d).eqv (pyD d)=true
 | .non=>by rw[pyD,PyData.eqv]
 | .bl b=>by rw[pyD,PyData.eqv];simp
 | .int i=>by rw[pyD,PyData.eqv];simp
 | .str x=>by rw[pyD,PyData.eqv];simp
 | .tup ds=>by rw[pyD,PyData.eqv];exact zh3 ds
 | .oth=>by rw[pyD,PyData.eqv]
theorem zh3:∀ds:List D,PyData.eqvAll (pyL ds) (pyL ds)=true
 |[]=>by rw[pyL,PyData.eqvAll]
 |d::ds=>by rw[pyL,PyData.eqvAll,zpc d,zh3 ds];rfl
end
theorem zoP:(PyData.list (ds.map pyD)).eqv (.list (ds.map pyD))=true:=by
 rw[PyData.eqv,←zgb];exact zh3 ds
theorem zdW{n:Nat}:∀{xs:List PyData},(∀x∈xs,x.depth<=n)->PyData.depthAll xs<=n
 |[],_=>by rw[PyData.depthAll];exact K2 _
 |x::xs,h=>by
  rw[PyData.depthAll]
  have h1:=h x Z0
  have h2:=zdW (n:=n) λy hy=>h y (N1 _ hy)
  lia
theorem zgr:(pyD (.tup (ws.map D.str))).depth<=2:=by
 rw[pyD,PyData.depth,zgb,List.map_map]
 have:=zdW (n:=1) (xs:=ws.map (pyD∘D.str)) λx hx=>by
  obtain⟨y,_,rfl⟩:=G1.mp hx
  show(pyD (.str y)).depth<=1
  rw[pyD,PyData.depth];lia
 lia
theorem zky(h:∀d∈ds,(pyD d).depth<=n)(hn:n<=50):(PyData.list (ds.map pyD)).depth<=60:=by
 rw[PyData.depth]
 have:=zdW (n:=n) (xs:=ds.map pyD) λx hx=>by
  obtain⟨d,hd,rfl⟩:=G1.mp hx
  exact h d hd
 lia
theorem RepL.rev:∀{vs:List V} {ds:List D},RepL H vs ds->RepL H vs.reverse ds.reverse
 |[],[],_=>RepL.nil
 |v::vs,d::ds,r=>by
  rw[List.reverse_cons,List.reverse_cons]
  exact(RepL.rev r.head.2).append (.cons r.head.1 .nil)
 |[],_::_,r=>by have:=r.1;simp at this
 |_::_,[],r=>by have:=r.1;simp at this
theorem zip_itemD{TI TO0:Addr}{a b:Value}(D:ZipApart z TI TO0 i1 i2 l1 l2)
 (D1:Draws prog w A i1 [i1,l1] n1 P1 S1) (D2:Draws prog w A i2 [i2,l2] n2 P2 S2)
 (hz:IsZip s.heap z TI TO0 .none) (hTI:IsPair s.heap TI (.ref i1) (.ref i2)) (hTO:IsPair s.heap TO0 a b) (h1:S1 k s.heap) (h2:S2 k s.heap) (k1:k<n1) (k2:k<n2)
 (hQ:∀x y h' tk,P1 k x->P2 k y->IsZip h' z TI TO0 (rawInt s.heap.objs.size)->IsPair h' TO0 x y->S1 (k+1) h'->S2 (k+1) h'->IsPair h' s.heap.objs.size x y->h'.objs.size=s.heap.objs.size+1->
   (∀c o,c≠z->c≠TO0->c≠i1->c≠i2->s.heap.get? c=some o->h'.get? c=some o)->Q (.ref s.heap.objs.size) {s with heap:=h',toks:=tk}):
 wpAny `i4 A (Builtin.«zip.__next__» ⟨[.ref z],[]⟩) (λfin s'=>∃v,fin= .done (.ret v)/\Q v s') E s:=by
 show wpAny _ _ (field (.ref z) 2>>=_) _ _ _
 refine A0 (wpAny_field hz rfl (x:= .bool false) rfl ?_)
 show wpAny _ _ (field (.ref z) 3>>=_) _ _ _
 refine A0 (wpAny_field hz rfl (x:= .ref TI) rfl ?_)
 refine A0 (wpAny_seqItems hTI rfl ?_)
 show wpAny _ _ (Builtin.SmallTypes.ownedTupleIsFree (.ref z)>>=_) _ _ _
 refine A0 ?_
 unfold Builtin.SmallTypes.ownedTupleIsFree
 refine A0 (wpAny_field hz rfl (x:= .none) rfl (D0 ?_))
 simp only[if_true]
 refine A0 (wpAny_rule ?_)
 refine A0 (wpAny_field hz rfl (x:= .ref TO0) rfl ?_)
 refine A0 (wpAny_setField_rec hz `n3 λh₁ hz₁ hs₁=>?_)
 replace hz₁:IsZip h₁ z TI TO0 .ellipsis:=hz₁
 refine A0 ?_
 simp only[List.zipIdx_cons,List.zipIdx_nil,List.forIn_cons,List.forIn_nil]
 refine A0 (A0 (wpAny_onRaise ?_))
 show wpAny _ _ (Builtin.SmallTypes.nextOf (.ref i1)>>=_) _ _ _
 have f1:∀{i:Nat} {h h':Heap},S1 i h->(∀c o,c≠z->c≠TO0->c≠i2->h.get? c=some o->h'.get? c=some o)->S1 i h':=λst kk=>D1.frame _ _ _ st λc hc o e=>by
  rcases K0.mp hc with rfl|hc
  ·exact kk c o D.i1z D.TOi1.symm D.i12 e
  ·have:c=l1:=by simpa using hc
   subst this
   exact kk c o D.l1z D.l1TO D.l1i2 e
 have f2:∀{i:Nat} {h h':Heap},S2 i h->(∀c o,c≠z->c≠TO0->c≠i1->h.get? c=some o->h'.get? c=some o)->S2 i h':=λst kk=>D2.frame _ _ _ st λc hc o e=>by
  rcases K0.mp hc with rfl|hc
  ·exact kk c o D.i2z D.TOi2.symm D.i12.symm e
  ·have:c=l2:=by simpa using hc
   subst this
   exact kk c o D.l2z D.l2TO D.l2i1 e
 refine A0 (D1.item k _ _ _ k1 (f1 h1 λc o c1 _ _ e=>hs₁.extBut _ _ c1 e) λx h₂ tk2 hx h1₂ hs₂=>D0 ?_)
 have hTO₂:IsPair h₂ TO0 a b:=hs₂.extBut _ _ D.TOi1 (hs₁.extBut _ _ D.TOz hTO)
 refine A0 (wpAny_seqItems hTO₂ rfl ?_)
 refine A0 (wpAny_updateSeq_pair hTO₂ λh₃ hTO₃ hs₃=>?_)
 replace hTO₃:IsPair h₃ TO0 x b:=hTO₃
 refine A0 (wpAny_letGo (D0 ?_))
 refine A0 (A0 (wpAny_onRaise ?_))
 show wpAny _ _ (Builtin.SmallTypes.nextOf (.ref i2)>>=_) _ _ _
 refine A0 (D2.item k _ _ _ k2 (f2 h2 λc o c1 c2 c3 e=>hs₃.extBut _ _ c2 (hs₂.extBut _ _ c3 (hs₁.extBut _ _ c1 e))) λy h₄ tk4 hy h2₄ hs₄=>D0 ?_)
 have hTO₄:IsPair h₄ TO0 x b:=hs₄.extBut _ _ D.TOi2 hTO₃
 refine A0 (wpAny_seqItems hTO₄ rfl ?_)
 refine A0 (wpAny_updateSeq_pair hTO₄ λh₅ hTO₅ hs₅=>?_)
 replace hTO₅:IsPair h₅ TO0 x y:=hTO₅
 refine A0 (wpAny_letGo (D0 (D0 ?_)))
 refine A0 (wpAny_seqItems hTO₅ rfl ?_)
 refine A0 (wpAny_newTuple ?_)
 have hsz:h₅.objs.size=s.heap.objs.size:=by rw[hs₅.1,hs₄.1,hs₃.1,hs₂.1,hs₁.1]
 have hz₅:IsZip h₅ z TI TO0 .ellipsis:=hs₅.extBut _ _ D.TOz.symm (hs₄.extBut _ _ D.i2z.symm (hs₃.extBut _ _ D.TOz.symm (hs₂.extBut _ _ D.i1z.symm hz₁)))
 have hk₅:∀c o,c≠z->c≠TO0->c≠i1->c≠i2->s.heap.get? c=some o->h₅.get? c=some o:=λc o c1 c2 c3 c4 e=>
  hs₅.extBut _ _ c2 (hs₄.extBut _ _ c4 (hs₃.extBut _ _ c2 (hs₂.extBut _ _ c3 (hs₁.extBut _ _ c1 e))))
 have h1₅:S1 (k+1) h₅:=f1 h1₂ λc o c1 c2 c3 e=>hs₅.extBut _ _ c2 (hs₄.extBut _ _ c3 (hs₃.extBut _ _ c2 e))
 have h2₅:S2 (k+1) h₅:=f2 h2₄ λc o c1 c2 c3 e=>hs₅.extBut _ _ c2 e
 have hzlt:z<h₅.objs.size:=X0 hz₅
 have hTOlt:TO0<h₅.objs.size:=X0 hTO₅
 show wpAny _ _ (Builtin.SmallTypes.ownedTupleHandOut (.ref z) (.ref h₅.objs.size)>>=_) _ _ _
 refine A0 ?_
 unfold Builtin.SmallTypes.ownedTupleHandOut
 have hz₆:IsZip (h₅.push {cls:= .type "tuple",data:= .seq #[x,y]}) z TI TO0 .ellipsis:=C0 _ hz₅
 refine A0 (wpAny_setField_rec hz₆ `n3 λh₇ hz₇ hs₇=>?_)
 replace hz₇:IsZip h₇ z TI TO0 (rawInt h₅.objs.size):=hz₇
 refine wpAny_setField_rec hz₇ `n3 λh₈ hz₈ hs₈=>?_
 replace hz₈:IsZip h₈ z TI TO0 (rawInt h₅.objs.size):=hz₈
 have up:∀c o,c≠z->h₅.get? c=some o->h₈.get? c=some o:=λc o c1 e=>hs₈.extBut _ _ c1 (hs₇.extBut _ _ c1 (C0 _ e))
 have hT₈:IsPair h₈ h₅.objs.size x y:=hs₈.extBut _ _ (Nat.ne_of_gt hzlt) (hs₇.extBut _ _ (Nat.ne_of_gt hzlt) (Q0 _ rfl))
 have hz8:h₈.objs.size=h₅.objs.size+1:=by rw[hs₈.1,hs₇.1,Heap.size_push]
 rw[hsz] at hz₈ hT₈ hz8
 refine D0 ⟨_,rfl,?_⟩
 show Q (.ref h₅.objs.size) _
 rw[hsz]
 exact hQ x y h₈ _ hx hy hz₈ (up _ _ D.TOz hTO₅) (f1 h1₅ λc o c1 _ _ e=>up c o c1 e) (f2 h2₅ λc o c1 _ _ e=>up c o c1 e) hT₈ hz8 λc o c1 c2 c3 c4 e=>up c o c1 (hk₅ c o c1 c2 c3 c4 e)
theorem zip_endD{TI TO0:Addr}{a b:Value}{Q:Fin->Shared->Prop}(D:ZipApart z TI TO0 i1 i2 l1 l2)
 (D1:Draws prog w A i1 [i1,l1] n1 P1 S1) (D2:Draws prog w A i2 [i2,l2] n2 P2 S2)
 (hz:IsZip s.heap z TI TO0 .none) (hTI:IsPair s.heap TI (.ref i1) (.ref i2)) (hTO:IsPair s.heap TO0 a b) (h1:S1 k s.heap) (h2:S2 k s.heap) (hend:k=n1\/(k<n1/\k=n2))
 (hE:∀h' tk e,(∀c o,c≠z->c≠TO0->c≠i1->c≠i2->s.heap.get? c=some o->h'.get? c=some o)->(∃o,h'.get? e=some o/\o.cls= .type "StopIteration")->E (.ref e) {s with heap:=h',toks:=tk}):
 wpAny `i4 A (Builtin.«zip.__next__» ⟨[.ref z],[]⟩) Q E s:=by
 show wpAny _ _ (field (.ref z) 2>>=_) _ _ _
 refine A0 (wpAny_field hz rfl (x:= .bool false) rfl ?_)
 show wpAny _ _ (field (.ref z) 3>>=_) _ _ _
 refine A0 (wpAny_field hz rfl (x:= .ref TI) rfl ?_)
 refine A0 (wpAny_seqItems hTI rfl ?_)
 show wpAny _ _ (Builtin.SmallTypes.ownedTupleIsFree (.ref z)>>=_) _ _ _
 refine A0 ?_
 unfold Builtin.SmallTypes.ownedTupleIsFree
 refine A0 (wpAny_field hz rfl (x:= .none) rfl (D0 ?_))
 simp only[if_true]
 refine A0 (wpAny_rule ?_)
 refine A0 (wpAny_field hz rfl (x:= .ref TO0) rfl ?_)
 refine A0 (wpAny_setField_rec hz `n3 λh₁ hz₁ hs₁=>?_)
 replace hz₁:IsZip h₁ z TI TO0 .ellipsis:=hz₁
 refine A0 ?_
 simp only[List.zipIdx_cons,List.zipIdx_nil,List.forIn_cons,List.forIn_nil]
 refine A0 (A0 (wpAny_onRaise ?_))
 show wpAny _ _ (Builtin.SmallTypes.nextOf (.ref i1)>>=_) _ _ _
 have f1:∀{i:Nat} {h h':Heap},S1 i h->(∀c o,c≠z->c≠TO0->c≠i2->h.get? c=some o->h'.get? c=some o)->S1 i h':=λst kk=>D1.frame _ _ _ st λc hc o e=>by
  rcases K0.mp hc with rfl|hc
  ·exact kk c o D.i1z D.TOi1.symm D.i12 e
  ·have:c=l1:=by simpa using hc
   subst this
   exact kk c o D.l1z D.l1TO D.l1i2 e
 have f2:∀{i:Nat} {h h':Heap},S2 i h->(∀c o,c≠z->c≠TO0->c≠i1->h.get? c=some o->h'.get? c=some o)->S2 i h':=λst kk=>D2.frame _ _ _ st λc hc o e=>by
  rcases K0.mp hc with rfl|hc
  ·exact kk c o D.i2z D.TOi2.symm D.i12.symm e
  ·have:c=l2:=by simpa using hc
   subst this
   exact kk c o D.l2z D.l2TO D.l2i1 e
 rcases hend with rfl|⟨k1,rfl⟩
 ·refine A0 (D1.done _ _ _ (f1 h1 λc o c1 _ _ e=>hs₁.extBut _ _ c1 e) λh₂ e hs₂ he=>?_)
  obtain⟨oe,hoe,hce⟩:=he
  have hz₂:IsZip h₂ z TI TO0 .ellipsis:=hs₂ _ _ D.i1z.symm hz₁
  have hez:e≠z:=λx=>by subst x;rw[hz₂] at hoe;cases hoe;simp at hce
  refine wpAny_setField_rec hz₂ `n3 λh₃ _ hs₃=>hE h₃ s.toks e (λc o c1 _ c3 _ x=>hs₃.extBut _ _ c1 (hs₂ _ _ c3 (hs₁.extBut _ _ c1 x))) ⟨oe,hs₃.extBut _ _ hez hoe,hce⟩
 ·refine A0 (D1.item k _ _ _ k1 (f1 h1 λc o c1 _ _ e=>hs₁.extBut _ _ c1 e) λx h₂ tk2 hx h1₂ hs₂=>D0 ?_)
  have hTO₂:IsPair h₂ TO0 a b:=hs₂.extBut _ _ D.TOi1 (hs₁.extBut _ _ D.TOz hTO)
  refine A0 (wpAny_seqItems hTO₂ rfl ?_)
  refine A0 (wpAny_updateSeq_pair hTO₂ λh₃ hTO₃ hs₃=>?_)
  refine A0 (wpAny_letGo (D0 ?_))
  refine A0 (A0 (wpAny_onRaise ?_))
  show wpAny _ _ (Builtin.SmallTypes.nextOf (.ref i2)>>=_) _ _ _
  refine A0 (D2.done _ _ _ (f2 h2 λc o c1 c2 c3 e=>hs₃.extBut _ _ c2 (hs₂.extBut _ _ c3 (hs₁.extBut _ _ c1 e))) λh₄ e hs₄ he=>?_)
  obtain⟨oe,hoe,hce⟩:=he
  have hz₄:IsZip h₄ z TI TO0 .ellipsis:=hs₄ _ _ D.i2z.symm (hs₃.extBut _ _ D.TOz.symm (hs₂.extBut _ _ D.i1z.symm hz₁))
  have hez:e≠z:=λx=>by subst x;rw[hz₄] at hoe;cases hoe;simp at hce
  refine wpAny_setField_rec hz₄ `n3 λh₅ _ hs₅=>hE h₅ _ e (λc o c1 c2 c3 c4 x=>hs₅.extBut _ _ c1 (hs₄ _ _ c4 (hs₃.extBut _ _ c2 (hs₂.extBut _ _ c3 (hs₁.extBut _ _ c1 x))))) ⟨oe,hs₅.extBut _ _ hez hoe,hce⟩
def SqH(t:Bool)(h:Heap)(a:Addr)(items:Array Value):Prop:=if t then h.IsTuple a items else h.IsList a items
def ItH(t:Bool)(h:Heap)(it a:Addr)(i:Nat):Prop:=if t then h.IsTupleIter it a i else h.IsListIter it a i
noncomputable def itO(t:Bool)(a:Addr):Obj:={cls:= .type (if t then"tuple_iterator"else "list_iterator"),data:= .fields #[.ref a, .int 0 0]}
theorem ItH.at{t:Bool}(x:ItH t h it a i)(e:∀o,h.get? it=some o->h'.get? it=some o):ItH t h' it a i:=by
 cases t<;>(obtain⟨o,ho,r⟩:=x;exact⟨o,e _ ho,r⟩)
theorem ItH.obj{t:Bool}(x:ItH t h it a i):∃o,h.get? it=some o/\(∀v,o.data≠ .cell v)/\o.cls≠ .type "tuple"/\o.cls≠ .type "list":=by
 cases t
 ·obtain ⟨o,ho,c,d⟩:=x
  exact⟨o,ho,(λv z=>by rw[d] at z;cases z),(λz=>by rw[c] at z;injection z with z;exact absurd z ⋯),(λz=>by rw[c] at z;injection z with z;exact absurd z ⋯)⟩
 ·obtain ⟨o,ho,c,d⟩:=x
  exact⟨o,ho,(λv z=>by rw[d] at z;cases z),(λz=>by rw[c] at z;injection z with z;exact absurd z ⋯),(λz=>by rw[c] at z;injection z with z;exact absurd z ⋯)⟩
theorem drawsH(t:Bool)(hh:A.handled=none)(it l:Addr)(hne:l≠it)(items:Array Value):Draws prog w A it [it,l] items.size (λi v=>items[i]?=some v) (λi h=>ItH t h it l i/\SqH t h l items):=by
 cases t
 ·exact Draws.list hh it l hne items
 ·exact draws_tuple hh it l hne items
noncomputable abbrev zpX(h:Heap)(t1:Bool)(l1:Addr):Heap:=h.push (itO t1 l1)
noncomputable abbrev zp2(h:Heap)(t1 t2:Bool)(l1 l2:Addr):Heap:=(zpX h t1 l1).push (itO t2 l2)
noncomputable abbrev zpf(h:Heap)(t1 t2:Bool)(l1 l2:Addr):Heap:=(zp2 h t1 t2 l1 l2).push {cls:= .type "tuple",data:= .seq #[.ref h.objs.size, .ref (zpX h t1 l1).objs.size]}
noncomputable abbrev zqf(h:Heap)(t1 t2:Bool)(l1 l2:Addr):Heap:=(zpf h t1 t2 l1 l2).push {cls:= .type "tuple",data:= .seq #[.none, .none]}
noncomputable abbrev zka(h:Heap)(t1 t2:Bool)(l1 l2:Addr):Heap:=(zqf h t1 t2 l1 l2).push {cls:= .type "zip",data:= .fields #[.none, .bool false, .bool false, .ref (zp2 h t1 t2 l1 l2).objs.size, .ref (zpf h t1 t2 l1 l2).objs.size]}
theorem znR(t1 t2:Bool)(l1 l2:Addr)(xs ys:Array Value):
 Meets (Builtin.«zip.__new__» ⟨[.type "zip", .ref l1, .ref l2],[]⟩) (λ_ R s=>SqH t1 s.heap l1 xs/\SqH t2 s.heap l2 ys/\
  R (.ok (.ret (.ref (zqf s.heap t1 t2 l1 l2).objs.size))) {s with heap:=zka s.heap t1 t2 l1 l2}):=
 .of_wp λprog w A R s h=>by
  obtain⟨hp,g,d,tk,os⟩:=s;obtain⟨hl1,hl2,h⟩:=h
  have hsub:=sub_zip
  cases t1<;>cases t2
  ·have hL1:Heap.IsList (Shared.heap ⟨hp,g,d,tk,os⟩) l1 xs:=hl1
   have hL2:Heap.IsList (Shared.heap ⟨hp.push {cls:= .type "list_iterator",data:= .fields #[.ref l1, .int 0 0]},g,d,tk,os⟩) l2 ys:=Heap.IsList.push hl2 _
   wp_walk using wpAny_pyIter_list hL1,wpAny_pyIter_list hL2
   exact⟨_,rfl,h⟩
  ·have hL1:Heap.IsList (Shared.heap ⟨hp,g,d,tk,os⟩) l1 xs:=hl1
   have hL2:Heap.IsTuple (Shared.heap ⟨hp.push {cls:= .type "list_iterator",data:= .fields #[.ref l1, .int 0 0]},g,d,tk,os⟩) l2 ys:=(show Heap.IsTuple _ l2 ys from hl2).at λo e=>C0 _ e
   wp_walk using wpAny_pyIter_list hL1,wpAny_pyIter_tuple hL2
   exact⟨_,rfl,h⟩
  ·have hL1:Heap.IsTuple (Shared.heap ⟨hp,g,d,tk,os⟩) l1 xs:=hl1
   have hL2:Heap.IsList (Shared.heap ⟨hp.push {cls:= .type "tuple_iterator",data:= .fields #[.ref l1, .int 0 0]},g,d,tk,os⟩) l2 ys:=Heap.IsList.push hl2 _
   wp_walk using wpAny_pyIter_tuple hL1,wpAny_pyIter_list hL2
   exact⟨_,rfl,h⟩
  ·have hL1:Heap.IsTuple (Shared.heap ⟨hp,g,d,tk,os⟩) l1 xs:=hl1
   have hL2:Heap.IsTuple (Shared.heap ⟨hp.push {cls:= .type "tuple_iterator",data:= .fields #[.ref l1, .int 0 0]},g,d,tk,os⟩) l2 ys:=(show Heap.IsTuple _ l2 ys from hl2).at λo e=>C0 _ e
   wp_walk using wpAny_pyIter_tuple hL1,wpAny_pyIter_tuple hL2
   exact⟨_,rfl,h⟩
theorem ItH.new{t:Bool}(e:h.get? it=some (itO t a)):ItH t h it a 0:=by
 cases t
 ·exact ⟨_,e,rfl,rfl⟩
 ·exact ⟨_,e,rfl,rfl⟩
theorem call_zp{xs ys:Array Value}(hl1:SqH t1 s.heap l1 xs)(hl2:SqH t2 s.heap l2 ys)
 (h:∀h',IsZip h' (s.heap.objs.size+4) (s.heap.objs.size+2) (s.heap.objs.size+3) .none->IsPair h' (s.heap.objs.size+2) (.ref s.heap.objs.size) (.ref (s.heap.objs.size+1))->
   IsPair h' (s.heap.objs.size+3) .none .none->ItH t1 h' s.heap.objs.size l1 0->ItH t2 h' (s.heap.objs.size+1) l2 0->h'.objs.size=s.heap.objs.size+5->
   (∀c o,s.heap.get? c=some o->h'.get? c=some o)->Q (.ref (s.heap.objs.size+4)) {s with heap:=h'}):
 wpAny `i4 A (call (.type "zip") [.ref l1, .ref l2]) Q E s:=by
 refine callType_new F.called_zip ⋯ (F.typeCall_zip_2 _ _) (F.newCall_zip_2 _ _) (λobj=>F.args_object_init_3 obj _ _) F.entry_zip_new
  (znR t1 t2 l1 l2 xs ys) ⟨hl1,hl2,?_⟩
 have z1:(zpX s.heap t1 l1).objs.size=s.heap.objs.size+1:=Heap.size_push ..
 have z2:(zp2 s.heap t1 t2 l1 l2).objs.size=s.heap.objs.size+2:=by rw[Heap.size_push,z1]
 have z3:(zpf s.heap t1 t2 l1 l2).objs.size=s.heap.objs.size+3:=by rw[Heap.size_push,z2]
 have z4:(zqf s.heap t1 t2 l1 l2).objs.size=s.heap.objs.size+4:=by rw[Heap.size_push,z3]
 have z5:(zka s.heap t1 t2 l1 l2).objs.size=s.heap.objs.size+5:=by rw[Heap.size_push,z4]
 have g5:(zka s.heap t1 t2 l1 l2).get? (zqf s.heap t1 t2 l1 l2).objs.size=some _:=Q0 _ rfl
 have g4:(zka s.heap t1 t2 l1 l2).get? (zpf s.heap t1 t2 l1 l2).objs.size=some _:=C0 _ (Q0 _ rfl)
 have g3:(zka s.heap t1 t2 l1 l2).get? (zp2 s.heap t1 t2 l1 l2).objs.size=some _:=C0 _ (C0 _ (Q0 _ rfl))
 have g2:(zka s.heap t1 t2 l1 l2).get? (zpX s.heap t1 l1).objs.size=some _:=C0 _ (C0 _ (C0 _ (Q0 _ rfl)))
 have g1:(zka s.heap t1 t2 l1 l2).get? s.heap.objs.size=some _:=C0 _ (C0 _ (C0 _ (C0 _ (Q0 _ rfl))))
 show _/\_
 rw[z2,z3,z4] at g5
 rw[z1,z2] at g3
 rw[z3] at g4
 rw[z1] at g2
 rw[z4]
 exact⟨⟨_,g5,rfl⟩,h _ g5 g3 g4 (ItH.new g1) (ItH.new g2) z5 λc o x=>
  C0 _ (C0 _ (C0 _ (C0 _ (C0 _ x))))⟩
def SqZ(t:Bool)(H:Hp)(a:Addr)(xs:List V):Prop:=if t then H a=some (.tup xs)else H a=some (.lst xs)
theorem SqZ.some{t:Bool}{H:Hp}{a:Addr}{xs:List V}(h:SqZ t H a xs):∃o,H a=some o:=by cases t<;>exact ⟨_,h⟩
theorem SqZ.inj{t:Bool}(h:SqZ t H a xs)(g:SqZ t H a ys):xs=ys:=by
 cases t
 ·have e:=(show H a=Option.some (.lst xs)from h).symm.trans (show H a=Option.some (.lst ys)from g);cases e;rfl
 ·have e:=(show H a=Option.some (.tup xs)from h).symm.trans (show H a=Option.some (.tup ys)from g);cases e;rfl
theorem zfG{t:Bool}(I:Inv X pins σ H s)(h:SqZ t H a xs):∃its:List Value,Vals xs its/\SqH t s.heap a its.toArray:=by
 cases t
 ·obtain ⟨its,rv,p,_⟩:=I.list (SqL.of (show H a=Option.some (.lst xs)from h));exact⟨its,rv,p.isList⟩
 ·obtain ⟨its,rv,p,_⟩:=I.tuple (show SqT X.K H a xs from .inl (.inl (show H a=Option.some (.tup xs)from h)));exact⟨its,rv,p⟩
noncomputable def Itz(t1 t2:Bool)(a b:Addr)(n:Nat):It:=
 ⟨λi H=>∃xs ys x y,SqZ t1 H a xs/\SqZ t2 H b ys/\min xs.length ys.length=n/\xs[i]?=some x/\ys[i]?=some y,
  λi H x H'=>∃T xs ys u v,SqZ t1 H a xs/\SqZ t2 H b ys/\x= .ref T/\H T=none/\xs[i]?=some u/\ys[i]?=some v/\H'=upd H T (.tup [u,v]),
  λi H=>∃xs ys,SqZ t1 H a xs/\SqZ t2 H b ys/\min xs.length ys.length=n/\n<=i⟩
structure ZpA(z TI TO i1 i2:Addr):Prop where
 TIz:TI≠z
 TOz:TO≠z
 i1z:i1≠z
 i2z:i2≠z
 TITO:TI≠TO
 TIi1:TI≠i1
 TIi2:TI≠i2
 TOi1:TO≠i1
 TOi2:TO≠i2
 i12:i1≠i2
theorem ZpA.apart{TI TO:Addr}(Z:ZpA z TI TO i1 i2)(hf:∀b∈ [z,TI,TO,i1,i2],H b=none)(h1:∃o,H l1=some o)(h2:∃o,H l2=some o):ZipApart z TI TO i1 i2 l1 l2:=by
 have n1:∀b∈ [z,TI,TO,i1,i2],l1≠b:=λb hb e=>by obtain⟨o,h⟩:=h1;rw[e,hf b hb] at h;cases h
 have n2:∀b∈ [z,TI,TO,i1,i2],l2≠b:=λb hb e=>by obtain⟨o,h⟩:=h2;rw[e,hf b hb] at h;cases h
 exact⟨Z.TIz,Z.TOz,Z.i1z,Z.i2z,Z.TITO,Z.TIi1,Z.TIi2,Z.TOi1,Z.TOi2,Z.i12,n1 _ `n3,n1 _ `n3,n1 _ `n3,n1 _ `n3,n2 _ `n3,n2 _ `n3,n2 _ `n3,n2 _ `n3⟩
theorem Inv.stepF{h2:Heap}{tk:Nat}(I:Inv X pins σ H s)(hf:∀b∈fp,zfa X pins H b)(kk:∀b o,b∉fp->s.heap.get? b=some o->h2.get? b=some o):
 Inv X pins σ H {s with heap:=h2,toks:=tk}:=by
 refine Inv.step (s:=s) (h':=h2) (t':=tk) (g':=s.gens) (d':=s.drawn) (ch:=fp) I (λb hb=>?_) (λb o _ _ hc e' _=>kk b o hc e') (λb o _ _ hc e' _=>⟨o.slots,kk b o hc e'⟩) (λ_ _ _ _ z=>z) (λb o hc e'=>⟨o,kk b o hc e'⟩) (λ_ _ z=>z) (λ_ _ _ z=>z) (λb ps z=>⟨#[],by rw[z];simp⟩) (λm hm=>?_) (λb u' z=>?_) I.bare
 ·obtain ⟨f0,f1,f2,f3,f4,f5⟩:=hf b hb
  exact⟨f3,f1,f4,f5⟩
 ·obtain ⟨o,es,ep,ho,r⟩:=hm
  exact⟨o,es,ep,kk _ o (λz=>(hf _ z).2.1 rfl) ho,r⟩
 ·refine (I.hok b u' z).stay (λc v hc q=>kk c v (λy=>?_) q) (λc q=>q) λc xs q=>q
  have:∃u2,H c=some u2:=by
   rcases hc with rfl|hc
   ·exact ⟨_,z⟩
   ·exact ⟨_,hc⟩
  obtain⟨u2,hu2⟩:=this
  rw[(hf c y).1] at hu2;cases hu2
theorem zm9(a b z TI TO i1 i2:Addr)(n:Nat)(Z:ZpA z TI TO i1 i2):
 Turn P w K (.Tuple elts k pos) (Itz t1 t2 a b n) [z,TI,TO,i1,i2] z (λi h=>i<=n/\IsZip h z TI TO .none/\IsPair h TI (.ref i1) (.ref i2)/\(∃x y,IsPair h TO x y)/\ItH t1 h i1 a i/\ItH t2 h i2 b i) where
 mem:=`n3
 obj:=λi h st c hc=>by
  obtain⟨_,hz,hTI,⟨x,y,hTO⟩,h1,h2⟩:=st
  simp only[K0,C3,or_false] at hc
  rcases hc with rfl|rfl|rfl|rfl|rfl
  ·exact ⟨_,hz,λv e=>by cases e⟩
  ·exact ⟨_,hTI,λv e=>by cases e⟩
  ·exact ⟨_,hTO,λv e=>by cases e⟩
  ·obtain ⟨o,ho,d,_⟩:=h1.obj;exact⟨o,ho,d⟩
  ·obtain ⟨o,ho,d,_⟩:=h2.obj;exact⟨o,ho,d⟩
 keep:=λi h h' st kk=>by
  obtain⟨l,hz,hTI,⟨x,y,hTO⟩,h1,h2⟩:=st
  exact⟨l,kk _ `n3 _ hz,kk _ `n3 _ hTI,⟨x,y,kk _ `n3 _ hTO⟩,h1.at λo e=>kk _ `n3 o e,h2.at λo e=>kk _ `n3 o e⟩
 item:=by
  intro X hP hw hK hc i pins s σ H E I hf st hg
  subst hP hw hK
  obtain⟨xs,ys,x,y,hq1,hq2,hn,hx,hy⟩:=hg
  obtain⟨it1,rv1,p1⟩:=zfG I hq1
  obtain⟨it2,rv2,p2⟩:=zfG I hq2
  obtain⟨u1,hu1,ru1⟩:=rv1.get hx
  obtain⟨u2,hu2,ru2⟩:=rv2.get hy
  have hf0:∀c∈ [z,TI,TO,i1,i2],H c=none:=λc hc=>(hf c hc).1
  have D:=Z.apart hf0 hq1.some hq2.some
  obtain⟨hin,hz,hTI,⟨x0,y0,hTO⟩,h1,h2⟩:=st
  have L1:i<it1.toArray.size:=by
   rcases R1 i it1.length with q|q
   ·simpa using q
   ·rw[G0 q] at hu1;cases hu1
  have L2':i<it2.toArray.size:=by
   rcases R1 i it2.length with q|q
   ·simpa using q
   ·rw[G0 q] at hu2;cases hu2
  have hT:s.TypeIs (.ref z) "zip":=⟨_,hz,rfl⟩
  unfold pyNext
  refine A0 (wpAny_attempt (B3 (name:=Str.ofString "__next__") hT F.slot_zip_next (Q2 F.slot_zip_next hT F.entry_zip_next
   (zip_itemD D (drawsH (A:=X.A.in1) t1 (I.ok.hd hc) i1 a D.l1i1 it1.toArray) (drawsH (A:=X.A.in1) t2 (I.ok.hd hc) i2 b D.l2i2 it2.toArray) hz hTI hTO ⟨h1,p1⟩ ⟨h2,p2⟩ L1 L2' λx' y' h' tk hx' hy' az ao a1 a2 aT asz hk=>?_) (F.args_zip_next_1 _))))
  refine D0 ?_
  obtain⟨T,hTT⟩:∃T,T=s.heap.objs.size:=⟨_,rfl⟩
  rw[←hTT] at az aT⊢
  have e1:x'=u1:=by
   have:it1.toArray[i]?=some u1:=by simpa using hu1
   rw[this] at hx';exact(U1 hx').symm
  have e2:y'=u2:=by
   have:it2.toArray[i]?=some u2:=by simpa using hu2
   rw[this] at hy';exact(U1 hy').symm
  subst e1 e2
  refine⟨_,rfl,wpAny_letOwnedTupleGo_zip az λh2' hz2 hs2=>?_⟩
  have ltT:∀{c o},s.heap.get? c=some o->c≠T:=λq e=>by
   have:=X0 q
   rw[e,hTT] at this
   exact absurd this (R3 _)
  have nTz:T≠z:=Ne.symm (ltT hz)
  have hT2:h2'.get? T=some {cls:= .type "tuple",data:= .seq #[x',y']}:=hs2.extBut _ _ nTz aT
  have fT:H T=none:=I.hok.fresh (Nat.le_of_eq hTT.symm)
  have kk:∀c o,c∉ [z,TI,TO,i1,i2]->s.heap.get? c=some o->h2'.get? c=some o:=λc o hc e=>hs2.extBut _ _ (λq=>hc (by simp[q])) (hk c o (λq=>hc (by simp[q])) (λq=>hc (by simp[q])) (λq=>hc (by simp[q])) (λq=>hc (by simp[q])) e)
  have nT:T∉ [z,TI,TO,i1,i2]:=λq=>by
   simp only[K0,C3,or_false] at q
   rcases q with q|q|q|q|q
   ·exact nTz q
   ·exact ltT hTI q.symm
   ·exact ltT hTO q.symm
   ·obtain ⟨o,ho,_⟩:=h1.obj;exact ltT ho q.symm
   ·obtain ⟨o,ho,_⟩:=h2.obj;exact ltT ho q.symm
  have neT:∀{c u'},H c=some u'->c≠T:=λq e=>by rw[e,fT] at q;cases q
  refine⟨.ref T,upd H T (.tup [x,y]),?_,rfl,⟨T,xs,ys,x,y,hq1,hq2,rfl,fT,hx,hy,rfl⟩,⟨?_,hz2,hs2.extBut _ _ Z.TIz (hk _ _ Z.TIz Z.TITO Z.TIi1 Z.TIi2 hTI),⟨_,_,hs2.extBut _ _ Z.TOz ao⟩,a1.1.at λo e=>hs2.extBut _ _ Z.i1z e,a2.1.at λo e=>hs2.extBut _ _ Z.i2z e⟩,λc hc=>?_⟩
  ·show Inv X pins σ _ {s with heap:=h2',gens:=s.gens,drawn:=s.drawn,toks:=tk}
   refine Inv.step (s:=s) (h':=h2') (t':=tk) (g':=s.gens) (d':=s.drawn) (ch:=[z,TI,TO,i1,i2]) I (λc hc=>?_) (λc o _ _ hc e' _=>kk c o hc e') (λc o _ _ hc e' _=>⟨o.slots,kk c o hc e'⟩) (λc o _ e' q=>by rw[zj (ltT e')];exact q) (λc o hc e'=>⟨o,kk c o hc e'⟩) (λc xs q=>by rw[zj (neT q)];exact q) (λc o u' q=>by rw[zj (neT q)];exact q) (λc ps q=>⟨#[],by rw[zj (neT q),q];simp⟩) (λm hm=>?_) (λc u' q=>?_) I.bare
   ·obtain ⟨f0,f1,f2,f3,f4,f5⟩:=hf c hc
    exact⟨f3,f1,f4,f5⟩
   ·obtain ⟨o,es,ep,ho,r⟩:=hm
    exact⟨o,es,ep,kk _ o (λq=>(hf _ q).2.1 rfl) ho,r⟩
   ·by_cases hb:c=T
    ·subst hb
     rw[zc] at q
     cases q
     exact⟨few rfl,[x',y'], .cons ru1 (.cons ru2 .nil),⟨_,hT2,rfl,_,rfl⟩,λo q=>by rw[hT2] at q;cases q;rfl⟩
    ·rw[zj hb] at q
     refine(I.hok c u' q).stay (λd v hd q'=>kk d v (λy'=>?_) q') (λd q'=>by rw[zj (neT q')];exact q') λd xs q'=>by rw[zj (neT q')];exact q'
     have:∃u2,H d=some u2:=by
      rcases hd with rfl|hd
      ·exact ⟨_,q⟩
      ·exact ⟨_,hd⟩
     obtain⟨u2,hu2⟩:=this
     rw[hf0 d y'] at hu2;cases hu2
  ·have m1:i<xs.length:=by
    rcases R1 i xs.length with q|q
    ·exact q
    ·rw[G0 q] at hx;cases hx
   have m2:i<ys.length:=by
    rcases R1 i ys.length with q|q
    ·exact q
    ·rw[G0 q] at hy;cases hy
   rw[←hn]
   exact Nat.lt_min.mpr ⟨m1,m2⟩
  ·have:c≠T:=λq=>nT (by rw[←q];exact hc)
   rw[zj this]
   exact(hf c hc).1
 done:=by
   intro X hP hw hK hc i pins s σ H E I hf st hg
   subst hP hw hK
   obtain⟨xs,ys,hq1,hq2,hn,hle⟩:=hg
   obtain⟨it1,rv1,p1⟩:=zfG I hq1
   obtain⟨it2,rv2,p2⟩:=zfG I hq2
   have hf0:∀c∈ [z,TI,TO,i1,i2],H c=none:=λc hc=>(hf c hc).1
   have D:=Z.apart hf0 hq1.some hq2.some
   obtain⟨hin,hz,hTI,⟨x0,y0,hTO⟩,h1,h2⟩:=st
   have ei:i=min xs.length ys.length:=()
   have l1:=rv1.length
   have l2:=rv2.length
   have hend:i=it1.toArray.size\/(i<it1.toArray.size/\i=it2.toArray.size):=by
    simp only[K1]
    rcases R1 ys.length xs.length with q|q
    ·exact .inr ⟨(),()⟩
    ·exact .inl ()
   have hT:s.TypeIs (.ref z) "zip":=⟨_,hz,rfl⟩
   unfold pyNext
   refine A0 (wpAny_attempt (B3 (name:=Str.ofString "__next__") hT F.slot_zip_next (Q2 F.slot_zip_next hT F.entry_zip_next
    (zip_endD D (drawsH (A:=X.A.in1) t1 (I.ok.hd hc) i1 a D.l1i1 it1.toArray) (drawsH (A:=X.A.in1) t2 (I.ok.hd hc) i2 b D.l2i2 it2.toArray) hz hTI hTO ⟨h1,p1⟩ ⟨h2,p2⟩ hend λh' tk e hk he=>?_) (F.args_zip_next_1 _))))
   obtain⟨o,ho,hce⟩:=he
   refine A0 (wpAny_isInstance (T:="StopIteration") (b:=true) ⟨o,ho,hce⟩ isSubtype_stop ?_)
   refine D0 ⟨rfl,I.stepF (fp:=[z,TI,TO,i1,i2]) hf λc o hc e=>hk c o (λq=>hc (by simp[q])) (λq=>hc (by simp[q])) (λq=>hc (by simp[q])) (λq=>hc (by simp[q])) e⟩
 self:=λA i s Q E st h=>wpAny_pyIter_zip st.2.1 h
noncomputable def zs4(ta:TA):TI:=λσ H R=>ta σ H λvs H1=>∃a b t1 t2 xs ys,vs=[.ref a, .ref b]/\SqZ t1 H1 a xs/\SqZ t2 H1 b ys/\R (Itz t1 t2 a b (min xs.length ys.length)) H1
theorem zoB:bootBuiltins "zip"=some (.type "zip"):=by kernel_rfl
theorem zsb{a b:Expr}{p:Pos}(hm:X.mg "zip"=none)(ha:QA X [a,b] ta)(hg:autoParam (Gl X "zip") u4)(hs:autoParam (starEach [a,b] X.env=[(false,eval a X.env),(false,eval b X.env)]) u4)(hs2:autoParam (starEach [b] X.env=[(false,eval b X.env)]) u4):QI X (.Tuple elts k pos2) (.Call (.Name "zip" p) [a,b] [] pos) (zs4 ta):=⟨by
 intro pins s σ H R I h
 refine Call_ (zc9 I hg hm zoB (PyProof.Rows.callWith_type1 (thn (ha.o pos pins s σ H _ I h) λus s1 ⟨vs,H1,I1,r1,q1⟩=>?_) (by rw[hs,hs2]) (by rw[hs2];rfl)))
 obtain⟨l1,l2,t1,t2,xs,ys,rfl,hq1,hq2,q⟩:=q1
 obtain⟨u,v,rfl,ru,rv⟩:=zhh r1
 cases ru
 cases rv
 obtain⟨it1,rv1,p1⟩:=zfG I1 hq1
 obtain⟨it2,rv2,p2⟩:=zfG I1 hq2
 refine call_zp p1 p2 λh' hz hTI hTO hi1 hi2 hsz kk=>?_
 have Z:ZpA (s1.heap.objs.size+4) (s1.heap.objs.size+2) (s1.heap.objs.size+3) s1.heap.objs.size (s1.heap.objs.size+1):=by constructor<;>(intro e;have e':(_:Nat)=_:=e;lia)
 refine wpAny_pyIter_zip hz ?_
 refine⟨s1.heap.objs.size+4,[s1.heap.objs.size+4,s1.heap.objs.size+2,s1.heap.objs.size+3,s1.heap.objs.size,s1.heap.objs.size+1],_,_,H1,rfl,I1.kept (t':=s1.toks) kk,zm9 l1 l2 _ _ _ _ _ (min xs.length ys.length) Z,⟨K2 _,hz,hTI,⟨_,_,hTO⟩,hi1,hi2⟩,λc hc=>?_,q⟩
 have hb':s1.heap.objs.size<=c:=by
  simp only[K0,C3,or_false] at hc
  rcases hc with e|e|e|e|e<;>(have e':(c:Nat)=_:=e;rw[e'];first|exact O0 _|exact Nat.le_add_right _ _)
 exact I1.fpOk hb' (I1.hok.fresh hb')⟩
theorem zo3{g:TG}{D:Ends}(Pv:Nat->St->Hp->Prop)(h0:Pv 0 σ H)(hgo:∀i σ H,i<n->Pv i σ H->J.go i H)(hst:∀σ H,Pv n σ H->J.stop n H)
 (hs:∀i x σ H H1,i<n->Pv i σ H->J.yld i H x H1->g x σ H1 λσ2 H2=>tb {D with nx:=Pv (i+1),ct:=Pv (i+1),bk:=D.nx} σ2 H2) (hd:∀σ H,Pv n σ H->D.nx σ H):zlr g tb D σ J H:=by
 refine⟨λi m σ H=>m=n -i/\i<=n/\Pv i σ H,⟨n,`n3,K2 _,h0⟩,?_⟩
 rintro i m σ H ⟨rfl,hi,p⟩
 by_cases hlt:i<n
 ·exact .inr ⟨hgo i σ H hlt p,Pv (i+1),λσ' H' q=>⟨n -(i+1),(),rfl,hlt,q⟩,λx H' y=>hs i x σ H H' hlt p y⟩
 ·have e:i=n:=()
  subst e
  exact .inl ⟨hst σ H p,hd σ H p⟩
theorem znC{g:TG}{src:List (Option Nat)}{Q:VK}(Pv:Addr->Nat->List V->St->Hp->Prop)
 (h0:∀l,H1 l=none->Pv l 0 [] (zeM src σ) (upd H1 l (.lst []))) (hgo:∀l i ys σ H,H1 l=none->i<n->Pv l i ys σ H->J.go i H) (hst:∀l ys σ H,H1 l=none->Pv l n ys σ H->J.stop n H)
 (hs:∀l i x ys σ H H2,H1 l=none->i<n->Pv l i ys σ H->H l=some (.lst ys)->J.yld i H x H2->g x σ H2 λσ2 H3=>tc σ2 H3 λb H4=>
   if b=true then te σ2 H4 λy H5=>H5 l=some (.lst ys)/\ys.length<sizeLine/\Pv l (i+1) (ys ++ [y]) σ2 (upd H5 l (.lst (ys ++ [y])))else H4 l=some (.lst ys)/\Pv l (i+1) ys σ2 H4)
 (hd:∀l ys σ H,H1 l=none->Pv l n ys σ H->H l=some (.lst ys)->Q (.ref l) H):zcG g tc te src σ Q J H1:=by
 intro l hl
 refine⟨λi m ys σ H=>m=n -i/\i<=n/\Pv l i ys σ H,⟨n,`n3,K2 _,h0 l hl⟩,?_⟩
 rintro i m ys σ' H' ⟨rfl,hi,p⟩ hl'
 by_cases hlt:i<n
 ·exact .inr ⟨hgo l i ys σ' H' hl hlt p,Pv l (i+1),λzs σ2 H2 q=>⟨n -(i+1),(),rfl,hlt,q⟩,λx H2 y=>hs l i x ys σ' H' H2 hl hlt p hl' y⟩
 ·have e:i=n:=()
  subst e
  exact .inl ⟨hst l ys σ' H' hl p,hd l ys σ' H' hl p hl'⟩
section
variable{t1 i1 t2 i2:Expr}{it:Value}
end
section
variable{src:List (Option Nat)}{g:TG}
end
def zsm(v:V)(y:Str):Prop:=v= .str y\/∃i:Int,v= .int i/\y=(toString i:String)/\i.natAbs.log2<1920
section
variable{ts:List TE}
structure QP1(X:Cx)(e:Expr)(te:TE):Prop where
 o:∀(pins:List (Addr×Obj)) (s:Shared) (σ:St) (H:Hp) (Q:Str->Hp->Prop),Inv X pins σ H s->(te σ H λv H1=>∃y,zsm v y/\y.length<=sizeLine/\Q y H1)->
  wpAny (model X.prog X.w) X.A (eval e X.env) (λu s1=>∃y t H1,u= .str y t/\Inv X pins σ H1 s1/\Q y H1) X.xe s
inductive QJ(X:Cx):List Expr->List TE->Prop
 |nil:QJ X [] []
 |cons {e:Expr} {t:TE} {es:List Expr} {ts:List TE} (h:QP1 X e t) (r:QJ X es ts):QJ X (e::es) (t::ts)
end
section
variable{K:Type}[DecidableEq K]{knd:KeyKind prog w K}
structure DzAt(h:Heap)(knd:KeyKind prog w K)(t1 t2:Bool)(z TI i1 i2 l1 l2 d:Addr)(xs ys:Array Value)(kvs:List (K×Value))(i:Nat):Prop where
 TI:IsPair h TI (.ref i1) (.ref i2)
 p1:ItH t1 h i1 l1 i
 p2:ItH t2 h i2 l2 i
 q1:SqH t1 h l1 xs
 q2:SqH t2 h l2 ys
 dd:h.DictOf knd d kvs
structure DzD(z TI TO0 i1 i2 l1 l2 d:Addr):Prop extends ZipApart z TI TO0 i1 i2 l1 l2 where
 dz:d≠z
 dTI:d≠TI
 di1:d≠i1
 di2:d≠i2
 dl1:d≠l1
 dl2:d≠l2
 TIl1:True
end
section
open PySem.W
section
variable{N:Nat}{lt:Nat->Nat->Bool}
theorem zop{p:Array Nat}(hp:PermN N p)(i n:Nat):PermN N (kas_rev p i n):=(Array.perm_iff_toList_perm.mp (mirror_perm p i n _)).trans hp
theorem zoF{p:Array Nat}(hp:PermN N p):∀f n,1<=n->n+f<=N->OkT N lt (kas_asc p f n) (λm=>n<=m/\m<=n+f)
 |0,n,_,_=>⟨O0 _,O0 _⟩
 |f+1,n,h1,hn=>by
  refine⟨hp.bd (),hp.bd (),?_⟩
  cases hc:lt (gd p n) (gd p (n -1))with
  |true=>
   show OkT N lt (if true=true then _ else _) _
   rw[E1 rfl]
   exact⟨O0 _,()⟩
  |false=>
   show OkT N lt (if false=true then _ else _) _
   rw[Y0 ⋯]
   exact OkT.mono (λm hm=>⟨(),()⟩) (zoF hp f (n+1) () ())
theorem zhS:∀f (p:Array Nat) n q,PermN N p->1<=n->n+f<=N->OkT N lt (kas_desc f p n q) (λr=>PermN N r.1/\n<=r.2.1/\r.2.1<=n+f)
 |0,p,n,q,hp,_,_=>⟨hp,O0 _,O0 _⟩
 |f+1,p,n,q,hp,h1,hn=>by
  refine⟨hp.bd (),hp.bd (),?_⟩
  cases hc:lt (gd p n) (gd p (n -1))with
  |true=>
   show OkT N lt (if true=true then(if q>0 then _ else _)else _) _
   rw[E1 rfl]
   split
   ·exact OkT.mono (λm hm=>⟨hm.1,(),()⟩) (zhS f _ (n+1) 0 (zop hp _ _) () ())
   ·exact OkT.mono (λm hm=>⟨hm.1,(),()⟩) (zhS f _ (n+1) 0 hp () ())
  |false=>
   show OkT N lt (if false=true then _ else _) _
   rw[Y0 ⋯]
   refine⟨hp.bd (),hp.bd (),?_⟩
   cases hd:lt (gd p (n -1)) (gd p n)with
   |true=>
    show OkT N lt (if true=true then _ else _) _
    rw[E1 rfl]
    exact⟨hp,O0 _,by show n<=n+(f+1);lia⟩
   |false=>
    show OkT N lt (if false=true then _ else _) _
    rw[Y0 ⋯]
    exact OkT.mono (λm hm=>⟨hm.1,(),()⟩) (zhS f _ (n+1) _ hp () ())
def zkm(N:Nat)(r:Nat×Array Nat):Prop:=PermN N r.2/\1<=r.1/\r.1<=N
theorem zlo{p:Array Nat}(hp:PermN N p)(h1:1<=n)(hn:n<=N):OkT N lt (kas_tail3 n N p) (zkm N):=by
 refine OkT.bind (OkT.mono (λm hm=>?_) (zoF (zop hp 0 n) (N -n) n h1 ()))
 exact⟨zop hp 0 n,by have:=hm.1;lia,by have:=hm.2;lia⟩
theorem zgH{p:Array Nat}(hp:PermN N p)(h1:1<=n)(hn:n<N):OkT N lt (kas_descPart n N p) (zkm N):=by
 refine OkT.bind (OkT.mono (λr hr=>?_) (zhS (N -(n+1)) p (n+1) 0 hp () ()))
 obtain⟨r1,r2,r3⟩:=hr
 split
 ·exact zlo (zop r1 _ _) () ()
 ·exact zlo r1 () ()
theorem zpO{p:Array Nat}(hp:PermN N p)(h1:1<=N):OkT N lt (kas_count N p) (zkm N):=by
 refine OkT.bind (OkT.mono (λn hn=>?_) (zoF hp (N -1) 1 (O0 _) ()))
 obtain⟨n1,n2⟩:=hn
 by_cases hN:(n==N)=true
 ·rw[E1 hN]
  exact⟨hp,n1,by show n<=N;lia⟩
 ·have hne:n≠N:=by simpa using hN
  rw[Y0 hN]
  by_cases h2:n>1
  ·rw[E1 h2]
   refine⟨hp.bd (),hp.bd (),?_⟩
   cases hc:lt (gd p 0) (gd p (n -1))with
   |true=>
    show OkT N lt (if true=true then _ else _) _
    rw[E1 rfl]
    exact⟨hp,n1,by show n<=N;lia⟩
   |false=>
    show OkT N lt (if false=true then _ else _) _
    rw[Y0 ⋯]
    exact zgH (zop hp 0 n) n1 ()
  ·rw[Y0 h2]
   exact zgH hp n1 ()
theorem zin{p:Array Nat}{k:Nat}(hp:PermN N p)(hk:k<N):∀f l r,l<=r->r<=k->OkT N lt (kas_place p k f l r) (λ_=>True)
 |0,l,r,_,_=>trivial
 |f+1,l,r,h1,h2=>by
  by_cases hlr:l≥r
  ·show OkT N lt (if l≥r then _ else _) _
   rw[E1 hlr]
   trivial
  ·show OkT N lt (if l≥r then _ else _) _
   rw[Y0 hlr]
   refine⟨hp.bd hk,hp.bd (),?_⟩
   cases hc:lt (gd p k) (gd p ((l+r)/2))with
   |true=>
    show OkT N lt (if true=true then _ else _) _
    rw[E1 rfl]
    exact zin hp hk f l ((l+r)/2) () ()
   |false=>
    show OkT N lt (if false=true then _ else _) _
    rw[Y0 ⋯]
    exact zin hp hk f ((l+r)/2+1) r () h2
theorem zqA:∀f (p:Array Nat) k,PermN N p->k+f=N->OkT N lt (kas_bin f p k) (λp'=>PermN N p')
 |0,p,k,hp,hk=>hp
 |f+1,p,k,hp,hk=>by
  refine OkT.bind (OkT.mono (λl _=>?_) (zin hp () k 0 k (K2 _) (O0 _)))
  exact zqA f _ (k+1) ((Array.perm_iff_toList_perm.mp (bubble_perm p k _)).trans hp) ()
theorem zr5(h1:1<=N):OkT N lt (kas_sort N) (λp=>PermN N p):=by
 have h0:PermN N (List.toArray (List.range N)):=by show(List.range N).Perm _;exact List.Perm.refl _
 refine OkT.bind (OkT.mono (λr hr=>?_) (zpO h0 h1))
 obtain⟨c1,c3,c4⟩:=hr
 by_cases h:r.1<N
 ·rw[E1 h]
  have e:max r.1 1=r.1:=()
  rw[e]
  exact zqA _ _ _ c1 ()
 ·rw[Y0 h]
  exact c1
theorem sort_any(h1:1<=N):OkT N lt (kas_sort N) (λp=>PermN N p/\(Strict N lt->Sor lt p N)):=by
 by_cases S:Strict N lt
 ·exact OkT.mono (λp hp=>⟨hp.1,λ_=>hp.2⟩) (sort_ok S h1)
 ·exact OkT.mono (λp hp=>⟨hp,λz=>absurd z S⟩) (zr5 h1)
end
theorem zgG:∀{a b:List Str},ltL a b=true->ltL b a=false
 |[],[],h=>by cases h
 |[],_::_,_=>rfl
 |_::_,[],h=>by cases h
 |x::xs,y::ys,h=>by
  rw[ltL] at h⊢
  by_cases e:x=y
  ·rw[E1 e] at h;rw[E1 e.symm];exact zgG h
  ·rw[Y0 e] at h;rw[Y0 (Ne.symm e)];exact zgf h
theorem zi0:∀{a b:List Str},a≠b->ltL a b=false->ltL b a=true
 |[],[],h,_=>absurd rfl h
 |[],_::_,_,e=>by cases e
 |_::_,[],_,_=>rfl
 |x::xs,y::ys,h,e=>by
  rw[ltL] at e⊢
  by_cases z:x=y
  ·rw[E1 z] at e;rw[E1 z.symm];exact zi0 (λq=>h (by rw[z,q])) e
  ·rw[Y0 z] at e;rw[Y0 (Ne.symm z)];exact zcX z e
theorem zk3:∀{a b c:List Str},ltL a b=true->ltL b c=true->ltL a c=true
 |[],[],_,h,_=>by cases h
 |[],_::_,[],_,h=>by cases h
 |[],_::_,_::_,_,_=>rfl
 |_::_,[],_,h,_=>by cases h
 |_::_,_::_,[],_,h=>by cases h
 |x::xs,y::ys,z::zs,h1,h2=>by
  rw[ltL] at h1 h2⊢
  by_cases e1:x=y
  ·rw[E1 e1] at h1
   subst e1
   by_cases e2:x=z
   ·rw[E1 e2] at h2⊢;exact zk3 h1 h2
   ·rw[Y0 e2] at h2⊢;exact h2
  ·rw[Y0 e1] at h1
   by_cases e2:y=z
   ·rw[E1 e2] at h2;subst e2;rw[Y0 e1];exact h1
   ·rw[Y0 e2] at h2
    have h3:=zfq h1 h2
    rw[Y0 (zkr h3)];exact h3
def TupL(h:Heap)(u:Value)(p:List Str):Prop:=∃b o n its,u= .ref b/\h.get? b=some o/\o.cls= .type "tuple"/\o.data= .seq its n/\Vals (p.map V.str) its.toList
theorem TupL.keeps{p:List Str}(x:TupL h u p)(k:∀b o,h.get? b=some o->h'.get? b=some o):TupL h' u p:=let⟨b,o,n,its,e,g,r⟩:=x;⟨b,o,n,its,e,k _ _ g,r⟩
theorem zjh{prog:Program}{w:World}{A:Around}{s:Shared}{C:Bool->Shared->Prop}{fin:Bool}:∀{p q:List Str} {its jts:List Value} (i:Nat),Vals (p.map V.str) its->Vals (q.map V.str) jts->(fin=decide (p.length+i<q.length+i))->C (ltL p q) s->KatLex prog w A true fin C (its.zip jts) i s
 |[],q,its,jts,i,r1,r2,hf,h=>by
  cases r1
  refine kat_nil ?_
  cases q with
  |nil=>simp at hf;subst hf;exact h
  |cons y ys=>simp at hf;subst hf;exact h
 |x::xs,[],its,jts,i,r1,r2,hf,h=>by
  cases r2
  rw[List.zip_nil_right]
  refine kat_nil ?_
  rw[A1 `n3] at hf;subst hf;exact h
 |x::xs,y::ys,its,jts,i,r1,r2,hf,h=>by
  cases r1 with
  |cons a1 r1=>
   cases r2 with
   |cons a2 r2=>
    obtain⟨t1,rfl⟩:=a1
    obtain⟨t2,rfl⟩:=a2
    rw[List.zip_cons_cons]
    refine kat_cons (wpAny_eqBool_str ?_)
    rw[ltL] at h
    by_cases e1:x=y
    ·rw[E1 e1] at h
     rw[N0 e1]
     exact kat_yes (zjh (i+1) r1 r2 (by rw[hf];simp only[O1];congr 1;exact propext ⟨λh=>(),λh=>()⟩) h)
    ·rw[Y0 e1] at h
     rw[A1 e1]
     refine kat_no ?_
     cases i with
     |zero=>
      show wpAny `i4 A (oneLt' true (.str x t1) (.str y t2)) C _ s
      exact oneLt_str h
     |succ i=>
      show wpAny `i4 A (oneLt' false (.str x t1) (.str y t2)) C _ s
      exact kat_one _ _ (lt_str h)
theorem zny{v:Value}{p q:List Str}{C:Bool->Shared->Prop}(x:TupL s.heap u p)(y:TupL s.heap v q)(h:C (ltL p q) s):wpAny `i4 A (keyLt' (tuples' true) u v) C E s:=by
 obtain⟨b,o,n,its,rfl,g,_,d,r⟩:=x
 obtain⟨b',o',n',jts,rfl,g',_,d',r'⟩:=y
 refine kat_lt g d g' d' (zjh 0 r r' ?_ h)
 have l1:=r.length
 have l2:=r'.length
 simp only[B0,j1] at l1 l2
 rw[Nat.add_zero,Nat.add_zero,l1,l2]
theorem zi7{h:Heap}:∀{us:List Value} {ps:List (List Str)},us.length=ps.length->(∀p∈ps,0<p.length)->(∀(i:Nat) (u:Value) (p:List Str),us[i]?=some u->ps[i]?=some p->TupL h u p)->∃fs,KatTups h us fs/\fs.length=us.length/\∀f∈fs,∃x t,f=Value.str x t
 |[],[],_,_,_=>⟨[],trivial,rfl,λ_ z=>nomatch z⟩
 |[],_::_,z,_,_=>by simp at z
 |_::_,[],z,_,_=>by simp at z
 |u::us,p::ps,hl,hp,hx=>by
  obtain⟨fs,h1,h2,h3⟩:=zi7 (us:=us) (ps:=ps) (by simpa using hl) (λq hq=>hp q (N1 _ hq)) λi u p e1 e2=>hx (i+1) u p (by simpa using e1) (by simpa using e2)
  obtain⟨b,o,n,its,rfl,g,c,d,r⟩:=hx 0 u p rfl rfl
  obtain⟨x,xs,rfl⟩:∃x xs,p=x::xs:=by
   match p,hp p (Z0)with
   |x::xs,_=>exact ⟨x,xs,rfl⟩
  obtain⟨l⟩:=its
  cases r with
  |cons a r=>
   obtain⟨t,rfl⟩:=a
   refine⟨.str x t::fs,KatTups.cons g c d rfl h1,by simp[h2],λf hf=>?_⟩
   rcases K0.mp hf with rfl|hf
   ·exact ⟨_,_,rfl⟩
   ·exact h3 f hf
noncomputable def lAt(ps:List (List Str))(i:Nat):List Str:=ps.getD i []
theorem zjT{ps:List (List Str)}(hn:ps.Nodup):Strict ps.length (λi j=>ltL (lAt ps i) (lAt ps j)) where
 tot:=λi j hi hj hij e=>zi0 (λz=>hij ((List.getElem_inj hn (h₀:=hi) (h₁:=hj)).mp (by unfold lAt at z;simpa[hi,hj] using z))) e
 tr:=λi j k _ _ _ h1 h2=>zk3 h1 h2
 asy:=λi j _ _ h=>zgG h
theorem zp6{ps:List (List Str)}:(List.range ps.length).map (lAt ps)=ps:=by
 apply List.ext_getElem?
 intro i
 rw[V0]
 rcases R1 i ps.length with h|h
 ·rw[List.getElem?_range h]
  show some (lAt ps i)=_
  unfold lAt
  simp[h]
 ·rw[G0 (by simpa using h),G0 h];rfl
def zbU(H:Hp)(vs:List V)(ps:List (List Str)):Prop:=vs.length=ps.length/\∀(i:Nat) (v:V) (p:List Str),vs[i]?=some v->ps[i]?=some p->∃b,v= .ref b/\H b=some (.tup (p.map V.str))
theorem zkv(hl:vs.length=us.length)(h:∀(i:Nat) (v:V) (u:Value),vs[i]?=some v->us[i]?=some u->RelV v u):Vals vs us:=by
 induction vs generalizing us with
 |nil=>match us,hl with|[],_=>exact .nil
 |cons v vs ih=>
  match us,hl with
  |u::us,hl=>exact .cons (h 0 v u rfl rfl) (ih (by simpa using hl) λi v u e1 e2=>h (i+1) v u (by simpa using e1) (by simpa using e2))
end
section
variable{o:Expr}{to:TE}{id:String}{r:V->List V->Hp->VK->Prop}
end
noncomputable def tD(xs:List Str):D:= .tup (xs.map D.str)
noncomputable def zo0:List Str->Bool
 |[a,b,w]=>zg a&&zg b&&(if w="equal"then ltS a b else decide (w="over")&&!decide (a=b))
 |_=>false
theorem zeY(xs:List Str):zfB (tD xs)=xs:=strs_map xs
noncomputable def zkc(r:List Str):List Str:=srt (r.take 2)
structure KinOk(rs:List (List Str)):Prop where
 row:∀r∈rs,zo0 r=true
 rise:rs.Pairwise (λa b=>ltL a b=true)
 ties:(rs.map zkc).Nodup
noncomputable def pr(a b:Str):List Str:=srt [a,b]
noncomputable abbrev at_(xs:List Str)(i:Nat):Str:=xs.getD i ""
structure KD62(xs:List Str)(ps:List (Nat×Nat))(k:Nat)(rs:List (List Str)):Prop where
 row:∀r∈rs,zo0 r=true
 nd:(rs.map zkc).Nodup
 few:rs.length<=k
 old:∀r∈rs,∃q∈ps.take k,q.1<q.2/\zkc r=pr (at_ xs q.1) (at_ xs q.2)
theorem zlj(e:H l=some (.lst vs))(r:RepL H vs ds)(h:∀d∈ds,okD d=true):Tr H (.ref l) (.list (ds.map pyD)):=by
 refine .lst e (by rw[B0];exact r.1) λi v d e1 e2=>?_
 rw[V0] at e2
 cases e3:ds[i]? with
 |none=>rw[e3] at e2;cases e2
 |some d'=>rw[e3] at e2;cases e2;exact zd2 (r.2 i v d' e1 e3) (h d' (U0 e3))
section
variable{P P':D->Prop}
end
noncomputable def zpa(n:Nat):It:=⟨λi _=>i<n,λi H x H'=>H'=H/\x= .int ((n:Int) -1 -i),λi _=>n<=i⟩
theorem zk4:Wk (zpa n) n (λi x=>x= .int ((n:Int) -1 -i)) (λ_=>True) where
 stop:=λi H h l=>l
 go:=λi H h l=>l
 yld:=λi H x H' h l y=>y
theorem zl9(it:Addr)(n:Nat):Turn P w K tg (zpa n) [it] it (λi h=>IsRangeIter h it ((n:Int) -1+(i:Nat)*(-1)) ((n:Int) -(i:Nat)) (-1)) where
 mem:=`n3
 obj:=λi h st b hb=>by
  have e:b=it:=by simpa using hb
  subst e
  exact⟨_,st,λv z=>by
   have z':Data.fields _=Data.cell v:=z
   cases z'⟩
 keep:=λi h h' st k=>k it `n3 _ st
 item:=by
  intro X hP hw hK hc i pins s σ H E I hf st hg
  subst hP hw hK
  obtain⟨f0,f1,f2,f3,f4,f5⟩:=hf it `n3
  have W:=Walks.range (prog:=X.prog) (w:=X.w) (I.ok.hd hc) it ((n:Int) -1) (-1) n
  refine W.item i s _ _ hg st λv h' tk hv st' kk=>?_
  obtain⟨t,rfl⟩:=hv
  have I1:Inv X pins σ H {s with heap:=h',toks:=tk}:=I.turned (λb o hb e=>kk b o (by simpa using hb) e) f0 f1 f3 f4 f5
  refine⟨_,rfl,zhg (s:={s with heap:=h',toks:=tk}) (n:="range_iterator") st' rfl rfl ⋯ ⟨.int ((n:Int) -1 -i),H,I1,⟨t,?_⟩,⟨rfl,rfl⟩,st',λb hb=>(hf b hb).1⟩⟩
  congr 1
  lia
 done:=by
   intro X hP hw hK hc i pins s σ H E I hf st hg
   subst hP hw hK
   obtain⟨f0,f1,f2,f3,f4,f5⟩:=hf it `n3
   exact wpAny_pyNext_range_end (I.ok.hd hc) st (by have:n<=i:=hg;lia) λh' eb=>⟨rfl,I.turned (t':=s.toks) (λb o hb e=>eb b o hb e) f0 f1 f3 f4 f5⟩
 self:=λ_ _ _ _ _ st h=>wpAny_pyIter_rangeiter st h
theorem zqR(h:QE X e te):QI X tg e (λσ H R=>zrt X.K te σ H R\/zm0 X.K te σ H R):=⟨λpins s σ H R I q=>by
 rcases q with q|q
 ·exact (zbM h).o pins s σ H R I q
 ·exact (zdT h).o pins s σ H R I q⟩
noncomputable def zsY:D->List D| .tup rs=>rs|_=> []
noncomputable def zac:List Str->List D->Str->List D
 |h::hs,d::ds,x=>if h=x then zsY d else zac hs ds x
 |_,_,_=> []
theorem zge{x:Str}{rs:List D}:∀{hs:List Str} {ds:List D} {j:Nat},hs.Nodup->hs[j]?=some x->ds[j]?=some (.tup rs)->zac hs ds x=rs
 |[],_,j,_,h1,_=>by simp at h1
 |h::hs,[],j,_,_,h2=>by simp at h2
 |h::hs,d::ds,0,_,h1,h2=>by
  simp at h1 h2
  subst h1 h2
  rw[zac,E1 rfl];rfl
 |h::hs,d::ds,j+1,nd,h1,h2=>by
  simp only[List.getElem?_cons_succ] at h1 h2
  rw[List.nodup_cons] at nd
  have hne:¬h=x:=λe=>nd.1 (e▸U0 h1)
  rw[zac,Y0 hne]
  exact zge nd.2 h1 h2
noncomputable def zat:D->Bool| .non=>true|_=>false
theorem zcl{u:V}(r:Rep H u d):decide (u=V.non)=zat d:=by
 cases r<;>first|rfl|exact A1 (λz=>by cases z)
noncomputable def znG(hs:List Str)(lks hds:List D)(y:Str)(w ms:List Str):Option (List Str):=
 match zD w (some y) (zac hs hds (w.headD "")) ms with
 |none=>none
 |some t=>if zat (zY (y::w) t (zac hs lks y))=true then none else some t
noncomputable def zce(hs:List Str)(lks hds:List D):List Str->Option (List Str)
 |[]=>some []
 |[_]=>some []
 |y::x::ws=>match zce hs lks hds (x::ws)with
  |none=>none
  |some t=>znG hs lks hds y (x::ws) t
structure Mr(O t:List Str):Prop extends Mk0 O t where
 rise:t.Pairwise (λa b=>ltS a b=true)
theorem Mr.next{O t:List Str}{w m:Str}(h:Mr O t)(hm:m∈O):Mr O (ze4 t w m):=⟨h.toMk0.next hm,znZ (zhE h.nd)⟩
theorem Mr.nil{O:List Str}:Mr O []:=⟨⟨List.nodup_nil,λ_ h=>nomatch h⟩,List.Pairwise.nil⟩
theorem zde{O:List Str}{ws:List Str}{to:Option Str}:∀{rs:List D} {ms t:List Str},(∀r∈rs,∃cs x,r= .tup [.tup cs,x]/\(∀c∈cs,zT c=true)/\(x= .tup [.str "keep"]\/∃w m,x= .tup [.str w, .str m]/\(w="put"\/w="strike")/\m∈O))->Mr O ms->zD ws to rs ms=some t->Mr O t
 |[],ms,t,_,h,e=>by rw[zD] at e;cases e;exact h
 |r::rs,ms,t,hr,h,e=>by
  obtain⟨cs,x,rfl,_,hx⟩:=hr r Z0
  have hr':=λr h=>hr r (N1 _ h)
  rw[zD] at e
  split at e
  ·rcases hx with rfl|⟨w,m,rfl,_,hm⟩
   ·cases e
   ·exact zde hr' (h.next hm) e
  ·exact zde hr' h e
section
variable{P:List α->Prop}
theorem of1(h:∀a,P [a]):∀us:List α,us.length=1->P us
 |[a],_=>h a
theorem of2(h:∀a b,P [a,b]):∀us:List α,us.length=2->P us
 |[a,b],_=>h a b
theorem of3(h:∀a b c,P [a,b,c]):∀us:List α,us.length=3->P us
 |[a,b,c],_=>h a b c
theorem of4(h:∀a b c d,P [a,b,c,d]):∀us:List α,us.length=4->P us
 |[a,b,c,d],_=>h a b c d
end
section
variable{P:Nat->Value->Prop}{St:Nat->Heap->Prop}
end
section
open PySem.W PyProof.V
end
section
variable{P:Nat->Value->Prop}{St:Nat->Heap->Prop}
end
section
open PySem.W PyProof.V
noncomputable def StO(P:Program)(w:World)(a:Addr)(n:Nat):HO:= .ext λh=>∃f:Key->Bool,h.SetOf (zaE P w) a f n
theorem zmA:CallR X (.builtin "len") (λxs H Q=>∃(p:Addr) (n:Nat),xs=[.ref p]/\H p=some (StO X.prog X.w p n)/\n<=1000/\Q (.int (n:Int)) H):=by
 intro pins s σ H xs us Q I r h
 obtain⟨p,n,rfl,hH,h9,q⟩:=h
 obtain⟨u,rfl,ru⟩:=zb7 r
 cases ru
 obtain⟨⟨f,o,es,ep,t,e,hx,hd,_,_,_,hf,en⟩,_⟩:=I.hok p _ hH
 refine call_len_set e hx hd hf (by rw[en];lia) ⟨.int n,H,I.tok _,⟨_,by rw[en]⟩,q⟩
end
section
variable{t1 i1 t2 i2:Expr}{it:Value}{d:Addr}
end
section
variable{src:List (Option Nat)}{g:TG}{tk:TE}
end
theorem zj9:bootBuiltins "set"=some (.type "set"):=by kernel_rfl
structure RingG(G:Str->List Str)(xs:List Str):Prop where
 two:2<=xs.length
 ends:xs[0]?=xs[xs.length -1]?
 nd:(xs.drop 1).Nodup
 nxt:∀i a b,xs[i]?=some a->xs[i+1]?=some b->a∈G b
structure Led(H:Hp)(kvs:List (Key×V))(ks:List Str)(G:Str->List Str):Prop where
 keys:kvs.map (·.1)=ks.map Sum.inr
 nd:ks.Nodup
 at_:∀x∈ks,∃l,zbs kvs (Sum.inr x)=some (.ref l)/\H l=some (.lst ((G x).map V.str))
 sub:∀x∈ks,∀y∈G x,y∈ks
 short:∀x∈ks,x.length<=1000
 few:ks.length<=60/\∀x∈ks,(G x).length<=60
noncomputable def tol(tk:List (Key×V))(x:Str):Bool:=(zbs tk (Sum.inr x)).isSome
structure Tld63(tk:List (Key×V))(ks:List Str)(G:Str->List Str):Prop where
 opn:∀x∈ks,tol tk x=false->∃y∈G x,tol tk y=false
 sure:∀W:Str->Prop,(∀b,W b->∃a∈G b,W a)->∀b,W b->tol tk b=false
structure Peel(rs R:List (List Str)):Prop where
 sub:∀r∈R,r∈rs/\at_ r 2=("over":Str)
 out:∀W:Str->Prop,(∀b,W b->∃a,[a,b,"over"]∈rs/\W a)->∀a b,W a->W b->[a,b,"over"]∈rs->[a,b,"over"]∈R
structure LR(ks:List Str)(G:Str->List Str)(tk:List (Key×V))(ws:List Str):Prop where
 sub:∀x∈ws,x∈ks
 cov:∀x∈ks,x∈ws\/tol tk x=true
 sure:∀W:Str->Prop,(∀b,W b->∃a∈G b,W a)->∀b,W b->tol tk b=false
 inv:∀x v,zbs tk (Sum.inr x)=some v->∃n,v=V.int n
 len:tk.length+ws.length<=ks.length
structure LRi(ks:List Str)(G:Str->List Str)(tk:List (Key×V))(ws ys:List Str)(i:Nat)(fr:Bool):Prop where
 sub:∀x∈ys,x∈ks
 cov:∀x∈ks,x∈ys\/x∈ws.drop i\/tol tk x=true
 sure:∀W:Str->Prop,(∀b,W b->∃a∈G b,W a)->∀b,W b->tol tk b=false
 inv:∀x v,zbs tk (Sum.inr x)=some v->∃n,v=V.int n
 len:tk.length+ys.length+(ws.length -i)<=ks.length
 le:ys.length<=i
 lt:fr=true->ys.length<i
 opn:fr=false->∀x∈ys,∃y∈G x,tol tk y=false
structure Wlk(ks:List Str)(G:Str->List Str)(tk:List (Key×V))(row:List Str)(x:Str):Prop where
 nd:row.Nodup
 sub:∀y∈row,y∈ks
 ch:∀i a b,row[i]?=some a->row[i+1]?=some b->b∈G a
 nx:∀a,row[row.length -1]?=some a->x∈G a
 xk:x∈ks
 xu:tol tk x=false
structure EL(H H':Hp)(kvs:List (Key×V))(ks:List Str)(G:Str->List Str):Prop where
 keys:kvs.map (·.1)=ks.map Sum.inr
 nd:ks.Nodup
 at_:∀x∈ks,∃l,zbs kvs (Sum.inr x)=some (.ref l)/\H' l=some (.lst ((G x).map V.str))/\H l=none
 apart:∀x∈ks,∀y∈ks,∀l,zbs kvs (Sum.inr x)=some (.ref l)->zbs kvs (Sum.inr y)=some (.ref l)->x=y
theorem zmp:(PyData.list (ds.map pyD)).eqv (.list [])=decide (ds=[]):=by
 rw[PyData.eqv]
 cases ds with
 |nil=>rw[List.map_nil,PyData.eqvAll];rfl
 |cons d ds=>rw[Y1,PyData.eqvAll];rfl
theorem zic:(PyData.list []).depth<=60:=by rw[PyData.depth,PyData.depthAll];decide
theorem zfJ{xs:List Str}:pyD (tD xs)= .tuple (zal xs):=by
 unfold tD
 rw[pyD]
 congr 1
 induction xs with
 |nil=>rfl
 |cons x xs ih=>rw[Y1,pyL,ih,pyD];rfl
noncomputable def kOf(t:List Str):List Key:=t.map Sum.inr
structure RT(H:Hp)(kvs:List (List Key×V))(rs:List (List Str)):Prop where
 len:kvs.length=rs.length
 at_:∀(j:Nat) (kv:List Key×V) (r:List Str),kvs[j]?=some kv->rs[j]?=some r->∃b,kv.1=kOf (zkc r)/\kv.2= .ref b/\H b=some (.tup (r.map V.str))
 row:∀r∈rs,zo0 r=true
 nd:(rs.map zkc).Nodup
structure RG(xs:List Str)(m:Nat)(rs:List (List Str)):Prop where
 row:∀r∈rs,zo0 r=true
 nd:(rs.map zkc).Nodup
 old:∀r∈rs,∃i j,i<m/\j<m/\zkc r=pr (at_ xs i) (at_ xs j)
structure MAt(K:W.Frag)(C:Addr)(x qual:Str)(st:Stmt)(ps:List Str)(f:Addr)(fd:FuncData):Prop where
 fn:Fun K x qual st f fd
 b:Binds K fd ps []
 m:Meth K C x f
section
variable{o:Expr}{f m:Str}{ta:TE}{t:TA}{ps:List Str}{ds:List Value}{E:XK}
end
inductive TrC(K:W.Frag)(H:Hp):V->PyData->Prop
 |non:TrC K H .non .none
 |bl (b:Bool):TrC K H (.bl b) (.bool b)
 |int (i:Int):TrC K H (.int i) (.int i)
 |str (x:Str) (h:PyData.strOk x=true):TrC K H (.str x) (.str x)
 |tup {p:Addr} {vs:List V} {ds:List PyData} (e:SqT K H p vs) (hl:vs.length=ds.length) (h:∀(i:Nat) (v:V) (d:PyData),vs[i]?=some v->ds[i]?=some d->TrC K H v d):TrC K H (.ref p) (.tuple ds)
section
variable{src:List (Option Nat)}{g:TG}{tk:TE}
end
section
variable{d:Addr}{ps:List (Value×Value)}
end
section
variable{K:Type}[DecidableEq K]{knd:KeyKind prog w K}
end
inductive TwosAt(H:Hp):List Addr->List Str->List V->Prop
 |nil:TwosAt H [] [] []
 |cons {t:Addr} {x:Str} {y:V} {ts:List Addr} {hs:List Str} {ys:List V}:H t=some (.tup [.str x,y])->TwosAt H ts hs ys->TwosAt H (t::ts) (x::hs) (y::ys)
section
open PySem.W
noncomputable abbrev Ky:=Int×Int×List Str
noncomputable def zsI(k:Ky):PyData:= .tuple [.int k.1, .int k.2.1, .tuple (zal k.2.2)]
structure RawK(h:Heap)(b:Addr)(k:Ky):Prop where
 at_:∃p ti tn jts,IsTup h b #[.int k.1 ti, .int k.2.1 tn, .ref p]/\Vals (k.2.2.map V.str) jts/\IsTup h p jts.toArray/\(∃as,Reads h (.ref p) (.tuple (zal k.2.2)) as)/\(PyData.tuple (zal k.2.2)).canLay0=true
 rd:∃as,Reads h (.ref b) (zsI k) as
 can:(zsI k).canLay0=true
end
section
variable[DecidableEq α]{mm:α->α->α×α}
structure MM(mm:α->α->α×α):Prop where
 two:∀a b,mm a b=(a,b)\/mm a b=(b,a)
 sym:∀a b,mm a b=mm b a
noncomputable def ed(mm:α->α->α×α):List α->List (α×α)
 |a::b::r=>mm a b::ed mm (b::r)
 |_=> []
end
noncomputable def mmS(x y:Str):Str×Str:=(if ltS y x=true then y else x,if ltS x y=true then y else x)
structure SW(g:Str)(ps:List (Str×Str))(w:List Str):Prop where
 nd:w.Nodup
 last:w.getLast?=some g
 ties:∀p∈ed mmS w,p∈ps
structure WOk(hs w:List Str):Prop where
 ne:1<=w.length
 nd:w.Nodup
 mem:∀y∈w,y∈hs
structure Bf(g:Str)(hs:List Str)(ps:List (Str×Str))(ws:List (List Str))(n:Nat):Prop where
 nd:ws.Nodup
 sw:∀w∈ws,SW g ps w
 root:[g]∈ws
 src:∀y r,y::r∈ws->r≠ []->r∈ws.take n
 cl:∀y x r,x::r∈ws.take n->y∈hs->mmS y x∈ps->y∉x::r->y::x::r∈ws
structure Df(g:Str)(ps:List (Str×Str))(M:List Str->Option (List Str))(L F:List (List Str)):Prop where
 nd:L.Nodup
 fnd:F.Nodup
 fsub:∀w∈F,w∈L
 sw:∀w∈L,SW g ps w/\M w≠none
 root:[g]∈L
 src:∀y r,y::r∈L->r≠ []->r∈L/\r∉F
 cl:∀y x r,x::r∈L->x::r∉F->mmS y x∈ps->y∉x::r->M (y::x::r)≠none->y::x::r∈L
structure DfW(g:Str)(ps:List (Str×Str))(M:List Str->Option (List Str))(x:Str)(r ds:List Str)(L F:List (List Str)):Prop where
 nd:L.Nodup
 fnd:F.Nodup
 fsub:∀w∈F,w∈L
 sw:∀w∈L,SW g ps w/\M w≠none
 root:[g]∈L
 src:∀y q,y::q∈L->q≠ []->q∈L/\q∉F
 me:x::r∈L/\x::r∉F
 kids:∀y,y::x::r∈L->y∈ds
 cl:∀y a q,a::q∈L->a::q∉F->a::q≠x::r->mmS y a∈ps->y∉a::q->M (y::a::q)≠none->y::a::q∈L
 clw:∀y∈ds,y∉x::r->M (y::x::r)≠none->y::x::r∈L
section
variable{M:List Str->Option (List Str)}{r ds:List Str}{L F:List (List Str)}
end
inductive ChAt(H:Hp):List (Key×V)->List (Str×Option (List Str))->Prop
 |nil:ChAt H [] []
 |cons {x:Str} {v:V} {o:Option (List Str)} {kvs:List (Key×V)} {cs:List (Str×Option (List Str))}:zrA H v o->ChAt H kvs cs->ChAt H ((Sum.inr x,v)::kvs) ((x,o)::cs)
structure Zp3(z TI TO0 i1 i2 i3:Addr):Prop where
 TIz:TI≠z
 TOz:TO0≠z
 i1z:i1≠z
 i2z:i2≠z
 i3z:i3≠z
 TITO:TI≠TO0
 TIi1:TI≠i1
 TIi2:TI≠i2
 TIi3:TI≠i3
 TOi1:TO0≠i1
 TOi2:TO0≠i2
 TOi3:TO0≠i3
 i12:i1≠i2
 i13:i1≠i3
 i23:i2≠i3
theorem zhd:Builtin.Range.rangeSize ((n:Int) -1) (-1) (-1)=(n:Int):=by
 unfold Builtin.Range.rangeSize
 rw[Y0 ⋯]
 split<;>first|lia|(rw[show((n:Int) -1 -(-1) -1)=(n:Int) -1 by lia];simp<;>lia)
theorem znI{R:It->Hp->Prop}{t u v:Tok}{tk:Nat}(I:Inv X pins σ H s)(hn:n<=1000)(q:R (zpa n) H):
 wpAny `Y4 X.A (pyIter (.ref s.heap.objs.size)) (PIE X pins σ tg R) E {s with heap:=s.heap.push {cls:= .type "range",data:= .fields #[.int ((n:Int) -1) t, .int (-1) u, .int (-1) v]},toks:=tk}:=by
 have ft:∀i:Int,-(2^63)<=i->i<2^63->Builtin.Range.rangeFitsLong i=true:=λi h1 h2=>by
  unfold Builtin.Range.rangeFitsLong
  rw[N0 h1,N0 h2];rfl
 refine wpAny_pyIter_range (IsRange.new ..) ?_ ?_
 ·unfold Builtin.Range.small
  rw[zhd,ft ((n:Int) -1) () (),ft (-1) ⋯ ⋯,ft (n:Int) () ()]
  first|rfl|(simp[ft];done)|decide
 have I1:Inv X pins σ H {s with heap:=s.heap.push {cls:= .type "range",data:= .fields #[.int ((n:Int) -1) t, .int (-1) u, .int (-1) v]},toks:=tk}:=I.kept λb o e=>C0 _ e
 refine⟨(s.heap.push {cls:= .type "range",data:= .fields #[.int ((n:Int) -1) t, .int (-1) u, .int (-1) v]}).objs.size,[(s.heap.push {cls:= .type "range",data:= .fields #[.int ((n:Int) -1) t, .int (-1) u, .int (-1) v]}).objs.size],_,_,H,rfl,
  I1.kept (t':=tk) λb o e=>C0 _ e,zl9 _ n,?_,λb hb=>?_,q⟩
 ·have e1:(n:Int) -1+((0:Nat):Int)*(-1)=(n:Int) -1:=()
  have e2:(n:Int) -((0:Nat):Int)=(n:Int):=()
  show IsRangeIter _ _ ((n:Int) -1+((0:Nat):Int)*(-1)) ((n:Int) -((0:Nat):Int)) (-1)
  rw[e1,e2,zhd]
  exact Q0 _ rfl
 ·have e:b=(s.heap.push {cls:= .type "range",data:= .fields #[.int ((n:Int) -1) t, .int (-1) u, .int (-1) v]}).objs.size:=by simpa using hb
  subst e
  exact I1.fpOk (O0 _) (I1.hok.fresh (O0 _))
noncomputable def zsH(ta:TA):TI:=λσ H R=>ta σ H λvs H1=>∃n:Nat,vs=[.int ((n:Int) -1), .int (-1), .int (-1)]/\n<=1000/\R (zpa n) H1
theorem znX{a b:Expr}{p:Pos}(hm:X.mg "range"=none)(ha:QA X [a,b,c] ta)(hg:autoParam (Gl X "range") u4)(hs:autoParam (starEach [a,b,c] X.env=(false,eval a X.env)::starEach [b,c] X.env) u4)(hs2:autoParam ((backTo pos (starEach [b,c] X.env)).any (·.1)=false) u4):
 QI X tg (.Call (.Name "range" p) [a,b,c] [] pos) (zsH ta):=⟨by
 intro pins s σ H R I h
 refine Call_ (zc9 I hg hm boot_range (PyProof.Rows.callWith_type1 (thn (ha.o pos pins s σ H _ I h) λus s1 zq=>?_) hs hs2))
 obtain⟨vs,H1,I1,r1,q1⟩:=zq
 obtain⟨n,e,hn,q⟩:=q1
 subst e
 cases r1 with
 |cons r rr=>
  cases rr with
  |cons r' rr=>
   cases rr with
   |cons r'' rr=>
    cases rr
    obtain⟨t,rfl⟩:=r
    obtain⟨t',rfl⟩:=r'
    obtain⟨t'',rfl⟩:=r''
    exact call_range_3 ⋯ (znI I1 hn q) (Or.inl (PyProof.noPylong_small ()))⟩
noncomputable def zai(d:D)(lo hi:Int):Bool:=zaN d lo hi&&zkF zaw d
noncomputable def zm6:D->Bool| .int i=>!decide (i<1)|_=>false
noncomputable def zha(ps:List (Str×Str)):D->D->Bool| .str a, .str b=>decide (b∈zaR ps a)|_,_=>false
noncomputable def zh8:D->Bool| .tup []=>true|_=>false
noncomputable def zaa(hs:List Str)(ps:List (Str×Str)):D->Bool
 | .tup [a,b,n,w,m]=>(zP hs a&&(zP hs b&&zha ps a b))&&((zeO n&&(zm6 n&&zai m 0 90))&&(if zat w=true then zh8 m else zai w 1 10))
 |_=>false
noncomputable def za7(hs:List Str)(ps:List (Str×Str)):D->Bool
 | .tup [p, .tup qs]=>zaa hs ps p&&(decide (qs.length<=10)&&qs.all (zaa hs ps))
 |_=>false
structure Pp where
 one:Str
 to:Str
 nr:Int
 way:Option (List Str)
 marks:List Str
noncomputable def wyD:Option (List Str)->D|none=> .non|some w=>tD w
noncomputable def ppD(p:Pp):D:= .tup [.str p.one, .str p.to, .int p.nr,wyD p.way,tD p.marks]
noncomputable def zbJ(f:Pp)(qs:List Pp):D:= .tup [ppD f, .tup (qs.map ppD)]
structure PpOk(hs:List Str)(ps:List (Str×Str))(p:Pp):Prop where
 one:p.one∈hs
 to:p.to∈hs
 tied:p.to∈zaR ps p.one
 nr:1<=p.nr
 mnm:∀x∈p.marks,zg x=true
 ml:p.marks.length<=90
 non:p.way=none->p.marks=[]
 way:∀w,p.way=some w->1<=w.length/\w.length<=10/\∀x∈w,zg x=true
theorem zbY(h:zP hs d=true):∃x,d= .str x/\x∈hs:=by
 obtain⟨ws,e,hw⟩:=zee (hs:=hs) (ds:=[d]) (by rw[List.all_cons,h];rfl)
 match ws,e with
 |[x],e=>exact ⟨x,by simpa using e,hw x Z0⟩
theorem zeQ{lo hi:Int}(h:zai d lo hi=true):∃xs,d=tD xs/\lo<=(xs.length:Int)/\(xs.length:Int)<=hi/\∀x∈xs,zg x=true:=by
 unfold zai at h
 rw[L0] at h
 cases d with
 |tup ds=>
  obtain⟨xs,rfl,hx⟩:=zgO (show ds.all zaw=true from h.2)
  have h1:(decide (lo<=((xs.map D.str).length:Int))&&decide (((xs.map D.str).length:Int)<=hi))=true:=h.1
  rw[L0,B0,P0,P0] at h1
  exact⟨xs,rfl,h1.1,h1.2,hx⟩
 |_=>exact nomatch h.1
theorem zjY{xs:List Str}{lo hi:Int}(h1:lo<=(xs.length:Int))(h2:(xs.length:Int)<=hi)(h:∀x∈xs,zg x=true):zai (tD xs) lo hi=true:=by
 show((decide (lo<=((xs.map D.str).length:Int))&&decide (((xs.map D.str).length:Int)<=hi))&&(xs.map D.str).all zaw)=true
 rw[B0,N0 h1,N0 h2,List.all_map,V1.mpr]
 ·rfl
 ·exact λx hx=>by show zaw (.str x)=true;rw[zcK];exact h x hx
theorem zeL(h:zaa hs ps d=true):∃p,d=ppD p/\PpOk hs ps p:=by
 unfold zaa at h
 split at h
 ·rename_i a b n w m
  rw[L0,L0,L0,L0,L0,L0] at h
  obtain⟨⟨ha,hb,ht⟩,⟨hn,hp,hm⟩,hw⟩:=h
  obtain⟨x,rfl,hx⟩:=zbY ha
  obtain⟨y,rfl,hy⟩:=zbY hb
  obtain⟨ms,rfl,m1,m2,m3⟩:=zeQ hm
  have ht:y∈zaR ps x:=R0 ht
  obtain⟨i,rfl,hi⟩:∃i,n= .int i/\1<=i:=by
   cases n with
   |int i=>exact ⟨i,rfl,by have:(!decide (i<1))=true:=hp;simpa using this⟩
   |_=>cases hp
  by_cases e:zat w=true
  ·rw[E1 e] at hw
   have ew:w= .non:=by cases w<;>first|rfl|cases e
   subst ew
   have em:ms=[]:=by
    cases ms with
    |nil=>rfl
    |cons z zs=>cases hw
   subst em
   exact⟨⟨x,y,i,none,[]⟩,rfl,⟨hx,hy,ht,hi,(λ_ z=>nomatch z),K2 _,(λ_=>rfl),(λ_ z=>nomatch z)⟩⟩
  ·rw[Y0 e] at hw
   obtain⟨ws,rfl,w1,w2,w3⟩:=zeQ hw
   exact⟨⟨x,y,i,some ws,ms⟩,rfl,⟨hx,hy,ht,hi,m3,by show ms.length<=90;lia,(λz=>nomatch z),λw z=>by cases z;exact⟨(),(),w3⟩⟩⟩
 ·cases h
theorem zjm(hn:∀x∈hs,zg x=true){p:Pp}(h:PpOk hs ps p):zaa hs ps (ppD p)=true:=by
 show((zP hs (.str p.one)&&(zP hs (.str p.to)&&zha ps (.str p.one) (.str p.to)))&&((zeO (.int p.nr)&&(zm6 (.int p.nr)&&zai (tD p.marks) 0 90))&&(if zat (wyD p.way)=true then zh8 (tD p.marks)else zai (wyD p.way) 1 10)))=true
 have ml:=h.ml
 have hnr:=h.nr
 rw[zgS h.one (hn _ h.one),zgS h.to (hn _ h.to),show zha ps (.str p.one) (.str p.to)=true from N0 h.tied,show zeO (.int p.nr)=true from rfl,show zm6 (.int p.nr)=true by show(!decide (p.nr<1))=true;simp;lia,zjY () () h.mnm]
 cases e:p.way with
 |none=>
  have em:=h.non e
  rw[em];rfl
 |some w=>
  obtain⟨w1,w2,w3⟩:=h.way w e
  show(true&&(true&&true)&&(true&&(true&&true)&&(if zat (tD w)=true then _ else zai (tD w) 1 10)))=true
  rw[zjY () () w3];rfl
theorem zfZ{hs:List Str}{ps:List (Str×Str)}:∀{ds:List D},ds.all (zaa hs ps)=true->∃qs:List Pp,ds=qs.map ppD/\∀q∈qs,PpOk hs ps q
 |[],_=>⟨[],rfl,λ_ z=>nomatch z⟩
 |d::ds,h=>by
  rw[List.all_cons,L0] at h
  obtain⟨q,rfl,hq⟩:=zeL h.1
  obtain⟨qs,rfl,hqs⟩:=zfZ h.2
  exact⟨q::qs,rfl,λx hx=>(K0.mp hx).elim (λe=>by rw[e];exact hq) (hqs x)⟩
theorem zfX(h:za7 hs ps d=true):∃f qs,d=zbJ f qs/\PpOk hs ps f/\(∀q∈qs,PpOk hs ps q)/\qs.length<=10:=by
 unfold za7 at h
 split at h
 ·rename_i p qs
  rw[L0,L0] at h
  obtain⟨f,rfl,hf⟩:=zeL h.1
  obtain⟨qs',rfl,hqs⟩:=zfZ h.2.2
  have hl:=R0 h.2.1
  rw[B0] at hl
  exact⟨f,qs',rfl,hf,hqs,hl⟩
 ·cases h
theorem zlZ(hn:∀x∈hs,zg x=true){f:Pp}{qs:List Pp}(hf:PpOk hs ps f)(hq:∀q∈qs,PpOk hs ps q)(hl:qs.length<=10):za7 hs ps (zbJ f qs)=true:=by
 show(zaa hs ps (ppD f)&&(decide ((qs.map ppD).length<=10)&&(qs.map ppD).all (zaa hs ps)))=true
 rw[zjm hn hf,B0,N0 hl,List.all_map,V1.mpr]
 ·rfl
 ·exact λq h=>zjm hn (hq q h)
theorem zqk:∀{a b:Option (List Str)},wyD a=wyD b->a=b
 |none,none,_=>rfl
 |none,some _,h=>nomatch h
 |some _,none,h=>nomatch h
 |some a,some b,h=>by
  have:=j3 zfB (show tD a=tD b from h)
  rw[zeY,zeY] at this
  rw[this]
theorem zne{p q:Pp}(h:ppD p=ppD q):p=q:=by
 obtain⟨a,b,c,d,e⟩:=p
 obtain⟨a',b',c',d',e'⟩:=q
 have h:D.tup [.str a, .str b, .int c,wyD d,tD e]=D.tup [.str a', .str b', .int c',wyD d',tD e']:=h
 injection h with h
 injection h with h1 h
 injection h with h2 h
 injection h with h3 h
 injection h with h4 h
 injection h with h5 _
 cases h1;cases h2;cases h3
 have:=j3 zfB h5
 rw[zeY,zeY] at this
 rw[zqk h4,this]
theorem zlC:∀{ps qs:List Pp},ps.map ppD=qs.map ppD->ps=qs
 |[],[],_=>rfl
 |[],_::_,h=>nomatch h
 |_::_,[],h=>nomatch h
 |p::ps,q::qs,h=>by
  rw[Y1,Y1] at h
  injection h with h1 h2
  rw[zne h1,zlC h2]
theorem ziT{f f':Pp}{qs qs':List Pp}(h:zbJ f qs=zbJ f' qs'):f=f'/\qs=qs':=by
 have h:D.tup [ppD f, .tup (qs.map ppD)]=D.tup [ppD f', .tup (qs'.map ppD)]:=h
 injection h with h
 injection h with h1 h
 injection h with h2 _
 injection h2 with h2
 exact⟨zne h1,zlC h2⟩
noncomputable def zfD(w:List Str)(q:Pp)(k:Nat):Bool:=decide (q.one=w.getD (k+1) ""/\q.to=w.getD k "")&&decide (q.way=some (w.drop (k+1)))
noncomputable def zdS(w:List Str)(qs:List Pp)(n:Nat):Bool:=(List.range n).all λk=>match qs[k]? with|some q=>zfD w q k|none=>true
noncomputable def soB(hs:List Str)(lks hds:List D)(p:Pp)(ms:List Str):Bool:=match p.way with
 |none=>false
 |some w=>!(decide (1<w.length)&&zat (zY w ms (zac hs lks (w.headD ""))))&&decide (zD w (some p.to) (zac hs hds (w.headD "")) ms=some p.marks)
noncomputable def zaI(qs:List Pp):List (List Str):=qs.map (·.marks)++ [[]]
noncomputable def zhe(hs:List Str)(lks hds:List D)(f:Pp)(qs:List Pp):Bool:=((f::qs).zip (zaI qs)).all λz=>soB hs lks hds z.1 z.2
noncomputable def zae(g:Str)(hs:List Str)(ps:List (Str×Str))(lks hds:List D)(f:Pp)(qs:List Pp):Bool:=match f.way with
 |none=>qs.isEmpty
 |some w=>zbq g hs ps (tD w)&&decide (w.headD ""=f.one)&&decide (qs.length+1=w.length)&&zdS w qs qs.length&&zhe hs lks hds f qs
theorem WayOk.tail(W:WayOk g hs ps (y::x::ws)):WayOk g hs ps (x::ws) where
 nd:=(List.nodup_cons.mp W.nd).2
 mem:=λz hz=>W.mem z (N1 _ hz)
 last:=by
  obtain⟨w0,e⟩:=W.last
  cases w0 with
  |nil=>cases e
  |cons a w0=>exact ⟨w0,by rw[List.cons_append] at e;injection e⟩
 tied:=λi a b h1 h2=>W.tied (i+1) a b h1 h2
theorem WayOk.step(W:WayOk g hs ps (y::x::ws)):y∈zaR ps x:=by
 have:=zbd.mp (W.tied 0 y x rfl rfl)
 exact zbd.mpr this.symm
inductive Ch(hs:List Str)(lks hds:List D):Str->List Str->List Pp->Prop
 |one {to g:Str} {nr:Int} {m:List Str} (h1:1<=nr) (h2:zD [g] (some to) (zac hs hds g) []=some m):Ch hs lks hds to [g] [⟨g,to,nr,some [g],m⟩]
 |more {to y x:Str} {ws:List Str} {nr:Int} {m:List Str} {q:Pp} {P:List Pp} (h:Ch hs lks hds y (x::ws) (q::P)) (h0:zat (zY (y::x::ws) q.marks (zac hs lks y))=false) (h1:1<=nr)
   (h2:zD (y::x::ws) (some to) (zac hs hds y) q.marks=some m):Ch hs lks hds to (y::x::ws) (⟨y,to,nr,some (y::x::ws),m⟩::q::P)
section
variable{to:Str}{w:List Str}{P:List Pp}
theorem Ch.head(c:Ch hs lks hds to w P):∃f qs,P=f::qs/\f.one=w.headD ""/\f.to=to/\f.way=some w/\1<=f.nr/\P.length=w.length:=by
 induction c with
 |one h1 h2=>exact ⟨_,_,rfl,rfl,rfl,rfl,h1,rfl⟩
 |more h h0 h1 h2 ih=>
  obtain⟨_,_,_,_,_,_,_,l⟩:=ih
  exact⟨_,_,rfl,rfl,rfl,rfl,h1,by rw[O1,l];rfl⟩
theorem Ch.marks{O:List Str}(hk:∀x∈w,zdI O (zac hs hds x))(c:Ch hs lks hds to w P):∀p∈P,Mr O p.marks:=by
 induction c with
 |one h1 h2=>
  intro p hp
  rw[c0.mp hp]
  exact zde (hk _ Z0).2 Mr.nil h2
 |more h h0 h1 h2 ih=>
  have ih:=ih λx hx=>hk x (N1 _ hx)
  intro p hp
  rcases K0.mp hp with rfl|hp
  ·exact zde (hk _ Z0).2 (ih _ Z0) h2
  ·exact ih p hp
theorem Ch.pp{O:List Str}(hn:∀x∈hs,zg x=true)(ten:hs.length<=10)(O14:O.length<=14)(On:∀x∈O,zg x=true)(c:Ch hs lks hds to w P):WayOk g hs ps w->to∈hs->to∈zaR ps (w.headD "")->(∀p∈P,Mr O p.marks)->∀p∈P,PpOk hs ps p:=by
 have mn:∀{m:List Str},Mr O m->(∀x∈m,zg x=true)/\m.length<=90:=λ{m} M=>⟨λx hx=>On x (M.mem x hx),J1 (M.toMk0.len O14) ⋯⟩
 induction c with
 |one h1 h2=>
  intro W ht hb M p hp
  rw[c0.mp hp]
  have m0:=mn (M _ Z0)
  exact⟨W.mem _ Z0,ht,hb,h1,m0.1,m0.2,(λz=>nomatch z),λw z=>by cases z;exact⟨(by decide:1<=1),(by decide:1<=10),λx hx=>hn x (W.mem x hx)⟩⟩
 |more h h0 h1 h2 ih=>
  intro W ht hb M p hp
  have ih:=ih W.tail (W.mem _ Z0) W.step (λp hp=>M p (N1 _ hp))
  rcases K0.mp hp with rfl|hp
  ·have m0:=mn (M _ Z0)
   have wl:=W.len
   exact⟨W.mem _ Z0,ht,hb,h1,m0.1,m0.2,(λz=>nomatch z),λw z=>by cases z;exact⟨wl.1,(),λx hx=>hn x (W.mem x hx)⟩⟩
  ·exact ih p hp
end
noncomputable def cmM(hs:List Str)(lks hds:List D)(to:Str)(w:List Str):Option (List Str):=match zce hs lks hds w with
 |none=>none
 |some t=>zD w (some to) (zac hs hds (w.headD "")) t
theorem zd0{hs:List Str}{lks hds:List D}:∀{w:List Str} {k:Nat},k<w.length->zce hs lks hds (w.drop k)=none->zce hs lks hds w=none
 |w,0,_,e=>by rw[List.drop_zero] at e;exact e
 |[],k+1,h,_=>by simp at h
 |[y],k+1,h,_=>by simp at h
 |y::x::ws,k+1,h,e=>by
  have:=zd0 (w:=x::ws) (k:=k) (by simpa using h) e
  rw[zce,this]
theorem zd5:zce hs lks hds (y::x::ws)=match cmM hs lks hds y (x::ws)with
 |none=>none
 |some t=>if zat (zY (y::x::ws) t (zac hs lks y))=true then none else some t:=by
 rw[zce]
 unfold cmM znG
 cases zce hs lks hds (x::ws)with
 |none=>rfl
 |some t=>
  show(match zD (x::ws) (some y) (zac hs hds x) t with|none=>none|some t=>_)=(match zD (x::ws) (some y) (zac hs hds x) t with|none=>none|some t=>_)
  cases zD (x::ws) (some y) (zac hs hds x) t<;>rfl
theorem zpE{to:Str}{w:List Str}:∀{k:Nat},k<w.length->cmM hs lks hds ((to::w).getD k "") (w.drop k)=none->cmM hs lks hds to w=none
 |0,_,e=>by rw[List.drop_zero] at e;exact e
 |k+1,h,e=>by
  have e1:w.drop k=w.getD k ""::w.drop (k+1):=by
   rw[List.drop_eq_getElem_cons ()]
   simp[List.getD,show k<w.length by lia]
  obtain⟨x,ws,e2⟩:∃x ws,w.drop (k+1)=x::ws:=by
   rw[List.drop_eq_getElem_cons h];exact⟨_,_,rfl⟩
  have e3:(to::w).getD (k+1) ""=w.getD k "":=rfl
  rw[e3,e2] at e
  have:zce hs lks hds (w.drop k)=none:=by rw[e1,e2,zd5,e]
  have:=zd0 (show k<w.length by lia) this
  unfold cmM
  rw[this]
noncomputable def metS(val:Nat->Str):Nat->List Str
 |0=> []
 |i+1=>if val i∈metS val i then metS val i else metS val i ++ [val i]
theorem metS_nd(val:Nat->Str):∀i,(metS val i).Nodup
 |0=>List.nodup_nil
 |i+1=>by
  rw[metS]
  split
  ·exact metS_nd val i
  ·rename_i h
   exact List.nodup_append.mpr ⟨metS_nd val i,`n3,λa ha b hb e=>h (by rw[c0.mp hb] at e;rw[←e];exact ha)⟩
theorem metS_mem(val:Nat->Str):∀i x,x∈metS val i↔∃j,j<i/\x=val j
 |0,x=>⟨(λh=>nomatch h),(λ⟨j,hj,_⟩=>absurd hj (Nat.not_lt_zero _))⟩
 |i+1,x=>by
  have ih:=metS_mem val i x
  rw[metS]
  split
  ·rename_i h
   rw[ih]
   constructor
   ·rintro ⟨j,hj,e⟩;exact⟨j,(),e⟩
   ·rintro ⟨j,hj,e⟩
    by_cases ej:j=i
    ·subst ej;rw[e];exact(metS_mem val j (val j)).mp h
    ·exact ⟨j,(),e⟩
  ·rw[X1,ih,c0]
   constructor
   ·rintro (⟨j,hj,e⟩|e)
    ·exact ⟨j,(),e⟩
    ·exact ⟨i,(),e⟩
   ·rintro ⟨j,hj,e⟩
    by_cases ej:j=i
    ·subst ej;exact .inr e
    ·exact .inl ⟨j,(),e⟩
theorem zji(val:Nat->Str):∀i,(metS val i).length<=i
 |0=>O0 _
 |i+1=>by
  have:=zji val i
  rw[metS]
  split
  ·lia
  ·rw[W0,List.length_singleton];lia
section
variable{P:Nat->Value->Prop}{St:Nat->Heap->Prop}
def zgM(h:Heap)(prog:Program)(w:World)(S:Addr)(val:Nat->Str)(i:Nat):Prop:=∃f:Key->Bool,h.SetOf (zaE prog w) S f (metS val i).length/\∀k,f k=true↔∃x∈metS val i,k=Sum.inr x
theorem zoH(W:Walks prog w A.in1 I fp wr n P St)(S:Addr)(hSf:S∉fp)(val:Nat->Str)(hval:∀i v,P i v->∃t,v= .str (val i) t)(hb:n+1<scanBound):
 ∀(k i:Nat) (s:Shared),n -i=k->i<=n->St i s.heap->zgM s.heap prog w S val i->
  (∀h' tk,h'.objs.size=h'.objs.size->(∀b o,b∉wr->b≠S->s.heap.get? b=some o->h'.get? b=some o)->zgM h' prog w S val n->R (.ok (.ret .none)) {s with heap:=h',toks:=tk})->
  codeAny `i4 A (.builtin "set.update.loop" ⟨[.ref S, .ref I],[]⟩) R s:=by
 have hSw:S∉wr:=λh=>hSf (W.sub _ h)
 intro k
 induction k with
 |zero=>
  intro i s hk hi hst hS hR
  have ei:i=n:=()
  subst ei
  refine Y3 F.entry_set_update_loop ?_
  rw[L3 F.plain_set_update_loop _]
  show wpAny _ A.in1 (pyNext (.ref I)>>=_) _ _ s
  refine A0 (W.done s _ _ hst λh' tk hk'=>?_)
  refine D0 (hR h' tk rfl (λb o b1 _ e=>hk' b o b1 e) ?_)
  obtain⟨f,⟨o,es,ep,t,ho,rest⟩,hf⟩:=hS
  exact⟨f,⟨o,es,ep,t,hk' S _ hSw ho,rest⟩,hf⟩
 |succ k ih=>
  intro i s hk hi hst hS hR
  have hlt:i<n:=()
  refine Y3 F.entry_set_update_loop ?_
  rw[L3 F.plain_set_update_loop _]
  show wpAny _ A.in1 (pyNext (.ref I)>>=_) _ _ s
  refine A0 (W.item i s _ _ hlt hst λv h1 tk1 hP hst' hk'=>?_)
  obtain⟨t,rfl⟩:=hval i v hP
  obtain⟨f,hSet,hf⟩:=hS
  have hS':h1.SetOf (zaE prog w) S f (metS val i).length:=by
   obtain⟨o,es,ep,tb,ho,rest⟩:=hSet
   exact⟨o,es,ep,tb,hk' S _ hSw ho,rest⟩
  have ml:=zji val i
  show wpAny _ A.in1 (holding [Value.str (val i) t] (setAdd S (.str (val i) t))>>=_) _ _ _
  refine A0 (K3 ?_)
  unfold setAdd
  refine K3 (A0 ((zaE prog w).pyHash (k:=Sum.inr (val i)) (zdZ _ _ _ _) ?_))
  refine wpAny_setAddHashed_of (knd:=zaE prog w) (s:={s with heap:=h1,toks:=tk1+1}) (zdZ _ _ _ _) rfl hS' () λh2 hsb hS2=>?_
  have key:zgM h2 prog w S val (i+1):=by
   refine⟨λk'=>f k'||decide (k'=Sum.inr (val i)),?_,λk'=>?_⟩
   ·have e:(if f (Sum.inr (val i))then(metS val i).length else(metS val i).length+1)=(metS val (i+1)).length:=by
     rw[metS]
     by_cases hm:val i∈metS val i
     ·rw[E1 hm,E1 ((hf _).mpr ⟨_,hm,rfl⟩)]
     ·rw[Y0 hm,Y0 (λz=>by obtain⟨x,hx,e⟩:=(hf _).mp z;exact hm (by rw[Sum.inr.inj e];exact hx)),W0];rfl
    rw[e] at hS2
    exact hS2
   ·show (f k'||decide (k'=Sum.inr (val i)))=true↔_
    rw[Bool.or_eq_true,hf k',P0]
    have mm:=λx=>metS_mem val (i+1) x
    have mi:=λx=>metS_mem val i x
    constructor
    ·rintro (⟨x,hx,e⟩|e)
     ·obtain ⟨j,hj,ej⟩:=(mi x).mp hx
      exact⟨x,(mm x).mpr ⟨j,(),ej⟩,e⟩
     ·exact ⟨val i,(mm _).mpr ⟨i,(),rfl⟩,e⟩
    ·rintro ⟨x,hx,e⟩
     obtain⟨j,hj,ej⟩:=(mm x).mp hx
     by_cases e2:j=i
     ·subst e2;subst ej;exact .inr e
     ·exact .inl ⟨x,(mi x).mpr ⟨j,(),ej⟩,e⟩
  refine D0 ⟨plainId_quiet F.plain_set_update_loop _,ih (i+1) {s with heap:=h2,toks:=tk1+1} () hlt (W.frame _ _ _ hst' λb hb o e=>?_) key λh3 tk3 e3 k3 st3=>?_⟩
  ·rw[hsb.2 b (λh:b=S=>hSf (by rw[←h];exact hb))];exact e
  ·exact hR h3 tk3 rfl (λb o b1 b2 e=>k3 b o b1 b2 (by show h2.get? b=some o;rw[hsb.2 b b2];exact hk' b o b1 e)) st3
end
theorem zoJ{S:Addr}{led:Bool}{R:Value->Shared->Prop}(hh:A.handled=none)(hS:s.heap.get? S=some {cls:= .type "set",dict:=none,data:= .set #[] 0 (.fresh 0 0 led)})(hl:s.heap.IsTuple l items)(hlS:l≠S)
 (hval:∀(i:Nat) v,items[i]?=some v->∃t,v= .str (val i) t) (hb:items.size+1<scanBound)
 (hR:∀h' tk,zgM h' prog w S val items.size->(∀b o,b≠S->s.heap.get? b=some o->h'.get? b=some o)->R .none {s with heap:=h',toks:=tk}):
 wpAny `i4 A (Builtin.«set.__init__» ⟨[.ref S, .ref l],[]⟩) (λfin s'=>∃v,fin= .done (.ret v)/\R v s') E s:=by
 have hT:s.TypeIs (.ref S) "set":=⟨_,hS,rfl⟩
 have hTt:s.TypeIs (.ref l) "tuple":=hl.typeIs
 obtain⟨ol,hol,hcl,nl,hdl⟩:=hl
 have hl1:s.heap.IsTuple l items:=⟨ol,hol,hcl,nl,hdl⟩
 have hslf:isSubtype (.type "tuple") (.type "frozenset")=pure false:=by rw[isSubtype_type];kernel_rfl
 have hsls:isSubtype (.type "tuple") (.type "set")=pure false:=by rw[isSubtype_type];kernel_rfl
 have hne:(Value.type "tuple"==Value.type "dict")=false:=⋯
 obtain⟨hp,g,d,tk,os⟩:=s
 unfold Builtin.«set.__init__» noKeywords Builtin.Frozenset.updateFrom
 generalize hPI:pyIter=PI
 wp_walk
 subst hPI
 refine wpAny_pyIter_tuple hl1 ?_
 refine A0 (wpAny_runValue ?_)
 have llt:l<hp.objs.size:=X0 hol
 have Slt:S<hp.objs.size:=X0 hS
 refine zoH (Walks.tuple (A:=A.in1) (show A.in1.handled=none from hh) hp.objs.size l (Z1 llt) items) S ?_ val hval hb _ 0 _ rfl (K2 _) ⟨⟨_,Q0 _ rfl,rfl,rfl⟩,hl1.push _⟩ ⟨λ_=>false,⟨_, #[],0,_,C0 _ hS,⟨rfl,rfl,rfl⟩,rfl,λe he=>by simp at he,λk=>`n3,Nat.lt_of_le_of_lt (K2 _) hb,rfl,rfl⟩,λk=>⟨λh=>(by cases h),λ⟨_,h,_⟩=>nomatch h⟩⟩ λh' tk' _ k st=>D0 (D0 ⟨_,rfl,hR h' tk' st λb o b1 e=>k b o ?_ b1 (C0 _ e)⟩)
 ·simp only[K0,C3,or_false,not_or]
  exact⟨Z1 Slt,λz=>hlS z.symm⟩
 ·intro z
  have:b=hp.objs.size:=by simpa using z
  exact absurd (X0 e) (by rw[this];exact R3 _)
theorem call_set_texts
 (hh:A.handled=none) (hl:s.heap.IsTuple l items) (hval:∀(i:Nat) v,items[i]?=some v->∃t,v= .str (val i) t) (hb:items.size+1<scanBound)
 (h:∀(h':Heap) (tk:Nat),zgM h' prog w s.heap.objs.size val items.size->(∀b o,s.heap.get? b=some o->h'.get? b=some o)->Q (.ref s.heap.objs.size) {s with heap:=h',toks:=tk}):
 wpAny `i4 A (call (.type "set") [.ref l]) Q E s:=by
 obtain⟨c,tl,hmro⟩:=F.called_set.mro
 have hmade:=F.called_set.made
 have hsub:=F.called_set.sub
 refine wpAny_call (codeAny_of_tree ?_)
 show wpAny _ _ (callAny (.type "set") _) _ _ _
 refine D0 ⟨Code.quiet_builtin _ `n4,Y3 F.entry_type_call ?_⟩
 rw[Around.under_plain (weight_type_call_type "set" [.ref l] []) rfl]
 have h1:=F.called_set.notType
 have h2:=F.called_set.canCreate
 have hct:=F.typeCall_set_1 (.ref l)
 repeat (any_goals (first|assumption|wp_step))
 refine codeAny_mono (code_set_new_1 (.ref l) (E:=E) (Q₁:=λobj s₁=>∃led:Bool,obj= .ref s.heap.objs.size/\s₁={s with heap:=s.heap.push {cls:= .type "set",dict:=none,data:= .set #[] 0 (.fresh 0 0 led)}}) λled=>⟨led,rfl,rfl⟩) λr s₁ hr=>?_
 cases r with
 |error e=>exact hr
 |ok fl=>
  cases fl with
  |ret obj=>
   obtain⟨led,rfl,rfl⟩:=hr
   have hS:(s.heap.push {cls:= .type "set",dict:=none,data:= .set #[] 0 (.fresh 0 0 led)}).get? s.heap.objs.size=some {cls:= .type "set",dict:=none,data:= .set #[] 0 (.fresh 0 0 led)}:=Q0 _ rfl
   have hT:Shared.TypeIs {s with heap:=s.heap.push {cls:= .type "set",dict:=none,data:= .set #[] 0 (.fresh 0 0 led)}} (.ref s.heap.objs.size) "set":=⟨_,hS,rfl⟩
   have hli:=F.called_set.init.lookup
   have hbi:=F.called_set.init.bind (.ref s.heap.objs.size)
   repeat (any_goals (first|assumption|wp_step))
   refine codeAny_mono (codeAny_call_builtin (R:=wants (λr s₂=>r= .none/\∃h' tk,s₂={s with heap:=h',toks:=tk}/\zgM h' prog w s.heap.objs.size val items.size/\
    (∀b o,s.heap.get? b=some o->h'.get? b=some o)) E) F.called_set.init.plain F.entry_set_init (check_set_init_1 hT ?_)) λr₂ s₂ hr₂=>?_
   ·have llt:l<s.heap.objs.size:=by obtain⟨ol,hol,_⟩:=hl;exact X0 hol
    have go:=zoJ (prog:=prog) (w:=w) (A:=A.in1.in1) (E:=E) (s:={s with heap:=s.heap.push {cls:= .type "set",dict:=none,data:= .set #[] 0 (.fresh 0 0 led)}}) (val:=val) (led:=led) (l:=l) (items:=items)
     (R:=λr s₂=>r= .none/\∃h' tk,s₂={s with heap:=h',toks:=tk}/\zgM h' prog w s.heap.objs.size val items.size/\(∀b o,s.heap.get? b=some o->h'.get? b=some o))
     (by simp[hh]) hS (hl.push _) (Z1 llt) hval hb λh' tk st kk=>⟨rfl,h',tk,rfl,st,λb o e=>kk b o (Z1 (X0 e)) (C0 _ e)⟩
    refine wpAny_mono go (λfin s' hq=>?_) λ_ _ z=>z
    obtain⟨v,rfl,hq⟩:=hq
    exact hq
   ·cases r₂ with
    |error e=>exact hr₂
    |ok fl₂=>
     cases fl₂ with
     |ret r=>
      obtain⟨rfl,h',tk,rfl,hS',hk'⟩:=hr₂
      repeat (any_goals (first|assumption|wp_step))
      exact h _ _ hS' hk'
     |_=>exact hr₂.elim
  |_=>exact hr.elim
section
open PySem.W PyProof.V
theorem zmt(hc:X.calm=true):CallR X (.type "set") (λxs H Q=>∃(l:Addr) (hs:List Str),xs=[.ref l]/\H l=some (.tup (hs.map V.str))/\hs.length<=1000/\∀ys:List Str,ys.Nodup->(∀x,x∈ys↔x∈hs)->∀p,H p=none->Q (.ref p) (upd H p (StO X.prog X.w p ys.length))):=by
 intro pins s σ H xs us Q I r h
 obtain⟨l,hs,rfl,hH,h9,q⟩:=h
 obtain⟨u,rfl,ru⟩:=zb7 r
 cases ru
 obtain⟨its,rv,ht,_⟩:=I.tuple (SqT.of hH)
 have el:its.toArray.size=hs.length:=by have:=rv.length;rw[B0] at this;simp[←this]
 have hb:its.toArray.size+1<scanBound:=by rw[el];exact Nat.lt_of_le_of_lt (Nat.add_le_add_right h9 1) (by unfold scanBound;decide)
 refine call_set_texts (val:=λk=>hs.getD k "") (I.ok.hd hc) ht ?_ hb λh' tk st kk=>?_
 ·intro k x ex
  rw[List.getElem?_toArray] at ex
  have hk:k<hs.length:=by
   rcases R1 k its.length with z|z
   ·have:=rv.length;rw[B0] at this;lia
   ·rw[G0 z] at ex;cases ex
  obtain⟨u,hu,ru⟩:=rv.get (i:=k) (x:= .str hs[k]) (by rw[V0,F0 hk];rfl)
  rw[ex] at hu
  cases hu
  obtain⟨t,rfl⟩:=ru
  exact⟨t,by simp[List.getD,hk]⟩
 ·rw[el] at st
  obtain⟨f,st,_⟩:=st
  refine⟨.ref s.heap.objs.size,_,I.laid (a:=s.heap.objs.size) (o:=StO X.prog X.w s.heap.objs.size (metS (λk=>hs.getD k "") hs.length).length) (t':=tk) kk (O0 _) ⟨⟨f,st⟩,?_,?_⟩,rfl,q _ (metS_nd _ _) (λx=>?_) _ (I.hok.fresh (O0 _))⟩
  ·obtain ⟨o,_,_,_,e,_⟩:=st;exact⟨o,e⟩
  ·rintro h1 h2 ⟨f,o,es,ep,t,e,r⟩ k
   exact⟨f,o,es,ep,t,k o e,r⟩
  ·rw[metS_mem]
   constructor
   ·rintro ⟨j,hj,rfl⟩
    simp only[List.getD,F0 hj,Q3]
    exact List.getElem_mem hj
   ·intro hx
    obtain⟨j,hj,e⟩:=U3 hx
    exact⟨j,hj,by simp only[List.getD,F0 hj,Q3,e]⟩
end
theorem zos{a b:Str}(h1:leS a b=true)(h2:leS b a=true):a=b:=by
 unfold leS at *
 rw[Bool.not_eq_true'] at *
 by_cases e:a=b
 ·exact e
 ·rw[zcX e h2] at h1;cases h1
theorem zhc:∀{ts:List Str},sortedS ts=true->ts.Pairwise (λa b=>leS a b=true)
 |[],_=> .nil
 |[a],_=>List.pairwise_singleton _ _
 |a::b::ts,h=>by
  have h':(!ltCps b.cps.toList a.cps.toList&&risingS b ts)=true:=h
  rw[L0] at h'
  have hr:sortedS (b::ts)=true:=h'.2
  have hab:leS a b=true:=by
   have h1:ltS b a=false:=by
    have:=h'.1
    rw[ltCps_eq] at this
    simpa using this
   unfold leS
   rw[h1];rfl
  have ih:=zhc hr
  refine List.pairwise_cons.mpr ⟨λz hz=>?_,ih⟩
  rcases K0.mp hz with rfl|hz
  ·exact hab
  ·exact zj7 a b z hab ((List.pairwise_cons.mp ih).1 z hz)
theorem zlJ{ts l:List Str}(hp:ts.Perm l)(hs:sortedS ts=true):ts=srt l:=
 (hp.trans (zdf l).symm).eq_of_pairwise (λa b _ _ h1 h2=>zos h1 h2) (zhc hs) (List.pairwise_mergeSort zj7 zlQ l)
noncomputable def zhs:Sp:=λvs H Q _=>∃(pm:Addr) (v:V) (t:List Str) (w m:Str),vs=[.ref pm,v]/\H pm=some (.tup (t.map V.str))/\Rep H v (.tup [.str w, .str m])/\(∀x∈t,zg x=true)/\zg m=true/\t.length<=60/\∀(p:Addr) (H':Hp),H' p=some (.tup ((ze4 t w m).map V.str))->Same H H'->Q (.ref p) H'
def zgy(rs:List D):Prop:=rs.length<=90/\∀r∈rs,∃cs x,r= .tup [.tup cs,x]/\(∀c∈cs,zT c=true)/\(x= .tup [.str "keep"]\/∃w m,x= .tup [.str w, .str m]/\(w="put"\/w="strike")/\zg m=true)
theorem zkU(h:zep d=true):∃rs,d= .tup rs/\zgy rs:=by
 cases d with
 |tup rs=>
  have h:(decide (rs.length<=90)&&rs.all zcr)=true:=h
  rw[L0] at h
  refine⟨rs,rfl,R0 h.1,λr hr=>?_⟩
  obtain⟨cs,x,rfl,h4,hc,hx⟩:=zlp (V1.mp h.2 r hr)
  exact⟨cs,x,rfl,hc,znj hx⟩
 |_=>cases h
structure Mst(rs:List D)(Pr:Nat->List Str->Prop):Prop where
 skip:∀i t,Pr i t->Pr (i+1) t
 next:∀i t w m cs,Pr i t->rs[i]?=some (.tup [.tup cs, .tup [.str w, .str m]])->Pr (i+1) (ze4 t w m)
 ok:∀i t,i<=rs.length->Pr i t->(∀y∈t,zg y=true)/\t.length<=60
noncomputable def zct:Sp:=λvs H Q _=>∃(v:V) (pw pm:Addr) (vt:V) (x:Str) (ws ms:List Str) (to:Option Str) (g:Str) (hs:List Str) (ps:List (Str×Str)) (lks hds:List D) (j:Nat) (rs:List D) (Pr:Nat->List Str->Prop),vs=[v, .ref pw, .ref pm,vt]/\Rep H v (zbA g hs ps lks hds)/\TownOk g hs ps lks hds/\hs[j]?=some x/\hds[j]?=some (.tup rs)/\zgy rs/\Mst rs Pr/\Pr 0 ms/\H pw=some (.tup ((x::ws).map V.str))/\H pm=some (.tup (ms.map V.str))/\TO0 vt to/\(∀y∈x::ws,zg y=true)/\ws.length<=90/\∀(u:V) (H':Hp),zrA H' u (zD (x::ws) to rs ms)->Same H H'->Q u H'
theorem zmY{O:List Str}(h:zdI O rs)(hn:∀x∈O,zg x=true):zgy rs:=⟨h.1,λr hr=>by
 obtain⟨cs,x,e,hc,hx⟩:=h.2 r hr
 exact⟨cs,x,e,hc,hx.imp id λ⟨w,m,e1,hw,hm⟩=>⟨w,m,e1,hw,hn m hm⟩⟩⟩
theorem zq8{O:List Str}(h:zdI O rs)(hO:O.length<=14)(hn:∀x∈O,zg x=true):Mst rs (λ_ t=>Mk0 O t) where
 skip:=λ_ _ h=>h
 next:=λi t w m cs M e=>by
  obtain⟨cs',x,e1,_,hx⟩:=h.2 _ (U0 e)
  cases e1
  rcases hx with z|⟨w',m',e2,_,hm⟩
  ·cases z
  ·cases e2;exact M.next hm
 ok:=λi t _ M=>⟨λy hy=>hn y (M.mem y hy),J1 (M.len hO) ⋯⟩
theorem zkL{Q:VK}{E:XK}(h:zgJ vs H Q E):zct vs H Q E:=by
 obtain⟨v,pw,pm,vt,x,ws,ms,to,g,hs,ps,lks,hds,j,rs,O,e,hv,T,hj,hdj,hk,O14,On,M,r⟩:=h
 exact⟨v,pw,pm,vt,x,ws,ms,to,g,hs,ps,lks,hds,j,rs,_,e,hv,T,hj,hdj,zmY hk On,zq8 hk O14 On,M,r⟩
theorem zol{t:List Str}{w m:Str}:(ze4 t w m).length<=t.length+1:=by
 unfold ze4
 rw[(zdf _).length_eq]
 unfold zaP
 rw[W0]
 have:=G3 (λx=>!decide (x=m)) t
 split<;>simp<;>lia
theorem zjo{t:List Str}{w m:Str}(h:y∈ze4 t w m):y∈t\/y=m:=by
 unfold ze4 at h
 rw[(zdf _).mem_iff] at h
 unfold zaP at h
 rcases X1.mp h with h|h
 ·exact .inl (X2.mp h).1
 ·split at h
  ·exact .inr (c0.mp h)
  ·cases h
def Mn(c i:Nat)(t:List Str):Prop:=(∀y∈t,zg y=true)/\t.length<=c+i
theorem zom{c:Nat}(h:zgy rs)(hc:c+rs.length<=60):Mst rs (Mn c) where
 skip:=λi t h=>⟨h.1,by have:=h.2;lia⟩
 next:=λi t w m cs M e=>by
  obtain⟨cs',x,e1,_,hx⟩:=h.2 _ (U0 e)
  cases e1
  rcases hx with z|⟨w',m',e2,_,hm⟩
  ·cases z
  ·cases e2
   refine⟨λy hy=>?_,by have:=zol (t:=t) (w:=w) (m:=m);have:=M.2;lia⟩
   rcases zjo hy with h|h
   ·exact M.1 y h
   ·rw[h];exact hm
 ok:=λi t hi M=>⟨M.1,by have:=M.2;lia⟩
theorem zcm{ws:List Str}{to:Option Str}:∀{rs:List D} {ms t:List Str},(∀r∈rs,∃cs x,r= .tup [.tup cs,x]/\(∀c∈cs,zT c=true)/\(x= .tup [.str "keep"]\/∃w m,x= .tup [.str w, .str m]/\(w="put"\/w="strike")/\zg m=true))->(∀y∈ms,zg y=true)->zD ws to rs ms=some t->∀y∈t,zg y=true
 |[],ms,t,_,h,e=>by rw[zD] at e;cases e;exact h
 |r::rs,ms,t,hr,h,e=>by
  obtain⟨cs,x,rfl,_,hx⟩:=hr r Z0
  have hr':=λr h=>hr r (N1 _ h)
  rw[zD] at e
  split at e
  ·rcases hx with rfl|⟨w,m,rfl,_,hm⟩
   ·cases e
   ·exact zcm hr' (λy hy=>(zjo hy).elim (h y) λz=>by rw[z];exact hm) e
  ·exact zcm hr' h e
noncomputable def zc5(f:Pp)(w:List Str)(k:Nat):Str:=(f.to::w).getD k ""
noncomputable def lr1(hs:List Str)(f:Pp)(w:List Str)(p:Pp)(k:Nat):Bool:=decide (w.getD k ""∈hs)&&(decide (p.one=w.getD k ""/\p.to=zc5 f w k)&&decide (p.way=some (w.drop k)))
noncomputable def lr2(hs:List Str)(ps:List (Str×Str))(lks:List D)(f:Pp)(w:List Str)(ms:List Str)(k:Nat):Bool:=!(decide (0<k)&&!decide (zc5 f w k∈zaR ps (w.getD k "")))&&!(decide (k+1<w.length)&&zat (zY (w.drop k) ms (zac hs lks (w.getD k ""))))
noncomputable def lr3(hs:List Str)(hds:List D)(f:Pp)(w:List Str)(p:Pp)(ms:List Str)(k:Nat):Bool:=decide (zD (w.drop k) (some (zc5 f w k)) (zac hs hds (w.getD k "")) ms=some p.marks)
noncomputable def lrC(hs:List Str)(ps:List (Str×Str))(lks hds:List D)(f:Pp)(qs:List Pp)(w:List Str)(k:Nat):Bool:=lr1 hs f w ((f::qs).getD k f) k&&(lr2 hs ps lks f w ((zaI qs).getD k []) k&&lr3 hs hds f w ((f::qs).getD k f) ((zaI qs).getD k []) k)
noncomputable def zjy(g:Str)(f:Pp)(qs:List Pp)(w:List Str):Bool:=decide (w.headD ""=f.one)&&(decide (w.getLast?=some g)&&(decide (qs.length+1=w.length)&&decide w.Nodup))
noncomputable def lrB(g:Str)(hs:List Str)(ps:List (Str×Str))(lks hds:List D)(f:Pp)(qs:List Pp):Bool:=match f.way with
 |none=>qs.isEmpty
 |some w=>zjy g f qs w&&(List.range w.length).all (lrC hs ps lks hds f qs w)
theorem ziI{qs:List Pp}:(zaI qs).length=qs.length+1:=by unfold zaI;rw[W0,B0];rfl
theorem zgu{f:Pp}{qs:List Pp}:zhe hs lks hds f qs=true↔∀k,k<qs.length+1->soB hs lks hds ((f::qs).getD k f) ((zaI qs).getD k [])=true:=by
 unfold zhe
 rw[V1]
 have lz:((f::qs).zip (zaI qs)).length=qs.length+1:=by
  rw[List.length_zip,ziI,O1,Nat.min_self]
 have at_:∀k (hk:k<qs.length+1),((f::qs).zip (zaI qs))[k]?=some ((f::qs).getD k f,(zaI qs).getD k []):=λk hk=>by
  have h1:k<(f::qs).length:=hk
  have h2:k<(zaI qs).length:=by rw[ziI];exact hk
  rw[List.getElem?_zip_eq_some]
  constructor
  ·simp only[List.getD,F0 h1,Q3]
  ·simp only[List.getD,F0 h2,Q3]
 constructor
 ·intro h k hk
  exact h _ (U0 (at_ k hk))
 ·intro h z hz
  obtain⟨k,hk,e⟩:=U3 hz
  have hk':k<qs.length+1:=by rw[←lz];exact hk
  have e2:=at_ k hk'
  rw[F0 hk,e] at e2
  cases e2
  exact h k hk'
theorem zhK{w:List Str}(h:k<w.length):w.drop k=w.getD k ""::w.drop (k+1):=by
 rw[List.drop_eq_getElem_cons h]
 simp only[List.getD,F0 h,Q3]
theorem zqq{f p:Pp}{w:List Str}(hk:k<w.length)(e1:p.to=zc5 f w k)(e2:p.way=some (w.drop k)):soB hs lks hds p ms=(!(decide (k+1<w.length)&&zat (zY (w.drop k) ms (zac hs lks (w.getD k ""))))&&lr3 hs hds f w p ms k):=by
 unfold soB lr3
 rw[e2]
 have hd:(w.drop k).headD ""=w.getD k "":=by rw[zhK hk];rfl
 have hl:decide (1<(w.drop k).length)=decide (k+1<w.length):=by
  rw[D3,G2,P0,P0];lia
 show(!(decide (1<(w.drop k).length)&&zat (zY (w.drop k) ms (zac hs lks ((w.drop k).headD ""))))&&decide (zD (w.drop k) (some p.to) (zac hs hds ((w.drop k).headD "")) ms=some p.marks))=_
 rw[hd,hl,e1]
theorem zju{w:List Str}{qs:List Pp}:zdS w qs qs.length=true↔∀k q,qs[k]?=some q->(q.one=w.getD (k+1) ""/\q.to=w.getD k "")/\q.way=some (w.drop (k+1)):=by
 unfold zdS
 rw[V1]
 have key:∀k q,zfD w q k=true↔(q.one=w.getD (k+1) ""/\q.to=w.getD k "")/\q.way=some (w.drop (k+1)):=λk q=>by
  unfold zfD
  rw[L0,P0,P0]
 constructor
 ·intro h k q e
  have hk:k<qs.length:=by
   rcases R1 k qs.length with z|z
   ·exact z
   ·rw[G0 z] at e;cases e
  have:=h k (U2.mpr hk)
  rw[e] at this
  exact(key k q).mp this
 ·intro h k _
  cases e:qs[k]? with
  |none=>rfl
  |some q=>exact (key k q).mpr (h k q e)
theorem zlz{f:Pp}{qs:List Pp}{q:Pp}(e:qs[k]?=some q):(f::qs).getD (k+1) f=q:=by
 show(qs[k]?).getD f=q
 rw[e];rfl
theorem zmr{w:List Str}(h:w.getLast?=some g):∃w0,w=w0 ++ [g]:=by
 cases e:w with
 |nil=>rw[e] at h;cases h
 |cons a t=>
  refine⟨(a::t).dropLast,?_⟩
  rw[e] at h
  have hl:=List.getLast?_eq_some_getLast (l:=a::t) `n3
  rw[hl] at h
  have hg:=U1 h
  conv=>lhs;rw[←List.dropLast_concat_getLast (l:=a::t) `n3]
  rw[hg]
theorem zsG(hn:∀x∈hs,zg x=true){f:Pp}{qs:List Pp}(hw:∀w,f.way=some w->1<=w.length):lrB g hs ps lks hds f qs=zae g hs ps lks hds f qs:=by
 unfold lrB zae
 cases ew:f.way with
 |none=>rfl
 |some w=>
 have w1:=hw w ew
 show(zjy g f qs w&&(List.range w.length).all (lrC hs ps lks hds f qs w))=(zbq g hs ps (tD w)&&decide (w.headD ""=f.one)&&decide (qs.length+1=w.length)&&zdS w qs qs.length&&zhe hs lks hds f qs)
 rw[G2]
 unfold zjy
 simp only[L0,P0,V1,U2]
 constructor
 ·rintro ⟨⟨h1,h2,h3,h4⟩,hC⟩
  have C:∀k,k<w.length->lr1 hs f w ((f::qs).getD k f) k=true/\lr2 hs ps lks f w ((zaI qs).getD k []) k=true/\lr3 hs hds f w ((f::qs).getD k f) ((zaI qs).getD k []) k=true:=λk hk=>by
   have:=hC k hk
   unfold lrC at this
   rw[L0,L0] at this
   exact this
  have C1:∀k,k<w.length->w.getD k ""∈hs/\(((f::qs).getD k f).one=w.getD k ""/\((f::qs).getD k f).to=zc5 f w k)/\((f::qs).getD k f).way=some (w.drop k):=λk hk=>by
   have:=(C k hk).1
   unfold lr1 at this
   rw[L0,L0,P0,P0,P0] at this
   exact this
  have W:WayOk g hs ps w:={
   nd:=h4
   mem:=λx hx=>by
    obtain⟨k,hk,e⟩:=U3 hx
    have:=(C1 k hk).1
    simp only[List.getD,F0 hk,Q3,e] at this
    exact this
   last:=zmr h2
   tied:=λi a b ha hb=>by
    have hi:i+1<w.length:=by
     rcases R1 (i+1) w.length with z|z
     ·exact z
     ·rw[G0 z] at hb;cases hb
    have:=(C (i+1) hi).2.1
    unfold lr2 at this
    rw[L0] at this
    have h:=this.1
    rw[N0 (Nat.succ_pos i),Bool.true_and,Bool.not_not,P0] at h
    have e1:zc5 f w (i+1)=a:=by show(w[i]?).getD ""=a;rw[ha];rfl
    have e2:w.getD (i+1) ""=b:=by show(w[i+1]?).getD ""=b;rw[hb];rfl
    rw[e1,e2] at h
    exact zbd.mpr (zbd.mp h).symm}
  refine⟨⟨⟨⟨W.ok hn,h1⟩,h3⟩,zju.mpr λk q e=>?_⟩,zgu.mpr λk hk=>?_⟩
  ·have hk:k<qs.length:=by
    rcases R1 k qs.length with z|z
    ·exact z
    ·rw[G0 z] at e;cases e
   have:=C1 (k+1) ()
   rw[zlz e] at this
   exact⟨this.2.1,this.2.2⟩
  ·have hk':k<w.length:=()
   obtain⟨_,⟨_,b2⟩,b3⟩:=C1 k hk'
   rw[zqq hk' b2 b3,(C k hk').2.2,Bool.and_true]
   have:=(C k hk').2.1
   unfold lr2 at this
   rw[L0] at this
   exact this.2
 ·rintro ⟨⟨⟨⟨hW,h1⟩,h3⟩,hf⟩,hS⟩
  have hf:=zju.mp hf
  have hS:=zgu.mp hS
  unfold zbq at hW
  rw[L0,L0] at hW
  obtain⟨⟨_,hh⟩,hw'⟩:=hW
  rw[show zfB (tD w)=w from zeY w] at hw'
  unfold zpd at hw'
  rw[L0,L0,P0,P0,V1] at hw'
  obtain⟨⟨a1,a2⟩,a3⟩:=hw'
  have mem:∀x∈w,x∈hs:=λx hx=>by
   have hb:=V1.mp (show(w.map D.str).all (zP hs)=true from hh) (.str x) (G1.mpr ⟨x,hx,rfl⟩)
   obtain⟨y,ey,hy⟩:=zbY hb
   cases ey
   exact hy
  refine⟨⟨h1,a1,h3,a2⟩,λk hk=>?_⟩
  have at_:(((f::qs).getD k f).one=w.getD k ""/\((f::qs).getD k f).to=zc5 f w k)/\((f::qs).getD k f).way=some (w.drop k):=by
   cases k with
   |zero=>
    refine⟨⟨?_,rfl⟩,ew⟩
    show f.one=w.getD 0 ""
    rw[←h1]
    cases w<;>rfl
   |succ k=>
    have hk':k<qs.length:=()
    have e:=F0 hk'
    rw[zlz e]
    obtain⟨⟨b1,b2⟩,b3⟩:=hf k _ e
    exact⟨⟨b1,b2⟩,b3⟩
  have hso:=hS k ()
  rw[zqq hk at_.1.2 at_.2,L0] at hso
  unfold lrC lr1 lr2
  have hm:w.getD k ""∈hs:=by
   refine mem _ ?_
   simp only[List.getD,F0 hk,Q3]
   exact List.getElem_mem hk
  rw[N0 hm,N0 at_.1,N0 at_.2,hso.1,hso.2]
  cases k with
  |zero=>rfl
  |succ k=>
   have ht:=a3 k (U2.mpr ())
   have ht:w.getD (k+1) ""∈zaR ps (w.getD k ""):=R0 ht
   have ht2:zc5 f w (k+1)∈zaR ps (w.getD (k+1) ""):=zbd.mpr (zbd.mp ht).symm
   rw[N0 ht2,Bool.not_true,F3];rfl
theorem zjK:∀{l ys:List Str},ys.Nodup->(∀x∈ys,x∈l)->¬l.Nodup->ys.length<l.length
 |[],_,_,_,h=>absurd List.nodup_nil h
 |a::t,ys,hy,hs,h=>by
  by_cases ha:a∈t
  ·have:ys.length<=t.length:=nodup_len hy λx hx=>by
    rcases K0.mp (hs x hx)with e|e
    ·rw[e];exact ha
    ·exact e
   rw[O1];lia
  ·have ht:¬t.Nodup:=λz=>h (List.nodup_cons.mpr ⟨ha,z⟩)
   have:=zjK (l:=t) (ys:=ys.erase a) (hy.erase a) (λx hx=>by
    have hxy:=List.mem_of_mem_erase hx
    rcases K0.mp (hs x hxy)with e|e
    ·subst e
     exact absurd hx (λz=>by have:=(List.Nodup.mem_erase_iff hy).mp z;exact this.1 rfl)
    ·exact e) ht
   have l2:=List.length_erase (a:=a) (l:=ys)
   rw[O1]
   split at l2<;>lia
theorem zrz{l ys:List Str}(hy:ys.Nodup)(hm:∀x,x∈ys↔x∈l):decide ((ys.length:Int)<(l.length:Int))=!decide l.Nodup:=by
 by_cases h:l.Nodup
 ·have:l.length<=ys.length:=nodup_len h λx hx=>(hm x).mpr hx
  rw[N0 h,A1 ()];rfl
 ·have:=zjK hy (λx hx=>(hm x).mp hx) h
  rw[A1 h,N0 ()];rfl
theorem vr{A Q:α->Prop}{v:α}(h:A v)(q:Q v):∃v,A v/\Q v:=⟨v,h,q⟩
theorem ixT{i:Int}{Q:V->Prop}(h:H p=some (.tup xs))(e:atI xs i=some v)(q:Q v):∃p' xs' i' v',V.ref p= .ref p'/\V.int i= .int i'/\SqT K H p' xs'/\atI xs' i'=some v'/\Q v':=⟨p,xs,i,v,rfl,rfl, .inl (.inl h),e,q⟩
theorem ixL{i:Int}{Q:V->Prop}(h:H p=some (.lst xs))(e:atI xs i=some v)(q:Q v):∃p' xs' i' v',V.ref p= .ref p'/\V.int i= .int i'/\SqL K H p' xs'/\atI xs' i'=some v'/\Q v':=⟨p,xs,i,v,rfl,rfl,SqL.of h,e,q⟩
theorem zei{N B C:St->Hp->Prop}{R:VK}(k:∀n:St->Hp->Prop,(∀σ' H',sb ⟨N,R,B,C⟩ σ' H'->n σ' H')->sa ⟨n,R,B,C⟩ σ H):zm2 sa sb ⟨N,R,B,C⟩ σ H:=k _ λ_ _ h=>h
section
variable{γ δ ε ζ η θ:Type}
theorem ex2{p:α->β->Prop}(a:α)(b:β)(h:p a b):∃a b,p a b:=⟨a,b,h⟩
theorem ex3{p:α->β->γ->Prop}(a:α)(b:β)(c:γ)(h:p a b c):∃a b c,p a b c:=⟨a,b,c,h⟩
theorem ex4{p:α->β->γ->δ->Prop}(a:α)(b:β)(c:γ)(d:δ)(h:p a b c d):∃a b c d,p a b c d:=⟨a,b,c,d,h⟩
theorem ex8{p:α->β->γ->δ->ε->ζ->η->θ->Prop}(a:α)(b:β)(c:γ)(d:δ)(e:ε)(f:ζ)(g:η)(i:θ)(h:p a b c d e f g i):∃a b c d e f g i,p a b c d e f g i:=⟨a,b,c,d,e,f,g,i,h⟩
end
section
open PySem.W
end
section
variable{P:Nat->Value->Prop}{St:Nat->Heap->Prop}
end
structure RawKm(h:Heap)(b:Addr)(k:Ky):Prop where
 at_:∃t u,IsTup h b #[.ref t,u]/\RawK h t k
inductive TrX(K:W.Frag)(H:Hp):V->PyData->Prop
 |non:TrX K H .non .none
 |int (i:Int):TrX K H (.int i) (.int i)
 |str (x:Str) (h:PyData.strOk x=true):TrX K H (.str x) (.str x)
 |tup {p:Addr} {vs:List V} {ds:List PyData} (e:SqT K H p vs) (hl:vs.length=ds.length) (h:∀(i:Nat) (v:V) (d:PyData),vs[i]?=some v->ds[i]?=some d->TrX K H v d):TrX K H (.ref p) (.tuple ds)
 |lst {p:Addr} {vs:List V} {ds:List PyData} (e:H p=some (.lst vs)) (hl:vs.length=ds.length) (h:∀(i:Nat) (v:V) (d:PyData),vs[i]?=some v->ds[i]?=some d->TrX K H v d):TrX K H (.ref p) (.list ds)
noncomputable abbrev Hr:=Int×Option WM
noncomputable abbrev Tb:=List (Str×Hr)
structure TbOk(hs:List Str)(ok:Str->Hr->Prop)(tm:Tb):Prop where
 nd:(tm.map (·.1)).Nodup
 mem:∀p∈tm,p.1∈hs/\ok p.1 p.2
theorem zfT{k:Str}:∀{v:Value},v.isStrOf k=true->∃t,v= .str k t:=by
 intro v e
 cases v with
 |str x t=>exact ⟨t,by have:x=k:=by simpa[Value.isStrOf] using e
                       rw[this]⟩
 |_=>exact absurd e (by intro z;exact Bool.noConfusion z)
section
variable{b:Addr}{k:WKey}{xs:List (WKey×Addr×Value)}
end
inductive Alk(H:Hp):List (Key×V)->List (Key×V)->Prop
 |nil:Alk H [] []
 |cons {k:Key} {v v':V} {d:PyData} {r r':List (Key×V)}:Tr H v d->Tr H v' d->d.depth<=60->Alk H r r'->Alk H ((k,v)::r) ((k,v')::r')
section
open Sem (wp)
open MeetsSeq MeetsSeq2 MeetsSeq3 Builtin
end
abbrev Rise(xs:Array Nat):Prop:=xs.toList.Pairwise (·<·)
theorem Rise.at{xs:Array Nat}(hr:Rise xs)(hi:i<xs.size)(hk:k<xs.size)(h:i<k):xs[i]<xs[k]:=by
 have:=List.pairwise_iff_getElem.mp hr i k (by simpa using hi) (by simpa using hk) h
 simpa using this
theorem zgN{xs:Array Nat}{j:Nat}(hr:Rise xs):∀(f lo hi:Nat),lo<=hi->hi<=xs.size->hi -lo<=f->(∀(i:Nat) (h:i<xs.size),i<lo->xs[i]<j)->(∀(i:Nat) (h:i<xs.size),hi<=i->j<=xs[i])->SetTable.below.go xs j f lo hi<=xs.size/\(∀(i:Nat) (h:i<xs.size),i<SetTable.below.go xs j f lo hi->xs[i]<j)/\(∀(i:Nat) (h:i<xs.size),SetTable.below.go xs j f lo hi<=i->j<=xs[i])
 |0,lo,hi,h1,h2,h3,ha,hb=>by
  have:lo=hi:=()
  subst this
  exact⟨h2,ha,hb⟩
 |f+1,lo,hi,h1,h2,h3,ha,hb=>by
  unfold SetTable.below.go
  by_cases h:lo<hi
  ·rw[E1 h]
   have hm:(lo+hi)/2<xs.size:=()
   have hg:xs.getD ((lo+hi)/2) j=xs[(lo+hi)/2]:=by simp[Array.getD,hm]
   simp only[hg]
   by_cases hc:xs[(lo+hi)/2]<j
   ·rw[E1 hc]
    refine zgN hr f _ _ () h2 () (λi h' hl=>?_) hb
    by_cases he:i=(lo+hi)/2
    ·subst he;exact hc
    ·exact Nat.lt_trans (hr.at h' hm ()) hc
   ·rw[Y0 hc]
    refine zgN hr f _ _ () () () ha (λi h' hl=>?_)
    by_cases he:i=(lo+hi)/2
    ·subst he;lia
    ·have:=hr.at hm h' (by lia:(lo+hi)/2<i);lia
  ·rw[Y0 h]
   have:lo=hi:=()
   subst this
   exact⟨h2,ha,hb⟩
theorem zdH{xs:Array Nat}(hr:Rise xs):SetTable.below xs j<=xs.size/\(∀(i:Nat) (h:i<xs.size),i<SetTable.below xs j->xs[i]<j)/\(∀(i:Nat) (h:i<xs.size),SetTable.below xs j<=i->j<=xs[i]):=
 zgN hr _ _ _ (K2 _) (O0 _) () (λ_ _ h=>absurd h (Nat.not_lt_zero _)) (λi h h'=>())
theorem zfz{xs:Array Nat}(hr:Rise xs)(h:j∈xs.toList):xs[SetTable.below xs j]?=some j:=by
 obtain⟨i,hi,e⟩:=U3 h
 have hi':i<xs.size:=by simpa using hi
 have e':xs[i]=j:=by simpa using e
 obtain⟨h1,h2,h3⟩:=zdH (j:=j) hr
 have hb:SetTable.below xs j=i:=by
  rcases Nat.lt_trichotomy (SetTable.below xs j) i with c|c|c
  ·have hlt:SetTable.below xs j<xs.size:=()
   have a:=h3 _ hlt (O0 _)
   have b:=hr.at hlt hi' c
   lia
  ·exact c
  ·have:=h2 i hi' c;lia
 rw[hb,W1 hi',e']
theorem zg8(hr:Rise t.place)(h:j∈t.place.toList):t.slot j= .live (SetTable.below t.place j):=by
 unfold SetTable.slot
 simp[zfz hr h]
theorem zkk(hd:t.dummies= #[])(h:j∉t.place.toList):t.slot j= .empty:=by
 unfold SetTable.slot
 have h1:t.place[SetTable.below t.place j]?≠some j:=λe=>h (by
  have:=Array.mem_of_getElem? e
  simpa using this)
 have h2:SetTable.has t.dummies j=false:=by
  rw[hd];unfold SetTable.has;simp
 simp[h1,h2]
noncomputable def zaL(t:SetTable)(h:Int):Nat->SetTable.Probe
 |0=>t.probeStart h
 |n+1=>t.advance (zaL t h n)
noncomputable abbrev zas(t:SetTable)(h:Int)(n:Nat):Nat:=(zaL t h n).j
theorem zeJ(t:SetTable)(h:Int):∀n,(zaL t h n).dummy=none
 |0=>rfl
 |n+1=>by
  show(t.advance (zaL t h n)).dummy=none
  unfold SetTable.advance
  split
  ·exact zeJ t h n
  ·exact zeJ t h n
theorem zel{t t':SetTable}(e:t'.mask=t.mask)(h:Int):∀n,zaL t' h n=zaL t h n
 |0=>by simp[zaL,SetTable.probeStart,e]
 |n+1=>by
  show t'.advance (zaL t' h n)=t.advance (zaL t h n)
  rw[zel e h n];simp[SetTable.advance,e]
noncomputable def zaF(mask:Nat)(h:Int):Nat->Nat×Nat
 |0=>(SetTable.bits h%(mask+1),SetTable.bits h)
 |k+1=>SetTable.leap mask (zaF mask h k).1 (zaF mask h k).2
noncomputable def zdJ(mask:Nat)(q:Nat×Nat):SetTable.Probe:={j:=q.1,more:=SetTable.runEnd mask q.1 -q.1,i:=q.1,perturb:=q.2,dummy:=none}
theorem zl8(mask i:Nat):SetTable.runEnd mask i -i<=9:=by unfold SetTable.runEnd;split<;>lia
theorem zcT{mask:Nat}(h:i<=mask):SetTable.runEnd mask i<=mask/\i<=SetTable.runEnd mask i:=by unfold SetTable.runEnd;split<;>lia
theorem zfC{t:SetTable}{h:Int}{n:Nat}{q:Nat×Nat}(e:zaL t h n=zdJ t.mask q):∀d,d<=SetTable.runEnd t.mask q.1 -q.1->zaL t h (n+d)={zdJ t.mask q with j:=q.1+d,more:=SetTable.runEnd t.mask q.1 -q.1 -d}
 |0,_=>by simpa[zdJ] using e
 |d+1,hd=>by
  show t.advance (zaL t h (n+d))=_
  rw[zfC e d ()]
  unfold SetTable.advance
  simp only[zdJ]
  rw[E1 ()]
  congr 1
theorem zjG{h:Int}{q:Nat×Nat}(e:zaL t h n=zdJ t.mask q):zaL t h (n+(SetTable.runEnd t.mask q.1 -q.1)+1)=zdJ t.mask (SetTable.leap t.mask q.1 q.2):=by
 show t.advance (zaL t h (n+(SetTable.runEnd t.mask q.1 -q.1)))=_
 rw[zfC e _ (O0 _)]
 unfold SetTable.advance
 simp only[zdJ]
 rw[Y0 ()]
theorem zly(t:SetTable)(h:Int):∀k,∃n,n<=10*k/\zaL t h n=zdJ t.mask (zaF t.mask h k)
 |0=>⟨0,(),rfl⟩
 |k+1=>by
  obtain⟨n,hn,e⟩:=zly t h k
  refine⟨_,?_,zjG e⟩
  have:=zl8 t.mask (zaF t.mask h k).1
  lia
theorem zhy(mask:Nat)(h:Int):∀k,(zaF mask h k).2=SetTable.bits h/32^k
 |0=>by simp[zaF]
 |k+1=>by
  show(zaF mask h k).2/32=_
  rw[zhy mask h k,Nat.div_div_eq_div_mul,Nat.pow_succ]
theorem zqa(h:Int):SetTable.bits h<2^64:=by
 unfold SetTable.bits
 have:=Int.emod_lt_of_pos h (show(0:Int)<2^64 by decide)
 have h0:=Int.emod_nonneg h (show(2^64:Int)≠0 by decide)
 lia
theorem zeF(mask:Nat)(h:Int):∀k,(zaF mask h k).1<=mask
 |0=>Nat.lt_succ_iff.mp (Nat.mod_lt _ (Nat.succ_pos _))
 |k+1=>Nat.lt_succ_iff.mp (Nat.mod_lt _ (Nat.succ_pos _))
noncomputable def zdn(mask:Nat):Nat->Nat->Nat
 |0,i=>i
 |d+1,i=>(zdn mask d i*5+1)%(mask+1)
theorem zhA{mask:Nat}{h:Int}:∀d,(zaF mask h (13+d)).1=zdn mask d (zaF mask h 13).1
 |0=>rfl
 |d+1=>by
  have hp:(zaF mask h (13+d)).2=0:=by
   rw[zhy]
   apply Nat.div_eq_of_lt
   have h1:=zqa h
   have h2:32^13<=32^(13+d):=Nat.pow_le_pow_right ⋯ ()
   have h3:(2:Nat)^64<32^13:=⋯
   lia
  show((zaF mask h (13+d)).1*5+1+(zaF mask h (13+d)).2/32)%(mask+1)=_
  rw[hp,zhA d]
  rfl
def zc8(m:Nat):Prop:=m=7\/m=31\/m=127
theorem zds(m:Nat)(a:Nat)(i:Nat):∀d,zdn m (a+d) i=zdn m d (zdn m a i)
 |0=>rfl
 |d+1=>by
  show(zdn m (a+d) i*5+1)%(m+1)=(zdn m d (zdn m a i)*5+1)%(m+1)
  rw[zds m a i d]
noncomputable def zkP(m:Nat):Nat->Nat->List Nat
 |0,_=> []
 |k+1,i=>i::zkP m k ((i*5+1)%(m+1))
theorem zg7{m j:Nat}:∀(k i:Nat),j∈zkP m k i->∃d<k,zdn m d i=j
 |0,_,h=>nomatch h
 |k+1,i,h=>by
  rcases K0.mp h with h|h
  ·exact ⟨0,(),h.symm⟩
  ·obtain ⟨d,hd,e⟩:=zg7 k _ h
   refine⟨1+d,(),?_⟩
   rw[zds];exact e
noncomputable def zrI(m:Nat):Bool:=(List.range (m+1)).all λj=>(zkP m (m+1) 0).contains j
theorem zkH{m:Nat}(h:zrI m=true)(h0:zdn m (m+1) 0=0)(hi:i<=m)(hj:j<=m):∃d≤m,zdn m d i=j:=by
 have g:∀x≤m,∃d<m+1,zdn m d 0=x:=λx hx=>by
  have h1:=V1.mp h x (by simp;lia)
  exact zg7 _ _ (by simpa using h1)
 obtain⟨a,ha,ea⟩:=g i hi
 obtain⟨b,hb,eb⟩:=g j hj
 by_cases c:a<=b
 ·refine ⟨b -a,(),?_⟩
  rw[←ea,←zds,show a+(b -a)=b by lia,eb]
 ·refine ⟨m+1 -a+b,(),?_⟩
  rw[←ea,←zds,show a+(m+1 -a+b)=(m+1)+b by lia,zds,h0,eb]
theorem zrM{m:Nat}(h:zc8 m)(hi:i<=m)(hj:j<=m):∃d≤m,zdn m d i=j:=by
 rcases h with h|h|h<;>subst h
 ·exact zkH `n4 `n4 hi hj
 ·exact zkH `n4 `n4 hi hj
 ·exact zkH `n4 `n4 hi hj
theorem zhB{m:Nat}(hm:zc8 m)(h:Int)(hj:j<=m):∃k,k<=13+m/\(zaF m h k).1=j:=by
 obtain⟨d,hd,e⟩:=zrM hm (zeF m h 13) hj
 exact⟨13+d,(),by rw[zhA,e]⟩
theorem znU(hm:zc8 t.mask)(h:Int)(hj:j<=t.mask):∃n,n<10*SetTable.turns t.mask/\zas t h n=j:=by
 obtain⟨k,hk,e⟩:=zhB hm h hj
 obtain⟨n,hn,e'⟩:=zly t h k
 refine⟨n,by unfold SetTable.turns;lia,?_⟩
 show(zaL t h n).j=j
 rw[e'];exact e
def Reach(t:SetTable)(h:Int)(j:Nat):Prop:=∃n,zas t h n=j/\∀m<n,zas t h m∈t.place.toList
structure LayT(t:SetTable)(hs:List Int):Prop where
 size:t.place.size=hs.length
 rise:Rise t.place
 bnd:∀j∈t.place.toList,j<=t.mask
 dum:t.dummies= #[]
 mask:zc8 t.mask
 reach:∀p∈t.place.toList.zip hs,Reach t p.2 p.1
theorem Reach.grow{t':SetTable}{h:Int}(e:t'.mask=t.mask)(hp:∀k∈t.place.toList,k∈t'.place.toList)(r:Reach t h j):Reach t' h j:=by
 obtain⟨n,e1,f⟩:=r
 exact⟨n,by rw[zas,zel e];exact e1,λm hm=>by rw[zas,zel e];exact hp _ (f m hm)⟩
theorem znO{P:Nat->Prop}:∀n,P n->∃m,m<=n/\P m/\∀k<m,¬P k:=by
 intro n
 induction n using Nat.strongRecOn with
 |ind n ih=>
  intro h
  by_cases c:∃k,k<n/\P k
  ·obtain ⟨k,hk,pk⟩:=c
   obtain⟨m,hm,r⟩:=ih k hk pk
   exact⟨m,(),r⟩
  ·exact ⟨n,O0 _,h,λk hk pk=>c ⟨k,hk,pk⟩⟩
theorem zed:∀(m:Nat) (l:List Nat),(∀j<m,j∈l)->m<=l.length
 |0,l,_=>K2 _
 |m+1,l,h=>by
  have hm:m∈l:=h m ()
  have h1:=zed m (l.erase m) (λj hj=>(List.mem_erase_of_ne ()).mpr (h j ()))
  have h2:=List.length_erase_of_mem hm
  have h3:0<l.length:=List.length_pos_of_mem hm
  lia
theorem zqg{l:List Nat}{m:Nat}(h:l.length<=m):∃j,j<=m/\j∉l:=by
 refine Classical.byContradiction λc=>?_
 have:=zed (m+1) l (λj hj=>Classical.byContradiction λn=>c ⟨j,(),n⟩)
 lia
theorem LayT.first{hs:List Int}(L:LayT t hs)(hf:hs.length<=t.mask)(h:Int):∃ne,ne<10*SetTable.turns t.mask/\zas t h ne∉t.place.toList/\∀m<ne,zas t h m∈t.place.toList:=by
 obtain⟨j,hj,hn⟩:=zqg (l:=t.place.toList) (m:=t.mask) (by rw[j1,L.size];exact hf)
 obtain⟨n,hn',e⟩:=znU L.mask h hj
 obtain⟨m,hm,p,q⟩:=znO (P:=λn=>zas t h n∉t.place.toList) n (by show zas t h n∉_;rw[e];exact hn)
 exact⟨m,(),p,λk hk=>Classical.byContradiction λc=>q k hk c⟩
theorem zfU(t:SetTable)(h:Int):∀n,(zaL t h n).j+(zaL t h n).more<=t.mask
 |0=>by
  have h1:=zcT (mask:=t.mask) (i:=SetTable.bits h%(t.mask+1)) (Nat.lt_succ_iff.mp (Nat.mod_lt _ (Nat.succ_pos _)))
  show SetTable.bits h%(t.mask+1)+(SetTable.runEnd t.mask (SetTable.bits h%(t.mask+1)) -SetTable.bits h%(t.mask+1))<=t.mask
  lia
 |n+1=>by
  have ih:=zfU t h n
  show(t.advance (zaL t h n)).j+(t.advance (zaL t h n)).more<=t.mask
  unfold SetTable.advance
  split
  ·show (zaL t h n).j+1+((zaL t h n).more -1)<=t.mask
   lia
  ·have h1:=zcT (mask:=t.mask) (i:=(SetTable.leap t.mask (zaL t h n).i (zaL t h n).perturb).1) (Nat.lt_succ_iff.mp (Nat.mod_lt _ (Nat.succ_pos _)))
   show(SetTable.leap t.mask (zaL t h n).i (zaL t h n).perturb).1+(SetTable.runEnd t.mask (SetTable.leap t.mask (zaL t h n).i (zaL t h n).perturb).1 -(SetTable.leap t.mask (zaL t h n).i (zaL t h n).perturb).1)<=t.mask
   lia
theorem zr2(t:SetTable)(h:Int)(n:Nat):zas t h n<=t.mask:=by
 have:=zfU t h n
 show(zaL t h n).j<=t.mask
 lia
theorem zk9{t:SetTable}{hs:List Int}{h:Int}{ne:Nat}(L:LayT t hs)(hashAt:Nat->Int)(he:zas t h ne∉t.place.toList)(hf:∀m<ne,zas t h m∈t.place.toList):∀f n,n<=ne->ne<n+f->
 (SetTable.probe.go t hashAt h f (zaL t h n)=some (.empty (zas t h ne) none)/\∀m,n<=m->m<ne->hashAt (SetTable.below t.place (zas t h m))≠h)\/
 (∃m,n<=m/\m<ne/\SetTable.probe.go t hashAt h f (zaL t h n)=some (.candidate (zas t h m) (SetTable.below t.place (zas t h m)) (zaL t h (m+1)))/\hashAt (SetTable.below t.place (zas t h m))=h/\∀m',n<=m'->m'<m->hashAt (SetTable.below t.place (zas t h m'))≠h)
 |0,n,h1,h2=>()
 |f+1,n,h1,h2=>by
  unfold SetTable.probe.go
  by_cases c:n=ne
  ·subst c
   refine .inl ⟨?_,λm a b=>()⟩
   rw[show(zaL t h n).j=zas t h n from rfl,zkk L.dum he]
   simp only[zeJ]
  ·have hl:=hf n ()
   rw[show(zaL t h n).j=zas t h n from rfl,zg8 L.rise hl]
   simp only[]
   by_cases c2:hashAt (SetTable.below t.place (zas t h n))=h
   ·refine .inr ⟨n,O0 _,(),?_,c2,λm' a b=>()⟩
    rw[E1 (by simpa using c2)]
    rfl
   ·rw[Y0 (by simpa using c2)]
    rw[show t.advance (zaL t h n)=zaL t h (n+1)from rfl]
    rcases zk9 L hashAt he hf f (n+1) () ()with⟨e,r⟩|⟨m,a,b,e,q,r⟩
    ·refine .inl ⟨e,λm a b=>?_⟩
     by_cases c3:m=n
     ·subst c3;exact c2
     ·exact r m () b
    ·refine .inr ⟨m,(),b,e,q,λm' a' b'=>?_⟩
     by_cases c3:m'=n
     ·subst c3;exact c2
     ·exact r m' () b'
theorem zjs{xs:Array α}{p:Nat}{x:α}(hp:p<=xs.size):(SetTable.insertAt xs p x).toList=xs.toList.take p ++x::xs.toList.drop p:=by
 unfold SetTable.insertAt
 simp[Array.toList_extract,List.extract_eq_drop_take]
 exact List.take_of_length_le `n3
theorem ziA{l:List α}{p:Nat}{y:α}:y∈l.take p\/y∈l.drop p↔y∈l:=by
 rw[←X1,List.take_append_drop]
theorem LayT.put{hs:List Int}(L:LayT t hs){h:Int}(hj:j∉t.place.toList)(hb:j<=t.mask)(r:Reach t h j):
 (t.put j).2<=hs.length/\(t.put j).1.mask=t.mask/\LayT (t.put j).1 (hs.take (t.put j).2 ++h::hs.drop (t.put j).2):=by
 obtain⟨b1,b2,b3⟩:=zdH (xs:=t.place) (j:=j) L.rise
 have e2:(t.put j).2=SetTable.below t.place j:=rfl
 have ep:(t.put j).1.place.toList=t.place.toList.take (SetTable.below t.place j)++j::t.place.toList.drop (SetTable.below t.place j):=by
  show(SetTable.insertAt t.place (SetTable.below t.place j) j).toList=_
  exact zjs b1
 have em:(t.put j).1.mask=t.mask:=rfl
 have hmem:∀k,k∈(t.put j).1.place.toList↔k=j\/k∈t.place.toList:=λk=>by
  rw[ep,X1,K0,←ziA (l:=t.place.toList) (p:=SetTable.below t.place j)]
  constructor
  ·rintro (a|a|a)
   ·exact .inr (.inl a)
   ·exact .inl a
   ·exact .inr (.inr a)
  ·rintro (a|a|a)
   ·exact .inr (.inl a)
   ·exact .inl a
   ·exact .inr (.inr a)
 have hlt:∀k∈t.place.toList.take (SetTable.below t.place j),k<j:=λk hk=>by
  obtain⟨i,hi,e⟩:=U3 hk
  rw[N2,j1] at hi
  rw[List.getElem_take] at e
  have:=b2 i () ()
  simp at e
  lia
 have hgt:∀k∈t.place.toList.drop (SetTable.below t.place j),j<k:=λk hk=>by
  obtain⟨i,hi,e⟩:=U3 hk
  rw[D3,j1] at hi
  rw[List.getElem_drop] at e
  have h3:=b3 (SetTable.below t.place j+i) () ()
  simp at e
  have hne:k≠j:=λc=>hj (c▸List.mem_of_mem_drop hk)
  lia
 refine⟨by rw[e2,←L.size];exact b1,em,?_⟩
 rw[e2]
 have hl1:(t.place.toList.take (SetTable.below t.place j)).length=(hs.take (SetTable.below t.place j)).length:=by
  rw[N2,N2,j1,L.size]
 refine{size:=?_,rise:=?_,bnd:=?_,dum:=?_,mask:=by rw[em];exact L.mask,reach:=?_}
 ·rw[←j1,ep]
  simp only[W0,O1,N2,D3,j1,L.size]
 ·show (t.put j).1.place.toList.Pairwise (·<·)
  rw[ep,List.pairwise_append]
  refine⟨L.rise.sublist (List.take_sublist _ _),?_,?_⟩
  ·rw[List.pairwise_cons]
   exact⟨hgt,L.rise.sublist (List.drop_sublist _ _)⟩
  ·intro a ha b hb'
   rcases K0.mp hb' with c|c
   ·subst c;exact hlt a ha
   ·exact Nat.lt_trans (hlt a ha) (hgt b c)
 ·intro k hk
  rcases(hmem k).mp hk with c|c
  ·subst c;rw[em];exact hb
  ·rw[em];exact L.bnd k c
 ·show (if SetTable.has t.dummies j then _ else t.dummies)= #[]
  rw[L.dum]
  simp[SetTable.has]
 ·intro p hp
  have hg:∀k∈t.place.toList,k∈(t.put j).1.place.toList:=λk hk=>(hmem k).mpr (.inr hk)
  rw[ep,List.zip_append hl1,List.zip_cons_cons] at hp
  have hz:t.place.toList.zip hs=(t.place.toList.take (SetTable.below t.place j)).zip (hs.take (SetTable.below t.place j))++(t.place.toList.drop (SetTable.below t.place j)).zip (hs.drop (SetTable.below t.place j)):=by
   rw[←List.zip_append hl1,List.take_append_drop,List.take_append_drop]
  rcases X1.mp hp with c|c
  ·exact (L.reach p (by rw[hz];exact X1.mpr (.inl c))).grow em hg
  ·rcases K0.mp c with c|c
   ·subst c;exact r.grow em hg
   ·exact (L.reach p (by rw[hz];exact X1.mpr (.inr c))).grow em hg
noncomputable def tM(mask:Nat):SetTable:={mask:=mask,place:= #[],dummies:= #[],finger:=0,led:=false,moves:=0,plain:=false}
abbrev zcY(owner:Array (Option Nat))(j:Nat):Prop:=∃k,owner[j]?=some (some k)
structure OwnOk(mask:Nat)(owner:Array (Option Nat))(hs:List Int):Prop where
 size:owner.size=mask+1
 lt:∀(j k:Nat),owner[j]?=some (some k)->k<hs.length
 all:∀k<hs.length,∃j:Nat,owner[j]?=some (some k)
 inj:∀(j j' k:Nat),owner[j]?=some (some k)->owner[j']?=some (some k)->j=j'
 reach:∀(j k:Nat) (h:Int),owner[j]?=some (some k)->hs[k]?=some h->∃n,zas (tM mask) h n=j/\∀m<n,zcY owner (zas (tM mask) h m)
theorem OwnOk.free{mask:Nat}{hs:List Int}(O:OwnOk mask owner hs)(hl:hs.length<=mask):∃j,j<=mask/\¬zcY owner j:=by
 refine Classical.byContradiction λc=>?_
 have h1:∀k,∃j:Nat,k<hs.length->owner[j]?=some (some k):=λk=>by
  by_cases hk:k<hs.length
  ·obtain ⟨j,e⟩:=O.all k hk;exact⟨j,λ_=>e⟩
  ·exact ⟨0,λh=>absurd h hk⟩
 obtain⟨f,hf⟩:=Classical.skolem.mp h1
 have:=zed (mask+1) ((List.range hs.length).map f) (λj hj=>by
  have ho:zcY owner j:=Classical.byContradiction λn=>c ⟨j,(),n⟩
  obtain⟨k,e⟩:=ho
  have hk:=O.lt j k e
  exact G1.mpr ⟨k,U2.mpr hk,O.inj _ _ _ (hf k hk) e⟩)
 rw[B0,List.length_range] at this
 lia
theorem zeo{mask:Nat}(hs:owner.size=mask+1)(hj:j<=mask):(owner.getD j (some 0)).isNone=false↔zcY owner j:=by
 have hlt:j<owner.size:=()
 rw[show owner.getD j (some 0)=owner[j] by simp[Array.getD,hlt]]
 constructor
 ·intro h
  cases e:owner[j] with
  |none=>rw[e] at h;simp at h
  |some k=>exact ⟨k,by rw[W1 hlt,e]⟩
 ·rintro ⟨k,e⟩
  rw[W1 hlt] at e
  have:owner[j]=some k:=by injection e
  rw[this];rfl
theorem zhj{mask:Nat}{owner:Array (Option Nat)}{h:Int}(hs:owner.size=mask+1):∀(f k0:Nat),SetTable.layClean.free mask owner f (zaF mask h k0).1 (zaF mask h k0).2=none->∀k,k0<=k->k<k0+f->zcY owner (zaF mask h k).1
 |0,k0,_,k,h1,h2=>()
 |f+1,k0,e,k,h1,h2=>by
  unfold SetTable.layClean.free at e
  have hi:=zeF mask h k0
  have hr:=zcT hi
  split at e
  ·exact absurd e `n3
  ·rename_i hn
   by_cases c:k=k0
   ·subst c
    have:=List.find?_eq_none.mp hn 0 (U2.mpr ())
    rw[Nat.add_zero] at this
    exact(zeo hs hi).mp (Bool.eq_false_iff.mpr this)
   ·exact zhj hs f (k0+1) e k () ()
theorem zhm{mask:Nat}{owner:Array (Option Nat)}{h:Int}{j:Nat}(hs:owner.size=mask+1):∀(f k0 n:Nat),zaL (tM mask) h n=zdJ mask (zaF mask h k0)->(∀m<n,zcY owner (zas (tM mask) h m))->SetTable.layClean.free mask owner f (zaF mask h k0).1 (zaF mask h k0).2=some j->∃n',zas (tM mask) h n'=j/\(∀m<n',zcY owner (zas (tM mask) h m))/\¬zcY owner j/\j<=mask
 |0,k0,n,_,_,e=>by unfold SetTable.layClean.free at e;exact absurd e `n3
 |f+1,k0,n,en,hf,e=>by
  unfold SetTable.layClean.free at e
  have hi:=zeF mask h k0
  have hr:=zcT hi
  have run:∀d,d<=SetTable.runEnd mask (zaF mask h k0).1 -(zaF mask h k0).1->zas (tM mask) h (n+d)=(zaF mask h k0).1+d:=λd hd=>by
   have:=zfC (t:=tM mask) en d hd
   show(zaL (tM mask) h (n+d)).j=_
   rw[this]
  split at e
  ·rename_i d hd
   injection e with e
   rw[List.find?_range_eq_some] at hd
   obtain⟨hd1,hd2,hd3⟩:=hd
   have hdl:d<=SetTable.runEnd mask (zaF mask h k0).1 -(zaF mask h k0).1:=by
    have:=U2.mp hd2;lia
   refine⟨n+d,by rw[run d hdl,e],λm hm=>?_,λc=>?_,()⟩
   ·by_cases hmn:m<n
    ·exact hf m hmn
    ·have hm':m=n+(m -n):=()
     rw[hm',run (m -n) ()]
     have:=hd3 (m -n) ()
     exact(zeo hs ()).mp (by simpa using this)
   ·rw[←e] at c
    have:=(zeo hs ()).mpr c
    rw[this] at hd1
    exact absurd hd1 ⋯
  ·rename_i hn
   have hall:∀d,d<=SetTable.runEnd mask (zaF mask h k0).1 -(zaF mask h k0).1->zcY owner ((zaF mask h k0).1+d):=λd hd=>by
    have:=List.find?_eq_none.mp hn d (U2.mpr ())
    exact(zeo hs ()).mp (Bool.eq_false_iff.mpr this)
   refine zhm hs f (k0+1) (n+(SetTable.runEnd mask (zaF mask h k0).1 -(zaF mask h k0).1)+1) (zjG (t:=tM mask) en) (λm hm=>?_) e
   by_cases hmn:m<n
   ·exact hf m hmn
   ·have hm':m=n+(m -n):=()
    rw[hm',run (m -n) ()]
    exact hall _ ()
theorem zqe{mask:Nat}{hs:List Int}(hm:zc8 mask)(O:OwnOk mask owner hs)(hl:hs.length<=mask)(h:Int):∃j n,SetTable.layClean.free mask owner (SetTable.turns mask) (SetTable.bits h%(mask+1)) (SetTable.bits h)=some j/\zas (tM mask) h n=j/\(∀m<n,zcY owner (zas (tM mask) h m))/\¬zcY owner j/\j<=mask:=by
 cases e:SetTable.layClean.free mask owner (SetTable.turns mask) (SetTable.bits h%(mask+1)) (SetTable.bits h)with
 |none=>
  obtain⟨j,hj,hn⟩:=O.free hl
  obtain⟨k,hk,ek⟩:=zhB hm h hj
  exact absurd (ek▸zhj (h:=h) O.size _ 0 e k (K2 _) (by unfold SetTable.turns;lia)) hn
 |some j=>
  obtain⟨n,a,b,c,d⟩:=zhm (h:=h) O.size _ 0 0 rfl (λm hm=>()) e
  exact⟨j,n,rfl,a,b,c,d⟩
theorem OwnOk.add{mask:Nat}{hs:List Int}{h:Int}(O:OwnOk mask owner hs)(ej:zas (tM mask) h n=j)(hf:∀m<n,zcY owner (zas (tM mask) h m))(hn:¬zcY owner j)(hj:j<=mask):OwnOk mask (owner.setIfInBounds j (some hs.length)) (hs ++ [h]):=by
 have hjs:j<owner.size:=by rw[O.size];lia
 have at':∀(i k:Nat),(owner.setIfInBounds j (some hs.length))[i]?=some (some k)↔(i=j/\k=hs.length)\/(i≠j/\owner[i]?=some (some k)):=λi k=>by
  rw[Array.getElem?_setIfInBounds]
  by_cases c:j=i
  ·subst c
   simp[hjs]
   exact eq_comm
  ·have c':¬i=j:=λh=>c h.symm
   simp[c,c']
 have old:∀(i k:Nat),owner[i]?=some (some k)->(owner.setIfInBounds j (some hs.length))[i]?=some (some k):=λi k e=>(at' i k).mpr (.inr ⟨λc=>hn (c▸⟨k,e⟩),e⟩)
 refine{size:=by simp[O.size],lt:=?_,all:=?_,inj:=?_,reach:=?_}
 ·intro i k e
  rw[W0]
  rcases(at' i k).mp e with⟨_,c⟩|⟨_,c⟩
  ·simp[c]
  ·have:=O.lt i k c;simp;lia
 ·intro k hk
  rw[W0,List.length_singleton] at hk
  by_cases c:k=hs.length
  ·exact ⟨j,(at' j k).mpr (.inl ⟨rfl,c⟩)⟩
  ·obtain ⟨i,e⟩:=O.all k ()
   exact⟨i,old i k e⟩
 ·intro i i' k e e'
  rcases(at' i k).mp e with⟨c1,c2⟩|⟨c1,c2⟩<;>rcases (at' i' k).mp e' with⟨d1,d2⟩|⟨d1,d2⟩
  ·lia
  ·have:=O.lt _ _ d2;lia
  ·have:=O.lt _ _ c2;lia
  ·exact O.inj _ _ _ c2 d2
 ·intro i k h' e eh
  rcases(at' i k).mp e with⟨c1,c2⟩|⟨c1,c2⟩
  ·subst c1;subst c2
   rw[Y2 (O0 _)] at eh
   simp at eh
   subst eh
   exact⟨n,ej,λm hm=>let ⟨k,e⟩:=hf m hm;⟨k,old _ _ e⟩⟩
  ·have hk:=O.lt _ _ c2
   rw[A3 hk] at eh
   obtain⟨n',a,b⟩:=O.reach i k h' c2 eh
   exact⟨n',a,λm hm=>let ⟨k,e⟩:=b m hm;⟨k,old _ _ e⟩⟩
theorem zjB{mask:Nat}(hm:zc8 mask):∀(rest dn:List Int) (owner:Array (Option Nat)),OwnOk mask owner dn->(dn ++rest).length<=mask->∃owner',rest.foldl (λ(acc:Option (Array (Option Nat)×Nat)) h=>(do
 let(owner,k) ←acc
 let j ←SetTable.layClean.free mask owner (SetTable.turns mask) (SetTable.bits h%(mask+1)) (SetTable.bits h)
 pure (owner.setIfInBounds j (some k),k+1))) (some (owner,dn.length))=some (owner',(dn ++rest).length)/\OwnOk mask owner' (dn ++rest)
 |[],dn,owner,O,hl=>⟨owner,`n3,by simpa using O⟩
 |h::rest,dn,owner,O,hl=>by
  rw[W0,O1] at hl
  obtain⟨j,n,e,a,b,c,d⟩:=zqe hm O () h
  obtain⟨owner',e',O'⟩:=zjB hm rest (dn ++ [h]) (owner.setIfInBounds j (some dn.length)) (O.add a b c d) (by simp;lia)
  refine⟨owner',?_,by simpa using O'⟩
  rw[List.foldl_cons]
  rw[show(dn ++h::rest)=dn ++ [h]++rest by simp]
  rw[←e']
  congr 1
  simp[e]
theorem OwnOk.nil(mask:Nat):OwnOk mask (Array.replicate (mask+1) none) []:=by
 have h0:∀(j k:Nat),(Array.replicate (mask+1) (none:Option Nat))[j]?=some (some k)->False:=λj k e=>by
  rw[Array.getElem?_replicate] at e
  split at e<;>simp at e
 exact{size:=`n3,lt:=λj k e=>(h0 j k e).elim,all:=λk hk=>by simp at hk,inj:=λ_ _ _ e=>(h0 _ _ e).elim,reach:=λ_ _ _ e=>(h0 _ _ e).elim}
theorem zjD{mask:Nat}(hm:zc8 mask){hashes:Array Int}(hl:hashes.size<=mask):∃owner,SetTable.layClean mask hashes=some owner/\OwnOk mask owner hashes.toList:=by
 obtain⟨owner,e,O⟩:=zjB hm hashes.toList [] _ (OwnOk.nil mask) (by simpa using hl)
 refine⟨owner,?_,by simpa using O⟩
 unfold SetTable.layClean
 rw[←Array.foldl_toList]
 rw[show(0:Nat)=([]:List Int).length from rfl]
 rw[e]
 rfl
theorem zg6{α:Type}:∀(l:List α),(List.range l.length).filterMap (l[·]?)=l
 |[]=>rfl
 |a::l=>by
  rw[O1,List.range_succ_eq_map,List.filterMap_cons]
  simp only[List.getElem?_cons_zero,List.filterMap_map]
  congr 1
  exact(zg6 l)
theorem zjj{t':SetTable}(e:t'.mask=t.mask)(h:Int)(n:Nat):zas t' h n=zas t h n:=by rw[zas,zel e]
theorem zpI{mask finger moves:Nat}{led plain:Bool}(hm:zc8 mask){es:Array (Int×Value)}(hl:es.size<=mask):
 ∃(t:SetTable) (order:Array Nat),SetTable.laid mask finger moves led plain (es.map (·.1))=some (t,order)/\t.mask=mask/\(order.filterMap (es[·]?)).toList.Perm es.toList/\LayT t ((order.filterMap (es[·]?)).toList.map (·.1))/\t.led=led/\t.plain=plain:=by
 obtain⟨owner,eo,O⟩:=zjD hm (hashes:=es.map (·.1)) (by simpa using hl)
 generalize hL:(List.range (mask+1)).filterMap (λj=>(owner.getD j none).map (j,·))=live
 have hmem:∀(j k:Nat),(j,k)∈live↔owner[j]?=some (some k):=λj k=>by
  rw[←hL,List.mem_filterMap]
  constructor
  ·rintro ⟨i,hi,e⟩
   have hlt:i<owner.size:=by rw[O.size];exact U2.mp hi
   rw[show owner.getD i none=owner[i] by simp[Array.getD,hlt]] at e
   obtain⟨k',ek,e2⟩:=Option.map_eq_some_iff.mp e
   injection e2 with e3 e4
   subst e3;subst e4
   rw[W1 hlt,ek]
  ·intro e
   have hlt:j<owner.size:=(Array.getElem?_eq_some_iff.mp e).1
   refine⟨j,U2.mpr (by rw[←O.size];exact hlt),?_⟩
   rw[show owner.getD j none=owner[j] by simp[Array.getD,hlt]]
   rw[W1 hlt] at e
   have:owner[j]=some k:=by injection e
   rw[this];rfl
 have hpw:live.Pairwise (λa b=>a.1<b.1):=by
  rw[←hL]
  refine List.Pairwise.filterMap _ (λa a' h b hb b' hb'=>?_) List.pairwise_lt_range
  obtain⟨x,_,e⟩:=Option.map_eq_some_iff.mp hb
  obtain⟨x',_,e'⟩:=Option.map_eq_some_iff.mp hb'
  subst e;subst e';exact h
 have hsz:(es.map (·.1)).toList.length=es.size:=`n3
 have hnd:(live.map (·.2)).Nodup:=by
  show(live.map (·.2)).Pairwise (·≠·)
  rw[List.pairwise_map]
  refine hpw.imp_of_mem (λ{a b} ha hb h c=>?_)
  have e1:=(hmem a.1 a.2).mp ha
  have e2:=(hmem b.1 b.2).mp hb
  rw[←c] at e2
  have:=O.inj _ _ _ e1 e2
  lia
 have hperm:(live.map (·.2)).Perm (List.range es.size):=by
  refine(List.perm_ext_iff_of_nodup hnd List.nodup_range).mpr λk=>?_
  rw[U2,←hsz]
  constructor
  ·intro h
   obtain⟨q,hq,e⟩:=G1.mp h
   subst e
   exact O.lt _ _ ((hmem q.1 q.2).mp hq)
  ·intro h
   obtain⟨j,e⟩:=O.all k h
   exact G1.mpr ⟨(j,k),(hmem j k).mpr e,rfl⟩
 have hat:∀q∈live,∃e,es[q.2]?=some e/\zcY owner q.1/\owner[q.1]?=some (some q.2):=λq hq=>by
  have e:=(hmem q.1 q.2).mp hq
  have hk:=O.lt _ _ e
  rw[hsz] at hk
  exact⟨es[q.2],W1 hk,⟨_,e⟩,e⟩
 have hfm:∀l:List (Nat×Nat),(∀q∈l,∃e,es[q.2]?=some e)->(l.map (·.2)).filterMap (es[·]?)=l.map (λq=>(es[q.2]?).getD (0, .none)):=λl=>by
  induction l with
  |nil=>intro _;rfl
  |cons q l ih=>
   intro h
   obtain⟨e,he⟩:=h q (.head _)
   rw[Y1,Y1,List.filterMap_cons,he]
   simp only[Q3]
   rw[ih λx hx=>h x (.tail _ hx)]
 refine⟨{mask:=mask,place:=(live.map (·.1)).toArray,dummies:= #[],finger:=finger,led:=led,moves:=moves,plain:=plain},(live.map (·.2)).toArray,?_,rfl,?_,?_,rfl,rfl⟩
 ·unfold SetTable.laid
  rw[eo]
  simp only[bind,Option.bind,pure]
  rw[hL]
 ·rw[Array.toList_filterMap]
  have h1:=hperm.filterMap (λi=>es.toList[i]?)
  rw[show es.size=es.toList.length by simp,zg6] at h1
  simpa using h1
 ·have e1:(((live.map (·.2)).toArray.filterMap (es[·]?)).toList.map (·.1))=live.map (λq=>((es[q.2]?).getD (0, .none)).1):=by
   rw[Array.toList_filterMap]
   show(((live.map (·.2))).filterMap (es[·]?)).map (·.1)=_
   rw[hfm live (λq hq=>let ⟨e,h,_⟩:=hat q hq;⟨e,h⟩),List.map_map]
   rfl
  rw[e1]
  refine{size:=`n3,rise:=?_,bnd:=?_,dum:=rfl,mask:=hm,reach:=?_}
  ·show (live.map (·.1)).Pairwise (·<·)
   rw[List.pairwise_map];exact hpw
  ·intro j hj
   obtain⟨q,hq,e⟩:=G1.mp (show j∈live.map (·.1)from hj)
   subst e
   obtain⟨_,_,_,eo'⟩:=hat q hq
   have hlt:q.1<owner.size:=(Array.getElem?_eq_some_iff.mp eo').1
   rw[O.size] at hlt
   show q.1<=mask
   lia
  ·intro p hp
   have hp':p∈(live.map (·.1)).zip (live.map (λq=>((es[q.2]?).getD (0, .none)).1)):=hp
   rw[List.zip_map'] at hp'
   obtain⟨q,hq,e⟩:=G1.mp hp'
   subst e
   obtain⟨x,ex,_,eo'⟩:=hat q hq
   obtain⟨n,a,b⟩:=O.reach q.1 q.2 x.1 eo' (by
    rw[Array.toList_map,V0,Array.getElem?_toList,ex];rfl)
   show Reach _ (((es[q.2]?).getD (0, .none)).1) q.1
   rw[ex]
   refine⟨n,(zjj (t:=tM mask) ?_ x.1 n).trans a,λm hm'=>?_⟩
   ·rfl
   ·obtain ⟨k,e⟩:=b m hm'
    rw[←zjj (t:=tM mask) (t':={mask:=mask,place:=(live.map (·.1)).toArray,dummies:= #[],finger:=finger,led:=led,moves:=moves,plain:=plain}) rfl x.1 m] at e
    exact G1.mpr ⟨(_,k),(hmem _ k).mpr e,rfl⟩
section
noncomputable abbrev zaD:=List Str
abbrev IsTk(prog:Program)(w:World)(h:Heap)(k:zaD)(a:Addr):Prop:=IsTupleKey (PySem.strKind prog w) h k a
noncomputable abbrev zK(prog:Program)(w:World)(k:zaD):Int:=tupleKeyHash (PySem.strKind prog w) k
theorem zj5:∀{ks:List Str} {vs:List Value},PySem.ItemsAre (PySem.strKind prog w) ks vs->∀v∈vs,∃x t,v= .str x t:=by
 intro ks vs h
 induction h with
 |nil=>intro v hv;cases hv
 |cons e _ ih=>
  intro v hv
  rcases K0.mp hv with rfl|hv
  ·obtain ⟨t,e⟩:=zfT e;exact⟨_,t,e⟩
  ·exact ih v hv
theorem znk{k:zaD}{Q:Bool->Shared->Prop}(x:IsTk prog w s.heap k a)(q:Q false s):wpAny `i4 A (ofAClassStatement 8 (.ref a)) Q E s:=by
 obtain⟨o,items,n,e,c,d,it⟩:=x
 unfold ofAClassStatement
 refine A0 (wpAny_typeOf (T:="tuple") ⟨o,e,c⟩ ?_)
 dsimp only
 rw[E1 ⋯]
 refine A0 (D0 ?_)
 rw[Y0 ⋯]
 refine A0 (wpAny_seqItems e d ?_)
 dsimp only
 refine A0 ?_
 rw[←Array.forIn_toList]
 refine wpAny_forIn_list _ (λrest r s'=>r.1=none/\s'=s/\∀v∈rest,∃x t,v= .str x t) _ ?_ ?_ _ _ ⟨rfl,rfl,zj5 it⟩
 ·rintro v rest r s' ⟨hr,rfl,hall⟩
  obtain⟨x,t,rfl⟩:=hall v Z0
  unfold ofAClassStatement
  refine A0 (D0 ?_)
  rw[Y0 ⋯]
  exact D0 ⟨rfl,rfl,λu hu'=>hall u (N1 _ hu')⟩
 ·rintro ⟨r1,r2⟩ s' ⟨hr,rfl,_⟩
  simp only at hr
  subst hr
  exact D0 q
theorem zrw{k:zaD}{Q:Bool->Shared->Prop}(h0:k≠ [])(x:IsTk prog w s.heap k a)(q:Q false s):wpAny `i4 A (hashByValue 8 (.ref a)) Q E s:=by
 obtain⟨o,items,n,e,c,d,it⟩:=x
 unfold hashByValue
 refine A0 (wpAny_specialOf (T:="tuple") ⟨o,e,c⟩ F.slot_tuple_hash.lookup ?_)
 dsimp only
 refine A0 (wpAny_seqItems e d ?_)
 dsimp only[Option.getD]
 refine A0 ?_
 rw[←Array.forIn_toList]
 generalize items.toList=l at it
 cases it with
 |nil=>exact absurd rfl h0
 |cons e1 t1=>
  obtain⟨t,rfl⟩:=zfT e1
  rw[List.forIn_cons]
  unfold hashByValue
  refine A0 (A0 (D0 ?_))
  rw[E1 ⋯]
  exact D0 (D0 (D0 q))
theorem zqi{k:zaD}{Q:Bool->Shared->Prop}(x:IsTk prog w s.heap k a)(l:List Value)(hl:∀y∈l,∃k' b,y= .ref b/\IsTk prog w s.heap k' b)(q:Q false s):wpAny `i4 A (searchCouldBeSeen (.ref a) l) Q E s:=by
 unfold searchCouldBeSeen
 refine A0 ?_
 refine wpAny_forIn_list _ (λrest r s'=>r.1=none/\s'=s/\∀y∈rest,∃k' b,y=Value.ref b/\IsTk prog w s.heap k' b) _ ?_ ?_ _ _ ⟨rfl,rfl,hl⟩
 ·rintro v rest r s' ⟨hr,rfl,hall⟩
  obtain⟨k',b,rfl,x'⟩:=hall v Z0
  have fin:∀u∈rest,∃k' b,u=Value.ref b/\IsTk prog w s'.heap k' b:=λu hu'=>hall u (N1 _ hu')
  dsimp only
  split
  ·exact D0 ⟨rfl,rfl,fin⟩
  ·refine A0 (wpAny_eqIsQuiet_tuple x ?_)
   rw[Y0 ⋯]
   refine A0 (wpAny_eqIsQuiet_tuple x' ?_)
   rw[Y0 ⋯]
   refine A0 (znk x ?_)
   rw[Y0 ⋯]
   refine A0 (znk x' ?_)
   rw[Y0 ⋯]
   exact D0 ⟨rfl,rfl,fin⟩
 ·rintro ⟨r1,r2⟩ s' ⟨hr,rfl,_⟩
  simp only at hr
  subst hr
  exact D0 q
noncomputable def ze8(w:World):Bool:=w.params.followText "set-order"
noncomputable def zgx(prog:Program)(w:World)(x:zaD×Addr):Int×Value:=(zK prog w x.1, .ref x.2)
structure TkSet(prog:Program)(w:World)(h:Heap)(o:Obj)(es:Array (Int×Value))(ep:Nat)(t:SetTable)(xs:List (zaD×Addr)):Prop where
 ex:o.ExactSet
 dat:o.data= .set es ep t
 ents:es.toList=xs.map (zgx prog w)
 lay:LayT t (xs.map λx=>zK prog w x.1)
 few:xs.length*5<t.mask*3
 led:t.led=!ze8 w
 plain:xs≠ []->t.plain=false
 nd:(xs.map (·.1)).Nodup
 is:∀x∈xs,IsTk prog w h x.1 x.2/\x.1≠ []
variable{S:Addr}{o:Obj}{es:Array (Int×Value)}{xs:List (zaD×Addr)}{k:zaD}
theorem TkSet.size(T:TkSet prog w h o es ep t xs):es.size=xs.length:=by rw[←j1,T.ents,B0]
theorem TkSet.at(T:TkSet prog w h o es ep t xs)(i:Nat):es[i]?=(xs[i]?).map (zgx prog w):=by rw[←Array.getElem?_toList,T.ents,V0]
theorem TkSet.psize(T:TkSet prog w h o es ep t xs):t.place.size=xs.length:=by rw[T.lay.size,B0]
theorem TkSet.fits(T:TkSet prog w h o es ep t xs):t.fits es.size=true:=by
 have:=T.few
 simp only[SetTable.fits,SetTable.fill,T.lay.dum,T.psize,T.size,L0,beq_iff_eq,decide_eq_true_eq,Array.size_empty,true_and]
 lia
theorem TkSet.first(T:TkSet prog w h o es ep t xs)(hh:Int):∃ne,ne<10*SetTable.turns t.mask/\zas t hh ne∉t.place.toList/\∀m<ne,zas t hh m∈t.place.toList:=
 T.lay.first (by have:=T.few;rw[B0];lia) hh
theorem TkSet.gave(T:TkSet prog w h o es ep t xs):t.gaveWay=false:=by
 unfold SetTable.gaveWay
 rcases T.lay.mask with e|e|e<;>rw[e]<;>decide
theorem zoh{p:Array Nat}(hr:Rise p)(e:p[i]?=some j):SetTable.below p j=i:=by
 have hi:i<p.size:=(Array.getElem?_eq_some_iff.mp e).1
 have ei:p[i]=j:=by rw[W1 hi] at e;injection e
 have hm:j∈p.toList:=by simpa using Array.mem_of_getElem? e
 have eb:=zfz hr hm
 have hb:SetTable.below p j<p.size:=(Array.getElem?_eq_some_iff.mp eb).1
 have ebj:p[SetTable.below p j]=j:=by rw[W1 hb] at eb;injection eb
 rcases Nat.lt_trichotomy (SetTable.below p j) i with c|c|c
 ·have:=hr.at hb hi c;lia
 ·exact c
 ·have:=hr.at hi hb c;lia
theorem TkSet.entry(T:TkSet prog w h o es ep t xs)(hj:j∈t.place.toList):∃y,xs[SetTable.below t.place j]?=some y:=by
 have eb:=zfz T.lay.rise hj
 have hb:SetTable.below t.place j<t.place.size:=(Array.getElem?_eq_some_iff.mp eb).1
 rw[T.psize] at hb
 exact⟨_,F0 hb⟩
theorem TkSet.absent(T:TkSet prog w h o es ep t xs){ne:Nat}(he:zas t (zK prog w k) ne∉t.place.toList)
 (no:∀m<ne,∀y,xs[SetTable.below t.place (zas t (zK prog w k) m)]?=some y->y.1≠k):k∉xs.map (·.1):=by
 intro hk
 obtain⟨y,hy,e⟩:=G1.mp hk
 obtain⟨i,hi,ei⟩:=U3 hy
 have hi':i<t.place.size:=by rw[T.psize];exact hi
 have hz:(t.place[i],zK prog w k)∈t.place.toList.zip (xs.map λx=>zK prog w x.1):=by
  refine List.mem_iff_getElem.mpr ⟨i,by simp[List.length_zip,T.psize,hi],?_⟩
  simp[List.getElem_zip,ei,e]
 obtain⟨n',a,b⟩:=T.lay.reach _ hz
 have a':zas t (zK prog w k) n'=t.place[i]:=a
 have hin:zas t (zK prog w k) n'∈t.place.toList:=by rw[a'];simp
 have hlt:n'<ne:=by
  rcases Nat.lt_trichotomy n' ne with c|c|c
  ·exact c
  ·subst c;exact absurd hin he
  ·exact absurd (b ne c) he
 have hb:SetTable.below t.place (zas t (zK prog w k) n')=i:=zoh T.lay.rise (by rw[a'];exact W1 hi')
 exact no n' hlt y (by rw[hb,F0 hi,ei]) e
theorem zhF(ho:s.heap.get? S=some o)(T:TkSet prog w s.heap o es ep t xs)(hu:A.units<cLine)(x:IsTk prog w s.heap k a){ne:Nat}(hne:ne<10*SetTable.turns t.mask)(he:zas t (zK prog w k) ne∉t.place.toList)(hf:∀m<ne,zas t (zK prog w k) m∈t.place.toList)
 {Q:SetFound->Shared->Prop} (qT:k∈xs.map (·.1)->Q (.there none) s) (qF:k∉xs.map (·.1)->Q (.free (zas t (zK prog w k) ne) false) s):
 ∀(fuel n:Nat) (stand:Option SetTable.Probe),n<=ne->ne<n+fuel->stand.getD (t.probeStart (zK prog w k))=zaL t (zK prog w k) n->
  (∀m<n,∀y,xs[SetTable.below t.place (zas t (zK prog w k) m)]?=some y->y.1≠k)->wpAny `i4 A (setSearchFrom S (.ref a) (zK prog w k) true fuel stand) Q E s
 |0,n,stand,h1,h2,hs,no=>()
 |fuel+1,n,stand,h1,h2,hs,no=>by
  unfold setSearchFrom
  refine A0 (wpAny_setState_of ho T.dat T.fits ?_)
  dsimp only
  rw[T.gave,Y0 ⋯]
  rcases zk9 T.lay (λi=>(es[i]?.map (·.1)).getD 0) he hf (10*SetTable.turns t.mask) n h1 ()with⟨e,r⟩|⟨m,m1,m2,e,q,r⟩
  ·have e':SetTable.probe t (λi=>(es[i]?.map (·.1)).getD 0) (zK prog w k) (stand.getD (t.probeStart (zK prog w k)))=some (.empty (zas t (zK prog w k) ne) none):=by
    unfold SetTable.probe;rw[hs];exact e
   erw [e']
   dsimp only
   refine D0 (qF (T.absent he λm hm y hy c=>?_))
   by_cases hmn:m<n
   ·exact no m hmn y hy c
   ·refine r m () hm ?_
    rw[T.at,hy]
    show zK prog w y.1=_
    rw[c]
  ·have e':SetTable.probe t (λi=>(es[i]?.map (·.1)).getD 0) (zK prog w k) (stand.getD (t.probeStart (zK prog w k)))=some (.candidate (zas t (zK prog w k) m) (SetTable.below t.place (zas t (zK prog w k) m)) (zaL t (zK prog w k) (m+1))):=by
    unfold SetTable.probe;rw[hs];exact e
   erw [e']
   dsimp only
   have hj:=hf m m2
   obtain⟨y,hy⟩:=T.entry hj
   have isy:=(T.is y (U0 hy)).1
   have ey:es[SetTable.below t.place (zas t (zK prog w k) m)]?=some (zK prog w y.1, .ref y.2):=by rw[T.at,hy];rfl
   have main:wpAny `i4 A (do
    let some (_,y):=es[SetTable.below t.place (zas t (zK prog w k) m)]?|unsupported "internal:set-entry"
    let equal ←holding [y] (eqBool y (.ref a))
    let(es',_,t') ←setState S
    if true&&equal then return SetFound.there none
    let some same:=t'.sameMemory t.moves t.mask|unsupported "set.changed-during-lookup:is-the-new-block-at-the-old-address"
    let still ←match (if same then t'.slot (zas t (zK prog w k) m)else .empty)with
     | .live i'=>match es'[i']? with
       |some (_,y')=>do pure (if←isSame y' y then some i' else none)
       |none=>pure none
     |_=>pure none
    match still with
    |none=>rule "set.search.anew";setSearchFrom S (.ref a) (zK prog w k) true fuel none
    |some i'=>if equal then return .there (some i')else setSearchFrom S (.ref a) (zK prog w k) true fuel (some (zaL t (zK prog w k) (m+1)))) Q E s:=by
    rw[ey]
    dsimp only
    refine A0 (K3 ((tupleKind (PySem.strKind prog w)).eqBool (x:=y.1) (y:=k) hu isy x ?_))
    refine A0 (wpAny_setState_of ho T.dat T.fits ?_)
    dsimp only
    by_cases c:y.1=k
    ·rw[N0 c]
     rw[E1 ⋯]
     exact D0 (qT (G1.mpr ⟨y,U0 hy,c⟩))
    ·rw[A1 c]
     rw[Y0 ⋯]
     have hsm:t.sameMemory t.moves t.mask=some true:=by unfold SetTable.sameMemory;rw[E1 (beq_self_eq_true _)]
     rw[hsm]
     dsimp only
     rw[E1 rfl,zg8 T.lay.rise hj]
     dsimp only
     rw[ey]
     dsimp only
     refine A0 (wpAny_isSame_ref_self (A0 (D0 ?_)))
     rw[E1 rfl]
     dsimp only
     rw[Y0 ⋯]
     refine zhF ho T hu x hne he hf qT qF fuel (m+1) _ () () rfl λm' hm' z hz=>?_
     by_cases h3:m'<n
     ·exact no m' h3 z hz
     ·by_cases h4:m'=m
      ·subst h4;rw[hy] at hz;injection hz with hz;subst hz;exact c
      ·intro c2
       refine r m' () () ?_
       rw[T.at,hz]
       show zK prog w z.1=_
       rw[c2]
   split
   ·refine A0 (zqi x _ (λz hz=>?_) ?_)
    ·obtain ⟨e1,h3,h4⟩:=G1.mp hz
     have h5:e1∈es.toList:=by
      rw[Array.toList_filter] at h3
      exact(X2.mp h3).1
     rw[T.ents] at h5
     obtain⟨y',hy',rfl⟩:=G1.mp h5
     exact⟨y'.1,y'.2,h4.symm,(T.is y' hy').1⟩
    ·rw[Y0 ⋯]
     exact main
   ·exact main
end
theorem zeW{f:α->β}{l l':List β}(p:l.Perm l'):∀xs:List α,l'=xs.map f->∃ys:List α,ys.Perm xs/\l=ys.map f:=by
 induction p with
 |nil=>intro xs e;exact⟨xs, .refl _,e⟩
 |cons x p ih=>
  intro xs e
  cases xs with
  |nil=>exact absurd e `n3
  |cons a xs=>
   rw[Y1] at e
   injection e with e1 e2
   obtain⟨ys,py,ey⟩:=ih xs e2
   exact⟨a::ys,py.cons a,by rw[Y1,e1,ey]⟩
 |swap x y l=>
  intro xs e
  match xs,e with
  |[],e=>exact absurd e `n3
  |[a],e=>exact absurd e `n3
  |a::b::xs,e=>
   rw[Y1,Y1] at e
   injection e with e1 e2
   injection e2 with e2 e3
   exact⟨b::a::xs, .swap _ _ _,by rw[Y1,Y1,e1,e2,e3]⟩
 |trans p1 p2 ih1 ih2=>
  intro xs e
  obtain⟨ys,py,ey⟩:=ih2 xs e
  obtain⟨zs,pz,ez⟩:=ih1 ys ey
  exact⟨zs,pz.trans py,ez⟩
theorem LayT.same{t':SetTable}{hs:List Int}(L:LayT t hs)(em:t'.mask=t.mask)(ep:t'.place=t.place)(ed:t'.dummies=t.dummies):LayT t' hs:=
 {size:=by rw[ep];exact L.size,rise:=by rw[ep];exact L.rise,bnd:=by rw[ep,em];exact L.bnd,dum:=by rw[ed];exact L.dum,mask:=by rw[em];exact L.mask,
  reach:=λp hp=>(L.reach p (by rw[←ep];exact hp)).grow em (λk hk=>by rw[ep];exact hk)}
section
variable{S:Addr}{o:Obj}{es:Array (Int×Value)}{xs:List (zaD×Addr)}{k:zaD}
theorem IsTk.keep{b:Addr}(x:IsTk prog w h k b)(ho:h.get? S=some o)(hd:o.data= .set es ep t)(sb:Heap.SameBut S h h'):IsTk prog w h' k b:=by
 obtain⟨o2,items,n,e,c,d,it⟩:=x
 refine⟨o2,items,n,?_,c,d,it⟩
 rw[sb.2 b (λz=>?_)];exact e
 subst z
 rw[ho] at e
 injection e with e
 rw[←e,hd] at d
 exact absurd d `n3
theorem zoo(S:Addr)(wanted:Nat):setRelay S wanted=(do
 let(es,_,t) ←setState S
 if SetTable.sizeAbove wanted>sizeLine then unsupported "set:memory"
 let(es,t) ←(do
  let some (t,order):=t.relaid (es.map (·.1)) wanted|unsupported "internal:set-table-without-room"
  let es':=order.filterMap (es[·]?)
  if es'.size !=es.size then unsupported "internal:set-table-lost-an-element"
  pure (es',t))
 storeSet S es t):=rfl
theorem zno(ho:h.get? S=some o)(hd:o.data= .set es ep t)(es':Array (Int×Value))(t':SetTable):(h.update S (Obj.putSet es' t')).get? S=some {o with data:= .set es' (ep+1) t'}:=by
 have:=Heap.get?_update_self (Obj.putSet es' t') ho (by rw[putSet_of es' t' hd];rfl)
 rw[putSet_of es' t' hd] at this;exact this
theorem zoA(ho:s.heap.get? S=some o)(hd:o.data= .set es ep t)(hex:o.ExactSet)(hf:t.fits es.size=true)(ents:es.toList=xs.map (zgx prog w))(nd:(xs.map (·.1)).Nodup)(is:∀x∈xs,IsTk prog w s.heap x.1 x.2/\x.1≠ [])
 (led:t.led=!ze8 w) (plain:t.plain=false) {wanted mask:Nat} (hw:SetTable.sizeAbove wanted=mask+1) (hm:zc8 mask) (few:xs.length*5<mask*3) {Q:Unit->Shared->Prop}
 (q:∀h' o' es' ep' t' xs',Heap.SameBut S s.heap h'->h'.get? S=some o'->TkSet prog w h' o' es' ep' t' xs'->xs'.Perm xs->Q Unit.unit {s with heap:=h'}):
 wpAny `i4 A (setRelay S wanted) Q E s:=by
 rw[zoo]
 refine A0 (wpAny_setState_of ho hd hf ?_)
 dsimp only
 have hz:es.size=xs.length:=by rw[←j1,ents,B0]
 have m127:mask<=127:=by rcases hm with e|e|e<;>lia
 rw[Y0 (by rw[hw,sizeLine_eq];lia)]
 obtain⟨t2,order,e1,e2,e3,e4,e5,e6⟩:=zpI (finger:=t.finger) (moves:=t.movedTo mask) (led:=t.led) (plain:=t.plain) hm (es:=es) (by rw[hz];lia)
 have er:t.relaid (es.map (·.1)) wanted=some (t2,order):=by
  unfold SetTable.relaid
  rw[hw]
  exact e1
 rw[er]
 dsimp only
 have hsz:(order.filterMap (es[·]?)).size=es.size:=by rw[←j1,e3.length_eq,j1]
 rw[Y0 (by rw[hsz];simp)]
 refine A0 (D0 ?_)
 refine wpAny_storeSet_of ho hd ?_ (by rw[hsz,hz,sizeLine_eq];lia)
 rw[ents] at e3
 obtain⟨ys,py,ey⟩:=zeW e3 xs rfl
 have sb:=W2 s.heap S (Obj.putSet (order.filterMap (es[·]?)) t2)
 refine q _ _ (order.filterMap (es[·]?)) (ep+1) t2 ys sb (zno ho hd _ _) ?_ py
 refine{ex:=hex,dat:=rfl,ents:=ey,lay:=?_,few:=by rw[py.length_eq,e2];exact few,led:=by rw[e5,led],plain:=λ_=>by rw[e6,plain],nd:=((py.map _).nodup_iff).mpr nd,is:=λx hx=>?_}
 ·rw[ey,List.map_map] at e4;exact e4
 ·have:=is x (py.mem_iff.mp hx)
  exact⟨this.1.keep ho hd sb,this.2⟩
theorem znw(ho:s.heap.get? S=some o)(T:TkSet prog w s.heap o es ep t xs)(hu:A.units<cLine)(x:IsTk prog w s.heap k a)(h0:k≠ [])(hfew:xs.length<76){Q:Bool->Shared->Prop}
 (qO:k∈xs.map (·.1)->Q false s)
 (qN:k∉xs.map (·.1)->∀h' o' es' ep' t' xs',Heap.SameBut S s.heap h'->h'.get? S=some o'->TkSet prog w h' o' es' ep' t' xs'->xs'.Perm ((k,a)::xs)->Q true {s with heap:=h'}):
 wpAny `i4 A (setAddHashed S (.ref a) (zK prog w k)) Q E s:=by
 obtain⟨ne,hne,he,hf⟩:=T.first (zK prog w k)
 unfold setAddHashed setAddHashedIn
 refine K3 (A0 (wpAny_setState_of ho T.dat T.fits ?_))
 dsimp only
 rw[show byScan (.ref a) es=false from rfl,Y0 ⋯]
 have m127:t.mask<=127:=by rcases T.lay.mask with e|e|e<;>lia
 unfold setSearch
 refine A0 (zhF ho T hu x hne he hf (λhk=>?_) (λhk=>?_) 100000 0 none (K2 _) (by unfold SetTable.turns at hne;lia) rfl λm hm=>())
 ·dsimp only
  exact D0 (qO hk)
 ·dsimp only
  refine A0 (wpAny_setState_of ho T.dat T.fits ?_)
  dsimp only
  generalize hj:zas t (zK prog w k) ne=j at he
  have hb:j<=t.mask:=by rw[←hj];exact zr2 _ _ _
  obtain⟨p1,p2,p3⟩:=T.lay.put he hb ⟨ne,hj,hf⟩
  rw[B0] at p1
  have psz:=T.size
  have pi:(t.put j).1.plain=t.plain:=rfl
  have pl:(t.put j).1.led=t.led:=rfl
  have fin:∀t2:SetTable,t2.mask=t.mask->t2.place=(t.put j).1.place->t2.dummies=(t.put j).1.dummies->t2.led=t.led->t2.plain=false->
   wpAny `i4 A (do
    storeSet S (SetTable.insertAt es (t.put j).2 (zK prog w k, .ref a)) t2
    if(!false&&t2.tooFull)=true then do setRelay S (SetTable.grown (es.size+1));pure true else pure true) Q E s:=by
   intro t2 em epl ed el ep2
   have pm:((k,a)::xs).Perm (xs.take (t.put j).2 ++(k,a)::xs.drop (t.put j).2):=by
    have:=(List.perm_middle (a:=(k,a)) (l₁:=xs.take (t.put j).2) (l₂:=xs.drop (t.put j).2)).symm
    rw[List.take_append_drop] at this
    exact this
   generalize hxs1:xs.take (t.put j).2 ++(k,a)::xs.drop (t.put j).2=xs1 at pm
   have l1:xs1.length=xs.length+1:=by rw[←pm.length_eq];rfl
   have ents1:(SetTable.insertAt es (t.put j).2 (zK prog w k, .ref a)).toList=xs1.map (zgx prog w):=by
    rw[zjs (by rw[psz];exact p1),T.ents,←hxs1,J2,Y1,List.map_take,List.map_drop];rfl
   have z1:(SetTable.insertAt es (t.put j).2 (zK prog w k,Value.ref a)).size=xs1.length:=by rw[←j1,ents1,B0]
   have lay1:LayT t2 (xs1.map λx=>zK prog w x.1):=by
    have:=p3.same (t':=t2) (by rw[em];exact p2.symm) epl ed
    rw[←hxs1,J2,Y1,List.map_take,List.map_drop];exact this
   have nd1:(xs1.map (·.1)).Nodup:=((pm.map (·.1)).nodup_iff).mp (List.nodup_cons.mpr ⟨hk,T.nd⟩)
   refine A0 (wpAny_storeSet_of ho T.dat ?_ (by rw[z1,l1,sizeLine_eq];lia))
   generalize hh1:s.heap.update S (Obj.putSet (SetTable.insertAt es (t.put j).2 (zK prog w k,Value.ref a)) t2)=h1
   have sb:Heap.SameBut S s.heap h1:=by rw[←hh1];exact W2 s.heap S _
   have ho1:h1.get? S=some {o with data:= .set (SetTable.insertAt es (t.put j).2 (zK prog w k,Value.ref a)) (ep+1) t2}:=by rw[←hh1];exact zno ho T.dat _ _
   have is1:∀x∈xs1,IsTk prog w h1 x.1 x.2/\x.1≠ []:=λy hy=>by
    rcases K0.mp (pm.mem_iff.mpr hy)with c|c
    ·subst c;exact⟨x.keep ho T.dat sb,h0⟩
    ·have:=T.is y c;exact⟨this.1.keep ho T.dat sb,this.2⟩
   have led1:t2.led=!ze8 w:=by rw[el,T.led]
   have hfill:t2.fill=xs1.length:=by
    have:=lay1.size
    rw[B0] at this
    simp[SetTable.fill,lay1.dum,this]
   have few0:=T.few
   by_cases c:t2.tooFull=true
   ·rw[E1 (by rw[c];rfl)]
    have c':xs1.length*5≥t.mask*3:=by
     unfold SetTable.tooFull at c
     rw[hfill,em] at c
     exact R0 c
    have hfit:t2.fits (SetTable.insertAt es (t.put j).2 (zK prog w k,Value.ref a)).size=true:=by
     have:=lay1.size
     rw[B0] at this
     simp only[SetTable.fits,hfill,em,z1,this,L0,beq_iff_eq,decide_eq_true_eq,true_and]
     lia
    have wanted:∃mask,SetTable.sizeAbove (SetTable.grown (es.size+1))=mask+1/\zc8 mask/\xs1.length*5<mask*3:=by
     rcases T.lay.mask with e|e|e
     ·have:xs.length=4:=()
      rw[psz,l1,this];exact⟨31,`n4, .inr (.inl rfl),⋯⟩
     ·have:xs.length=18:=()
      rw[psz,l1,this];exact⟨127,`n4, .inr (.inr rfl),⋯⟩
     ·lia
    obtain⟨mask,w1,w2,w3⟩:=wanted
    refine A0 (zoA (s:={s with heap:=h1}) ho1 rfl T.ex hfit ents1 nd1 is1 led1 ep2 w1 w2 w3 λh' o' es' ep' t' xs' sb' g' T' pp=>?_)
    exact D0 (qN hk h' o' es' ep' t' xs' (sb.trans sb') g' T' (pp.trans pm.symm))
   ·rw[Y0 (by simpa using c)]
    have c':xs1.length*5<t.mask*3:=by
     unfold SetTable.tooFull at c
     rw[hfill,em] at c
     have:¬(xs1.length*5≥t.mask*3):=by simpa using c
     lia
    exact D0 (qN hk h1 _ _ _ _ xs1 sb ho1 {ex:=T.ex,dat:=rfl,ents:=ents1,lay:=lay1,few:=by rw[em];exact c',led:=led1,plain:=λ_=>ep2,nd:=nd1,is:=is1} pm.symm)
  split
  ·rename_i hpl
   refine A0 (zrw h0 x ?_)
   rw[Y0 ⋯]
   exact fin _ rfl rfl rfl rfl rfl
  ·rename_i hpl
   refine A0 (D0 ?_)
   rw[E1 rfl]
   exact fin _ rfl rfl rfl rfl (by simpa using hpl)
end
section
variable{P:Nat->Value->Prop}{St:Nat->Heap->Prop}
def zkf(prog:Program)(w:World)(h:Heap)(S:Addr)(p:zaD->Addr->Prop)(p':zaD->Prop)(m:Nat):Prop:=∃o es ep t xs,h.get? S=some o/\TkSet prog w h o es ep t xs/\xs.length<=m/\(∀x∈xs,p x.1 x.2)/\∀k,p' k->k∈xs.map (·.1)
theorem TkSet.keep{o:Obj}{es:Array (Int×Value)}{xs:List (zaD×Addr)}(T:TkSet prog w h o es ep t xs)(k:∀x∈xs,IsTk prog w h' x.1 x.2):TkSet prog w h' o es ep t xs:=
 {T with is:=λx hx=>⟨k x hx,(T.is x hx).2⟩}
theorem zm8(W:Walks prog w A.in1 I fp wr n P St)(S:Addr)(hSf:S∉fp)(hu:A.in1.units<cLine)(val:Nat->zaD)(adr:Nat->Addr)(hval:∀i v,P i v->v= .ref (adr i))(hb:∀xs:List (zaD×Addr),(xs.map (·.1)).Nodup->(∀x∈xs,∃j<n,val j=x.1/\adr j=x.2)->xs.length<=75):
 ∀(k i:Nat) (s:Shared),n -i=k->i<=n->St i s.heap->(∀j<n,IsTk prog w s.heap (val j) (adr j)/\val j≠ []/\adr j∉wr/\adr j≠S)->
  zkf prog w s.heap S (λk a=>∃j<i,val j=k/\adr j=a) (λk=>∃j<i,val j=k) i->
  (∀h' tk,(∀b o,b∉wr->b≠S->s.heap.get? b=some o->h'.get? b=some o)->zkf prog w h' S (λk a=>∃j<n,val j=k/\adr j=a) (λk=>∃j<n,val j=k) n->R (.ok (.ret .none)) {s with heap:=h',toks:=tk})->
  codeAny `i4 A (.builtin "set.update.loop" ⟨[.ref S, .ref I],[]⟩) R s:=by
 have hSw:S∉wr:=λh=>hSf (W.sub _ h)
 have keepK:∀{h h':Heap} {k:zaD} {b:Addr},IsTk prog w h k b->(∀o,h.get? b=some o->h'.get? b=some o)->IsTk prog w h' k b:=λx kk=>by
  obtain⟨o2,items,n,e,c,d,it⟩:=x
  exact⟨o2,items,n,kk _ e,c,d,it⟩
 intro k
 induction k with
 |zero=>
  intro i s hk hi hst hall hS hR
  have ei:i=n:=()
  subst ei
  refine Y3 PyProof.Rows.F.entry_set_update_loop ?_
  rw[L3 PyProof.Rows.F.plain_set_update_loop _]
  show wpAny _ A.in1 (pyNext (.ref I)>>=_) _ _ s
  refine A0 (W.done s _ _ hst λh' tk hk'=>?_)
  refine D0 (hR h' tk (λb o b1 _ e=>hk' b o b1 e) ?_)
  obtain⟨o,es,ep,t,xs,ho,T,hx,hp,hp'⟩:=hS
  refine⟨o,es,ep,t,xs,hk' S _ hSw ho,T.keep λx hx'=>?_,hx,hp,hp'⟩
  obtain⟨j,hj,_,e2⟩:=hp x hx'
  exact keepK (T.is x hx').1 λo e=>hk' _ o (by rw[←e2];exact(hall j hj).2.2.1) e
 |succ k ih=>
  intro i s hk hi hst hall hS hR
  have hlt:i<n:=()
  refine Y3 PyProof.Rows.F.entry_set_update_loop ?_
  rw[L3 PyProof.Rows.F.plain_set_update_loop _]
  show wpAny _ A.in1 (pyNext (.ref I)>>=_) _ _ s
  refine A0 (W.item i s _ _ hlt hst λv h1 tk1 hP hst' hk'=>?_)
  obtain rfl:=hval i v hP
  obtain⟨o,es,ep,t,xs,ho,T,hx,hp,hp'⟩:=hS
  have all1:∀j<n,IsTk prog w h1 (val j) (adr j)/\val j≠ []/\adr j∉wr/\adr j≠S:=λj hj=>by
   obtain⟨a1,a2,a3,a4⟩:=hall j hj
   exact⟨keepK a1 λo e=>hk' _ o a3 e,a2,a3,a4⟩
  have T1:TkSet prog w h1 o es ep t xs:=T.keep λx hx'=>by
   obtain⟨j,hj,_,e2⟩:=hp x hx'
   exact keepK (T.is x hx').1 λo e=>hk' _ o (by rw[←e2];exact(hall j ()).2.2.1) e
  show wpAny _ A.in1 (holding [Value.ref (adr i)] (setAdd S (.ref (adr i)))>>=_) _ _ _
  refine A0 (K3 ?_)
  unfold setAdd
  have xi:=all1 i hlt
  refine K3 (A0 ((tupleKind (PySem.strKind prog w)).pyHash (k:=val i) (s:={s with heap:=h1,toks:=_}) hu xi.1 ?_))
  have cont:∀(h2:Heap) (tk2:Nat) (bb:Bool),Heap.SameBut S h1 h2->zkf prog w h2 S (λk a=>∃j<i+1,val j=k/\adr j=a) (λk=>∃j<i+1,val j=k) (i+1)->
   wpAny `i4 A.in1 (again (.builtin "set.update.loop" ⟨[.ref S, .ref I],[]⟩)) (λfin s'=>match fin with| .done f=>R (.ok f) s'| .again c'=>c'.quiet=true/\codeAny `i4 A c' R s') (λe s'=>R (.error e) s') {s with heap:=h2,toks:=tk2}:=by
   intro h2 tk2 bb hsb st2
   refine D0 ⟨plainId_quiet PyProof.Rows.F.plain_set_update_loop _,ih (i+1) {s with heap:=h2,toks:=tk2} () hlt (W.frame _ _ _ hst' λb hb o e=>?_) (λj hj=>?_) st2 λh3 tk3 k3 st3=>?_⟩
   ·rw[hsb.2 b (λh:b=S=>hSf (by rw[←h];exact hb))];exact e
   ·obtain ⟨a1,a2,a3,a4⟩:=all1 j hj
    exact⟨keepK a1 λo e=>by rw[hsb.2 _ a4];exact e,a2,a3,a4⟩
   ·exact hR h3 tk3 (λb o b1 b2 e=>k3 b o b1 b2 (by show h2.get? b=some o;rw[hsb.2 b b2];exact hk' b o b1 e)) st3
  refine znw (s:={s with heap:=h1,toks:=_}) (hk' S _ hSw ho) T1 hu xi.1 xi.2.1 (Nat.lt_succ_of_le (hb xs T.nd λx hx'=>(hp x hx').imp λj z=>⟨Nat.lt_trans z.1 hlt,z.2⟩)) (λhin=>?_) (λhnew h2 o2 es2 ep2 t2 xs2 sb g2 T2 pm=>?_)
  ·refine cont h1 _ false (Heap.SameBut.refl S h1) ⟨o,es,ep,t,xs,hk' S _ hSw ho,T1,(),λx hx'=>?_,λk' hk2=>?_⟩
   ·obtain ⟨j,hj,r⟩:=hp x hx';exact⟨j,(),r⟩
   ·obtain ⟨j,hj,e⟩:=hk2
    by_cases c:j=i
    ·subst c;rw[←e];exact hin
    ·exact hp' k' ⟨j,(),e⟩
  ·refine cont h2 _ true sb ⟨o2,es2,ep2,t2,xs2,g2,T2,by rw[pm.length_eq,O1];lia,λx hx'=>?_,λk' hk2=>?_⟩
   ·rcases K0.mp (pm.mem_iff.mp hx')with c|c
    ·subst c;exact⟨i,(),rfl,rfl⟩
    ·obtain ⟨j,hj,r⟩:=hp x c;exact⟨j,(),r⟩
   ·obtain ⟨j,hj,e⟩:=hk2
    refine(pm.map (·.1)).mem_iff.mpr ?_
    rw[Y1]
    by_cases c:j=i
    ·subst c;rw[←e];exact Z0
    ·exact N1 _ (hp' k' ⟨j,(),e⟩)
end
noncomputable abbrev siR:List Char:=['r','o','t','a','r','e','t','i','_','t','e','s']
theorem zoy:Manifest.owners.lookup (String.ofList siR.reverse)=some Manifest.sig_set_iterator:=by kernel_rfl
theorem zc1:Slot "set_iterator" "__next__" "set_iterator.__next__":= .of (owner:="set_iterator") (n:="__next__") (by rw[typeLookup_type,builtinLookup_eq_fast];kernel_rfl) `n4 `n4 `n4 (by first|exact .inl `n4|exact .inr `n4) (by rw[isSubtype_type];kernel_rfl)
theorem zj6:entryFor table "set_iterator.__next__"=some Builtin.«set_iterator.__next__»:=entryFor_of_tree (by kernel_rfl)
theorem zkI(a:Value):argsOk "set_iterator.__next__" ⟨[a],[]⟩:=by
 unfold argsOk;rw[signature?_of (id:="set_iterator.__next__") (n:="__txen__".toList) (o:=siR) (by kernel_rfl) zoy];kernel_rfl
theorem zoc:entryFor table "set.__iter__"=some Builtin.«frozenset.__iter__»:=entryFor_alias (id':="frozenset.__iter__") (by kernel_rfl) (by first|rfl|decide +kernel) `n4 (by kernel_rfl)
theorem zjQ:Slot "set_iterator" "__iter__" "set_iterator.__iter__":= .of (owner:="set_iterator") (n:="__iter__") (by rw[typeLookup_type,builtinLookup_eq_fast];kernel_rfl) `n4 `n4 `n4 (by first|exact .inl `n4|exact .inr `n4) (by rw[isSubtype_type];kernel_rfl)
theorem zpz:entryFor table "set_iterator.__iter__"=some Builtin.«dict_keyiterator.__iter__»:=entryFor_alias (id':="dict_keyiterator.__iter__") (by kernel_rfl) rfl `n4 (by kernel_rfl)
theorem zpL(a:Value):argsOk "set_iterator.__iter__" ⟨[a],[]⟩:=by
 unfold argsOk;rw[signature?_of (id:="set_iterator.__iter__") (n:="__reti__".toList) (o:=siR) (by kernel_rfl) zoy];kernel_rfl
theorem zpx{src:Source}(hn:n≠0){Q:Nat->Shared->Prop}(h:∀i,i<n->∀d,Q i {s with drawn:=d}):wpAny `i4 A (choose src n) Q E s:=λΓ p _=>by
 unfold choose
 rw[Sem.wp_choose]
 exact⟨hn,h _ (Nat.mod_lt _ (Nat.pos_of_ne_zero hn)) _⟩
theorem zeG{α:Type}:∀{xs:List α} {i:Nat} {x:α},xs[i]?=some x->(x::xs.eraseIdx i).Perm xs
 |[],_,_,h=>by cases h
 |y::xs,0,x,h=>by cases h;exact .refl _
 |y::xs,i+1,x,h=>by
  rw[List.eraseIdx_cons_succ]
  exact(List.Perm.swap _ _ _).trans ((zeG (xs:=xs) (i:=i) h).cons y)
theorem zgX{α:Type}:∀(n:Nat) (xs:List α) (s:Shared) (Q:List α->Shared->Prop),n=xs.length->(∀ys d,ys.Perm xs->Q ys {s with drawn:=d})->wpAny `i4 A (drawOrder n xs) Q E s
 |0,xs,s,Q,hn,h=>by
  have:xs=[]:=List.length_eq_zero_iff.mp hn.symm
  subst this
  unfold drawOrder
  exact D0 (h [] s.drawn (.refl _))
 |n+1,[],s,Q,hn,h=>by cases hn
 |n+1,x::xs,s,Q,hn,h=>by
  unfold drawOrder
  refine A0 (zpx `n3 λi hi d=>?_)
  obtain⟨z,hz⟩:∃z,(x::xs)[i]?=some z:=⟨_,F0 hi⟩
  rw[hz]
  have pe:=zeG hz
  refine A0 (zgX n _ _ _ ?_ λys d' hp=>?_)
  ·have:=pe.length_eq;simp only[O1] at this hn⊢;lia
  ·exact D0 (h (z::ys) d' ((hp.cons z).trans pe))
theorem zkZ{α:Type}{f:Nat->Nat}:∀(fuel k:Nat) (left:List α) (out:Array α),left.length<=fuel->(pickOrder.go f fuel k left out).toList.Perm (out.toList ++left)
 |0,k,left,out,h=>by
  have:left=[]:=List.length_eq_zero_iff.mp ()
  subst this
  unfold pickOrder.go
  simp
 |fuel+1,k,left,out,h=>by
  unfold pickOrder.go
  cases hl:left[f k%left.length]? with
  |none=>
   have:left=[]:=by
    cases left with
    |nil=>rfl
    |cons a l=>exact absurd hl (by rw[F0 (Nat.mod_lt _ `n3)];simp)
   subst this
   simp
  |some x=>
   dsimp only
   have pe:=zeG hl
   refine(zkZ fuel (k+1) _ _ (by have:=pe.length_eq;simp only[O1] at this;lia)).trans ?_
   rw[Array.toList_push,List.append_assoc]
   exact List.Perm.append_left _ pe
theorem zhb{f:Nat->Nat}(xs:Array α):(pickOrder f xs).toList.Perm xs.toList:=by
 unfold pickOrder
 have:=zkZ (f:=f) xs.size 0 xs.toList #[] `n3
 simpa using this
section
variable{S:Addr}{oS:Obj}{es:Array (Int×Value)}
def IsSi(h:Heap)(I:Addr)(f:Value)(i:Nat)(S:Addr)(n ep:Nat):Prop:=∃o,h.get? I=some o/\o.cls= .type "set_iterator"/\o.data= .fields #[f, .int i 0, .ref S, .int n 0, .int ep 0]
theorem IsSi.at{f:Value}(y:IsSi h I f i S n ep)(e:∀o,h.get? I=some o->h'.get? I=some o):IsSi h' I f i S n ep:=let⟨o,ho,r⟩:=y;⟨o,e _ ho,r⟩
theorem IsSi.ty{f:Value}(y:IsSi s.heap I f i S n ep):s.TypeIs (.ref I) "set_iterator":=let⟨o,ho,hc,_⟩:=y;⟨o,ho,hc⟩
theorem IsSi.set{f f':Value}{i':Nat}(y:IsSi h I f i S n ep){v:Value}(hk:(#[f, .int i 0, .ref S, .int n 0, .int ep 0]:Array Value).setIfInBounds k v= #[f', .int i' 0, .ref S, .int n 0, .int ep 0]):IsSi (h.update I (Obj.mapFields (·.setIfInBounds k v))) I f' i' S n ep:=by
 obtain⟨o,ho,hc,hd⟩:=y
 exact⟨_,Heap.get?_update_self _ ho (Obj.isFreed_of_fields (Obj.data_mapFields hd _)),(Obj.cls_mapFields ..).trans hc,by rw[Obj.data_mapFields hd];rw[hk]⟩
theorem zh2{f:Value}(y:IsSi s.heap I f i S n ep)(h:Q (.ref I) s):wpAny `i4 A (pyIter (.ref I)) Q E s:=by
 refine wpAny_pyIter_slot y.ty zjQ (Q2 zjQ y.ty zpz ?_ (zpL _))
 show wpAny _ _ (ret (.ref I)) _ _ s
 exact D0 ⟨_,rfl,"set_iterator",_,y.ty,zc1.lookup,h⟩
theorem zlG{R:Option Value->Shared->Prop}{f:Value}{i k:Nat}(hh:A.handled=none)(y:IsSi s.heap I f i S n ep){h1:Heap}(hb:Heap.SameBut I s.heap h1)(q:∀h',Heap.ExtBut I s.heap h'->R none {s with heap:=h'}):
 wpAny `i4 A.in1 (newExc (.type "StopIteration") []>>=raiseNew) (λ(fin:PySem.Fin) s'=>False) (λe s'=>wpAny `i4 A (isInstance e (.type "StopIteration")>>=λb=>if b=true then pure none else throw e) R E s') {s with heap:=h1}:=by
 refine A0 (by
  simp only[newExc,newTuple]
  refine A0 (V2 (A0 (m:=firstArgMember _ _) (wpAny_of_eq (a:=Value.none) (by first|rfl|(simp only[firstArgMember];rfl)) (V2 ?_ (by size_fits)))) (by size_fits))
  simp only[raiseNew]
  refine A0 (wpAny_handled ?_)
  rw[show A.in1.handled=none from hh]
  refine A0 (D0 (wpAny_throw ?_));refine A0 (wpAny_isInstance (T:="StopIteration") (b:=true) ⟨_,Q0 _ rfl,rfl⟩ isSubtype_stop ?_)
  exact D0 (q _ ((hb.extBut.push _).push _)))
theorem zf8{Q:Bool->Shared->Prop}(q:Q (ze8 w) s):wpAny `i4 A setsByText Q E s:=by
 unfold setsByText
 exact A0 (wpAny_askSetting (D0 q))
theorem znr(ho:s.heap.get? S=some oS)(hd:oS.data= .set es ep t)(hf:t.fits es.size=true)(hb:ze8 w=true){given:Nat}{Q:Option (Value×Nat)->Shared->Prop}(q:Q (((pickOrder (w.params.setOrder S ep) es)[given]?).map λe=>(e.2,slot)) s):
 wpAny `i4 A (setNext S slot given ep) Q E s:=by
 unfold setNext
 refine A0 (wpAny_setState_of ho hd hf (A0 (zf8 ?_)))
 rw[hb,E1 rfl]
 rw[Y0 `n3]
 refine A0 ?_
 unfold setWalk
 refine A0 (wpAny_setState_of ho hd hf (A0 (zf8 ?_)))
 rw[hb,E1 rfl]
 exact A0 (wpAny_askSetting (D0 (D0 q)))
theorem zoU(ho:s.heap.get? S=some oS)(hd:oS.data= .set es ep t)(hf:t.fits es.size=true)(hb:ze8 w=false)(h1:es.size<=1)(hl:t.led=true){given:Nat}{Q:Option (Value×Nat)->Shared->Prop}
 (q:Q (match es[SetTable.below t.place slot]?,t.place[SetTable.below t.place slot]? with|some (_,x),some j=>some (x,j+1)|_,_=>none) s):
 wpAny `i4 A (setNext S slot given ep) Q E s:=by
 unfold setNext
 refine A0 (wpAny_setState_of ho hd hf (A0 (zf8 ?_)))
 rw[hb,Y0 ⋯]
 rw[Y0 (λh=>by
  have h:(!t.plain&&decide (es.size>1))=true:=h
  rw[A1 (),F3] at h;cases h)]
 refine A0 (show wpAny `i4 A (if(!t.led&&!es.isEmpty)=true then unsupported "set:maker-not-led"else pure Unit.unit) _ _ _ from ?_)
 rw[Y0 (by rw[hl];simp)]
 exact D0 (D0 q)
theorem zqY(ho:s.heap.get? S=some oS)(hd:oS.data= .set es ep t)(hf:t.fits es.size=true){place:Nat}{x:Int×Value}(hx:es[place]?=some x)(q:Q x.2 s):
 wpAny `i4 A (setNextDrawn S place ep) Q E s:=by
 unfold setNextDrawn
 refine A0 (wpAny_setState_of ho hd hf ?_)
 refine wpAny_ite_split (λz=>by simp at z) (λ_=>?_)
 rw[hx]
 exact D0 q
theorem zlD{f:Value}{R:Option Value->Shared->Prop}(y:IsSi s.heap I f i S n ep)(ho:s.heap.get? S=some oS)(hd:oS.data= .set es ep t)(hf:t.fits es.size=true)(hn:es.size=n){slot:Int}{u:Tok}(ef:f= .int slot u)
 (h:wpAny `i4 A.in1 (setNext S slot.toNat i ep) (λr s1=>s1=s/\match r with
   |some (x,next)=>∀h',IsSi h' I (.int next 0) (i+1) S n ep->Heap.SameBut I s.heap h'->R (some x) {s with heap:=h'}
   |none=>A.handled=none/\∀h',Heap.ExtBut I s.heap h'->R none {s with heap:=h'}) (λ_ _=>False) s):wpAny `i4 A (pyNext (.ref I)) R E s:=by
 subst ef
 obtain⟨o,hoI,hc,hdI⟩:=id y
 unfold pyNext
 refine A0 (wpAny_attempt (B3 (name:=Str.ofString "__next__") y.ty zc1 (Q2 zc1 y.ty zj6 ?_ (zkI _))))
 unfold Builtin.«set_iterator.__next__»
 refine A0 (D0 (A0 (wpAny_fieldsOf hoI hdI (A0 (wpAny_setEntries_of ho hd hf ?_)))))
 refine wpAny_ite_split (λz=>by rw[hn] at z;simp at z) (λ_=>?_)
 refine A0 (wpAny_mono h ?_ λ_ _ z=>z.elim)
 rintro r s1 ⟨rfl,hr⟩
 cases r with
 |some xn=>
  obtain⟨x,next⟩:=xn
  dsimp only at hr
  show wpAny _ _ (setField (.ref I) 0 (rawInt next)>>=_) _ _ _
  refine A0 (wpAny_setField hoI hdI `n3 ?_)
  have y1:IsSi (s1.heap.update I (Obj.mapFields (·.setIfInBounds 0 (rawInt next)))) I (.int next 0) i S n ep:=y.set rfl
  obtain⟨o1,ho1,hc1,hd1⟩:=id y1
  refine A0 (wpAny_setField (s:={s1 with heap:=s1.heap.update I (Obj.mapFields (·.setIfInBounds 0 (rawInt next)))}) ho1 hd1 `n3 ?_)
  refine D0 ⟨_,rfl,D0 (hr _ ?_ ?_)⟩
  ·exact y1.set (by simp[rawInt])
  ·exact (W2 ..).trans (W2 ..)
 |none=>
  obtain⟨hh,hr⟩:=hr
  refine A0 (wpAny_setField hoI hdI `n3 ?_)
  exact wpAny_mono (zlG (R:=R) (k:=0) hh y (W2 ..) hr) (λfin s' z=>z.elim) λe s' z=>z
theorem zrr(hh:A.handled=none)(hIS:S≠I)(hd:oS.data= .set es ep t)(hf:t.fits es.size=true)(hn:es.size=n)(hb:ze8 w=true):
 Walks prog w A I [I,S] [I] n (λi v=>((pickOrder (w.params.setOrder S ep) es).toList.map (·.2))[i]?=some v) (λi h=>IsSi h I (.int 0 0) i S n ep/\h.get? S=some oS):=by
 have sz:(pickOrder (w.params.setOrder S ep) es).toList.length=n:=by rw[(zhb es).length_eq];simpa using hn
 refine⟨λb hb=>by simp at hb;simp[hb],λi h h' st hk=>⟨st.1.at λo e=>hk I `n3 o e,hk S `n3 _ st.2⟩,λi s Q E hi st hQ=>?_,λs Q E st hQ=>?_,λi s Q E st hQ=>zh2 st.1 hQ⟩
 ·obtain ⟨e,he⟩:∃e,(pickOrder (w.params.setOrder S ep) es)[i]?=some e:=⟨_,W1 (by rw[←j1];lia)⟩
  refine zlD (slot:=((0:Nat):Int)) (u:=0) st.1 st.2 hd hf hn rfl (znr st.2 hd hf hb ⟨rfl,?_⟩)
  rw[he]
  intro h' y' hs
  refine hQ _ h' s.toks ?_ ⟨y',hs.extBut S _ hIS st.2⟩ λb o hb e=>hs.extBut b o (λh=>hb (by simp[h])) e
  rw[V0,Array.getElem?_toList,he];rfl
 ·refine zlD (slot:=((0:Nat):Int)) (u:=0) st.1 st.2 hd hf hn rfl (znr st.2 hd hf hb ⟨rfl,?_⟩)
  rw[Array.getElem?_eq_none (by rw[←j1];lia)]
  exact⟨hh,λh' he=>hQ h' s.toks λb o hb e=>he b o (λh=>hb (by simp[h])) e⟩
theorem zq6(hh:A.handled=none)(hIS:S≠I)(hd:oS.data= .set es ep t)(hf:t.fits es.size=true)(hn:es.size=n)(hb:ze8 w=false)(h1:n<=1)(hl:t.led=true)(hr:Rise t.place)(hz:t.place.size=n):
 Walks prog w A I [I,S] [I] n (λi v=>(es.toList.map (·.2))[i]?=some v) (λi h=>(∃slot:Nat,IsSi h I (.int slot 0) i S n ep/\((i=0/\slot=0)\/(i=1/\SetTable.below t.place slot=1)))/\h.get? S=some oS):=by
 refine⟨λb hb=>by simp at hb;simp[hb],λi h h' st hk=>⟨let⟨sl,y,z⟩:=st.1;⟨sl,y.at λo e=>hk I `n3 o e,z⟩,hk S `n3 _ st.2⟩,λi s Q E hi st hQ=>?_,λs Q E st hQ=>?_,λi s Q E st hQ=>let ⟨sl,y,z⟩:=st.1;zh2 y hQ⟩
 ·obtain ⟨⟨slot,y,hs⟩,hS⟩:=st
  have hn1:n=1:=()
  rcases hs with⟨rfl,rfl⟩|⟨rfl,_⟩
  ·have hp0:0<t.place.size:=()
   have b0:SetTable.below t.place 0=0:=by
    obtain⟨q1,q2,q3⟩:=zdH (j:=0) hr
    rcases Nat.eq_zero_or_pos (SetTable.below t.place 0)with z|z
    ·exact z
    ·exact absurd (q2 0 hp0 z) ()
   refine zlD (slot:=((0:Nat):Int)) (u:=0) y hS hd hf hn rfl (zoU hS hd hf hb () hl ⟨rfl,?_⟩)
   rw[show((0:Nat):Int).toNat=0 from rfl,b0,W1 (show 0<es.size by lia),W1 hp0]
   dsimp only
   intro h' y' hs
   refine hQ _ h' s.toks ?_ ⟨⟨_,y', .inr ⟨rfl,?_⟩⟩,hs.extBut S _ hIS hS⟩ λb o hb e=>hs.extBut b o (λh=>hb (by simp[h])) e
   ·rw[V0,Array.getElem?_toList,W1 (show 0<es.size by lia)];rfl
   ·obtain ⟨q1,q2,q3⟩:=zdH (j:=t.place[0]+1) hr
    have:SetTable.below t.place (t.place[0]+1)≠0:=λz=>by
     have:=q3 0 hp0 ();lia
    lia
  ·lia
 ·obtain ⟨⟨slot,y,hs⟩,hS⟩:=st
  refine zlD (slot:=(slot:Int)) (u:=0) y hS hd hf hn rfl (zoU hS hd hf hb () hl ⟨rfl,?_⟩)
  have:n<=SetTable.below t.place slot:=by
   rcases hs with⟨z,rfl⟩|⟨z,e⟩
   ·lia
   ·lia
  rw[N3,Array.getElem?_eq_none (show es.size<=_ by lia)]
  exact⟨hh,λh' he=>hQ h' s.toks λb o hb e=>he b o (λh=>hb (by simp[h])) e⟩
def zsB(h:Heap)(tp:Addr)(pl:List Nat):Prop:=∃o n,h.get? tp=some o/\o.cls= .type "tuple"/\o.data= .seq (pl.map λ(i:Nat)=>Value.int i 0).toArray n
theorem zqP{tp:Addr}{pl:List Nat}(hh:A.handled=none)(hIS:S≠I)(hIt:tp≠I)(hd:oS.data= .set es ep t)(hf:t.fits es.size=true)(hn:es.size=n)(hp:pl.Perm (List.range n)):
 Walks prog w A I [I,tp,S] [I] n (λi v=>(pl.map λk=>(es.getD k (0, .none)).2)[i]?=some v) (λi h=>IsSi h I (.ref tp) i S n ep/\zsB h tp pl/\h.get? S=some oS):=by
 have lp:pl.length=n:=by rw[hp.length_eq,List.length_range]
 refine⟨λb hb=>by simp at hb;simp[hb],λi h h' st hk=>⟨st.1.at λo e=>hk I `n3 o e,let⟨o,m,e,r⟩:=st.2.1;⟨o,m,hk tp `n3 o e,r⟩,hk S `n3 _ st.2.2⟩,λi s Q E hi st hQ=>?_,λs Q E st hQ=>?_,λi s Q E st hQ=>zh2 st.1 hQ⟩
 ·obtain ⟨y,⟨ot,m,hot,hct,hdt⟩,hS⟩:=st
  obtain⟨o,hoI,hc,hdI⟩:=id y
  obtain⟨k,ek⟩:∃k,pl[i]?=some k:=⟨_,F0 ()⟩
  have hk:k<es.size:=by rw[hn];exact U2.mp (hp.mem_iff.mp (U0 ek))
  unfold pyNext
  refine A0 (wpAny_attempt (B3 (name:=Str.ofString "__next__") y.ty zc1 (Q2 zc1 y.ty zj6 ?_ (zkI _))))
  unfold Builtin.«set_iterator.__next__»
  refine A0 (D0 (A0 (wpAny_fieldsOf hoI hdI (A0 (wpAny_setEntries_of hS hd hf ?_)))))
  refine wpAny_ite_split (λz=>by rw[hn] at z;simp at z) (λ_=>?_)
  refine A0 (wpAny_seqItems hot hdt ?_)
  have eg:((pl.map λ(i:Nat)=>Value.int i 0).toArray)[((i:Int)).toNat]?=some (.int (k:Int) 0):=by rw[N3,List.getElem?_toArray,V0,ek];rfl
  dsimp only
  rw[eg]
  refine A0 (zqY (place:=((k:Int)).toNat) hS hd hf (x:=es[k]) (by rw[N3];exact W1 hk) ?_)
  refine A0 (wpAny_setField hoI hdI `n3 ?_)
  refine D0 ⟨_,rfl,D0 (hQ _ _ s.toks ?_ ⟨y.set (by simp[rawInt]),⟨ot,m,?_,hct,hdt⟩,?_⟩ λb o' hb e=>?_)⟩
  ·rw[V0,ek];simp[hk]
  ·exact (W2 s.heap I _).extBut tp _ hIt hot
  ·exact (W2 s.heap I _).extBut S _ hIS hS
  ·exact (W2 s.heap I _).extBut b o' (λh=>hb (by simp[h])) e
 ·obtain ⟨y,⟨ot,m,hot,hct,hdt⟩,hS⟩:=st
  obtain⟨o,hoI,hc,hdI⟩:=id y
  unfold pyNext
  refine A0 (wpAny_attempt (B3 (name:=Str.ofString "__next__") y.ty zc1 (Q2 zc1 y.ty zj6 ?_ (zkI _))))
  unfold Builtin.«set_iterator.__next__»
  refine A0 (D0 (A0 (wpAny_fieldsOf hoI hdI (A0 (wpAny_setEntries_of hS hd hf ?_)))))
  refine wpAny_ite_split (λz=>by rw[hn] at z;simp at z) (λ_=>?_)
  refine A0 (wpAny_seqItems hot hdt ?_)
  have eg:((pl.map λ(i:Nat)=>Value.int i 0).toArray)[((n:Int)).toNat]?=none:=by rw[N3,List.getElem?_toArray,G0 (by rw[B0];lia)]
  dsimp only
  rw[eg]
  refine A0 (wpAny_setField hoI hdI `n3 ?_)
  have y1:IsSi (s.heap.update I (Obj.mapFields (·.setIfInBounds 0 (rawInt 0)))) I (.int 0 0) n S n ep:=y.set rfl
  obtain⟨o1,ho1,hc1,hd1⟩:=id y1
  refine A0 (wpAny_setField (s:={s with heap:=s.heap.update I (Obj.mapFields (·.setIfInBounds 0 (rawInt 0)))}) ho1 hd1 `n3 ?_)
  refine wpAny_mono (zlG (R:=Q) (k:=0) hh y ((W2 ..).trans (W2 ..)) λh' he=>hQ h' s.toks λb o hb e=>he b o (λh=>hb (by simp[h])) e) (λfin s' z=>z.elim) λe s' z=>z
end
structure TkRaw(prog:Program)(w:World)(o:Obj)(es:Array (Int×Value))(ep:Nat)(t:SetTable)(xs:List (zaD×Addr)):Prop where
 ex:o.ExactSet
 dat:o.data= .set es ep t
 ents:es.toList=xs.map (zgx prog w)
 lay:LayT t (xs.map λx=>zK prog w x.1)
 few:xs.length*5<t.mask*3
 led:t.led=!ze8 w
 plain:xs≠ []->t.plain=false
 nd:(xs.map (·.1)).Nodup
section
variable{S:Addr}{o:Obj}{es:Array (Int×Value)}{xs:List (zaD×Addr)}
theorem TkSet.raw(T:TkSet prog w h o es ep t xs):TkRaw prog w o es ep t xs:=⟨T.ex,T.dat,T.ents,T.lay,T.few,T.led,T.plain,T.nd⟩
theorem TkRaw.size(T:TkRaw prog w o es ep t xs):es.size=xs.length:=by rw[←j1,T.ents,B0]
theorem TkRaw.psize(T:TkRaw prog w o es ep t xs):t.place.size=xs.length:=by rw[T.lay.size,B0]
theorem TkRaw.fits(T:TkRaw prog w o es ep t xs):t.fits es.size=true:=by
 have:=T.few
 simp only[SetTable.fits,SetTable.fill,T.lay.dum,T.psize,T.size,L0,beq_iff_eq,decide_eq_true_eq,Array.size_empty,true_and]
 lia
def zpA(ys:List (zaD×Addr))(i:Nat)(v:Value):Prop:=∃y,ys[i]?=some y/\v= .ref y.2
theorem zfF{P P':Nat->Value->Prop}{St:Nat->Heap->Prop}(W:Walks prog w A I fp wr n P St)(h:∀i v,i<n->P i v->P' i v):Walks prog w A I fp wr n P' St:=
 ⟨W.sub,W.frame,λi s Q E hi st hQ=>W.item i s Q E hi st λv h' tk p st' k=>hQ v h' tk (h i v hi p) st' k,W.done,W.self⟩
theorem znv(B:Around)(hB:B.handled=none)(ho:s.heap.get? S=some o)(T:TkRaw prog w o es ep t xs)(hz:xs.length<=1000)
 (q:∀(h':Heap) (I:Addr) (d:_) (fp:List Addr) (St:Nat->Heap->Prop) (ys:List (zaD×Addr)),ys.Perm xs->s.heap.objs.size<=I->(∀b o,s.heap.get? b=some o->h'.get? b=some o)->(∀b∈fp,b=S\/s.heap.objs.size<=b)->
   (∀b∈fp,b<h'.objs.size)->Walks prog w B I fp [I] xs.length (zpA ys) St->St 0 h'->Q (.ref I) {s with heap:=h',drawn:=d}):wpAny `i4 A (pyIter (.ref S)) Q E s:=by
 have ty:s.TypeIs (.ref S) "set":=⟨o,ho,T.ex.1⟩
 have Slt:S<s.heap.objs.size:=X0 ho
 have hf:=T.fits
 have hs:=T.size
 refine wpAny_pyIter_slot ty F.slot_set_iter (Q2 F.slot_set_iter ty zoc ?_ (F.args_set_iter_1 _))
 unfold Builtin.«frozenset.__iter__»
 refine A0 (A0 (D0 (D0 ?_)))
 refine A0 (A0 (wpAny_setEntries_of ho T.dat hf (D0 ?_)))
 have fin:∀(h1:Heap) (d:_) (f:Value),(∀b o,s.heap.get? b=some o->h1.get? b=some o)->Q (.ref h1.objs.size) {s with heap:=h1.push {cls:= .type "set_iterator",data:= .fields #[f, .int 0 0, .ref S, .int xs.length 0, .int ep 0]},drawn:=d}->
  wpAny `i4 A.in1 (setEpoch S>>=λe=>newFields "set_iterator" [f,rawInt 0, .ref S,rawInt es.size,rawInt e]>>=λv=>ret v) (λfin s'=>∃v,fin=Fin.done (.ret v)/\∃T' r,s'.TypeIs v T'/\typeLookup (.type T') "__next__"=pure (some r)/\Q v s') E {s with heap:=h1,drawn:=d}:=λh1 d f kp q'=>by
  unfold setEpoch
  refine A0 (A0 (wpAny_setState_of (s:={s with heap:=h1,drawn:=d}) (kp _ _ ho) T.dat hf (D0 ?_)))
  unfold newFields
  refine A0 (V2 (D0 ⟨_,rfl,"set_iterator",_,⟨_,Q0 _ rfl,rfl⟩,zc1.lookup,?_⟩))
  rw[hs]
  exact q'
 have siAt:∀(h1:Heap) (f:Value),IsSi (h1.push {cls:= .type "set_iterator",data:= .fields #[f, .int 0 0, .ref S, .int xs.length 0, .int ep 0]}) h1.objs.size f 0 S xs.length ep:=λh1 f=>⟨_,Q0 _ rfl,rfl,rfl⟩
 unfold setDrawn
 refine A0 (A0 (wpAny_setState_of ho T.dat hf (A0 (zf8 (D0 ?_)))))
 by_cases hb:ze8 w=true
 ·rw[hb]
  rw[Y0 `n3]
  refine A0 (D0 ?_)
  obtain⟨ys,py,ey⟩:=zeW (f:=zgx prog w) ((zhb (f:=w.params.setOrder S ep) es).trans (by rw[T.ents])) xs rfl
  refine fin s.heap s.drawn (rawInt 0) (λb o e=>e) (q _ _ _ [s.heap.objs.size,S] _ ys py (O0 _) (λb o e=>C0 _ e) (λb hb=>?_) (λb hb=>?_) (zfF (zrr hB (Z1 Slt) T.dat hf hs hb) λi v _ p=>?_) ⟨siAt _ _,C0 _ ho⟩)
  ·rcases K0.mp hb with h|h
   ·exact .inr (Nat.le_of_eq h.symm)
   ·exact .inl (c0.mp h)
  ·rw[Heap.size_push];rcases K0.mp hb with h|h
   ·rw[h];exact Nat.lt_succ_self _
   ·rw[c0.mp h];exact Nat.lt_succ_of_lt Slt
  ·rw[ey,List.map_map,V0] at p
   cases e:ys[i]? with
   |none=>rw[e] at p;cases p
   |some y=>rw[e] at p;exact⟨y,e,(U1 p).symm⟩
 ·have hb:ze8 w=false:=by simpa using hb
  rw[hb]
  by_cases h1:xs.length<=1
  ·rw[Y0 (λh=>by
    have h:(!false&&(!t.plain&&decide (es.size>1)))=true:=h
    rw[A1 (),F3,F3] at h;cases h)]
   refine A0 (D0 ?_)
   refine fin s.heap s.drawn (rawInt 0) (λb o e=>e) (q _ _ _ [s.heap.objs.size,S] _ xs (.refl _) (O0 _) (λb o e=>C0 _ e) (λb hb=>?_) (λb hb=>?_) (zfF (zq6 hB (Z1 Slt) T.dat hf hs hb h1 (by rw[T.led,hb];rfl) T.lay.rise T.psize) λi v _ p=>?_) ⟨⟨0,siAt _ _, .inl ⟨rfl,rfl⟩⟩,C0 _ ho⟩)
   ·rcases K0.mp hb with h|h
    ·exact .inr (Nat.le_of_eq h.symm)
    ·exact .inl (c0.mp h)
   ·rw[Heap.size_push];rcases K0.mp hb with h|h
    ·rw[h];exact Nat.lt_succ_self _
    ·rw[c0.mp h];exact Nat.lt_succ_of_lt Slt
   ·rw[T.ents,List.map_map,V0] at p
    cases e:xs[i]? with
    |none=>rw[e] at p;cases p
    |some y=>rw[e] at p;exact⟨y,e,(U1 p).symm⟩
  ·have hpl:t.plain=false:=T.plain (λz=>by rw[z] at h1;simp at h1)
   refine wpAny_ite_split (λ_=>?_) (λz=>absurd (show(!false&&(!t.plain&&decide (es.size>1)))=true by rw[hpl,N0 ()];rfl) z)
   refine A0 (zgX es.size (List.range es.size) _ _ (by rw[List.length_range]) λpl d hp=>?_)
   rw[hs] at hp
   refine A0 (wpAny_newTuple ?_ (by rw[B0,hp.length_eq,List.length_range,sizeLine_eq];lia))
   have hp':(pl.map λk=>xs.getD k ([],0)).Perm xs:=by
    have:=hp.map λk=>xs.getD k ([],0)
    refine this.trans ?_
    have e:(List.range xs.length).map (λk=>xs.getD k ([],0))=xs:=by
     refine List.ext_getElem? λi=>?_
     rw[V0]
     rcases R1 i xs.length with h|h
     ·rw[List.getElem?_range h,F0 h];simp[h]
     ·rw[G0 h,G0 (by simpa using h)];rfl
    rw[e]
   generalize hh1:s.heap.push {cls:= .type "tuple",data:= .seq (pl.map λ(i:Nat)=>rawInt i).toArray}=h1
   have kp:∀b o,s.heap.get? b=some o->h1.get? b=some o:=λb o e=>by rw[←hh1];exact C0 _ e
   have sz1:h1.objs.size=s.heap.objs.size+1:=by rw[←hh1,Heap.size_push]
   have tp1:zsB h1 s.heap.objs.size pl:=by rw[←hh1];exact⟨_,0,Q0 _ rfl,rfl,rfl⟩
   obtain⟨ot,m,hot,hct,hdt⟩:=id tp1
   refine fin h1 d (.ref s.heap.objs.size) kp (q _ _ _ [h1.objs.size,s.heap.objs.size,S] _ _ hp' (by rw[sz1];exact Nat.le_succ _) (λb o e=>C0 _ (kp b o e)) (λb hb=>?_) (λb hb=>?_) (zfF (zqP (tp:=s.heap.objs.size) (pl:=pl) hB (by rw[sz1];exact Z1 (Nat.lt_succ_of_lt Slt)) (by rw[sz1];exact Z1 (Nat.lt_succ_self _)) T.dat hf hs hp) λi v hi p=>?_) ⟨siAt _ _,⟨ot,m,C0 _ hot,hct,hdt⟩,C0 _ (kp _ _ ho)⟩)
   ·rcases K0.mp hb with h|h
    ·exact .inr (by rw[h,sz1];exact Nat.le_succ _)
    ·rcases K0.mp h with h|h
     ·exact .inr (Nat.le_of_eq h.symm)
     ·exact .inl (c0.mp h)
   ·rw[Heap.size_push];rcases K0.mp hb with h|h
    ·rw[h];exact Nat.lt_succ_self _
    ·rcases K0.mp h with h|h
     ·rw[h,sz1];exact Nat.lt_succ_of_lt (Nat.lt_succ_self _)
     ·rw[c0.mp h,sz1];exact Nat.lt_succ_of_lt (Nat.lt_succ_of_lt Slt)
   ·rw[V0] at p
    cases e:pl[i]? with
    |none=>rw[e] at p;cases p
    |some k=>
     rw[e] at p
     have hk:k<xs.length:=U2.mp (hp.mem_iff.mp (U0 e))
     refine⟨xs[k],by rw[V0,e];simp[hk],?_⟩
     have p:=(U1 p).symm
     rw[p]
     have he:es[k]?=some (zgx prog w xs[k]):=by rw[←Array.getElem?_toList,T.ents,V0,F0 hk];rfl
     show(es.getD k (0,Value.none)).snd=_
     rw[Array.getD_eq_getD_getElem?,he];rfl
end
section
open PySem.W
section
variable{r:Addr}{o:Obj}{es:Array (Int×Value)}{xs:List (zaD×Addr)}
theorem zoQ{Q:Bool->Shared->Prop}(hT:s.TypeIs (.ref r) "set")(h:Q false s):wpAny `i4 A (Builtin.List.listLengthHint (.ref r)) Q E s:=by
 unfold Builtin.List.listLengthHint
 refine A0 (wpAny_specialOf hT F.slot_set_len.lookup ?_)
 generalize hid:("set.__len__":String)=id0
 wp_delta
 rw[show splitId id0=some ("set","__len__")from by subst hid;decide +kernel]
 subst hid
 refine A0 (wpAny_isInstance (T:="set") (b:=true) hT (by rw[isSubtype_type];kernel_rfl) ?_)
 refine wpAny_ite_split (λhab=>absurd hab ⋯) (λ_=>?_)
 refine wpAny_ite_split (λ_=>?_) (λhab=>absurd `n4 hab)
 refine A0 (wpAny_typeOf hT ?_)
 exact D0 h
theorem zkg(hh:A.handled=none)(ho:s.heap.get? r=some o)(T:TkRaw prog w o es ep t xs)(hz:xs.length<=1000)(S:Addr)(hSr:S≠r)(res:Value)(c₀:Nat)(hS:s.heap.get? S=some {cls:= .type "list",data:= .seq #[] c₀})
 (hR:∀h' tk d ys acc' c',ys.Perm xs->(∀b o,b≠S->s.heap.get? b=some o->h'.get? b=some o)->h'.get? S=some {cls:= .type "list",dict:=none,data:= .seq acc' c',slots:= #[]}->ItemsOf (zpA ys) acc' xs.length->R (.ok (.ret res)) {s with heap:=h',toks:=tk,drawn:=d}):
 wpAny `i4 A.in1 (Builtin.List.listExtendWith (.ref S) (.ref r) res)
  (λfin s'=>match fin with| .done f=>R (.ok f) s'| .again c'=>c'.quiet=true/\codeAny `i4 A c' R s') (λe s'=>R (.error e) s') s:=by
 have hn:xs.length<=sizeLine:=by rw[sizeLine_eq];lia
 have ty:s.TypeIs (.ref r) "set":=⟨o,ho,T.ex.1⟩
 have Slt:=X0 hS
 unfold Builtin.List.listExtendWith
 refine A0 (wpAny_typeOf (T:="set") ty ?_)
 have h1:Builtin.List.listSameRef (.ref S) (.ref r)=false:=by simp[Builtin.List.listSameRef,hSr]
 simp only[h1,show(Value.type "set"==Value.type "list")=false from by decide,show(Value.type "set"==Value.type "tuple")=false from by decide,Bool.or_false,Z3,if_false]
 refine A0 (znv A.in1 hh ho T hz λh' I d fp St ys py hI kp hfp hlt W st=>?_)
 have hSf:S∉fp:=λhm=>by
  rcases hfp S hm with z|z
  ·exact hSr z
  ·exact absurd Slt (Nat.not_lt.mpr z)
 have key:∀(h:Heap) (c₁ tk:Nat),St 0 h->(∀b o,b≠S->s.heap.get? b=some o->h.get? b=some o)->
  h.get? S=some {cls:= .type "list",data:= .seq #[] c₁}->codeAny `i4 A (.builtin "list.extend.loop" ⟨[.ref S, .ref I,res],[]⟩) R {s with heap:=h,toks:=tk,drawn:=d}:=by
  intro h c₁ tk hst hk hS₁
  refine codeAny_extend_loopS W.toS hn S hSf res xs.length 0 _ #[] c₁ rfl (K2 _) hst hS₁ (ItemsOf.nil _) λs' acc' c' hm hS' hacc=>?_
  rw[Moved.eq_with hm]
  refine hR s'.heap s'.toks d ys acc' c' py (λb o hb e=>hm.heap b o (λhmem=>?_) (hk b o hb e)) hS' hacc
  rcases K0.mp hmem with e'|hmem
  ·exact hb e'
  ·exact absurd (X0 e) (by rw[c0.mp hmem];exact Nat.not_lt.mpr hI)
 have hS₁:=kp _ _ hS
 refine A0 (K3 (zoQ ⟨o,kp _ _ ho,T.ex.1⟩ ?_))
 refine wpAny_ite_split (λ_=>?_) (λ_=>D0 ⟨plainId_quiet F.plain_extend_loop _,key _ c₀ _ st (λb o _ e=>kp b o e) hS₁⟩)
 refine A0 (wpAny_rule ?_)
 refine A0 ?_
 show wpAny _ _ (updateSeq S (·.push .none)>>=λ_=>updateSeq S (·.pop)) _ _ _
 refine A0 (wpAny_updateSeq hS₁ rfl ?_)
 have hS₂:=Heap.get?_update_self (Obj.mapSeq (·.push Value.none)) hS₁ rfl
 refine wpAny_updateSeq (hz:=by seq_fits) hS₂ rfl ?_
 have hS₃:=Heap.get?_update_self (Obj.mapSeq (·.pop)) hS₂ rfl
 refine D0 ⟨plainId_quiet F.plain_extend_loop _,key _ _ _ ?_ (λb o hb e=>?_) hS₃⟩
 ·refine W.frame 0 _ _ st λb hb o e=>?_
  have hbS:b≠S:=λh=>hSf (h▸hb)
  exact(Heap.get?_update_other _ _ (Ne.symm hbS)).trans ((Heap.get?_update_other _ _ (Ne.symm hbS)).trans e)
 ·exact (Heap.get?_update_other _ _ (Ne.symm hb)).trans ((Heap.get?_update_other _ _ (Ne.symm hb)).trans (kp b o e))
theorem zkR{R:List Value->Shared->Prop}(hh:A.handled=none)(ho:s.heap.get? r=some o)(T:TkRaw prog w o es ep t xs)(hz:xs.length<=1000)
 (q:∀(h':Heap) (tk:Nat) (d:_) (ys:List (zaD×Addr)),ys.Perm xs->(∀b o,s.heap.get? b=some o->h'.get? b=some o)->s.heap.objs.size<h'.objs.size->R (ys.map λy=> .ref y.2) {s with heap:=h',toks:=tk,drawn:=d}):wpAny `i4 A (collect (.ref r)) R E s:=by
 have lt:r<s.heap.objs.size:=X0 ho
 have g0:(s.heap.push {cls:= .type "list",data:= .seq ([]:List Value).toArray}).get? s.heap.objs.size=some {cls:= .type "list",data:= .seq #[]}:=Q0 _ rfl
 have lst:∀{ys:List (zaD×Addr)} {acc:Array Value},ys.Perm xs->ItemsOf (zpA ys) acc xs.length->acc.toList=ys.map λy=> .ref y.2:=λ{ys acc} py ia=>by
  apply List.ext_getElem?
  intro i
  rw[V0]
  rcases R1 i ys.length with h|h
  ·have hi:i<acc.size:=by rw[ia.1,←py.length_eq];exact h
   rw[Array.getElem?_toList,W1 hi]
   obtain⟨y,e1,e2⟩:=ia.2 i acc[i] (by rw[W1 hi])
   rw[e2,e1];rfl
  ·rw[G0 h,G0 (by rw[j1,ia.1,←py.length_eq];exact h)];rfl
 have key:=zkg (A:=A) (s:={s with heap:=s.heap.push {cls:= .type "list",data:= .seq ([]:List Value).toArray}}) (R:=λ(f:Result) (s':Shared)=>∃(h':Heap) (tk:Nat) (d:_) (ys:List (zaD×Addr)) (acc':Array Value) (c':Nat),f= .ok (.ret (.ref s.heap.objs.size))/\s'={s with heap:=h',toks:=tk,drawn:=d}/\ys.Perm xs/\(∀b o,s.heap.get? b=some o->h'.get? b=some o)/\h'.get? s.heap.objs.size=some {cls:= .type "list",dict:=none,data:= .seq acc' c',slots:= #[]}/\ItemsOf (zpA ys) acc' xs.length)
  hh (C0 _ ho) T hz s.heap.objs.size (Nat.ne_of_gt lt) (.ref s.heap.objs.size) 0 g0 (λh' tk d ys acc' c' py kp gS ia=>⟨h',tk,d,ys,acc',c',rfl,rfl,py,λb o e=>kp b o (Z1 (X0 e)) (C0 _ e),gS,ia⟩)
 unfold collect
 refine A0 (wpAny_runValue (Y3 entry_proto_collect' (by
  rw[L3 F.plain_proto_collect _]
  show wpAny _ A.in1 (newList []>>=λl=>again (.builtin "list.__iadd__" ⟨[l, .ref r],[]⟩)) _ _ s
  refine A0 (V2 (D0 ⟨plainId_quiet F.plain_list_iadd _,Y3 entry_list_iadd' (by
   rw[L3 F.plain_list_iadd _]
   show wpAny _ A.in1 (Builtin.List.listExtendWith (.ref s.heap.objs.size) (.ref r) (.ref s.heap.objs.size)) _ _ _
   refine wpAny_mono key (λfin s' x=>?_) λe s' x=>?_
   ·cases fin with
    |done f=>
     obtain⟨h',tk,d,ys,acc',c',e,rfl,py,kp,gS,ia⟩:=x;cases e
     show wpAny _ A (load s.heap.objs.size>>=_) _ _ _
     refine A0 (wpAny_load gS (D0 ?_))
     show R acc'.toList _
     rw[lst py ia]
     exact q h' tk d ys py kp (X0 gS)
    |again c₁=>
     refine⟨x.1,codeAny_mono x.2 λf s₂ y=>?_⟩
     obtain⟨h',tk,d,ys,acc',c',rfl,rfl,py,kp,gS,ia⟩:=y
     show wpAny _ A (load s.heap.objs.size>>=_) _ _ _
     refine A0 (wpAny_load gS (D0 ?_))
     show R acc'.toList _
     rw[lst py ia]
     exact q h' tk d ys py kp (X0 gS)
   ·obtain ⟨_,_,_,_,_,_,e',_⟩:=x
    cases e')⟩)))))
end
end
noncomputable abbrev zfh(w:World):Obj:={cls:= .type "set",dict:=none,data:= .set #[] 0 (.fresh 0 0 (!ze8 w))}
theorem zms(a:Value)(h:Q₁ (.ref s.heap.objs.size) {s with heap:=s.heap.push (zfh w)}):codeAny `i4 A (.call (.builtin "set.__new__") ⟨[.type "set",a],[]⟩) (wants Q₁ E) s:=by
 refine codeAny_of_tree ?_
 show wpAny _ A.in1 (checkBuiltinCall "set.__new__" ⟨[.type "set",a],[]⟩>>=λ_=>again (.builtin "set.__new__" ⟨[.type "set",a],[]⟩)) _ _ s
 refine A0 (wpAny_of_eq (F.newCall_set_1 a) (D0 ⟨plainId_quiet F.plain_set_new _,Y3 F.entry_set_new ?_⟩))
 rw[L3 F.plain_set_new _]
 unfold Builtin.«set.__new__» Builtin.Frozenset.newClass
 have hsub:=sub_set_self
 obtain⟨hp,g,d,tk,os⟩:=s
 dsimp only
 wp_walk
 refine wpAny_askSetting (D0 ?_)
 dsimp only
 simp only[newObj]
 refine A0 (wpAny_alloc (D0 ?_))
 exact D0 h
theorem ziJ{led:Bool}(hl:led=!ze8 w):TkSet prog w h {cls:= .type "set",dict:=none,data:= .set #[] 0 (.fresh 0 0 led)} #[] 0 (.fresh 0 0 led) [] where
 ex:=⟨rfl,rfl,rfl⟩
 dat:=rfl
 ents:=rfl
 lay:={size:=rfl,rise:=List.Pairwise.nil,bnd:=(λj hj=>by simp[SetTable.fresh] at hj),dum:=rfl,mask:= .inl rfl,reach:=(λz hz=>by simp at hz)}
 few:=(by decide:0<21)
 led:=hl
 plain:=λh=>absurd rfl h
 nd:=List.Pairwise.nil
 is:=λx hx=>by cases hx
theorem zpS{S:Addr}{val:Nat->zaD}{R:Value->Shared->Prop}(hh:A.handled=none)(hu:A.in1.units<cLine)(hS:s.heap.get? S=some (zfh w))(hl:s.heap.IsList l items)(hlS:l≠S)
 (hval:∀(i:Nat) v,items[i]?=some v->v= .ref (adr i)) (hb:∀xs:List (zaD×Addr),(xs.map (·.1)).Nodup->(∀x∈xs,∃j<items.size,val j=x.1/\adr j=x.2)->xs.length<=75) (hk:∀j<items.size,IsTk prog w s.heap (val j) (adr j)/\val j≠ []/\adr j≠S)
 (hR:∀h' tk,zkf prog w h' S (λk a=>∃j<items.size,val j=k/\adr j=a) (λk=>∃j<items.size,val j=k) items.size->(∀b o,b≠S->s.heap.get? b=some o->h'.get? b=some o)->R .none {s with heap:=h',toks:=tk}):
 wpAny `i4 A (Builtin.«set.__init__» ⟨[.ref S, .ref l],[]⟩) (λfin s'=>∃v,fin= .done (.ret v)/\R v s') E s:=by
 have hT:s.TypeIs (.ref S) "set":=⟨_,hS,rfl⟩
 obtain⟨ol,hol,hcl,nl,hdl⟩:=hl
 have hl1:s.heap.IsList l items:=⟨ol,hol,hcl,nl,hdl⟩
 obtain⟨oc,od,odat,osl⟩:=ol
 simp only at hcl hdl
 subst hcl hdl
 have hsls:=F.sub_list_set
 have hslf:=F.sub_list_frozenset
 have hne:(Value.type "list"==Value.type "dict")=false:=⋯
 obtain⟨hp,g,d,tk,os⟩:=s
 unfold Builtin.«set.__init__» noKeywords Builtin.Frozenset.updateFrom
 generalize hPI:pyIter=PI
 unfold zfh at hS
 generalize hled:(!ze8 w)=led at hS
 wp_walk
 subst hPI
 refine wpAny_pyIter_list hl1 ?_
 refine A0 (wpAny_runValue ?_)
 have llt:l<hp.objs.size:=X0 hol
 have Slt:S<hp.objs.size:=X0 hS
 have keepK:∀{h h':Heap} {k:zaD} {b:Addr},IsTk prog w h k b->(∀o,h.get? b=some o->h'.get? b=some o)->IsTk prog w h' k b:=λx kk=>by
  obtain⟨o2,items,n,e,c,d,it⟩:=x
  exact⟨o2,items,n,kk _ e,c,d,it⟩
 refine zm8 (val:=val) (adr:=adr) (Walks.list (A:=A.in1) (show A.in1.handled=none from hh) hp.objs.size l (Z1 llt) items) S ?_ hu hval hb _ 0 _ rfl (K2 _) ⟨⟨_,Q0 _ rfl,rfl,rfl⟩,hl1.push _⟩ (λj hj=>?_) ⟨_,_,_,_,[],C0 _ hS,ziJ hled.symm,O0 _,(λx hx=>nomatch hx),λk ⟨j,hj,_⟩=>absurd hj (Nat.not_lt_zero _)⟩ λh' tk' k st=>D0 (D0 ⟨_,rfl,hR h' tk' st λb o b1 e=>k b o ?_ b1 (C0 _ e)⟩)
 ·simp only[K0,C3,or_false,not_or]
  exact⟨Z1 Slt,λz=>hlS z.symm⟩
 ·obtain ⟨k1,k2,k3⟩:=hk j hj
  obtain⟨o2,its2,n2,e2,r2⟩:=id k1
  exact⟨keepK k1 λo e=>C0 _ e,k2,λz=>absurd (X0 e2) (by rw[c0.mp z];exact R3 _),k3⟩
 ·intro z
  have:b=hp.objs.size:=by simpa using z
  exact absurd (X0 e) (by rw[this];exact R3 _)
theorem ziz{val:Nat->zaD}
 (hh:A.handled=none) (hu:A.units+8<cLine) (hl:s.heap.IsList l items) (hval:∀(i:Nat) v,items[i]?=some v->v= .ref (adr i)) (hb:∀xs:List (zaD×Addr),(xs.map (·.1)).Nodup->(∀x∈xs,∃j<items.size,val j=x.1/\adr j=x.2)->xs.length<=75) (hk:∀j<items.size,IsTk prog w s.heap (val j) (adr j)/\val j≠ [])
 (h:∀(h':Heap) (tk:Nat),zkf prog w h' s.heap.objs.size (λk a=>∃j<items.size,val j=k/\adr j=a) (λk=>∃j<items.size,val j=k) items.size->(∀b o,s.heap.get? b=some o->h'.get? b=some o)->Q (.ref s.heap.objs.size) {s with heap:=h',toks:=tk}):
 wpAny `i4 A (call (.type "set") [.ref l]) Q E s:=by
 obtain⟨c,tl,hmro⟩:=F.called_set.mro
 have hmade:=F.called_set.made
 have hsub:=F.called_set.sub
 refine wpAny_call (codeAny_of_tree ?_)
 show wpAny _ _ (callAny (.type "set") _) _ _ _
 refine D0 ⟨Code.quiet_builtin _ `n4,Y3 F.entry_type_call ?_⟩
 rw[Around.under_plain (weight_type_call_type "set" [.ref l] []) rfl]
 have h1:=F.called_set.notType
 have h2:=F.called_set.canCreate
 have hct:=F.typeCall_set_1 (.ref l)
 repeat (any_goals (first|assumption|wp_step))
 refine codeAny_mono (zms (.ref l) (E:=E) (Q₁:=λobj s₁=>obj= .ref s.heap.objs.size/\s₁={s with heap:=s.heap.push (zfh w)}) ⟨rfl,rfl⟩) λr s₁ hr=>?_
 cases r with
 |error e=>exact hr
 |ok fl=>
  cases fl with
  |ret obj=>
   obtain⟨rfl,rfl⟩:=hr
   have hS:(s.heap.push (zfh w)).get? s.heap.objs.size=some (zfh w):=Q0 _ rfl
   have hT:Shared.TypeIs {s with heap:=s.heap.push (zfh w)} (.ref s.heap.objs.size) "set":=⟨_,hS,rfl⟩
   have hli:=F.called_set.init.lookup
   have hbi:=F.called_set.init.bind (.ref s.heap.objs.size)
   repeat (any_goals (first|assumption|wp_step))
   refine codeAny_mono (codeAny_call_builtin (R:=wants (λr s₂=>r= .none/\∃h' tk,s₂={s with heap:=h',toks:=tk}/\zkf prog w h' s.heap.objs.size (λk a=>∃j<items.size,val j=k/\adr j=a) (λk=>∃j<items.size,val j=k) items.size/\
    (∀b o,s.heap.get? b=some o->h'.get? b=some o)) E) F.called_set.init.plain F.entry_set_init (check_set_init_1 hT ?_)) λr₂ s₂ hr₂=>?_
   ·obtain ⟨ol,hol,r⟩:=hl
    have llt:l<s.heap.objs.size:=X0 hol
    have go:=zpS (prog:=prog) (w:=w) (A:=A.in1.in1) (E:=E) (s:={s with heap:=s.heap.push (zfh w)}) (val:=val) (adr:=adr) (l:=l) (items:=items)
     (R:=λr s₂=>r= .none/\∃h' tk,s₂={s with heap:=h',toks:=tk}/\zkf prog w h' s.heap.objs.size (λk a=>∃j<items.size,val j=k/\adr j=a) (λk=>∃j<items.size,val j=k) items.size/\(∀b o,s.heap.get? b=some o->h'.get? b=some o))
     (by simp[hh]) (by simp;lia) hS ⟨ol,C0 _ hol,r⟩ (Z1 llt) hval hb (λj hj=>?_) λh' tk st kk=>⟨rfl,h',tk,rfl,st,λb o e=>kk b o (Z1 (X0 e)) (C0 _ e)⟩
    ·refine wpAny_mono go (λfin s' hq=>?_) λ_ _ z=>z
     obtain⟨v,rfl,hq⟩:=hq
     exact hq
    ·obtain ⟨⟨o2,its2,n2,e2,r2⟩,k2⟩:=hk j hj
     exact⟨⟨o2,its2,n2,C0 _ e2,r2⟩,k2,Z1 (X0 e2)⟩
   ·cases r₂ with
    |error e=>exact hr₂
    |ok fl₂=>
     cases fl₂ with
     |ret r=>
      obtain⟨rfl,h',tk,rfl,hS',hk'⟩:=hr₂
      repeat (any_goals (first|assumption|wp_step))
      exact h _ _ hS' hk'
     |_=>exact hr₂.elim
  |_=>exact hr.elim
section
open PySem.W PyProof.V
theorem zmf{vs:List Value}{R:PySem.Fin->Shared->Prop}{lt:Nat->Nat->Bool}(ho:s.heap.get? a=some (seqObj "list" vs.toArray n))(hz:vs.length<64)(hs:Strict vs.length lt)
 (hk:2<=vs.length->∀s1:Shared,Kp a s s1->(∀C:SortKind->Shared->Prop,C κ s1->wpAny `i4 A (keyKind' vs.toArray) C E s1)/\∀i j,i<vs.length->j<vs.length->∀C:Bool->Shared->Prop,C (lt i j) s1->wpAny `i4 A (keyLt' κ (vs.getD i Value.none) (vs.getD j Value.none)) C (λ_ _=>False) s1)
 (q:∀(out:List Value) (h':Heap) (c:Nat),(∃p:Array Nat,PermN vs.length p/\Sor lt p vs.length/\out=p.toList.map λi=>vs.getD i Value.none)->(∀b o,b≠a->s.heap.get? b=some o->h'.get? b=some o)->
   h'.get? a=some (seqObj "list" out.toArray c)->R (.done (.ret .none)) {s with heap:=h'}):wpAny `i4 A (Builtin.«list.sort» ⟨[.ref a],[]⟩) R E s:=by
 refine zhw (G:=λp=>PermN vs.length p/\(Strict vs.length lt->Sor lt p vs.length)) (κ:=κ) ho hz (λh2 s1 k1=>?_) λout h' c hc=>q out h' c ?_
 ·obtain ⟨x1,x2⟩:=hk h2 s1 k1
  refine⟨x1,OkT.wp (N:=vs.length) (lt:=lt) (I:=λs'=>s'=s1) (λi j C s' hi hj e hC=>?_) (λp s' hp e=>⟨e,hp⟩) rfl (sort_any ())⟩
  subst e
  exact x2 i j hi hj _ (hC s' rfl)
 ·rcases hc with⟨hlt,rfl⟩|⟨p,hp,⟨hP,hS⟩,rfl⟩
  ·refine ⟨(List.range out.length).toArray, .refl _,λi j h1 h2=>(),?_⟩
   apply List.ext_getElem?
   intro i
   rcases R1 i out.length with z|z
   ·simp[z]
   ·rw[G0 z,G0 (by simpa using z)]
  ·exact ⟨p,hP,hS hs,rfl⟩
theorem ziZ{r:Addr}{o:Obj}{es:Array (Int×Value)}{xs:List (zaD×Addr)}{R:Value->Shared->Prop}{lt:List (zaD×Addr)->Nat->Nat->Bool}(hh:A.handled=none)(ho:s.heap.get? r=some o)(T:TkRaw prog w o es ep t xs)(hz:xs.length<64)
 (hnd:∀ys:List (zaD×Addr),ys.Perm xs->Strict ys.length (lt ys))
 (hk:∀ys:List (zaD×Addr),ys.Perm xs->2<=ys.length->∀s1:Shared,(∀b o,s.heap.get? b=some o->s1.heap.get? b=some o)->(∀C:SortKind->Shared->Prop,C κ s1->wpAny `i4 A.in1.in1 (keyKind' (ys.map λy=>Value.ref y.2).toArray) C (λ_ _=>False) s1)/\∀i j,i<ys.length->j<ys.length->∀C:Bool->Shared->Prop,C (lt ys i j) s1->wpAny `i4 A.in1.in1 (keyLt' κ ((ys.map λy=>Value.ref y.2).getD i Value.none) ((ys.map λy=>Value.ref y.2).getD j Value.none)) C (λ_ _=>False) s1)
 (q:∀(ys:List (zaD×Addr)) (D:Addr) (out:List Value) (h':Heap) (tk c:Nat) (d:_),ys.Perm xs->(∃p:Array Nat,PermN ys.length p/\Sor (lt ys) p ys.length/\out=p.toList.map λi=>(ys.map λy=>Value.ref y.2).getD i Value.none)->(∀b o,s.heap.get? b=some o->h'.get? b=some o)->
   s.heap.objs.size<=D->h'.get? D=some (seqObj "list" out.toArray c)->R (.ref D) {s with heap:=h',toks:=tk,drawn:=d}):wpAny `i4 A (call (.builtin "sorted") [.ref r]) R E s:=by
 refine Calls.call_function_entry kind_sorted plain_sorted entry_sorted (args_sorted1 _) ?_
 unfold Builtin.«sorted»
 refine A0 (m:=checkCount "sorted" 1 1 _) (D0 (A0 (zkR (A:=A.in1) hh ho T () λh1 tk d ys py kp gr0=>?_)))
 have ly:(ys.map λy=>Value.ref y.2).length=ys.length:=B0 ..
 have lx:ys.length<64:=by rw[py.length_eq];exact hz
 generalize hks:(ys.map λy=>Value.ref y.2)=ks at ly
 refine A0 (wpAny_newList ?_ (by rw[sizeLine_eq];lia))
 have hD:(h1.push (seqObj "list" ks.toArray 0)).get? h1.objs.size=some (seqObj "list" ks.toArray 0):=Q0 _ rfl
 have k2:∀b o,s.heap.get? b=some o->(h1.push (seqObj "list" ks.toArray 0)).get? b=some o:=λb o e=>C0 _ (kp b o e)
 have gr:s.heap.objs.size<=h1.objs.size:=Z2 gr0
 show wpAny _ _ _ _ _ {s with heap:=h1.push (seqObj "list" ks.toArray 0),toks:=tk,drawn:=d}
 have n2:=hnd ys py
 refine A0 (K3 (Q2 slot_list_sort ⟨_,hD,rfl⟩ entry_list_sort (zmf (lt:=lt ys) (κ:=κ) (s:={s with heap:=h1.push (seqObj "list" ks.toArray 0),toks:=tk,drawn:=d}) hD () (by rw[ly];exact n2) (λh2 s1 k1=>?_) λout h' c hc hkp hg=>?_) (args_list_sort _)))
 ·obtain ⟨x1,x2⟩:=hk ys py () s1 λb o e=>k1.2 b o (Z1 (E2 (X0 e) gr)) (k2 b o e)
  rw[hks] at x1 x2
  exact⟨λC hC=>wpAny_mono (x1 C hC) (λ_ _ z=>z) λ_ _ z=>z.elim,λi j hi hj=>x2 i j () ()⟩
 ·rw[ly] at hc
  refine⟨_,rfl,D0 ⟨_,rfl,q ys h1.objs.size out h' tk c d py (by rw[hks];exact hc) (λb o e=>hkp b o (Z1 (E2 (X0 e) gr)) (k2 b o e)) gr hg⟩⟩
theorem Inv.dr{σ:List (Option V)}(I:Inv X pins σ H s)(d:_):Inv X pins σ H {s with drawn:=d}:=⟨I.ok,I.os,I.bare,I.base,I.loc,I.cell,I.free,I.freeC,I.pin,I.hok,I.len⟩
noncomputable def StT(P:Program)(w:World)(a:Addr)(xs:List (zaD×Addr)):HO:= .ext λh=>∃o es ep t,h.get? a=some o/\TkRaw P w o es ep t xs
theorem zn4{σ:List (Option V)}(I:Inv X pins σ H s){b:Addr}{k:zaD}(h:H b=some (.tup (k.map V.str))):IsTk X.prog X.w s.heap k b:=by
 obtain⟨_,its,rj,⟨o',g',c',n',d'⟩,_⟩:=(show ObjOk X.prog X.w H s.heap b (.tup (k.map V.str))from I.hok b _ h)
 have it:∀{k:List Str} {its:List Value},Vals (k.map V.str) its->PySem.ItemsAre (PySem.strKind X.prog X.w) k its:=by
  intro k
  induction k with
  |nil=>intro its r;cases r;exact .nil
  |cons x k ih=>intro its r;cases r with
   |cons a r=>obtain ⟨t,rfl⟩:=a;exact .cons (strKind_is _ _ _ _) (ih r)
 exact⟨o',_,n',g',c',d',by simpa using it rj⟩
theorem zmx(hc:X.calm=true)(hu:X.A.units+8<cLine):CallR X (.type "set") (λxs H Q=>∃(l:Addr) (vs:List V) (ps:List (List Str)),xs=[.ref l]/\H l=some (.lst vs)/\zbU H vs ps/\(∀q∈ps,0<q.length)/\(∃L:List (List Str),L.length<=75/\∀q∈ps,q∈L)/\
 ∀(ys:List (zaD×Addr)) p,H p=none->(ys.map (·.1)).Nodup->(∀k,k∈ys.map (·.1)↔k∈ps)->(∀y∈ys,H y.2=some (.tup (y.1.map V.str)))->ys.length<=ps.length->Q (.ref p) (upd H p (StT X.prog X.w p ys))):=by
 intro pins s σ H xs us Q I r h
 obtain⟨l,vs,ps,rfl,hH,ht,hp0,⟨L,h75,hL⟩,q⟩:=h
 obtain⟨u,rfl,ru⟩:=zb7 r
 cases ru
 obtain⟨z,its,n,rv,ho⟩:=I.hok l _ hH
 have hl:=rv.length
 have hlp:its.length=ps.length:=by rw[←hl];exact ht.1
 have key:∀(i:Nat),i<its.length->∃b,its[i]?=some (.ref b)/\H b=some (.tup ((ps.getD i []).map V.str)):=λi hi=>by
  have hi':i<vs.length:=()
  have hi2:i<ps.length:=()
  obtain⟨b,e3,hb⟩:=ht.2 i vs[i] ps[i] (by simp[hi']) (by simp[hi2])
  obtain⟨u',hu',ru'⟩:=rv.get (i:=i) (x:=vs[i]) (by simp[hi'])
  rw[e3] at ru'
  cases ru'
  exact⟨b,hu',by simpa[hi2] using hb⟩
 let adr:Nat->Addr:=λi=>match its[i]? with|some (.ref b)=>b|_=>0
 have hadr:∀i,i<its.length->its[i]?=some (.ref (adr i))/\H (adr i)=some (.tup ((ps.getD i []).map V.str)):=λi hi=>by
  obtain⟨b,e,hb⟩:=key i hi
  have:adr i=b:=by show(match its[i]? with|some (.ref b)=>b|_=>0)=b;rw[e]
  rw[this];exact⟨e,hb⟩
 have el:its.toArray.size=its.length:=`n3
 refine ziz (val:=λi=>ps.getD i []) (adr:=adr) (I.ok.hd hc) hu ⟨_,ho,rfl,n,rfl⟩ ?_ (λxs nd hx=>?_) ?_ λh' tk st kk=>?_
 ·intro k x ex
  rw[List.getElem?_toArray] at ex
  have hk:k<its.length:=(List.getElem?_eq_some_iff.mp ex).1
  have:=(hadr k hk).1
  rw[ex] at this
  exact U1 this
 ·have:=nodup_len (m:=L) nd λk hk=>by
   obtain⟨x,hx',rfl⟩:=G1.mp hk
   obtain⟨j,hj,e,_⟩:=hx x hx'
   rw[el] at hj
   have hj2:j<ps.length:=()
   rw[←e]
   exact hL _ (by simp[hj2])
  rw[B0] at this
  lia
 ·intro j hj
  rw[el] at hj
  refine⟨zn4 I (hadr j hj).2,λz=>?_⟩
  have hj2:j<ps.length:=()
  have:=hp0 (ps.getD j []) (by simp[hj2])
  rw[z] at this;exact absurd this `n3
 ·rw[el] at st
  obtain⟨o,es,ep,t,ys,go,T,lx,h1,h2⟩:=st
  have hmem:∀j,j<its.length->ps.getD j []∈ps:=λj hj=>by
   have hj2:j<ps.length:=()
   simp[hj2]
  refine⟨.ref s.heap.objs.size,_,I.laid (a:=s.heap.objs.size) (o:=StT X.prog X.w s.heap.objs.size ys) (t':=tk) kk (O0 _) ⟨⟨o,es,ep,t,go,T.raw⟩,⟨o,go⟩,?_⟩,rfl,q ys _ (I.hok.fresh (O0 _)) T.nd (λk=>⟨λhk=>?_,λhk=>?_⟩) (λy hy=>?_) ()⟩
  ·rintro g1 g2 ⟨o,es,ep,t,e,r⟩ k
   exact⟨o,es,ep,t,k o e,r⟩
  ·obtain ⟨y,hy,rfl⟩:=G1.mp hk
   obtain⟨j,hj,e1,e2⟩:=h1 y hy
   rw[←e1];exact hmem j hj
  ·obtain ⟨j,hj⟩:=List.mem_iff_getElem?.mp hk
   have hj2:=(List.getElem?_eq_some_iff.mp hj).1
   exact h2 k ⟨j,(),by rw[List.getD_eq_getElem?_getD,hj];rfl⟩
  ·obtain ⟨j,hj,e1,e2⟩:=h1 y hy
   rw[←e1,←e2];exact(hadr j hj).2
theorem zeu(hc:X.calm=true):CallR X (.builtin "sorted") (λxs H Q=>∃(p:Addr) (ys:List (zaD×Addr)),xs=[.ref p]/\H p=some (StT X.prog X.w p ys)/\(∀y∈ys,H y.2=some (.tup (y.1.map V.str))/\0<y.1.length)/\ys.length<64/\
 ∀(ps':List (List Str)) (vs':List V) l,ps'.Perm (ys.map (·.1))->ps'.Pairwise (λa b=>ltL a b=true)->zbU H vs' ps'->H l=none->Q (.ref l) (upd H l (.lst vs'))):=by
 intro pins s σ H xs us Q I r h
 obtain⟨p,ys0,rfl,hH,hy0,h9,q⟩:=h
 obtain⟨u,rfl,ru⟩:=zb7 r
 cases ru
 obtain⟨⟨o,es,ep,t,go,T⟩,_⟩:=I.hok p _ hH
 have keyT:∀y∈ys0,TupL s.heap (.ref y.2) y.1:=λy hy=>by
  obtain⟨_,jts,rj,⟨o',g',c',n',d'⟩,_⟩:=(show ObjOk X.prog X.w H s.heap y.2 (.tup (y.1.map V.str))from I.hok y.2 _ (hy0 y hy).1)
  exact⟨y.2,o',n',_,rfl,g',c',d',by simpa using rj⟩
 refine ziZ (A:=X.A) (lt:=λys i j=>ltL (lAt (ys.map (·.1)) i) (lAt (ys.map (·.1)) j)) (κ:=tuples' true) (I.ok.hd hc) go T () (λys py=>?_) (λys py h2 s1 k1=>?_) (λys D out h' tk c d py ho' kp hD gD=>?_)
 ·have:=zjT (ps:=ys.map (·.1)) ((py.map _).nodup_iff.mpr T.nd)
  rw[B0] at this
  exact this
 ·have keyT1:∀(i:Nat) (u:Value) (q:List Str),(ys.map λy=>Value.ref y.2)[i]?=some u->(ys.map (·.1))[i]?=some q->TupL s1.heap u q:=λi u q e1 e2=>by
   rw[V0] at e1 e2
   cases e:ys[i]? with
   |none=>rw[e] at e1;cases e1
   |some y=>
    rw[e] at e1 e2
    cases e1;cases e2
    exact(keyT y (py.mem_iff.mp (U0 e))).keeps k1
  obtain⟨fs,ft,fl,fa⟩:=zi7 (us:=ys.map λy=>Value.ref y.2) (ps:=ys.map (·.1)) `n3 (λq hq=>by
   obtain⟨y,hy,rfl⟩:=G1.mp hq
   exact(hy0 y (py.mem_iff.mp hy)).2) keyT1
  refine⟨λC hC=>kat_kind (T:= .type "str") ft (by rw[fl,B0];lia) (λf hf=>?_) rfl hC,λi j hi hj C hC=>?_⟩
  ·obtain ⟨x,t,rfl⟩:=fa f hf
   exact Looks.of_pure rfl
  ·have gi:∀i,i<ys.length->TupL s1.heap ((ys.map λy=>Value.ref y.2).getD i Value.none) (lAt (ys.map (·.1)) i):=λi hi=>by
    refine keyT1 i _ _ ?_ ?_
    ·simp[hi]
    ·unfold lAt;simp[hi]
   exact zny (gi i hi) (gi j hj) hC
 ·have nD:H D=none:=I.hok.fresh hD
  have ly:ys.length=ys0.length:=py.length_eq
  obtain⟨ps',hperm,hpw,hlen,hout⟩:∃ps':List (List Str),ps'.Perm (ys.map (·.1))/\ps'.Pairwise (λa b=>ltL a b=true)/\out.length=ps'.length/\∀(i:Nat) (u:Value) (q:List Str),out[i]?=some u->ps'[i]?=some q->∃b,u= .ref b/\H b=some (.tup (q.map V.str)):=by
   obtain⟨p,hP,hS,rfl⟩:=ho'
   refine⟨p.toList.map (lAt (ys.map (·.1))),?_,?_,`n3,λi u q e1 e2=>?_⟩
   ·have h1:=hP.map (lAt (ys.map (·.1)))
    have h2:=zp6 (ps:=ys.map (·.1))
    rw[B0] at h2
    rwa[h2] at h1
   ·have hz:=hP.size
    rw[List.pairwise_iff_getElem]
    intro i j hi hj hij
    have hi':i<p.size:=by simpa using hi
    have hj':j<p.size:=by simpa using hj
    have h:=hS i j hij ()
    rw[gd_get hi',gd_get hj'] at h
    simpa using h
   ·rw[V0] at e1 e2
    cases e3:p.toList[i]? with
    |none=>rw[e3] at e1;cases e1
    |some j=>
     rw[e3] at e1 e2
     have hj:j<ys.length:=by
      have:j∈p.toList:=U0 e3
      have:=(hP.mem_iff (a:=j)).mp this
      simpa using this
     have e1:=(U1 e1).symm
     have e2:=(U1 e2).symm
     have hy:=(hy0 ys[j] (py.mem_iff.mp (List.getElem_mem hj))).1
     refine⟨ys[j].2,?_,?_⟩
     ·rw[e1];simp[hj]
     ·rw[e2];unfold lAt;simpa[hj] using hy
  let vs':List V:=out.map λu=>match u with| .ref b=>V.ref b|_=>V.non
  have hv:∀(i:Nat) (q:List Str),ps'[i]?=some q->∃b,out[i]?=some (.ref b)/\vs'[i]?=some (.ref b)/\H b=some (.tup (q.map V.str)):=λi q e=>by
   have hi:i<out.length:=by
    rcases R1 i ps'.length with z|z
    ·lia
    ·rw[G0 z] at e;cases e
   obtain⟨b,e1,hb⟩:=hout i out[i] q (by simp[hi]) e
   exact⟨b,by rw[F0 hi,e1],by show(out.map _)[i]?=_;rw[V0,F0 hi,e1];rfl,hb⟩
  have hlv:vs'.length=out.length:=by show(out.map _).length=_;rw[B0]
  have hpl:ps'.length<64:=by rw[hperm.length_eq,B0];lia
  have T':zbU H vs' ps':=⟨(),λi v q e1 e2=>by
   obtain⟨b,_,e3,hb⟩:=hv i q e2
   rw[e1] at e3;cases e3
   exact⟨b,rfl,hb⟩⟩
  refine⟨.ref D,_,(I.laid (a:=D) (o:= .lst vs') (t':=tk) kp hD ⟨?_,out,c,?_,gD⟩).dr d,rfl,q ps' vs' D (hperm.trans (py.map _)) hpw T' nD⟩
  ·rw[hlv,hlen];exact Z2 (zl ())
  ·refine zkv hlv λi v u e1 e2=>?_
   have hi:i<ps'.length:=by
    rcases R1 i ps'.length with z|z
    ·exact z
    ·rw[G0 ()] at e2;cases e2
   obtain⟨b,e3,e4,_⟩:=hv i ps'[i] (by simp[hi])
   rw[e3] at e2;cases e2
   rw[e4] at e1;cases e1
   rfl
theorem zmy(h:Q₁ (.ref s.heap.objs.size) {s with heap:=s.heap.push (zfh w)}):codeAny `i4 A (.call (.builtin "set.__new__") ⟨[.type "set"],[]⟩) (wants Q₁ E) s:=by
 refine codeAny_of_tree ?_
 show wpAny _ A.in1 (checkBuiltinCall "set.__new__" ⟨[.type "set"],[]⟩>>=λ_=>again (.builtin "set.__new__" ⟨[.type "set"],[]⟩)) _ _ s
 refine A0 (wpAny_of_eq F.newCall_set_0 (D0 ⟨plainId_quiet F.plain_set_new _,Y3 F.entry_set_new ?_⟩))
 rw[L3 F.plain_set_new _]
 unfold Builtin.«set.__new__» Builtin.Frozenset.newClass
 have hsub:=sub_set_self
 obtain⟨hp,g,d,tk,os⟩:=s
 dsimp only
 wp_walk
 refine wpAny_askSetting (D0 ?_)
 dsimp only
 simp only[newObj]
 refine A0 (wpAny_alloc (D0 ?_))
 exact D0 h
theorem zmO(h:Q (.ref s.heap.objs.size) {s with heap:=s.heap.push (zfh w)}):wpAny `i4 A (call (.type "set") []) Q E s:=by
 obtain⟨c,tl,hmro⟩:=F.called_set.mro
 have hmade:=F.called_set.made
 have hsub:=F.called_set.sub
 refine wpAny_call (codeAny_of_tree ?_)
 show wpAny _ _ (callAny (.type "set") _) _ _ _
 refine D0 ⟨Code.quiet_builtin _ `n4,Y3 F.entry_type_call ?_⟩
 rw[Around.under_plain (weight_type_call_type "set" [] []) rfl]
 have h1:=F.called_set.notType
 have h2:=F.called_set.canCreate
 have hct:=F.typeCall_set_0
 repeat (any_goals (first|assumption|wp_step))
 refine codeAny_mono (zmy (E:=E) (Q₁:=λobj s₁=>obj= .ref s.heap.objs.size/\s₁={s with heap:=s.heap.push (zfh w)}) ⟨rfl,rfl⟩) λr s₁ hr=>?_
 cases r with
 |error e=>exact hr
 |ok fl=>
  cases fl with
  |ret obj=>
   obtain⟨rfl,rfl⟩:=hr
   have hS:(s.heap.push (zfh w)).get? s.heap.objs.size=some (zfh w):=Q0 _ rfl
   have hT:Shared.TypeIs {s with heap:=s.heap.push (zfh w)} (.ref s.heap.objs.size) "set":=⟨_,hS,rfl⟩
   have hli:=F.called_set.init.lookup
   have hbi:=F.called_set.init.bind (.ref s.heap.objs.size)
   repeat (any_goals (first|assumption|wp_step))
   refine codeAny_mono (codeAny_call_builtin (R:=wants (λr s₂=>r= .none/\Q (.ref s.heap.objs.size) s₂) E) F.called_set.init.plain F.entry_set_init (check_set_init hT ?_)) λr₂ s₂ hr₂=>?_
   ·unfold Builtin.«set.__init__» noKeywords
    wp_walk
    exact⟨rfl,h⟩
   ·cases r₂ with
    |error e=>exact hr₂
    |ok fl₂=>
     cases fl₂ with
     |ret r=>
      obtain⟨rfl,hq⟩:=hr₂
      repeat (any_goals (first|assumption|wp_step))
     |_=>exact hr₂.elim
  |_=>exact hr.elim
theorem zm3{b:Addr}{o:Obj}{es:Array (Int×Value)}{xs:List (zaD×Addr)}{k:zaD}(hu:A.units+4<cLine)(ho:s.heap.get? p=some o)(T:TkSet prog w s.heap o es ep t xs)(x:IsTk prog w s.heap k b)(h0:k≠ [])(hfew:xs.length<76)
 (qO:k∈xs.map (·.1)->∀tk,Q .none {s with toks:=tk})
 (qN:k∉xs.map (·.1)->∀h' o' es' ep' t' xs',Heap.SameBut p s.heap h'->h'.get? p=some o'->TkSet prog w h' o' es' ep' t' xs'->xs'.Perm ((k,b)::xs)->∀tk,Q .none {s with heap:=h',toks:=tk}):
 wpAny `i4 A (call (.builtin "set.add") [.ref p, .ref b]) Q E s:=by
 have ty:s.TypeIs (.ref p) "set":=⟨o,ho,T.ex.1⟩
 have hu1:A.in1.units<cLine:=by show A.units+1<cLine;lia
 refine Q2 F.slot_set_add ty F.entry_set_add ?_ (F.args_set_add_2 _ _)
 unfold Builtin.«set.add» Builtin.Frozenset.oneOther
 simp only[List.isEmpty_nil,bind_assoc]
 unfold Builtin.Frozenset.addrOf setAdd
 refine A0 (D0 ?_)
 try dsimp only
 refine A0 (D0 ?_)
 try dsimp only
 refine A0 (K3 (A0 ((tupleKind (PySem.strKind prog w)).pyHash (k:=k) hu1 x ?_)))
 refine znw (s:={s with toks:=s.toks+(tupleKind (PySem.strKind prog w)).draws k}) ho T hu1 x h0 hfew (λhk=>?_) (λhk h' o' es' ep' t' xs' sb g' T' pm=>?_)
 ·show wpAny _ _ (ret Value.none) _ _ _
  exact D0 ⟨_,rfl,qO hk _⟩
 ·show wpAny _ _ (ret Value.none) _ _ _
  exact D0 ⟨_,rfl,qN hk h' o' es' ep' t' xs' sb g' T' pm _⟩
theorem TkRaw.set{o:Obj}{es:Array (Int×Value)}{xs:List (zaD×Addr)}(T:TkRaw prog w o es ep t xs)(is:∀x∈xs,IsTk prog w h x.1 x.2/\x.1≠ []):TkSet prog w h o es ep t xs:=⟨T.ex,T.dat,T.ents,T.lay,T.few,T.led,T.plain,T.nd,is⟩
theorem zmo:CallR X (.type "set") (λxs H Q=>xs=[]/\∀p,H p=none->Q (.ref p) (upd H p (StT X.prog X.w p []))):=by
 intro pins s σ H xs us Q I r h
 obtain⟨rfl,q⟩:=h
 cases r
 refine zmO ⟨.ref s.heap.objs.size,_,I.laid (a:=s.heap.objs.size) (o:=StT X.prog X.w s.heap.objs.size []) (t':=s.toks) (λb o e=>C0 _ e) (O0 _) ⟨⟨_,_,_,_,Q0 _ rfl,(ziJ (prog:=X.prog) (h:=s.heap) rfl).raw⟩,⟨_,Q0 _ rfl⟩,?_⟩,rfl,q _ (I.hok.fresh (O0 _))⟩
 rintro g1 g2 ⟨o,es,ep,t,e,r⟩ k
 exact⟨o,es,ep,t,k o e,r⟩
theorem zmj{r:List V->Hp->VK->Prop}(hc:CallR X (.type T) r)(hm:X.mg x=none)(hv:bootBuiltins x=some (.type T))(hg:autoParam (Gl X x) u4)(hn:autoParam (x≠"__name__") u5)(hdb:autoParam ((x==("__debug__":Str))=false) u5):QE X (.Call (.Name x pos) [] [] cpos) (tCB r zhX):=⟨zki hc hg hm hv hn hdb⟩
def zs7(P:Program)(w:World)(r:V->List V->Hp->VK->Prop)(to:TE)(t:TA):TE:=λσ H Q=>to σ H λx H1=>(∃p ys,x= .ref p/\H1 p=some (StT P w p ys))/\t σ H1 λxs H2=>r x xs H2 Q
theorem zqL{o:Expr}{to:TE}{t:TA}{id:String}{r:V->List V->Hp->VK->Prop}(slot:Slot "set" name id)(hty:typeOf (.builtin id)=pure (.type "method_descriptor"))(hm:MtR X id r)(ho:QE X o to)(ha:QA X (e::es) t)
 (hbase:autoParam (attributeBase o name X.env (eval o X.env)=eval o X.env) u4)
 (hfew:autoParam (((backTo cpos (starEach (e::es) X.env)).all (λx=>!x.1)&&(backToKw cpos (keywordEach [] X.env)).all (λx=>x.1.isSome)
   &&decide ((e::es).length+([]:List Keyword).length+(if([]:List Keyword).isEmpty then 0 else 1)<30))=true) u4)
 (hline:autoParam ((apos.endLine==cpos.line)=true) u4) (hs:autoParam (starEach (e::es) X.env=(false,eval e X.env)::starEach es X.env) u4) (hplain:autoParam ((backTo cpos (starEach es X.env)).any (·.1)=false) u4):
 QE X (.Call (.Attribute o name apos) (e::es) [] cpos) (zs7 X.prog X.w r to t):=by
 refine⟨?_⟩
 intro pins s σ H Q I h
 refine wpAny_Call_method_late hbase hfew hline rfl (thn (ho.o pins s σ H _ I h) λv s1 zq=>?_)
 obtain⟨x,H1,I1,r1,⟨p,ys,ex,hp⟩,q1⟩:=zq
 subst ex
 cases r1
 obtain⟨⟨ob,es',ep,tb,go,T⟩,_⟩:=I1.hok p _ hp
 refine⟨"set",id,F.plainAttrs_set,slot,hty,⟨ob,go,T.ex.1⟩,λa e=>?_,?_⟩
 ·cases e;exact⟨ob,go,T.ex.2.1⟩
 have hA:=ha.o cpos pins s1 σ H1 _ I1 q1
 rw[hs] at hA⊢
 refine Calls.callWith_builtin (by show(false||(backTo cpos (starEach es X.env)).any (·.1))=false;rw[hplain]<;>rfl) (Calls.evalArgs_plain ?_)
 refine thn hA λus s2 zq=>?_
 obtain⟨vs,H2,I2,r2,q2⟩:=zq
 exact hm pins s2 σ H2 (.ref p) vs (.ref p) us Q I2 rfl r2 q2
def zqO(P:Program)(w:World)(x:V)(vs:List V)(H:Hp)(Q:VK):Prop:=∃(p b:Addr) (ys:List (zaD×Addr)) (k:zaD),x= .ref p/\vs=[.ref b]/\H p=some (StT P w p ys)/\H b=some (.tup (k.map V.str))/\k≠ []/\(∀y∈ys,H y.2=some (.tup (y.1.map V.str))/\y.1≠ [])/\ys.length<76/\
 (k∈ys.map (·.1)->Q .non H)/\(k∉ys.map (·.1)->∀ys':List (zaD×Addr),ys'.Perm ((k,b)::ys)->Q .non (upd H p (StT P w p ys')))
theorem zn6(hu:X.A.units+8<cLine):MtR X "set.add" (zqO X.prog X.w):=by
 intro pins s σ H x vs v us Q I rx rv h
 obtain⟨p,b,ys,k,rfl,rfl,hH,hb,h0,hy,h76,qO,qN⟩:=h
 cases rx
 obtain⟨u,rfl,ru⟩:=rv.one
 cases ru
 obtain⟨⟨o,es,ep,t,go,T⟩,hex,hst⟩:=I.hok p _ hH
 refine zm3 () go (T.set λy hy'=>⟨zn4 I (hy y hy').1,(hy y hy').2⟩) (zn4 I hb) h0 h76 (λhk tk=>⟨.non,H,I.tok _,rfl,qO hk⟩) (λhk h' o' es' ep' t' xs' sb g' T' pm tk=>?_)
 refine⟨.non,_,I.write (x:=p) (e:=p) (o:=StT X.prog X.w p xs') (t':=tk) (by rw[hH];trivial) (.inl rfl) (λc u' hc e=>by rw[sb.2 c hc];exact e) ⟨o',g'⟩ ⟨⟨o',es',ep',t',g',T'.raw⟩,⟨o',g'⟩,?_⟩,rfl,qN hk xs' pm⟩
 rintro g1 g2 ⟨o,es,ep,t,e,r⟩ k
 exact⟨o,es,ep,t,k o e,r⟩
theorem hu8(h:n+64<cLine):n+8<cLine:=()
section
variable{K:Type}[DecidableEq K]{knd:HeapKind prog w K}{d:Addr}{xs:List (K×Addr×Value)}{k:K}{v:Value}
theorem zjg(hu:knd.room A)(hkey:knd.is s.heap k a)(hm:s.heap.DictOfH knd d xs)(hsz:xs.length<=1000)
 (qS:∀b r,atKey xs k=some (b,r)->Q r {s with toks:=s.toks+knd.draws k})
 (qN:atKey xs k=none->∀h',h'.DictOfH knd d (storedH xs k a v)->Heap.SameBut d s.heap h'->Q v {s with heap:=h',toks:=s.toks+knd.draws k}):
 wpAny `i4 A (dictSetDefault d (.ref a) v) Q E s:=by
 obtain⟨o,es,ep,ho,hc,hd,he,his,hn⟩:=hm
 unfold dictSetDefault
 refine K3 (A0 (knd.pyHash hu hkey ?_))
 refine A0 (wpAny_dictFind_heap (s:={s with toks:=s.toks+knd.draws k}) hu hkey ho hd he his hn ?_ ?_)
 ·intro hno
  have hnot:k∉xs.map (·.1):=not_mem_keys_of_get hno
  have hz:es.size<sizeLine:=by have e:=size_of_entries he;rw[e,sizeLine_eq];lia
  refine A0 (wpAny_rule (A0 (wpAny_updateDictKeys (hz:=Z2 hz) (s:={s with toks:=s.toks+knd.draws k}) ho hd (D0 (qN (atKey_none_of_get hno) _ ⟨_,_,ep+1,Heap.get?_update_self _ ho (Obj.isFreed_of_dict (Obj.data_mapDictKeys hd _)),hc.mapDictKeys _,Obj.data_mapDictKeys hd _,?_,?_,?_⟩ (W2 ..))))))
  ·rw[storedH_new (atKey_none_of_get hno)]
   simp[he,entryOfKey]
  ·rw[storedH_new (atKey_none_of_get hno)]
   intro x hx
   rcases X1.mp hx with hx|hx
   ·exact knd.keeps (his x hx) ho hd (W2 ..)
   ·rw[c0.mp hx];exact knd.keeps hkey ho hd (W2 ..)
  ·rw[storedH_new (atKey_none_of_get hno),J2,List.nodup_append]
   refine⟨hn,`n3,λx hx y hy e=>?_⟩
   simp only[Y1,List.map_nil,c0] at hy
   exact hnot (hy▸e▸hx)
 ·intro j p hj
  refine A0 (wpAny_dictEntries (s:={s with toks:=s.toks+knd.draws k}) ho hd ?_)
  rw[entry_at he j,hj]
  exact A0 (wpAny_rule (D0 (qS p.1 p.2 (atKey_of_get hn hj))))
end
def zpv(x:V)(vs:List V)(H:Hp)(Q:VK):Prop:=∃(a b:Addr) (kvs:List (List Key×V)) (k:List Key) (v:V),x= .ref a/\vs=[.ref b,v]/\H a=some (.dT kvs)/\H b=some (.tup (k.map kV))/\kvs.length<1000/\
 (∀u,zbs kvs k=some u->Q u H)/\(zbs kvs k=none->Q v (upd H a (.dT (zcN kvs k v))))
theorem zmI(hu:X.A.units+8<cLine):MtR X "dict.setdefault" zpv:=by
 intro pins s σ H x vs v us Q I rx rv h
 obtain⟨a,b,kvs,k,y,rfl,rfl,hH,hb,hl,qS,qN⟩:=h
 cases rx
 obtain⟨u1,u2,rfl,r1,r2⟩:=rv.two
 cases(show u1=Value.ref b from r1)
 obtain⟨z,hd,xs,rel,dd⟩:=zqM I.hok hH
 have hz:xs.length<=1000:=by rw[←Paired.length rel];lia
 refine Q2 F.slot_dict_setdefault dd.typeIs F.entry_dict_setdefault ?_ (F.args_dict_setdefault_3 _ _ _)
 unfold Builtin.«dict.setdefault» Builtin.Dict.keyAndDefault
 refine A0 (A0 (wpAny_notOrdered_dict dd.typeIs ?_))
 show wpAny _ _ (pure (a,Value.ref b,some u2)) _ _ s
 refine D0 ?_
 show wpAny _ _ (if(a==sysModules)=true then _ else(dictSetDefault a (.ref b) u2>>=_)) _ _ s
 rw[Y0 (by rw[hd];exact A2)]
 refine A0 (zjg (tupleKind_room_in1 ()) (zkC I.hok hb) dd hz (λc r e=>?_) (λe h' dd' hs=>?_))
 ·have rr:=rel.val k
  rw[e] at rr
  obtain⟨u,eu,ru⟩:∃u,zbs kvs k=some u/\RelV u r:=by
   cases eu:zbs kvs k with
   |none=>rw[eu] at rr;exact rr.elim
   |some u=>rw[eu] at rr;exact⟨u,rfl,rr⟩
  exact D0 ⟨_,rfl,u,H,I.tok _,ru,qS u eu⟩
 ·have en:zbs kvs k=none:=by
   have rr:=rel.val k
   rw[e] at rr
   cases eu:zbs kvs k with
   |none=>rfl
   |some u=>rw[eu] at rr;exact rr.elim
  have hl2:(zcN kvs k y).length<=sizeLine:=by have:=zc4 kvs k y;rw[sizeLine_eq];lia
  obtain⟨q',es,ep,hq,h2,h3,h4,_,h5⟩:=dd'
  refine D0 ⟨_,rfl,y,_,zio (ob:= .dT (zcN kvs k y)) I (by rw[hH];exact True.intro) hs ⟨q',hq⟩ ⟨hl2,hd,_,(rel.put k hb r2).keeps λc ys ec=>?_,q',es,ep,hq,h2,h3,h4,h5⟩,r2,qN en⟩
  rw[zj (zqC ec hH (λz=>nomatch z))]
  exact ec
end
noncomputable def kyP(p:Pp):List Key:=[.inr p.one, .inr p.to, .inl p.nr]
theorem zpj{p q:Pp}(h:kyP p=kyP q):p.one=q.one:=by
 unfold kyP at h
 injection h with h
 injection h
noncomputable def zbo(L:List (Pp×List Pp)):List Pp:=L.flatMap λz=>z.1::z.2
def zbx(R:Pp->List Pp->Bool)(L:List (Pp×List Pp))(k:List Str):Prop:=∃z∈L,R z.1 z.2=false/\k=[z.1.one,"false"]
def TwinK(S:List Pp)(k:List Str):Prop:=∃p∈S,∃q∈S,kyP p=kyP q/\p≠q/\k=[p.one,"twin"]
theorem TwinK.sub{S S':List Pp}(h:∀p∈S,p∈S'){k:List Str}(t:TwinK S k):TwinK S' k:=by
 obtain⟨p,hp,q,hq,r⟩:=t
 exact⟨p,h p hp,q,h q hq,r⟩
theorem TwinK.snocO{S:List Pp}{p:Pp}{k:List Str}(h:p∈S):TwinK (S ++ [p]) k↔TwinK S k:=
 ⟨.sub λq hq=>(X1.mp hq).elim id λz=>by rw[c0.mp z];exact h, .sub λq hq=>List.mem_append_left _ hq⟩
theorem TwinK.snocN{S:List Pp}{p:Pp}{k:List Str}(h:∀q∈S,kyP q≠kyP p):TwinK (S ++ [p]) k↔TwinK S k:=by
 refine⟨λt=>?_, .sub λq hq=>List.mem_append_left _ hq⟩
 obtain⟨a,ha,b,hb,e,n,rfl⟩:=t
 rcases X1.mp ha with ha|ha
 ·rcases X1.mp hb with hb|hb
  ·exact ⟨a,ha,b,hb,e,n,rfl⟩
  ·rw[c0.mp hb] at e
   exact absurd e (h a ha)
 ·rcases X1.mp hb with hb|hb
  ·rw[c0.mp ha] at e
   exact absurd e.symm (h b hb)
  ·exact absurd ((c0.mp ha).trans (c0.mp hb).symm) n
theorem TwinK.snocT{S:List Pp}{p p0:Pp}{k:List Str}(h:p0∈S)(hk:kyP p0=kyP p)(hn:p0≠p):TwinK (S ++ [p]) k↔TwinK S k\/k=[p.one,"twin"]:=by
 refine⟨λt=>?_,λt=>?_⟩
 ·obtain ⟨a,ha,b,hb,e,n,rfl⟩:=t
  rcases X1.mp ha with ha|ha
  ·rcases X1.mp hb with hb|hb
   ·exact .inl ⟨a,ha,b,hb,e,n,rfl⟩
   ·rw[c0.mp hb] at e
    exact .inr (by rw[zpj e])
  ·rw[c0.mp ha];exact .inr rfl
 ·rcases t with t|rfl
  ·exact t.sub λq hq=>List.mem_append_left _ hq
  ·exact ⟨p,O2 _ Z0,p0,List.mem_append_left _ h,hk.symm,hn.symm,rfl⟩
theorem TwinK.snocI{S:List Pp}{p:Pp}{k:List Str}:TwinK (S ++ [p]) k↔TwinK S k\/((∃q∈S,kyP q=kyP p/\q≠p)/\k=[p.one,"twin"]):=by
 by_cases h:∃q∈S,kyP q=kyP p/\q≠p
 ·obtain ⟨q,hq,hk,hn⟩:=id h
  rw[TwinK.snocT hq hk hn]
  exact⟨λz=>z.imp id λz=>⟨h,z⟩,λz=>z.imp id And.right⟩
 ·refine ⟨λt=> .inl ?_,λz=>z.elim (.sub λq hq=>List.mem_append_left _ hq) λz=>absurd z.1 h⟩
  obtain⟨a,ha,b,hb,e,n,rfl⟩:=t
  rcases X1.mp ha with ha|ha
  ·rcases X1.mp hb with hb|hb
   ·exact ⟨a,ha,b,hb,e,n,rfl⟩
   ·rw[c0.mp hb] at e n
    exact absurd ⟨a,ha,e,n⟩ h
  ·rcases X1.mp hb with hb|hb
   ·rw[c0.mp ha] at e n
    exact absurd ⟨b,hb,e.symm,n.symm⟩ h
   ·exact absurd ((c0.mp ha).trans (c0.mp hb).symm) n
theorem zpG:∀{a b:Option (List Str)},(pyD (wyD a)).eqv (pyD (wyD b))=decide (a=b)
 |none,none=>by unfold wyD;rw[pyD,PyData.eqv];rfl
 |none,some _=>by unfold wyD;rw[zfJ,pyD,PyData.eqv];rfl
 |some _,none=>by unfold wyD;rw[zfJ,pyD,PyData.eqv];rfl
 |some a,some b=>by unfold wyD;rw[zfJ,zfJ,zaT];simp
theorem zih{p q:Pp}:(pyD (ppD p)).eqv (pyD (ppD q))=true↔p=q:=by
 unfold ppD
 simp only[pyD,pyL]
 rw[PyData.eqv]
 simp only[PyData.eqvAll]
 rw[zpG,zfJ,zfJ,zaT,PyData.eqv,PyData.eqv,PyData.eqv]
 obtain⟨a1,a2,a3,a4,a5⟩:=p
 obtain⟨b1,b2,b3,b4,b5⟩:=q
 simp
theorem zkE{p:Pp}:(pyD (ppD p)).depth<=60:=by
 have h:∀xs:List Str,(pyD (tD xs)).depth<=2:=λxs=>zgr
 have h4:(pyD (wyD p.way)).depth<=2:=by
  cases p.way with
  |none=>unfold wyD;rw[pyD,PyData.depth];decide
  |some w=>exact h w
 have h5:=h p.marks
 unfold ppD
 simp only[pyD,pyL]
 rw[PyData.depth]
 simp only[PyData.depthAll]
 rw[PyData.depth,PyData.depth,PyData.depth]
 lia
noncomputable def k3(p:Pp):D:= .tup [.str p.one, .str p.to, .int p.nr]
theorem zrO{p q:Pp}:(pyD (k3 p)).eqv (pyD (k3 q))=true↔kyP p=kyP q:=by
 unfold k3 kyP
 simp only[pyD,pyL]
 rw[PyData.eqv]
 simp only[PyData.eqvAll]
 rw[PyData.eqv,PyData.eqv,PyData.eqv]
 simp
theorem zq3{p:Pp}:(pyD (k3 p)).depth<=60:=by
 unfold k3
 simp only[pyD,pyL]
 rw[PyData.depth]
 simp only[PyData.depthAll]
 rw[PyData.depth,PyData.depth,PyData.depth]
 lia
noncomputable def gTw(p:Pp):D->Bool
 | .tup [a,b,c,d,e]=>(pyD (.tup [a,b,c])).eqv (pyD (k3 p))&&!(pyD (.tup [a,b,c,d,e])).eqv (pyD (ppD p))
 |_=>false
theorem zk1{p q:Pp}:gTw p (ppD q)=true↔kyP q=kyP p/\q≠p:=by
 show((pyD (k3 q)).eqv (pyD (k3 p))&&!(pyD (ppD q)).eqv (pyD (ppD p)))=true↔_
 rw[L0,zrO,Bool.not_eq_true',←Bool.not_eq_true,zih]
theorem zp4{p:Pp}{S:List Pp}:(S.map ppD).filter (gTw p)≠ []↔∃q∈S,kyP q=kyP p/\q≠p:=by
 refine⟨λh=>?_,λ⟨q,hq,h⟩=>List.ne_nil_of_mem (X2.mpr ⟨G1.mpr ⟨q,hq,rfl⟩,zk1.mpr h⟩)⟩
 obtain⟨d,hd⟩:=List.exists_mem_of_ne_nil _ h
 obtain⟨h1,h2⟩:=X2.mp hd
 obtain⟨q,hq,rfl⟩:=G1.mp h1
 exact⟨q,hq,zk1.mp h2⟩
theorem zo2{k1 k2:List (List Str)}(h1:k1.Pairwise λa b=>ltL a b=true)(h2:k2.Pairwise λa b=>ltL a b=true)(h:∀k,k∈k1↔k∈k2):k1=k2:=by
 have nd:∀{ks:List (List Str)},(ks.Pairwise λa b=>ltL a b=true)->ks.Nodup:=λh=>h.imp λ{a b} e z=>by rw[z,zlN] at e;cases e
 exact((List.perm_ext_iff_of_nodup (nd h1) (nd h2)).mpr h).eq_of_pairwise (λa b _ _ h1 h2=>absurd h2 (by rw[zgG h1];decide)) h1 h2
noncomputable def KL(hs:List Str):List (List Str):=(hs.map λh:Str=> [h,("false":Str)])++hs.map λh:Str=> [h,("twin":Str)]
theorem ziB:(KL hs).length=hs.length+hs.length:=by unfold KL;rw[W0,B0,B0]
theorem zrl(h:x∈hs):[x,"false"]∈KL hs:=List.mem_append_left _ (G1.mpr ⟨x,h,rfl⟩)
theorem zra(h:x∈hs):[x,"twin"]∈KL hs:=O2 _ (G1.mpr ⟨x,h,rfl⟩)
theorem zk2(hn:∀x∈hs,zg x=true){k:List Str}(h:k∈KL hs):k≠ []/\∀x∈k,zg x=true:=by
 rcases X1.mp h with h|h
 ·obtain ⟨y,hy,rfl⟩:=G1.mp h
  exact⟨(λz=>nomatch z),λx hx=>(K0.mp hx).elim (λe=>by rw[e];exact hn y hy) λe=>by rw[c0.mp e];decide +kernel⟩
 ·obtain ⟨y,hy,rfl⟩:=G1.mp h
  exact⟨(λz=>nomatch z),λx hx=>(K0.mp hx).elim (λe=>by rw[e];exact hn y hy) λe=>by rw[c0.mp e];decide +kernel⟩
theorem Mono.put{o:HO}(h:H p=some o)(n:∀xs,o≠ .tup xs/\o≠ .lst xs)(n':∀xs,o≠ .dK xs):Mono H (upd H p o'):=
 ⟨λq xs e=>by rw[zj (λz=>by rw[z,h] at e;exact(n xs).1 (U1 e))];exact e,λq xs e=>⟨xs,by rw[zj (λz=>by rw[z,h] at e;exact(n xs).2 (U1 e))];exact e⟩,λq xs e=>⟨xs,by rw[zj (λz=>by rw[z,h] at e;exact n' xs (U1 e))];exact e⟩⟩
theorem Same.put{o:HO}(s:Same H H')(h:H p=none):Same H (upd H' p o):=λq u e=>by rw[zj (zr e h)];exact s q u e
def Fnd(P:Program)(w:World)(N:List (List Str))(H:Hp)(pf:Addr)(F:List Str->Prop):Prop:=∃ys:List (zaD×Addr),H pf=some (StT P w pf ys)/\(ys.map (·.1)).Nodup/\(∀y∈ys,H y.2=some (.tup (y.1.map V.str)))/\(∀k,k∈ys.map (·.1)↔F k)/\∀k,F k->k∈N
theorem Fnd.few{P:Program}{w:World}{N:List (List Str)}{ys:List (zaD×Addr)}(nd:(ys.map (·.1)).Nodup)(hk:∀k,k∈ys.map (·.1)↔F k)(hN:∀k,F k->k∈N):ys.length<=N.length:=by
 have:=nodup_len (m:=N) nd λk h=>hN k ((hk k).mp h)
 rwa[B0] at this
theorem Fnd.mono{N:List (List Str)}(h:Fnd P w N H pf F)(m:Mono H H')(e:H' pf=H pf)(hF:∀k,F k↔F' k):Fnd P w N H' pf F':=by
 obtain⟨ys,h1,h2,h3,h4,h5⟩:=h
 exact⟨ys,e.trans h1,h2,λy hy=>m.tup _ _ (h3 y hy),λk=>(h4 k).trans (hF k),λk hk=>h5 k ((hF k).mpr hk)⟩
theorem zlq{N:List (List Str)}{b:Addr}{k:List Str}{Q:VK}(h:Fnd P w N H pf F)(hb:H b=some (.tup (k.map V.str)))(h0:∀k∈N,k≠ [])(hk:k∈N)(hN:N.length<=60)
 (q:∀H',Fnd P w N H' pf (λk'=>F k'\/k'=k)->(∀a,a≠pf->H' a=H a)->Mono H H'->Q .non H'):zqO P w (.ref pf) [.ref b] H Q:=by
 obtain⟨ys,h1,h2,h3,h4,h5⟩:=h
 have hl:=Fnd.few (P:=P) (w:=w) h2 h4 h5
 refine⟨pf,b,ys,k,rfl,rfl,h1,hb,h0 k hk,λy hy=>⟨h3 y hy,h0 _ (h5 _ ((h4 _).mp (G1.mpr ⟨y,hy,rfl⟩)))⟩,(),λhin=>?_,λhin ys' pm=>?_⟩
 ·exact q H ⟨ys,h1,h2,h3,λk'=>(h4 k').trans ⟨.inl,λz=>z.elim id λe=>by rw[e];exact(h4 k).mp hin⟩,λk' z=>z.elim (h5 k') λe=>by rw[e];exact hk⟩ (λ_ _=>rfl) (.refl H)
 ·have M:Mono H (upd H pf (StT P w pf ys')):= .put h1 (λxs=>⟨λz=>(by unfold StT at z;cases z),λz=>(by unfold StT at z;cases z)⟩) λxs z=>(by unfold StT at z;cases z)
  have pk:=pm.map (·.1)
  rw[Y1] at pk
  refine q _ ⟨ys',zc,pk.nodup_iff.mpr (List.nodup_cons.mpr ⟨hin,h2⟩),λy hy=>M.tup _ _ ?_,λk'=>?_,λk' z=>z.elim (h5 k') λe=>by rw[e];exact hk⟩ (λa ha=>zj ha) M
  ·rcases K0.mp (pm.mem_iff.mp hy)with e|e
   ·rw[e];exact hb
   ·exact h3 y e
  ·rw[pk.mem_iff,K0,h4 k']
   exact Or.comm
def Known(H:Hp)(kvs:List (List Key×V))(S:List Pp):Prop:=(∀p∈S,zbs kvs (kyP p)≠none)/\∀k v,zbs kvs k=some v->∃p∈S,kyP p=k/\Rep H v (ppD p)
theorem Known.mono{S:List Pp}(h:Known H kvs S)(m:Mono H H'):Known H' kvs S:=⟨h.1,λk v e=>(h.2 k v e).imp λp z=>⟨z.1,z.2.1,z.2.2.mono m⟩⟩
theorem Known.old{S:List Pp}{p:Pp}(h:Known H kvs S)(hp:zbs kvs (kyP p)≠none):Known H kvs (S ++ [p]):=
 ⟨λq hq=>(X1.mp hq).elim (h.1 q) λe=>by rw[c0.mp e];exact hp,λk v e=>(h.2 k v e).imp λp z=>⟨List.mem_append_left _ z.1,z.2⟩⟩
theorem Known.new{S:List Pp}{p:Pp}(h:Known H kvs S)(hv:Rep H v (ppD p)):Known H (zcN kvs (kyP p) v) (S ++ [p]):=by
 refine⟨λq hq=>?_,λk u e=>?_⟩
 ·rw[zjl]
  split
  ·exact λz=>nomatch z
  ·rename_i c
   exact(X1.mp hq).elim (h.1 q) λe=>absurd (by rw[c0.mp e]) c
 ·rw[zjl] at e
  by_cases c:k=kyP p
  ·rw[E1 c] at e
   cases e
   exact⟨p,O2 _ Z0,c.symm,hv⟩
  ·rw[Y0 c] at e
   exact(h.2 k u e).imp λp z=>⟨List.mem_append_left _ z.1,z.2⟩
theorem zfi{L:List (Pp×List Pp)}{p:Pp}:p∈zbo L↔∃z∈L,p∈z.1::z.2:=List.mem_flatMap
theorem zh0:∀{L:List (Pp×List Pp)},(∀z∈L,z.2.length<=10)->(zbo L).length<=11*L.length:=by
 intro L
 induction L with
 |nil=>exact λ_=>O0 _
 |cons z L ih=>
  intro h
  have h1:=ih λy hy=>h y (N1 _ hy)
  have h2:=h z Z0
  unfold zbo at h1⊢
  rw[List.flatMap_cons,W0,O1,O1]
  lia
theorem zjF{L:List (Pp×List Pp)}{z:Pp×List Pp}(h:L[i]?=some z):zbo (L.take (i+1))=zbo (L.take i)++(z.1::z.2):=by
 unfold zbo
 rw[O3,h,List.flatMap_append]
 simp
theorem zfY{R:Pp->List Pp->Bool}{L:List (Pp×List Pp)}{z:Pp×List Pp}(h:L[i]?=some z){k:List Str}:zbx R (L.take (i+1)) k↔zbx R (L.take i) k\/(R z.1 z.2=false/\k=[z.1.one,"false"]):=by
 unfold zbx
 rw[O3,h]
 simp[or_and_right,exists_or]
def NK(R:Pp->List Pp->Bool)(L:List (Pp×List Pp))(k:List Str):Prop:=zbx R L k\/TwinK (zbo L) k
theorem NK.perm{R:Pp->List Pp->Bool}{L L':List (Pp×List Pp)}(h:∀z,z∈L↔z∈L'){k:List Str}:NK R L k↔NK R L' k:=by
 have p:∀{L L':List (Pp×List Pp)},(∀z,z∈L↔z∈L')->NK R L k->NK R L' k:=λh n=>n.imp (λ⟨z,hz,r⟩=>⟨z,(h z).mp hz,r⟩) (.sub λp hp=>zfi.mpr ((zfi.mp hp).imp λz r=>⟨(h z).mp r.1,r.2⟩))
 exact⟨p h,p λz=>(h z).symm⟩
theorem NK.kl{R:Pp->List Pp->Bool}{L:List (Pp×List Pp)}(h:∀z∈L,∀p∈z.1::z.2,p.one∈hs){k:List Str}(n:NK R L k):k∈KL hs:=by
 rcases n with⟨z,hz,_,rfl⟩|⟨p,hp,_,_,_,_,rfl⟩
 ·exact zrl (h z hz _ Z0)
 ·obtain ⟨z,hz,hp⟩:=zfi.mp hp
  exact zra (h z hz p hp)
def NList(H:Hp)(l:Addr)(N:List (List Str))(F:List Str->Prop):Prop:=∃(vs:List V) (ks:List (List Str)),H l=some (.lst vs)/\RepL H vs (ks.map tD)/\(ks.Pairwise λa b=>ltL a b=true)/\(∀k,k∈ks↔F k)/\ks.length<=N.length
theorem NList.same{N:List (List Str)}(h:NList H l N F)(s:Same H H'):NList H' l N F:=by
 obtain⟨vs,ks,h1,h2,h3⟩:=h
 exact⟨vs,ks,s _ _ h1,h2.mono (.of s),h3⟩
theorem zjP{ks:List (List Str)}(t:zbU H vs ks)(hk:∀k∈ks,k.length<=1000/\∀x∈k,x.length<=1000):RepL H vs (ks.map tD):=by
 refine⟨by rw[B0];exact t.1,λi v d e1 e2=>?_⟩
 rw[V0] at e2
 cases e:ks[i]? with
 |none=>rw[e] at e2;cases e2
 |some k=>
  rw[e] at e2
  cases e2
  obtain⟨b,rfl,hb⟩:=t.2 i v k e1 e
  obtain⟨h1,h2⟩:=hk k (U0 e)
  exact .mkL hb (by rw[B0];exact h1) (zbj h2)
theorem znK{ks:List (List Str)}(r:RepL H vs (ks.map tD)):zbU H vs ks:=by
 refine⟨by have:=r.1;rwa[B0] at this,λi v k e1 e2=>?_⟩
 obtain⟨b,rfl,hb⟩:=zaC (r.2 i v (tD k) e1 (by rw[V0,e2];rfl))
 exact⟨b,rfl,hb⟩
theorem zjE{k:List Str}(h:k∈KL hs):k.length=2:=by
 rcases X1.mp h with h|h
 ·obtain ⟨y,hy,rfl⟩:=G1.mp h;rfl
 ·obtain ⟨y,hy,rfl⟩:=G1.mp h;rfl
theorem NList.tr(hn:∀x∈hs,zg x=true)(hF:∀k,F k->k∈KL hs){ks:List (List Str)}(h1:H l=some (.lst vs))(h2:RepL H vs (ks.map tD))(h4:∀k,k∈ks↔F k):Tr H (.ref l) (.list ((ks.map tD).map pyD))/\(PyData.list ((ks.map tD).map pyD)).depth<=60:=by
 refine⟨zlj h1 h2 λd hd=>?_,zky (n:=2) (λd hd=>?_) ⋯⟩
 ·obtain ⟨k,hk,rfl⟩:=G1.mp hd
  unfold tD
  rw[okD]
  refine zfH λx hx=>?_
  obtain⟨y,hy,rfl⟩:=G1.mp hx
  rw[okD]
  exact zp ((zk2 hn (hF k ((h4 k).mp hk))).2 y hy)
 ·obtain ⟨k,hk,rfl⟩:=G1.mp hd
  exact zgr
noncomputable abbrev sc(ns:List (Str×NameKind)):Scope:={kind:= .function,names:=ns,isGenerator:=false,isCoroutine:=false,more:=[]}
theorem fs{P:List Str}{sc:Scope}(h1:autoParam (sc.kind= .function) u4)(h2:autoParam (sc.isCoroutine=false) u4)(h3:autoParam (sc.isGenerator=false) u4)(h4:autoParam (N.Nodup) x6)(h5:autoParam (N.take P.length=P) u4)
 (h6:autoParam (∀x∈P,sc.names.lookup x=some .local\/sc.names.lookup x=some .cell) x6) (h7:autoParam (∀y∈sc.names,y.2≠ .free) x6):FnScope N P sc:=⟨h1,h2,h3,h4,h5,h6,h7⟩
abbrev CO{P:List Str}{o:Scope}(_:FnScope N P o)(N':List Str)(src:List (Option Nat))(sc:Scope):Prop:=CompOk N o N' src sc
theorem co{o sc:Scope}{src:List (Option Nat)}(h1:autoParam (sc.kind= .function) u4)(h2:autoParam (∀y∈sc.names,y.2≠ .cell) x6)(h3:autoParam (∀y∈sc.names,y.2= .local->sc.names.lookup y.1=some .local) x6)
 (h4:autoParam (∀y∈sc.names,y.2= .free->o.names.lookup y.1=some .cell\/o.names.lookup y.1=some .free) x6) (h5:autoParam (N'.Nodup) x6) (h6:autoParam (src.length=N'.length) u4)
 (h7:autoParam (∀q∈src.zip N',∀j∈q.1.toList,N[j]?=some q.2/\sc.names.lookup q.2=some .free) x6):CompOk N o N' src sc:=⟨h1,h2,h3,h4,h5,h6,h7⟩
section
set_option genInjectivity false in
set_option genSizeOfSpec false in
set_option genSizeOf false in
structure Fa(K:W.Frag)(mg:Str->Option Value)(x:Str)(st:Stmt)(ps:List Str) where
 ad:Addr
 dd:FuncData
 fn:Fun K x x st ad dd
 bi:Binds K dd ps []
 gl:mg x=some (.ref ad)
 kp:W.keepIn K (.ref ad)=true
set_option genInjectivity false in
set_option genSizeOfSpec false in
set_option genSizeOf false in
structure FaD(K:W.Frag)(mg:Str->Option Value)(x:Str)(st:Stmt)(ps:List Str) where
 ad:Addr
 dd:FuncData
 fn:FunD K x x st ad dd
 bi:Binds K dd ps []
 be:Binds K dd ps [.none]
 gl:mg x=some (.ref ad)
 kp:W.keepIn K (.ref ad)=true
set_option genInjectivity false in
set_option genSizeOfSpec false in
set_option genSizeOf false in
structure Gi(mg:Str->Option Value)(x:Str)(n:Int) where
 gv:Value
 gm:mg x=some gv
 gr:RelV (.int n) gv
set_option genInjectivity false in
set_option genSizeOfSpec false in
set_option genSizeOf false in
structure Gt(K:W.Frag)(mg:Str->Option Value)(x:Str)(vs:List V) where
 ad:Addr
 gm:mg x=some (.ref ad)
 gt:∀H,SqT K H ad vs
abbrev Fa.O{st:Stmt}{ps:List Str}(Y:Fa K mg x st ps)(P:Program)(w:World)(base:Heap)(k:Nat)(sp:Sp):Prop:=FnOk P w K mg base CX0 k Y.ad Y.dd ps sp
noncomputable def Fa.mk' {st:Stmt} {ps:List Str}     {kV:Value} (X:K.In h) (G:h.Ns mainGlobals mg) (a:W.nsIn K mainGlobals x=some (some (.ref f)))
 (l:K.lookup f=some ⟨oc,od, .func (W.fnOf x x (zbm st) (zaS st) (zU st) .none kV doc pm an cdv ct),osl⟩) (c:W.codeIn K cdv x=true) (k:W.keepIn K (.ref f)=true)
 (hb:∀(kV doc pm:Value) (an:Option Addr) (cdv ct:Value) (us:List Value),us.length=ps.length->bindArgs (W.fnOf x x (zbm st) (zaS st) (zU st) .none kV doc pm an cdv ct) ⟨us,[]⟩=pure (ps.zip us)):Fa K mg x st ps:=
 ⟨f,_,zna l c k,(zna l c k).binds hb,W.mg_of X G a,k⟩
abbrev FaD.O{st:Stmt}{ps:List Str}(Y:FaD K mg x st ps)(P:Program)(w:World)(base:Heap)(k:Nat)(sp:Sp):Prop:=FnOk P w K mg base CX0 k Y.ad Y.dd ps sp
noncomputable def FaD.mk' {st:Stmt} {ps:List Str}      {kV:Value} (m:Nat) (X:K.In h) (G:h.Ns mainGlobals mg) (a:W.nsIn K mainGlobals x=some (some (.ref f)))
 (l:K.lookup f=some ⟨oc,od, .func (W.fnOf x x (zbm st) (zaS st) (zU st) (.ref dt) kV doc pm an cdv ct),osl⟩) (c:W.codeIn K cdv x=true) (k:W.keepIn K (.ref f)=true) (ld:K.lookup dt=some ⟨.type "tuple",od2, .seq #[.none] n2,sl2⟩)
 (hm:ps.length=m+1)
 (hb:∀(dt:Addr) (kV doc pm:Value) (an:Option Addr) (cdv ct:Value) (us:List Value),us.length=m+1->∃k:Option (Array Value)->Sem (List (Str×Value)),bindArgs (W.fnOf x x (zbm st) (zaS st) (zU st) (.ref dt) kV doc pm an cdv ct) ⟨us,[]⟩=seqItems? (.ref dt)>>=k/\k (some #[.none])=pure (ps.zip (us ++ [])))
 (hd:∀(dt:Addr) (kV doc pm:Value) (an:Option Addr) (cdv ct:Value) (us:List Value),us.length=m->∃k:Option (Array Value)->Sem (List (Str×Value)),bindArgs (W.fnOf x x (zbm st) (zaS st) (zU st) (.ref dt) kV doc pm an cdv ct) ⟨us,[]⟩=seqItems? (.ref dt)>>=k/\k (some #[.none])=pure (ps.zip (us ++ [.none]))):FaD K mg x st ps:=
 ⟨f,_,zim l ld c k,(zim l ld c k).binds (m+1) hm hb,(zim l ld c k).binds m hm hd,W.mg_of X G a,k⟩
noncomputable def Gi.mk' {n:Int}  (X:K.In h) (G:h.Ns mainGlobals mg) (g:W.nsIn K mainGlobals x=some (some (.int n tk))):Gi mg x n:=⟨_,W.mg_of X G g,⟨tk,rfl⟩⟩
noncomputable def Gt.mk'    {us:Array Value}  {sl:Array (Option Value)} (X:K.In h) (G:h.Ns mainGlobals mg) (g:W.nsIn K mainGlobals x=some (some (.ref a)))
 (l:K.lookup a=some ⟨.type "tuple",od, .seq us n,sl⟩) (c:us.size<=sizeLine) (d:Vals vs us.toList):Gt K mg x vs:=⟨a,W.mg_of X G g,λ_=> .inr ⟨_,_,n,l,rfl,rfl,c,d⟩⟩
end
theorem zH{st:Stmt}{ps:List Str}{t:TA}{p:Pos}(Y:Fa X.K X.mg x st ps)(F:Y.O X.prog X.w X.base k sp)(hr:Room k0 X.A)(ha:QA X (e::es) t)(hle:autoParam (k<=k0) v8)
 (hg:autoParam (Gl X x) u4) (hdb:autoParam ((x==("__debug__":Str))=false) u5) (he:autoParam (starEach (e::es) X.env=(false,eval e X.env)::starEach es X.env) u4) (hpl:autoParam ((backTo pos (starEach es X.env)).any (·.1)=false) u4):
 QE X (.Call (.Name x p) (e::es) [] pos) (zhk sp [] E0 t):=zkM F (hr.mono hle) Y.gl Y.kp Y.bi .nil zoN ha hg hdb he hpl
theorem znQ{st:Stmt}{ps:List Str}{t:TA}{p:Pos}(Y:FaD X.K X.mg x st ps)(F:Y.O X.prog X.w X.base k sp)(hr:Room k0 X.A)(ha:QA X (e::es) t)(hle:autoParam (k<=k0) v8)
 (hg:autoParam (Gl X x) u4) (hdb:autoParam ((x==("__debug__":Str))=false) u5) (he:autoParam (starEach (e::es) X.env=(false,eval e X.env)::starEach es X.env) u4) (hpl:autoParam ((backTo pos (starEach es X.env)).any (·.1)=false) u4):
 QE X (.Call (.Name x p) (e::es) [] pos) (zhk sp [] E0 t):=zkM F (hr.mono hle) Y.gl Y.kp Y.bi .nil zoN ha hg hdb he hpl
theorem zsy{st:Stmt}{ps:List Str}{t:TA}{p:Pos}(Y:FaD X.K X.mg x st ps)(F:Y.O X.prog X.w X.base k sp)(hr:Room k0 X.A)(ha:QA X (e::es) t)(hle:autoParam (k<=k0) v8)
 (hg:autoParam (Gl X x) u4) (hdb:autoParam ((x==("__debug__":Str))=false) u5) (he:autoParam (starEach (e::es) X.env=(false,eval e X.env)::starEach es X.env) u4) (hpl:autoParam ((backTo pos (starEach es X.env)).any (·.1)=false) u4):
 QE X (.Call (.Name x p) (e::es) [] pos) (zhk sp [.non] E0 t):=zkM F (hr.mono hle) Y.gl Y.kp Y.be (.cons (a:=V.non) rfl .nil) zoN ha hg hdb he hpl
theorem hidZ{G:Prop}(k:∀γ:Prop,(G->γ)->γ):G:=k G id
local macro_rules | `(tactic|obtain $p:rcasesPatMed:= $e:term)=>do
 if ((p.raw.reprint.getD "").splitOn ",").length≥3 then `(tactic|first|(refine hidZ λγ hγ=>?_;rcases $e:term with $p<;>(refine hγ ?_;clear hγ γ))|rcases $e:term with $p)else `(tactic|rcases $e:term with $p)
noncomputable def top(i:Nat):Stmt:=Challenge.pw_restways_k73_named.main.body.getD i (.Pass ⟨0,0,0,0⟩)
abbrev FS(N P:List Str)(i:Nat):Prop:=FnScope N P (zU (top i))
noncomputable abbrev FE(K:W.Frag)(mg:Str->Option Value)(x:Str){P:List Str}(_:FS N P i):=Fa K mg x (top i) P
noncomputable abbrev FD(K:W.Frag)(mg:Str->Option Value)(x:Str){P:List Str}(_:FS N P i):=FaD K mg x (top i) P
theorem zfI:FS ["thing"] ["thing"] 3:=fs
theorem zfQ:CO zfI ["sign"] [none] (sc [(".0", .local),("sign", .local)]):=co
theorem zfM:FS ["thing"] ["thing"] 5:=fs
theorem ziS:FS ["thing","fewest","most"] ["thing","fewest","most"] 6:=fs
theorem zdV:FS ["things"] ["things"] 7:=fs
theorem zeA:CO zdV ["k","things"] [none,some 0] (sc [(".0", .local),("k", .local),("things", .free)]):=co
theorem zeV:FS ["cond","way","marks","to","word","about"] ["cond","way","marks","to"] 9:=fs
theorem zeI:FS ["conds","way","marks","to","cond"] ["conds","way","marks","to"] 10:=fs
theorem zgR:FS ["houses","thing"] ["houses","thing"] 12:=fs
theorem zfe:FS ["town","house"] ["town","house"] 13:=fs
theorem zgI:FS ["town","house"] ["town","house"] 14:=fs
theorem zgm:FS ["town","house","ties"] ["town","house"] 15:=fs
theorem zgV:CO zgm ["a","b","house"] [none,none,some 1] (sc [(".0", .local),("a", .local),("b", .local),("house", .free)]):=co
theorem zgT:CO zgm ["a","b","house"] [none,none,some 1] (sc [(".0", .local),("a", .local),("b", .local),("house", .free)]):=co
theorem zdj:FS ["town","thing","goal","houses"] ["town","thing"] 16:=fs
theorem zgt:CO zdj ["house","houses"] [none,some 3] (sc [(".0", .local),("house", .local),("is_house", .globalImplicit),("houses", .free)]):=co
theorem zgj:CO zdj ["k","thing","town"] [none,some 1,some 0] (sc [(".0", .local),("k", .local),("tied", .globalImplicit),("thing", .free),("town", .free)]):=co
theorem zaX:FS ["marks","act","word","mark","others"] ["marks","act"] 18:=fs
theorem zdq:CO zaX ["one","mark"] [none,some 3] (sc [(".0", .local),("one", .local),("mark", .free)]):=co
theorem zdg:FS ["town","way","marks","to","told","conds","act"] ["town","way","marks","to"] 19:=fs
theorem zf9:FS ["town","way","marks","conds","told"] ["town","way","marks"] 21:=fs
theorem zeb:FS ["thing","fewest","most"] ["thing","fewest","most"] 26:=fs
theorem zez:CO zeb ["name"] [none] (sc [(".0", .local),("name", .local),("is_name", .globalImplicit)]):=co
theorem zbz:FS ["town","thing","one","to","nr","way","marks"] ["town","thing"] 27:=fs
theorem zd7:FS ["town","thing"] ["town","thing"] 28:=fs
theorem zeD:CO zd7 ["paper","town"] [none,some 0] (sc [(".0", .local),("paper", .local),("is_paper", .globalImplicit),("town", .free)]):=co
theorem zau:FS ["town","paper","marks","one","to","nr","way","told"] ["town","paper","marks"] 29:=fs
theorem zaM:FS ["town","thing","first","papers","way","k","paper","came"] ["town","thing"] 30:=fs
theorem ze5:CO zaM ["paper"] [none] (sc [(".0", .local),("paper", .local)]):=co
theorem zdD:CO zaM ["paper","marks","town"] [none,none,some 0] (sc [(".0", .local),("paper", .local),("marks", .local),("was_handed_so", .globalImplicit),("town", .free)]):=co
theorem zdC:FS ["town","letters","found","known","first","papers","paper"] ["town","letters"] 31:=fs
theorem zc2:FS ["_law_script","_law_k","_law_cell"] ["_law_script","_law_k"] 33:=fs
theorem zbe:FS ["_law_hand_here","_law_many","_law_digit","_law_turn","_law_mixed","_law_rest_here"] ["_law_hand_here","_law_many"] 34:=fs
theorem zfL:FS ["_law_hand_here","_law_some"] ["_law_hand_here","_law_some"] 35:=fs
theorem zan:FS ["_law_hand_here","_law_many","_law_letters_here","_law_first","_law_step","_law_names_here","_law_kept","_law_spot","_law_k"] ["_law_hand_here","_law_many"] 36:=fs
theorem zef:CO zan ["_law_k","_law_first","_law_letters_here","_law_step"] [none,some 3,some 2,some 4] (sc [(".0", .local),("_law_k", .local),("_law_first", .free),("_law_letters_here", .free),("_law_step", .free)]):=co
theorem zaK:FS ["_law_hand_here","_law_houses","_law_marks","_law_to","_law_way","_law_cond_here"] ["_law_hand_here","_law_houses","_law_marks","_law_to"] 37:=fs
theorem zco:FS ["_law_hand_here","_law_houses","_law_marks","_law_to","_law_many"] ["_law_hand_here","_law_houses","_law_marks","_law_to"] 38:=fs
theorem zec:CO zco ["_law_k","_law_hand_here","_law_houses","_law_marks","_law_to"] [none,some 0,some 1,some 2,some 3] (sc [(".0", .local),("_law_k", .local),("_law_cond", .globalImplicit),("_law_hand_here", .free),("_law_houses", .free),("_law_marks", .free),("_law_to", .free)]):=co
theorem zbh:FS ["_law_hand_here","_law_houses","_law_more","_law_ties_here","_law_k","_law_a","_law_b"] ["_law_hand_here","_law_houses","_law_more"] 39:=fs
theorem zw:FS ["_law_hand_here","_law_many","_law_names_here","_law_houses","_law_marks","_law_ties_here_here","_law_likings","_law_hands","_law_house","_law_worths","_law_some","_law_acts"] ["_law_hand_here"] 40:=fs
theorem zcA:CO zw ["_law_k","_law_hand_here","_law_marks","_law_names_here","_law_worths"] [none,some 0,some 4,some 2,some 9] (sc [(".0", .local),("_law_k", .local),("_law_conds", .globalImplicit),("_law_pick", .globalImplicit),("_law_hand_here", .free),("_law_marks", .free),("_law_names_here", .free),("_law_worths", .free)]):=co
theorem zcx:CO zw ["_law_k","_law_acts","_law_hand_here","_law_marks","_law_names_here"] [none,some 11,some 0,some 4,some 2] (sc [(".0", .local),("_law_k", .local),("_law_conds", .globalImplicit),("_law_pick", .globalImplicit),("_law_acts", .free),("_law_hand_here", .free),("_law_marks", .free),("_law_names_here", .free)]):=co
theorem zW:FS ["_law_hand_here","_law_town","_law_way","_law_k","_law_others"] ["_law_hand_here","_law_town"] 41:=fs
theorem zcQ:CO zW ["_law_pair","_law_way"] [none,some 2] (sc [(".0", .local),("_law_pair", .local),("_law_way", .free)]):=co
theorem zc0:CO zW ["_law_pair","_law_way"] [none,some 2] (sc [(".0", .local),("_law_pair", .local),("_law_way", .free)]):=co
theorem zcP:CO zW ["_law_house","_law_way"] [none,some 2] (sc [(".0", .local),("_law_house", .local),("_law_way", .free)]):=co
theorem zaH:FS ["_law_cond_here","_law_way","_law_marks","_law_to"] ["_law_cond_here","_law_way","_law_marks","_law_to"] 42:=fs
theorem zcj:CO zaH ["_law_house","_law_cond_here"] [none,some 0] (sc [(".0", .local),("_law_house", .local),("_law_cond_here", .free)]):=co
theorem zci:CO zaH ["_law_mark","_law_cond_here"] [none,some 0] (sc [(".0", .local),("_law_mark", .local),("_law_cond_here", .free)]):=co
theorem zcc:FS ["_law_conds_here","_law_way","_law_marks","_law_to","_law_cond_here"] ["_law_conds_here","_law_way","_law_marks","_law_to"] 43:=fs
theorem zbk:FS ["_law_town","_law_way","_law_marks","_law_at","_law_held"] ["_law_town","_law_way","_law_marks"] 44:=fs
theorem zcy:CO zbk ["_law_k","_law_house","_law_way"] [none,none,some 1] (sc [(".0", .local),("_law_k", .local),("_law_house", .local),("_law_way", .free)]):=co
theorem zcC:CO zbk ["_law_conds_here","_law_number","_law_marks","_law_way"] [none,none,some 2,some 1] (sc [(".0", .local),("_law_conds_here", .local),("_law_number", .local),("_law_all_hold", .globalImplicit),("_law_marks", .free),("_law_way", .free)]):=co
theorem zao:FS ["_law_town","_law_way","_law_marks","_law_to","_law_at","_law_now","_law_conds_here","_law_act"] ["_law_town","_law_way","_law_marks","_law_to"] 45:=fs
theorem zcg:CO zao ["_law_k","_law_house","_law_way"] [none,none,some 1] (sc [(".0", .local),("_law_k", .local),("_law_house", .local),("_law_way", .free)]):=co
theorem zdR:CO zao ["_law_mark","_law_act"] [none,some 7] (sc [(".0", .local),("_law_mark", .local),("_law_act", .free)]):=co
theorem zfR:FS ["_law_town","_law_one","_law_other"] ["_law_town","_law_one","_law_other"] 46:=fs
theorem zdY:FS ["_law_town","_law_house"] ["_law_town","_law_house"] 47:=fs
theorem zex:CO zdY ["_law_other","_law_house","_law_town"] [none,some 1,some 0] (sc [(".0", .local),("_law_other", .local),("_law_tied", .globalImplicit),("_law_house", .free),("_law_town", .free)]):=co
theorem zaz:FS ["_law_hand_here","_law_town","_law_way","_law_to","_law_marks","_law_papers_here","_law_k","_law_piece","_law_whom"] ["_law_hand_here","_law_town","_law_way","_law_to"] 48:=fs
theorem zV:FS ["_law_town","_law_sealed","_law_first","_law_papers_here","_law_way","_law_told","_law_marks","_law_k","_law_whom"] ["_law_town","_law_sealed"] 49:=fs
theorem zu:FS ["_law_hand_here","_law_town","_law_found","_law_turn","_law_way","_law_near_here","_law_sealed","_law_first","_law_papers_here","_law_one","_law_to","_law_nr","_law_marks","_law_other","_law_some"] ["_law_hand_here","_law_town"] 50:=fs
theorem zaO:FS ["_law_town","_law_letters_here","_law_found","_law_papers_here","_law_first","_law_others","_law_i","_law_one"] ["_law_town","_law_letters_here"] 51:=fs
theorem zfb:CO zaO ["_law_other","_law_one"] [none,some 7] (sc [(".0", .local),("_law_other", .local),("_law_one", .free)]):=co
theorem ze9:FS ["_law_script","_law_k","_law_hand_here","_law_town","_law_letters_here","_law_due_here","_law_found"] ["_law_script"] 52:=fs
theorem zlR:CO ze9 ["_law_one"] [none] (sc [(".0", .local),("_law_one", .local),("isinstance", .globalImplicit),("tuple", .globalImplicit)]):=co
noncomputable abbrev zr7:Stmt:=top 52
noncomputable abbrev zsq:List Str:=["_law_script"]
set_option genInjectivity false in
set_option genSizeOfSpec false in
set_option genSizeOf false in
structure Ev(K:W.Frag)(mg:Str->Option Value) where
 zdt:FE K mg "is_name" zfI
 zdK:FE K mg "is_number" zfM
 zbN:FE K mg "is_row" ziS
 zdL:FE K mg "is_rising" zdV
 holds:FD K mg "holds" zeV
 zcw:FD K mg "all_hold" zeI
 zb1:FE K mg "is_house" zgR
 zc6:FE K mg "likings_of" zfe
 zeq:FE K mg "hands_of" zgI
 tied:FE K mg "tied" zgm
 zgg:FE K mg "is_way" zdj
 zb5:FE K mg "marks_behind" zaX
 zgh:FE K mg "handed" zdg
 ziE:FE K mg "worth" zf9
 zcM:FE K mg "are_names" zeb
 zdu:FE K mg "is_paper" zbz
 zdM:FE K mg "is_sealed" zd7
 zbO:FE K mg "was_handed_so" zau
 zer:FE K mg "is_right" zaM
 zeR:FE K mg "named" zdC
 zdN:FE K mg "_law_hand" zc2
 zt:FE K mg "_law_take" zbe
 zz:FE K mg "_law_pick" zfL
 zc7:FE K mg "_law_names" zan
 zdO:FE K mg "_law_cond" zaK
 zcb:FE K mg "_law_conds" zco
 zdP:FE K mg "_law_ties" zbh
 zbw:FE K mg "_law_mild_town" zw
 zbP:FE K mg "_law_some_way" zW
 zZ:FE K mg "_law_cond_holds" zaH
 zaY:FE K mg "_law_all_hold" zcc
 zbD:FE K mg "_law_worth" zbk
 za3:FE K mg "_law_handed" zao
 zb2:FE K mg "_law_tied" zfR
 zdQ:FE K mg "_law_near" zdY
 zcs:FE K mg "_law_papers" zaz
 zbQ:FE K mg "_law_is_right" zV
 zb6:FE K mg "_law_letters" zu
 zes:FE K mg "_law_due" zaO
 law:FE K mg "law" ze9
 zj0:Gi mg "LONGEST" 8
 zfm:Gi mg "LONGEST_WAY" 10
 zf1:Gi mg "MOST_MARKS" 90
 zfn:Gi mg "MOST_PAPERS" 10
 ziF:Gt K mg "TAKEN" [.str "if", .str "and", .str "not", .str "never"]
 zbE:mg "isinstance"=none
 str:mg "str"=none
 len:mg "len"=none
 all:mg "all"=none
 int:mg "int"=none
 bool:mg "bool"=none
 tuple:mg "tuple"=none
 range:mg "range"=none
 max:mg "max"=none
 min:mg "min"=none
 sorted:mg "sorted"=none
 enumerate:mg "enumerate"=none
 zip:mg "zip"=none
 list:mg "list"=none
 set:mg "set"=none
noncomputable def zjH:Sp:=λvs H Q _=>∃v d lo hi,vs=[v, .int lo, .int hi]/\Rep H v d/\∀H',Same H H'->Q (.bl (zaN d lo hi)) H'
theorem zek(Y:Ev K mg):Y.zbN.O P w base 1 zjH:=by
 refine Y.zbN.fn.okQ ziS (λvs H Q E h=>?_) `j4
 ·obtain ⟨v,d,lo,hi,rfl,_⟩:=h;rfl
 ·obtain ⟨v,d,lo,hi,rfl,hd,q⟩:=h
  have q:=q H (Same.refl H)
  obtain⟨t,ht,h1,h2,h3,h4⟩:=hd.isi (K:=K)
  refine⟨_,(zi (zv (zfP (zn zdk Y.zbE za8 (zb (qv 0) (zb (zmb Y.tuple za6) zd))) (ze7 (zlS zlF zlF (qv 1) (zn zJ Y.len zap (zb (qv 0) zd)) (qv 2)))))),?_⟩
  try dsimp only[zav]
  refine vr rfl (ex4 _ _ _ _ ⟨rfl,ht,h1,vr rfl (zbK (λe=>?_) (λe=>?_))⟩)
  ·cases hd with
   | @tup p vs ds hp l b r=>
     refine vr rfl (vr rfl (.inl (ex2 p vs ⟨rfl, .inr (.inl (.inl hp)),ex2 _ _ ⟨rfl,rfl,vr rfl (zbK (λe1=>?_) (λe1=>?_))⟩⟩)))
     ·refine vr rfl (ex2 _ _ ⟨rfl,rfl,?_⟩)
      have:zaN (.tup ds) lo hi=decide ((vs.length:Int)<=hi):=by show(decide (lo<=(ds.length:Int))&&decide ((ds.length:Int)<=hi))=_;rw[←l,e1];rfl
      rw[this] at q;exact q
     ·have:zaN (.tup ds) lo hi=false:=by show(decide (lo<=(ds.length:Int))&&decide ((ds.length:Int)<=hi))=_;rw[←l,tru e1];rfl
      rw[this] at q;exact q
   |_=>cases e
  ·have:zaN d lo hi=false:=by cases d<;>first|rfl|exact absurd rfl e
   rw[this] at q;exact q
theorem zgo(Y:Ev K mg):Y.zdt.O P w base 1 (zjI zaw):=by
 refine Y.zdt.fn.okQ zfI (λvs H Q E h=>?_) `j4
 ·obtain ⟨v,d,rfl,_⟩:=h;rfl
 ·obtain ⟨v,d,rfl,hd,q⟩:=h
  refine⟨_,(zh (zak (t_w (zcO (zbp (za4 (zn zdk Y.zbE za8 (zb (qv 0) (zb (zmb Y.str zrZ) zd))))) (zcZ (zbp (zo6 zlF zlF ze (zn zJ Y.len zap (zb (qv 0) zd)) (zgl Y.zj0.gm Y.zj0.gr)))))) (zi (zv zbT)) zL)
   (zi (zv (zfP (zn (zbC rfl) Y.all zd8 (zb (zaQ (src:=[none]) zfQ rfl rfl (zsk (qv 0)) (λ_ _ _ _ _=>(zk 0 zfQ.nd)) (λ_ _ _ _ _=>zdi) (λ_ _ _ _ _=>(zlS zhq zhq zar (qv 0) zar))) zd)) (ze7 (zaZ zcp (qv 0) (zgl (v:= .ref Y.ziF.ad) Y.ziF.gm rfl))))))),?_⟩
  try dsimp only[zav]
  obtain⟨t,ht,_,_,_,h4⟩:=hd.isi (K:=K)
  refine vr rfl (ex4 _ _ _ _ ⟨rfl,ht,h4,vr rfl ?_⟩)
  cases hd with
  |str x hx=>
   have hz:x.length<=sizeLine:=Z2 (zl hx)
   refine vr rfl (.inr ⟨x,rfl,hz,ex2 _ _ ⟨rfl,rfl,vr rfl ?_⟩⟩)
   refine zbK (λh1=>?_) (λh1=>?_)
   ·have h1':1<=x.length:=by
     have:=R0 h1
     lia
    refine ex2 _ _ ⟨rfl,rfl,vr rfl ?_⟩
    cases h8:decide ((x.length:Int)<=8)with
    |false=>
     have e:zg x=false:=by
      have h8':=of_decide_eq_false h8
      have:decide (x.length<=8)=false:=A1 ()
      unfold zg
      rw[this]
      simp
     have q:=q H (Same.refl H)
     rw[zcK] at q
     rw[e] at q
     exact q
    |true=>
     have h8':x.length<=8:=by
      have:=R0 h8
      lia
     refine vr rfl ⟨x,rfl,?_⟩
     let I0:Addr->Nat->List V->St->Hp->Prop:=λl i ys σ' H'=>(∃o,σ'=[o])/\ys=(x.cps.toList.take i).map (λc=>V.bl (za2 c))/\H'=upd H l (.lst ys)
     refine zbv zqW I0 ?_ (λ_ _ _ _ _ _ _=>trivial) ?_ ?_
     ·exact λl hl=>⟨⟨_,rfl⟩,rfl,rfl⟩
     ·rintro l i y ys σ' H' hl hi ⟨c,hc,rfl⟩ ⟨⟨o,rfl⟩,rfl,rfl⟩ hl'
      repeat (first|with_reducible_and_instances refine⟨_,rfl,?_⟩|refine⟨_,rfl,?_⟩|refine⟨_,_,rfl,rfl,?_⟩|refine⟨_,_,_,_,rfl,rfl,SqL.of (by assumption),rfl,?_⟩|refine⟨_,_,_,_,rfl,rfl,(by assumption),rfl,?_⟩|refine .inl ⟨_,rfl,?_⟩|refine .inr ⟨_,rfl,?_⟩|refine⟨`Z4,?_⟩)
      have hc':x.cps.toList[i]?=some c:=by simpa using hc
      have tk:(x.cps.toList.take i).map (λc=>V.bl (za2 c))++ [V.bl (za2 c)]=(x.cps.toList.take (i+1)).map (λc=>V.bl (za2 c)):=by
       rw[O3,hc']
       simp
      have ll:((x.cps.toList.take i).map (λc=>V.bl (za2 c))).length<sizeLine:=Nat.lt_of_le_of_lt (by rw[B0,N2];lia) (zl (n:=8) ⋯)
      rw[zs8]
      refine zbK (λha=>(ex2 _ _ ⟨rfl,rfl,hl',ll,⟨_,rfl⟩,?_,zlk⟩)) (λha=>⟨hl',ll,⟨_,rfl⟩,?_,zlk⟩)
      ·rw[zs6,←tk]
       congr 2
       unfold za2
       have ha':¬c<97:=by simpa using ha
       by_cases hq:122<c
       ·rw[N0 hq,A1 (show¬c<=122 by lia)];simp
       ·rw[A1 hq,N0 (show c<=122 by lia),N0 (show 97<=c by lia)];rfl
      ·rw[←tk]
       congr 2
       unfold za2
       have ha':c<97:=by simpa using ha
       rw[A1 (show¬97<=c by lia)];rfl
     ·rintro l ys σ' H' hl ⟨⟨o,rfl⟩,rfl,rfl⟩ hl'
      have tk:(x.cps.toList.take x.length).map (λc=>V.bl (za2 c))=(x.cps.toList.map za2).map V.bl:=by
       rw[List.take_of_length_le (by simp[Str.length]),List.map_map]
       rfl
      rw[tk] at hl'
      rw[tk]
      refine ex2 l _ ⟨rfl,SqL.of hl',vr rfl ?_⟩
      have sm:Same H (upd H l (.lst ((x.cps.toList.map za2).map V.bl))):=Same.new hl
      have ea:(x.cps.toList.map za2).all id=x.cps.toList.all za2:=by rw[List.all_map];rfl
      rw[ea]
      refine zbK (λhA=>?_) (λhA=>?_)
      ·refine vr rfl (ex2 Y.ziF.ad _ ⟨rfl, .inr (Y.ziF.gt _),rfl,rfl,?_⟩)
       have e:zg x=!inV (.str x) (zok.map V.str):=by
        unfold zg inV
        rw[hA,N0 h1',N0 h8',List.any_map]
        simp only[Bool.true_and]
        congr 2
       have q:=q _ sm
       rw[zcK] at q
       rw[e] at q
       exact q
      ·have e:zg x=false:=by
        unfold zg
        have:x.cps.toList.all za2=false:=by simpa using hA
        rw[this]
        simp
       have q:=q _ sm
       rw[zcK] at q
       rw[e] at q
       exact q
   ·have e:zg x=false:=by
     have h1':¬(1:Int)<=(x.length:Int):=λz=>h1 (N0 z)
     have:decide (1<=x.length)=false:=A1 ()
     unfold zg
     rw[this]
     simp
    have q:=q H (Same.refl H)
    rw[zcK] at q
    rw[e] at q
    exact vr rfl q
  |_=>exact q H (Same.refl H)
theorem zhZ(Y:Ev K mg):Y.zdK.O P w base 1 (zjI zeO):=by
 refine Y.zdK.fn.okQ zfM (λvs H Q E h=>?_) `j4
 ·obtain ⟨v,d,rfl,_⟩:=h;rfl
 ·obtain ⟨v,d,rfl,hd,q⟩:=h
  obtain⟨t,ht,h1,h2,h3,h4⟩:=hd.isi (K:=K)
  have q:=q H (Same.refl H)
  refine⟨_,(zi (zv (zfP (zn zdk Y.zbE za8 (zb (qv 0) (zb (zmb Y.int zfu) zd))) (ze7 (zoI (zn zdk Y.zbE za8 (zb (qv 0) (zb (zmb Y.bool zqc) zd)))))))),?_⟩
  try dsimp only[zav]
  refine vr rfl (ex4 _ _ _ _ ⟨rfl,ht,h2,vr rfl ?_⟩)
  refine zbK (λe=>?_) (λe=>?_)
  ·refine vr rfl (ex4 _ _ _ _ ⟨rfl,ht,h3,vr rfl ?_⟩)
   cases d<;>first|exact q|cases e
  ·cases d<;>first|exact q|exact absurd rfl e
noncomputable def zh5:Sp:=λvs H Q _=>∃u v d hs,vs=[u,v]/\HsAt H u hs/\Rep H v d/\∀H',Same H H'->Q (.bl (zP hs d)) H'
theorem zfW(Y:Ev K mg):Y.zb1.O P w base 2 zh5:=by
 have G_is_name:Y.zdt.O P w base 1 (zjI zaw):=zgo Y
 refine Y.zb1.fn.okQ zgR (λvs H Q E h=>?_) `j4
 ·obtain ⟨u,v,d,hs,rfl,_⟩:=h;rfl
 ·obtain ⟨u,v,d,hs,rfl,⟨p,rfl,hp,hl,hn⟩,hd,q⟩:=h
  refine⟨_,(zi (zv (zfP (zH Y.zdt G_is_name hr (zb (qv 1) zd)) (ze7 (zaZ zen (qv 1) (qv 0)))))),?_⟩
  try dsimp only[zav]
  refine vr rfl (ex2 v d ⟨rfl,hd,λH1 s1=>(vr rfl (zbK (λe=>?_) (λe=>?_)))⟩)
  ·cases d with
   |str x=>
    cases hd
    refine vr rfl (vr rfl (ex2 p _ ⟨rfl, .inr (.inl (.inl (s1 _ _ hp))),rfl,zbX,?_⟩))
    have q:=q H1 s1
    have ea:zP hs (.str x)=inV (.str x) (hs.map V.str):=by
     show(zg x&&hs.any λy=>decide (y=x))=_
     rw[zdx,show zg x=true from e];rfl
    rw[ea] at q
    exact q
   |_=>cases e
  ·have q:=q H1 s1
   have ea:zP hs d=false:=by
    show(zaw d&&inD hs d)=false
    rw[tru e];rfl
   rw[ea] at q
   exact q
noncomputable def zkK:Sp:=λvs H Q _=>∃(v:V) (x:Str) (g:Str) (hs:List Str) (ps:List (Str×Str)) (lks hds:List D),vs=[v, .str x]/\Rep H v (zbA g hs ps lks hds)/\TownOk g hs ps lks hds/\∀(l:Addr) (ts:List Str) (H':Hp),H l=none->H' l=some (.lst (ts.map V.str))->ts.Perm (zaR ps x)->sortedS ts=true->Same H H'->Q (.ref l) H'
theorem zll(Y:Ev K mg):Y.tied.O P w base 1 zkK:=by
 refine Y.tied.fn.okQ zgm (λvs H Q E h=>?_) `j4
 ·obtain ⟨v,x,g,hs,ps,lks,hds,rfl,_⟩:=h;rfl
 ·obtain ⟨v,x,g,hs,ps,lks,hds,rfl,hv,T,q⟩:=h
  obtain⟨p,pr,pt,pl,pa,vt,vl,va,rfl,hp,hpr,hpt,rt,hpl,rl,hpa,ra⟩:=zbL hv
  have TP:=T.lp
  refine⟨_,(zh (zI 2 zgm.nd (zx zm (qv 0) ze))
   (zi (zv (zn zcq Y.sorted zbB (zb (zQ zdE (zaQ (src:=[none,none,some 1]) zgV rfl rfl (zbM (qv 2)) (λ_ _ _ _ _=>(zfy (K:=K) 2 rfl rfl (zo (zk 0 zgV.nd) (zo (zk 1 zgV.nd) zaB)))) (λ_ _ _ _ _=>(zcS (zE zax (qv 1) (qc 2)))) (λ_ _ _ _ _=>(qv 0))) (zaQ (src:=[none,none,some 1]) zgT rfl rfl (zbM (qv 2)) (λ_ _ _ _ _=>(zfy (K:=K) 2 rfl rfl (zo (zk 0 zgT.nd) (zo (zk 1 zgT.nd) zaB)))) (λ_ _ _ _ _=>(zcS (zE zax (qv 0) (qc 2)))) (λ_ _ _ _ _=>(qv 1)))) zd))))),?_⟩
  try dsimp only[zav]
  refine vr rfl (ixT hp (zG (j:=2) rfl) ?_)
  refine vr rfl ⟨pt,rfl,⟨_, .inl (.inl hpt)⟩,?_⟩
  refine zeZ (ps:=ps) (sel:=λp=>decide (p.2=x)) (f:=(·.1)) (λσ'=>∃o1 o2,σ'=[o1,o2,some (.str x)]) (za1 (K:=K)) (λH' s'=> .inl (.inl (s' _ _ hpt))) rt () (ex2 _ _ rfl) ?_ λl1 H1 s1 hl1 e1=>?_
  ·rintro q p σ' H1 A B ⟨o1,o2,rfl⟩ s1 hq hp1 k
   refine ex2 q _ ⟨rfl, .inl (.inl hq),rfl,ex2 _ _ ⟨rfl,ex2 _ _ ⟨rfl,rfl,vr rfl (vr rfl ⟨rfl,vr rfl ?_⟩)⟩⟩⟩
   have k:=k [some (.str p.1),some (.str p.2),some (.str x)] ⟨_,_,rfl⟩
   rw[zab]
   cases e:decide (p.2=x)with
   |false=>rw[e] at k;exact k
   |true=>rw[e] at k;exact⟨_,rfl,k⟩
  refine vr rfl ⟨pt,rfl,⟨_, .inl (.inl (s1 _ _ hpt))⟩,?_⟩
  refine zeZ (ps:=ps) (sel:=λp=>decide (p.1=x)) (f:=(·.2)) (λσ'=>∃o1 o2,σ'=[o1,o2,some (.str x)]) (za1 (K:=K)) (λH' s'=> .inl (.inl (s' _ _ (s1 _ _ hpt)))) (rt.mono (.of s1)) () (ex2 _ _ rfl) ?_ λl2 H2 s2 hl2 e2=>?_
  ·rintro q p σ' H1 A B ⟨o1,o2,rfl⟩ s1 hq hp1 k
   refine ex2 q _ ⟨rfl, .inl (.inl hq),rfl,ex2 _ _ ⟨rfl,ex2 _ _ ⟨rfl,rfl,vr rfl (vr rfl ⟨rfl,vr rfl ?_⟩)⟩⟩⟩
   have k:=k [some (.str p.1),some (.str p.2),some (.str x)] ⟨_,_,rfl⟩
   rw[zab]
   cases e:decide (p.1=x)with
   |false=>rw[e] at k;exact k
   |true=>rw[e] at k;exact⟨_,rfl,k⟩
  have nl:=znS T x
  have nl':((ps.filter λp=>decide (p.2=x)).map (·.1)).length+((ps.filter λp=>decide (p.1=x)).map (·.2)).length<=10:=by rw[←W0];exact nl
  refine ex4 l1 l2 _ _ ⟨rfl,rfl,s2 _ _ e1,e2,Z2 (zl (by simp only[B0] at nl'⊢;lia)),λl3 hl3=>?_⟩
  rw[←J2]
  have S3:=Same.new (o:= .lst ((zaR ps x).map V.str)) hl3
  refine⟨l3,zaR ps x,rfl, .inl (SqL.of zc),(),λts l4 hp4 hs4 hl4=>q l4 ts _ ?_ zc hp4 hs4 (((s1.trans s2).trans S3).trans (Same.new hl4))⟩
  exact zbI ((s1.trans s2).trans S3) hl4
noncomputable def zlP:Sp:=λvs H Q _=>∃(l:Addr) (ws:List Str),vs=[.ref l]/\H l=some (.lst (ws.map V.str))/\ws.length<=64/\∀H',Same H H'->Q (.bl (zb3 (ws.map D.str))) H'
theorem zi1(Y:Ev K mg):Y.zdL.O P w base 1 zlP:=by
 refine Y.zdL.fn.okQ zdV (λvs H Q E h=>?_) `j4
 ·obtain ⟨v,ds,rfl,_⟩:=h;rfl
 ·obtain ⟨p,ws,rfl,hp,hl,q⟩:=h
  refine⟨_,(zi (zv (zn (zbC rfl) Y.all zd8 (zb (zaQ (src:=[none,some 0]) zeA rfl rfl (zcD Y.range (zb (zQ zdG (zn zJ Y.len zap (zb (qc 0) zd)) ze) zd)) (λ_ _ _ _ _=>(zk 0 zeA.nd)) (λ_ _ _ _ _=>zdi) (λ_ _ _ _ _=>(zaZ (zr0 hr.units0) (zx (zln (K:=K) rfl) (qc 1) (qv 0)) (zx (zln (K:=K) rfl) (qc 1) (zQ zaU (qv 0) ze))))) zd)))),?_⟩
  try dsimp only[zav]
  refine vr rfl (.inl (ex2 p _ ⟨rfl, .inl (SqL.of hp),ex2 _ _ ⟨rfl,rfl,vr rfl ⟨?_,?_,?_⟩⟩⟩))
  ·rw[B0];lia
  ·rw[B0];lia
  have e:(((ws.map V.str).length:Int) -1).toNat=ws.length -1:=by rw[B0];lia
  rw[e]
  let I0:Addr->Nat->List V->St->Hp->Prop:=λl i ys σ' H'=>(∃o,σ'=[o,some (.ref p)])/\ys=((List.range i).map λk=>ltD ((ws.map D.str).getD k .non) ((ws.map D.str).getD (k+1) .non)).map V.bl/\Same H H'
  refine zbv zdb I0 ?_ (λ_ _ _ _ _ _ _=>trivial) ?_ ?_
  ·exact λl hl=>⟨⟨_,rfl⟩,rfl,Same.new hl⟩
  ·rintro l i y ys σ' H1 hl' hi rfl ⟨⟨o,rfl⟩,rfl,s1⟩ hl1
   have hi0:i<ws.length:=()
   have hi1:i+1<ws.length:=()
   have hp1:=s1 _ _ hp
   have e0:atI (ws.map V.str) (0+(i:Int))=some (.str ws[i]):=by rw[Int.zero_add];exact zG (by simp[hi0])
   have e1:atI (ws.map V.str) (0+(i:Int)+1)=some (.str ws[i+1]):=by rw[Int.zero_add];exact zG (j:=i+1) (by simp[hi1])
   have g0:(ws.map D.str).getD i .non= .str ws[i]:=by simp[List.getD,hi0]
   have g1:(ws.map D.str).getD (i+1) .non= .str ws[i+1]:=by simp[List.getD,hi1]
   refine vr rfl (vr rfl (.inl (ixL hp1 e0 (vr rfl (vr rfl (ex2 _ _ ⟨rfl,rfl, .inl (ixL hp1 e1 (.inl (ex2 _ _ ⟨rfl,rfl,?_⟩)))⟩))))))
   refine⟨hl1,?_,⟨_,rfl⟩,?_,?_⟩
   ·rw[B0,B0,List.length_range]
    exact zl ()
   ·rw[List.range_succ,J2,J2,Y1,g0,g1];rfl
   ·exact λc o e=>by
     rw[zj (zr e hl')]
     exact s1 _ _ e
  ·rintro l ys σ' H1 hl' ⟨⟨o,rfl⟩,rfl,s1⟩ hl1
   refine ex2 l _ ⟨rfl,SqL.of hl1,?_⟩
   have q:=q H1 s1
   unfold zb3 at q
   rw[B0] at q
   rw[zbV]
   exact q
noncomputable def zqJ:Sp:=λvs H Q _=>∃(u v:V) (d:D) (g:Str) (hs:List Str) (ps:List (Str×Str)) (lks hds:List D),vs=[u,v]/\Rep H u (zbA g hs ps lks hds)/\TownOk g hs ps lks hds/\Rep H v d/\∀H',Same H H'->Q (.bl (zbq g hs ps d)) H'
theorem zmN(Y:Ev K mg):Y.zgg.O P w base 3 zqJ:=by
 have G_is_row:Y.zbN.O P w base 1 zjH:=zek Y
 have G_is_house:Y.zb1.O P w base 2 zh5:=zfW Y
 have G_is_rising:Y.zdL.O P w base 1 zlP:=zi1 Y
 have G_tied:Y.tied.O P w base 1 zkK:=zll Y
 refine Y.zgg.fn.okQ zdj (λvs H Q E h=>?_) `j4
 ·obtain ⟨u,v,d,g,hs,ps,lks,hds,rfl,_⟩:=h;rfl
 ·obtain ⟨u,v,d,g,hs,ps,lks,hds,rfl,hv,T,hd,q⟩:=h
  obtain⟨p,pr,pt,pl,pa,vt,vl,va,rfl,hp,hpr,hpt,rt,hpl,rl,hpa,ra⟩:=zbL hv
  have T10:=T.ten
  refine⟨_,(zh (zdd (zdB zbc (qc 0) zba (zaW ze)) (zbS 2 rfl (zo (zk 2 zdj.nd) (zo (zfd 3 zdj.nd) zaB))))
   (zh (zak (t_w (zcO (zbp (za4 (zH Y.zbN G_is_row hr (zb (qc 1) (zb ze (zb (zn zJ Y.len zap (zb (qc 3) zd)) zd)))))) (zcZ (zbp (za4 (zn (zbC rfl) Y.all zd8 (zb (zaQ (src:=[none,some 3]) zgt rfl rfl (zbM (qc 1)) (λ_ _ _ _ _=>(zk 0 zgt.nd)) (λ_ _ _ _ _=>zdi) (λ_ _ _ _ _=>(zH Y.zb1 G_is_house hr (zb (qc 1) (zb (qv 0) zd))))) zd))))))) (zi (zv zbT)) zL)
   (zh (zak (t_w (zcO (zE zeT (zx zm (qc 1) (zf6 zcd ze)) (qv 2)) (zcZ (zbp (za4 (zH Y.zdL G_is_rising hr (zb (zn zcq Y.sorted zbB (zb (qc 1) zd)) zd))))))) (zi (zv zbT)) zL)
   (zi (zv (zn (zbC rfl) Y.all zd8 (zb (zaQ (src:=[none,some 1,some 0]) zgj rfl rfl (zcD Y.range (zb (zQ zdG (zn zJ Y.len zap (zb (qc 1) zd)) ze) zd)) (λ_ _ _ _ _=>(zk 0 zgj.nd)) (λ_ _ _ _ _=>zdi) (λ_ _ _ _ _=>(zaZ (zkw (K:=K) rfl) (zx (zbb (K:=K) rfl) (qc 1) (zQ zaU (qv 0) ze)) (zH Y.tied G_tied hr (zb (qc 2) (zb (zx (zbb (K:=K) rfl) (qc 1) (qv 0)) zd)))))) zd))))))),?_⟩
  try dsimp only[zav]
  refine vr rfl ⟨2,rfl,ex2 p _ ⟨rfl, .inl (.inl hp),λz=>?_,λp2 hp2=>?_⟩⟩
  ·have:=j3 List.length z
   cases this
  have S2:=Same.new (o:= .tup [.str g, .ref pr]) hp2
  refine ex2 p2 [.str g, .ref pr] ⟨rfl, .inl (.inl zc),rfl,ex2 _ _ ⟨rfl,ex2 _ _ ⟨rfl,rfl,?_⟩⟩⟩
  show zm2 _ _ _ _ (upd H p2 (.tup [.str g, .ref pr]))
  have hv2:=hv.same S2
  have hpr2:=S2 _ _ hpr
  have hd2:=hd.same S2
  generalize (upd H p2 (HO.tup [.str g, .ref pr]))=H2 at *
  refine vr rfl (vr rfl (.inl (ex2 pr _ ⟨rfl, .inr (.inl (.inl hpr2)),ex4 v d 1 _ ⟨rfl,hd2,λH3 s3=>(vr rfl ?_)⟩⟩)))
  rw[B0]
  cases hrow:zaN d 1 hs.length with
  |false=>
   have q:=q H3 (S2.trans s3)
   rw[zoW hrow] at q
   exact q
  |true=>
   refine zO rfl ?_
   obtain⟨ds,rfl,n1,nh⟩:=znd hrow
   have hd3:=hd2.same s3
   obtain⟨pv,us,rfl,hpv,ru,_⟩:=hd3.ofT
   have hpr3:=s3 _ _ hpr2
   have HsA:HsAt H3 (.ref pr) hs:=⟨pr,rfl,hpr3,T10,T.names⟩
   refine vr rfl ⟨pv,rfl,⟨_, .inl (.inl hpv)⟩,?_⟩
   refine zdz (g:=zP hs) (σr:=[some (.ref pr)]) (za1 (K:=K)) (λH' s=> .inl (.inl (s _ _ hpv))) ru () rfl (λx d HA Q1 sA rx hd q1=>(vr rfl (vr rfl (ex4 _ x d hs ⟨rfl,HsA.same sA,rx,q1⟩)))) (λl4 H4 s4 _ hl4=>?_)
   refine ex2 l4 _ ⟨rfl,SqL.of hl4,vr rfl ?_⟩
   rw[zbV]
   cases hall:ds.all (zP hs)with
   |false=>
    have q:=q H4 ((S2.trans s3).trans s4)
    rw[zpK (show zkF (zP hs) (.tup ds)=false from hall)] at q
    exact q
   |true=>
    refine zO rfl ?_
    obtain⟨ws,rfl,hw⟩:=zee hall
    obtain⟨p',e',hpw⟩:=zaC hd3
    cases e'
    rw[B0] at n1 nh
    obtain⟨w0,z,rfl⟩:∃w0 z,ws=w0 ++ [z]:=⟨ws.dropLast,ws.getLast (λz=>by rw[z] at n1;simp at n1),(List.dropLast_concat_getLast _).symm⟩
    have hpw4:=s4 _ _ hpw
    have hat:atI ((w0 ++ [z]).map V.str) (-1)=some (.str z):=by rw[J2];exact zgB _ _
    have weq:=zqX (g:=g) (ps:=ps) hrow hall
    dsimp only[za5]
    refine vr rfl ⟨1,rfl,ixT hpw4 hat (vr rfl ⟨rfl,vr rfl ?_⟩)⟩
    rw[zab]
    cases hz:decide (z=g)with
    |false=>
     have q:=q H4 ((S2.trans s3).trans s4)
     rw[weq,hz] at q
     exact q
    |true=>
     refine zO rfl ?_
     refine vr rfl ⟨pv,w0 ++ [z],rfl, .inr (.inl (.inl hpw4)),(),λss l5 hp5 hs5 hl5=>?_⟩
     have S5:=Same.new (o:= .lst (ss.map V.str)) hl5
     refine ex2 l5 ss ⟨rfl,zc,by rw[hp5.length_eq];lia,λH6 s6=>(vr rfl ?_)⟩
     rw[zko hp5 hs5]
     have S6:=S5.trans s6
     have sAll:=((S2.trans s3).trans s4).trans S6
     cases hnd:decide (w0 ++ [z]).Nodup with
     |false=>
      have q:=q H6 sAll
      rw[weq,hz,hnd] at q
      exact q
     |true=>
      refine zO rfl ?_
      have hpw6:=S6 _ _ hpw4
      have hv6:=hv2.same ((s3.trans s4).trans S6)
      refine vr rfl (.inl (ex2 pv _ ⟨rfl, .inr (.inl (.inl hpw6)),ex2 _ _ ⟨rfl,rfl,vr rfl ⟨?_,?_,?_⟩⟩⟩))
      ·rw[B0];lia
      ·rw[B0];lia
      have e:((((w0 ++ [z]).map V.str).length:Int) -1).toNat=(w0 ++ [z]).length -1:=by rw[B0];lia
      rw[e]
      let I1:Addr->Nat->List V->St->Hp->Prop:=λl i ys σ' H'=>(∃o,σ'=[o,some (.ref pv),some (.ref p)])/\ys=((List.range i).map λk=>decide ((w0 ++ [z]).getD (k+1) ""∈zaR ps ((w0 ++ [z]).getD k ""))).map V.bl/\Same H6 H'
      refine zbv zdb I1 ?_ (λ_ _ _ _ _ _ _=>trivial) ?_ ?_
      ·exact λl hl=>⟨⟨_,rfl⟩,rfl,Same.new hl⟩
      ·rintro l i y ys σ' H7 hl' hi rfl ⟨⟨o,rfl⟩,rfl,s7⟩ hl7
       have hi0:i<(w0 ++ [z]).length:=()
       have hi1:i+1<(w0 ++ [z]).length:=()
       have e0:atI ((w0 ++ [z]).map V.str) (0+(i:Int))=some (.str (w0 ++ [z])[i]):=by rw[Int.zero_add];exact zG (by simp only[V0,F0 hi0];rfl)
       have e1:atI ((w0 ++ [z]).map V.str) (0+(i:Int)+1)=some (.str (w0 ++ [z])[i+1]):=by rw[Int.zero_add];exact zG (j:=i+1) (by simp only[V0,F0 hi1];rfl)
       have g0:(w0 ++ [z]).getD i ""=(w0 ++ [z])[i]:=by simp only[List.getD,F0 hi0,Q3]
       have g1:(w0 ++ [z]).getD (i+1) ""=(w0 ++ [z])[i+1]:=by simp only[List.getD,F0 hi1,Q3]
       have hpw7:=s7 _ _ hpw6
       refine vr rfl (vr rfl (ex2 _ _ ⟨rfl,rfl,ixT hpw7 e1 (vr rfl (vr rfl (vr rfl (ixT hpw7 e0 (ex4 _ _ g hs (ex3 ps lks hds ⟨rfl,hv6.same s7,T,λl8 ts H8 hl8 e8 hp8 hs8 s8=>?_⟩))))))⟩))
       refine ex2 l8 _ ⟨rfl, .inl (SqL.of e8),rfl,zbX,?_⟩
       refine⟨s8 _ _ hl7,?_,⟨_,rfl⟩,?_,?_⟩
       ·rw[B0,B0,List.length_range]
        exact zl ()
       ·rw[List.range_succ,J2,J2,Y1,g0,g1]
        have hin:(if false=true then !inV (V.str (w0 ++ [z])[i+1]) (ts.map V.str)else inV (V.str (w0 ++ [z])[i+1]) (ts.map V.str))=decide ((w0 ++ [z])[i+1]∈zaR ps (w0 ++ [z])[i]):=by
         rw[Y0 ⋯,zdx,G2,P0,←hp8.mem_iff,List.any_eq_true]
         exact⟨λ⟨y,hy,e⟩=>by rw[←R0 e];exact hy,λh=>⟨_,h,N0 rfl⟩⟩
        rw[hin];rfl
       ·exact λc o e=>by
         rw[zj (zr e hl')]
         exact s8 _ _ (s7 _ _ e)
      ·rintro l ys σ' H7 hl' ⟨⟨o,rfl⟩,rfl,s7⟩ hl7
       refine ex2 l _ ⟨rfl,SqL.of hl7,?_⟩
       have q:=q H7 (sAll.trans s7)
       rw[weq,hz,hnd] at q
       rw[zbV]
       exact q
noncomputable def zea:Sp:=λvs H Q _=>∃(a:Addr) (k n:Int),vs=[.ref a, .int k]/\Hand H a n/\n<2^40/\0<k/\k<1073741824/\∀d H',0<=d->d<k->Hand H' a (n+1)->Keep a H H'->Q (.int d) H'
theorem zdw(Y:Ev K mg):Y.zt.O P w base 1 zea:=by
 refine Y.zt.fn.okQ zbe (λvs H Q E h=>?_) `j4
 ·obtain ⟨a,k,n,rfl,_⟩:=h
  rfl
 ·obtain ⟨a,k,n,rfl,⟨x,m,t,hH,m0,m1,t0,t1⟩,hn,k0,k1,q⟩:=h
  refine⟨_,(zh (zak (zE zew (zx zag (qv 0) ze) ze) (zh (zI 2 zbe.nd (zQ zdy (zx zag (qv 0) ze) (qv 1)))
   (zh (zdd (zQ zgd (zx zag (qv 0) ze) (qv 1)) (znh (qv 0) ze zgC))
   (zi (zv (qv 2))))) zL)
   (zh (zdd (zQ zaU (zx zag (qv 0) ze) ze) (znh (qv 0) ze zgC))
   (zh (zI 3 zbe.nd (zx zag (qv 0) ze))
   (zh (zI 4 zbe.nd (zQ zdy (zQ zcJ (zx zag (qv 0) ze) (zQ zaU (zQ zaU ze (zQ zcJ (zQ zcJ ze (qv 3)) (qv 3))) (zQ zcJ ze (qv 3)))) ze))
   (zh (zI 5 zbe.nd (zQ zaU (zQ zaU (zQ zdy (qv 4) ze) (zQ zcJ (qv 3) ze)) ze))
   (zh (zI 4 zbe.nd (zQ zdy (zQ zcJ (qv 4) (qv 5)) ze))
   (zi (zv (zQ zdy (zQ zaU (zQ zgd (qv 4) ze) (zQ zgd (qv 4) ze)) (qv 1)))))))))),?_⟩
  try dsimp only[zav]
  repeat (first|with_reducible_and_instances refine⟨_,rfl,?_⟩|refine⟨_,rfl,?_⟩|refine⟨_,_,rfl,rfl,?_⟩|refine⟨_,_,_,_,rfl,rfl,SqL.of (by assumption),rfl,?_⟩|refine⟨_,_,_,_,rfl,rfl,(by assumption),rfl,?_⟩|refine .inl ⟨_,rfl,?_⟩|refine .inr ⟨_,rfl,?_⟩|refine⟨`Z4,?_⟩)
  refine zbK (λhx=>?_) (λhx=>?_)
  ·repeat (first|with_reducible_and_instances refine⟨_,rfl,?_⟩|refine⟨_,rfl,?_⟩|refine⟨_,_,rfl,rfl,?_⟩|refine⟨_,_,_,_,rfl,rfl,SqL.of (by assumption),rfl,?_⟩|refine⟨_,_,_,_,rfl,rfl,(by assumption),rfl,?_⟩|refine .inl ⟨_,rfl,?_⟩|refine .inr ⟨_,rfl,?_⟩|refine⟨`Z4,?_⟩)
   exact q _ _ (Int.emod_nonneg _ ()) (Int.emod_lt_of_pos _ k0) ⟨_,m,t,zc,m0,m1,t0,()⟩ (Keep.upd _ _ _)
  ·refine vr rfl (ixL hH rfl (ex2 _ _ ⟨rfl,rfl,vr rfl (ex4 a _ _ _ ⟨rfl,rfl,hH,rfl,?_⟩)⟩))
   have h2:upd H a (.lst [.int x, .int m, .int (t+1)]) a=some (.lst [.int x, .int m, .int (t+1)]):=zc
   repeat (first|with_reducible_and_instances refine⟨_,rfl,?_⟩|refine⟨_,rfl,?_⟩|refine⟨_,_,rfl,rfl,?_⟩|refine⟨_,_,_,_,rfl,rfl,SqL.of (by assumption),rfl,?_⟩|refine⟨_,_,_,_,rfl,rfl,(by assumption),rfl,?_⟩|refine .inl ⟨_,rfl,?_⟩|refine .inr ⟨_,rfl,?_⟩|refine⟨`Z4,?_⟩)
   exact q _ _ (Int.emod_nonneg _ ()) (Int.emod_lt_of_pos _ k0) ⟨_,m,_,zc,m0,m1,(),()⟩ (Keep.upd _ _ _)
noncomputable def zcf(K:W.Frag):Sp:=λvs H Q _=>∃(a:Addr) (n:Int),Hand H a n/\n<2^40/\
 ((∃(b:Addr) (xs:List V),vs=[.ref a, .ref b]/\b≠a/\SqL K H b xs/\0<xs.length/\xs.length<1000/\∀v H',v∈xs->Hand H' a (n+1)->Keep a H H'->Q v H')\/
  (∃z:Str,vs=[.ref a, .str z]/\0<z.length/\z.length<1000/\∀c H',c∈z.cps.toList->Hand H' a (n+1)->Keep a H H'->Q (.str (one c)) H'))
theorem zdF(Y:Ev K mg):Y.zz.O P w base 2 (zcf K):=by
 have G__law_take:Y.zt.O P w base 1 zea:=zdw Y
 refine Y.zz.fn.okQ zfL (λvs H Q E h=>?_) `j4
 ·obtain ⟨a,n,_,_,⟨b,xs,rfl,_⟩|⟨z,rfl,_⟩⟩:=h<;>rfl
 ·obtain ⟨a,n,hH,hn,h⟩:=h
  have hl:∀m:Nat,m<1000->m<=sizeLine:=λm h=>Z2 (zl (Z2 h))
  rcases h with⟨b,xs,rfl,hb,hS,x0,x1,q⟩|⟨z,rfl,z0,z1,q⟩
  ·refine ⟨_,(zi (zv (zx zkb (qv 1) (zH Y.zt G__law_take hr (zb (qv 0) (zb (zn zJ Y.len zap (zb (qv 1) zd)) zd)))))),?_⟩
   try dsimp only[zav]
   refine vr rfl (vr rfl (vr rfl (.inl (ex2 b xs ⟨rfl, .inl hS,ex3 a _ n ⟨rfl,hH,hn,(),(),λd H' h0 h1 hH' kp=>?_⟩⟩))))
   obtain⟨v,e,hv⟩:=zdA h0 h1
   exact .inl (ex4 b xs d v ⟨rfl,rfl,kp.sqL hb hS,e,q v H' hv hH' kp⟩)
  ·refine ⟨_,(zi (zv (zx zkb (qv 1) (zH Y.zt G__law_take hr (zb (qv 0) (zb (zn zJ Y.len zap (zb (qv 1) zd)) zd)))))),?_⟩
   try dsimp only[zav]
   refine vr rfl (vr rfl (vr rfl (.inr ⟨z,rfl,hl _ z1,ex3 a _ n ⟨rfl,hH,hn,(),(),λd H' h0 h1 hH' kp=>?_⟩⟩)))
   obtain⟨c,e,hc⟩:=zdA (xs:=z.cps.toList) h0 (by simpa[Str.length] using h1)
   exact .inr (.inr (ex3 z d c ⟨rfl,rfl,hl _ z1,e,q c H' hc hH' kp⟩))
noncomputable def znL(K:W.Frag):Sp:=λvs H Q _=>∃(b:Addr) (ns:List Int) (k:Int),vs=[.ref b, .int k]/\SqL K H b (ns.map V.int)/\0<=k/\k<1000/\∀a H',H a=none->Hand H' a 0->Same H H'->Q (.ref a) H'
theorem zp1(Y:Ev K mg):Y.zdN.O P w base 1 (znL K):=by
 refine Y.zdN.fn.okQ zc2 (λvs H Q E h=>?_) `j4
 ·obtain ⟨a,k,n,rfl,_⟩:=h
  rfl
 ·obtain ⟨b,ns,k,rfl,hS,k0,k1,q⟩:=h
  refine⟨_,(zh (zI 2 zc2.nd ze)
   (zh (zak (zE zjq (qv 1) (zn zJ Y.len zap (zb (qv 0) zd))) (zi (zI 2 zc2.nd (zx zag (qv 0) (qv 1)))) zL)
   (zi (zv (za0 (zb (zQ zcJ (qv 2) (zah zdo Y.int zfu (zb (zaZ zql (qv 2) (zQ zr3 ze ze)) zd))) (zb (zQ zaU (zQ zaU (zQ zdy (qv 2) ze) (zQ zcJ ze (qv 1))) ze) (zb ze zd)))))))),?_⟩
  try dsimp only[zav]
  refine vr rfl (vr rfl (.inl (ex2 b _ ⟨rfl, .inl hS,ex2 _ _ ⟨rfl,rfl,vr rfl ?_⟩⟩)))
  refine zbK (λhx=>?_) (λhx=>?_)
  ·have hx':k<((ns.map V.int).length:Int):=R0 hx
   obtain⟨v,e,hv⟩:=zdA k0 hx'
   obtain⟨c,_,rfl⟩:=G1.mp hv
   refine vr rfl (vr rfl (ex4 b _ k _ ⟨rfl,rfl,hS,e,?_⟩))
   repeat (first|with_reducible_and_instances refine⟨_,rfl,?_⟩|refine⟨_,rfl,?_⟩|refine⟨_,_,rfl,rfl,?_⟩|refine⟨_,_,_,_,rfl,rfl,SqL.of (by assumption),rfl,?_⟩|refine⟨_,_,_,_,rfl,rfl,(by assumption),rfl,?_⟩|refine .inl ⟨_,rfl,?_⟩|refine .inr ⟨_,rfl,?_⟩|refine⟨`Z4,?_⟩)
   intro p hp
   exact q p _ hp ⟨_,_,_,zc,(),(),⋯,⋯⟩ (λb' o hb'=>by rw[zj (zr hb' hp)];exact hb')
  ·repeat (first|with_reducible_and_instances refine⟨_,rfl,?_⟩|refine⟨_,rfl,?_⟩|refine⟨_,_,rfl,rfl,?_⟩|refine⟨_,_,_,_,rfl,rfl,SqL.of (by assumption),rfl,?_⟩|refine⟨_,_,_,_,rfl,rfl,(by assumption),rfl,?_⟩|refine .inl ⟨_,rfl,?_⟩|refine .inr ⟨_,rfl,?_⟩|refine⟨`Z4,?_⟩)
   intro p hp
   exact q p _ hp ⟨_,_,_,zc,(),(),⋯,⋯⟩ (λb' o hb'=>by rw[zj (zr hb' hp)];exact hb')
noncomputable def ziV:Sp:=λvs H Q _=>∃(a:Addr) (n:Int) (m:Nat),vs=[.ref a, .int m]/\Hand H a n/\n<2^39/\4<=m/\m<=13/\∀(l:Addr) (xs:List Str) (H':Hp),H l=none->H' l=some (.lst (xs.map V.str))->xs.length=m->(∀x∈xs,zg x=true)->xs.Nodup->(∀x∈xs,x≠"nowhere")->Hand H' a (n+4)->Keep a H H'->Q (.ref l) H'
theorem zlY(Y:Ev K mg):Y.zc7.O P w base 3 ziV:=by
 have G__law_take:Y.zt.O P w base 1 zea:=zdw Y
 have G__law_pick:Y.zz.O P w base 2 (zcf K):=zdF Y
 refine Y.zc7.fn.okQ zan (λvs H Q E h=>?_) `j4
 ·obtain ⟨a,n,m,rfl,_⟩:=h;rfl
 ·obtain ⟨a,n,m,rfl,hH,hn,m4,m13,q⟩:=h
  refine⟨_,(zh (zeh 2 zan.nd zar)
   (zh (zeh 3 zan.nd (zH Y.zt G__law_take hr (zb (qv 0) (zb ze zd))))
   (zh (zeh 4 zan.nd (zH Y.zz G__law_pick hr (zb (qv 0) (zb (zfx [V.int 1,V.int 3,V.int 5,V.int 7,V.int 9,V.int 11] `n4) zd))))
   (zh (zcv 5 (src:=[none,some 3,some 2,some 4]) zef rfl rfl zan.nd (zcD Y.range (zb (qv 1) zd)) (λ_ _ _ _ _=>(zk 0 zef.nd)) (λ_ _ _ _ _=>zdi) (λ_ _ _ _ _=>(zQ zjp (zx zn1 (qc 2) (zQ zdy (zQ zaU (qc 1) (zQ zcJ (qc 3) (qv 0))) ze)) (zQ zaU ze (zQ zdy (zQ zaU (zQ zcJ (qv 0) (qv 0)) (qc 1)) ze)))))
   (zey (zak (zE zax (zH Y.zt G__law_take hr (zb (qv 0) (zb ze zd))) ze) (zh (zI 6 zan.nd (zfx [V.str "goal",V.str "to",V.str "by",V.str "houses",V.str "tie",V.str "like",V.str "hand",V.str "keep",V.str "put",V.str "mark",V.str "long",V.str "from",V.str "strike"] `n4))
   (zh (zI 7 zan.nd (zH Y.zt G__law_take hr (zb (qv 0) (zb ze zd))))
   (zi (zbG J3 rfl (zcD Y.range (zb (zn (zhJ rfl) Y.min zh1 (zb (qv 1) (zb ze zd))) zd)) (zk 8 zan.nd) (zi (zdd (zx zag (qv 6) (zQ zdy (zQ zaU (qv 7) (zQ zcJ ze (qv 8))) ze)) (znh (qv 5) (qv 8) zgC))))))) zL)
   (zi (zv (qv 5)))))))),?_⟩
  try dsimp only[zav]
  refine vr rfl (ex3 a 26 n ⟨rfl,hH,(),⋯,⋯,λf' H1 f0 f26 hH1 k1=>?_⟩)
  obtain⟨f,rfl⟩:∃f:Nat,f'=(f:Int):=⟨f'.toNat,()⟩
  refine vr rfl ⟨⋯,λpl hpl=>⟨a,n+1,hH1.new hpl,(), .inl (ex2 pl _ ⟨rfl,hH1.ne hpl,SqL.of zc,⋯,⋯,λv H2 hv hH2 k2=>?_⟩)⟩⟩
  obtain⟨st,rfl,st0,st11⟩:∃st:Nat,v= .int (st:Int)/\st∈zoM/\st<=11:=by
   simp only[K0,C3,or_false] at hv
   rcases hv with rfl|rfl|rfl|rfl|rfl|rfl
   ·exact ⟨1,rfl,⋯,⋯⟩
   ·exact ⟨3,rfl,⋯,⋯⟩
   ·exact ⟨5,rfl,⋯,⋯⟩
   ·exact ⟨7,rfl,⋯,⋯⟩
   ·exact ⟨9,rfl,⋯,⋯⟩
   ·exact ⟨11,rfl,⋯,⋯⟩
  have kp2:Keep a H H2:=k1.trans ((Keep.new hpl).trans k2)
  refine vr rfl ⟨m,rfl,(),(),?_⟩
  let I0:Addr->Nat->List V->St->Hp->Prop:=λl i ys σ' H'=>(∃o,σ'=[o,some (.int (f:Int)),some (.str zb9),some (.int (st:Int))])/\ys=((List.range i).map (nmS f st)).map V.str/\Hand H' a (n+1+1)/\Keep a H2 H'
  refine zbv zdb I0 ?_ (λ_ _ _ _ _ _ _=>trivial) ?_ ?_
  ·exact λl hl=>⟨⟨_,rfl⟩,rfl,hH2.new hl,Keep.new hl⟩
  ·rintro l i y ys σ' H' hl hi rfl ⟨⟨o,rfl⟩,rfl,hH',k'⟩ hl'
   have hi13:i<13:=by have:i<m:=()
                      lia
   have hr26:(f+st*i)%26<26:=Nat.mod_lt _ ⋯
   have ei:((f:Int)+(st:Int)*(0+(i:Int)))%26=(((f+st*i)%26:Nat):Int):=by rw[Int.zero_add];push_cast;rfl
   have ec:atI zb9.cps.toList (((f:Int)+(st:Int)*(0+(i:Int)))%26)=some (97+(f+st*i)%26):=by
    rw[ei];exact zG (zgz _ (U2.mpr hr26))
   have en:(1+((0+(i:Int))*(0+(i:Int))+(f:Int))%8)=((1+(i*i+f)%8:Nat):Int):=by rw[Int.zero_add];push_cast;rfl
   have g8:(i*i+f)%8<8:=Nat.mod_lt _ ⋯
   refine⟨_,rfl,_,rfl,_,rfl,_,rfl,_,_,rfl,rfl, .inl ⟨(),()⟩,_,_,rfl,rfl,_,_,rfl,rfl,(by decide:(0:Int)<26),zb9,_,_,rfl,rfl,by rw[zjx];decide,ec,_,rfl,_,rfl,_,_,rfl,rfl, .inl ⟨(),()⟩,_,rfl,_,_,rfl,rfl,_,_,rfl,rfl,(by decide:(0:Int)<8),_,_,rfl,rfl,one (97+(f+st*i)%26),_,rfl,rfl,by rw[en];lia,by rw[en];lia,by rw[zk5];decide,by rw[zk5];decide,?_⟩
   have nl:=hH2.ne hl
   refine⟨hl',?_,⟨_,rfl⟩,?_,hH'.updNe nl,k'.updNew hl⟩
   ·rw[B0,B0,List.length_range];exact zl ()
   ·rw[en,N3,List.range_succ,J2,J2];rfl
  ·rintro l ys σ' H3 hl ⟨⟨o,rfl⟩,rfl,hH3,k3⟩ hl'
   have nl:=hH2.ne hl
   rw[N3] at hl'
   have e0:(List.range m).map (nmS f st)=(List.range m).map (zbH f st 0 0):=by
    apply List.map_congr_left
    intro k _
    unfold zbH
    rw[Y0 ()]
   have hln:H l=none:=by
    cases e:H l with
    |none=>rfl
    |some o=>exact absurd (kp2 l o nl e) (by rw[hl];exact λz=>nomatch z)
   let I1:St->Hp->Prop:=λσ' H'=>(∃o6 o7 o8,σ'=[some (.ref a),some (.int m),some (.str zb9),some (.int (f:Int)),some (.int (st:Int)),some (.ref l),o6,o7,o8])/\(∃sp j:Nat,H' l=some (.lst (((List.range m).map (zbH f st sp j)).map V.str))/\sp<13/\j<=4)/\Hand H' a (n+4)/\Keep a H H'
   refine⟨I1,?_,?_⟩
   ·refine vr rfl ⟨a,6,n+1+1,rfl,hH3,(),⋯,⋯,λd H4 d0 d6 hH4 k4=>⟨rfl,vr rfl (zbK (λ_=>?_) (λ_=>?_))⟩⟩
    ·have hl4:=k4 _ _ nl hl'
     have kp4:Keep a H H4:=(kp2.trans k3).trans k4
     refine⟨⋯,λpk hpk=>?_⟩
     have npl:pk≠l:=λz=>by rw[z,hl4] at hpk;cases hpk
     have npa:=hH4.ne hpk
     refine vr rfl ⟨a,13,n+1+1+1,rfl,hH4.new hpk,(),⋯,⋯,λsp' H5 sp0 sp13 hH5 k5=>?_⟩
     obtain⟨sp,rfl⟩:∃f:Nat,sp'=(f:Int):=⟨sp'.toNat,()⟩
     refine vr rfl (ex2 _ _ ⟨rfl,vr rfl ⟨?_,?_,?_⟩⟩)
     ·split<;>lia
     ·split<;>lia
     have e4:(if(4:Int)<(m:Int)then(4:Int)else(m:Int)).toNat=4:=by split<;>lia
     rw[e4]
     let I2:Nat->St->Hp->Prop:=λi σ' H'=>(∃o8,σ'=[some (.ref a),some (.int m),some (.str zb9),some (.int (f:Int)),some (.int (st:Int)),some (.ref l),some (.ref pk),some (.int (sp:Int)),o8])/\H' l=some (.lst (((List.range m).map (zbH f st sp i)).map V.str))/\Hand H' a (n+4)/\Keep a H H'/\H' pk=some (.lst (zev.map V.str))
     refine zbi zdb I2 ?_ (λ_ _ _ _=>trivial) ?_ ?_
     ·refine ⟨⟨_,rfl⟩,?_,hH5.mono (),kp4.trans ((Keep.new hpk).trans k5),k5 _ _ npa zc⟩
      have e0':(List.range m).map (nmS f st)=(List.range m).map (zbH f st sp 0):=by
       apply List.map_congr_left
       intro k _
       unfold zbH
       rw[Y0 ()]
      rw[←e0']
      exact k5 _ _ nl (by rw[zj (Ne.symm npl)];exact hl4)
     ·rintro i y σ' H6 hi4 rfl ⟨⟨o8,rfl⟩,hz,hH6,k6,hp6⟩
      have ek:((sp:Int)+3*(0+(i:Int)))%13=(((sp+3*i)%13:Nat):Int):=by rw[Int.zero_add];push_cast;rfl
      have ev:atI (zev.map V.str) (((sp:Int)+3*(0+(i:Int)))%13)=some (.str (kwS sp i)):=by
       rw[ek];exact zG (by rw[V0,zpw];rfl)
      have hix:ixN (((List.range m).map (zbH f st sp i)).map V.str).length (0+(i:Int))=some i:=by
       unfold ixN
       rw[E1 (),E1 (by rw[B0,B0,List.length_range];lia)]
       congr 1
       lia
      refine vr rfl (vr rfl (vr rfl (ex2 _ _ ⟨rfl,rfl, .inl ⟨⋯,⋯⟩,ex2 _ _ ⟨rfl,rfl,ex2 _ _ ⟨rfl,rfl,(by decide:(0:Int)<13),ixL hp6 ev (vr rfl (vr rfl (ex4 l _ _ i ⟨rfl,rfl,hz,hix,?_⟩)))⟩⟩⟩)))
      refine⟨⟨_,rfl⟩,?_,hH6.updNe nl,k6.updNew hln,by rw[zj npl];exact hp6⟩
      rw[zc,←List.map_set,zni ()]
     ·rintro σ' H6 ⟨⟨o8,rfl⟩,hz,hH6,k6,_⟩
      exact⟨(ex3 _ _ _ rfl),⟨sp,4,hz,(),⋯⟩,hH6,k6⟩
    ·rw[e0] at hl'
     exact⟨(ex3 _ _ _ rfl),⟨0,0,k4 _ _ nl hl',⋯,⋯⟩,hH4.mono (),(kp2.trans k3).trans k4⟩
   ·rintro σ' H' ⟨⟨o6,o7,o8,rfl⟩,⟨sp,j,hz,hsp,hj⟩,hH',k'⟩
    refine vr rfl (q l _ H' hln hz (by rw[B0,List.length_range]) (λx hx=>?_) (zjA () st0 hsp hj m13) (λx hx=>?_) hH' k')
    ·obtain ⟨k,_,rfl⟩:=G1.mp hx
     exact zpk _ _ _ _ _
    ·obtain ⟨k,_,rfl⟩:=G1.mp hx
     exact zmQ _ _ _ _ _
def NL(O:List Str)(H:Hp)(l:Addr):Prop:=∃xs:List Str,H l=some (.lst (xs.map V.str))/\0<xs.length/\xs.length<=100/\∀x∈xs,zg x=true/\x∈O
theorem NL.keep{O:List Str}(h:NL O H l)(k:Keep a H H')(n:l≠a):NL O H' l:=let⟨xs,e,r⟩:=h;⟨xs,k _ _ n e,r⟩
theorem NL.same{O:List Str}(h:NL O H l)(k:Same H H'):NL O H' l:=let⟨xs,e,r⟩:=h;⟨xs,k _ _ e,r⟩
theorem zcu{O:List Str}{n:Int}{Q:VK}(hH:Hand H a n)(hn:n<2^40)(hl:NL O H l)(hla:l≠a)(q:∀x H',(zg x=true/\x∈O)->Hand H' a (n+1)->Keep a H H'->Q (.str x) H'):zcf K [.ref a, .ref l] H Q E0:=by
 obtain⟨xs,e,x0,x1,hx⟩:=hl
 refine⟨a,n,hH,hn, .inl (ex2 l _ ⟨rfl,hla,SqL.of e,by rw[B0];exact x0,by rw[B0];lia,λv H' hv hH' k'=>?_⟩)⟩
 obtain⟨x,hxx,rfl⟩:=G1.mp hv
 exact q x H' (hx x hxx) hH' k'
theorem zy(h:zg x=true):x.length<=1000:=by
 unfold zg at h
 simp only[L0,decide_eq_true_eq] at h
 lia
theorem zeH(hy:y∈zck)(hx:zg x=true):zR (.tup [.str y, .str x])=true:=by
 have h1:¬y="long":=by
  intro z
  subst z
  revert hy
  decide +kernel
 have h2:(zck.any λz=>decide (z=y))=true:=List.any_eq_true.mpr ⟨y,hy,N0 rfl⟩
 rw[ze0,Y0 h1,h2,zcK,hx];rfl
theorem zkO(h:zR d=true):zT d=true:=by
 obtain⟨x,e,rfl⟩:=zcE d h
 by_cases hx:x="not"
 ·subst hx;rw[zdp] at h;cases h
 ·rw[zem,Y0 hx];exact h
theorem zj4(h:zR d=true)(ha:zfO d=false):zfk d=false:=by
 obtain⟨x,e,rfl⟩:=zcE d h
 by_cases hx:x="not"
 ·subst hx;rw[zdp] at h;cases h
 ·show (if x="not"then zfO e else decide (x="to"))=false
  rw[Y0 hx];exact ha
noncomputable def zoi:Sp:=λvs H Q _=>∃(a h m:Addr) (n:Int) (to:Bool) (O:List Str),vs=[.ref a, .ref h, .ref m, .bl to]/\Hand H a n/\n<2^39/\NL O H h/\NL O H m/\h≠a/\m≠a/\∀v d H',Rep H' v d->(zT d=true/\zbW O d=true)->(to=false->zfk d=false)->Hand H' a (n+4)->Keep a H H'->Q v H'
theorem zpF(Y:Ev K mg):Y.zdO.O P w base 3 zoi:=by
 have G__law_take:Y.zt.O P w base 1 zea:=zdw Y
 have G__law_pick:Y.zz.O P w base 2 (zcf K):=zdF Y
 refine Y.zdO.fn.okQ zaK (λvs H Q E h=>?_) `j4
 ·obtain ⟨a,h,m,n,to,O,rfl,_⟩:=h;rfl
 ·obtain ⟨a,h,m,n,to,O,rfl,hH,hn,hh,hm,nh,nm,q⟩:=h
  refine⟨_,(zh (zI 4 zaK.nd (zH Y.zt G__law_take hr (zb (qv 0) (zb (zQ zaU ze (zah zdo Y.int zfu (zb (qv 3) zd))) zd))))
   (zh (zI 5 zaK.nd (zM (zb zar (zb (zH Y.zz G__law_pick hr (zb (qv 0) (zb (qv 1) zd))) zd))))
   (zey (zak (t_w (zcO (zE zax (qv 4) ze) (zcZ (zE zax (qv 4) ze)))) (zi (zI 5 zaK.nd (zM (zb zar (zb (zH Y.zz G__law_pick hr (zb (qv 0) (zb (qv 1) zd))) zd))))) (zi (zak (zE zax (qv 4) ze) (zi (zI 5 zaK.nd (zM (zb zar (zb (zH Y.zz G__law_pick hr (zb (qv 0) (zb (zfx [V.int 0,V.int 1,V.int 2,V.int 3,V.int 4,V.int 6,V.int 9,V.int 99] `n4) zd))) zd))))) (zi (zak (zE zax (qv 4) ze) (zi (zI 5 zaK.nd (zM (zb zar (zb (zH Y.zz G__law_pick hr (zb (qv 0) (zb (qv 2) zd))) zd))))) (zi (zak (zE zax (qv 4) ze) (zi (zI 5 zaK.nd (zM (zb zar (zb (zH Y.zz G__law_pick hr (zb (qv 0) (zb (qv 1) zd))) zd))))) zL)))))))
   (zey (zak (zE zax (zH Y.zt G__law_take hr (zb (qv 0) (zb ze zd))) ze) (zi (zI 5 zaK.nd (zM (zb zar (zb (qv 5) zd))))) zL)
   (zi (zv (qv 5))))))),?_⟩
  try dsimp only[zav]
  refine vr rfl (vr rfl (.inr ⟨to,rfl,ex2 _ _ ⟨rfl,rfl,ex3 a _ n ⟨rfl,hH,(),by split<;>lia,by split<;>lia,λt H1 t0 t5 hH1 k1=>?_⟩⟩⟩))
  refine vr rfl (vr rfl (zcu hH1 () (hh.keep k1 nh) nh λx H2 hx hH2 k2=>⟨few rfl,λp2 hp2=>?_⟩))
  have mk2:∀{H0:Hp} {p:Addr} {y x:Str},y.length<=1000->(zg x=true/\x∈O)->Rep (upd H0 p (.tup [.str y, .str x])) (.ref p) (.tup [.str y, .str x]):=λhy hx=> .mk2 zc (.str _ hy) (.str _ (zy hx.1))
  have hh2:NL O (upd H2 p2 (.tup [.str "by", .str x])) h:=((hh.keep k1 nh).keep k2 nh).same (Same.new hp2)
  have hm2:NL O (upd H2 p2 (.tup [.str "by", .str x])) m:=((hm.keep k1 nm).keep k2 nm).same (Same.new hp2)
  have hH2':=hH2.new (o:= .tup [.str "by", .str x]) hp2
  have kp2:Keep a H (upd H2 p2 (.tup [.str "by", .str x])):=(k1.trans k2).trans (Keep.new hp2)
  let I0:St->Hp->Prop:=λσ' H'=>∃v d,σ'=[some (.ref a),some (.ref h),some (.ref m),some (.bl to),some (.int t),some v]/\Rep H' v d/\(zR d=true/\zam O d=true)/\(to=false->zfO d=false)/\Hand H' a (n+3)/\Keep a H H'
  refine⟨I0,?_,?_⟩
  ·have ap:∀{y x:Str},¬y="to"->zfO (.tup [.str y, .str x])=false:=λh=>A1 h
   have br:∀{y:Str},y.length<=1000->y∈zck->¬y="to"->∀(l:Addr),l≠a->NL O (upd H2 p2 (.tup [.str "by", .str x])) l->∀R:V->Hp->Prop,(∀v d H',Rep H' v d->(zR d=true/\zam O d=true)->(to=false->zfO d=false)->Hand H' a (n+3)->Keep a H H'->R v H')->
    zcf K [.ref a, .ref l] (upd H2 p2 (.tup [.str "by", .str x])) (λv H3=> [V.str y,v].length<=sizeLine/\∀p,H3 p=none->R (.ref p) (upd H3 p (.tup [V.str y,v]))) E0:=by
    intro y hy hyn hyt l nl hl R hR
    refine zcu hH2' () hl nl λx3 H3 hx3 hH3 k3=>⟨few rfl,λp3 hp3=>?_⟩
    exact hR _ _ _ (mk2 hy hx3) ⟨zeH hyn hx3.1,zbf hx3.2⟩ (λ_=>ap hyt) ((hH3.new hp3).mono ()) ((kp2.trans k3).trans (Keep.new hp3))
   have fin:∀v d H',Rep H' v d->(zR d=true/\zam O d=true)->(to=false->zfO d=false)->Hand H' a (n+3)->Keep a H H'->(λ(v:V) (H':Hp)=>∃v0 d,[some (V.ref a),some (.ref h),some (.ref m),some (.bl to),some (.int t),some v]=[some (.ref a),some (.ref h),some (.ref m),some (.bl to),some (.int t),some v0]/\Rep H' v0 d/\(zR d=true/\zam O d=true)/\(to=false->zfO d=false)/\Hand H' a (n+3)/\Keep a H H') v H':=
    λv d H' h1 h2 h3 h4 h5=>⟨v,d,rfl,h1,h2,h3,h4,h5⟩
   refine vr rfl ⟨rfl,vr rfl (zbK (λ_=>?_) (λ_=>(vr rfl ⟨rfl,vr rfl (zbK (λ_=>?_) (λ_=>?_))⟩)))⟩
   ·exact vr rfl (vr rfl (br ⋯ ⋯ `n4 h nh hh2 _ fin))
   ·exact vr rfl (vr rfl (br ⋯ ⋯ `n4 h nh hh2 _ fin))
   refine vr rfl ⟨rfl,vr rfl (zbK (λ_=>?_) (λ_=>(vr rfl ⟨rfl,vr rfl (zbK (λ_=>?_) (λ_=>(vr rfl ⟨rfl,vr rfl (zbK (λh5=>?_) (λ_=>?_))⟩)))⟩)))⟩
   ·refine vr rfl ⟨⋯,λpl hpl=>⟨a,n+2,(hH2'.mono ()).new hpl,(), .inl (ex2 pl _ ⟨rfl,hH2'.ne hpl,SqL.of zc,⋯,⋯,λv H3 hv hH3 k3=>⟨few rfl,λp3 hp3=>?_⟩⟩)⟩⟩
    have hk:∃j:Int,v= .int j/\0<=j/\j<=99:=by
     simp only[K0,C3,or_false] at hv
     rcases hv with rfl|rfl|rfl|rfl|rfl|rfl|rfl|rfl<;>exact ⟨_,rfl,⋯,⋯⟩
    obtain⟨j,rfl,j0,j9⟩:=hk
    refine fin _ (.tup [.str "long", .int j]) _ (.mk2 zc (.str _ ⋯) (.int _)) ?_ (λ_=>(by decide +kernel:decide (("long":Str)="to")=false)) ((hH3.new hp3).mono ()) ((kp2.trans ((Keep.new hpl).trans k3)).trans (Keep.new hp3))
    refine⟨?_,rfl⟩
    rw[ze0,E1 rfl]
    show(decide (0<=j)&&decide (j<=99))=true
    rw[N0 j0,N0 j9];rfl
   ·exact vr rfl (vr rfl (br ⋯ ⋯ `n4 m nm hm2 _ fin))
   ·refine vr rfl (vr rfl (zcu hH2' () hh2 nh λx3 H3 hx3 hH3 k3=>⟨few rfl,λp3 hp3=>?_⟩))
    refine fin _ _ _ (mk2 ⋯ hx3) ⟨zeH ⋯ hx3.1,zbf hx3.2⟩ (λz=>?_) ((hH3.new hp3).mono ()) ((kp2.trans k3).trans (Keep.new hp3))
    subst z
    have e5:t=5:=V.int.inj (R0 h5)
    simp at t5
    lia
   ·exact fin _ _ _ (mk2 ⋯ hx) ⟨zeH ⋯ hx.1,zbf hx.2⟩ (λ_=>ap `n4) (hH2'.mono ()) kp2
  ·rintro σ' H3 ⟨v,d,rfl,hv,hd,hto,hH3,k3⟩
   let I1:St->Hp->Prop:=λσ' H'=>∃v d,σ'=[some (.ref a),some (.ref h),some (.ref m),some (.bl to),some (.int t),some v]/\Rep H' v d/\(zT d=true/\zbW O d=true)/\(to=false->zfk d=false)/\Hand H' a (n+4)/\Keep a H H'
   refine⟨I1,?_,?_⟩
   ·refine vr rfl (ex3 a 4 (n+3) ⟨rfl,hH3,(),⋯,⋯,λd4 H4 _ _ hH4 k4=>⟨rfl,vr rfl (zbK (λ_=>?_) (λ_=>?_))⟩⟩)
    ·have hv4:=hv.mono (Mono.keep k4 hH3 hH4)
     refine vr rfl ⟨few rfl,λp5 hp5=>⟨_, .tup [.str "not",d],rfl, .mk2 zc (.str _ ⋯) (hv4.mono (.new hp5)),?_,?_,(hH4.new hp5).mono (),(k3.trans k4).trans (Keep.new hp5)⟩⟩
     ·exact ⟨by rw[zem,E1 rfl];exact hd.1,zkN hd.2⟩
     ·exact λz=>hto z
    ·refine ex2 _ d ⟨rfl,hv.mono (Mono.keep k4 hH3 hH4),⟨zkO hd.1,zmw hd.1 hd.2⟩,λz=>zj4 hd.1 (hto z),hH4.mono (),k3.trans k4⟩
   ·rintro σ' H4 ⟨v,d,rfl,hv,hd,hto,hH4,k4⟩
    exact vr rfl (q v d H4 hv hd hto hH4 k4)
theorem zjf(hl:ds.length<=4)(h:∀d∈ds,zT d=true):zbl (.tup ds)=true:=by
 rw[ziM,N0 hl,V1.mpr h];rfl
theorem zgU{P:α->Prop}{ds:List α}(h:∀(i:Nat) (d:α),ds[i]?=some d->P d):∀d∈ds,P d:=λd hd=>by
 obtain⟨i,hi,e⟩:=U3 hd
 exact h i d (by rw[F0 hi,e])
noncomputable def zlE:Sp:=λvs H Q _=>∃(a h m:Addr) (n:Int) (to:Bool) (O:List Str),vs=[.ref a, .ref h, .ref m, .bl to]/\Hand H a n/\n<2^38/\NL O H h/\NL O H m/\h≠a/\m≠a/\∀v ds H',Rep H' v (.tup ds)->ds.length<=4->(∀d∈ds,zT d=true)->(∀d∈ds,zbW O d=true)->(to=false->∀d∈ds,zfk d=false)->Hand H' a (n+17)->Keep a H H'->Q v H'
theorem zm5(Y:Ev K mg):Y.zcb.O P w base 4 zlE:=by
 have G__law_pick:Y.zz.O P w base 2 (zcf K):=zdF Y
 have G__law_cond:Y.zdO.O P w base 3 zoi:=zpF Y
 refine Y.zcb.fn.okQ zco (λvs H Q E h=>?_) `j4
 ·obtain ⟨a,h,m,n,to,O,rfl,_⟩:=h;rfl
 ·obtain ⟨a,h,m,n,to,O,rfl,hH,hn,hh,hm,nh,nm,q⟩:=h
  refine⟨_,(zh (zI 4 zco.nd (zH Y.zz G__law_pick hr (zb (qc 0) (zb (zfx [V.int 1,V.int 1,V.int 1,V.int 2,V.int 0,V.int 4] `n4) zd))))
   (zi (zv (zah zaf Y.tuple za6 (zb (zaQ (src:=[none,some 0,some 1,some 2,some 3]) zec rfl rfl (zcD Y.range (zb (qv 4) zd)) (λ_ _ _ _ _=>(zk 0 zec.nd)) (λ_ _ _ _ _=>zdi) (λ_ _ _ _ _=>(zH Y.zdO G__law_cond hr (zb (qc 1) (zb (qc 2) (zb (qc 3) (zb (qc 4) zd))))))) zd))))),?_⟩
  try dsimp only[zav]
  refine vr rfl ⟨⋯,λpl hpl=>⟨a,n,hH.new hpl,(), .inl (ex2 pl _ ⟨rfl,hH.ne hpl,SqL.of zc,⋯,⋯,λv H1 hv hH1 k1=>?_⟩)⟩⟩
  obtain⟨c,rfl,c4⟩:∃c:Nat,v= .int (c:Int)/\c<=4:=by
   simp only[K0,C3,or_false] at hv
   rcases hv with rfl|rfl|rfl|rfl|rfl|rfl
   ·exact ⟨1,rfl,⋯⟩
   ·exact ⟨1,rfl,⋯⟩
   ·exact ⟨1,rfl,⋯⟩
   ·exact ⟨2,rfl,⋯⟩
   ·exact ⟨0,rfl,⋯⟩
   ·exact ⟨4,rfl,⋯⟩
  have kp1:Keep a H H1:=(Keep.new hpl).trans k1
  have hh1:=(hh.same (Same.new (o:= .lst [V.int 1,V.int 1,V.int 1,V.int 2,V.int 0,V.int 4]) hpl)).keep k1 nh
  have hm1:=(hm.same (Same.new (o:= .lst [V.int 1,V.int 1,V.int 1,V.int 2,V.int 0,V.int 4]) hpl)).keep k1 nm
  refine vr rfl ⟨c,rfl,(),(),?_⟩
  rw[N3]
  refine zeE (a:=a) (m:=n+1) (c:=4) (Pd:=λ_ d=>(zT d=true/\zbW O d=true)/\(to=false->zfk d=false)) (σr:=[some (.ref a),some (.ref h),some (.ref m),some (.bl to)]) rfl hH1 () ⋯ (λj H2 Q1 hj hH2 k2 q1=>?_) (λl vs ds H2 hl hl2 r2 hds pd hH2 k2=>?_)
  ·exact vr rfl (vr rfl (vr rfl (vr rfl (ex4 a h m _ (ex2 to O ⟨rfl,hH2,(),hh1.keep k2 nh,hm1.keep k2 nm,nh,nm,λv d H3 rv hc ht hH3 k3=>q1 v d H3 rv ⟨hc,ht⟩ hH3 k3⟩)))))
  ·refine ex2 l vs ⟨rfl, .inl ⟨SqL.of hl2,λp hp=>?_⟩⟩
   have pd':=zgU (P:=λd=>(zT d=true/\zbW O d=true)/\(to=false->zfk d=false)) pd
   exact q _ ds _ (.mkL zc () (r2.mono (.new hp))) () (λd hd=>(pd' d hd).1.1) (λd hd=>(pd' d hd).1.2) (λz d hd=>(pd' d hd).2 z) ((hH2.new hp).mono ()) ((kp1.trans k2).trans (Keep.new hp))
theorem zlV{x:D}(hl:ds.length<=4)(h:∀d∈ds,zT d=true)(ha:∀d∈ds,zfk d=false)(hx:zdm x=true):zaA (.tup [.tup ds,x])=true:=by
 rw[zl6,zjf hl h,hx]
 have:zf7 (.tup ds)=false:=by
  show ds.any zfk=false
  rw[List.any_eq_false]
  exact λd hd z=>by rw[ha d hd] at z;cases z
 rw[this];rfl
theorem zp0{x:D}(hl:ds.length<=4)(h:∀d∈ds,zT d=true)(hx:zcI x=true):zcr (.tup [.tup ds,x])=true:=by
 rw[zpu,zjf hl h,hx];rfl
theorem zh9(hx:zg x=true)(hy:y="put"\/y="strike"):zcI (.tup [.str y, .str x])=true:=by
 rw[zrp,zcK,hx]
 rcases hy with rfl|rfl<;>decide +kernel
def TD(H:Hp)(d:Addr)(xs:List Str)(c:Nat):Prop:=∃(kvs:List (List Key×V)) (ps:List (Str×Str)),H d=some (.dT kvs)/\kvs.map (·.1)=ps.map zg4/\ps.length<=c/\∀p∈ps,p.1∈xs/\p.2∈xs/\ltS p.1 p.2=true
theorem zmP{k:List Key}:(zcN kvs k v).map (·.1)=kvs.map (·.1)\/(zcN kvs k v).map (·.1)=kvs.map (·.1)++ [k]:=by
 unfold zcN
 by_cases h:(kvs.any λkv=>decide (kv.1=k))=true
 ·rw[E1 h]
  refine .inl ?_
  rw[List.map_map]
  apply List.map_congr_left
  intro x _
  show(if x.1=k then(x.1,v)else x).1=x.1
  split<;>rfl
 ·rw[Y0 h,J2]
  exact .inr rfl
theorem TD.put{d:Addr}{xs:List Str}{c:Nat}{p:Str×Str}(h1:kvs.map (·.1)=ps.map zg4)(h2:ps.length<=c)(h3:∀p∈ps,p.1∈xs/\p.2∈xs/\ltS p.1 p.2=true)(hp:p.1∈xs/\p.2∈xs/\ltS p.1 p.2=true):
 TD (upd H d (.dT (zcN kvs (zg4 p) v))) d xs (c+1):=by
 rcases zmP (kvs:=kvs) (k:=zg4 p) (v:=v)with e|e
 ·exact ⟨_,ps,zc,e.trans h1,(),h3⟩
 ·refine ⟨_,ps ++ [p],zc,by rw[e,h1,J2];rfl,by rw[W0];show ps.length+1<=_;lia,λq hq=>?_⟩
  rcases X1.mp hq with hq|hq
  ·exact h3 q hq
  ·rw[c0.mp hq];exact hp
theorem TD.keep{d:Addr}{xs:List Str}{c:Nat}(h:TD H d xs c)(k:Keep a H H')(n:d≠a):TD H' d xs c:=let⟨kvs,ps,e,r⟩:=h;⟨kvs,ps,k _ _ n e,r⟩
theorem TD.mono{d:Addr}{xs:List Str}{c:Nat}(h:TD H d xs c)(l:c<=c'):TD H d xs c':=let⟨kvs,ps,e,f,g,r⟩:=h;⟨kvs,ps,e,f,J1 g l,r⟩
theorem znn(h:x≠y):ltS (if ltS y x=true then y else x) (if ltS x y=true then y else x)=true:=by
 cases e:ltS x y with
 |true=>rw[zgf e];simp only[Z3,if_false,if_true];exact e
 |false=>
  have:=zcX h e
  rw[this];simp only[Z3,if_false,if_true];exact this
noncomputable def zkY:Sp:=λvs H Q _=>∃(a h:Addr) (n:Int) (more:Nat) (xs:List Str),vs=[.ref a, .ref h, .int more]/\Hand H a n/\n<2^38/\H h=some (.lst (xs.map V.str))/\h≠a/\1<=xs.length/\xs.length<=10/\xs.Nodup/\(∀x∈xs,zg x=true)/\more<=30/\
 ∀(v:V) (ps:List (Str×Str)) (H':Hp),Rep H' v (.tup (ps.map pairD))->ps.Pairwise (λa b=>ltP a b=true)->(∀p∈ps,p.1∈xs/\p.2∈xs/\ltS p.1 p.2=true)->Hand H' a (n+100)->Keep a H H'->Q v H'
theorem zo4(Y:Ev K mg):Y.zdP.O P w base 3 zkY:=by
 have G__law_take:Y.zt.O P w base 1 zea:=zdw Y
 have G__law_pick:Y.zz.O P w base 2 (zcf K):=zdF Y
 refine Y.zdP.fn.okQ zbh (λvs H Q E h=>?_) `j4
 ·obtain ⟨a,h,n,more,xs,rfl,_⟩:=h;rfl
 ·obtain ⟨a,h,n,more,xs,rfl,hH,hn,hh,nh,x1,x10,hnd,hxn,hmore,q⟩:=h
  refine⟨_,(zh (zI 3 zbh.nd zlB)
   (zh (zbG J3 rfl (zrT Y.range (zb ze (zb (zn zJ Y.len zap (zb (qv 1) zd)) zd))) (zk 4 zbh.nd) (zh (zqz 5 6 zbh.nd (zb (zx zag (qv 1) (qv 4)) (zb (zx zag (qv 1) (zH Y.zt G__law_take hr (zb (qv 0) (zb (qv 4) zd)))) zd)))
   (zi (zak (zE zew (zH Y.zt G__law_take hr (zb (qv 0) (zb ze zd))) ze) (zi (znx (hu1 hr) (qv 3) (zM (zb (zn (zgQ rfl) Y.min zh1 (zb (qv 5) (zb (qv 6) zd))) (zb (zn (zgW rfl) Y.max zkJ (zb (qv 5) (zb (qv 6) zd))) zd))) zbT)) zL))))
   (zh (zbG J3 rfl (zcD Y.range (zb (qv 2) zd)) (zk 4 zbh.nd) (zh (zqz 5 6 zbh.nd (zb (zH Y.zz G__law_pick hr (zb (qv 0) (zb (qv 1) zd))) (zb (zH Y.zz G__law_pick hr (zb (qv 0) (zb (qv 1) zd))) zd)))
   (zi (zak (zE zeT (qv 5) (qv 6)) (zi (znx (hu1 hr) (qv 3) (zM (zb (zn (zgQ rfl) Y.min zh1 (zb (qv 5) (zb (qv 6) zd))) (zb (zn (zgW rfl) Y.max zkJ (zb (qv 5) (zb (qv 6) zd))) zd))) zbT)) zL))))
   (zi (zv (zah zaf Y.tuple za6 (zb (zn (zhQ rfl) Y.sorted zbB (zb (qv 3) zd)) zd))))))),?_⟩
  try dsimp only[zav]
  intro d hd
  have nd:=hH.ne hd
  have ndh:d≠h:=λz=>by rw[z,hh] at hd;cases hd
  have hh0:upd H d (.dT []) h=some (.lst (xs.map V.str)):=by rw[zj (Ne.symm ndh)];exact hh
  refine vr rfl (.inl (ex2 h _ ⟨rfl, .inl (SqL.of hh0),ex2 1 _ ⟨rfl,⟨⋯,⋯,(),by rw[B0];lia⟩,?_⟩⟩))
  have hN:(((xs.map V.str).length:Int) -1).toNat=xs.length -1:=by rw[B0];lia
  rw[hN]
  let I0:Nat->St->Hp->Prop:=λi σ' H'=>(∃o1 o2 o3,σ'=[some (.ref a),some (.ref h),some (.int more),some (.ref d),o1,o2,o3])/\TD H' d xs i/\Hand H' a (n+2*i)/\Keep a H H'
  refine zbi zdb I0 ?_ (λ_ _ _ _=>trivial) ?_ ?_
  ·exact ⟨(ex3 _ _ _ rfl),⟨[],[],zc,rfl,O0 _,λ_ z=>nomatch z⟩,(hH.new hd).mono (),Keep.new hd⟩
  ·rintro i y σ' H1 hi rfl ⟨⟨o1,o2,o3,rfl⟩,td,hH1,k1⟩
   have hh1:=k1 _ _ nh hh
   have g1:atI (xs.map V.str) (1+(i:Int))=some (.str (xs.getD (i+1) "")):=by
    have hi1:i+1<xs.length:=()
    rw[Int.add_comm]
    exact zG (j:=i+1) (by simp[hi1,List.getD])
   refine vr rfl (vr rfl (ixL hh1 g1 (vr rfl (vr rfl (vr rfl (ex3 a _ _ ⟨rfl,hH1,(),(),(),λt' H2 t0 t1 hH2 k2=>?_⟩))))))
   obtain⟨t,rfl⟩:∃t:Nat,t'=(t:Int):=⟨t'.toNat,()⟩
   have hh2:=k2 _ _ nh hh1
   have ht:t<xs.length:=()
   have g2:atI (xs.map V.str) (t:Int)=some (.str (xs.getD t "")):=zG (by simp[ht,List.getD])
   have hne:xs.getD (i+1) ""≠xs.getD t "":=by
    have hi1:i+1<xs.length:=()
    have:=znb hnd hi1 ht ()
    simpa[List.getD,hi1,ht] using this
   have mx1:xs.getD (i+1) ""∈xs:=by have hi1:i+1<xs.length:=()
                                    simp[List.getD,hi1]
   have mx2:xs.getD t ""∈xs:=by simp[List.getD,ht]
   generalize xs.getD (i+1) ""=x at *
   generalize xs.getD t ""=y at *
   refine ixL hh2 g2 (ex2 _ _ ⟨rfl,?_⟩)
   have td2:=td.keep k2 nd
   refine vr rfl (ex3 a 9 _ ⟨rfl,hH2,(),⋯,⋯,λu H3 u0 u9 hH3 k3=>(ex2 _ _ ⟨rfl,rfl,vr rfl (zbK (λ_=>?_) (λ_=>?_))⟩)⟩)
   ·obtain ⟨kvs,ps,hkv,hkk,hpl,hpg⟩:=td2.keep k3 nd
    refine vr rfl (vr rfl (vr rfl (ex2 x y ⟨rfl,vr rfl (vr rfl (ex2 x y ⟨rfl,few rfl,λp hp=>?_⟩))⟩)))
    have hkv4:upd H3 p (.tup [.str (if ltS y x=true then y else x), .str (if ltS x y=true then y else x)]) d=some (.dT kvs):=by rw[zj (zr hkv hp)];exact hkv
    have hlk:kvs.length=ps.length:=by have:=j3 List.length hkk;simpa using this
    refine ex2 d _ ⟨rfl,DPut.t (k:=zg4 (if ltS y x=true then y else x,if ltS x y=true then y else x)) hkv4 zc (zl ()),(ex3 _ _ _ rfl),TD.put hkk hpl hpg ⟨?_,?_,znn hne⟩,?_,?_⟩
    ·dsimp only;split<;>assumption
    ·dsimp only;split<;>assumption
    ·exact ((hH3.new hp).updNe nd).mono (by rw[show((i+1:Nat):Int)=(i:Int)+1 by lia];lia)
    ·exact Keep.updNew (((k1.trans k2).trans k3).trans (Keep.new hp)) hd
   ·exact ⟨(ex3 _ _ _ rfl),(td2.keep k3 nd).mono (),hH3.mono (by rw[show((i+1:Nat):Int)=(i:Int)+1 by lia];lia),(k1.trans k2).trans k3⟩
  ·rintro σ' H1 ⟨⟨o1,o2,o3,rfl⟩,td,hH1,k1⟩
   refine vr rfl ⟨more,rfl,(),(),?_⟩
   rw[N3]
   let I1:Nat->St->Hp->Prop:=λi σ' H'=>(∃o1 o2 o3,σ'=[some (.ref a),some (.ref h),some (.int more),some (.ref d),o1,o2,o3])/\TD H' d xs (9+i)/\Hand H' a (n+20+2*i)/\Keep a H H'
   refine zbi zdb I1 ?_ (λ_ _ _ _=>trivial) ?_ ?_
   ·exact ⟨(ex3 _ _ _ rfl),td.mono (),hH1.mono (),k1⟩
   ·rintro i y σ' H2 hi rfl ⟨⟨o1,o2,o3,rfl⟩,td2,hH2,k2⟩
    have pk:∀{H0:Hp} {n0:Int} {R:VK},Hand H0 a n0->n0<2^40->H0 h=some (.lst (xs.map V.str))->(∀x H',x∈xs->Hand H' a (n0+1)->Keep a H0 H'->R (.str x) H')->zcf K [.ref a, .ref h] H0 R E0:=λhH0 hn0 e0 qq=>
     ⟨a,_,hH0,hn0, .inl ⟨h,_,rfl,nh,SqL.of e0,by rw[B0];lia,by rw[B0];lia,λv H' hv hH' k'=>by
       obtain⟨x,hx,rfl⟩:=G1.mp hv
       exact qq x H' hx hH' k'⟩⟩
    have hh2:=k2 _ _ nh hh
    refine vr rfl (vr rfl (pk hH2 () hh2 λx H3 hx hH3 k3=>(vr rfl (vr rfl (pk hH3 () (k3 _ _ nh hh2) λy H4 hy hH4 k4=>(ex2 _ _ ⟨rfl,vr rfl (vr rfl ⟨rfl,vr rfl (zbK (λhc=>?_) (λ_=>?_))⟩)⟩))))))
    ·have hne:x≠y:=λz=>by rw[z] at hc;simp at hc
     obtain⟨kvs,ps,hkv,hkk,hpl,hpg⟩:=(td2.keep k3 nd).keep k4 nd
     refine vr rfl (vr rfl (vr rfl (ex2 x y ⟨rfl,vr rfl (vr rfl (ex2 x y ⟨rfl,few rfl,λp hp=>?_⟩))⟩)))
     have hkv4:upd H4 p (.tup [.str (if ltS y x=true then y else x), .str (if ltS x y=true then y else x)]) d=some (.dT kvs):=by rw[zj (zr hkv hp)];exact hkv
     have hlk:kvs.length=ps.length:=by have:=j3 List.length hkk;simpa using this
     refine ex2 d _ ⟨rfl,DPut.t (k:=zg4 (if ltS y x=true then y else x,if ltS x y=true then y else x)) hkv4 zc (zl ()),(ex3 _ _ _ rfl),TD.put hkk hpl hpg ⟨?_,?_,znn hne⟩,?_,?_⟩
     ·dsimp only;split<;>assumption
     ·dsimp only;split<;>assumption
     ·exact ((hH4.new hp).updNe nd).mono (by rw[show((i+1:Nat):Int)=(i:Int)+1 by lia];lia)
     ·exact Keep.updNew (((k2.trans k3).trans k4).trans (Keep.new hp)) hd
    ·exact ⟨(ex3 _ _ _ rfl),((td2.keep k3 nd).keep k4 nd).mono (),hH4.mono (by rw[show((i+1:Nat):Int)=(i:Int)+1 by lia];lia),(k2.trans k3).trans k4⟩
   ·rintro σ' H2 ⟨⟨o1,o2,o3,rfl⟩,⟨kvs,ps,hkv,hkk,hpl,hpg⟩,hH2,k2⟩
    refine vr rfl (ex3 d kvs ps ⟨rfl,hkv,hkk,(),λps' vs l hperm hpw hpa hl=>(ex2 l vs ⟨rfl, .inl ⟨SqL.of zc,λp hp=>?_⟩⟩)⟩)
    have S:Same H2 (upd (upd H2 l (.lst vs)) p (.tup vs)):=(Same.new hl).trans (Same.new hp)
    refine q _ ps' _ (.mkL zc (by rw[B0,hperm.length_eq];lia) ⟨by rw[B0];exact hpa.1,λi v dd e1 e2=>?_⟩) hpw (λp hp=>hpg p (hperm.mem_iff.mp hp)) ((hH2.same S).mono ()) (k2.trans (Keep.of S))
    rw[V0] at e2
    cases e3:ps'[i]? with
    |none=>rw[e3] at e2;cases e2
    |some pr=>
     rw[e3] at e2
     cases e2
     obtain⟨b,rfl,hb⟩:=hpa.2 i v pr e1 e3
     have hpr:=hpg pr (hperm.mem_iff.mp (U0 e3))
     exact .mk2 (S _ _ hb) (.str _ (zy (hxn _ hpr.1))) (.str _ (zy (hxn _ hpr.2.1)))
theorem ziu{n:Int}{Q:VK}(hH:Hand H a n)(hn:n<2^40)(e:H l=some (.lst vs))(r:RepL H vs ds)
 (q:∀v d H',d∈ds->Rep H' v d->Hand H' a (n+1)->Keep a H H'->Q v H') (hb:autoParam ((Nat.ble 1 ds.length&&Nat.ble ds.length 900&&!(Nat.beq ds.length 3))=true) u4):zcf K [.ref a, .ref l] H Q E0:=by
 have hl:=r.1
 simp only[L0] at hb
 have h0:=C2 hb.1.1
 have h9:=C2 hb.1.2
 have h3:ds.length≠3:=λz=>by rw[z] at hb;exact absurd hb.2 ⋯
 refine⟨a,n,hH,hn, .inl (ex2 l _ ⟨rfl,zkQ hH e r h3,SqL.of e,(),(),λv H' hv hH' k'=>?_⟩)⟩
 obtain⟨i,hi,ei⟩:=U3 hv
 obtain⟨d,hd,rd⟩:=r.get (i:=i) (v:=v) (by rw[F0 hi,ei])
 exact q v d H' (U0 hd) (rd.mono (.keep k' hH hH')) hH' k'
noncomputable def zkd:D->Bool| .tup ds=>decide (ds.length<=3)|_=>false
noncomputable def zig(d:D):Bool:=zep d&&zkd d
noncomputable def zoz:Sp:=λvs H Q _=>∃(a:Addr) (n:Int),vs=[.ref a]/\Hand H a n/\n<2^36/\∀(v:V) (g:Str) (hs:List Str) (ps:List (Str×Str)) (lks hds:List D) (H':Hp),Rep H' v (zbA g hs ps lks hds)->TownOk g hs ps lks hds->(∀x∈hs,x≠"nowhere")->(∃O,Pool hs lks hds O/\O.length<=13)->(∀d∈hds,zkd d=true)->Hand H' a (n+9000)->Keep a H H'->Q v H'
theorem zg2(e:d= .tup ds)(h:ds.length<=12){O:List Str}(h2:∀d∈ds,zke O d=true):zcR d=true/\zc3 O d=true:=by
 subst e
 refine⟨?_,V1.mpr λd hd=>((L0 _ _).mp (h2 d hd)).2⟩
 show(decide (ds.length<=90)&&ds.all zaA)=true
 rw[N0 (),V1.mpr λd hd=>((L0 _ _).mp (h2 d hd)).1];rfl
theorem zi9(e:d= .tup ds)(h:ds.length<=3){O:List Str}(h2:∀d∈ds,zkp O d=true):zig d=true/\zc3 O d=true:=by
 subst e
 refine⟨?_,V1.mpr λd hd=>((L0 _ _).mp (h2 d hd)).2⟩
 show((decide (ds.length<=90)&&ds.all zcr)&&decide (ds.length<=3))=true
 rw[N0 (),N0 h,V1.mpr λd hd=>((L0 _ _).mp (h2 d hd)).1];rfl
def Rows(g:D->Bool)(O:List Str)(H':Hp)(ls:Addr)(i:Nat):Prop:=∃(zs:List V) (ds:List D),H' ls=some (.lst zs)/\RepL H' zs ds/\ds.length=i/\∀d∈ds,g d=true/\zc3 O d=true
theorem Rows.keep{g:D->Bool}{O:List Str}{ls:Addr}{n m:Int}(h:Rows g O H ls i)(k:Keep a H H')(hl:ls≠a)(h1:Hand H a n)(h2:Hand H' a m):Rows g O H' ls i:=let⟨zs,ds,e,r,l,q⟩:=h;⟨zs,ds,k _ _ hl e,r.mono (.keep k h1 h2),l,q⟩
theorem Rows.put{g:D->Bool}{O:List Str}{ls:Addr}(e:H ls=some (.lst zs))(r:RepL H zs ds)(l:ds.length=i)(q:∀d∈ds,g d=true/\zc3 O d=true)(rv:Rep H v d)(hd:g d=true/\zc3 O d=true):Rows g O (upd H ls (.lst (zs ++ [v]))) ls (i+1):=
 ⟨_,ds ++ [d],zc,(r.append (.cons rv .nil)).mono (.lset e),by rw[W0,l];rfl,λx hx=>(X1.mp hx).elim (q x) λz=>by rw[c0.mp z];exact hd⟩
theorem zpl(Y:Ev K mg):Y.zbw.O P w base 5 zoz:=by
 have G__law_take:Y.zt.O P w base 1 zea:=zdw Y
 have G__law_pick:Y.zz.O P w base 2 (zcf K):=zdF Y
 have G__law_names:Y.zc7.O P w base 3 ziV:=zlY Y
 have G__law_ties:Y.zdP.O P w base 3 zkY:=zo4 Y
 have G__law_conds:Y.zcb.O P w base 4 zlE:=zm5 Y
 refine Y.zbw.fn.okQ zw (λvs H Q E h=>?_) `j4
 ·obtain ⟨a,n,rfl,_⟩:=h;rfl
 ·obtain ⟨a,n,rfl,hH,hn,q⟩:=h
  refine⟨_,(zh (zI 1 zw.nd (zx zag (za0 (zb ze (zb ze (zb ze (zb ze (zb ze (zb ze (zb ze (zb (zQ zaU ze (zH Y.zt G__law_take hr (zb (qc 0) (zb ze zd)))) zd))))))))) (zH Y.zt G__law_take hr (zb (qc 0) (zb ze zd)))))
   (zh (zeh 2 zw.nd (zH Y.zc7 G__law_names hr (zb (qc 0) (zb (zQ zaU (qv 1) ze) zd))))
   (zh (zdd (zM (zb (zdB zga (qc 2) zba (zaW (qv 1))) (zb (zdB zga (qc 2) (zaW (qv 1)) zba) zd))) (zbS 2 rfl (zo (zk 3 zw.nd) (zo (zfd 4 zw.nd) zaB))))
   (zh (zI 5 zw.nd (zH Y.zdP G__law_ties hr (zb (qc 0) (zb (qv 3) (zb (zx zag (zfx [V.int 1,V.int 2,V.int 3,V.int 4] `n4) (zH Y.zt G__law_take hr (zb (qc 0) (zb ze zd)))) zd)))))
   (zh (zI 6 zw.nd (za0 zd))
   (zh (zI 7 zw.nd (za0 zd))
   (zh (zbG J3 rfl (zdT (qv 3)) (zk 8 zw.nd) (zh (zeh 9 zw.nd (za0 (zb ze (zb ze (zb ze (zb (zf6 zcd ze) (zb ze (zb (zx zag (za0 (zb zbR (zb ze zd))) (zah zdo Y.int zfu (zb (zaZ zew (zH Y.zt G__law_take hr (zb (qc 0) (zb ze zd))) ze) zd))) zd))))))))
   (zh (zcv 10 (src:=[none,some 0,some 4,some 2,some 9]) zcA rfl rfl zw.nd (zcD Y.range (zb (zH Y.zt G__law_take hr (zb (qc 0) (zb ze zd))) zd)) (λ_ _ _ _ _=>(zk 0 zcA.nd)) (λ_ _ _ _ _=>zdi) (λ_ _ _ _ _=>(zM (zb (zH Y.zcb G__law_conds hr (zb (qc 1) (zb (qc 3) (zb (qc 2) (zb zbT zd))))) (zb (zH Y.zz G__law_pick hr (zb (qc 1) (zb (qc 4) zd))) zd)))))
   (zh (zcB (zf3 F.plainAttrs_list V3 W3 zaV (qv 6) (zb (zah zaf Y.tuple za6 (zb (qv 10) zd)) zd)))
   (zh (zeh 11 zw.nd (za0 (zb (zM (zb zar (zb (zH Y.zz G__law_pick hr (zb (qc 0) (zb (qc 4) zd))) zd))) (zb (zM (zb zar (zb (zH Y.zz G__law_pick hr (zb (qc 0) (zb (qc 4) zd))) zd))) (zb (zM (zb zar (zb (zH Y.zz G__law_pick hr (zb (qc 0) (zb (qc 4) zd))) zd))) zd)))))
   (zh (zcB (zf3 F.plainAttrs_list V3 W3 zaV (qc 11) (zb (zx zag (za0 (zb (zM (zb zar zd)) (zb (zM (zb zar (zb (zx zag (qc 4) ze) zd))) zd))) (zah zdo Y.int zfu (zb (zaZ zew (zH Y.zt G__law_take hr (zb (qc 0) (zb ze zd))) ze) zd))) zd)))
   (zh (zcv 10 (src:=[none,some 11,some 0,some 4,some 2]) zcx rfl rfl zw.nd (zcD Y.range (zb (zH Y.zt G__law_take hr (zb (qc 0) (zb ze zd))) zd)) (λ_ _ _ _ _=>(zk 0 zcx.nd)) (λ_ _ _ _ _=>zdi) (λ_ _ _ _ _=>(zM (zb (zH Y.zcb G__law_conds hr (zb (qc 2) (zb (qc 4) (zb (qc 3) (zb zbT zd))))) (zb (zH Y.zz G__law_pick hr (zb (qc 2) (zb (qc 1) zd))) zd)))))
   (zi (zcB (zf3 F.plainAttrs_list V3 W3 zaV (qv 7) (zb (zah zaf Y.tuple za6 (zb (qv 10) zd)) zd)))))))))))
   (zi (zv (zM (zb (zH Y.zz G__law_pick hr (zb (qc 0) (zb (qv 3) zd))) (zb (zah zaf Y.tuple za6 (zb (zn zhT Y.sorted zbB (zb (qv 3) zd)) zd)) (zb (qv 5) (zb (zah zaf Y.tuple za6 (zb (qv 6) zd)) (zb (zah zaf Y.tuple za6 (zb (qv 7) zd)) zd))))))))))))))),?_⟩
  try dsimp only[zav]
  refine zei λe e1=>?_
  refine vr rfl (ex3 a 4 n ⟨rfl,hH,(),⋯,⋯,λt H1 t0 t5 hH1 k1=>(ex2 _ _ ⟨rfl,rfl,few rfl,λpl hpl=>(vr rfl (ex3 a 8 (n+1) ⟨rfl,hH1.new hpl,(),⋯,⋯,λu H2 u0 u8 hH2 k2=>?_⟩))⟩)⟩)
  have hpl2:=k2 _ _ (hH1.ne hpl) (zc (o:= .lst [V.int 3,V.int 4,V.int 5,V.int 6,V.int 4,V.int 3,V.int 2,V.int (7+t)]))
  obtain⟨v,ev,hv⟩:=zdA (xs:=[V.int 3,V.int 4,V.int 5,V.int 6,V.int 4,V.int 3,V.int 2,V.int (7+t)]) u0 u8
  obtain⟨m,rfl,m1,m10⟩:∃m:Nat,v= .int (m:Int)/\1<=m/\m<=10:=by
   simp only[K0,C3,or_false] at hv
   rcases hv with rfl|rfl|rfl|rfl|rfl|rfl|rfl|rfl
   ·exact ⟨3,rfl,⋯,⋯⟩
   ·exact ⟨4,rfl,⋯,⋯⟩
   ·exact ⟨5,rfl,⋯,⋯⟩
   ·exact ⟨6,rfl,⋯,⋯⟩
   ·exact ⟨4,rfl,⋯,⋯⟩
   ·exact ⟨3,rfl,⋯,⋯⟩
   ·exact ⟨2,rfl,⋯,⋯⟩
   ·exact ⟨(7+t).toNat,by congr 1;lia,(),()⟩
  have kp2:Keep a H H2:=(k1.trans (Keep.new hpl)).trans k2
  refine ixL hpl2 ev ?_
  refine e1 _ _ (zei λe e2=>?_)
  refine vr rfl (vr rfl (ex2 _ _ ⟨rfl,rfl,a,n+1+1,m+3,by push_cast;rfl,hH2,(),(),(),λln xs H3 hln hl3 hlen hxn hxd hxw hH3 k3=>?_⟩))
  refine e2 _ _ (zei λe e3=>?_)
  have nln:ln≠a:=hH2.ne hln
  refine vr rfl (vr rfl (vr rfl (ex2 ln _ ⟨rfl,SqL.of hl3,λp1 hp1=>?_⟩)))
  have S1:Same H3 (upd H3 p1 (.lst (za9 (xs.map V.str) none (some (m:Int))))):=Same.new hp1
  refine vr rfl (vr rfl (vr rfl (ex2 ln _ ⟨rfl,SqL.of (S1 _ _ hl3),λp2 hp2=>⟨few rfl,λp3 hp3=>?_⟩⟩)))
  have S2:=Same.new (o:= .lst (za9 (xs.map V.str) (some (m:Int)) none)) hp2
  have S3:=Same.new (o:= .tup [V.ref p1,V.ref p2]) hp3
  have S13:=(S1.trans S2).trans S3
  have hp1':=S3 _ _ (S2 _ _ (zc (H:=H3) (a:=p1) (o:= .lst (za9 (xs.map V.str) none (some (m:Int))))))
  have hp2':=S3 _ _ (zc (H:=upd H3 p1 (.lst (za9 (xs.map V.str) none (some (m:Int))))) (a:=p2) (o:= .lst (za9 (xs.map V.str) (some (m:Int)) none)))
  refine ex2 p3 _ ⟨rfl, .inl (.inl zc),rfl,ex2 _ _ ⟨rfl,ex2 _ _ ⟨rfl,rfl,?_⟩⟩⟩
  refine e3 _ _ (zei λe e4=>?_)
  have hl4:=S13 _ _ hl3
  have hH4:=hH3.same S13
  have np1:p1≠a:=hH3.ne hp1
  have np2:p2≠a:=(hH3.same S1).ne hp2
  have kp4:=(kp2.trans k3).trans (Keep.of S13)
  generalize (upd (upd (upd H3 p1 (HO.lst (za9 (xs.map V.str) none (some (m:Int))))) p2 (HO.lst (za9 (xs.map V.str) (some (m:Int)) none))) p3 (HO.tup [V.ref p1,V.ref p2]))=H4 at *
  rw[zcF,←List.map_take] at hp1'
  rw[zdh,←List.map_drop] at hp2'
  have hth:(xs.take m).length=m:=by rw[N2];lia
  have htn:∀x∈xs.take m,zg x=true:=λx hx=>hxn x (List.mem_of_mem_take hx)
  have htw:∀x∈xs.take m,x≠"nowhere":=λx hx=>hxw x (List.mem_of_mem_take hx)
  have htd:(xs.take m).Nodup:=hxd.sublist (List.take_sublist m xs)
  have hdn:∀x∈xs.drop m,zg x=true:=λx hx=>hxn x (List.mem_of_mem_drop hx)
  have hdl:(xs.drop m).length=3:=by rw[D3];lia
  have hto:∀x∈xs.take m,x∈xs:=λx hx=>List.mem_of_mem_take hx
  have hdo:∀x∈xs.drop m,x∈xs:=λx hx=>List.mem_of_mem_drop hx
  generalize xs.take m=hs at *
  generalize xs.drop m=ms at *
  have NLn:NL xs H4 ln:=⟨xs,hl4,(),(),λx hx=>⟨hxn x hx,hx⟩⟩
  have NLm:NL xs H4 p2:=⟨ms,hp2',(),(),λx hx=>⟨hdn x hx,hdo x hx⟩⟩
  refine vr rfl (vr rfl ⟨few rfl,λpk hpk=>(vr rfl (ex3 a 4 _ ⟨rfl,hH4.new hpk,(),⋯,⋯,λu4 H5 u40 u44 hH5 k5=>?_⟩))⟩)
  have hpk5:=k5 _ _ (hH4.ne hpk) zc
  obtain⟨v4,ev4,hv4⟩:=zdA (xs:=[V.int 1,V.int 2,V.int 3,V.int 4]) u40 u44
  obtain⟨mo,rfl,mo30⟩:∃mo:Nat,v4= .int (mo:Int)/\mo<=30:=by
   simp only[K0,C3,or_false] at hv4
   rcases hv4 with rfl|rfl|rfl|rfl
   ·exact ⟨1,rfl,⋯⟩
   ·exact ⟨2,rfl,⋯⟩
   ·exact ⟨3,rfl,⋯⟩
   ·exact ⟨4,rfl,⋯⟩
  have k45:Keep a H4 H5:=(Keep.new hpk).trans k5
  have hp15:=k45 _ _ np1 hp1'
  refine ixL hpk5 ev4 ?_
  refine ex4 a p1 _ mo ⟨hs,rfl,hH5,(),hp15,np1,(),(),htd,htn,mo30,λvt ps H6 rt hpw hpg hH6 k6=>?_⟩
  refine e4 _ _ (zei λe e5=>?_)
  have hp16:=k6 _ _ np1 hp15
  refine⟨few rfl,λl6 hl6=>?_⟩
  refine e5 _ _ (zei λe e6=>?_)
  refine⟨few rfl,λl7 hl7=>?_⟩
  refine e6 _ _ (zei λe e7=>?_)
  have n6:l6≠a:=hH6.ne hl6
  have n7:l7≠a:=(hH6.new hl6).ne hl7
  have n67:l7≠l6:=λz=>by rw[z,zc] at hl7;cases hl7
  have hl76:H6 l7=none:=by rw[zj n67] at hl7;exact hl7
  have S8:Same H6 (upd (upd H6 l6 (.lst [])) l7 (.lst [])):=(Same.new hl6).trans (Same.new hl7)
  have e68:(upd (upd H6 l6 (.lst [])) l7 (.lst [])) l6=some (.lst []):=by rw[zj (Ne.symm n67)];exact zc
  have e78:(upd (upd H6 l6 (.lst [])) l7 (.lst [])) l7=some (.lst []):=zc
  have hH8:=hH6.same S8
  generalize (upd (upd H6 l6 (HO.lst [])) l7 (HO.lst []))=H8 at *
  have k46:Keep a H4 H6:=k45.trans k6
  refine vr rfl ⟨p1,rfl,⟨_,SqL.of (S8 _ _ hp16)⟩,?_⟩
  let I0:Nat->St->Hp->Prop:=λi σ' H'=>(∃o8 o9 o10 o11,σ'=[some (.ref a),some (.int (m:Int)),some (.ref ln),some (.ref p1),some (.ref p2),some vt,some (.ref l6),some (.ref l7),o8,o9,o10,o11])/\Rows zcR xs H' l6 i/\Rows zig xs H' l7 i/\Hand H' a (n+300+130*i)/\Keep a H6 H'
  refine zbi (zcW (K:=K) (xs:=hs.map V.str)) I0 ?_ ?_ ?_ ?_
  ·exact ⟨⟨_,_,_,_,rfl⟩,⟨[],[],e68,RepL.nil,rfl,λ_ z=>nomatch z⟩,⟨[],[],e78,RepL.nil,rfl,λ_ z=>nomatch z⟩,hH8.mono (),Keep.of S8⟩
  ·exact λi σ' H' z=>SqL.of (z.2.2.2.2 _ _ np1 hp16)
  ·rintro i y σ' H9 hi hy ⟨⟨o8,o9,o10,o11,rfl⟩,R6,R7,hH9,k9⟩
   refine zei λe c1=>?_
   rw[B0] at hi
   have NLn9:=(NLn.keep k46 nln).keep k9 nln
   have NLm9:=(NLm.keep k46 np2).keep k9 np2
   refine⟨3,rfl,few rfl,λpq hpq=>(vr rfl (ex3 a 3 _ ⟨rfl,hH9.new hpq,(),⋯,⋯,λt HA t0 t3 hHA kA=>(ex2 _ _ ⟨rfl,rfl,?_⟩)⟩))⟩
   have pqA:=kA _ _ (hH9.ne hpq) zc
   obtain⟨vx,dx,evx,hvx,hwx,hpx⟩:∃(vx:V) (dx:D),atI [V.non,V.int 2] (if decide (t>0)=true then(1:Int)else 0)=some vx/\(∀H:Hp,Rep H vx dx)/\zdm dx=true/\zam xs dx=true:=by
    by_cases h:t>0
    ·exact ⟨_, .int 2,by rw[E1 (N0 h)];exact at1,λH=> .int 2,⋯,rfl⟩
    ·exact ⟨_, .non,by rw[Y0 (by simpa using h)];exact at0,λH=> .non,⋯,rfl⟩
   refine .inr (vr rfl (ixL pqA evx ⟨few rfl,λpw hpw=>?_⟩))
   have k9A:Keep a H9 (upd HA pw (.lst [V.int 5,V.int 1,V.int 5,V.int (-3),V.int 9,vx])):=((Keep.new hpq).trans kA).trans (Keep.new hpw)
   have hHB:=hHA.new (o:= .lst [V.int 5,V.int 1,V.int 5,V.int (-3),V.int 9,vx]) hpw
   have npw:pw≠a:=hHA.ne hpw
   have eB:(upd HA pw (.lst [V.int 5,V.int 1,V.int 5,V.int (-3),V.int 9,vx])) pw=some (.lst [V.int 5,V.int 1,V.int 5,V.int (-3),V.int 9,vx]):=zc
   refine c1 _ _ (zei λe c2=>?_)
   generalize (upd HA pw (HO.lst [V.int 5,V.int 1,V.int 5,V.int (-3),V.int 9,vx]))=HB at *
   refine vr rfl (ex3 a 4 _ ⟨rfl,hHB,(),⋯,⋯,λt2 HC t20 t24 hHC kC=>(vr rfl ⟨(),(),?_⟩)⟩)
   have hN:t2.toNat<=3:=()
   generalize t2.toNat=N at *
   have k9C:=k9A.trans kC
   have NLnC:=NLn9.keep k9C nln
   have NLmC:=NLm9.keep k9C np2
   have eC:=kC _ _ npw eB
   refine zeE (a:=a) (m:=n+300+130*i+1+1) (c:=18) (Pd:=λ_ d=>zke xs d=true) (σr:=[some (.ref a),some (.ref p2),some (.ref ln),some (.ref pw)]) rfl hHC () ⋯ (λj HD Q1 hj hHD kD q1=>?_) (λls vs ds HD hls hlsD rls hds pd hHD kD=>?_)
   ·refine vr rfl (vr rfl (vr rfl (ex4 a ln p2 _ (ex2 false xs ⟨rfl,hHD,(),NLnC.keep kD nln,NLmC.keep kD np2,nln,np2,λvc dc HE rc lc hc hco hto hHE kE=>?_⟩))))
    have eE:=kE _ _ npw (kD _ _ npw eC)
    have rE:RepL HE [V.int 5,V.int 1,V.int 5,V.int (-3),V.int 9,vx] [.int 5, .int 1, .int 5, .int (-3), .int 9,dx]:= .cons (.int 5) (.cons (.int 1) (.cons (.int 5) (.cons (.int (-3)) (.cons (.int 9) (.cons (hvx HE) .nil)))))
    refine vr rfl (vr rfl (ziu hHE () eE rE λv d HF hd rv hHF kF=>⟨few rfl,λp7 hp7=>?_⟩))
    have hw:zdm d=true/\zam xs d=true:=by
     simp only[K0,C3,or_false] at hd
     rcases hd with rfl|rfl|rfl|rfl|rfl|rfl
     ·exact ⟨⋯,rfl⟩
     ·exact ⟨⋯,rfl⟩
     ·exact ⟨⋯,rfl⟩
     ·exact ⟨⋯,rfl⟩
     ·exact ⟨⋯,rfl⟩
     ·exact ⟨hwx,hpx⟩
    refine q1 _ (.tup [.tup dc,d]) _ (.mk2 zc ((rc.mono (.keep kF hHE hHF)).mono (.new hp7)) (rv.mono (.new hp7))) ?_ ((hHF.new hp7).mono ()) ((kE.trans kF).trans (Keep.new hp7))
    exact L0 _ _▸⟨zlV lc hc (hto rfl) hw.1,zhN hco hw.2⟩
   dsimp only[za5]
   refine c2 _ _ (zei λe c3=>?_)
   have pd':=zgU (P:=λd=>zke xs d=true) pd
   have k9D:=k9C.trans kD
   obtain⟨z6,d6,h6,r6,c6,q6⟩:=R6.keep k9D n6 hH9 hHD
   have R7D:=R7.keep k9D n7 hH9 hHD
   refine vr rfl ⟨.inl ⟨rfl,_,SqL.of h6⟩,vr rfl (ex2 ls vs ⟨rfl, .inl ⟨SqL.of hlsD,λpt hpt=>?_⟩⟩)⟩
   have ST:=Same.new (o:= .tup vs) hpt
   have h6T:=ST _ _ h6
   have RT:Rep (upd HD pt (.tup vs)) (.ref pt) (.tup ds):= .mkL zc () (rls.mono (.new hpt))
   have hz6:=r6.1
   refine ex3 l6 _ _ ⟨rfl,rfl,h6T,zl (),?_⟩
   have R6U:Rows zcR xs (upd (upd HD pt (.tup vs)) l6 (.lst (z6 ++ [.ref pt]))) l6 (i+1):=Rows.put h6T (r6.mono (.of ST)) c6 q6 RT (zg2 rfl () pd')
   have hHT:=hHD.new (o:= .tup vs) hpt
   have hHU:=hHT.updNe (o:= .lst (z6 ++ [V.ref pt])) n6
   have kU:Keep a H6 (upd (upd HD pt (.tup vs)) l6 (.lst (z6 ++ [.ref pt]))):=Keep.updNew ((k9.trans k9D).trans (Keep.of ST)) hl6
   have R7U:Rows zig xs (upd (upd HD pt (.tup vs)) l6 (.lst (z6 ++ [.ref pt]))) l7 i:=by
    obtain⟨z7,d7,h7,r7,c7,q7⟩:=R7D
    exact⟨z7,d7,by rw[zj n67];exact ST _ _ h7,(r7.mono (.of ST)).mono (.lset h6T),c7,q7⟩
   refine c3 _ _ (zei λe c4=>?_)
   generalize (upd (upd HD pt (HO.tup vs)) l6 (HO.lst (z6 ++ [V.ref pt])))=HU at *
   have k4U:=k46.trans kU
   have NLmU:=NLm.keep k4U np2
   have NLnU:=NLn.keep k4U nln
   obtain⟨z7,d7,h7,r7,c7,q7⟩:=R7U
   refine vr rfl (vr rfl (zcu hHU () NLmU np2 λx1 H11 hx1 hH11 k11=>⟨few rfl,λq1 hq1=>?_⟩))
   have NLm1:=(NLmU.keep k11 np2).same (Same.new (o:= .tup [V.str "put",V.str x1]) hq1)
   refine vr rfl (vr rfl (zcu (hH11.new hq1) () NLm1 np2 λx2 H12 hx2 hH12 k12=>⟨few rfl,λq2 hq2=>?_⟩))
   have NLm2:=(NLm1.keep k12 np2).same (Same.new (o:= .tup [V.str "strike",V.str x2]) hq2)
   refine vr rfl (vr rfl (zcu (hH12.new hq2) () NLm2 np2 λx3 H13 hx3 hH13 k13=>⟨few rfl,λq3 hq3=>⟨few rfl,λql hql=>?_⟩⟩))
   have M12:=Mono.keep k12 (hH11.new hq1) hH12
   have M13:=Mono.keep k13 (hH12.new hq2) hH13
   have S3:=Same.new (o:= .tup [V.str "put",V.str x3]) hq3
   have Sl:=Same.new (o:= .lst [V.ref q1,V.ref q2,V.ref q3]) hql
   have hH14:=(hH13.same S3).same Sl
   have kUe:Keep a HU (upd (upd H13 q3 (.tup [V.str "put",V.str x3])) ql (.lst [V.ref q1,V.ref q2,V.ref q3])):=((((k11.trans (Keep.new hq1)).trans k12).trans (Keep.new hq2)).trans k13).trans ((Keep.of S3).trans (Keep.of Sl))
   have r14:RepL (upd (upd H13 q3 (.tup [V.str "put",V.str x3])) ql (.lst [V.ref q1,V.ref q2,V.ref q3])) [V.ref q1,V.ref q2,V.ref q3] [.tup [.str "put", .str x1], .tup [.str "strike", .str x2], .tup [.str "put", .str x3]]:=
    .cons (Rep.mono (.mk2 zc (.str _ ⋯) (.str _ (zy hx1.1))) (((M12.trans (.new hq2)).trans M13).trans ((Mono.of S3).trans (.of Sl)))) (.cons (Rep.mono (.mk2 zc (.str _ ⋯) (.str _ (zy hx2.1))) (M13.trans ((Mono.of S3).trans (.of Sl)))) (.cons (Rep.mono (.mk2 zc (.str _ ⋯) (.str _ (zy hx3.1))) (.of Sl)) .nil))
   have e14:(upd (upd H13 q3 (.tup [V.str "put",V.str x3])) ql (.lst [V.ref q1,V.ref q2,V.ref q3])) ql=some (.lst [V.ref q1,V.ref q2,V.ref q3]):=zc
   have nql:ql≠a:=(hH13.same S3).ne hql
   have hqlU:HU ql=none:=by
    cases e:HU ql with
    |none=>rfl
    |some o=>exact absurd (S3 _ _ (((((k11.trans (Keep.new hq1)).trans k12).trans (Keep.new hq2)).trans k13) ql o nql e)) (by rw[hql];exact λz=>nomatch z)
   refine c4 _ _ (zei λe c5=>?_)
   generalize (upd (upd H13 q3 (HO.tup [V.str "put",V.str x3])) ql (HO.lst [V.ref q1,V.ref q2,V.ref q3]))=HV at *
   obtain⟨m0,mr,emr⟩:∃m0 mr,ms=m0::mr:=by
    match ms,hdl with
    |m0::mr,_=>exact ⟨m0,mr,rfl⟩
   have hp2V:=kUe _ _ np2 (k4U _ _ np2 hp2')
   have hm0:m0∈ms:=by rw[emr];exact Z0
   rw[emr] at hp2V
   refine vr rfl ⟨.inl ⟨rfl,_,SqL.of e14⟩,few rfl,λb1 hb1=>?_⟩
   have T1:=Same.new (o:= .tup [V.str "keep"]) hb1
   refine vr rfl (ixL (T1 _ _ hp2V) at0 ⟨few rfl,λb2 hb2=>⟨few rfl,λb3 hb3=>?_⟩⟩)
   have T2:=Same.new (o:= .tup [V.str "put",V.str m0]) hb2
   have T3:=Same.new (o:= .lst [V.ref b1,V.ref b2]) hb3
   have T13:=(T1.trans T2).trans T3
   have ra1:=Rep.mono (H':=upd (upd (upd HV b1 (.tup [V.str "keep"])) b2 (.tup [V.str "put",V.str m0])) b3 (.lst [V.ref b1,V.ref b2])) (Rep.mk1 (zc (H:=HV) (a:=b1) (o:= .tup [V.str "keep"])) (.str "keep" ⋯)) (.of (T2.trans T3))
   have ra2:=Rep.mono (H':=upd (upd (upd HV b1 (.tup [V.str "keep"])) b2 (.tup [V.str "put",V.str m0])) b3 (.lst [V.ref b1,V.ref b2])) (Rep.mk2 (zc (H:=upd HV b1 (.tup [V.str "keep"])) (a:=b2) (o:= .tup [V.str "put",V.str m0])) (.str "put" ⋯) (.str m0 (zy (hdn m0 hm0)))) (.of T3)
   have e3:=zc (H:=upd (upd HV b1 (.tup [V.str "keep"])) b2 (.tup [V.str "put",V.str m0])) (a:=b3) (o:= .lst [V.ref b1,V.ref b2])
   have nb3:b3≠a:=((hH14.same T1).same T2).ne hb3
   have hH15:=hH14.same T13
   generalize (upd (upd (upd HV b1 (HO.tup [V.str "keep"])) b2 (HO.tup [V.str "put",V.str m0])) b3 (HO.lst [V.ref b1,V.ref b2]))=HW at *
   refine vr rfl (ex3 a 3 _ ⟨rfl,hH15,(),⋯,⋯,λt5 HX t50 t53 hHX kX=>(ex2 _ _ ⟨rfl,rfl,?_⟩)⟩)
   obtain⟨vy,dy,evy,hvy,hay,hpy⟩:∃(vy:V) (dy:D),atI [V.ref b1,V.ref b2] (if decide (t5>0)=true then(1:Int)else 0)=some vy/\Rep HX vy dy/\zcI dy=true/\zam xs dy=true:=by
    have MX:=Mono.keep kX hH15 hHX
    by_cases h:t5>0
    ·exact ⟨_,_,by rw[E1 (N0 h)];exact at1,ra2.mono MX,zh9 (hdn m0 hm0) (.inl rfl),zbf (hdo m0 hm0)⟩
    ·exact ⟨_,_,by rw[Y0 (by simpa using h)];exact at0,ra1.mono MX,`n4,rfl⟩
   have e14X:=kX _ _ nql (T13 _ _ e14)
   have kVX:Keep a HV HX:=(Keep.of T13).trans kX
   have r14X:=r14.mono (.keep kVX hH14 hHX)
   refine .inr (vr rfl (ixL (kX _ _ nb3 e3) evy ?_))
   refine ex3 ql _ _ ⟨rfl,rfl,e14X,zl (by decide:3<=1000),?_⟩
   have eY:(upd HX ql (.lst ([V.ref q1,V.ref q2,V.ref q3]++ [vy]))) ql=some (.lst ([V.ref q1,V.ref q2,V.ref q3]++ [vy])):=zc
   have rY:RepL (upd HX ql (.lst ([V.ref q1,V.ref q2,V.ref q3]++ [vy]))) ([V.ref q1,V.ref q2,V.ref q3]++ [vy]) [.tup [.str "put", .str x1], .tup [.str "strike", .str x2], .tup [.str "put", .str x3],dy]:=(r14X.append (.cons hvy .nil)).mono (.lset e14X)
   have hHY:=hHX.updNe (o:= .lst ([V.ref q1,V.ref q2,V.ref q3]++ [vy])) nql
   have kUY:Keep a HU (upd HX ql (.lst ([V.ref q1,V.ref q2,V.ref q3]++ [vy]))):=Keep.updNew (kUe.trans kVX) hqlU
   refine c5 _ _ (zei λe c6=>?_)
   generalize (upd HX ql (HO.lst ([V.ref q1,V.ref q2,V.ref q3]++ [vy])))=HY at *
   refine vr rfl (ex3 a 4 _ ⟨rfl,hHY,(),⋯,⋯,λt6 HZ t60 t64 hHZ kZ=>(vr rfl ⟨(),(),?_⟩)⟩)
   have hN6:t6.toNat<=3:=()
   generalize t6.toNat=N6 at *
   have kUZ:=kUY.trans kZ
   have NLnZ:=NLnU.keep kUZ nln
   have NLmZ:=NLmU.keep kUZ np2
   have eZ:=kZ _ _ nql eY
   have rZ:=rY.mono (.keep kZ hHY hHZ)
   refine zeE (a:=a) (m:=n+300+130*i+1+1+18*(N:Int)+1+1+1+1+1) (c:=18) (Pd:=λ_ d=>zkp xs d=true) (σr:=[some (.ref ql),some (.ref a),some (.ref p2),some (.ref ln)]) rfl hHZ () ⋯ (λj HE Q1 hj hHE kE q1=>?_) (λls2 vs2 ds2 HE hls2 hlsE rls2 hds2 pd2 hHE kE=>?_)
   ·refine vr rfl (vr rfl (vr rfl (ex4 a ln p2 _ (ex2 true xs ⟨rfl,hHE,(),NLnZ.keep kE nln,NLmZ.keep kE np2,nln,np2,λvc dc HF rc lc hc hco hto hHF kF=>?_⟩))))
    have eF:=kF _ _ nql (kE _ _ nql eZ)
    have rF:=(rZ.mono (.keep kE hHZ hHE)).mono (.keep kF hHE hHF)
    refine vr rfl (vr rfl (ziu hHF () eF rF λv d HG hd rv hHG kG=>⟨few rfl,λp7 hp7=>?_⟩))
    have hw:zcI d=true/\zam xs d=true:=by
     simp only[K0,C3,or_false] at hd
     rcases hd with rfl|rfl|rfl|rfl
     ·exact ⟨zh9 hx1.1 (.inl rfl),zbf hx1.2⟩
     ·exact ⟨zh9 hx2.1 (.inr rfl),zbf hx2.2⟩
     ·exact ⟨zh9 hx3.1 (.inl rfl),zbf hx3.2⟩
     ·exact ⟨hay,hpy⟩
    refine q1 _ (.tup [.tup dc,d]) _ (.mk2 zc ((rc.mono (.keep kG hHF hHG)).mono (.new hp7)) (rv.mono (.new hp7))) ?_ ((hHG.new hp7).mono ()) ((kF.trans kG).trans (Keep.new hp7))
    exact L0 _ _▸⟨zp0 lc hc hw.1,zhN hco hw.2⟩
   dsimp only[za5]
   refine c6 _ _ ?_
   have pd2':=zgU (P:=λd=>zkp xs d=true) pd2
   have kUE:=kUZ.trans kE
   have R7E:Rows zig xs HE l7 i:=Rows.keep ⟨z7,d7,h7,r7,c7,q7⟩ kUE n7 hHU hHE
   have R6E:=R6U.keep kUE n6 hHU hHE
   obtain⟨z8,d8,h8,r8,c8,q8⟩:=R7E
   have hz8:=r8.1
   refine vr rfl ⟨.inl ⟨rfl,_,SqL.of h8⟩,vr rfl (ex2 ls2 vs2 ⟨rfl, .inl ⟨SqL.of hlsE,λpt2 hpt2=>?_⟩⟩)⟩
   have ST2:=Same.new (o:= .tup vs2) hpt2
   have h8T:=ST2 _ _ h8
   have RT2:Rep (upd HE pt2 (.tup vs2)) (.ref pt2) (.tup ds2):= .mkL zc () (rls2.mono (.new hpt2))
   refine ex3 l7 _ _ ⟨rfl,rfl,h8T,zl (),(ex4 _ _ _ _ rfl),?_,Rows.put h8T (r8.mono (.of ST2)) c8 q8 RT2 (zi9 rfl () pd2'),?_,?_⟩
   ·obtain ⟨z9,d9,h9,r9,c9,q9⟩:=R6E
    exact⟨z9,d9,by rw[zj (Ne.symm n67)];exact ST2 _ _ h9,(r9.mono (.of ST2)).mono (.lset h8T),c9,q9⟩
   ·exact ((hHE.new hpt2).updNe n7).mono (by push_cast;lia)
   ·exact Keep.updNew ((kU.trans kUE).trans (Keep.of ST2)) hl76
  ·rintro σ' H9 ⟨⟨o8,o9,o10,o11,rfl⟩,R6,R7,hH9,k9⟩
   refine e7 _ _ ?_
   rw[B0] at R6 R7 hH9
   have hp19:=k9 _ _ np1 hp16
   refine vr rfl (vr rfl ⟨a,_,hH9,(), .inl (ex2 p1 _ ⟨rfl,np1,SqL.of hp19,by rw[B0];lia,by rw[B0];lia,λvg HA hvg hHA kA=>?_⟩)⟩)
   obtain⟨g,hg,rfl⟩:=G1.mp hvg
   have hp1A:=kA _ _ np1 hp19
   have R6A:=R6.keep kA n6 hH9 hHA
   have R7A:=R7.keep kA n7 hH9 hHA
   have rtA:=rt.mono (.keep (k9.trans kA) hH6 hHA)
   refine vr rfl (ex2 p1 hs ⟨rfl,SqL.of hp1A,(),htd,λhs' l hperm hrise hl=>(ex2 l _ ⟨rfl, .inl ⟨SqL.of zc,λpr hpr=>?_⟩⟩)⟩)
   have SB:Same HA (upd (upd HA l (.lst (hs'.map V.str))) pr (.tup (hs'.map V.str))):=(Same.new hl).trans (Same.new hpr)
   have hprB:(upd (upd HA l (.lst (hs'.map V.str))) pr (.tup (hs'.map V.str))) pr=some (.tup (hs'.map V.str)):=zc
   have hHB:=hHA.same SB
   generalize (upd (upd HA l (HO.lst (hs'.map V.str))) pr (HO.tup (hs'.map V.str)))=HB at *
   obtain⟨z6,lks,h6,r6,c6,q6⟩:=R6A
   obtain⟨z7,hds,h7,r7,c7,q7⟩:=R7A
   refine vr rfl (vr rfl (ex2 l6 z6 ⟨rfl, .inl ⟨SqL.of (SB _ _ h6),λpA hpA=>?_⟩⟩))
   have SA:=Same.new (o:= .tup z6) hpA
   have hH10:=hHB.same SA
   have rlA:Rep (upd HB pA (.tup z6)) (.ref pA) (.tup lks):= .mkL zc () ((r6.mono (.of SB)).mono (.new hpA))
   refine vr rfl (ex2 l7 z7 ⟨rfl, .inl ⟨SqL.of (SA _ _ (SB _ _ h7)),λpB hpB=>⟨few rfl,λpT hpT=>?_⟩⟩⟩)
   have SC:=Same.new (o:= .tup z7) hpB
   have rhA:Rep (upd (upd HB pA (.tup z6)) pB (.tup z7)) (.ref pB) (.tup hds):= .mkL zc () (((r7.mono (.of SB)).mono (.of SA)).mono (.new hpB))
   have rlB:=rlA.same SC
   have hprC:=SC _ _ (SA _ _ hprB)
   have rtC:=((rtA.same SB).same SA).same SC
   have hHC:=hH10.same SC
   have hlen':hs'.length=m:=by rw[hperm.length_eq];exact hth
   have SBC:Same HA (upd (upd HB pA (.tup z6)) pB (.tup z7)):=(SB.trans SA).trans SC
   generalize (upd (upd HB pA (HO.tup z6)) pB (HO.tup z7))=HC at *
   have rr:Rep HC (.ref pr) (.tup (hs'.map D.str)):= .mkL hprC (by rw[B0];lia) (zbj λx hx=>zy (htn x (hperm.mem_iff.mp hx)))
   have ST:=Mono.new (o:= .tup [.str g, .ref pr,vt, .ref pA, .ref pB]) hpT
   have rtown:=Rep.mkL (H:=upd HC pT (.tup [.str g, .ref pr,vt, .ref pA, .ref pB])) (p:=pT) (vs:=[.str g, .ref pr,vt, .ref pA, .ref pB]) (ds:=[.str g, .tup (hs'.map D.str), .tup (ps.map pairD), .tup lks, .tup hds]) zc (C2 rfl) (.cons (.str g (zy (htn g hg))) (.cons (rr.mono ST) (.cons (rtC.mono ST) (.cons (rlB.mono ST) (.cons (rhA.mono ST) .nil)))))
   refine q _ g hs' ps lks hds _ rtown ⟨hrise,(),(),λx hx=>htn x (hperm.mem_iff.mp hx),hperm.mem_iff.mpr hg,hpw,λp hp=>?_,(),(),λd hd=>(q6 d hd).1,λd hd=>((L0 _ _).mp (q7 d hd).1).1⟩ (λx hx=>htw x (hperm.mem_iff.mp hx)) ⟨xs,⟨(),hxn,λx hx=>hto x (hperm.mem_iff.mp hx),λd hd=>(q6 d hd).2,λd hd=>(q7 d hd).2⟩,()⟩ (λd hd=>((L0 _ _).mp (q7 d hd).1).2) ((hHC.new hpT).mono ()) (((kp4.trans k46).trans (k9.trans kA)).trans ((Keep.of SBC).trans (Keep.new hpT)))
   obtain⟨h1,h2,h3⟩:=hpg p hp
   exact⟨hperm.mem_iff.mpr h1,hperm.mem_iff.mpr h2,h3⟩
noncomputable def zg9:Sp:=λvs H Q _=>∃(a:Addr) (n:Int) (v:V) (g:Str) (hs:List Str) (ps:List (Str×Str)) (lks hds:List D),vs=[.ref a,v]/\Hand H a n/\n<2^37/\Rep H v (zbA g hs ps lks hds)/\TownOk g hs ps lks hds/\∀(v':V) (ws:List Str) (H':Hp),Rep H' v' (.tup (ws.map D.str))->WayOk g hs ps ws->Hand H' a (n+10)->Keep a H H'->Q v' H'
theorem zjk(Y:Ev K mg):Y.zbP.O P w base 3 zg9:=by
 have G__law_pick:Y.zz.O P w base 2 (zcf K):=zdF Y
 refine Y.zbP.fn.okQ zW (λvs H Q E h=>?_) `j4
 ·obtain ⟨a,n,v,g,hs,ps,lks,hds,rfl,_⟩:=h;rfl
 ·obtain ⟨a,n,v,g,hs,ps,lks,hds,rfl,hH,hn,hv,T,q⟩:=h
  obtain⟨p,pr,pt,pl,pa,vt,vl,va,rfl,hp,hpr,hpt,rt,hpl,rl,hpa,ra⟩:=zbL hv
  have TP:=T.lp
  have T10:=T.ten
  have gn:zg g=true:=T.names g T.goal
  have npa:∀{b o},H b=some (.tup o)->b≠a:=λ{b o} e z=>by obtain⟨_,_,_,e',_⟩:=hH;rw[z,e'] at e;cases e
  refine⟨_,(zh (zeh 2 zW.nd (zM (zb (zx zm (qv 1) ze) zd)))
   (zh (zbG J3 rfl (zcD Y.range (zb (zH Y.zz G__law_pick hr (zb (qv 0) (zb (zfx [V.int 0,V.int 1,V.int 2,V.int 3,V.int 9,V.int 9] `n4) zd))) zd)) (zk 3 zW.nd) (zh (zI 4 zW.nd (zQ zdE (zaQ (src:=[none,some 2]) zcQ rfl rfl (zbM (zx zm (qv 1) ze)) (λ_ _ _ _ _=>(zk 0 zcQ.nd)) (λ_ _ _ _ _=>(zcS (zE zax (zx (zbb (K:=K) rfl) (qv 0) ze) (zx (zbb (K:=K) rfl) (qc 1) ze)))) (λ_ _ _ _ _=>(zx (zbb (K:=K) rfl) (qv 0) ze))) (zaQ (src:=[none,some 2]) zc0 rfl rfl (zbM (zx zm (qv 1) ze)) (λ_ _ _ _ _=>(zk 0 zc0.nd)) (λ_ _ _ _ _=>(zcS (zE zax (zx (zbb (K:=K) rfl) (qv 0) ze) (zx (zbb (K:=K) rfl) (qc 1) ze)))) (λ_ _ _ _ _=>(zx (zbb (K:=K) rfl) (qv 0) ze)))))
   (zh (zcv 4 (src:=[none,some 2]) zcP rfl rfl zW.nd (zdT (qv 4)) (λ_ _ _ _ _=>(zk 0 zcP.nd)) (λ_ _ _ _ _=>(zcS (zE (zg1 (K:=K) rfl) (qv 0) (qc 1)))) (λ_ _ _ _ _=>(qv 0)))
   (zh (zak (zE (zeP (zb8 hr)) (qv 4) (za0 zd)) (zi (zv (qc 2))) zL)
   (zi (zeh 2 zW.nd (zQ zcU (zM (zb (zH Y.zz G__law_pick hr (zb (qv 0) (zb (qv 4) zd))) zd)) (qc 2))))))))
   (zi (zv (qc 2))))),?_⟩
  try dsimp only[zav]
  refine vr rfl (ixT hp at0 ⟨few rfl,λpw hpw=>?_⟩)
  have S1:=Same.new (o:= .tup [.str g]) hpw
  have rw1:Rep (upd H pw (.tup [.str g])) (.ref pw) (.tup ([g].map D.str)):= .mk1 zc (.str g (zy gn))
  have hH1:=hH.same S1
  generalize (upd H pw (HO.tup [V.str g]))=H1 at *
  refine vr rfl ⟨⋯,λpk hpk=>⟨a,_,hH1.new hpk,(), .inl (ex2 pk _ ⟨rfl,hH1.ne hpk,SqL.of zc,⋯,⋯,λv H2 hv2 hH2 k2=>?_⟩)⟩⟩
  obtain⟨m,rfl,m9⟩:∃m:Nat,v= .int (m:Int)/\m<=9:=by
   simp only[K0,C3,or_false] at hv2
   rcases hv2 with rfl|rfl|rfl|rfl|rfl|rfl
   ·exact ⟨0,rfl,⋯⟩
   ·exact ⟨1,rfl,⋯⟩
   ·exact ⟨2,rfl,⋯⟩
   ·exact ⟨3,rfl,⋯⟩
   ·exact ⟨9,rfl,⋯⟩
   ·exact ⟨9,rfl,⋯⟩
  have k12:Keep a H1 H2:=(Keep.new hpk).trans k2
  have k02:Keep a H H2:=(Keep.of S1).trans k12
  have m12:Mono H1 H2:= .keep k12 hH1 hH2
  refine vr rfl ⟨(),(),?_⟩
  have em:((m:Int)).toNat=m:=()
  rw[em]
  let I0:Nat->St->Hp->Prop:=λi σ' H'=>(∃vw ws o3 o4,σ'=[some (.ref a),some (.ref p),some vw,o3,o4]/\Rep H' vw (.tup (ws.map D.str))/\WayOk g hs ps ws)/\Hand H' a (n+1+i)/\Keep a H H'
  refine zbi zdb I0 ⟨(ex4 _ [g] _ _ ⟨rfl,rw1.mono m12, .one T.goal⟩),hH2.mono (),k02⟩ (λ_ _ _ _=>trivial) ?_ ?_
  ·rintro i y σ' H3 hi rfl ⟨⟨vw,ws,o3,o4,rfl,rw3,W⟩,hH3,k3⟩
   obtain⟨w0,wr,rfl⟩:∃w0 wr,ws=w0::wr:=by
    match ws,W.len.1 with
    |w0::wr,_=>exact ⟨w0,wr,rfl⟩
   obtain⟨pw,rfl,hpw3⟩:=zaC rw3
   have hp3:=k3 _ _ (npa hp) hp
   have hpt3:=k3 _ _ (npa hpt) hpt
   have m03:Mono H H3:= .keep k3 hH hH3
   have rt3:=rt.mono m03
   have wl:=W.len
   have wn:∀x∈w0::wr,zg x=true:=λx hx=>T.names x (W.mem x hx)
   refine vr rfl (ixT hp3 (zG (j:=2) rfl) ⟨pt,rfl,⟨_, .inl (.inl hpt3)⟩,?_⟩)
   refine zeZ (ps:=ps) (sel:=λp=>decide (p.1=w0)) (f:=(·.2)) (λσ'=>∃o1,σ'=[o1,some (.ref pw)]) (za1 (K:=K)) (λH' s'=> .inl (.inl (s' _ _ hpt3))) rt3 () ⟨_,rfl⟩ ?_ λl4 H4 s4 hl4 e4=>?_
   ·rintro q p σ' HA A B ⟨o1,rfl⟩ sA hq hpA k
    refine vr rfl (ixT hq at0 (vr rfl (ixT (sA _ _ hpw3) at0 ⟨rfl,vr rfl ?_⟩)))
    have k:=k [some (.ref q),some (.ref pw)] ⟨_,rfl⟩
    rw[zab]
    cases e:decide (p.1=w0)with
    |false=>rw[e] at k;exact k
    |true=>rw[e] at k;exact⟨_,rfl,q,_,1,_,rfl,rfl, .inl (.inl hq),at1,k⟩
   refine vr rfl (ixT (s4 _ _ hp3) (zG (j:=2) rfl) ⟨pt,rfl,⟨_, .inl (.inl (s4 _ _ hpt3))⟩,?_⟩)
   refine zeZ (ps:=ps) (sel:=λp=>decide (p.2=w0)) (f:=(·.1)) (λσ'=>∃o1,σ'=[o1,some (.ref pw)]) (za1 (K:=K)) (λH' s'=> .inl (.inl (s' _ _ (s4 _ _ hpt3)))) (rt3.mono (.of s4)) () ⟨_,rfl⟩ ?_ λl5 H5 s5 hl5 e5=>?_
   ·rintro q p σ' HA A B ⟨o1,rfl⟩ sA hq hpA k
    refine vr rfl (ixT hq at1 (vr rfl (ixT (sA _ _ (s4 _ _ hpw3)) at0 ⟨rfl,vr rfl ?_⟩)))
    have k:=k [some (.ref q),some (.ref pw)] ⟨_,rfl⟩
    rw[zab]
    cases e:decide (p.2=w0)with
    |false=>rw[e] at k;exact k
    |true=>rw[e] at k;exact⟨_,rfl,q,_,0,_,rfl,rfl, .inl (.inl hq),at0,k⟩
   have ol:=zn2 ps w0
   have ol':(((ps.filter λp=>decide (p.1=w0)).map (·.2)).map V.str).length+(((ps.filter λp=>decide (p.2=w0)).map (·.1)).map V.str).length<=200:=by
    unfold zdX at ol
    rw[W0] at ol
    simp only[B0] at ol⊢
    lia
   refine ex4 l4 l5 _ _ ⟨rfl,rfl,s5 _ _ e4,e5,Z2 (zl ()),λl6 hl6=>?_⟩
   rw[←J2]
   have S6:=Same.new (o:= .lst ((zdX ps w0).map V.str)) hl6
   have e6:(upd H5 l6 (.lst ((zdX ps w0).map V.str))) l6=some (.lst ((zdX ps w0).map V.str)):=zc
   have s36:=(s4.trans s5).trans S6
   show zm2 _ _ _ _ (upd H5 l6 (.lst ((zdX ps w0).map V.str)))
   generalize (upd H5 l6 (HO.lst ((zdX ps w0).map V.str)))=H6 at *
   have on:∀y∈zdX ps w0,y∈hs/\w0∈zaR ps y:=λy hy=>by
    rcases zot hy with h|h
    ·exact ⟨(T.ties _ h).2.1,zbd.mpr (.inl h)⟩
    ·exact ⟨(T.ties _ h).1,zbd.mpr (.inr h)⟩
   have r6:RepL H6 ((zdX ps w0).map V.str) ((zdX ps w0).map D.str):=zbj λx hx=>zy (T.names x (on x hx).1)
   have hpw6:=s36 _ _ hpw3
   refine vr rfl ⟨l6,rfl,⟨_,SqL.of e6⟩,?_⟩
   refine zdv (g:=znN (w0::wr)) (f:=λd=>d) (σr:=[some (.ref pw)]) (zcW (K:=K)) (λH' s'=>SqL.of (s' _ _ e6)) r6 (by rw[B0];lia) rfl ?_ (λx d HA sA rx hd=>zcV rfl rx) λl7 us H7 s7 hl7 e7 r7=>?_
   ·intro x d HA Q1 sA rx hd q1
    obtain⟨b,_,rfl⟩:=G1.mp hd
    cases rx with|str _ _=>
    refine⟨_,rfl,_,rfl,pw,_,rfl, .inr (.inl (.inl (sA _ _ hpw6))),rfl,zbX,_,rfl,?_⟩
    rw[E1 rfl,zdx]
    exact q1 HA (Same.refl _)
   rw[List.map_id',zjR] at r7
   have eus:=zfv r7
   subst eus
   have s37:=s36.trans s7
   have hx7:∀y∈(zdX ps w0).filter (λx=>!((w0::wr).any λy=>decide (y=x))),y∈hs/\w0∈zaR ps y/\y∉w0::wr:=λy hy=>by
    obtain⟨h1,h2⟩:=X2.mp hy
    refine⟨(on y h1).1,(on y h1).2,λz=>?_⟩
    rw[List.any_eq_true.mpr ⟨y,z,N0 rfl⟩] at h2
    cases h2
   have nl7:l7≠a:=(hH3.same s36).ne hl7
   have hlen7:((zdX ps w0).filter (λx=>!((w0::wr).any λy=>decide (y=x)))).length<=200:=by
    have:=G3 (λx=>!((w0::wr).any λy=>decide (y=x))) (zdX ps w0)
    lia
   generalize ((zdX ps w0).filter (λx=>!((w0::wr).any λy=>decide (y=x))))=ys at *
   have hH7:=hH3.same s37
   have hpw7:=s37 _ _ hpw3
   have rw7:=rw3.same s37
   refine vr rfl ⟨few rfl,λpe hpe=>?_⟩
   have se:=Same.new (o:= .lst []) hpe
   refine⟨_,_,zlm (se _ _ e7) (λx hx=>zp (T.names x (hx7 x hx).1)),zgv zc,J1 (M3 _ _) ⋯,vr rfl ?_⟩
   have k38:Keep a H3 (upd H7 pe (.lst [])):=(Keep.of s37).trans (Keep.of se)
   have hH8:=hH7.same se
   have rw8:=rw7.same se
   have hpw8:=se _ _ hpw7
   have e8:=se _ _ e7
   generalize (upd H7 pe (HO.lst []))=H8 at *
   cases ys with
   |nil=>
    refine zN (by unfold zal;rfl) ?_
    exact vr rfl (q _ _ H8 rw8 W (hH8.mono ()) (k3.trans k38))
   |cons y0 yr=>
    refine zO (by unfold zal;rw[Y1,PyData.eqv];rfl) ?_
    refine vr rfl (vr rfl ⟨a,_,hH8,(), .inl (ex2 l7 _ ⟨rfl,nl7,SqL.of e8,by rw[B0];simp,by rw[B0];lia,λv9 H9 hv9 hH9 k9=>⟨few rfl,λp9 hp9=>?_⟩⟩)⟩)
    obtain⟨x,hx,rfl⟩:=G1.mp hv9
    obtain⟨x1,x2,x3⟩:=hx7 x hx
    have m89:Mono H8 H9:= .keep k9 hH8 hH9
    have S9:=Same.new (o:= .tup [V.str x]) hp9
    have hpw9:(upd H9 p9 (.tup [V.str x])) pw=some (.tup ((w0::wr).map V.str)):=S9 _ _ (m89.tup _ _ hpw8)
    refine vr rfl (ex4 p9 pw [.str x] _ ⟨rfl,rfl, .inl (.inl zc), .inl (.inl hpw9),Z2 (zl (by rw[B0];show 1+_<=_;lia)),(λz=>by cases z),(λ_ z=>by cases z),λ_ _ pX hpX=>?_⟩)
    have SX:=Same.new (o:= .tup ([V.str x]++(w0::wr).map V.str)) hpX
    refine⟨⟨_,x::w0::wr,ex2 _ _ ⟨rfl,?_,W.more x1 x3 x2⟩⟩,?_,?_⟩
    ·refine .mkL (vs:=(x::w0::wr).map V.str) zc (by rw[B0,O1];lia) (zbj λz hz=>?_)
     rcases K0.mp hz with rfl|hz
     ·exact zy (T.names _ x1)
     ·exact zy (wn z hz)
    ·exact ((hH9.new hp9).new hpX).mono (by push_cast;lia)
    ·exact ((k3.trans k38).trans k9).trans ((Keep.of S9).trans (Keep.of SX))
  ·rintro σ' H3 ⟨⟨vw,ws,o3,o4,rfl,rw3,W⟩,hH3,k3⟩
   exact vr rfl (q _ ws H3 rw3 W (hH3.mono ()) k3)
theorem zeC{c:D->Bool}{g:List Str->List Str->Option Str->D->Bool}(Y:Ev K mg)(G_holds:Y.holds.O P w base k (ze2 c g))(c':D->Bool)(g':List Str->List Str->Option Str->D->Bool)
 (hc:∀d,c' d=true->∃x e,d= .tup [.str x,e]) (h1:∀ws ms to x e,c' (.tup [.str x,e])=true->x="not"->c e=true/\(!g ws ms to e)=g' ws ms to (.tup [.str x,e]))
 (h2:∀x e,c' (.tup [.str x,e])=true->¬x="not"->zR (.tup [.str x,e])=true/\∀ws ms to,phB ws ms to x e=g' ws ms to (.tup [.str x,e])):
 Y.holds.O P w base (k+1) (ze2 c' g'):=by
 refine Y.holds.fn.okQ zeV (λvs H Q E h=>?_) `j4
 ·obtain ⟨v,d,pw,pm,vt,ws,ms,to,rfl,_⟩:=h;rfl
 ·obtain ⟨v,d,pw,pm,vt,ws,ms,to,rfl,hd,hcd,hpw,hpm,hto,nw,nm,w1,lw,lm,q⟩:=h
  obtain⟨x,e,rfl⟩:=hc d hcd
  obtain⟨p,v0,v1,rfl,hp,r0,r1⟩:=hd.of2
  cases r0 with
  |str _ hx=>
  refine⟨_,(zh (zdd (qv 0) (zbS 2 rfl (zo (zk 4 zeV.nd) (zo (zk 5 zeV.nd) zaB))))
   (zh (zak (zE zax (qv 4) zar) (zi (zv (zoI (znQ Y.holds G_holds hr (zb (qv 5) (zb (qv 1) (zb (qv 2) (zb (qv 3) zd)))))))) zL)
   (zh (zak (zE zax (qv 4) zar) (zi (zv (zaZ zen (qv 5) (qv 1)))) zL)
   (zh (zak (zE zax (qv 4) zar) (zi (zv (zfP (zaZ zew (zn zJ Y.len zap (zb (qv 1) zd)) ze) (ze7 (zaZ zax (zx zm (qv 1) ze) (qv 5)))))) zL)
   (zh (zak (zE zax (qv 4) zar) (zi (zv (zaZ zax (qv 3) (qv 5)))) zL)
   (zh (zak (zE zax (qv 4) zar) (zi (zv (zaZ zen (qv 5) (qv 2)))) zL)
   (zi (zv (zaZ zql (zQ zdG (zn zJ Y.len zap (zb (qv 1) zd)) ze) (qv 5)))))))))),?_⟩
  try dsimp only[zav]
  refine vr rfl (ex2 p _ ⟨rfl, .inl (.inl hp),rfl,ex2 _ _ ⟨rfl,ex2 _ _ ⟨rfl,rfl,?_⟩⟩⟩)
  refine vr rfl ⟨rfl,vr rfl (zbK (λel=>?_) (λel=>?_))⟩
  ·obtain ⟨ce,ge⟩:=h1 ws ms to x e hcd (V.str.inj (R0 el))
   refine vr rfl (vr rfl (vr rfl (vr rfl (ex8 v1 e pw pm vt ws ms to ⟨rfl,r1,ce,hpw,hpm,hto,nw,nm,w1,lw,lm,λH' s'=>(vr rfl ?_)⟩))))
   have q:=q H' s'
   rw[←ge] at q
   exact q
  have q:=q H (Same.refl H)
  obtain⟨hpl,ge⟩:=h2 x e hcd λz=>el (N0 (by rw[z]))
  rw[←ge ws ms to] at q
  have bad:∀{y z:Str},y=z->¬decide (V.str y=V.str z)=true->False:=λe h=>h (by rw[e];exact N0 rfl)
  refine vr rfl ⟨rfl,vr rfl (zbK (λe1=>?_) (λe1=>?_))⟩
  ·have e1:=V.str.inj (R0 e1)
   subst e1
   rcases zay hpl with⟨z,_⟩|⟨_,y,rfl,ny⟩
   ·exact absurd z `n4
   cases r1 with|str _ _=>
   rw[zqt,←zdx] at q
   exact vr rfl (vr rfl (ex2 pw _ ⟨rfl, .inr (.inl (.inl hpw)),rfl,zbX,q⟩))
  refine vr rfl ⟨rfl,vr rfl (zbK (λe2=>?_) (λe2=>?_))⟩
  ·have e2:=V.str.inj (R0 e2)
   subst e2
   rcases zay hpl with⟨z,_⟩|⟨_,y,rfl,ny⟩
   ·exact absurd z `n4
   cases r1 with|str _ _=>
   rw[zlc] at q
   refine vr rfl (.inl (ex2 pw _ ⟨rfl, .inr (.inl (.inl hpw)),ex2 _ _ ⟨rfl,rfl,vr rfl ?_⟩⟩))
   match ws,hpw,q with
   |[],hpw,q=>exact zO rfl q
   |[a],hpw,q=>exact zO rfl q
   |a::b::r,hpw,q=>
    refine zN (N0 (by rw[B0,O1,O1];lia)) ?_
    refine vr rfl (ixT hpw at1 (vr rfl ⟨rfl,?_⟩))
    rw[zab]
    have eb:decide ((a::b::r)[1]?=some y)=decide (b=y):=by
     rw[G2,P0,P0];simp
    rw[eb] at q
    exact q
  refine vr rfl ⟨rfl,vr rfl (zbK (λe3=>?_) (λe3=>?_))⟩
  ·have e3:=V.str.inj (R0 e3)
   subst e3
   rcases zay hpl with⟨z,_⟩|⟨_,y,rfl,ny⟩
   ·exact absurd z `n4
   cases r1 with|str _ _=>
   obtain⟨hsc,hde⟩:=hto.eq (y:=y)
   rw[zqs,←hde] at q
   exact vr rfl (vr rfl ⟨hsc,q⟩)
  refine vr rfl ⟨rfl,vr rfl (zbK (λe4=>?_) (λe4=>?_))⟩
  ·have e4:=V.str.inj (R0 e4)
   subst e4
   rcases zay hpl with⟨z,_⟩|⟨_,y,rfl,ny⟩
   ·exact absurd z `n4
   cases r1 with|str _ _=>
   rw[zir,←zdx] at q
   exact vr rfl (vr rfl (ex2 pm _ ⟨rfl, .inr (.inl (.inl hpm)),rfl,zbX,q⟩))
  rcases zay hpl with⟨rfl,i,rfl,i0,i9⟩|⟨hn,y,rfl,ny⟩
  ·cases r1 with|int _=>
   rw[zk6] at q
   refine vr rfl (.inl (ex2 pw _ ⟨rfl, .inr (.inl (.inl hpw)),ex2 _ _ ⟨rfl,rfl,vr rfl (ex2 _ _ ⟨rfl,rfl,?_⟩)⟩⟩))
   have eb:decide (i<=((ws.map V.str).length:Int) -1)=decide (i<(ws.length:Int)):=by
    rw[G2,P0,P0,B0];lia
   rw[←eb] at q
   exact q
  ·rcases zeX hn with z|z|z|z
   ·exact (bad z e1).elim
   ·exact (bad z e2).elim
   ·exact (bad z e3).elim
   ·exact (bad z e4).elim
theorem zmJ(Y:Ev K mg):Y.holds.O P w base 1 (ze2 (λ_=>false) (λ_ _ _ _=>false)):=by
 refine Y.holds.fn.okQ zeV (λvs H Q E h=>?_) `j4
 ·obtain ⟨v,d,_,_,_,_,_,_,rfl,_,z,_⟩:=h;cases z
 ·obtain ⟨v,d,_,_,_,_,_,_,rfl,_,z,_⟩:=h;cases z
theorem zoS(Y:Ev K mg):Y.holds.O P w base 3 (ze2 zT zbg):=by
 refine zeC (c:=zR) (g:=zcH) Y ?_ zT zbg zhG ?_ ?_
 ·refine zeC Y (zmJ Y) zR zcH zcE ?_ ?_
  ·intro ws ms to x e h z
   subst z
   exact absurd h (by rw[zdp];exact A2)
  ·exact λx e h _=>⟨h,λ_ _ _=>rfl⟩
 ·intro ws ms to x e h z
  subst z
  rw[zem,E1 rfl] at h
  exact⟨h,by show(!zcH ws ms to e)=(if("not":Str)="not"then !zcH ws ms to e else phB ws ms to "not" e);rw[E1 rfl]⟩
 ·intro x e h z
  rw[zem,Y0 z] at h
  exact⟨h,λws ms to=>by show phB ws ms to x e=(if x="not"then !zcH ws ms to e else phB ws ms to x e);rw[Y0 z]⟩
theorem zfK(Y:Ev K mg):Y.zcw.O P w base 4 zkj:=by
 have G_holds:Y.holds.O P w base 3 (ze2 zT zbg):=zoS Y
 refine Y.zcw.fn.okQ zeI (λvs H Q E h=>?_) `j4
 ·obtain ⟨v,cs,pw,pm,vt,ws,ms,to,rfl,_⟩:=h;rfl
 ·obtain ⟨v,cs,pw,pm,vt,ws,ms,to,rfl,hd,hcs,hpw,hpm,hto,nw,nm,w1,lw,lm,q⟩:=h
  obtain⟨pc,uc,rfl,hpc,rc,_⟩:=hd.ofT
  refine⟨_,(zh (zbG J3 rfl (zbM (qv 0)) (zk 4 zeI.nd) (zi (zak (zbp (za4 (znQ Y.holds G_holds hr (zb (qv 4) (zb (qv 1) (zb (qv 2) (zb (qv 3) zd))))))) (zi (zv zbT)) zL)))
   (zi (zv zbT))),?_⟩
  try dsimp only[zav]
  refine vr rfl ⟨pc,rfl,⟨_, .inl (.inl hpc)⟩,?_⟩
  let I0:Nat->St->Hp->Prop:=λi σ' H'=>(∃o4,σ'=[some (.ref pc),some (.ref pw),some (.ref pm),some vt,o4])/\(cs.take i).all (zbg ws ms to)=true/\Same H H'
  refine zbi (za1 (K:=K) (xs:=uc)) I0 ⟨⟨_,rfl⟩,rfl,Same.refl _⟩ (λi σ' H' z=> .inl (.inl (z.2.2 _ _ hpc))) ?_ ?_
  ·rintro i y σ' H1 hi hy ⟨⟨o4,rfl⟩,ha,s1⟩
   obtain⟨c,hc,rcc⟩:=rc.get hy
   have hcm:=U0 hc
   have tk:(cs.take (i+1)).all (zbg ws ms to)=((cs.take i).all (zbg ws ms to)&&zbg ws ms to c):=by
    rw[O3,hc,List.all_append];simp
   refine vr rfl (vr rfl (vr rfl (vr rfl (ex8 y c pw pm vt ws ms to ⟨rfl,rcc.same s1,hcs c hcm,s1 _ _ hpw,s1 _ _ hpm,hto,nw,nm,w1,lw,lm,λH2 s2=>(vr rfl ?_)⟩))))
   cases hb:zbg ws ms to c with
   |false=>
    have e:zch ws ms to cs=false:=List.all_eq_false.mpr ⟨c,hcm,by rw[hb];decide⟩
    have q:=q H2 (s1.trans s2)
    rw[e] at q
    exact zN rfl q
   |true=>exact zO rfl ⟨⟨_,rfl⟩,by rw[tk,ha,hb];rfl,s1.trans s2⟩
  ·rintro σ' H1 ⟨⟨o4,rfl⟩,ha,s1⟩
   rw[rc.1,X3] at ha
   have q:=q H1 s1
   have e:zch ws ms to cs=true:=ha
   rw[e] at q
   exact q
theorem zgZ(Y:Ev K mg):Y.zc6.O P w base 1 zsK:=by
 refine Y.zc6.fn.okQ zfe (λvs H Q E h=>?_) `j4
 ·obtain ⟨v,x,g,hs,ps,lks,hds,j,rfl,_⟩:=h;rfl
 ·obtain ⟨v,x,g,hs,ps,lks,hds,j,rfl,hv,T,hj,q⟩:=h
  obtain⟨p,pr,pt,pl,pa,vt,vl,va,rfl,hp,hpr,hpt,rt,hpl,rl,hpa,ra⟩:=zbL hv
  have hjl:j<hs.length:=by
   rcases R1 j hs.length with y|y
   ·exact y
   ·rw[G0 y] at hj;cases hj
  have hjk:j<lks.length:=by rw[T.ll];exact hjl
  have hjv:j<vl.length:=by rw[rl.1];exact hjk
  refine⟨_,(zi (zv (zx zm (zx zm (qv 0) ze) (zf3 F.plainAttrs_tuple F.slot_tuple_index F.type_tuple_index zhv (zx zm (qv 0) ze) (zb (qv 1) zd))))),?_⟩
  try dsimp only[zav]
  refine vr rfl (ixT hp (zG (j:=3) rfl) ?_)
  refine vr rfl (ixT hp (zG (j:=1) rfl) ?_)
  refine⟨.inr (.inr (.inr (.inr ⟨rfl,_,hpr⟩))),vr rfl (ex4 pr hs x j ⟨rfl,rfl, .inl (.inl hpr),hj,zjw T.hs_nd hj,?_⟩)⟩
  exact⟨pl,_,_,vl[j],rfl,rfl, .inl (.inl hpl),zG (by simp[hjv]),q _ lks[j] (F0 hjk) (rl.2 j _ _ (F0 hjv) (F0 hjk))⟩
theorem zn9(Y:Ev K mg):Y.ziE.O P w base 5 zfc:=by
 have G_all_hold:Y.zcw.O P w base 4 zkj:=zfK Y
 have G_likings_of:Y.zc6.O P w base 1 zsK:=zgZ Y
 refine Y.ziE.fn.okQ zf9 (λvs H Q E h=>?_) `j4
 ·obtain ⟨v,pw,pm,x,ws,ms,g,hs,ps,lks,hds,j,rs,rfl,_⟩:=h;rfl
 ·obtain ⟨v,pw,pm,x,ws,ms,g,hs,ps,lks,hds,j,rs,rfl,hv,T,hj,hlj,hpw,hpm,nw,nm,lw,lm,q⟩:=h
  have hlk:rs.length<=90/\∀r∈rs,zaA r=true:=by
   have h:=T.likes _ (U0 hlj)
   have h:(decide (rs.length<=90)&&rs.all zaA)=true:=h
   rw[L0] at h
   exact⟨R0 h.1,V1.mp h.2⟩
  refine⟨_,(zh (zbG J3 rfl (zbM (zH Y.zc6 G_likings_of hr (zb (qv 0) (zb (zx zm (qv 1) ze) zd)))) (zbS 2 rfl (zo (zk 3 zf9.nd) (zo (zk 4 zf9.nd) zaB))) (zi (zak (za4 (zsy Y.zcw G_all_hold hr (zb (qv 3) (zb (qv 1) (zb (qv 2) zd))))) (zi (zv (qv 4))) zL)))
   (zi (zv ze))),?_⟩
  try dsimp only[zav]
  refine vr rfl (vr rfl (ixT hpw at0 (ex8 v x g hs ps lks hds j ⟨rfl,hv,T,hj,λvr d hd rd=>?_⟩)))
  rw[hlj] at hd
  cases hd
  obtain⟨pq,us,rfl,hpq,ru,_⟩:=rd.ofT
  refine⟨pq,rfl,⟨_, .inl (.inl hpq)⟩,?_⟩
  let I1:Nat->St->Hp->Prop:=λi σ' H'=>(∃o3 o4,σ'=[some v,some (.ref pw),some (.ref pm),o3,o4])/\zY (x::ws) ms rs=zY (x::ws) ms (rs.drop i)/\Same H H'
  refine zbi (za1 (K:=K) (xs:=us)) I1 ⟨(ex2 _ _ rfl),rfl,Same.refl _⟩ (λi σ' H' z=> .inl (.inl (z.2.2 _ _ hpq))) ?_ ?_
  ·rintro i y σ' H1 hi hy ⟨⟨o3,o4,rfl⟩,hw,s1⟩
   obtain⟨r,hr',rr⟩:=ru.get hy
   obtain⟨cs,t,rfl,c4,hcs,ht⟩:=zfo (hlk.2 r (U0 hr'))
   obtain⟨q0,v0,v1,rfl,hq0,r0,r1⟩:=(rr.same s1).of2
   refine ex2 q0 _ ⟨rfl, .inl (.inl hq0),rfl,ex2 _ _ ⟨rfl,ex2 _ _ ⟨rfl,rfl,?_⟩⟩⟩
   refine vr rfl (vr rfl (vr rfl (ex8 v0 cs pw pm (.non) (x::ws) ms none ⟨rfl,r0,hcs,s1 _ _ hpw,s1 _ _ hpm, .inl ⟨rfl,rfl⟩,nw,nm,`n3,by simp;lia,lm,λH2 s2=>(vr rfl ?_)⟩)))
   rw[zh7 hr',zY] at hw
   have er:zch (x::ws) ms none (zdc (.tup [.tup cs,t]))=zch (x::ws) ms none cs:=rfl
   rw[er] at hw
   cases hb:zch (x::ws) ms none cs with
   |true=>
    rw[hb,E1 rfl] at hw
    exact zN rfl (vr rfl (q _ H2 (by rw[hw];exact r1.same s2) (s1.trans s2)))
   |false=>
    rw[hb,Y0 ⋯] at hw
    exact zO rfl ⟨(ex2 _ _ rfl),hw,s1.trans s2⟩
  ·rintro σ' H1 ⟨⟨o3,o4,rfl⟩,hw,s1⟩
   rw[ru.1,List.drop_length,zY] at hw
   exact q _ H1 (by rw[hw];exact .int 0) s1
theorem zi6(Y:Ev K mg):Y.zeq.O P w base 1 zsD:=by
 refine Y.zeq.fn.okQ zgI (λvs H Q E h=>?_) `j4
 ·obtain ⟨v,x,g,hs,ps,lks,hds,j,rfl,_⟩:=h;rfl
 ·obtain ⟨v,x,g,hs,ps,lks,hds,j,rfl,hv,T,hj,q⟩:=h
  obtain⟨p,pr,pt,pl,pa,vt,vl,va,rfl,hp,hpr,hpt,rt,hpl,rl,hpa,ra⟩:=zbL hv
  have hjl:j<hs.length:=by
   rcases R1 j hs.length with y|y
   ·exact y
   ·rw[G0 y] at hj;cases hj
  have hjk:j<hds.length:=by rw[T.lh];exact hjl
  have hjv:j<va.length:=by rw[ra.1];exact hjk
  refine⟨_,(zi (zv (zx zm (zx zm (qv 0) ze) (zf3 F.plainAttrs_tuple F.slot_tuple_index F.type_tuple_index zhv (zx zm (qv 0) ze) (zb (qv 1) zd))))),?_⟩
  try dsimp only[zav]
  refine vr rfl (ixT hp (zG (j:=4) rfl) ?_)
  refine vr rfl (ixT hp (zG (j:=1) rfl) ?_)
  refine⟨.inr (.inr (.inr (.inr ⟨rfl,_,hpr⟩))),vr rfl (ex4 pr hs x j ⟨rfl,rfl, .inl (.inl hpr),hj,zjw T.hs_nd hj,?_⟩)⟩
  exact⟨pa,_,_,va[j],rfl,rfl, .inl (.inl hpa),zG (by simp[hjv]),q _ hds[j] (F0 hjk) (ra.2 j _ _ (F0 hjv) (F0 hjk))⟩
theorem zf5(Y:Ev K mg):Y.zb5.O P w base 1 zhs:=by
 refine Y.zb5.fn.okQ zaX (λvs H Q E h=>?_) `j4
 ·obtain ⟨pm,v,t,w',m,rfl,_⟩:=h;rfl
 ·obtain ⟨pm,v,t,w',m,rfl,hpm,hv,tn,mn,l13,q⟩:=h
  obtain⟨pa,v0,v1,rfl,hpa,r0,r1⟩:=hv.of2
  cases r0 with|str _ _=>
  cases r1 with|str _ _=>
  refine⟨_,(zh (zdd (qv 1) (zbS 2 rfl (zo (zk 2 zaX.nd) (zo (zfd 3 zaX.nd) zaB))))
   (zh (zcv 4 (src:=[none,some 3]) zdq rfl rfl zaX.nd (zbM (qv 0)) (λ_ _ _ _ _=>(zk 0 zdq.nd)) (λ_ _ _ _ _=>(zcS (zE zeT (qv 0) (qc 1)))) (λ_ _ _ _ _=>(qv 0)))
   (zh (zak (zE zax (qv 2) zar) (zi (zcB (zf3 F.plainAttrs_list V3 W3 zaV (qv 4) (zb (qc 3) zd)))) zL)
   (zi (zv (zah zaf Y.tuple za6 (zb (zn zcq Y.sorted zbB (zb (qv 4) zd)) zd))))))),?_⟩
  try dsimp only[zav]
  refine vr rfl (ex2 pa _ ⟨rfl, .inl (.inl hpa),rfl,ex2 _ _ ⟨rfl,ex2 _ _ ⟨rfl,rfl,?_⟩⟩⟩)
  refine vr rfl ⟨pm,rfl,⟨_, .inl (.inl hpm)⟩,?_⟩
  refine zdv (g:=neD m) (f:=λd=>d) (σr:=[some (.str m)]) (za1 (K:=K)) (λH' s'=> .inl (.inl (s' _ _ hpm))) (zbj λy hy=>zy (tn y hy)) (by rw[B0];lia) rfl ?_ (λx d HA sA rx hd=>zcV rfl rx) λl1 us H1 s1 hl1 e1 r1=>?_
  ·intro z d HA Q1 sA rz hd q1
   obtain⟨b,_,rfl⟩:=G1.mp hd
   cases rz with|str _ _=>
   refine vr rfl (vr rfl ⟨rfl,vr rfl ?_⟩)
   rw[zab]
   exact q1 HA (Same.refl _)
  rw[znB] at r1
  have eus:=zfv r1
  subst eus
  have lf:=G3 (λx=>!decide (x=m)) t
  dsimp only[za5]
  have fin:∀(H2:Hp),H2 l1=some (.lst ((zaP t w' m).map V.str))->Same H H2->∀(ss:List Str) (l2:Addr),ss.Perm (zaP t w' m)->sortedS ss=true->H2 l2=none->∃p ys,[V.ref l2]=[.ref p]/\((SqL K (upd H2 l2 (.lst (ss.map V.str))) p ys/\∀l,upd H2 l2 (.lst (ss.map V.str)) l=none->Q (.ref l) (upd (upd H2 l2 (.lst (ss.map V.str))) l (.tup ys)))\/(SqT K (upd H2 l2 (.lst (ss.map V.str))) p ys/\Q (.ref p) (upd H2 l2 (.lst (ss.map V.str))))):=λH2 e2 s2 ss l2 hp2 hs2 hl2=>⟨l2,_,rfl, .inl ⟨SqL.of zc,λp hp=>by
   have es:=zlJ hp2 hs2
   subst es
   exact q p _ zc ((s2.trans (Same.new hl2)).trans (Same.new hp))⟩⟩
  refine vr rfl ⟨rfl,vr rfl (zbK (λe=>?_) (λe=>?_))⟩
  ·have ew:=V.str.inj (R0 e)
   have eb:zaP t w' m=t.filter (λx=>!decide (x=m))++ [m]:=by unfold zaP;rw[E1 ew]
   refine vr rfl ⟨.inl ⟨rfl,_,SqL.of e1⟩,vr rfl (ex3 l1 _ _ ⟨rfl,rfl,e1,zl (by rw[B0];lia),?_⟩)⟩
   have e2:(upd H1 l1 (.lst ((t.filter λx=>!decide (x=m)).map V.str ++ [V.str m]))) l1=some (.lst ((zaP t w' m).map V.str)):=by rw[zc,eb,J2];rfl
   have s2:Same H (upd H1 l1 (.lst ((t.filter λx=>!decide (x=m)).map V.str ++ [V.str m]))):=λc o z=>by rw[zj (zr z hl1)];exact s1 _ _ z
   generalize (upd H1 l1 (HO.lst ((t.filter λx=>!decide (x=m)).map V.str ++ [V.str m])))=H2 at *
   exact vr rfl ⟨l1,zaP t w' m,rfl, .inl (SqL.of e2),by rw[eb,W0,List.length_singleton];lia,fin H2 e2 s2⟩
  ·have ew:¬w'="put":=λz=>e (N0 (by rw[z]))
   have eb:zaP t w' m=t.filter (λx=>!decide (x=m)):=by unfold zaP;rw[Y0 ew,List.append_nil]
   have e2:H1 l1=some (.lst ((zaP t w' m).map V.str)):=by rw[eb];exact e1
   exact vr rfl ⟨l1,zaP t w' m,rfl, .inl (SqL.of e2),by rw[eb];lia,fin H1 e2 s1⟩
theorem zks(Y:Ev K mg):Y.zgh.O P w base 5 zct:=by
 have G_all_hold:Y.zcw.O P w base 4 zkj:=zfK Y
 have G_hands_of:Y.zeq.O P w base 1 zsD:=zi6 Y
 have G_marks_behind:Y.zb5.O P w base 1 zhs:=zf5 Y
 refine Y.zgh.fn.okQ zdg (λvs H Q E h=>?_) `j4
 ·obtain ⟨v,pw,pm,vt,x,ws,ms,to,g,hs,ps,lks,hds,j,rs,Pr,rfl,_⟩:=h;rfl
 ·obtain ⟨v,pw,pm,vt,x,ws,ms,to,g,hs,ps,lks,hds,j,rs,Pr,rfl,hv,T,hj,hdj,HO',MS,M0,hpw,hpm,hto,nw,lw,q⟩:=h
  refine⟨_,(zh (zI 4 zdg.nd (qv 2))
   (zh (zbG J3 rfl (zbM (zH Y.zeq G_hands_of hr (zb (qv 0) (zb (zx zm (qv 1) ze) zd)))) (zbS 2 rfl (zo (zk 5 zdg.nd) (zo (zk 6 zdg.nd) zaB))) (zh (zak (zbp (za4 (znQ Y.zcw G_all_hold hr (zb (qv 5) (zb (qv 1) (zb (qv 4) (zb (qv 3) zd))))))) (zi zrg) zL)
   (zh (zak (zE zax (zx zm (qv 6) ze) zar) (zi (zv zbR)) zL)
   (zi (zI 4 zdg.nd (zH Y.zb5 G_marks_behind hr (zb (qv 4) (zb (qv 6) zd))))))))
   (zi (zv (qv 4))))),?_⟩
  try dsimp only[zav]
  refine vr rfl ?_
  refine vr rfl (vr rfl (ixT hpw at0 (ex8 v x g hs ps lks hds j ⟨rfl,hv,T,hj,λvr d hd rd=>?_⟩)))
  rw[hdj] at hd
  cases hd
  obtain⟨pq,us,rfl,hpq,ru,_⟩:=rd.ofT
  refine⟨pq,rfl,⟨_, .inl (.inl hpq)⟩,?_⟩
  let I2:Nat->St->Hp->Prop:=λi σ' H'=>(∃pt t o5 o6,σ'=[some v,some (.ref pw),some (.ref pm),some vt,some (.ref pt),o5,o6]/\H' pt=some (.tup (t.map V.str))/\Pr i t/\zD (x::ws) to rs ms=zD (x::ws) to (rs.drop i) t)/\Same H H'
  refine zbi (za1 (K:=K) (xs:=us)) I2 ⟨(ex4 pm ms _ _ ⟨rfl,hpm,M0,rfl⟩),Same.refl _⟩ (λi σ' H' z=> .inl (.inl (z.2 _ _ hpq))) ?_ ?_
  ·rintro i y σ' H1 hi hy ⟨⟨pt,t,o5,o6,rfl,hpt,Mt,he⟩,s1⟩
   obtain⟨r,hr',rr⟩:=ru.get hy
   obtain⟨cs,xa,rfl,hcs,hx⟩:=HO'.2 r (U0 hr')
   obtain⟨q0,v0,v1,rfl,hq0,r0,r1⟩:=(rr.same s1).of2
   have lu:=ru.1
   obtain⟨tn,tl⟩:=MS.ok i t () Mt
   refine ex2 q0 _ ⟨rfl, .inl (.inl hq0),rfl,ex2 _ _ ⟨rfl,ex2 _ _ ⟨rfl,rfl,?_⟩⟩⟩
   refine vr rfl (vr rfl (vr rfl (vr rfl (ex8 v0 cs pw pt vt (x::ws) t to ⟨rfl,r0,hcs,s1 _ _ hpw,hpt,hto,nw,tn,`n3,by simp;lia,J1 tl ⋯,λH2 s2=>(vr rfl ?_)⟩))))
   rw[zh7 hr',zD] at he
   have er:zch (x::ws) t to (zdc (.tup [.tup cs,xa]))=zch (x::ws) t to cs:=rfl
   have et:zca (.tup [.tup cs,xa])=xa:=rfl
   rw[er,et] at he
   cases hb:zch (x::ws) t to cs with
   |false=>
    rw[hb,Y0 ⋯] at he
    exact zN rfl ⟨(ex4 pt t _ _ ⟨rfl,s2 _ _ hpt,MS.skip i t Mt,he⟩),s1.trans s2⟩
   |true=>
    rw[hb,E1 rfl] at he
    refine zO rfl ?_
    rcases hx with rfl|⟨w1,m1,rfl,hw1,hm1⟩
    ·obtain ⟨pa,ua,rfl,hpa,ra',_⟩:=(r1.same s2).ofT
     have la:ua.length=1:=ra'.1
     obtain⟨u0,rfl⟩:∃u0,ua=[u0]:=by
      match ua,la with
      |[u0],_=>exact ⟨u0,rfl⟩
     have h0:=ra'.head.1
     cases h0 with|str _ _=>
     refine vr rfl (ixT hpa at0 ⟨rfl,vr rfl (zN (by rw[N0 rfl]) ?_)⟩)
     exact q .non H2 (by rw[he];rfl) (s1.trans s2)
    ·obtain ⟨pa,z0,z1,rfl,hpa,rz0,rz1⟩:=(r1.same s2).of2
     cases rz0 with|str _ _=>
     have nk:decide (V.str w1=V.str "keep")=false:=by
      rw[zab]
      rcases hw1 with rfl|rfl<;>decide +kernel
     refine vr rfl (ixT hpa at0 ⟨rfl,vr rfl (zO nk ?_)⟩)
     refine vr rfl (vr rfl (ex4 pt (.ref pa) t w1 ⟨m1,rfl,s2 _ _ hpt,r1.same s2,tn,hm1,tl,λp3 H3 e3 s3=>?_⟩))
     exact⟨(ex4 p3 _ _ _ ⟨rfl,e3,MS.next i t w1 m1 cs Mt hr',he⟩),(s1.trans s2).trans s3⟩
  ·rintro σ' H1 ⟨⟨pt,t,o5,o6,rfl,hpt,Mt,he⟩,s1⟩
   rw[ru.1,List.drop_length,zD] at he
   exact vr rfl (q _ H1 (by rw[he];exact⟨pt,rfl,hpt⟩) s1)
def MsAt(H:Hp)(pm:Addr)(ms:List Str):Prop:=H pm=some (.tup (ms.map V.str))\/H pm=some (.lst (ms.map V.str))
theorem MsAt.same{pm:Addr}(h:MsAt H pm ms)(s:Same H H'):MsAt H' pm ms:=h.imp (s _ _) (s _ _)
noncomputable def zd1(c:D->Bool)(g:List Str->List Str->Option Str->D->Bool):Sp:=λvs H Q _=>∃(v:V) (d:D) (pw pm:Addr) (vt:V) (ws ms:List Str) (to:Option Str),vs=[v, .ref pw, .ref pm,vt]/\Rep H v d/\c d=true/\H pw=some (.tup (ws.map V.str))/\MsAt H pm ms/\TO0 vt to/\(∀x∈ws,zg x=true)/\(∀x∈ms,zg x=true)/\1<=ws.length/\ws.length<=100/\ms.length<=100/\∀H',Same H H'->Q (.bl (g ws ms to d)) H'
noncomputable def zhP:Sp:=λvs H Q _=>∃(v:V) (cs:List D) (pw pm:Addr) (vt:V) (ws ms:List Str) (to:Option Str),vs=[v, .ref pw, .ref pm,vt]/\Rep H v (.tup cs)/\(∀c∈cs,zT c=true)/\H pw=some (.tup (ws.map V.str))/\MsAt H pm ms/\TO0 vt to/\(∀x∈ws,zg x=true)/\(∀x∈ms,zg x=true)/\1<=ws.length/\ws.length<=100/\ms.length<=100/\∀H',Same H H'->Q (.bl (zch ws ms to cs)) H'
theorem zdU{c:D->Bool}{g:List Str->List Str->Option Str->D->Bool}(Y:Ev K mg)(G__law_cond_holds:Y.zZ.O P w base k (zd1 c g))(c':D->Bool)(g':List Str->List Str->Option Str->D->Bool)
 (hc:∀d,c' d=true->∃x e,d= .tup [.str x,e]) (h1:∀ws ms to x e,c' (.tup [.str x,e])=true->x="not"->c e=true/\(!g ws ms to e)=g' ws ms to (.tup [.str x,e]))
 (h2:∀x e,c' (.tup [.str x,e])=true->¬x="not"->zR (.tup [.str x,e])=true/\∀ws ms to,phB ws ms to x e=g' ws ms to (.tup [.str x,e])):
 Y.zZ.O P w base (k+1) (zd1 c' g'):=by
 refine Y.zZ.fn.okQ zaH (λvs H Q E h=>?_) `j4
 ·obtain ⟨v,d,pw,pm,vt,ws,ms,to,rfl,_⟩:=h;rfl
 ·obtain ⟨v,d,pw,pm,vt,ws,ms,to,rfl,hd,hcd,hpw,hpm,hto,nw,nm,w1,lw,lm,q⟩:=h
  obtain⟨x,e,rfl⟩:=hc d hcd
  obtain⟨p,v0,v1,rfl,hp,r0,r1⟩:=hd.of2
  cases r0 with
  |str _ hx=>
  refine⟨_,(zh (zak (zE zax (zx zm (qc 0) ze) zar) (zi (zv (zoI (zH Y.zZ G__law_cond_holds hr (zb (zx zm (qc 0) ze) (zb (qv 1) (zb (qv 2) (zb (qv 3) zd)))))))) zL)
   (zh (zak (zE zax (zx zm (qc 0) ze) zar) (zi (zv (zaZ zew (zn zJ Y.len zap (zb (zaQ (src:=[none,some 0]) zcj rfl rfl (zbM (qv 1)) (λ_ _ _ _ _=>(zk 0 zcj.nd)) (λ_ _ _ _ _=>(zcS (zE zax (qv 0) (zx (zbb (K:=K) rfl) (qc 1) ze)))) (λ_ _ _ _ _=>(qv 0))) zd)) ze))) zL)
   (zh (zak (zE zax (zx zm (qc 0) ze) zar) (zi (zv (zaZ (zeP (zb8 hr)) (zdB zbc (qv 1) (zaW ze) (zaW ze)) (zM (zb (zx zm (qc 0) ze) zd))))) zL)
   (zh (zak (zE zax (zx zm (qc 0) ze) zar) (zi (zv (zfP (zaZ zlK (qv 3) zbR) (ze7 (zaZ zax (qv 3) (zx zm (qc 0) ze)))))) zL)
   (zh (zak (zE zax (zx zm (qc 0) ze) zar) (zi (zv (zaZ zew (zn zJ Y.len zap (zb (zaQ (src:=[none,some 0]) zci rfl rfl (zqR (qv 2)) (λ_ _ _ _ _=>(zk 0 zci.nd)) (λ_ _ _ _ _=>(zcS (zE zax (qv 0) (zx (zbb (K:=K) rfl) (qc 1) ze)))) (λ_ _ _ _ _=>(qv 0))) zd)) ze))) zL)
   (zi (zv (zaZ zew (zn zJ Y.len zap (zb (qv 1) zd)) (zx zm (qc 0) ze))))))))),?_⟩
  try dsimp only[zav]
  refine vr rfl (ixT hp at0 ⟨rfl,vr rfl (zbK (λel=>?_) (λel=>?_))⟩)
  ·obtain ⟨ce,ge⟩:=h1 ws ms to x e hcd (V.str.inj (R0 el))
   refine vr rfl (ixT hp at1 (vr rfl (vr rfl (vr rfl (ex8 v1 e pw pm vt ws ms to ⟨rfl,r1,ce,hpw,hpm,hto,nw,nm,w1,lw,lm,λH' s'=>(vr rfl ?_)⟩)))))
   have q:=q H' s'
   rw[←ge] at q
   exact q
  obtain⟨hpl,ge⟩:=h2 x e hcd λz=>el (N0 (by rw[z]))
  rw[←ge ws ms to] at q
  have bad:∀{y z:Str},y=z->¬decide (V.str y=V.str z)=true->False:=λe h=>h (by rw[e];exact N0 rfl)
  refine vr rfl (ixT hp at0 ⟨rfl,vr rfl (zbK (λe1=>?_) (λe1=>?_))⟩)
  ·have e1:=V.str.inj (R0 e1)
   subst e1
   rcases zay hpl with⟨z,_⟩|⟨_,y,rfl,ny⟩
   ·exact absurd z `n4
   cases r1 with|str _ _=>
   refine vr rfl ⟨pw,rfl,⟨_, .inl (.inl hpw)⟩,?_⟩
   refine zdv (g:=eqD y) (f:=λd=>d) (σr:=[some (.ref p)]) (za1 (K:=K)) (λH' s'=> .inl (.inl (s' _ _ hpw))) (zbj λy hy=>zy (nw y hy)) (by rw[B0];lia) rfl ?_ (λx d HA sA rx hd=>zcV rfl rx) λl7 us H7 s7 hl7 e7 r7=>?_
   ·intro z d HA Q1 sA rz hd q1
    obtain⟨b,_,rfl⟩:=G1.mp hd
    cases rz with|str _ _=>
    refine vr rfl (vr rfl (ixT (sA _ _ hp) at1 ⟨rfl,vr rfl ?_⟩))
    rw[zab]
    exact q1 HA (Same.refl _)
   refine .inl (ex2 l7 _ ⟨rfl, .inl (SqL.of e7),ex2 _ _ ⟨rfl,rfl,?_⟩⟩)
   have q:=q H7 s7
   rw[zqt,←zhO r7] at q
   exact q
  refine vr rfl (ixT hp at0 ⟨rfl,vr rfl (zbK (λe2=>?_) (λe2=>?_))⟩)
  ·have e2:=V.str.inj (R0 e2)
   subst e2
   rcases zay hpl with⟨z,_⟩|⟨_,y,rfl,ny⟩
   ·exact absurd z `n4
   cases r1 with|str _ _=>
   refine vr rfl ⟨1,rfl,2,rfl,ex2 pw _ ⟨rfl, .inl (.inl hpw),λz=>?_,λp2 hp2=>?_⟩⟩
   ·rw[zoC (by rw[B0];exact w1)] at z
    have:=j3 List.length z
    rw[N2,D3,B0] at this
    lia
   rw[zoC (by rw[B0];exact w1),←List.map_drop,←List.map_take]
   have S2:=Same.new (o:= .tup (((ws.drop 1).take 1).map V.str)) hp2
   refine vr rfl (ixT (S2 _ _ hp) at1 ⟨few rfl,λp3 hp3=>?_⟩)
   have S3:=Same.new (o:= .tup [V.str y]) hp3
   refine⟨_,_,zaG (xs:=(ws.drop 1).take 1) (S3 _ _ zc) (λx hx=>zp (nw x (List.mem_of_mem_drop (List.mem_of_mem_take hx)))),zaG (xs:=[y]) zc (λx hx=>by rw[c0.mp hx];exact zp ny),J1 (Nat.min_le_left _ _) zad,?_⟩
   have q:=q _ (S2.trans S3)
   rw[zlc,←zmW,←zaT] at q
   exact q
  refine vr rfl (ixT hp at0 ⟨rfl,vr rfl (zbK (λe3=>?_) (λe3=>?_))⟩)
  ·have e3:=V.str.inj (R0 e3)
   subst e3
   rcases zay hpl with⟨z,_⟩|⟨_,y,rfl,ny⟩
   ·exact absurd z `n4
   cases r1 with|str _ _=>
   have q:=q H (Same.refl H)
   rw[zqs] at q
   rcases hto.notN with⟨rfl,rfl⟩|⟨x,rfl,rfl⟩
   ·exact vr rfl ⟨rfl,vr rfl (zO rfl q)⟩
   ·refine vr rfl ⟨rfl,vr rfl (zN rfl (vr rfl (vr rfl (ixT hp at1 ⟨rfl,?_⟩))))⟩
    have eb:decide (some x=some y)=decide (x=y):=by rw[G2,P0,P0,Option.some.injEq]
    rw[eb,←zab] at q
    exact q
  refine vr rfl (ixT hp at0 ⟨rfl,vr rfl (zbK (λe4=>?_) (λe4=>?_))⟩)
  ·have e4:=V.str.inj (R0 e4)
   subst e4
   rcases zay hpl with⟨z,_⟩|⟨_,y,rfl,ny⟩
   ·exact absurd z `n4
   cases r1 with|str _ _=>
   rcases hpm with hpm|hpm
   ·refine .inl (vr rfl ⟨pm,rfl,⟨_, .inl (.inl hpm)⟩,?_⟩)
    refine zdv (g:=eqD y) (f:=λd=>d) (σr:=[some (.ref p)]) (za1 (K:=K)) (λH' s'=> .inl (.inl (s' _ _ hpm))) (zbj λy hy=>zy (nm y hy)) (by rw[B0];lia) rfl ?_ (λx d HA sA rx hd=>zcV rfl rx) λl7 us H7 s7 hl7 e7 r7=>?_
    ·intro z d HA Q1 sA rz hd q1
     obtain⟨b,_,rfl⟩:=G1.mp hd
     cases rz with|str _ _=>
     refine vr rfl (vr rfl (ixT (sA _ _ hp) at1 ⟨rfl,vr rfl ?_⟩))
     rw[zab]
     exact q1 HA (Same.refl _)
    refine .inl (ex2 l7 _ ⟨rfl, .inl (SqL.of e7),ex2 _ _ ⟨rfl,rfl,?_⟩⟩)
    have q:=q H7 s7
    rw[zir,←zhO r7] at q
    exact q
   ·refine .inr (vr rfl ⟨pm,rfl,⟨_,SqL.of hpm⟩,?_⟩)
    refine zdv (g:=eqD y) (f:=λd=>d) (σr:=[some (.ref p)]) (zcW (K:=K)) (λH' s'=>SqL.of (s' _ _ hpm)) (zbj λy hy=>zy (nm y hy)) (by rw[B0];lia) rfl ?_ (λx d HA sA rx hd=>zcV rfl rx) λl7 us H7 s7 hl7 e7 r7=>?_
    ·intro z d HA Q1 sA rz hd q1
     obtain⟨b,_,rfl⟩:=G1.mp hd
     cases rz with|str _ _=>
     refine vr rfl (vr rfl (ixT (sA _ _ hp) at1 ⟨rfl,vr rfl ?_⟩))
     rw[zab]
     exact q1 HA (Same.refl _)
    refine .inl (ex2 l7 _ ⟨rfl, .inl (SqL.of e7),ex2 _ _ ⟨rfl,rfl,?_⟩⟩)
    have q:=q H7 s7
    rw[zir,←zhO r7] at q
    exact q
  rcases zay hpl with⟨rfl,i,rfl,i0,i9⟩|⟨hn,y,rfl,ny⟩
  ·cases r1 with|int _=>
   have q:=q H (Same.refl H)
   rw[zk6] at q
   refine vr rfl (.inl (ex2 pw _ ⟨rfl, .inr (.inl (.inl hpw)),vr rfl (ixT hp at1 (ex2 _ _ ⟨rfl,rfl,?_⟩))⟩))
   rw[B0]
   exact q
  ·rcases zeX hn with z|z|z|z
   ·exact (bad z e1).elim
   ·exact (bad z e2).elim
   ·exact (bad z e3).elim
   ·exact (bad z e4).elim
theorem zkx(Y:Ev K mg):Y.zZ.O P w base 1 (zd1 (λ_=>false) (λ_ _ _ _=>false)):=by
 refine Y.zZ.fn.okQ zaH (λvs H Q E h=>?_) `j4
 ·obtain ⟨v,d,_,_,_,_,_,_,rfl,_,z,_⟩:=h;cases z
 ·obtain ⟨v,d,_,_,_,_,_,_,rfl,_,z,_⟩:=h;cases z
theorem zl0(Y:Ev K mg):Y.zZ.O P w base 3 (zd1 zT zbg):=by
 refine zdU (c:=zR) (g:=zcH) Y ?_ zT zbg zhG ?_ ?_
 ·refine zdU Y (zkx Y) zR zcH zcE ?_ ?_
  ·intro ws ms to x e h z
   subst z
   exact absurd h (by rw[zdp];exact A2)
  ·exact λx e h _=>⟨h,λ_ _ _=>rfl⟩
 ·intro ws ms to x e h z
  subst z
  rw[zem,E1 rfl] at h
  exact⟨h,by show(!zcH ws ms to e)=(if("not":Str)="not"then !zcH ws ms to e else phB ws ms to "not" e);rw[E1 rfl]⟩
 ·intro x e h z
  rw[zem,Y0 z] at h
  exact⟨h,λws ms to=>by show phB ws ms to x e=(if x="not"then !zcH ws ms to e else phB ws ms to x e);rw[Y0 z]⟩
theorem zeU(Y:Ev K mg):Y.zaY.O P w base 4 zhP:=by
 have G__law_cond_holds:Y.zZ.O P w base 3 (zd1 zT zbg):=zl0 Y
 refine Y.zaY.fn.okQ zcc (λvs H Q E h=>?_) `j4
 ·obtain ⟨v,cs,pw,pm,vt,ws,ms,to,rfl,_⟩:=h;rfl
 ·obtain ⟨v,cs,pw,pm,vt,ws,ms,to,rfl,hd,hcs,hpw,hpm,hto,nw,nm,w1,lw,lm,q⟩:=h
  obtain⟨pc,uc,rfl,hpc,rc,_⟩:=hd.ofT
  refine⟨_,(zh (zbG J3 rfl (zbM (qv 0)) (zk 4 zcc.nd) (zi (zak (zbp (za4 (zH Y.zZ G__law_cond_holds hr (zb (qv 4) (zb (qv 1) (zb (qv 2) (zb (qv 3) zd))))))) (zi (zv zbT)) zL)))
   (zi (zv zbT))),?_⟩
  try dsimp only[zav]
  refine vr rfl ⟨pc,rfl,⟨_, .inl (.inl hpc)⟩,?_⟩
  let I0:Nat->St->Hp->Prop:=λi σ' H'=>(∃o4,σ'=[some (.ref pc),some (.ref pw),some (.ref pm),some vt,o4])/\(cs.take i).all (zbg ws ms to)=true/\Same H H'
  refine zbi (za1 (K:=K) (xs:=uc)) I0 ⟨⟨_,rfl⟩,rfl,Same.refl _⟩ (λi σ' H' z=> .inl (.inl (z.2.2 _ _ hpc))) ?_ ?_
  ·rintro i y σ' H1 hi hy ⟨⟨o4,rfl⟩,ha,s1⟩
   obtain⟨c,hc,rcc⟩:=rc.get hy
   have hcm:=U0 hc
   have tk:(cs.take (i+1)).all (zbg ws ms to)=((cs.take i).all (zbg ws ms to)&&zbg ws ms to c):=by
    rw[O3,hc,List.all_append];simp
   refine vr rfl (vr rfl (vr rfl (vr rfl (ex8 y c pw pm vt ws ms to ⟨rfl,rcc.same s1,hcs c hcm,s1 _ _ hpw,hpm.same s1,hto,nw,nm,w1,lw,lm,λH2 s2=>(vr rfl ?_)⟩))))
   cases hb:zbg ws ms to c with
   |false=>
    have e:zch ws ms to cs=false:=List.all_eq_false.mpr ⟨c,hcm,by rw[hb];decide⟩
    have q:=q H2 (s1.trans s2)
    rw[e] at q
    exact zN rfl q
   |true=>exact zO rfl ⟨⟨_,rfl⟩,by rw[tk,ha,hb];rfl,s1.trans s2⟩
  ·rintro σ' H1 ⟨⟨o4,rfl⟩,ha,s1⟩
   rw[rc.1,X3] at ha
   have q:=q H1 s1
   have e:zch ws ms to cs=true:=ha
   rw[e] at q
   exact q
theorem zf0(Y:Ev K mg):Y.za3.O P w base 5 zct:=by
 have G__law_all_hold:Y.zaY.O P w base 4 zhP:=zeU Y
 refine Y.za3.fn.okQ zao (λvs H Q E h=>?_) `j4
 ·obtain ⟨v,pw,pm,vt,x,ws,ms,to,g,hs,ps,lks,hds,j,rs,Pr,rfl,_⟩:=h;rfl
 ·obtain ⟨v,pw,pm,vt,x,ws,ms,to,g,hs,ps,lks,hds,j,rs,Pr,rfl,hv,T,hj,hdj,HO',MS,M0,hpw,hpm,hto,nw,lw,q⟩:=h
  obtain⟨p,pr,pt,pl,pa,vtt,vl,va,rfl,hp,hpr,hpt,rt,hpl,rl,hpa,ra⟩:=zbL hv
  have T10:=T.ten
  have hjl:j<hs.length:=by
   rcases R1 j hs.length with y|y
   ·exact y
   ·rw[G0 y] at hj;cases hj
  have hjk:j<hds.length:=by rw[T.lh];exact hjl
  have hjv:j<va.length:=by rw[ra.1];exact hjk
  refine⟨_,(zh (zI 4 zao.nd (zx zag (zaQ (src:=[none,none,some 1]) zcg rfl rfl (zkn Y.enumerate (zb (zx zm (qv 0) ze) zd)) (λ_ _ _ _ _=>(zfy (K:=K) 2 rfl rfl (zo (zk 0 zcg.nd) (zo (zk 1 zcg.nd) zaB)))) (λ_ _ _ _ _=>(zcS (zE zax (qv 1) (zx (zbb (K:=K) rfl) (qc 2) ze)))) (λ_ _ _ _ _=>(qv 0))) ze))
   (zh (zI 5 zao.nd (zah zfl Y.list zil (zb (qv 2) zd)))
   (zh (zbG J3 rfl (zbM (zx zm (zx zm (qv 0) ze) (qv 4))) (zbS 2 rfl (zo (zk 6 zao.nd) (zo (zfd 7 zao.nd) zaB))) (zi (zak (za4 (zH Y.zaY G__law_all_hold hr (zb (qv 6) (zb (qc 1) (zb (qv 5) (zb (qv 3) zd)))))) (zh (zak (zE zax (zx zm (qc 7) ze) zar) (zi (zv zbR)) zL)
   (zi (zI 5 zao.nd (zn zcq Y.sorted zbB (zb (zQ zdE (zaQ (src:=[none,some 7]) zdR rfl rfl (zdT (qv 5)) (λ_ _ _ _ _=>(zk 0 zdR.nd)) (λ_ _ _ _ _=>(zcS (zE zeT (qv 0) (zx (zbb (K:=K) rfl) (qc 1) ze)))) (λ_ _ _ _ _=>(qv 0))) (zQ zor (za0 (zb (zx zm (qc 7) ze) zd)) (zah zdo Y.int zfu (zb (zaZ zax (zx zm (qc 7) ze) zar) zd)))) zd))))) zL)))
   (zi (zv (zah zaf Y.tuple za6 (zb (qv 5) zd))))))),?_⟩
  try dsimp only[zav]
  refine vr rfl (ixT hp (zG (j:=1) rfl) (ex2 pr _ ⟨rfl, .inl (.inl hpr),?_⟩))
  refine zjz (K:=K) (x:=x) (λσ'=>∃o0 o1,σ'=[o0,o1,some (.ref pw)]) (λH' s'=> .inl (.inl (s' _ _ hpr))) () (ex2 _ _ rfl) ?_ λl1 H1 s1 hl1 e1=>?_
  ·rintro T0 i y σ' HA A B ⟨o0,o1,rfl⟩ sA hT0 k
   refine ex2 T0 _ ⟨rfl, .inl (.inl hT0),rfl,ex2 _ _ ⟨rfl,ex2 _ _ ⟨rfl,rfl,vr rfl (vr rfl (ixT (sA _ _ hpw) at0 ⟨rfl,vr rfl ?_⟩))⟩⟩⟩
   have k:=k [some (.int (i:Int)),some (.str y),some (.ref pw)] ⟨_,_,rfl⟩
   rw[zab]
   cases e:decide (y=x)with
   |false=>rw[e] at k;exact k
   |true=>rw[e] at k;exact⟨_,rfl,k⟩
  rw[zjJ T.hs_nd hj _ hjl] at e1
  refine ixL e1 at0 ?_
  refine vr rfl (ex2 pm _ ⟨rfl, .inr (.inl (.inl (s1 _ _ hpm))),λl2 hl2=>?_⟩)
  have S2:=Same.new (o:= .lst (ms.map V.str)) hl2
  have e2:=zc (H:=H1) (a:=l2) (o:= .lst (ms.map V.str))
  have s02:=s1.trans S2
  generalize (upd H1 l2 (HO.lst (ms.map V.str)))=H2 at *
  have hp2:=s02 _ _ hp
  have hpa2:=s02 _ _ hpa
  have rj:=(ra.2 j _ _ (F0 hjv) hdj).same s02
  obtain⟨pq,us,epq,hpq,ru,_⟩:=rj.ofT
  refine vr rfl (ixT hp2 (zG (j:=4) rfl) (vr rfl (ixT hpa2 (by rw[←epq];exact zG (by simp[hjv])) ⟨pq,rfl,⟨_, .inl (.inl hpq)⟩,?_⟩)))
  let I1:Nat->St->Hp->Prop:=λi σ' H'=>(∃ln t o6 o7,σ'=[some (.ref p),some (.ref pw),some (.ref pm),some vt,some (.int (j:Int)),some (.ref ln),o6,o7]/\H' ln=some (.lst (t.map V.str))/\Pr i t/\zD (x::ws) to rs ms=zD (x::ws) to (rs.drop i) t)/\Same H2 H'
  refine zbi (za1 (K:=K) (xs:=us)) I1 ⟨⟨l2,ms,_,_,rfl,e2,M0,rfl⟩,Same.refl _⟩ (λi σ' H' z=> .inl (.inl (z.2 _ _ hpq))) ?_ ?_
  ·rintro i y σ' H3 hi hy ⟨⟨ln,t,o6,o7,rfl,hln,Mt,he⟩,s3⟩
   obtain⟨r,hr',rr⟩:=ru.get hy
   obtain⟨cs,xa,rfl,hcs,hx⟩:=HO'.2 r (U0 hr')
   obtain⟨q0,v0,v1,rfl,hq0,r0,r1⟩:=(rr.same s3).of2
   have lu:=ru.1
   obtain⟨tn,tl⟩:=MS.ok i t () Mt
   refine ex2 q0 _ ⟨rfl, .inl (.inl hq0),rfl,ex2 _ _ ⟨rfl,ex2 _ _ ⟨rfl,rfl,?_⟩⟩⟩
   refine vr rfl (vr rfl (vr rfl (vr rfl (ex8 v0 cs pw ln vt (x::ws) t to ⟨rfl,r0,hcs,s3 _ _ (s02 _ _ hpw), .inr hln,hto,nw,tn,`n3,by simp;lia,J1 tl ⋯,λH4 s4=>(vr rfl ?_)⟩))))
   rw[zh7 hr',zD] at he
   have er:zch (x::ws) t to (zdc (.tup [.tup cs,xa]))=zch (x::ws) t to cs:=rfl
   have et:zca (.tup [.tup cs,xa])=xa:=rfl
   rw[er,et] at he
   cases hb:zch (x::ws) t to cs with
   |false=>
    rw[hb,Y0 ⋯] at he
    exact zO rfl ⟨(ex4 ln t _ _ ⟨rfl,s4 _ _ hln,MS.skip i t Mt,he⟩),s3.trans s4⟩
   |true=>
    rw[hb,E1 rfl] at he
    refine zN rfl ?_
    rcases hx with rfl|⟨w1,m1,rfl,hw1,hm1⟩
    ·obtain ⟨pac,ua,rfl,hpac,ra',_⟩:=(r1.same s4).ofT
     have la:ua.length=1:=ra'.1
     obtain⟨u0,rfl⟩:∃u0,ua=[u0]:=by
      match ua,la with
      |[u0],_=>exact ⟨u0,rfl⟩
     have h0:=ra'.head.1
     cases h0 with|str _ _=>
     refine vr rfl (ixT hpac at0 ⟨rfl,vr rfl (zN (by rw[N0 rfl]) ?_)⟩)
     exact q .non H4 (by rw[he];rfl) ((s02.trans s3).trans s4)
    ·obtain ⟨pac,z0,z1,rfl,hpac,rz0,rz1⟩:=(r1.same s4).of2
     cases rz0 with|str _ _=>
     cases rz1 with|str _ _=>
     have nk:decide (V.str w1=V.str "keep")=false:=by
      rw[zab]
      rcases hw1 with rfl|rfl<;>decide +kernel
     refine vr rfl (ixT hpac at0 ⟨rfl,vr rfl (zO nk ?_)⟩)
     have hln4:=s4 _ _ hln
     refine vr rfl ⟨ln,rfl,⟨_,SqL.of hln4⟩,?_⟩
     refine zdv (g:=neD m1) (f:=λd=>d) (σr:=[some (.ref pac)]) (zcW (K:=K)) (λH' s'=>SqL.of (s' _ _ hln4)) (zbj λy hy=>zy (tn y hy)) (by rw[B0];lia) rfl ?_ (λx d HA sA rx hd=>zcV rfl rx) λl5 us5 H5 s5 hl5 e5 r5=>?_
     ·intro z d HA Q1 sA rz hd q1
      obtain⟨b,_,rfl⟩:=G1.mp hd
      cases rz with|str _ _=>
      refine vr rfl (vr rfl (ixT (sA _ _ hpac) at1 ⟨rfl,vr rfl ?_⟩))
      rw[zab]
      exact q1 HA (Same.refl _)
     rw[znB] at r5
     have eus:=zfv r5
     subst eus
     have lf:=G3 (λx=>!decide (x=m1)) t
     have hpac5:=s5 _ _ hpac
     refine vr rfl (ixT hpac5 at1 ⟨few rfl,λp6 hp6=>?_⟩)
     have S6:=Same.new (o:= .lst [V.str m1]) hp6
     refine vr rfl (ixT (S6 _ _ hpac5) at0 ⟨rfl, .inr (vr rfl (ex3 p6 _ _ ⟨rfl,rfl,zc,?_,?_,?_,λp7 hp7=>?_⟩))⟩)
     ·split<;>decide
     ·split<;>decide
     ·refine J1 (Nat.mul_le_mul_left _ (show _<=1 by split<;>decide)) (by show 1*1<=sizeLine;decide)
     have S7:=Same.new (o:= .lst (List.replicate (if decide (V.str w1=V.str "put")=true then(1:Int)else 0).toNat [V.str m1]).flatten) hp7
     have e7:=zc (H:=upd H5 p6 (.lst [V.str m1])) (a:=p7) (o:= .lst (List.replicate (if decide (V.str w1=V.str "put")=true then(1:Int)else 0).toNat [V.str m1]).flatten)
     have eb:(t.filter λx=>!decide (x=m1)).map V.str ++(List.replicate (if decide (V.str w1=V.str "put")=true then(1:Int)else 0).toNat [V.str m1]).flatten=(zaP t w1 m1).map V.str:=by
      unfold zaP
      rw[J2,zab]
      by_cases z:w1="put"
      ·rw[N0 z,E1 rfl,E1 z];rfl
      ·rw[A1 z,Y0 ⋯,Y0 z];rfl
     have lb:(List.replicate (if decide (V.str w1=V.str "put")=true then(1:Int)else 0).toNat [V.str m1]).flatten.length<=1:=by split<;>exact C2 rfl
     have S57:=S6.trans S7
     have e57:=S57 _ _ e5
     generalize (upd (upd H5 p6 (HO.lst [V.str m1])) p7 (HO.lst (List.replicate (if decide (V.str w1=V.str "put")=true then(1:Int)else 0).toNat [V.str m1]).flatten))=H7 at *
     refine ex4 l5 p7 _ _ ⟨rfl,rfl,e57,e7,Z2 (zl (by rw[B0];lia)),λp8 hp8=>?_⟩
     have S8:=Same.new (o:= .lst ((t.filter λx=>!decide (x=m1)).map V.str ++(List.replicate (if decide (V.str w1=V.str "put")=true then(1:Int)else 0).toNat [V.str m1]).flatten)) hp8
     have lbb:(zaP t w1 m1).length<64:=by
      have:=j3 List.length eb
      rw[W0,B0,B0] at this
      lia
     refine⟨p8,zaP t w1 m1,rfl, .inl (SqL.of (by rw[zc,eb])),lbb,λss l9 hp9 hs9 hl9=>?_⟩
     have es:=zlJ hp9 hs9
     refine⟨(ex4 l9 ss _ _ ⟨rfl,zc,by rw[es];exact MS.next i t w1 m1 cs Mt hr',by rw[es];exact he⟩),((((s3.trans s4).trans s5).trans S57).trans S8).trans (Same.new hl9)⟩
  ·rintro σ' H3 ⟨⟨ln,t,o6,o7,rfl,hln,Mt,he⟩,s3⟩
   rw[ru.1,List.drop_length,zD] at he
   exact vr rfl (ex2 ln _ ⟨rfl, .inl ⟨SqL.of hln,λp9 hp9=>q _ _ (by rw[he];exact⟨p9,rfl,zc⟩) ((s02.trans s3).trans (Same.new hp9))⟩⟩)
theorem zj8(Y:Ev K mg):Y.za3.O P w base 5 zgJ:=(zf0 Y).imp λ_ _ _ _ h=>zkL h
theorem zhr(Y:Ev K mg):Y.zbD.O P w base 5 zfc:=by
 have G__law_all_hold:Y.zaY.O P w base 4 zhP:=zeU Y
 refine Y.zbD.fn.okQ zbk (λvs H Q E h=>?_) `j4
 ·obtain ⟨v,pw,pm,x,ws,ms,g,hs,ps,lks,hds,j,rs,rfl,_⟩:=h;rfl
 ·obtain ⟨v,pw,pm,x,ws,ms,g,hs,ps,lks,hds,j,rs,rfl,hv,T,hj,hlj,hpw,hpm,nw,nm,lw,lm,q⟩:=h
  obtain⟨p,pr,pt,pl,pa,vt,vl,va,rfl,hp,hpr,hpt,rt,hpl,rl,hpa,ra⟩:=zbL hv
  have T10:=T.ten
  have hlk:rs.length<=90/\∀r∈rs,zaA r=true:=by
   have h:=T.likes _ (U0 hlj)
   have h:(decide (rs.length<=90)&&rs.all zaA)=true:=h
   rw[L0] at h
   exact⟨R0 h.1,V1.mp h.2⟩
  have hjl:j<hs.length:=by
   rcases R1 j hs.length with y|y
   ·exact y
   ·rw[G0 y] at hj;cases hj
  have hjk:j<lks.length:=by rw[T.ll];exact hjl
  have hjv:j<vl.length:=by rw[rl.1];exact hjk
  refine⟨_,(zh (zI 3 zbk.nd (zx zag (zaQ (src:=[none,none,some 1]) zcy rfl rfl (zkn Y.enumerate (zb (zx zm (qv 0) ze) zd)) (λ_ _ _ _ _=>(zfy (K:=K) 2 rfl rfl (zo (zk 0 zcy.nd) (zo (zk 1 zcy.nd) zaB)))) (λ_ _ _ _ _=>(zcS (zE zax (qv 1) (zx (zbb (K:=K) rfl) (qc 2) ze)))) (λ_ _ _ _ _=>(qv 0))) ze))
   (zh (zcv 4 (src:=[none,none,some 2,some 1]) zcC rfl rfl zbk.nd (zbM (zx zm (zx zm (qv 0) ze) (qv 3))) (λ_ _ _ _ _=>(zfy (K:=K) 2 rfl rfl (zo (zk 0 zcC.nd) (zo (zk 1 zcC.nd) zaB)))) (λ_ _ _ _ _=>(zcS (za4 (zH Y.zaY G__law_all_hold hr (zb (qv 0) (zb (qc 3) (zb (qc 2) (zb zbR zd)))))))) (λ_ _ _ _ _=>(qv 1)))
   (zi (zv (zx zag (zQ zdE (qv 4) (za0 (zb ze zd))) ze))))),?_⟩
  try dsimp only[zav]
  refine vr rfl (ixT hp (zG (j:=1) rfl) (ex2 pr _ ⟨rfl, .inl (.inl hpr),?_⟩))
  refine zjz (K:=K) (x:=x) (λσ'=>∃o0 o1,σ'=[o0,o1,some (.ref pw)]) (λH' s'=> .inl (.inl (s' _ _ hpr))) () (ex2 _ _ rfl) ?_ λl1 H1 s1 hl1 e1=>?_
  ·rintro T0 i y σ' HA A B ⟨o0,o1,rfl⟩ sA hT0 k
   refine ex2 T0 _ ⟨rfl, .inl (.inl hT0),rfl,ex2 _ _ ⟨rfl,ex2 _ _ ⟨rfl,rfl,vr rfl (vr rfl (ixT (sA _ _ hpw) at0 ⟨rfl,vr rfl ?_⟩))⟩⟩⟩
   have k:=k [some (.int (i:Int)),some (.str y),some (.ref pw)] ⟨_,_,rfl⟩
   rw[zab]
   cases e:decide (y=x)with
   |false=>rw[e] at k;exact k
   |true=>rw[e] at k;exact⟨_,rfl,k⟩
  rw[zjJ T.hs_nd hj _ hjl] at e1
  refine ixL e1 at0 ?_
  have hp1:=s1 _ _ hp
  have hpl1:=s1 _ _ hpl
  have rj:=(rl.2 j _ _ (F0 hjv) hlj).same s1
  obtain⟨pq,us,epq,hpq,ru,_⟩:=rj.ofT
  refine vr rfl (ixT hp1 (zG (j:=3) rfl) (vr rfl (ixT hpl1 (by rw[←epq];exact zG (by simp[hjv])) ⟨pq,rfl,⟨_, .inl (.inl hpq)⟩,?_⟩)))
  refine zkB (rs:=rs) (sel:=λr=>zch (x::ws) ms none (zdc r)) (λσ'=>∃o0 o1,σ'=[o0,o1,some (.ref pm),some (.ref pw)]) (za1 (K:=K) (xs:=us)) (λH' s'=> .inl (.inl (s' _ _ hpq))) ru () (ex2 _ _ rfl) (λd hd=>by obtain⟨cs,t,e,_⟩:=zfo (hlk.2 d hd);exact⟨cs,t,e⟩) ?_ λl2 us2 H2 s2 hl2 e2 r2=>?_
  ·rintro q0 d v0 v1 σ' HA A B ⟨o0,o1,rfl⟩ sA hd hq0 r0 r1 k
   obtain⟨cs,t,rfl,c4,hcs,ht⟩:=zfo (hlk.2 d hd)
   refine ex2 q0 _ ⟨rfl, .inl (.inl hq0),rfl,ex2 _ _ ⟨rfl,ex2 _ _ ⟨rfl,rfl,?_⟩⟩⟩
   refine vr rfl (vr rfl (vr rfl (ex8 v0 cs pw pm (.non) (x::ws) ms none ⟨rfl,r0,hcs,sA _ _ (s1 _ _ hpw), .inl (sA _ _ (s1 _ _ hpm)), .inl ⟨rfl,rfl⟩,nw,nm,`n3,by simp;lia,lm,λHB sB=>(vr rfl ?_)⟩)))
   have k:=k [some v0,some v1,some (.ref pm),some (.ref pw)] HB ⟨_,_,rfl⟩ sB
   cases e:zch (x::ws) ms none cs with
   |false=>
    have e':zch (x::ws) ms none (zdc (.tup [.tup cs,t]))=false:=e
    rw[e'] at k
    exact k
   |true=>
    have e':zch (x::ws) ms none (zdc (.tup [.tup cs,t]))=true:=e
    rw[e'] at k
    exact vr rfl k
  dsimp only[za5]
  refine vr rfl ⟨few rfl,λpz hpz=>?_⟩
  have Sz:=Same.new (o:= .lst [V.int 0]) hpz
  have l2':=r2.1
  have lf:=G3 (λr=>zch (x::ws) ms none (zdc r)) rs
  rw[B0] at l2'
  refine ex4 l2 pz _ _ ⟨rfl,rfl,Sz _ _ e2,zc,Z2 (zl (by show _+1<=_;lia)),λpx hpx=>?_⟩
  have rA:RepL (upd (upd H2 pz (.lst [V.int 0])) px (.lst (us2 ++ [V.int 0]))) (us2 ++ [V.int 0]) ((rs.filter λr=>zch (x::ws) ms none (zdc r)).map zca ++ [.int 0]):=((r2.mono ((Mono.new hpz).trans (.new hpx))).append (.cons (.int 0) .nil))
  obtain⟨es,ees⟩:=zgE (ws:=x::ws) (ms:=ms) (rs:=rs)
  rw[ees] at rA
  obtain⟨u0,ur,eu⟩:∃u0 ur,us2 ++ [V.int 0]=u0::ur:=by
   cases us2 with
   |nil=>exact ⟨_,_,rfl⟩
   |cons a b=>exact ⟨_,_,rfl⟩
  rw[eu] at rA⊢
  refine ixL zc at0 ?_
  have S:=((s1.trans s2).trans Sz).trans (Same.new (o:= .lst (u0::ur)) hpx)
  exact q u0 _ rA.head.1 S
noncomputable def zqD:Sp:=λvs H Q _=>∃v d lo hi,vs=[v, .int lo, .int hi]/\Rep H v d/\∀H',Same H H'->Q (.bl (zai d lo hi)) H'
theorem zix(Y:Ev K mg):Y.zcM.O P w base 2 zqD:=by
 have G_is_row:Y.zbN.O P w base 1 zjH:=zek Y
 have G_is_name:Y.zdt.O P w base 1 (zjI zaw):=zgo Y
 refine Y.zcM.fn.okQ zeb (λvs H Q E h=>?_) `j4
 ·obtain ⟨v,d,lo,hi,rfl,_⟩:=h;rfl
 ·obtain ⟨v,d,lo,hi,rfl,hd,q⟩:=h
  refine⟨_,(zi (zv (zfP (zH Y.zbN G_is_row hr (zb (qv 0) (zb (qv 1) (zb (qv 2) zd)))) (ze7 (zn (zbC rfl) Y.all zd8 (zb (zaQ (src:=[none]) zez rfl rfl (zbM (qv 0)) (λ_ _ _ _ _=>(zk 0 zez.nd)) (λ_ _ _ _ _=>zdi) (λ_ _ _ _ _=>(zH Y.zdt G_is_name hr (zb (qv 0) zd)))) zd)))))),?_⟩
  try dsimp only[zav]
  refine vr rfl (vr rfl (vr rfl ⟨v,d,lo,hi,rfl,hd,λH1 s1=>(vr rfl ?_)⟩))
  cases e:zaN d lo hi with
  |false=>
   have q:=q H1 s1
   rw[show zai d lo hi=false by unfold zai;rw[e];rfl] at q
   exact zO ⋯ q
  |true=>
   cases d with
   |tup ds=>
    obtain⟨p,vs,rfl,hp,r,b⟩:=(hd.same s1).ofT
    refine zN rfl (vr rfl ⟨p,rfl,⟨vs, .inl (.inl hp)⟩,?_⟩)
    refine zi3 (g:=zaw) (ok:=λH=>SqT K H p vs) za1 (λH' s=> .inl (.inl (s _ _ hp))) r b rfl (λx d H2 Q1 s2 rx _ q1=>(vr rfl (ex2 x d ⟨rfl,rx,q1⟩))) (λl H2 s2 _ hl=>?_)
    refine ex2 l _ ⟨rfl,SqL.of hl,?_⟩
    rw[zbV]
    have q:=q H2 (s1.trans s2)
    rw[show zai (.tup ds) lo hi=ds.all zaw by unfold zai;rw[e];rfl] at q
    exact q
   |_=>cases e
noncomputable def zlf:Sp:=λvs H Q _=>∃(u v:V) (d:D) (g:Str) (hs:List Str) (ps:List (Str×Str)) (lks hds:List D),vs=[u,v]/\Rep H u (zbA g hs ps lks hds)/\TownOk g hs ps lks hds/\Rep H v d/\∀H',Same H H'->Q (.bl (zaa hs ps d)) H'
theorem zme(h:zaN d 5 5=false):zaa hs ps d=false:=by
 cases e:zaa hs ps d with
 |false=>rfl
 |true=>obtain ⟨p,rfl,_⟩:=zeL e;cases h
theorem zsO(h:zaN d 5 5=true):∃a b c e f,d= .tup [a,b,c,e,f]:=by
 cases d with
 |tup ds=>
  have h:(decide ((5:Int)<=(ds.length:Int))&&decide ((ds.length:Int)<=5))=true:=h
  rw[L0,P0,P0] at h
  have hl:ds.length=5:=()
  match ds,hl with
  |[a,b,c,e,f],_=>exact ⟨a,b,c,e,f,rfl⟩
 |_=>cases h
theorem zm7:zh8 (tD ms)=decide (ms=[]):=by cases ms<;>rfl
theorem ziK(Y:Ev K mg):Y.zdu.O P w base 3 zlf:=by
 have G_is_row:Y.zbN.O P w base 1 zjH:=zek Y
 have G_is_house:Y.zb1.O P w base 2 zh5:=zfW Y
 have G_tied:Y.tied.O P w base 1 zkK:=zll Y
 have G_is_number:Y.zdK.O P w base 1 (zjI zeO):=zhZ Y
 have G_are_names:Y.zcM.O P w base 2 zqD:=zix Y
 refine Y.zdu.fn.okQ zbz (λvs H Q E h=>?_) `j4
 ·obtain ⟨u,v,d,g,hs,ps,lks,hds,rfl,_⟩:=h;rfl
 ·obtain ⟨u,v,d,g,hs,ps,lks,hds,rfl,hu,T,hd,q⟩:=h
  obtain⟨p,pr,pt,pl,pa,vt,vl,va,rfl,hp,hpr,hpt,rt,hpl,rl,hpa,ra⟩:=zbL hu
  refine⟨_,(zh (zak (zbp (za4 (zH Y.zbN G_is_row hr (zb (qv 1) (zb ze (zb ze zd)))))) (zi (zv zbT)) zL)
   (zh (zdd (qv 1) (zbS 5 rfl (zo (zk 2 zbz.nd) (zo (zk 3 zbz.nd) (zo (zk 4 zbz.nd) (zo (zk 5 zbz.nd) (zo (zk 6 zbz.nd) zaB)))))))
   (zh (zak (t_w (zcO (zbp (za4 (zH Y.zb1 G_is_house hr (zb (zx zm (qv 0) ze) (zb (qv 2) zd))))) (zcO (zbp (za4 (zH Y.zb1 G_is_house hr (zb (zx zm (qv 0) ze) (zb (qv 3) zd))))) (zcZ (zE zcp (qv 3) (zH Y.tied G_tied hr (zb (qv 0) (zb (qv 2) zd)))))))) (zi (zv zbT)) zL)
   (zh (zak (t_w (zcO (zbp (za4 (zH Y.zdK G_is_number hr (zb (qv 4) zd)))) (zcO (zE zjq (qv 4) ze) (zcZ (zbp (za4 (zH Y.zcM G_are_names hr (zb (qv 6) (zb ze (zb (zgl Y.zf1.gm Y.zf1.gr) zd)))))))))) (zi (zv zbT)) zL)
   (zi (zv (zta (zE zd4 (qv 5) zbR) (zaZ (zeP (zb8 hr)) (qv 6) (zM zd)) (zH Y.zcM G_are_names hr (zb (qv 5) (zb ze (zb (zgl Y.zfm.gm Y.zfm.gr) zd))))))))))),?_⟩
  try dsimp only[zav]
  refine vr rfl (ex4 v d 5 5 ⟨rfl,hd,λH1 s1=>(vr rfl ?_)⟩)
  cases e5:zaN d 5 5 with
  |false=>
   have q:=q H1 s1
   rw[zme e5] at q
   exact zN rfl q
  |true=>
   obtain⟨d1,d2,d3,d4,d5,rfl⟩:=zsO e5
   obtain⟨pd,x1,x2,x3,x4,x5,rfl,hpd,r1,r2,r3,r4,r5⟩:=ze6 (hd.same s1)
   refine zO rfl (vr rfl (ex2 pd _ ⟨rfl, .inl (.inl hpd),rfl,ex2 _ _ ⟨rfl,ex2 _ _ ⟨rfl,ex2 _ _ ⟨rfl,ex2 _ _ ⟨rfl,ex2 _ _ ⟨rfl,rfl,?_⟩⟩⟩⟩⟩⟩))
   have hp1:=s1 _ _ hp
   have HsA:HsAt H1 (.ref pr) hs:=⟨pr,rfl,s1 _ _ hpr,T.ten,T.names⟩
   have eq0:zaa hs ps (.tup [d1,d2,d3,d4,d5])=((zP hs d1&&(zP hs d2&&zha ps d1 d2))&&((zeO d3&&(zm6 d3&&zai d5 0 90))&&(if zat d4=true then zh8 d5 else zai d4 1 10))):=rfl
   rw[eq0] at q
   refine vr rfl (ixT hp1 (zG (j:=1) rfl) (vr rfl (ex4 _ x1 d1 hs ⟨rfl,HsA,r1,λH2 s2=>(vr rfl ?_)⟩)))
   cases e1:zP hs d1 with
   |false=>
    have q:=q H2 (s1.trans s2)
    rw[e1] at q
    exact zN rfl (zN rfl q)
   |true=>
   rw[e1] at q
   obtain⟨y1,rfl,hy1⟩:=zbY e1
   cases r1 with|str _ _=>
   refine zO rfl (vr rfl (ixT (s2 _ _ hp1) (zG (j:=1) rfl) (vr rfl (ex4 _ x2 d2 hs ⟨rfl,HsA.same s2,r2.same s2,λH3 s3=>(vr rfl ?_)⟩))))
   have s03:=(s1.trans s2).trans s3
   have s13:=s2.trans s3
   cases e2:zP hs d2 with
   |false=>
    have q:=q H3 s03
    rw[e2] at q
    exact zN rfl (zN rfl q)
   |true=>
   rw[e2] at q
   obtain⟨y2,rfl,hy2⟩:=zbY e2
   cases r2 with|str _ _=>
   refine zO rfl (vr rfl (vr rfl (vr rfl (ex4 _ _ g hs (ex3 ps lks hds ⟨rfl,hu.same s03,T,λl8 ts H8 hl8 e8 hp8 hs8 s8=>?_⟩)))))
   refine⟨l8,_,rfl, .inl (SqL.of e8),rfl,zbX,_,rfl,?_⟩
   have s08:=s03.trans s8
   have s18:=s13.trans s8
   have hin:(if true=true then !inV (V.str y2) (ts.map V.str)else inV (V.str y2) (ts.map V.str))=!zha ps (.str y1) (.str y2):=by
    rw[E1 rfl,zdx]
    congr 1
    show _=decide (y2∈zaR ps y1)
    rw[G2,P0,←hp8.mem_iff,List.any_eq_true]
    exact⟨λ⟨y,hy,e⟩=>by rw[←R0 e];exact hy,λh=>⟨_,h,N0 rfl⟩⟩
   rw[hin]
   cases e3:zha ps (.str y1) (.str y2)with
   |false=>
    have q:=q H8 s08
    rw[e3] at q
    exact zN rfl q
   |true=>
   rw[e3] at q
   refine zO rfl ?_
   have r38:=r3.same s18
   refine vr rfl (ex2 _ d3 ⟨rfl,r38,λH9 s9=>(vr rfl ?_)⟩)
   have s09:=s08.trans s9
   have s19:=s18.trans s9
   cases e4:zeO d3 with
   |false=>
    have q:=q H9 s09
    rw[e4] at q
    exact zN rfl (zN rfl q)
   |true=>
   rw[e4] at q
   cases d3 with
   |int i=>
    cases r3 with|int _=>
    refine zO rfl (vr rfl (ex2 _ _ ⟨rfl,rfl,vr rfl ?_⟩))
    have ep:zm6 (.int i)=!decide (i<1):=rfl
    cases e6:decide (i<1)with
    |true=>
     have q:=q H9 s09
     rw[ep,e6] at q
     exact zN rfl (zN rfl q)
    |false=>
    rw[ep,e6] at q
    refine zO ⋯ (vr rfl (ex4 _ d5 0 90 ⟨rfl,r5.same s19,λHA sA=>(vr rfl ?_)⟩))
    have s0A:=s09.trans sA
    have s1A:=s19.trans sA
    cases e7:zai d5 0 90 with
    |false=>
     have q:=q HA s0A
     rw[e7] at q
     exact zN rfl q
    |true=>
    rw[e7] at q
    refine zO rfl (vr rfl ⟨rfl,vr rfl ?_⟩)
    have r4A:=r4.same s1A
    rw[zcl r4A]
    cases e8':zat d4 with
    |true=>
     rw[e8',E1 rfl] at q
     obtain⟨ms,rfl,m1,m2,m3⟩:=zeQ e7
     obtain⟨p5,rfl,hp5⟩:=zaC r5
     refine zN rfl (vr rfl ⟨few rfl,λpe hpe=>?_⟩)
     have Se:=Same.new (o:= .tup []) hpe
     refine⟨_,_,zaG (xs:=ms) (Se _ _ (s1A _ _ hp5)) (λx hx=>zp (m3 x hx)),zaG (xs:=[]) zc (λ_ z=>nomatch z),J1 (Nat.min_le_left _ _) zad,?_⟩
     rw[zaT,←zm7]
     exact q _ (s0A.trans Se)
    |false=>
     rw[e8',Y0 ⋯] at q
     exact zO ⋯ (vr rfl (ex4 _ d4 1 10 ⟨rfl,r4A,λHB sB=>q HB (s0A.trans sB)⟩))
   |_=>cases e4
noncomputable def zjU:Sp:=λvs H Q _=>∃(u v:V) (d:D) (g:Str) (hs:List Str) (ps:List (Str×Str)) (lks hds:List D),vs=[u,v]/\Rep H u (zbA g hs ps lks hds)/\TownOk g hs ps lks hds/\Rep H v d/\∀H',Same H H'->Q (.bl (za7 hs ps d)) H'
theorem zmX{p x:D}:za7 hs ps (.tup [p,x])=(zaa hs ps p&&(zaN x 0 10&&zkF (zaa hs ps) x)):=by
 cases x with
 |tup qs=>
  show(zaa hs ps p&&(decide (qs.length<=10)&&qs.all (zaa hs ps)))=(zaa hs ps p&&((decide ((0:Int)<=(qs.length:Int))&&decide ((qs.length:Int)<=10))&&qs.all (zaa hs ps)))
  rw[N0 (show(0:Int)<=(qs.length:Int) by lia),Bool.true_and]
  congr 2
  rw[G2,P0,P0]
  lia
 |_=>show false=(zaa hs ps p&&_);cases zaa hs ps p<;>rfl
theorem zkX(h:zaN d 2 2=false):za7 hs ps d=false:=by
 cases e:za7 hs ps d with
 |false=>rfl
 |true=>obtain ⟨f,qs,rfl,_⟩:=zfX e;cases h
theorem zsQ(h:zaN d 2 2=true):∃a b,d= .tup [a,b]:=by
 cases d with
 |tup ds=>
  have h:(decide ((2:Int)<=(ds.length:Int))&&decide ((ds.length:Int)<=2))=true:=h
  rw[L0,P0,P0] at h
  have hl:ds.length=2:=()
  match ds,hl with
  |[a,b],_=>exact ⟨a,b,rfl⟩
 |_=>cases h
theorem zij(Y:Ev K mg):Y.zdM.O P w base 4 zjU:=by
 have G_is_row:Y.zbN.O P w base 1 zjH:=zek Y
 have G_is_paper:Y.zdu.O P w base 3 zlf:=ziK Y
 refine Y.zdM.fn.okQ zd7 (λvs H Q E h=>?_) `j4
 ·obtain ⟨u,v,d,g,hs,ps,lks,hds,rfl,_⟩:=h;rfl
 ·obtain ⟨u,v,d,g,hs,ps,lks,hds,rfl,hu,T,hd,q⟩:=h
  refine⟨_,(zh (zak (t_w (zcO (zbp (za4 (zH Y.zbN G_is_row hr (zb (qv 1) (zb ze (zb ze zd)))))) (zcZ (zbp (za4 (zH Y.zdu G_is_paper hr (zb (qc 0) (zb (zx zm (qv 1) ze) zd)))))))) (zi (zv zbT)) zL)
   (zi (zv (zfP (zH Y.zbN G_is_row hr (zb (zx zm (qv 1) ze) (zb ze (zb (zgl Y.zfn.gm Y.zfn.gr) zd)))) (ze7 (zn (zbC rfl) Y.all zd8 (zb (zaQ (src:=[none,some 0]) zeD rfl rfl (zbM (zx zm (qv 1) ze)) (λ_ _ _ _ _=>(zk 0 zeD.nd)) (λ_ _ _ _ _=>zdi) (λ_ _ _ _ _=>(zH Y.zdu G_is_paper hr (zb (qc 1) (zb (qv 0) zd))))) zd))))))),?_⟩
  try dsimp only[zav]
  refine vr rfl (ex4 v d 2 2 ⟨rfl,hd,λH1 s1=>(vr rfl ?_)⟩)
  cases e2:zaN d 2 2 with
  |false=>
   have q:=q H1 s1
   rw[zkX e2] at q
   exact zN rfl (zN rfl q)
  |true=>
  obtain⟨d1,d2,rfl⟩:=zsQ e2
  rw[zmX] at q
  obtain⟨pd,x1,x2,rfl,hpd,r1,r2⟩:=(hd.same s1).of2
  refine zO rfl (vr rfl (vr rfl (ixT hpd at0 (ex8 u x1 d1 g hs ps lks hds ⟨rfl,hu.same s1,T,r1,λH2 s2=>(vr rfl ?_)⟩))))
  cases e3:zaa hs ps d1 with
  |false=>
   have q:=q H2 (s1.trans s2)
   rw[e3] at q
   exact zN rfl q
  |true=>
  rw[e3] at q
  refine zO rfl (vr rfl (ixT (s2 _ _ hpd) at1 (ex4 x2 d2 0 10 ⟨rfl,r2.same s2,λH3 s3=>(vr rfl ?_)⟩)))
  have s03:=(s1.trans s2).trans s3
  cases e4:zaN d2 0 10 with
  |false=>
   have q:=q H3 s03
   rw[e4] at q
   exact zO ⋯ q
  |true=>
  rw[e4] at q
  cases d2 with
  |tup ds=>
   obtain⟨p2,vs,rfl,hp2,r,b⟩:=((r2.same s2).same s3).ofT
   refine zN rfl (vr rfl (ixT (s3 _ _ (s2 _ _ hpd)) at1 ⟨p2,rfl,⟨vs, .inl (.inl hp2)⟩,?_⟩))
   refine zdz (g:=zaa hs ps) (σr:=[some u]) (za1 (K:=K)) (λH' s=> .inl (.inl (s _ _ hp2))) r b rfl (λx d HA Q1 sA rx hd q1=>(vr rfl (vr rfl (ex8 u x d g hs ps lks hds ⟨rfl,hu.same (s03.trans sA),T,rx,q1⟩)))) (λl4 H4 s4 _ hl4=>?_)
   refine ex2 l4 _ ⟨rfl,SqL.of hl4,?_⟩
   rw[zbV]
   exact q H4 (s03.trans s4)
  |_=>cases e4
theorem zbn{Q:VK}(h:H a=some (.tup xs))(k:∀p H',H' p=some (.tup (za9 xs lo hi))->Same H H'->Q (.ref p) H'):zmq K (.ref a) lo hi H Q:=
 ⟨a,xs,rfl, .inl (.inl h),λz=>k a H (by rw[z];exact h) (Same.refl _),λp hp=>k p _ zc (Same.new hp)⟩
theorem zcz{b:Addr}{Q:VK}(ha:H a=some (.tup xs))(hb:H b=some (.tup ys))(hl:xs.length+ys.length<=1000)(k:∀p H',H' p=some (.tup (xs ++ys))->Same H H'->Q (.ref p) H'):zou K (.ref a) (.ref b) H Q:=
 ⟨a,b,xs,ys,rfl,rfl, .inl (.inl ha), .inl (.inl hb),Z2 (zl hl),λz=>k b H (by rw[z];exact hb) (Same.refl _),λ_ z=>k a H (by rw[z,List.append_nil];exact ha) (Same.refl _),λ_ _ p hp=>k p _ zc (Same.new hp)⟩
noncomputable def zkl:D->Bool| .tup ds=>decide (ds.length<=12)|_=>false
theorem zrY(h:zkd d=true):zkl d=true:=by
 cases d with
 |tup ds=>exact N0 (J1 (R0 (show decide (ds.length<=3)=true from h)) ⋯)
 |_=>cases h
theorem zqm(T:TownOk g hs ps lks hds)(hf:∀d∈hds,zkl d=true)(h:x∈hs):∃(j:Nat) (rs:List D),hs[j]?=some x/\hds[j]?=some (.tup rs)/\zac hs hds x=rs/\zgy rs/\rs.length<=12:=by
 obtain⟨j,d,e1,e2,hm⟩:=zow T h
 obtain⟨rs,rfl,hk⟩:=zkU (T.hands d hm)
 exact⟨j,rs,e1,e2,zge T.hs_nd e1 e2,hk,R0 (show decide (rs.length<=12)=true from hf _ hm)⟩
noncomputable def zsw:Sp:=λvs H Q _=>∃(u v:V) (pm:Addr) (p:Pp) (x:Str) (ws ms:List Str) (g:Str) (hs:List Str) (ps:List (Str×Str)) (lks hds:List D),vs=[u,v, .ref pm]/\Rep H u (zbA g hs ps lks hds)/\TownOk g hs ps lks hds/\(∀d∈hds,zkl d=true)/\Rep H v (ppD p)/\p.way=some (x::ws)/\(∀y∈x::ws,y∈hs)/\ws.length<=9/\p.to∈hs/\(∀y∈p.marks,zg y=true)/\H pm=some (.tup (ms.map V.str))/\(∀y∈ms,zg y=true)/\ms.length<=40/\∀H',Same H H'->Q (.bl (soB hs lks hds p ms)) H'
theorem zoq(T:TownOk g hs ps lks hds)(h:x∈hs):∃(j:Nat) (rs:List D),hs[j]?=some x/\lks[j]?=some (.tup rs)/\zac hs lks x=rs:=by
 obtain⟨j,rs,e1,e2,_⟩:=zrK T h
 exact⟨j,rs,e1,e2,zge T.hs_nd e1 e2⟩
theorem zqr{O:List Str}(T:TownOk g hs ps lks hds)(PO:Pool hs lks hds O)(h:x∈hs):∃(j:Nat) (rs:List D),hs[j]?=some x/\hds[j]?=some (.tup rs)/\zac hs hds x=rs/\zdI O rs:=by
 obtain⟨j,d,e1,e2,hm⟩:=zow T h
 obtain⟨rs,rfl,hk⟩:=zma (T.hands d hm) (PO.hd d hm)
 exact⟨j,rs,e1,e2,zge T.hs_nd e1 e2,hk⟩
theorem zfp(Y:Ev K mg):Y.zbO.O P w base 6 zsw:=by
 have G_worth:Y.ziE.O P w base 5 zfc:=zn9 Y
 have G_handed:Y.zgh.O P w base 5 zct:=zks Y
 refine Y.zbO.fn.okQ zau (λvs H Q E h=>?_) `j4
 ·obtain ⟨u,v,pm,p,x,ws,ms,g,hs,ps,lks,hds,rfl,_⟩:=h;rfl
 ·obtain ⟨u,v,pm,p,x,ws,ms,g,hs,ps,lks,hds,rfl,hu,T,hf12,hv,ew,hw,lw,hto,hmk,hpm,Mn0,l40,q⟩:=h
  obtain⟨pd,x1,x2,x3,x4,x5,rfl,hpd,r1,r2,r3,r4,r5⟩:=ze6 hv
  cases r1 with|str _ _=>
  cases r2 with|str _ _=>
  rw[ew] at r4
  obtain⟨pw,rfl,hpw⟩:=zaC r4
  obtain⟨p5,rfl,hp5⟩:=zaC r5
  obtain⟨j,rs,hj,hdj,er,hk,rs12⟩:=zqm T hf12 (hw x Z0)
  obtain⟨j2,rs2,hj2,hlj2,er2⟩:=zoq T (hw x Z0)
  have hn:∀y∈x::ws,zg y=true:=λy hy=>T.names y (hw y hy)
  have eq0:soB hs lks hds p ms=(!(decide (1<(x::ws).length)&&zat (zY (x::ws) ms rs2))&&decide (zD (x::ws) (some p.to) rs ms=some p.marks)):=by
   unfold soB
   rw[ew]
   show(!(decide (1<(x::ws).length)&&zat (zY (x::ws) ms (zac hs lks x)))&&decide (zD (x::ws) (some p.to) (zac hs hds x) ms=some p.marks))=_
   rw[er,er2]
  rw[eq0] at q
  have last:∀(H1:Hp),Same H H1->(!(decide (1<(x::ws).length)&&zat (zY (x::ws) ms rs2)))=true->zrH (tOp zsL (zhk zct [] E0 (zfN (zfr 0) (zfN (zfr 6) (zfN (zfr 2) (zfN (zfr 4) zhX))))) (zfr 7)) {nx:=λ_ H'=>Q .non H',rt:=Q} [some u,some (.ref pd),some (.ref pm),some (.str p.one),some (.str p.to),some x3,some (.ref pw),some (.ref p5)] H1:=by
   intro H1 s1 hb
   rw[hb] at q
   refine vr rfl (vr rfl (vr rfl (vr rfl (ex8 u pw pm (.str p.to) x ws ms (some p.to) (ex8 g hs ps lks hds j rs (Mn 40) ⟨rfl,hu.same s1,T,hj,hdj,hk,zom hk (),⟨Mn0,l40⟩,s1 _ _ hpw,s1 _ _ hpm, .inr (vr rfl ⟨rfl,T.names _ hto⟩),hn,(),λv2 H2 tv s2=>?_⟩)))))
   have hp52:=(s1.trans s2) _ _ hp5
   have q:=q H2 (s1.trans s2)
   cases e:zD (x::ws) (some p.to) rs ms with
   |none=>
    rw[e] at tv q
    cases(show v2= .non from tv)
    refine vr rfl ⟨_,_,Tr.non,zaG (xs:=p.marks) hp52 (λy hy=>zp (hmk y hy)),J1 (M3 _ _) zad,?_⟩
    exact q
   |some t=>
    rw[e] at tv q
    obtain⟨pt,rfl,hpt⟩:=tv
    have hm:∀y∈t,zg y=true:=zcm hk.2 Mn0 e
    refine vr rfl ⟨_,_,zaG (xs:=t) hpt (λy hy=>zp (hm y hy)),zaG (xs:=p.marks) hp52 (λy hy=>zp (hmk y hy)),J1 (M3 _ _) zad,?_⟩
    rw[zaT]
    have eb:decide (some t=some p.marks)=decide (t=p.marks):=by rw[G2,P0,P0,Option.some.injEq]
    rw[eb] at q
    exact q
  refine⟨_,(zh (zdd (qv 1) (zbS 5 rfl (zo (zk 3 zau.nd) (zo (zk 4 zau.nd) (zo (zk 5 zau.nd) (zo (zk 6 zau.nd) (zo (zk 7 zau.nd) zaB)))))))
   (zh (zak (t_w (ziX (zE zew (zn zJ Y.len zap (zb (qv 6) zd)) ze) (zgP (zE zd4 (zH Y.ziE G_worth hr (zb (qv 0) (zb (qv 6) (zb (qv 2) zd)))) zbR)))) (zi (zv zbT)) zL)
   (zi (zv (zaZ (zeP (zb8 hr)) (zH Y.zgh G_handed hr (zb (qv 0) (zb (qv 6) (zb (qv 2) (zb (qv 4) zd))))) (qv 7)))))),?_⟩
  try dsimp only[zav]
  refine vr rfl (ex2 pd _ ⟨rfl, .inl (.inl hpd),rfl,ex2 _ _ ⟨rfl,ex2 _ _ ⟨rfl,ex2 _ _ ⟨rfl,ex2 _ _ ⟨rfl,ex2 _ _ ⟨rfl,rfl,?_⟩⟩⟩⟩⟩⟩)
  refine vr rfl (.inl (ex2 pw _ ⟨rfl, .inr (.inl (.inl hpw)),ex2 _ _ ⟨rfl,rfl,vr rfl ?_⟩⟩))
  rw[B0]
  by_cases h1:1<(x::ws).length
  ·refine zN (N0 ()) (vr rfl (vr rfl (vr rfl (ex8 u pw pm x ws ms g hs (ex4 ps lks hds j2 ⟨rs2,rfl,hu,T,hj2,hlj2,hpw,hpm,hn,Mn0,(),J1 l40 ⋯,λv2 H2 rv s2=>⟨rfl,vr rfl ?_⟩⟩)))))
   rw[zcl rv]
   cases eb:zat (zY (x::ws) ms rs2)with
   |true=>
    have q:=q H2 s2
    rw[N0 h1,eb] at q
    exact zN rfl q
   |false=>exact zO ⋯ (last H2 s2 (by rw[eb,F3];rfl))
  ·exact zO (by rw[A1 ()]) (zO ⋯ (last H (Same.refl H) (by rw[A1 h1];rfl)))
theorem zej{w:List Str}(h:i<w.length):atI (w.map V.str) (i:Int)=some (.str (w.getD i "")):=zG (by rw[V0,F0 h];simp only[List.getD,F0 h];rfl)
theorem zrW{w:List Str}(h:zbq g hs ps (tD w)=true):(∀x∈w,x∈hs)/\1<=w.length/\w.length<=hs.length:=by
 unfold zbq at h
 rw[L0,L0] at h
 obtain⟨ds,e,l1,l2⟩:=znd h.1.1
 have e:D.tup (w.map D.str)= .tup ds:=e
 cases e
 rw[B0] at l1 l2
 refine⟨λx hx=>?_,l1,l2⟩
 have hb:=V1.mp (show(w.map D.str).all (zP hs)=true from h.1.2) (.str x) (G1.mpr ⟨x,hx,rfl⟩)
 obtain⟨y,ey,hy⟩:=zbY hb
 cases ey
 exact hy
theorem zjW{xs:List Str}(h:∀x∈xs,zg x=true):okD (tD xs)=true:=by
 show okD (.tup (xs.map D.str))=true
 rw[okD]
 refine zfH λd hd=>?_
 obtain⟨x,hx,rfl⟩:=G1.mp hd
 rw[okD]
 exact zp (h x hx)
theorem zeN(hn:∀x∈hs,zg x=true){p:Pp}(h:PpOk hs ps p):okD (ppD p)=true:=by
 show okD (.tup [.str p.one, .str p.to, .int p.nr,wyD p.way,tD p.marks])=true
 rw[okD,okL,okL,okL,okL,okL,okL,okD,okD,okD,zjW h.mnm,zp (hn _ h.one),zp (hn _ h.to)]
 have:okD (wyD p.way)=true:=by
  cases e:p.way with
  |none=>show okD .non=true;rw[okD]
  |some w=>exact zjW (h.way w e).2.2
 rw[this];rfl
theorem zmF{w:List Str}{qs:List Pp}{q:Pp}(h:qs[n]?=some q):zdS w qs (n+1)=(zdS w qs n&&zfD w q n):=by
 unfold zdS
 rw[List.range_succ,List.all_append]
 simp[h]
theorem zn0{w:List Str}{qs:List Pp}{q:Pp}(h:qs[n]?=some q)(e:zfD w q n=false):zdS w qs qs.length=false:=by
 have hn:n<qs.length:=by
  rcases R1 n qs.length with z|z
  ·exact z
  ·rw[G0 z] at h;cases h
 unfold zdS
 rw[List.all_eq_false]
 exact⟨n,U2.mpr hn,by rw[h];show¬zfD w q n=true;rw[e];decide⟩
theorem zoX{w:List Str}{qs:List Pp}(h:zdS w qs qs.length=true){q:Pp}(e:qs[n]?=some q):q.way=some (w.drop (n+1)):=by
 have hn:n<qs.length:=by
  rcases R1 n qs.length with z|z
  ·exact z
  ·rw[G0 z] at e;cases e
 have h:=V1.mp h n (U2.mpr hn)
 rw[e] at h
 have h:zfD w q n=true:=h
 unfold zfD at h
 rw[L0] at h
 exact R0 h.2
theorem ziL{f:α->β}{l:List α}{x:α}(h:l[i]?=some x):((l.take (i+1)).map f)=((l.take i).map f)++ [f x]:=by
 rw[O3,h,J2];rfl
theorem zoG{m:List Str}(T:zbU H ys ls)(hl:H l=some (.lst ys))(hp:H p=some (.tup (m.map V.str))):zbU (upd H l (.lst (ys ++ [.ref p]))) (ys ++ [.ref p]) (ls ++ [m]):=by
 refine⟨by rw[W0,W0,T.1];rfl,λj v q e1 e2=>?_⟩
 have upl:∀{b o},H b=some (.tup o)->(upd H l (.lst (ys ++ [.ref p]))) b=some (.tup o):=λ{b o} h=>by rw[zj (λz=>by rw[z,hl] at h;cases h)];exact h
 rcases R1 j ys.length with hj|hj
 ·rw[A3 hj] at e1
  rw[A3 (by rw[←T.1];exact hj)] at e2
  obtain⟨b,rfl,hb⟩:=T.2 j v q e1 e2
  exact⟨b,rfl,upl hb⟩
 ·have ej:j=ys.length:=by
   rcases R1 j (ys ++ [V.ref p]).length with z|z
   ·rw[W0,List.length_singleton] at z;lia
   ·rw[G0 z] at e1;cases e1
  subst ej
  rw[Y2 (O0 _),Nat.sub_self] at e1
  rw[Y2 (by rw[T.1];exact O0 _),T.1,Nat.sub_self] at e2
  cases e1
  cases e2
  exact⟨p,rfl,upl hp⟩
theorem zgn(t:zbU H vs ls)(s:Same H H'):zbU H' vs ls:=⟨t.1,λi v q e1 e2=>let ⟨b,e,hb⟩:=t.2 i v q e1 e2;⟨b,e,s _ _ hb⟩⟩
theorem zmz{m:List Str}(T:zbU H ys ls)(hp:H p=some (.tup (m.map V.str))):zbU H (ys ++ [.ref p]) (ls ++ [m]):=by
 refine⟨by rw[W0,W0,T.1];rfl,λj v q e1 e2=>?_⟩
 rcases R1 j ys.length with hj|hj
 ·rw[A3 hj] at e1
  rw[A3 (by rw[←T.1];exact hj)] at e2
  exact T.2 j v q e1 e2
 ·have ej:j=ys.length:=by
   rcases R1 j (ys ++ [V.ref p]).length with z|z
   ·rw[W0,List.length_singleton] at z;lia
   ·rw[G0 z] at e1;cases e1
  subst ej
  rw[Y2 (O0 _),Nat.sub_self] at e1
  rw[Y2 (by rw[T.1];exact O0 _),T.1,Nat.sub_self] at e2
  cases e1
  cases e2
  exact⟨p,rfl,hp⟩
noncomputable def zla:Sp:=λvs H Q _=>∃(u v:V) (d:D) (g:Str) (hs:List Str) (ps:List (Str×Str)) (lks hds:List D),vs=[u,v]/\Rep H u (zbA g hs ps lks hds)/\TownOk g hs ps lks hds/\(∀d∈hds,zkl d=true)/\Rep H v d/\(∀f qs,d=zbJ f qs->∀p∈f::qs,p.marks.length<=40)/\
 ∀(b:Bool) (H':Hp),(za7 hs ps d=false->b=false)->(∀f qs,d=zbJ f qs->za7 hs ps d=true->b=zae g hs ps lks hds f qs)->Same H H'->Q (.bl b) H'
theorem zjO(Y:Ev K mg):Y.zer.O P w base 7 zla:=by
 have G_is_sealed:Y.zdM.O P w base 4 zjU:=zij Y
 have G_is_way:Y.zgg.O P w base 3 zqJ:=zmN Y
 have G_was_handed_so:Y.zbO.O P w base 6 zsw:=zfp Y
 refine Y.zer.fn.okQ zaM (λvs H Q E h=>?_) `j4
 ·obtain ⟨u,v,d,g,hs,ps,lks,hds,rfl,_⟩:=h;rfl
 ·obtain ⟨u,v,d,g,hs,ps,lks,hds,rfl,hu,T,hf12,hd,hmk,q⟩:=h
  have T10:=T.ten
  refine⟨_,(zh (zak (zbp (za4 (zH Y.zdM G_is_sealed hr (zb (qc 0) (zb (qv 1) zd))))) (zi (zv zbT)) zL)
   (zh (zdd (qv 1) (zbS 2 rfl (zo (zk 2 zaM.nd) (zo (zk 3 zaM.nd) zaB))))
   (zh (zI 4 zaM.nd (zx zm (qv 2) ze))
   (zh (zak (zE zd4 (qv 4) zbR) (zi (zv (zaZ (zeP (zb8 hr)) (qv 3) (zM zd)))) zL)
   (zh (zak (t_w (zcO (zbp (za4 (zH Y.zgg G_is_way hr (zb (qc 0) (zb (qv 4) zd))))) (zcO (zE zeT (zx zm (qv 4) ze) (zx zm (qv 2) ze)) (zcZ (zE zeT (zn zJ Y.len zap (zb (qv 3) zd)) (zQ zdG (zn zJ Y.len zap (zb (qv 4) zd)) ze)))))) (zi (zv zbT)) zL)
   (zh (zbG J3 rfl (zkn Y.enumerate (zb (qv 3) zd)) (zbS 2 rfl (zo (zk 5 zaM.nd) (zo (zk 6 zaM.nd) zaB))) (zi (zak (t_w (zcO (zE (zb0 (zb8 hr)) (zdB zbc (qv 6) zba (zaW ze)) (zM (zb (zx zm (qv 4) (zQ zaU (qv 5) ze)) (zb (zx zm (qv 4) (qv 5)) zd)))) (zcZ (zE (zb0 (zb8 hr)) (zx zm (qv 6) ze) (zdB zbc (qv 4) (zaW (zQ zaU (qv 5) ze)) zba))))) (zi (zv zbT)) zL)))
   (zh (zI 7 zaM.nd (zQ zdE (zaQ (src:=[none]) ze5 rfl rfl (zbM (qv 3)) (λ_ _ _ _ _=>(zk 0 ze5.nd)) (λ_ _ _ _ _=>zdi) (λ_ _ _ _ _=>(zx (zbb (K:=K) rfl) (qv 0) ze))) (za0 (zb (zM zd) zd))))
   (zi (zv (zn (zbC rfl) Y.all zd8 (zb (zaQ (src:=[none,none,some 0]) zdD rfl rfl (zsb Y.zip (zb (zQ zcU (zM (zb (qv 2) zd)) (qv 3)) (zb (qv 7) zd))) (λ_ _ _ _ _=>(zfy (K:=K) 2 rfl rfl (zo (zk 0 zdD.nd) (zo (zk 1 zdD.nd) zaB)))) (λ_ _ _ _ _=>zdi) (λ_ _ _ _ _=>(zH Y.zbO G_was_handed_so hr (zb (qc 2) (zb (qv 0) (zb (qv 1) zd)))))) zd))))))))))),?_⟩
  try dsimp only[zav]
  refine vr rfl (vr rfl (ex8 u v d g hs ps lks hds ⟨rfl,hu,T,hd,λH1 s1=>(vr rfl ?_)⟩))
  cases eS:za7 hs ps d with
  |false=>exact zN rfl (q false H1 (λ_=>rfl) (λf qs _ z=>by rw[eS] at z;cases z) s1)
  |true=>
  obtain⟨f,qs,rfl,hf,hq,lq⟩:=zfX eS
  have hmk:=hmk f qs rfl
  have q:∀(H':Hp),Same H H'->Q (.bl (zae g hs ps lks hds f qs)) H':=λH' s'=>q _ H' (λz=>by rw[eS] at z;cases z) (λf' qs' e _=>by obtain⟨rfl,rfl⟩:=ziT e;rfl) s'
  obtain⟨pd,xf,xq,rfl,hpd,rf,rq⟩:=(hd.same s1).of2
  obtain⟨pf,y1,y2,y3,y4,y5,rfl,hpf,r1,r2,r3,r4,r5⟩:=ze6 rf
  obtain⟨pq,us,rfl,hpq,ru,_⟩:=rq.ofT
  cases r1 with|str _ _=>
  cases r2 with|str _ _=>
  refine zO rfl (vr rfl (ex2 pd _ ⟨rfl, .inl (.inl hpd),rfl,ex2 _ _ ⟨rfl,ex2 _ _ ⟨rfl,rfl,?_⟩⟩⟩))
  refine vr rfl (ixT hpf (zG (j:=3) rfl) ?_)
  refine vr rfl ⟨rfl,vr rfl ?_⟩
  rw[zcl r4]
  have lu:=ru.1
  rw[B0] at lu
  cases ew:f.way with
  |none=>
   refine zN (by rfl) (vr rfl ⟨few rfl,λpe hpe=>?_⟩)
   have Se:=Same.new (o:= .tup []) hpe
   have trq:=zd2 (rq.same Se) (by rw[okD];exact zfH λd hd=>by obtain⟨p,hp,rfl⟩:=G1.mp hd;exact zeN T.names (hq p hp))
   rw[pyD] at trq
   refine⟨_,_,trq,zlw zc,J1 (M3 _ _) znf,?_⟩
   rw[zi8]
   have q:=q _ (s1.trans Se)
   unfold zae at q
   rw[ew] at q
   have e:qs.isEmpty=decide (qs.map ppD=[]):=by cases qs<;>rfl
   have q:Q (.bl qs.isEmpty) _:=q
   rw[e] at q
   exact q
  |some w=>
  rw[ew] at r4
  obtain⟨pw,rfl,hpw⟩:=zaC r4
  have eR:zae g hs ps lks hds f qs=(zbq g hs ps (tD w)&&decide (w.headD ""=f.one)&&decide (qs.length+1=w.length)&&zdS w qs qs.length&&zhe hs lks hds f qs):=by
   unfold zae;rw[ew]
  rw[eR] at q
  refine zO rfl (vr rfl (vr rfl ⟨u,_,tD w,ex4 g hs ps lks ⟨hds,rfl,hu.same s1,T,r4,λH2 s2=>(vr rfl ?_)⟩⟩))
  have s02:=s1.trans s2
  cases eW:zbq g hs ps (tD w)with
  |false=>
   have q:=q H2 s02
   rw[eW] at q
   exact zN rfl (zN rfl q)
  |true=>
  rw[eW] at q
  obtain⟨hw,w1,w10⟩:=zrW eW
  have hpw2:=s2 _ _ hpw
  have hpf2:=s2 _ _ hpf
  have hpq2:=s2 _ _ hpq
  obtain⟨x,ws,rfl⟩:∃x ws,w=x::ws:=by
   match w,w1 with
   |x::ws,_=>exact ⟨x,ws,rfl⟩
  refine zO rfl (vr rfl (ixT hpw2 at0 (vr rfl (ixT hpf2 at0 ⟨rfl,vr rfl ?_⟩))))
  rw[zab]
  have eH:decide ((x::ws).headD ""=f.one)=decide (x=f.one):=rfl
  rw[eH] at q
  cases eh:decide (x=f.one)with
  |false=>
   have q:=q H2 s02
   rw[eh] at q
   exact zN rfl (zN rfl q)
  |true=>
  rw[eh] at q
  refine zO rfl (vr rfl (.inl (ex2 pq _ ⟨rfl, .inr (.inl (.inl hpq2)),vr rfl (.inl (ex2 pw _ ⟨rfl, .inr (.inl (.inl hpw2)),ex2 _ _ ⟨rfl,rfl,rfl,vr rfl ?_⟩⟩))⟩)))
  have eL:decide (V.int (us.length:Int)=V.int ((((x::ws).map V.str).length:Int) -1))=decide (qs.length+1=(x::ws).length):=by
   rw[G2,P0,P0,V.int.injEq,B0]
   lia
  show(if(!decide (V.int (us.length:Int)=V.int ((((x::ws).map V.str).length:Int) -1)))=true then _ else _)
  rw[eL]
  cases el:decide (qs.length+1=(x::ws).length)with
  |false=>
   have q:=q H2 s02
   rw[el] at q
   exact zN rfl q
  |true=>
  rw[el] at q
  have el':=R0 el
  have wn:∀y∈x::ws,zg y=true:=λy hy=>T.names y (hw y hy)
  have ru2:=ru.mono (.of s2)
  refine zO rfl (vr rfl (ex2 pq us ⟨rfl, .inl (.inl hpq2),?_⟩))
  let I0:Nat->St->Hp->Prop:=λi σ' H'=>(∃o5 o6 o7,σ'=[some u,some (.ref pd),some (.ref pf),some (.ref pq),some (.ref pw),o5,o6,o7])/\zdS (x::ws) qs i=true/\Same H2 H'
  refine zo3 (n:=us.length) I0 ⟨(ex3 _ _ _ rfl),rfl,Same.refl _⟩ (λi σ' H' hi z=>⟨us,us[i], .inl (.inl (z.2.2 _ _ hpq2)),rfl,F0 hi⟩) (λσ' H' z=>⟨us, .inl (.inl (z.2.2 _ _ hpq2)),rfl,O0 _⟩) ?_ ?_
  ·rintro i z σ' H3 H4 hi ⟨⟨o5,o6,o7,rfl⟩,hfit,s3⟩ ⟨T0,y,rfl,hT0,hy,rfl⟩
   have hy:=hy us (.inl (.inl (s3 _ _ hpq2)))
   obtain⟨d0,hd0,rd0⟩:=ru2.get hy
   rw[V0] at hd0
   cases hqi:qs[i]? with
   |none=>rw[hqi] at hd0;cases hd0
   |some p0=>
   rw[hqi] at hd0
   cases hd0
   have hp0:=hq p0 (U0 hqi)
   have S4:=Same.new (o:= .tup [V.int (i:Int),y]) hT0
   have s24:=s3.trans S4
   obtain⟨pp,z1,z2,z3,z4,z5,rfl,hpp,t1,t2,t3,t4,t5⟩:=ze6 (rd0.same s24)
   cases t1 with|str _ _=>
   cases t2 with|str _ _=>
   refine ex2 T0 _ ⟨rfl, .inl (.inl zc),rfl,ex2 _ _ ⟨rfl,ex2 _ _ ⟨rfl,rfl,?_⟩⟩⟩
   show zro _ _ _ _ _ (upd H3 T0 (.tup [V.int (i:Int), .ref pp]))
   have hpw4:=s24 _ _ hpw2
   generalize (upd H3 T0 (HO.tup [V.int (i:Int),V.ref pp]))=H4 at *
   have hi1:i+1<(x::ws).length:=()
   have a0:=zej (w:=x::ws) (i:=i) ()
   have a1:atI ((x::ws).map V.str) ((i:Int)+1)=some (.str ((x::ws).getD (i+1) "")):=zej (w:=x::ws) (i:=i+1) hi1
   have ec:za9 [V.str p0.one,V.str p0.to,z3,z4,z5] none (some 2)=[p0.one,p0.to].map V.str:=zcF (n:=2)
   refine vr rfl (vr rfl (ex2 pp _ ⟨rfl, .inl (.inl hpp),λhlen=>?_,λp2 hp2=>?_⟩))
   ·rw[ec] at hlen
    exact absurd (j3 List.length hlen) `n3
   rw[ec]
   have S5:=Same.new (o:= .tup ([p0.one,p0.to].map V.str)) hp2
   refine vr rfl (vr rfl (ex2 _ _ ⟨rfl,rfl,ixT (S5 _ _ hpw4) a1 (vr rfl (vr rfl (ixT (S5 _ _ hpw4) a0 ⟨few rfl,λp3 hp3=>?_⟩)))⟩))
   have S6:=Same.new (o:= .tup [V.str ((x::ws).getD (i+1) ""),V.str ((x::ws).getD i "")]) hp3
   have wi:∀k,k<(x::ws).length->zg ((x::ws).getD k "")=true:=λk hk=>wn _ (by simp only[List.getD,F0 hk,Q3];exact List.getElem_mem hk)
   refine⟨_,_,zaG (xs:=[p0.one,p0.to]) (S6 _ _ zc) (λy hy=>?_),zaG (xs:=[(x::ws).getD (i+1) "",(x::ws).getD i ""]) zc (λy hy=>?_),J1 (Nat.min_le_left _ _) zad,vr rfl ?_⟩
   ·simp only[K0,C3,or_false] at hy
    rcases hy with rfl|rfl
    ·exact zp (T.names _ hp0.one)
    ·exact zp (T.names _ hp0.to)
   ·simp only[K0,C3,or_false] at hy
    rcases hy with rfl|rfl
    ·exact zp (wi _ hi1)
    ·exact zp (wi _ ())
   have s06:Same H (upd (upd H4 p2 (.tup ([p0.one,p0.to].map V.str))) p3 (.tup [V.str ((x::ws).getD (i+1) ""),V.str ((x::ws).getD i "")])):=((s02.trans s24).trans S5).trans S6
   have s26:=(s24.trans S5).trans S6
   have hpp6:=S6 _ _ (S5 _ _ hpp)
   have hpw6:=S6 _ _ (S5 _ _ hpw4)
   have t46:=(t4.same S5).same S6
   have eqv:decide ([p0.one,p0.to]=[(x::ws).getD (i+1) "",(x::ws).getD i ""])=decide (p0.one=(x::ws).getD (i+1) ""/\p0.to=(x::ws).getD i ""):=by
    rw[G2,P0,P0]
    simp
   rw[zaT,eqv]
   generalize (upd (upd H4 p2 (HO.tup ([p0.one,p0.to].map V.str))) p3 (HO.tup [V.str ((x::ws).getD (i+1) ""),V.str ((x::ws).getD i "")]))=H6 at *
   have bad:zfD (x::ws) p0 i=false->∀H',Same H H'->Q (.bl false) H':=λe H' s'=>by
    have q:=q H' s'
    rw[zn0 hqi e] at q
    exact q
   cases ea:decide (p0.one=(x::ws).getD (i+1) ""/\p0.to=(x::ws).getD i "")with
   |false=>exact zN rfl (zN rfl (bad (by unfold zfD;rw[ea];rfl) H6 s06))
   |true=>
   refine zO rfl (vr rfl (ixT hpp6 (zG (j:=3) rfl) (vr rfl (vr rfl (ex2 _ _ ⟨rfl,rfl,vr rfl (ex2 pw _ ⟨rfl, .inl (.inl hpw6),λhlen=>?_,λp4 hp4=>?_⟩)⟩)))))
   ·have e1:((i:Int)+1)=((i+1:Nat):Int):=()
    rw[e1,zdh] at hlen
    have:=j3 List.length hlen
    rw[D3,B0] at this
    lia
   have ec2:za9 ((x::ws).map V.str) (some ((i:Int)+1)) none=((x::ws).drop (i+1)).map V.str:=by
    rw[show((i:Int)+1)=((i+1:Nat):Int) by lia,zdh,List.map_drop]
   rw[ec2]
   have S7:=Same.new (o:= .tup (((x::ws).drop (i+1)).map V.str)) hp4
   have hp47:(upd H6 p4 (.tup (((x::ws).drop (i+1)).map V.str))) p4=some (.tup (((x::ws).drop (i+1)).map V.str)):=zc
   have t47:=t46.same S7
   have s07:=s06.trans S7
   have s27:=s26.trans S7
   have td:∀y∈(x::ws).drop (i+1),PyData.strOk y=true:=λy hy=>zp (wn y (List.mem_of_mem_drop hy))
   generalize (upd H6 p4 (HO.tup (((x::ws).drop (i+1)).map V.str)))=H7 at *
   cases ey:p0.way with
   |none=>
    rw[ey] at t47
    have ez:z4= .non:=by cases t47;rfl
    subst ez
    refine⟨_,_,Tr.non,zaG hp47 td,J1 (M3 _ _) zad,vr rfl (zN rfl ?_)⟩
    exact bad (by unfold zfD;rw[ey,show decide (none=some ((x::ws).drop (i+1)))=false from rfl,F3]) H7 s07
   |some w2=>
    rw[ey] at t47
    obtain⟨p5,rfl,hp5⟩:=zaC t47
    refine⟨_,_,zaG hp5 (λy hy=>zp ((hp0.way w2 ey).2.2 y hy)),zaG hp47 td,J1 (M3 _ _) zad,vr rfl ?_⟩
    rw[zaT]
    have e5:decide (p0.way=some ((x::ws).drop (i+1)))=decide (w2=(x::ws).drop (i+1)):=by
     rw[ey,G2,P0,P0,Option.some.injEq]
    cases eb:decide (w2=(x::ws).drop (i+1))with
    |false=>exact zN rfl (bad (by unfold zfD;rw[e5,eb,F3]) H7 s07)
    |true=>
     refine zO rfl ⟨(ex3 _ _ _ rfl),?_,s27⟩
     rw[zmF hqi,hfit]
     unfold zfD
     rw[ea,e5,eb];rfl
  ·rintro σ' H3 ⟨⟨o5,o6,o7,rfl⟩,hfit,s3⟩
   rw[lu] at hfit
   rw[hfit] at q
   have hpq3:=s3 _ _ hpq2
   have ru3:=ru2.mono (.of s3)
   refine vr rfl ⟨pq,rfl,⟨us, .inl (.inl hpq3)⟩,?_⟩
   let I1:Addr->Nat->List V->St->Hp->Prop:=λl i ys σ' H'=>(∃o,σ'=[o])/\zbU H' ys ((qs.take i).map (·.marks))/\Same H3 H'
   refine zbv (za1 (K:=K) (a:=pq) (xs:=us)) I1 ?_ ?_ ?_ ?_
   ·exact λl hl=>⟨⟨_,rfl⟩,⟨rfl,λi v q e=>by cases e⟩,Same.new hl⟩
   ·exact λl i ys σ' H' _ z=> .inl (.inl (z.2.2 _ _ hpq3))
   ·rintro l i y ys σ' H4 hl' hi hy ⟨⟨o,rfl⟩,T4,s4⟩ hl4
    obtain⟨d0,hd0,rd0⟩:=ru3.get hy
    rw[V0] at hd0
    cases hqi:qs[i]? with
    |none=>rw[hqi] at hd0;cases hd0
    |some p0=>
    rw[hqi] at hd0
    cases hd0
    obtain⟨pp,z1,z2,z3,z4,z5,rfl,hpp,t1,t2,t3,t4,t5⟩:=ze6 (rd0.same s4)
    obtain⟨p5,rfl,hp5⟩:=zaC t5
    refine vr rfl (ixT hpp (zG (j:=4) rfl) ⟨hl4,?_,⟨_,rfl⟩,?_,?_⟩)
    ·have:=T4.1
     rw[B0,N2] at this
     exact zl ()
    ·have tk:(qs.take (i+1)).map (·.marks)=(qs.take i).map (·.marks)++ [p0.marks]:=ziL hqi
     rw[tk]
     exact zoG T4 hl4 hp5
    ·exact λc o e=>by
      rw[zj (zr e hl')]
      exact s4 _ _ e
   rintro l ys σ' H4 hl' ⟨_,T4,s4⟩ hl4
   rw[lu,X3] at T4
   have ly:=T4.1
   rw[B0] at ly
   refine⟨few rfl,λp0 hp0=>⟨few rfl,λpl hpl=>?_⟩⟩
   have S5:=Same.new (o:= .tup []) hp0
   have S6:=Same.new (o:= .lst [V.ref p0]) hpl
   have hp06:=S6 _ _ (zc (H:=H4) (a:=p0) (o:= .tup []))
   refine ex4 l pl _ _ ⟨rfl,rfl,S6 _ _ (S5 _ _ hl4),zc,Z2 (zl (by show _+1<=_;lia)),λlc hlc=>?_⟩
   have S7:=Same.new (o:= .lst (ys ++ [V.ref p0])) hlc
   have s47:=(S5.trans S6).trans S7
   have T7:zbU (upd (upd (upd H4 p0 (.tup [])) pl (.lst [V.ref p0])) lc (.lst (ys ++ [V.ref p0]))) (ys ++ [V.ref p0]) (zaI qs):=zmz (zgn T4 s47) (S7 _ _ hp06)
   have hlc7:(upd (upd (upd H4 p0 (.tup [])) pl (.lst [V.ref p0])) lc (.lst (ys ++ [V.ref p0]))) lc=some (.lst (ys ++ [V.ref p0])):=zc
   have s37:=s4.trans s47
   dsimp only[za5]
   generalize (upd (upd (upd H4 p0 (HO.tup [])) pl (HO.lst [V.ref p0])) lc (HO.lst (ys ++ [V.ref p0])))=H7 at *
   have s27:=s3.trans s37
   have s07:=s02.trans s27
   have hpq7:=s27 _ _ hpq2
   refine vr rfl ⟨few rfl,λq1 hq1=>(vr rfl (zcz (xs:=[V.ref pf]) (ys:=us) zc (Same.new hq1 _ _ hpq7) (by show 1+_<=_;lia) λq2 H9 hq29 S9=>?_))⟩
   have S8:=Same.new (o:= .tup [V.ref pf]) hq1
   have s79:=S8.trans S9
   have hq29:H9 q2=some (.tup (.ref pf::us)):=hq29
   have hlc9:=s79 _ _ hlc7
   have s29:=s27.trans s79
   have s19:=s2.trans s29
   have s09:=s1.trans s19
   have T9:=zgn T7 s79
   have rP:RepL H9 (.ref pf::us) ((f::qs).map ppD):= .cons (rf.same s19) (ru.mono (.of s19))
   have lc1:(ys ++ [V.ref p0]).length=qs.length+1:=by rw[W0,ly];rfl
   have lp1:(V.ref pf::us).length=qs.length+1:=by rw[O1,lu]
   refine vr rfl (ex4 q2 lc true false (ex2 _ _ ⟨rfl,hq29,hlc9,?_⟩))
   rw[lc1,lp1,Nat.min_self]
   have lz:((f::qs).zip (zaI qs)).length=qs.length+1:=by
    unfold zaI
    rw[List.length_zip,W0,B0,O1]
    exact Nat.min_self _
   have hP:∀(i:Nat) (p:Pp),(f::qs)[i]?=some p->p.way=some ((x::ws).drop i)/\PpOk hs ps p:=λi p e=>by
    cases i with
    |zero=>cases e;exact⟨ew,hf⟩
    |succ i=>exact ⟨zoX hfit e,hq p (U0 e)⟩
   have hM:∀(i:Nat) (m:List Str),(zaI qs)[i]?=some m->(∀y∈m,zg y=true)/\m.length<=40:=λi m e=>by
    have:=U0 e
    unfold zaI at this
    rcases X1.mp this with h|h
    ·obtain ⟨p,hp,rfl⟩:=G1.mp h
     exact⟨(hq p hp).mnm,hmk p (N1 _ hp)⟩
    ·rw[c0.mp h]
     exact⟨(λ_ z=>nomatch z),K2 _⟩
   let I2:Addr->Nat->List V->St->Hp->Prop:=λl i ys σ' H'=>(∃o0 o1,σ'=[o0,o1,some u])/\ys=((((f::qs).zip (zaI qs)).take i).map λz=>soB hs lks hds z.1 z.2).map V.bl/\Same H9 H'
   refine znC (n:=qs.length+1) I2 ?_ ?_ ?_ ?_ ?_
   ·exact λl hl=>⟨(ex2 _ _ rfl),rfl,Same.new hl⟩
   ·intro l i zs σ' H' hl hi z
    exact⟨_,_,_,_,z.2.2 _ _ hq29,z.2.2 _ _ hlc9,by rw[lc1,lp1,Nat.min_self],F0 (by rw[lp1];exact hi),F0 (by rw[lc1];exact hi)⟩
   ·intro l zs σ' H' hl z
    exact⟨_,_,z.2.2 _ _ hq29,z.2.2 _ _ hlc9,by rw[lc1,lp1,Nat.min_self],O0 _⟩
   ·rintro l i z zs σ' HA HB hl hi ⟨⟨o0,o1,rfl⟩,rfl,sA⟩ hl' ⟨T0,xs',ys',vx,vy,hx',hy',rfl,hT0,ex,ey,rfl⟩
    have e1:xs'= .ref pf::us:=SqZ.inj (t:=true) hx' (sA _ _ hq29)
    have e2:ys'=ys ++ [V.ref p0]:=SqZ.inj (t:=false) hy' (sA _ _ hlc9)
    subst e1 e2
    have SB:=Same.new (o:= .tup [vx,vy]) hT0
    obtain⟨d0,hd0,rd0⟩:=rP.get ex
    rw[V0] at hd0
    cases hpi:(f::qs)[i]? with
    |none=>rw[hpi] at hd0;cases hd0
    |some p1=>
    rw[hpi] at hd0
    cases hd0
    have hci:i<(zaI qs).length:=by unfold zaI;rw[W0,B0];exact hi
    have hmi:=F0 hci
    generalize (zaI qs)[i]=m1 at hmi
    obtain⟨b1,rfl,hb1⟩:=T9.2 i vy m1 ey hmi
    obtain⟨hw1,ok1⟩:=hP i p1 hpi
    have hiw:i<(x::ws).length:=()
    obtain⟨x1,w1',ew1⟩:∃x1 w1',(x::ws).drop i=x1::w1':=by rw[List.drop_eq_getElem_cons hiw];exact⟨_,_,rfl⟩
    rw[ew1] at hw1
    have lw1:w1'.length<=9:=by
     have:=j3 List.length ew1
     have w10':ws.length+1<=hs.length:=w10
     simp only[D3,O1] at this
     lia
    have hm1:∀y∈x1::w1',y∈hs:=λy hy=>hw y (List.mem_of_mem_drop (by rw[ew1];exact hy))
    have sAB:=sA.trans SB
    have hzi:((f::qs).zip (zaI qs))[i]?=some (p1,m1):=by
     rw[List.getElem?_zip_eq_some]
     exact⟨hpi,hmi⟩
    refine ex2 T0 _ ⟨rfl, .inl (.inl zc),rfl,ex2 _ _ ⟨rfl,ex2 _ _ ⟨rfl,rfl,?_⟩⟩⟩
    refine vr rfl (vr rfl (vr rfl (ex8 u vx b1 p1 x1 w1' m1 g (ex4 hs ps lks hds ⟨rfl,hu.same (s09.trans sAB),T,hf12,rd0.same sAB,hw1,hm1,lw1,ok1.to,ok1.mnm,sAB _ _ hb1,(hM i m1 hmi).1,(hM i m1 hmi).2,λHC sC=>?_⟩))))
    have hlB:=SB _ _ hl'
    refine⟨sC _ _ hlB,?_,(ex2 _ _ rfl),?_,?_⟩
    ·rw[B0,B0,N2]
     exact zl ()
    ·rw[ziL hzi,J2];rfl
    ·exact λc o e=>by
      rw[zj (zr e hl)]
      exact sC _ _ (sAB _ _ e)
   ·rintro l zs σ' HA hl ⟨_,rfl,sA⟩ hlA
    refine ex2 l _ ⟨rfl,SqL.of hlA,?_⟩
    rw[←lz,X3]
    have q:=q HA (s09.trans sA)
    have e:(((f::qs).zip (zaI qs)).map λz=>soB hs lks hds z.1 z.2).all id=zhe hs lks hds f qs:=by rw[List.all_map];rfl
    rw[e]
    exact q
theorem zng{x:V}:za9 (xs ++ [x]) none (some (-1))=xs:=by
 unfold za9
 have e1:sIx (xs ++ [x]).length 0 none=0:=rfl
 have e2:sIx (xs ++ [x]).length (xs ++ [x]).length (some (-1))=xs.length:=by
  unfold sIx
  simp only[W0,List.length_singleton]
  rw[E1 ⋯]
  lia
 rw[e1,e2,List.drop_zero,Nat.sub_zero,List.take_left']
 rfl
noncomputable def zia:Sp:=λvs H Q _=>∃(v:V) (a b:Str) (g:Str) (hs:List Str) (ps:List (Str×Str)) (lks hds:List D),vs=[v, .str a, .str b]/\Rep H v (zbA g hs ps lks hds)/\TownOk g hs ps lks hds/\zg a=true/\zg b=true/\∀H',Same H H'->Q (.bl (decide (b∈zaR ps a))) H'
theorem ziP(Y:Ev K mg):Y.zb2.O P w base 1 zia:=by
 refine Y.zb2.fn.okQ zfR (λvs H Q E h=>?_) `j4
 ·obtain ⟨v,a,b,g,hs,ps,lks,hds,rfl,_⟩:=h;rfl
 ·obtain ⟨v,a,b,g,hs,ps,lks,hds,rfl,hv,T,na,nb,q⟩:=h
  obtain⟨p,pr,pt,pl,pa,vt,vl,va,rfl,hp,hpr,hpt,rt,hpl,rl,hpa,ra⟩:=zbL hv
  have TP:Rep H (.ref pt) (.tup (ps.map pairD)):= .mkL hpt (by have:=T.lp;rw[B0];lia) rt
  refine⟨_,(zi (zv (zs1 (zaZ (znW (zb8 hr)) (zM (zb (qv 1) (zb (qv 2) zd))) (zx zm (qv 0) ze)) (ze7 (zaZ (znW (zb8 hr)) (zM (zb (qv 2) (zb (qv 1) zd))) (zx zm (qv 0) ze)))))),?_⟩
  try dsimp only[zav]
  refine vr rfl (vr rfl ⟨few rfl,λp1 hp1=>?_⟩)
  have S1:=Same.new (o:= .tup [V.str a,V.str b]) hp1
  refine vr rfl (ixT (S1 _ _ hp) (zG (j:=2) rfl) ⟨_,_,znV zc na nb, .inr (zjC (TP.same S1) T.tn),zgA _,vr rfl ?_⟩)
  rw[zja]
  cases e1:decide ((a,b)∈ps)with
  |true=>
   have q:=q _ S1
   rw[N0 (zbd.mpr (.inr (R0 e1)))] at q
   exact zN rfl q
  |false=>
   refine zO ⋯ (vr rfl (vr rfl ⟨few rfl,λp2 hp2=>?_⟩))
   have S2:=Same.new (o:= .tup [V.str b,V.str a]) hp2
   have S12:=S1.trans S2
   refine vr rfl (ixT (S12 _ _ hp) (zG (j:=2) rfl) ⟨_,_,znV zc nb na, .inr (zjC (TP.same S12) T.tn),zgA _,?_⟩)
   rw[zja]
   have q:=q _ S12
   have e2:decide (b∈zaR ps a)=decide ((b,a)∈ps):=by
    rw[G2,P0,P0,zbd]
    exact⟨λh=>h.resolve_right (of_decide_eq_false e1), .inl⟩
   rw[e2] at q
   exact q
noncomputable def zoV:Sp:=λvs H Q _=>∃(v:V) (x:Str) (g:Str) (hs:List Str) (ps:List (Str×Str)) (lks hds:List D),vs=[v, .str x]/\Rep H v (zbA g hs ps lks hds)/\TownOk g hs ps lks hds/\x∈hs/\∀(l:Addr) (H':Hp),H l=none->H' l=some (.lst ((hs.filter λy=>decide (y∈zaR ps x)).map V.str))->Same H H'->Q (.ref l) H'
theorem zpq(Y:Ev K mg):Y.zdQ.O P w base 2 zoV:=by
 have G__law_tied:Y.zb2.O P w base 1 zia:=ziP Y
 refine Y.zdQ.fn.okQ zdY (λvs H Q E h=>?_) `j4
 ·obtain ⟨v,x,g,hs,ps,lks,hds,rfl,_⟩:=h;rfl
 ·obtain ⟨v,x,g,hs,ps,lks,hds,rfl,hv,T,hx,q⟩:=h
  have T10:=T.ten
  obtain⟨p,pr,pt,pl,pa,vt,vl,va,rfl,hp,hpr,hpt,rt,hpl,rl,hpa,ra⟩:=zbL hv
  refine⟨_,(zi (zv (zaQ (src:=[none,some 1,some 0]) zex rfl rfl (zbM (zx zm (qc 0) ze)) (λ_ _ _ _ _=>(zk 0 zex.nd)) (λ_ _ _ _ _=>(zcS (za4 (zH Y.zb2 G__law_tied hr (zb (qc 2) (zb (qc 1) (zb (qv 0) zd))))))) (λ_ _ _ _ _=>(qv 0))))),?_⟩
  try dsimp only[zav]
  refine vr rfl (ixT hp (zG (j:=1) rfl) ⟨pr,rfl,⟨_, .inl (.inl hpr)⟩,?_⟩)
  let I1:Addr->Nat->List V->St->Hp->Prop:=λl i ys σ' H'=>(∃o,σ'=[o,some (.str x),some (.ref p)])/\ys=((hs.take i).filter λy=>decide (y∈zaR ps x)).map V.str/\Same H H'
  refine zbv (za1 (K:=K) (xs:=hs.map V.str)) I1 ?_ (λl i ys σ' H' hl z=> .inl (.inl (z.2.2 _ _ hpr))) ?_ ?_
  ·exact λl hl=>⟨⟨_,rfl⟩,rfl,Same.new hl⟩
  ·rintro l i y0 ys σ' H1 hl' hi hy ⟨⟨o,rfl⟩,rfl,s1⟩ hl1
   rw[B0] at hi
   rw[V0] at hy
   obtain⟨y,ey,rfl⟩:∃y,hs[i]?=some y/\y0= .str y:=by
    cases e:hs[i]? with
    |none=>rw[e] at hy;cases hy
    |some y=>rw[e] at hy;cases hy;exact⟨y,rfl,rfl⟩
   have hym:=U0 ey
   refine vr rfl (vr rfl (vr rfl (ex8 _ x y g hs ps lks hds ⟨rfl,hv.same s1,T,T.names x hx,T.names y hym,λH2 s2=>(vr rfl ?_)⟩)))
   have tk:(hs.take (i+1)).filter (λy=>decide (y∈zaR ps x))=(hs.take i).filter (λy=>decide (y∈zaR ps x))++ [y].filter (λy=>decide (y∈zaR ps x)):=by rw[O3,ey,List.filter_append];rfl
   cases e:decide (y∈zaR ps x)with
   |false=>exact zO ⋯ ⟨s2 _ _ hl1,⟨_,rfl⟩,by rw[tk];simp[e],s1.trans s2⟩
   |true=>
    refine zN rfl (vr rfl ⟨s2 _ _ hl1,?_,⟨_,rfl⟩,by rw[tk];simp[e],?_⟩)
    ·rw[B0]
     have:=G3 (λy=>decide (y∈zaR ps x)) (hs.take i)
     rw[N2] at this
     exact zl ()
    ·exact λc o e=>by
      rw[zj (zr e hl')]
      exact s2 _ _ (s1 _ _ e)
  ·rintro l ys σ' H1 hl' ⟨_,rfl,s1⟩ hl1
   rw[show hs.take (hs.map V.str).length=hs by rw[B0];exact X3] at hl1
   exact q l H1 hl' hl1 s1
noncomputable def zjZ:Sp:=λvs H Q _=>∃(a pw:Addr) (n:Int) (v:V) (to:Str) (w:List Str) (g:Str) (hs:List Str) (ps:List (Str×Str)) (lks hds:List D) (O:List Str),vs=[.ref a,v, .ref pw, .str to]/\Hand H a n/\n<2^37/\Rep H v (zbA g hs ps lks hds)/\TownOk g hs ps lks hds/\Pool hs lks hds O/\H pw=some (.tup (w.map V.str))/\WayOk g hs ps w/\to∈hs/\
 (cmM hs lks hds to w=none->∀H',Hand H' a (n+10)->Keep a H H'->Q .non H')/\(∀(v':V) (f:Pp) (qs:List Pp) (H':Hp),Ch hs lks hds to w (f::qs)->Rep H' v' (zbJ f qs)->Hand H' a (n+10)->Keep a H H'->Q v' H')
theorem zry{nr:Int}{pw pm:Addr}{w m:List Str}(e:H p=some (.tup [.str x, .str y, .int nr, .ref pw, .ref pm]))(hx:zg x=true)(hy:zg y=true)(hw:H pw=some (.tup (w.map V.str)))(hm:H pm=some (.tup (m.map V.str)))(nw:∀z∈w,zg z=true)(nm:∀z∈m,zg z=true)(lw:w.length<=1000)(lm:m.length<=1000):Rep H (.ref p) (ppD ⟨x,y,nr,some w,m⟩):=
 .mkL (vs:=[.str x, .str y, .int nr, .ref pw, .ref pm]) e (C2 rfl) (.cons (.str _ (zy hx)) (.cons (.str _ (zy hy)) (.cons (.int nr) (.cons (.mkL hw (by rw[B0];exact lw) (zbj λz hz=>zy (nw z hz))) (.cons (.mkL hm (by rw[B0];exact lm) (zbj λz hz=>zy (nm z hz))) .nil)))))
theorem zmG(r:RepL H vs (ds ++ [d])):∃va v,vs=va ++ [v]/\RepL H va ds/\Rep H v d:=by
 have l:=r.1
 rw[W0,List.length_singleton] at l
 obtain⟨va,v,rfl⟩:∃va v,vs=va ++ [v]:=⟨vs.dropLast,vs.getLast (λz=>by rw[z] at l;simp at l),(List.dropLast_concat_getLast _).symm⟩
 have la:va.length=ds.length:=by rw[W0,List.length_singleton] at l;lia
 refine ex2 va v ⟨rfl,⟨la,λi x e h1 h2=>?_⟩,?_⟩
 ·have hi:i<va.length:=by
   rcases R1 i va.length with z|z
   ·exact z
   ·rw[G0 z] at h1;cases h1
  exact r.2 i x e (by rw[A3 hi];exact h1) (by rw[A3 ()];exact h2)
 ·exact r.2 va.length v d (by rw[Y2 (O0 _),Nat.sub_self];rfl) (by rw[la,Y2 (O0 _),Nat.sub_self];rfl)
theorem ziH{H:Hp}:∀{vs:List V} {ds:List D},RepL H vs ds->RepL H vs.reverse ds.reverse
 |[],[],_=> .nil
 |[],_::_,r=>absurd r.1 `n3
 |_::_,[],r=>absurd r.1 `n3
 |v::vs,d::ds,r=>by
  rw[List.reverse_cons,List.reverse_cons]
  exact(ziH r.head.2).append (.cons r.head.1 .nil)
def Pg(hs:List Str)(lks hds:List D)(to:Str)(w:List Str)(O:List Str)(i:Nat)(ms:List Str)(P:List Pp):Prop:=
 (i=0/\ms=[]/\P=[])\/(∃f qs,P=f::qs/\f.marks=ms/\Ch hs lks hds ((to::w).getD (w.length -i) "") (w.drop (w.length -i)) P/\cmM hs lks hds ((to::w).getD (w.length -i) "") (w.drop (w.length -i))=some ms/\Mr O ms/\0<i)
theorem zmE(Y:Ev K mg):Y.zcs.O P w base 6 zjZ:=by
 have G__law_take:Y.zt.O P w base 1 zea:=zdw Y
 have G__law_worth:Y.zbD.O P w base 5 zfc:=zhr Y
 have G__law_handed:Y.za3.O P w base 5 zgJ:=zj8 Y
 refine Y.zcs.fn.okQ zaz (λvs H Q E h=>?_) `j4
 ·obtain ⟨a,pw,n,v,to,w,g,hs,ps,lks,hds,O,rfl,_⟩:=h;rfl
 ·obtain ⟨a,pw,n,v,to,w,g,hs,ps,lks,hds,O,rfl,hH,hn,hv,T,PO,hpw,W,hto,qN,qS⟩:=h
  obtain⟨wl1,wlh⟩:=W.len
  have T10:=T.ten
  have wn:∀y∈w,zg y=true:=λy hy=>T.names y (W.mem y hy)
  have npa:∀{b o},H b=some (.tup o)->b≠a:=λ{b o} e z=>by obtain⟨_,_,_,e',_⟩:=hH;rw[z,e'] at e;cases e
  refine⟨_,(zh (zI 4 zaz.nd (zM zd))
   (zh (zI 5 zaz.nd (za0 zd))
   (zh (zbG J3 rfl (znX Y.range (zb (zQ zdG (zn zJ Y.len zap (zb (qv 2) zd)) ze) (zb (zf6 zcd ze) (zb (zf6 zcd ze) zd)))) (zk 6 zaz.nd) (zh (zI 7 zaz.nd (zdB zbc (qv 2) (zaW (qv 6)) zba))
   (zey (zak (t_w (ziX (zE zjq (qv 6) (zQ zdG (zn zJ Y.len zap (zb (qv 2) zd)) ze)) (zgP (zE zd4 (zH Y.zbD G__law_worth hr (zb (qv 1) (zb (qv 7) (zb (qv 4) zd)))) zbR)))) (zi (zv zbR)) zL)
   (zh (zI 8 zaz.nd (zQ zcU (zM (zb (qv 3) zd)) (qv 2)))
   (zh (zI 4 zaz.nd (zH Y.za3 G__law_handed hr (zb (qv 1) (zb (qv 7) (zb (qv 4) (zb (zx zm (qv 8) (qv 6)) zd))))))
   (zh (zak (zE zd4 (qv 4) zbR) (zi (zv zbR)) zL)
   (zi (zcB (zf3 F.plainAttrs_list V3 W3 zaV (qv 5) (zb (zM (zb (zx zm (qv 2) (qv 6)) (zb (zx zm (qv 8) (qv 6)) (zb (zQ zaU ze (zH Y.zt G__law_take hr (zb (qv 0) (zb ze zd)))) (zb (qv 7) (zb (qv 4) zd)))))) zd))))))))))
   (zi (zv (zM (zb (zx zag (qv 5) (zf6 zcd ze)) (zb (zah zaf Y.tuple za6 (zb (zod (zdB zga (qv 5) zba (zaW (zf6 zcd ze))) (zf6 zcd ze)) zd)) zd)))))))),?_⟩
  try dsimp only[zav]
  refine⟨few rfl,λp0 hp0=>?_⟩
  refine⟨few rfl,λlp hlp=>?_⟩
  have S0:=Same.new (o:= .tup []) hp0
  have S1:=Same.new (o:= .lst []) hlp
  have hlpH:H lp=none:=zbI S0 hlp
  have S01:=S0.trans S1
  have hp01:=S1 _ _ (zc (H:=H) (a:=p0) (o:= .tup []))
  have hlp1:(upd (upd H p0 (.tup [])) lp (.lst [])) lp=some (.lst []):=zc
  have hH1:=hH.same S01
  have nlp:lp≠a:=(hH.same S0).ne hlp
  generalize (upd (upd H p0 (HO.tup [])) lp (HO.lst []))=H1 at *
  have npw:pw≠a:=npa hpw
  refine vr rfl (.inl (ex2 pw _ ⟨rfl, .inr (.inl (.inl (S01 _ _ hpw))),ex2 _ _ ⟨rfl,rfl,1,rfl,1,rfl,w.length,by rw[B0],(),?_⟩⟩))
  let I0:Nat->St->Hp->Prop:=λi σ' H'=>(∃pm ms P zs o6 o7 o8,σ'=[some (.ref a),some v,some (.ref pw),some (.str to),some (.ref pm),some (.ref lp),o6,o7,o8]/\H' pm=some (.tup (ms.map V.str))/\Pg hs lks hds to w O i ms P/\H' lp=some (.lst zs)/\RepL H' zs (P.reverse.map ppD)/\P.length=i)/\Hand H' a (n+i)/\Keep a H H'
  refine zbi zk4 I0 ?_ (λ_ _ _ _=>trivial) ?_ ?_
  ·exact ⟨(ex4 p0 [] [] [] (ex3 _ _ _ ⟨rfl,hp01, .inl ⟨rfl,rfl,rfl⟩,hlp1, .nil,rfl⟩)),hH1.mono (),Keep.of S01⟩
  ·rintro i y σ' H2 hi rfl ⟨⟨pm,ms,P,zs,o6,o7,o8,rfl,hpm,hPg,hzs,rz,lP⟩,hH2,k2⟩
   obtain⟨k,hk⟩:∃k:Nat,k=w.length -1 -i:=⟨_,rfl⟩
   have ek:((w.length:Int) -1 -(i:Int))=(k:Int):=()
   rw[ek]
   have hkl:k<w.length:=()
   have hpw2:=k2 _ _ npw hpw
   have hv2:=hv.mono (.keep k2 hH hH2)
   have gd:za9 (w.map V.str) (some (k:Int)) none=(w.drop k).map V.str:=by rw[zdh,List.map_drop]
   refine vr rfl (vr rfl (vr rfl ?_))
   dsimp only[zb4]
   refine zbn hpw2 λpp H3 hpp s3=>?_
   rw[gd] at hpp
   dsimp only[za5]
   obtain⟨x,ws,ew⟩:∃x ws,w.drop k=x::ws:=by rw[List.drop_eq_getElem_cons hkl];exact⟨_,_,rfl⟩
   have ex:x=w.getD k "":=by
    rw[List.drop_eq_getElem_cons hkl] at ew
    injection ew with e1 _
    rw[←e1]
    simp[List.getD,hkl]
   rw[ew] at hpp
   have hxm:∀z∈x::ws,z∈hs:=λz hz=>W.mem z (List.mem_of_mem_drop (by rw[ew];exact hz))
   have hxn:∀z∈x::ws,zg z=true:=λz hz=>T.names z (hxm z hz)
   have lws:ws.length+1+k=w.length:=by
    have:=j3 List.length ew
    rw[D3,O1] at this
    lia
   have hH3:=hH2.same s3
   have k3:=k2.trans (Keep.of s3)
   have hv3:=hv2.same s3
   have hpm3:=s3 _ _ hpm
   have Mm:Mr O ms:=by
    rcases hPg with⟨_,rfl,_⟩|⟨_,_,_,_,_,_,M,_⟩
    ·exact Mr.nil
    ·exact M
   obtain⟨j2,rs2,hj2,hlj2,er2⟩:=zoq T (hxm x Z0)
   obtain⟨j,rs,hj,hdj,er,hk'⟩:=zqr T PO (hxm x Z0)
   have wm:(0<i->zat (zY (x::ws) ms rs2)=false)->zce hs lks hds (w.drop k)=some ms:=λhb=>by
    rcases hPg with⟨rfl,rfl,_⟩|⟨f,qs,_,_,c,hc,_,i0⟩
    ·have:ws=[]:=List.eq_nil_of_length_eq_zero ()
     rw[ew,this,zce]
    ·have ei:w.length -i=k+1:=()
     rw[ei] at hc
     obtain⟨x',ws',e'⟩:∃x' ws',ws=x'::ws':=by
      match ws,lws with
      |[],l=>exact absurd l (by simp only[List.length_nil];lia)
      |x'::ws',_=>exact ⟨_,_,rfl⟩
     have ed:w.drop (k+1)=ws:=by
      have:=j3 (List.drop 1) ew
      rw[List.drop_drop] at this
      simpa[Nat.add_comm] using this
     have et:(to::w).getD (k+1) ""=x:=ex.symm
     rw[et,ed] at hc
     rw[ew,e',zd5,←e',hc]
     show(if zat (zY (x::ws) ms (zac hs lks x))=true then none else some ms)=some ms
     rw[er2,hb i0,Y0 ⋯]
   refine⟨λσ' H4=>σ'=[some (.ref a),some v,some (.ref pw),some (.str to),some (.ref pm),some (.ref lp),some (.int (k:Int)),some (.ref pp),o8]/\Same H3 H4/\(0<i->zat (zY (x::ws) ms rs2)=false),?_,?_⟩
   ·refine vr rfl (vr rfl (.inl (ex2 pw _ ⟨rfl, .inr (.inl (.inl (s3 _ _ hpw2))),ex2 _ _ ⟨rfl,rfl,ex2 _ _ ⟨rfl,rfl,vr rfl ?_⟩⟩⟩)))
    rw[B0]
    by_cases h0:0<i
    ·refine zN (N0 ()) (vr rfl (vr rfl (vr rfl (ex8 v pp pm x ws ms g hs (ex4 ps lks hds j2 ⟨rs2,rfl,hv3,T,hj2,hlj2,hpp,hpm3,hxn,λy hy=>PO.nm y (Mm.mem y hy),(),J1 (Mm.toMk0.len PO.few) ⋯,λv2 H4 rv s4=>⟨rfl,vr rfl ?_⟩⟩)))))
     rw[zcl rv]
     cases eb:zat (zY (x::ws) ms rs2)with
     |false=>exact zO ⋯ ⟨rfl,s4,λ_=>rfl⟩
     |true=>
      refine zN rfl (qN ?_ H4 ((hH3.same s4).mono ()) (k3.trans (Keep.of s4)))
      rcases hPg with⟨z,_⟩|⟨f,qs,_,_,c,hc,_,i0⟩
      ·lia
      ·have ei:w.length -i=k+1:=()
       rw[ei] at hc
       obtain⟨x',ws',e'⟩:∃x' ws',ws=x'::ws':=by
        match ws,lws with
        |[],l=>exact absurd l (by simp only[List.length_nil];lia)
        |x'::ws',_=>exact ⟨_,_,rfl⟩
       have ed:w.drop (k+1)=ws:=by
        have:=j3 (List.drop 1) ew
        rw[List.drop_drop] at this
        simpa[Nat.add_comm] using this
       have et:(to::w).getD (k+1) ""=x:=ex.symm
       rw[et,ed] at hc
       have hm:zce hs lks hds (w.drop k)=none:=by
        rw[ew,e',zd5,←e',hc]
        show(if zat (zY (x::ws) ms (zac hs lks x))=true then none else some ms)=none
        rw[er2,eb,E1 rfl]
       unfold cmM
       rw[zd0 hkl hm]
    ·exact zO (by rw[A1 ()]) (zO ⋯ ⟨rfl,Same.refl _,λz=>absurd z h0⟩)
   rintro σ' H4 ⟨rfl,s4,hb⟩
   have hmw:=wm hb
   have hH4:=hH3.same s4
   have k4:=k3.trans (Keep.of s4)
   have s34:=s4
   have hv4:=hv3.same s4
   have hpw4:=s4 _ _ (s3 _ _ hpw2)
   have hpp4:=s4 _ _ hpp
   have hpm4:=s4 _ _ hpm3
   have hzs4:=s4 _ _ (s3 _ _ hzs)
   have rz4:=(rz.mono (.of s3)).mono (.of s4)
   refine vr rfl ⟨few rfl,λq1 hq1=>?_⟩
   have T1:=Same.new (o:= .tup [V.str to]) hq1
   refine vr rfl (zcz (xs:=[V.str to]) (ys:=w.map V.str) zc (T1 _ _ hpw4) (by rw[B0];show 1+_<=_;lia) λq2 H5 hq2 s5=>?_)
   have s45:=T1.trans s5
   have hq2:H5 q2=some (.tup ((to::w).map V.str)):=hq2
   have aw:=zej (w:=to::w) (i:=k) (by simp only[O1];lia)
   generalize eto:(to::w).getD k ""=wh at *
   have hwh:wh∈hs:=by
    rw[←eto]
    have:(to::w).getD k ""∈to::w:=by
     have hk1:k<(to::w).length:=by simp only[O1];lia
     simp only[List.getD,F0 hk1,Q3]
     exact List.getElem_mem hk1
    rcases K0.mp this with h|h
    ·rw[h];exact hto
    ·exact W.mem _ h
   dsimp only[za5]
   refine vr rfl (vr rfl (vr rfl (vr rfl (vr rfl (ixT hq2 aw (ex8 v pp pm (.str wh) x ws ms (some wh) (ex8 g hs ps lks hds j rs O ⟨rfl,hv4.same s45,T,hj,hdj,hk',PO.few,PO.nm,Mm.toMk0,s45 _ _ hpp4,s45 _ _ hpm4, .inr (vr rfl ⟨rfl,T.names _ hwh⟩),hxn,(),λu H6 tu s6=>?_⟩)))))))
   have s46:=s45.trans s6
   have k6:=k4.trans (Keep.of s46)
   have hH6:=hH4.same s46
   have ecm:cmM hs lks hds wh (w.drop k)=zD (x::ws) (some wh) rs ms:=by
    unfold cmM
    rw[hmw]
    show zD (w.drop k) (some wh) (zac hs hds ((w.drop k).headD "")) ms=_
    rw[ew]
    show zD (x::ws) (some wh) (zac hs hds x) ms=_
    rw[er]
   cases eh:zD (x::ws) (some wh) rs ms with
   |none=>
    rw[eh] at tu
    cases(show u= .non from tu)
    refine vr rfl ⟨rfl,vr rfl (zN rfl (qN ?_ H6 (hH6.mono ()) k6))⟩
    exact zpE (k:=k) hkl (by rw[eto,ecm,eh])
   |some t=>
   rw[eh] at tu
   obtain⟨pt,rfl,hpt⟩:=tu
   have Mt:=zde hk'.2 Mm eh
   have hpw6:=s46 _ _ hpw4
   have hq26:=s6 _ _ hq2
   have hpp6:=s46 _ _ hpp4
   have hzs6:=s46 _ _ hzs4
   have a0:=zej (w:=w) (i:=k) hkl
   rw[←ex] at a0
   refine vr rfl ⟨rfl,vr rfl (zO rfl (vr rfl ⟨.inl ⟨rfl,_,SqL.of hzs6⟩,vr rfl (vr rfl (ixT hpw6 a0 (vr rfl (vr rfl (ixT hq26 aw ?_)))))⟩))⟩
   refine vr rfl (ex3 a 9 _ ⟨rfl,hH6,(),⋯,⋯,λt9 H7 t90 t99 hH7 k7=>(ex2 _ _ ⟨rfl,rfl,vr rfl (vr rfl ⟨few rfl,λpn hpn=>?_⟩)⟩)⟩)
   have M67:=Mono.keep k7 hH6 hH7
   have hzs7:=k7 _ _ nlp hzs6
   have Sn:=Same.new (o:= .tup [V.str x,V.str wh,V.int (1+t9),V.ref pp,V.ref pt]) hpn
   have rn:Rep (upd H7 pn (.tup [V.str x,V.str wh,V.int (1+t9),V.ref pp,V.ref pt])) (.ref pn) (ppD ⟨x,wh,1+t9,some (x::ws),t⟩):=zry zc (hxn x Z0) (T.names _ hwh) (Sn _ _ (M67.tup _ _ hpp6)) (Sn _ _ (M67.tup _ _ hpt)) hxn (λz hz=>PO.nm z (Mt.mem z hz)) (by simp only[O1];lia) (J1 (Mt.toMk0.len PO.few) ⋯)
   have rz8:=((rz4.mono (.of s46)).mono M67).mono (.of Sn)
   have hzs8:=Sn _ _ hzs7
   have lz:=rz.1
   rw[B0,List.length_reverse] at lz
   have ei1:w.length -(i+1)=k:=()
   refine ex3 lp _ _ ⟨rfl,rfl,hzs8,zl (),⟨pt,t,⟨x,wh,1+t9,some (x::ws),t⟩::P,ex4 _ _ _ _ ⟨rfl,?_, .inr (ex2 _ _ ⟨rfl,rfl,?_,?_,Mt,()⟩),zc,?_,by rw[O1,lP]⟩⟩,?_,?_⟩
   ·have hpt8:=Sn _ _ (M67.tup _ _ hpt)
    have ne:pt≠lp:=λz=>by
     subst z
     rw[hpt8] at hzs8
     cases hzs8
    rw[zj ne]
    exact hpt8
   ·rw[ei1,ew,eto]
    rcases hPg with⟨rfl,rfl,rfl⟩|⟨f,qs,rfl,hfm,c,hc,_,i0⟩
    ·have:ws=[]:=List.eq_nil_of_length_eq_zero ()
     subst this
     exact .one () (by rw[er];exact eh)
    ·have ei:w.length -i=k+1:=()
     rw[ei] at c
     obtain⟨x',ws',e'⟩:∃x' ws',ws=x'::ws':=by
      match ws,lws with
      |[],l=>exact absurd l (by simp only[List.length_nil];lia)
      |x'::ws',_=>exact ⟨_,_,rfl⟩
     have ed:w.drop (k+1)=ws:=by
      have:=j3 (List.drop 1) ew
      rw[List.drop_drop] at this
      simpa[Nat.add_comm] using this
     have et:(to::w).getD (k+1) ""=x:=ex.symm
     rw[et,ed,e'] at c
     subst e'
     exact .more c (by rw[hfm,er2];exact hb i0) () (by rw[hfm,er];exact eh)
   ·rw[ei1,eto,ecm,eh]
   ·rw[List.reverse_cons,J2]
    exact RepL.mono (rz8.append (.cons rn .nil)) (.lset hzs8)
   ·exact ((hH7.new hpn).updNe nlp).mono (by push_cast;lia)
   ·exact Keep.updNew ((k6.trans k7).trans (Keep.new hpn)) hlpH
  ·rintro σ' H2 ⟨⟨pm,ms,P,zs,o6,o7,o8,rfl,hpm,hPg,hzs,rz,lP⟩,hH2,k2⟩
   rcases hPg with⟨z,_⟩|⟨f,qs,rfl,hfm,c,hc,_,i0⟩
   ·lia
   rw[Nat.sub_self,List.drop_zero] at c
   have c:Ch hs lks hds to w (f::qs):=c
   rw[List.reverse_cons,J2] at rz
   obtain⟨za,zf,rfl,ra,rf⟩:=zmG rz
   have lq:qs.length+1=w.length:=lP
   refine vr rfl ⟨1,rfl,ixL hzs (zgB _ _) (vr rfl ⟨1,rfl,vr rfl (ex2 lp _ ⟨rfl,SqL.of hzs,λp1 hp1=>(ex2 p1 _ ⟨rfl,SqL.of zc,λp2 hp2=>(ex2 p2 _ ⟨rfl, .inl ⟨SqL.of zc,λp3 hp3=>⟨few rfl,λp4 hp4=>?_⟩⟩⟩)⟩)⟩)⟩)⟩
   have ec:za9 (za ++ [zf]) none (some (-1))=za:=zng
   rw[ec] at hp2 hp3 hp4⊢
   have S1:=Same.new (o:= .lst za) hp1
   have S2:=Same.new (o:= .lst za.reverse) hp2
   have S3:=Same.new (o:= .tup za.reverse) hp3
   have S4:=Same.new (o:= .tup [zf, .ref p3]) hp4
   have s14:=((S1.trans S2).trans S3).trans S4
   refine qS _ f qs _ c ?_ ((hH2.same s14).mono ()) (k2.trans (Keep.of s14))
   have ra4:=(ziH ra).mono (.of s14)
   rw[←List.map_reverse,List.reverse_reverse] at ra4
   exact .mk2 zc (rf.same s14) (.mkL (S4 _ _ zc) (by rw[B0];lia) ra4)
noncomputable def zjd:Sp:=λvs H Q _=>∃(u v:V) (f:Pp) (qs:List Pp) (g:Str) (hs:List Str) (ps:List (Str×Str)) (lks hds:List D),vs=[u,v]/\Rep H u (zbA g hs ps lks hds)/\TownOk g hs ps lks hds/\(∀d∈hds,zkl d=true)/\Rep H v (zbJ f qs)/\(∀p∈f::qs,PpOk hs ps p/\p.marks.length<=40)/\qs.length<=10/\∀H',Same H H'->Q (.bl (lrB g hs ps lks hds f qs)) H'
theorem zmh(Y:Ev K mg):Y.zbQ.O P w base 6 zjd:=by
 have G__law_tied:Y.zb2.O P w base 1 zia:=ziP Y
 have G__law_worth:Y.zbD.O P w base 5 zfc:=zhr Y
 have G__law_handed:Y.za3.O P w base 5 zct:=zf0 Y
 refine Y.zbQ.fn.okQ zV (λvs H Q E h=>?_) `j4
 ·obtain ⟨u,v,f,qs,g,hs,ps,lks,hds,rfl,_⟩:=h;rfl
 ·obtain ⟨u,v,f,qs,g,hs,ps,lks,hds,rfl,hu,T,hf12,hd,hP,lq,q⟩:=h
  obtain⟨p,pr,pt,pl,pa,vt,vl,va,rfl,hp,hpr,hpt,rt,hpl,rl,hpa,ra⟩:=zbL hu
  have hf:=(hP f Z0).1
  obtain⟨pd,xf,xq,rfl,hpd,rf,rq⟩:=hd.of2
  have rq0:=rq
  obtain⟨pf,y1,y2,y3,y4,y5,rfl,hpf,r1,r2,r3,r4,r5⟩:=ze6 rf
  obtain⟨pq,us,rfl,hpq,ru,_⟩:=rq.ofT
  cases r1 with|str _ _=>
  cases r2 with|str _ _=>
  have lu:=ru.1
  rw[B0] at lu
  refine⟨_,(zh (zdd (qv 1) (zbS 2 rfl (zo (zk 2 zV.nd) (zo (zk 3 zV.nd) zaB))))
   (zh (zI 4 zV.nd (zx zm (qv 2) ze))
   (zh (zak (zE zd4 (qv 4) zbR) (zi (zv (zaZ (zeP (zb8 hr)) (qv 3) (zM zd)))) zL)
   (zh (zak (t_w (zcO (zE zeT (zx zm (qv 4) ze) (zx zm (qv 2) ze)) (zcO (zE zeT (zx zm (qv 4) (zf6 zcd ze)) (zx zm (qv 0) ze)) (zcO (zE zeT (zn zJ Y.len zap (zb (qv 3) zd)) (zQ zdG (zn zJ Y.len zap (zb (qv 4) zd)) ze)) (zcZ (zE zjq (zn zmA Y.len zap (zb (zah (zmt rfl) Y.set zj9 (zb (qv 4) zd)) zd)) (zn zJ Y.len zap (zb (qv 4) zd)))))))) (zi (zv zbT)) zL)
   (zh (zI 5 zV.nd (zQ zcU (zM (zb (qv 2) zd)) (qv 3)))
   (zh (zI 6 zV.nd (zM zd))
   (zh (zbG J3 rfl (znX Y.range (zb (zQ zdG (zn zJ Y.len zap (zb (qv 4) zd)) ze) (zb (zf6 zcd ze) (zb (zf6 zcd ze) zd)))) (zk 7 zV.nd) (zh (zI 8 zV.nd (zx zm (zQ zcU (zM (zb (zx zm (qv 2) ze) zd)) (qv 4)) (qv 7)))
   (zh (zak (t_w (zcO (zE zcp (zx zm (qv 4) (qv 7)) (zx zm (qv 0) ze)) (zcO (zE (zb0 (zb8 hr)) (zdB zbc (zx zm (qv 5) (qv 7)) zba (zaW ze)) (zM (zb (zx zm (qv 4) (qv 7)) (zb (qv 8) zd)))) (zcZ (zE (zb0 (zb8 hr)) (zx zm (zx zm (qv 5) (qv 7)) ze) (zdB zbc (qv 4) (zaW (qv 7)) zba)))))) (zi (zv zbT)) zL)
   (zey (zak (t_w (zcO (t_w (ziX (zE zew (qv 7) ze) (zgP (zbp (za4 (zH Y.zb2 G__law_tied hr (zb (qv 0) (zb (zx zm (qv 4) (qv 7)) (zb (qv 8) zd))))))))) (zcZ (t_w (ziX (zE zjq (qv 7) (zQ zdG (zn zJ Y.len zap (zb (qv 4) zd)) ze)) (zgP (zE zd4 (zH Y.zbD G__law_worth hr (zb (qv 0) (zb (zdB zbc (qv 4) (zaW (qv 7)) zba) (zb (qv 6) zd)))) zbR))))))) (zi (zv zbT)) zL)
   (zh (zak (zE (zb0 (zb8 hr)) (zH Y.za3 G__law_handed hr (zb (qv 0) (zb (zdB zbc (qv 4) (zaW (qv 7)) zba) (zb (qv 6) (zb (qv 8) zd))))) (zx zm (zx zm (qv 5) (qv 7)) ze)) (zi (zv zbT)) zL)
   (zi (zI 6 zV.nd (zx zm (zx zm (qv 5) (qv 7)) ze))))))))
   (zi (zv zbT))))))))),?_⟩
  try dsimp only[zav]
  refine vr rfl (ex2 pd _ ⟨rfl, .inl (.inl hpd),rfl,ex2 _ _ ⟨rfl,ex2 _ _ ⟨rfl,rfl,?_⟩⟩⟩)
  refine vr rfl (ixT hpf (zG (j:=3) rfl) ?_)
  dsimp only[za5]
  refine zei λe e1=>?_
  refine vr rfl ⟨rfl,vr rfl ?_⟩
  rw[zcl r4]
  cases ew:f.way with
  |none=>
   refine zN (by rfl) (vr rfl ⟨few rfl,λpe hpe=>?_⟩)
   have Se:=Same.new (o:= .tup []) hpe
   have trq:=zd2 (rq0.same Se) (by rw[okD];exact zfH λd hd=>by obtain⟨p,hp,rfl⟩:=G1.mp hd;exact zeN T.names (hP p (N1 _ hp)).1)
   rw[pyD] at trq
   refine⟨_,_,trq,zlw zc,J1 (M3 _ _) znf,?_⟩
   rw[zi8]
   have q:=q _ Se
   unfold lrB at q
   rw[ew] at q
   have e:qs.isEmpty=decide (qs.map ppD=[]):=by cases qs<;>rfl
   have q:Q (.bl qs.isEmpty) _:=q
   rw[e] at q
   exact q
  |some w=>
  rw[ew] at r4
  obtain⟨pw,rfl,hpw⟩:=zaC r4
  obtain⟨w1,w10,wn⟩:=hf.way w ew
  have eR:lrB g hs ps lks hds f qs=(zjy g f qs w&&(List.range w.length).all (lrC hs ps lks hds f qs w)):=by unfold lrB;rw[ew]
  rw[eR] at q
  unfold zjy at q
  obtain⟨x,ws,rfl⟩:∃x ws,w=x::ws:=by
   match w,w1 with
   |x::ws,_=>exact ⟨x,ws,rfl⟩
  refine zO rfl (e1 _ _ (zei λe e2=>(vr rfl (ixT hpw at0 (vr rfl (ixT hpf at0 ⟨rfl,vr rfl ?_⟩))))))
  rw[zab]
  have eH:decide ((x::ws).headD ""=f.one)=decide (x=f.one):=rfl
  rw[eH] at q
  cases eh:decide (x=f.one)with
  |false=>
   have q:=q H (Same.refl H)
   rw[eh] at q
   exact zN rfl (zN rfl q)
  |true=>
  rw[eh] at q
  obtain⟨w0,z,ez⟩:∃w0 z,x::ws=w0 ++ [z]:=⟨(x::ws).dropLast,(x::ws).getLast `n3,(List.dropLast_concat_getLast _).symm⟩
  have hat:atI ((x::ws).map V.str) (-1)=some (.str z):=by rw[ez,J2];exact zgB _ _
  have eZ:decide ((x::ws).getLast?=some g)=decide (z=g):=by
   rw[ez,List.getLast?_append]
   simp
  rw[eZ] at q
  refine zO rfl (vr rfl ⟨1,rfl,ixT hpw hat (vr rfl (ixT hp at0 ⟨rfl,vr rfl ?_⟩))⟩)
  rw[zab]
  cases ezz:decide (z=g)with
  |false=>
   have q:=q H (Same.refl H)
   rw[ezz] at q
   exact zN rfl (zN rfl q)
  |true=>
  rw[ezz] at q
  refine zO rfl (vr rfl (.inl (ex2 pq _ ⟨rfl, .inr (.inl (.inl hpq)),vr rfl (.inl (ex2 pw _ ⟨rfl, .inr (.inl (.inl hpw)),ex2 _ _ ⟨rfl,rfl,rfl,vr rfl ?_⟩⟩))⟩)))
  have eL:decide (V.int (us.length:Int)=V.int ((((x::ws).map V.str).length:Int) -1))=decide (qs.length+1=(x::ws).length):=by
   rw[G2,P0,P0,V.int.injEq,B0]
   lia
  show(if(!decide (V.int (us.length:Int)=V.int ((((x::ws).map V.str).length:Int) -1)))=true then _ else _)
  rw[eL]
  cases el:decide (qs.length+1=(x::ws).length)with
  |false=>
   have q:=q H (Same.refl H)
   rw[el] at q
   exact zN rfl (zN rfl q)
  |true=>
  rw[el] at q
  have el':=R0 el
  refine zO rfl (vr rfl (ex2 pw (x::ws) ⟨rfl,hpw,(),λys hyn hym ps1 hps1=>?_⟩))
  have S1:=Same.new (o:=StO P w ps1 ys.length) hps1
  have ly:ys.length<=(x::ws).length:=nodup_len hyn λz hz=>(hym z).mp hz
  refine ex2 ps1 ys.length ⟨rfl,zc,(),vr rfl (.inl (ex2 pw _ ⟨rfl, .inr (.inl (.inl (S1 _ _ hpw))),ex2 _ _ ⟨rfl,rfl,vr rfl ?_⟩⟩))⟩
  rw[B0,zrz hyn hym]
  cases en:decide (x::ws).Nodup with
  |false=>
   have q:=q _ S1
   rw[en] at q
   exact zN rfl q
  |true=>
  rw[en] at q
  have q:∀H',Same H H'->Q (.bl ((List.range (x::ws).length).all (lrC hs ps lks hds f qs (x::ws)))) H':=q
  refine zO rfl (e2 _ _ ?_)
  have hpq1:=S1 _ _ hpq
  refine vr rfl ⟨few rfl,λq1 hq1=>?_⟩
  have S2:=Same.new (o:= .tup [V.ref pf]) hq1
  refine vr rfl (zcz (xs:=[V.ref pf]) (ys:=us) zc (S2 _ _ hpq1) (by show 1+_<=_;lia) λpt2 H2 hpt2 s2=>?_)
  have s02:=(S1.trans S2).trans s2
  have hpt2:H2 pt2=some (.tup (.ref pf::us)):=hpt2
  have rP:RepL H2 (.ref pf::us) ((f::qs).map ppD):= .cons (rf.same s02) (ru.mono (.of s02))
  dsimp only[za5]
  refine⟨few rfl,λp0 hp0=>?_⟩
  have S3:=Same.new (o:= .tup []) hp0
  have s03:=s02.trans S3
  have hp03:(upd H2 p0 (.tup [])) p0=some (.tup (([]:List Str).map V.str)):=zc
  have rP3:=rP.mono (.of S3)
  have hpt3:=S3 _ _ hpt2
  generalize (upd H2 p0 (HO.tup []))=H3 at *
  refine vr rfl (.inl (ex2 pw _ ⟨rfl, .inr (.inl (.inl (s03 _ _ hpw))),ex2 _ _ ⟨rfl,rfl,1,rfl,1,rfl,(x::ws).length,by rw[B0],(),?_⟩⟩))
  let I0:Nat->St->Hp->Prop:=λi σ' H'=>(∃pm ms o7 o8,σ'=[some (.ref p),some (.ref pd),some (.ref pf),some (.ref pq),some (.ref pw),some (.ref pt2),some (.ref pm),o7,o8]/\H' pm=some (.tup (ms.map V.str))/\(i<(x::ws).length->ms=(zaI qs).getD ((x::ws).length -1 -i) []))/\(∀k,(x::ws).length -i<=k->k<(x::ws).length->lrC hs ps lks hds f qs (x::ws) k=true)/\Same H3 H'
  refine zbi zk4 I0 ?_ (λ_ _ _ _=>trivial) ?_ ?_
  ·refine ⟨(ex4 p0 [] _ _ ⟨rfl,hp03,λ_=>?_⟩),λk h1 h2=>(),Same.refl _⟩
   have e:(x::ws).length -1 -0=(qs.map (·.marks)).length:=by rw[B0];lia
   rw[e]
   unfold zaI
   simp only[List.getD,Y2 (O0 _),Nat.sub_self]
   rfl
  ·rintro i y σ' H4 hi rfl ⟨⟨pm,ms,o7,o8,rfl,hpm,hms⟩,hC,s4⟩
   have hms:=hms hi
   obtain⟨k,hk⟩:∃k:Nat,k=(x::ws).length -1 -i:=⟨_,rfl⟩
   have ek:(((x::ws).length:Int) -1 -(i:Int))=(k:Int):=()
   rw[ek]
   rw[←hk] at hms
   have hkl:k<(x::ws).length:=()
   have hkq:k<(f::qs).length:=by rw[O1,el'];exact hkl
   have hku:k<(V.ref pf::us).length:=by rw[O1,lu,el'];exact hkl
   have s04:=s03.trans s4
   have hpw4:=s04 _ _ hpw
   have hpf4:=s04 _ _ hpf
   have hp4:=s04 _ _ hp
   have hpr4:=s04 _ _ hpr
   have hpt4:=s4 _ _ hpt3
   have hu4:=hu.same s04
   have hpk:(f::qs)[k]?=some ((f::qs).getD k f):=by simp only[List.getD,F0 hkq,Q3]
   have hpm0:=hP _ (U0 hpk)
   have rk:=(rP3.mono (.of s4)).2 k _ _ (F0 hku) (by rw[V0,hpk];rfl)
   have atk:atI (V.ref pf::us) (k:Int)=some (V.ref pf::us)[k]:=zG (F0 hku)
   generalize (V.ref pf::us)[k]=vk at *
   have eCk:lrC hs ps lks hds f qs (x::ws) k=(lr1 hs f (x::ws) ((f::qs).getD k f) k&&(lr2 hs ps lks f (x::ws) ms k&&lr3 hs hds f (x::ws) ((f::qs).getD k f) ms k)):=by unfold lrC;rw[←hms]
   have msn:(∀y∈ms,zg y=true)/\ms.length<=40:=by
    rw[hms]
    unfold zaI
    rcases R1 k qs.length with z|z
    ·have:((qs.map λp:Pp=>p.marks)++ [[]]).getD k []=qs[k].marks:=by
      simp only[List.getD]
      rw[A3 (by rw[B0];exact z),V0,F0 z];rfl
     rw[this]
     have:=hP qs[k] (N1 _ (List.getElem_mem z))
     exact⟨this.1.mnm,this.2⟩
    ·have:((qs.map λp:Pp=>p.marks)++ [[]]).getD k []=[]:=by
      simp only[List.getD]
      rw[Y2 (by rw[B0];exact z),show k -(qs.map λp:Pp=>p.marks).length=0 by rw[B0,O1] at *;lia];rfl
     rw[this]
     exact⟨(λ_ z=>nomatch z),K2 _⟩
   generalize (f::qs).getD k f=pk at *
   obtain⟨okk,m40⟩:=hpm0
   obtain⟨pp,z1,z2,z3,z4,z5,rfl,hpp,t1,t2,t3,t4,t5⟩:=ze6 rk
   cases t1 with|str _ _=>
   cases t2 with|str _ _=>
   obtain⟨p5,rfl,hp5⟩:=zaC t5
   have bad:lrC hs ps lks hds f qs (x::ws) k=false->∀H',Same H4 H'->Q (.bl false) H':=λe H' s'=>by
    have q:=q H' (s04.trans s')
    rw[show(List.range (x::ws).length).all (lrC hs ps lks hds f qs (x::ws))=false from List.all_eq_false.mpr ⟨k,U2.mpr hkl,by rw[e];decide⟩] at q
    exact q
   have hwhn:zg (zc5 f (x::ws) k)=true:=by
    unfold zc5
    cases k with
    |zero=>exact T.names _ hf.to
    |succ k=>
     refine wn _ ?_
     show(x::ws).getD k ""∈x::ws
     have:k<(x::ws).length:=()
     simp only[List.getD,F0 this,Q3]
     exact List.getElem_mem this
   refine vr rfl (ixT hpf4 at1 ⟨few rfl,λb1 hb1=>?_⟩)
   have B1:=Same.new (o:= .tup [V.str f.to]) hb1
   refine vr rfl (zcz (xs:=[V.str f.to]) (ys:=(x::ws).map V.str) zc (B1 _ _ hpw4) (by rw[B0];show 1+_<=_;lia) λb2 H5 hb2 s5=>?_)
   have s45:=B1.trans s5
   have hb2:H5 b2=some (.tup ((f.to::x::ws).map V.str)):=hb2
   have aw:=zej (w:=f.to::x::ws) (i:=k) (by simp only[O1] at hkl⊢;lia)
   have a0:=zej (w:=x::ws) (i:=k) hkl
   have eW:(f.to::x::ws).getD k ""=zc5 f (x::ws) k:=rfl
   rw[eW] at aw
   refine vr rfl (ixT hb2 aw ?_)
   dsimp only[za5]
   refine zei λe c1=>?_
   generalize ewh:zc5 f (x::ws) k=wh at *
   have hxk:(x::ws).getD k ""∈x::ws:=by
    simp only[List.getD,F0 hkl,Q3]
    exact List.getElem_mem hkl
   have nxk:=wn _ hxk
   generalize exk:(x::ws).getD k ""=xk at *
   have hpw5:=s45 _ _ hpw4
   have hp5':=s45 _ _ hp4
   have hpr5:=s45 _ _ hpr4
   have hpt5:=s45 _ _ hpt4
   refine⟨_,rfl,_,rfl,pw,_,_,_,rfl,rfl, .inl (.inl hpw5),a0,_,rfl,p,_,1,_,rfl,rfl, .inl (.inl hp5'),at1,pr,_,rfl, .inr (.inl (.inl hpr5)),rfl,zbX,_,rfl,?_⟩
   have hin:(if true=true then !inV (V.str xk) (hs.map V.str)else inV (V.str xk) (hs.map V.str))=!decide (xk∈hs):=by
    rw[E1 rfl,zdx]
    congr 1
    rw[G2,P0,List.any_eq_true]
    exact⟨λ⟨y,hy,e⟩=>by rw[←R0 e];exact hy,λh=>⟨_,h,N0 rfl⟩⟩
   rw[hin]
   cases e1:decide (xk∈hs)with
   |false=>exact zN rfl (zN rfl (bad (by rw[eCk];unfold lr1;rw[exk,e1];rfl) H5 s45))
   |true=>
   have hxh:xk∈hs:=R0 e1
   have hpp5:=s45 _ _ hpp
   have t45:=t4.same s45
   have ec:za9 [V.str pk.one,V.str pk.to,z3,z4,V.ref p5] none (some 2)=[pk.one,pk.to].map V.str:=zcF (n:=2)
   refine zO rfl (vr rfl (vr rfl (ixT hpt5 atk (vr rfl ?_))))
   refine zbn hpp5 λb3 H6 hb3 s6=>?_
   rw[ec] at hb3
   refine vr rfl (vr rfl (ixT (s6 _ _ hpw5) a0 (vr rfl ⟨few rfl,λb4 hb4=>?_⟩)))
   have B4:=Same.new (o:= .tup [V.str xk,V.str wh]) hb4
   refine⟨_,_,zaG (xs:=[pk.one,pk.to]) (B4 _ _ hb3) (λy hy=>?_),zaG (xs:=[xk,wh]) zc (λy hy=>?_),J1 (Nat.min_le_left _ _) zad,vr rfl ?_⟩
   ·simp only[K0,C3,or_false] at hy
    rcases hy with rfl|rfl
    ·exact zp (T.names _ okk.one)
    ·exact zp (T.names _ okk.to)
   ·simp only[K0,C3,or_false] at hy
    rcases hy with rfl|rfl
    ·exact zp nxk
    ·exact zp hwhn
   have eqv:decide ([pk.one,pk.to]=[xk,wh])=decide (pk.one=xk/\pk.to=wh):=by
    rw[G2,P0,P0]
    simp
   rw[zaT,eqv]
   have s57:=s6.trans B4
   have s47:=s45.trans s57
   generalize (upd H6 b4 (HO.tup [V.str xk,V.str wh]))=H7 at *
   cases e2:decide (pk.one=xk/\pk.to=wh)with
   |false=>exact zN rfl (zN rfl (bad (by rw[eCk];unfold lr1;rw[exk,ewh,e1,e2];rfl) H7 s47))
   |true=>
   have hpw7:=s57 _ _ hpw5
   have gd:za9 ((x::ws).map V.str) (some (k:Int)) none=((x::ws).drop k).map V.str:=by rw[zdh,List.map_drop]
   refine zO rfl (vr rfl (vr rfl (ixT (s57 _ _ hpt5) atk (ixT (s57 _ _ hpp5) (zG (j:=3) rfl) (vr rfl (vr rfl (vr rfl ?_)))))))
   dsimp only[zb4]
   refine zbn hpw7 λb5 H8 hb5 s8=>?_
   rw[gd] at hb5
   have s58:=s57.trans s8
   have s48:=s47.trans s8
   have t48:=t4.same s48
   have td:∀y∈(x::ws).drop k,PyData.strOk y=true:=λy hy=>zp (wn y (List.mem_of_mem_drop hy))
   have hpw8:=s8 _ _ hpw7
   have hpm8:=s48 _ _ hpm
   have hu8:=hu4.same s48
   obtain⟨wk,edk⟩:∃wk,(x::ws).drop k=xk::wk:=by
    rw[←exk];exact⟨_,zhK hkl⟩
   have wkn:∀y∈xk::wk,zg y=true:=λy hy=>wn y (List.mem_of_mem_drop (by rw[edk];exact hy))
   have lwk:wk.length<=9:=by
    have:=j3 List.length edk
    rw[D3,O1 (a:=xk)] at this
    lia
   obtain⟨j2,rs2,hj2,hlj2,er2⟩:=zoq T hxh
   obtain⟨j,rs,hj,hdj,er,hk',rs12⟩:=zqm T hf12 hxh
   cases e3:decide (pk.way=some ((x::ws).drop k))with
   |false=>
    have fl:lrC hs ps lks hds f qs (x::ws) k=false:=by
     rw[eCk]
     unfold lr1
     rw[e3,F3,F3];rfl
    cases ey:pk.way with
    |none=>
     rw[ey] at t48
     have ez:z4= .non:=by cases t48;rfl
     subst ez
     exact⟨_,_,Tr.non,zaG hb5 td,J1 (M3 _ _) zad,vr rfl (zN rfl (bad fl H8 s48))⟩
    |some w2=>
     rw[ey] at t48 e3
     obtain⟨b6,rfl,hb6⟩:=zaC t48
     refine⟨_,_,zaG hb6 (λy hy=>zp ((okk.way w2 ey).2.2 y hy)),zaG hb5 td,J1 (M3 _ _) zad,vr rfl ?_⟩
     have e5:decide (w2=(x::ws).drop k)=false:=by
      rw[←e3,G2,P0,P0,Option.some.injEq]
     rw[zaT,e5]
     exact zN rfl (bad fl H8 s48)
   |true=>
   have l1:lr1 hs f (x::ws) pk k=true:=by
    unfold lr1
    rw[exk,ewh,e1,e2,e3];rfl
   have ey:pk.way=some ((x::ws).drop k):=R0 e3
   rw[ey] at t48
   obtain⟨b6,rfl,hb6⟩:=zaC t48
   refine⟨_,_,zaG hb6 td,zaG hb5 td,J1 (M3 _ _) zad,vr rfl ?_⟩
   rw[zaT,N0 rfl]
   refine zO rfl (c1 _ _ ?_)
   refine⟨λσ' H9=>σ'=[some (.ref p),some (.ref pd),some (.ref pf),some (.ref pq),some (.ref pw),some (.ref pt2),some (.ref pm),some (.int (k:Int)),some (.str wh)]/\Same H8 H9/\lr2 hs ps lks f (x::ws) ms k=true,?_,?_⟩
   ·refine vr rfl (ex2 _ _ ⟨rfl,rfl,vr rfl ?_⟩)
    by_cases hk0:0<k
    ·refine zN (N0 ()) (vr rfl (vr rfl (vr rfl (ixT hpw8 a0 (vr rfl (ex8 (.ref p) xk wh g hs ps lks hds ⟨rfl,hu8,T,nxk,hwhn,λHT sHH=>(vr rfl ?_)⟩))))))
     cases et:decide (wh∈zaR ps xk)with
     |false=>
      refine zN rfl (zN rfl (bad ?_ HT (s48.trans sHH)))
      rw[eCk]
      unfold lr2
      rw[N0 hk0,exk,ewh,et]
      cases lr1 hs f (x::ws) pk k<;>rfl
     |true=>
     have fst:(!(decide (0<k)&&!decide (zc5 f (x::ws) k∈zaR ps ((x::ws).getD k ""))))=true:=by rw[ewh,exk,et,Bool.not_true,F3];rfl
     refine zO rfl ?_
     refine vr rfl (vr rfl (.inl (ex2 pw _ ⟨rfl, .inr (.inl (.inl (sHH _ _ hpw8))),ex2 _ _ ⟨rfl,rfl,ex2 _ _ ⟨rfl,rfl,vr rfl ?_⟩⟩⟩)))
     rw[B0]
     by_cases hl1:k+1<(x::ws).length
     ·refine zN (N0 ()) (vr rfl (vr rfl (vr rfl (vr rfl ?_))))
      dsimp only[zb4]
      refine zbn (sHH _ _ hpw8) λb3 HB hb3 sB=>?_
      rw[gd,edk] at hb3
      refine vr rfl (ex8 (.ref p) b3 pm xk wk ms g hs (ex4 ps lks hds j2 ⟨rs2,rfl,(hu8.same sHH).same sB,T,hj2,hlj2,hb3,sB _ _ (sHH _ _ hpm8),wkn,msn.1,(),J1 msn.2 ⋯,λv2 HC rv sC=>⟨rfl,vr rfl ?_⟩⟩))
      rw[zcl rv]
      cases eb:zat (zY (xk::wk) ms rs2)with
      |true=>
       refine zN rfl (bad ?_ HC (((s48.trans sHH).trans sB).trans sC))
       rw[eCk]
       unfold lr2
       rw[N0 hl1,exk,er2,edk,eb,Bool.and_true,Bool.not_true,F3,Bool.false_and,F3]
      |false=>
       refine zO ⋯ ⟨rfl,(sHH.trans sB).trans sC,?_⟩
       unfold lr2
       rw[fst,Bool.true_and,exk,er2,edk,eb,F3];rfl
     ·refine zO (by rw[A1 ()]) (zO ⋯ ⟨rfl,sHH,?_⟩)
      unfold lr2
      rw[fst,Bool.true_and,A1 hl1];rfl
    ·have fst:(!(decide (0<k)&&!decide (zc5 f (x::ws) k∈zaR ps ((x::ws).getD k ""))))=true:=by rw[A1 hk0];rfl
     have sHH:=Same.refl H8
     refine zO (by rw[A1 ()]) (zO ⋯ ?_)
     refine vr rfl (vr rfl (.inl (ex2 pw _ ⟨rfl, .inr (.inl (.inl (sHH _ _ hpw8))),ex2 _ _ ⟨rfl,rfl,ex2 _ _ ⟨rfl,rfl,vr rfl ?_⟩⟩⟩)))
     rw[B0]
     by_cases hl1:k+1<(x::ws).length
     ·refine zN (N0 ()) (vr rfl (vr rfl (vr rfl (vr rfl ?_))))
      dsimp only[zb4]
      refine zbn (sHH _ _ hpw8) λb3 HB hb3 sB=>?_
      rw[gd,edk] at hb3
      refine vr rfl (ex8 (.ref p) b3 pm xk wk ms g hs (ex4 ps lks hds j2 ⟨rs2,rfl,(hu8.same sHH).same sB,T,hj2,hlj2,hb3,sB _ _ (sHH _ _ hpm8),wkn,msn.1,(),J1 msn.2 ⋯,λv2 HC rv sC=>⟨rfl,vr rfl ?_⟩⟩))
      rw[zcl rv]
      cases eb:zat (zY (xk::wk) ms rs2)with
      |true=>
       refine zN rfl (bad ?_ HC (((s48.trans sHH).trans sB).trans sC))
       rw[eCk]
       unfold lr2
       rw[N0 hl1,exk,er2,edk,eb,Bool.and_true,Bool.not_true,F3,Bool.false_and,F3]
      |false=>
       refine zO ⋯ ⟨rfl,(sHH.trans sB).trans sC,?_⟩
       unfold lr2
       rw[fst,Bool.true_and,exk,er2,edk,eb,F3];rfl
     ·refine zO (by rw[A1 ()]) (zO ⋯ ⟨rfl,sHH,?_⟩)
      unfold lr2
      rw[fst,Bool.true_and,A1 hl1];rfl
   rintro σ' H9 ⟨rfl,s9,l2⟩
   have s49:=s48.trans s9
   refine zei λe c2=>(vr rfl (vr rfl (vr rfl (vr rfl ?_))))
   dsimp only[zb4]
   refine zbn (s9 _ _ hpw8) λb7 HB hb7 sB=>?_
   rw[gd,edk] at hb7
   have s4B:=s49.trans sB
   refine vr rfl (vr rfl (ex8 (.ref p) b7 pm (.str wh) xk wk ms (some wh) (ex8 g hs ps lks hds j rs (Mn 40) ⟨rfl,hu4.same s4B,T,hj,hdj,hk',zom hk' (),⟨msn.1,msn.2⟩,hb7,s4B _ _ hpm, .inr (vr rfl ⟨rfl,hwhn⟩),wkn,(),λv2 HC tv sC=>?_⟩)))
   have s4C:=s4B.trans sC
   have el3:lr3 hs hds f (x::ws) pk ms k=decide (zD (xk::wk) (some wh) rs ms=some pk.marks):=by
    unfold lr3
    rw[ewh,exk,er,edk]
   refine vr rfl (vr rfl (ixT (s4C _ _ hpt4) atk (ixT (s4C _ _ hpp) (zG (j:=4) rfl) ?_)))
   have hp5C:=s4C _ _ hp5
   have fin:lr3 hs hds f (x::ws) pk ms k=true->∀k',(x::ws).length -(i+1)<=k'->k'<(x::ws).length->lrC hs ps lks hds f qs (x::ws) k'=true:=λl3 k' h1 h2=>by
    by_cases e:k'=k
    ·rw[e,eCk,l1,l2,l3];rfl
    ·exact hC k' () h2
   have nxt:i+1<(x::ws).length->pk.marks=(zaI qs).getD ((x::ws).length -1 -(i+1)) []:=λh=>by
    have ek1:(x::ws).length -1 -(i+1)=k -1:=()
    rw[ek1]
    obtain⟨k0,rfl⟩:∃k0,k=k0+1:=⟨k -1,()⟩
    have hq0:k0<qs.length:=()
    have e6:qs[k0]?=some pk:=by rw[List.getElem?_cons_succ] at hpk;exact hpk
    show pk.marks=(zaI qs).getD k0 []
    unfold zaI
    simp only[List.getD]
    rw[A3 (by rw[B0];exact hq0),V0,e6];rfl
   cases eh:zD (xk::wk) (some wh) rs ms with
   |none=>
    rw[eh] at tv el3
    cases(show v2= .non from tv)
    refine⟨_,_,Tr.non,zaG (xs:=pk.marks) hp5C (λy hy=>zp (okk.mnm y hy)),J1 (M3 _ _) zad,vr rfl (zN rfl (bad ?_ HC s4C))⟩
    rw[eCk,el3,show decide ((none:Option (List Str))=some pk.marks)=false from rfl,F3,F3]
   |some t=>
    rw[eh] at tv el3
    obtain⟨b8,rfl,hb8⟩:=tv
    have hm:∀y∈t,zg y=true:=zcm hk'.2 msn.1 eh
    refine⟨_,_,zaG (xs:=t) hb8 (λy hy=>zp (hm y hy)),zaG (xs:=pk.marks) hp5C (λy hy=>zp (okk.mnm y hy)),J1 (M3 _ _) zad,vr rfl ?_⟩
    have eb:decide (some t=some pk.marks)=decide (t=pk.marks):=by rw[G2,P0,P0,Option.some.injEq]
    rw[eb] at el3
    rw[zaT]
    cases e9:decide (t=pk.marks)with
    |false=>
     refine zN rfl (bad ?_ HC s4C)
     rw[eCk,el3,e9,F3,F3]
    |true=>
     refine zO rfl (c2 _ _ (vr rfl (vr rfl (ixT (s4C _ _ hpt4) atk (ixT (s4C _ _ hpp) (zG (j:=4) rfl) ⟨(ex4 p5 pk.marks _ _ ⟨rfl,hp5C,nxt⟩),fin (by rw[el3,e9]),s4.trans s4C⟩)))))
  ·rintro σ' H4 ⟨⟨pm,ms,o7,o8,rfl,hpm,_⟩,hC,s4⟩
   have q:=q H4 (s03.trans s4)
   rw[show(List.range (x::ws).length).all (lrC hs ps lks hds f qs (x::ws))=true from V1.mpr λk hk=>hC k () (U2.mp hk)] at q
   exact q
def PpK(hs:List Str)(ps:List (Str×Str))(p:Pp):Prop:=PpOk hs ps p/\p.marks.length<=40
structure LsOk(g:Str)(hs:List Str)(ps:List (Str×Str))(lks hds:List D)(H:Hp)(u:V)(l:Addr)(us:List V)(L:List (Pp×List Pp)):Prop where
 town:Rep H u (zbA g hs ps lks hds)
 ok:TownOk g hs ps lks hds
 hf:∀d∈hds,zkl d=true
 at_:H l=some (.lst us)
 rep:RepL H us (L.map λz=>zbJ z.1 z.2)
 pp:∀z∈L,(∀p∈z.1::z.2,PpK hs ps p)/\z.2.length<=10
 few:L.length<=30
theorem LsOk.one{u:V}{us:List V}{L:List (Pp×List Pp)}(h:LsOk g hs ps lks hds H u l us L):∀z∈L,∀p∈z.1::z.2,p.one∈hs:=λz hz p hp=>((h.pp z hz).1 p hp).1.one
noncomputable def zgc:Sp:=λvs H Q _=>∃(u:V) (l:Addr) (us:List V) (L:List (Pp×List Pp)) (g:Str) (hs:List Str) (ps:List (Str×Str)) (lks hds:List D),vs=[u, .ref l]/\LsOk g hs ps lks hds H u l us L/\
 ∀(l':Addr) (H':Hp),NList H' l' (KL hs) (NK (zae g hs ps lks hds) L)->H l'=none->Same H H'->Q (.ref l') H'
def Nm(P:Program)(w:World)(R:Pp->List Pp->Bool)(hs:List Str)(H H':Hp)(pf pk:Addr)(La:List (Pp×List Pp))(S:List Pp):Prop:=
 Fnd P w (KL hs) H' pf (λk=>zbx R La k\/TwinK S k)/\(∃kvs,H' pk=some (.dT kvs)/\Known H' kvs S/\kvs.length<=S.length)/\Same H H'
theorem zm1(Y:Ev K mg):Y.zeR.O P w base 8 zgc:=by
 have G_is_right:Y.zer.O P w base 7 zla:=zjO Y
 refine Y.zeR.fn.okQ zdC (λvs H Q E h=>?_) `j4
 ·obtain ⟨u,l,us,L,g,hs,ps,lks,hds,rfl,_⟩:=h;rfl
 ·obtain ⟨u,l,us,L,g,hs,ps,lks,hds,rfl,O,q⟩:=h
  have T:=O.ok
  have T10:=T.ten
  have lr:=O.rep.1
  rw[B0] at lr
  have kl60:(KL hs).length<=60:=by rw[ziB];lia
  have kl0:∀k∈KL hs,k≠ []:=λk hk=>(zk2 T.names hk).1
  refine⟨_,(zh (zI 2 zdC.nd (zmj zmo Y.set zj9))
   (zh (zI 3 zdC.nd zlB)
   (zh (zbG J3 rfl (zdT (qv 1)) (zbS 2 rfl (zo (zk 4 zdC.nd) (zo (zk 5 zdC.nd) zaB))) (zey (zak (zbp (za4 (zH Y.zer G_is_right hr (zb (qv 0) (zb (zM (zb (qv 4) (zb (qv 5) zd))) zd))))) (zi (zcB (zqL F.slot_set_add F.type_set_add (zn6 (hu8 (zb8 hr))) (qv 2) (zb (zM (zb (zx zm (qv 4) ze) (zb zar zd))) zd)))) zL)
   (zi (zbG J3 rfl (zbM (zQ zcU (zM (zb (qv 4) zd)) (qv 5))) (zk 6 zdC.nd) (zi (zak (zE (zb0 (zb8 hr)) (zf3 F.plainAttrs_dict F.slot_dict_setdefault F.type_dict_setdefault (zmI (hu8 (zb8 hr))) (qv 3) (zb (zdB zbc (qv 6) zba (zaW ze)) (zb (qv 6) zd))) (qv 6)) (zi (zcB (zqL F.slot_set_add F.type_set_add (zn6 (hu8 (zb8 hr))) (qv 2) (zb (zM (zb (zx zm (qv 6) ze) (zb zar zd))) zd)))) zL))))))
   (zi (zv (zn (zeu rfl) Y.sorted zbB (zb (qv 2) zd))))))),?_⟩
  try dsimp only[zav]
  refine⟨rfl,λpf hpf=>?_⟩
  refine λpk hpk=>?_
  have S1:=Same.new (o:=StT P w pf []) hpf
  have S2:=Same.new (o:= .dT []) hpk
  have hk0:=zbI S1 hpk
  have nkf:pk≠pf:=λz=>by rw[z,zc] at hpk;cases hpk
  refine vr rfl ⟨l,rfl,⟨_,SqL.of (S2 _ _ (S1 _ _ O.at_))⟩,?_⟩
  let I0:Nat->St->Hp->Prop:=λi σ' H'=>(∃o4 o5 o6,σ'=[some u,some (.ref l),some (.ref pf),some (.ref pk),o4,o5,o6])/\Nm P w (zae g hs ps lks hds) hs H H' pf pk (L.take i) (zbo (L.take i))
  refine zbi (zcW (K:=K) (xs:=us)) I0 ?_ (λi σ' H' z=>SqL.of (z.2.2.2 _ _ O.at_)) ?_ ?_
  ·refine ⟨(ex3 _ _ _ rfl),⟨[],S2 _ _ zc, .nil,(λy hy=>nomatch hy),λk=>⟨(λz=>nomatch z),λz=>?_⟩,λk z=>?_⟩,⟨[],zc,⟨(λp hp=>nomatch hp),(λk v z=>nomatch z)⟩,O0 _⟩,S1.trans S2⟩
   ·rcases z with⟨_,z,_⟩|⟨_,z,_⟩<;>cases z
   ·rcases z with⟨_,z,_⟩|⟨_,z,_⟩<;>cases z
  ·rintro i y σ' H1 hi hy ⟨⟨o4,o5,o6,rfl⟩,F1,⟨kvs,ek,kn,lk⟩,s1⟩
   obtain⟨d,hd,rd⟩:=O.rep.get hy
   rw[V0] at hd
   cases eL:L[i]? with
   |none=>rw[eL] at hd;cases hd
   |some z=>
   rw[eL] at hd
   obtain⟨f,qs⟩:=z
   cases hd
   have hP:∀p∈f::qs,PpK hs ps p:=(O.pp _ (U0 eL)).1
   have lq:qs.length<=10:=(O.pp _ (U0 eL)).2
   have rd:Rep H y (zbJ f qs):=rd
   obtain⟨pd,xf,xq,rfl,hpd,rf,rq⟩:=rd.of2
   have rf0:=rf
   obtain⟨pp,y1,y2,y3,y4,y5,rfl,hpp,r1,r2,r3,r4,r5⟩:=ze6 rf
   obtain⟨pq,uq,rfl,hpq,ru,_⟩:=rq.ofT
   cases r1 with|str _ _=>
   have lu:=ru.1
   rw[B0] at lu
   refine ex2 pd _ ⟨rfl, .inl (.inl (s1 _ _ hpd)),rfl,ex2 _ _ ⟨rfl,ex2 _ _ ⟨rfl,rfl,?_⟩⟩⟩
   have hi30:i<=30:=by have:=O.few;lia
   have e1:=λk=>zfY (R:=zae g hs ps lks hds) (k:=k) eL
   have e2:=zjF eL
   let I1:St->Hp->Prop:=λσ' H'=>(∃o6,σ'=[some u,some (.ref l),some (.ref pf),some (.ref pk),some (.ref pp),some (.ref pq),o6])/\Nm P w (zae g hs ps lks hds) hs H H' pf pk (L.take (i+1)) (zbo (L.take i))
   refine⟨I1,?_,?_⟩
   ·refine vr rfl (vr rfl (vr rfl ⟨few rfl,λpn hpn=>?_⟩))
    have S3:=Same.new (o:= .tup [V.ref pp,V.ref pq]) hpn
    have s3:=s1.trans S3
    refine⟨u,_,zbJ f qs,ex4 g hs ps lks ⟨hds,rfl,O.town.same s3,T,O.hf, .mk2 zc (rf0.same s3) (.mkL (s3 _ _ hpq) (by rw[B0];lia) (ru.mono (.of s3))),λf2 qs2 e p hp=>?_,λb H2 h1 h2 s4=>(vr rfl ?_)⟩⟩
    ·obtain ⟨rfl,rfl⟩:=ziT e
     exact(hP p hp).2
    have hsl:=zlZ (hs:=hs) (ps:=ps) T.names (hP f Z0).1 (λp hp=>(hP p (N1 _ hp)).1) lq
    have hb:=h2 f qs rfl hsl
    subst hb
    have s34:=S3.trans s4
    have F2:=F1.mono (F':=λk=>zbx (zae g hs ps lks hds) (L.take i) k\/TwinK (zbo (L.take i)) k) (.of s34) (by obtain⟨_,z,_⟩:=F1;rw[z];exact s34 _ _ z) λ_=> .rfl
    have ek2:=s34 _ _ ek
    have kn2:=kn.mono (.of s34)
    cases eb:zae g hs ps lks hds f qs with
    |true=>
     refine zO rfl ⟨⟨_,rfl⟩,F2.mono (.refl _) rfl λk=>?_,⟨kvs,ek2,kn2,lk⟩,s1.trans s34⟩
     rw[e1]
     simp only[eb,Bool.true_eq_false,false_and,or_false]
    |false=>
     obtain⟨ys,hys,_⟩:=id F2
     refine zN rfl (vr rfl ⟨(ex2 pf ys ⟨rfl,hys⟩),vr rfl (ixT (s34 _ _ (s1 _ _ hpp)) at0 ⟨few rfl,λpt hpt=>?_⟩)⟩)
     have S5:=Same.new (o:= .tup [V.str f.one,V.str "false"]) hpt
     dsimp only[zhX]
     refine zlq (k:=[f.one,"false"]) (F2.mono (F':=λk=>zbx (zae g hs ps lks hds) (L.take i) k\/TwinK (zbo (L.take i)) k) (.of S5) (by rw[hys];exact S5 _ _ hys) λ_=> .rfl) zc kl0 (zrl (hP f Z0).1.one) kl60 λH6 F6 n6 m6=>?_
     refine⟨⟨_,rfl⟩,F6.mono (.refl _) rfl λk=>?_,⟨kvs,by rw[n6 pk nkf];exact S5 _ _ ek2,(kn2.mono (.of S5)).mono m6,lk⟩,λc o e=>?_⟩
     ·rw[e1]
      simp only[eb,true_and]
      exact⟨λz=>z.elim (λz=>z.imp .inl id) λz=> .inl (.inr z),λz=>z.elim (λz=>z.imp .inl id) λz=> .inl (.inr z)⟩
     ·rw[n6 c (zr e hpf)]
      exact S5 _ _ (s34 _ _ (s1 _ _ e))
   rintro σ' H2 ⟨⟨o6',rfl⟩,F2,⟨kvs2,ek2,kn2,lk2⟩,s2⟩
   refine vr rfl ⟨few rfl,λq1 hq1=>?_⟩
   have S3:=Same.new (o:= .tup [V.ref pp]) hq1
   have s3:=s2.trans S3
   refine vr rfl (zcz (xs:=[V.ref pp]) (ys:=uq) zc (s3 _ _ hpq) (by show 1+_<=_;lia) λpt H4 hpt s4=>?_)
   have s24:=S3.trans s4
   have s04:=s2.trans s24
   have hpt:H4 pt=some (.tup (.ref pp::uq)):=hpt
   have rP:RepL H (.ref pp::uq) ((f::qs).map ppD):= .cons rf0 ru
   have npf:pt≠pf:=λz=>by obtain⟨ys,e,_⟩:=F2;have:=s24 _ _ e;rw[←z,hpt] at this;unfold StT at this;cases this
   have npk:pt≠pk:=λz=>by have:=s24 _ _ ek2;rw[←z,hpt] at this;cases this
   refine⟨pt,rfl,⟨_, .inl (.inl hpt)⟩,?_⟩
   refine zbi (za1 (K:=K) (xs:= .ref pp::uq)) (λj σ' H'=>(∃o6,σ'=[some u,some (.ref l),some (.ref pf),some (.ref pk),some (.ref pp),some (.ref pq),o6])/\H' pt=some (.tup (.ref pp::uq))/\Nm P w (zae g hs ps lks hds) hs H H' pf pk (L.take (i+1)) (zbo (L.take i)++(f::qs).take j)) ?_ (λj σ' H' z=> .inl (.inl z.2.1)) ?_ ?_
   ·refine ⟨⟨_,rfl⟩,hpt,?_⟩
    rw[List.take_zero,List.append_nil]
    exact⟨F2.mono (.of s24) (by obtain⟨_,z,_⟩:=F2;rw[z];exact s24 _ _ z) λ_=> .rfl,⟨kvs2,s24 _ _ ek2,kn2.mono (.of s24),lk2⟩,s04⟩
   ·rintro j x σ' H5 hj hx ⟨⟨o7,rfl⟩,hpt5,F5,⟨kvs5,ek5,kn5,lk5⟩,s5⟩
    obtain⟨d,hd,rx⟩:=rP.get hx
    rw[V0] at hd
    cases eP:(f::qs)[j]? with
    |none=>rw[eP] at hd;cases hd
    |some p=>
    rw[eP] at hd
    cases hd
    have hp:=(hP p (U0 eP)).1
    have okp:=zeN T.names hp
    have rx5:=rx.same s5
    have eS:zbo (L.take i)++(f::qs).take (j+1)=(zbo (L.take i)++(f::qs).take j)++ [p]:=by rw[O3,eP,List.append_assoc];rfl
    rw[eS]
    have lS:(zbo (L.take i)++(f::qs).take j).length<=600:=by
     have h1:=zh0 (L:=L.take i) λz hz=>(O.pp z (List.mem_of_mem_take hz)).2
     have h2:=O.few
     rw[W0,N2,O1]
     rw[N2] at h1
     lia
    have hS:∀p∈zbo (L.take i)++(f::qs).take j,PpOk hs ps p:=λp hp=>by
     rcases X1.mp hp with hp|hp
     ·obtain ⟨z,hz,hp⟩:=zfi.mp hp
      exact((O.pp z (List.mem_of_mem_take hz)).1 p hp).1
     ·exact (hP p (List.mem_of_mem_take hp)).1
    generalize zbo (L.take i)++(f::qs).take j=S at *
    obtain⟨px,z1,z2,z3,z4,z5,rfl,hpx,t1,t2,t3,t4,t5⟩:=ze6 rx5
    cases t1 with|str _ _=>
    cases t2 with|str _ _=>
    cases t3 with|int _=>
    have ec:za9 [V.str p.one,V.str p.to,V.int p.nr,z4,z5] none (some 3)=(kyP p).map kV:=zcF (n:=3)
    refine vr rfl ⟨.inr (.inr (.inl ⟨rfl, .inr ⟨_,ek5⟩⟩)),vr rfl ⟨3,rfl,?_⟩⟩
    refine zbn hpx λb6 H6 hb6 s6=>?_
    rw[ec] at hb6
    have rx6:=rx5.same s6
    have ek6:=s6 _ _ ek5
    have kn6:=kn5.mono (.of s6)
    have F6:=F5.mono (F':=λk=>zbx (zae g hs ps lks hds) (L.take (i+1)) k\/TwinK S k) (.of s6) (by obtain⟨_,z,_⟩:=F5;rw[z];exact s6 _ _ z) λ_=> .rfl
    refine vr rfl ⟨pk,b6,kvs5,kyP p,vr rfl ⟨rfl,ek6,hb6,(),λv0 e0=>?_,λe0=>?_⟩⟩
    ·obtain ⟨p0,hp0,k0,rv0⟩:=kn6.2 _ _ e0
     have okp0:=zeN T.names (hS p0 hp0)
     refine vr rfl ⟨_,_,zd2 rv0 okp0,zd2 rx6 okp,J1 (Nat.min_le_left _ _) zkE,vr rfl ?_⟩
     have kn7:Known H6 kvs5 (S ++ [p]):=kn6.old (by rw[←k0];exact kn6.1 p0 hp0)
     have lk7:kvs5.length<=(S ++ [p]).length:=by rw[W0];lia
     cases ee:(pyD (ppD p0)).eqv (pyD (ppD p))with
     |true=>
      have:=zih.mp ee
      subst this
      refine zO rfl ⟨⟨_,rfl⟩,s6 _ _ hpt5,F6.mono (.refl _) rfl λk=>by rw[TwinK.snocO hp0],⟨kvs5,ek6,kn7,lk7⟩,s5.trans s6⟩
     |false=>
      have hne:p0≠p:=λz=>by rw[zih.mpr z] at ee;cases ee
      obtain⟨ys,hys,_⟩:=id F6
      refine zN rfl (vr rfl ⟨(ex2 pf ys ⟨rfl,hys⟩),vr rfl (ixT (s6 _ _ hpx) at0 ⟨few rfl,λpt7 hpt7=>?_⟩)⟩)
      have S7:=Same.new (o:= .tup [V.str p.one,V.str "twin"]) hpt7
      dsimp only[zhX]
      refine zlq (k:=[p.one,"twin"]) (F6.mono (F':=λk=>zbx (zae g hs ps lks hds) (L.take (i+1)) k\/TwinK S k) (.of S7) (by rw[hys];exact S7 _ _ hys) λ_=> .rfl) zc kl0 (zra hp.one) kl60 λH8 F8 n8 m8=>?_
      refine⟨⟨_,rfl⟩,by rw[n8 pt npf];exact S7 _ _ (s6 _ _ hpt5),F8.mono (.refl _) rfl λk=>by rw[TwinK.snocT hp0 k0 hne,or_assoc],⟨kvs5,by rw[n8 pk nkf];exact S7 _ _ ek6,(kn7.mono (.of S7)).mono m8,lk7⟩,λc o e=>?_⟩
      rw[n8 c (zr e hpf)]
      exact S7 _ _ (s6 _ _ (s5 _ _ e))
    ·have M7:Mono H6 (upd H6 pk (.dT (zcN kvs5 (kyP p) (V.ref px)))):= .put ek6 (λxs=>⟨(λz=>nomatch z),(λz=>nomatch z)⟩) (λxs z=>nomatch z)
     have rx7:=rx6.mono M7
     refine vr rfl ⟨_,_,zd2 rx7 okp,zd2 rx7 okp,J1 (Nat.min_le_left _ _) zkE,vr rfl (zO (by rw[zih.mpr rfl];rfl) ?_)⟩
     have hN:∀q∈S,kyP q≠kyP p:=λq hq z=>kn6.1 q hq (by rw[z];exact e0)
     refine⟨⟨_,rfl⟩,by rw[zj npk];exact s6 _ _ hpt5,F6.mono M7 (zj nkf.symm) λk=>by rw[TwinK.snocN hN],⟨_,zc,(kn6.mono M7).new rx7,by rw[W0];exact J1 (zc4 _ _ _) (Nat.succ_le_succ lk5)⟩,λc o e=>?_⟩
     rw[zj (zr e hk0)]
     exact s6 _ _ (s5 _ _ e)
   ·rintro σ' H5 ⟨⟨o7,rfl⟩,hpt5,N5⟩
    have lP:=rP.1
    rw[B0] at lP
    rw[lP,X3,←e2] at N5
    exact⟨(ex3 _ _ _ rfl),N5⟩
  ·rintro σ' H1 ⟨⟨o4,o5,o6,rfl⟩,⟨ys,h1,h2,h3,h4,h5⟩,_,s1⟩
   rw[lr,X3] at h4 h5
   have ly:=Fnd.few (P:=P) (w:=w) h2 h4 h5
   refine vr rfl (ex2 pf ys ⟨rfl,h1,λy hy=>⟨h3 y hy,?_⟩,(),λks vs' l' pm pw tu hl'=>?_⟩)
   ·have:=zjE (h5 _ ((h4 y.1).mp (G1.mpr ⟨y,hy,rfl⟩)))
    lia
   have hks:∀k,k∈ks↔NK (zae g hs ps lks hds) L k:=λk=>pm.mem_iff.trans (h4 k)
   have S9:=Same.new (o:= .lst vs') hl'
   refine q l' _ ⟨vs',ks,zc,(zjP tu λk hk=>?_).mono (.of S9),pw,hks,?_⟩ (zbI s1 hl') (s1.trans S9)
   ·have hk:=h5 k ((hks k).mp hk)
    exact⟨by rw[zjE hk];decide,λx hx=>zy ((zk2 T.names hk).2 x hx)⟩
   ·rw[pm.length_eq,B0];exact ly
theorem zsz(h:zof ta σ H ds)(hl:ds.length<=900)(q:∀vs H2 l,Same H H2->RepL H2 vs ds->H2 l=none->De.nx (σ.set k (some (.ref l))) (upd H2 l (.lst vs))):zi2 (zr4 ta) (za5 k) De σ H:=
 h H _ (Same.refl H) λvs H2 s2 r2=>⟨Z2 (zl (by rw[r2.1];lia)),λl hl=>q vs H2 l s2 r2 hl⟩
theorem zsE{Q:List V->Hp->Prop}(h:Dsp te σ H d)(q:∀v H2,Same H H2->Rep H2 v d->Q [v] H2):zfN te zhX σ H Q:=h H _ (Same.refl H) q
theorem zhL(k:Keep a H H')(n:l≠a)(h:H' l=none):H l=none:=by
 cases e:H l with
 |none=>rfl
 |some o=>exact absurd (k l o n e) (by rw[h];exact λz=>nomatch z)
theorem zo8{to:Str}{w:List Str}{P:List Pp}(c:Ch hs lks hds to w P):∀p∈P,∃w,p.way=some w:=by
 induction c with
 |one h1 h2=>exact λp hp=>by rw[c0.mp hp];exact⟨_,rfl⟩
 |more h h0 h1 h2 ih=>exact λp hp=>(K0.mp hp).elim (λe=>by rw[e];exact⟨_,rfl⟩) (ih p)
noncomputable abbrev slD(z:Pp×List Pp):D:=zbJ z.1 z.2
def LtK(hs:List Str)(ps:List (Str×Str))(z:Pp×List Pp):Prop:=(∀p∈z.1::z.2,PpK hs ps p)/\z.2.length<=10
theorem zgF{f:Pp}{qs:List Pp}(hf:PpK hs ps f)(hq:∀p∈qs,PpK hs ps p)(l:qs.length<=10):LtK hs ps (f,qs):=⟨λp hp=>(K0.mp hp).elim (λe=>by rw[e];exact hf) (hq p),l⟩
def LLs(hs:List Str)(ps:List (Str×Str))(H:Hp)(l:Addr)(c:Nat):Prop:=∃(us:List V) (L:List (Pp×List Pp)),H l=some (.lst us)/\RepL H us (L.map slD)/\(∀z∈L,LtK hs ps z)/\L.length<=c
noncomputable def zhI:Sp:=λvs H Q _=>∃(a:Addr) (n:Int) (u:V) (g:Str) (hs:List Str) (ps:List (Str×Str)) (lks hds:List D) (O:List Str),vs=[.ref a,u]/\Hand H a n/\n<2^36/\Rep H u (zbA g hs ps lks hds)/\TownOk g hs ps lks hds/\Pool hs lks hds O/\
 ∀(l:Addr) (H':Hp),H l=none->LLs hs ps H' l 24->Hand H' a (n+400)->Keep a H H'->Q (.ref l) H'
theorem zkW(Y:Ev K mg):Y.zb6.O P w base 7 zhI:=by
 have G__law_take:Y.zt.O P w base 1 zea:=zdw Y
 have G__law_pick:Y.zz.O P w base 2 (zcf K):=zdF Y
 have G__law_some_way:Y.zbP.O P w base 3 zg9:=zjk Y
 have G__law_near:Y.zdQ.O P w base 2 zoV:=zpq Y
 have G__law_papers:Y.zcs.O P w base 6 zjZ:=zmE Y
 refine Y.zb6.fn.okQ zu (λvs H Q E h=>?_) `j4
 ·obtain ⟨a,n,u,g,hs,ps,lks,hds,O,rfl,_⟩:=h;rfl
 ·obtain ⟨a,n,u,g,hs,ps,lks,hds,O,rfl,hH,hn,hu,T,PO,q⟩:=h
  have T10:=T.ten
  refine⟨_,(zh (zI 2 zu.nd (za0 zd))
   (zh (zbG J3 rfl (zcD Y.range (zb (zH Y.zt G__law_take hr (zb (qv 0) (zb ze zd))) zd)) (zk 3 zu.nd) (zh (zI 4 zu.nd (zH Y.zbP G__law_some_way hr (zb (qv 0) (zb (qv 1) zd))))
   (zh (zI 5 zu.nd (zH Y.zdQ G__law_near hr (zb (qv 1) (zb (zx zm (qv 4) ze) zd))))
   (zh (zI 6 zu.nd zbR)
   (zey (zak (zE (zb0 (zb8 hr)) (qv 5) (za0 zd)) (zi (zI 6 zu.nd (zH Y.zcs G__law_papers hr (zb (qv 0) (zb (qv 1) (zb (qv 4) (zb (zH Y.zz G__law_pick hr (zb (qv 0) (zb (qv 5) zd))) zd))))))) zL)
   (zi (zak (zE zlK (qv 6) zbR) (zh (zdd (qv 6) (zbS 2 rfl (zo (zk 7 zu.nd) (zo (zk 8 zu.nd) zaB))))
   (zh (zdd (qv 7) (zbS 5 rfl (zo (zk 9 zu.nd) (zo (zk 10 zu.nd) (zo (zk 11 zu.nd) (zo (zk 4 zu.nd) (zo (zk 12 zu.nd) zaB)))))))
   (zey (zI 13 zu.nd (zM (zb (qv 9) (zb (qv 10) (zb (zx zag (za0 (zb (qv 11) (zb ze zd))) (zH Y.zt G__law_take hr (zb (qv 0) (zb ze zd)))) (zb (zx zag (za0 (zb (qv 4) (zb zbR zd))) (zQ zgd (zH Y.zt G__law_take hr (zb (qv 0) (zb ze zd))) ze)) (zb (qv 12) zd)))))))
   (zey (zak (zE zd4 (zx zm (qv 13) ze) zbR) (zi (zI 13 zu.nd (zQ zcU (zdB zbc (qv 13) zba (zaW ze)) (zM (zb (zM zd) zd))))) zL)
   (zh (zI 14 zu.nd (za0 (zb (qv 6) (zb (zM (zb (qv 13) (zb (qv 8) zd))) (zb (zM (zb (qv 7) (zb (zdB zbc (qv 8) (zaW ze) zba) zd))) (zb (zM (zb (zQ zcU (zdB zbc (qv 7) zba (zaW ze)) (zM (zb (zM (zb zar zd)) zd))) (zb (qv 8) zd))) zd))))))
   (zh (zcB (zf3 F.plainAttrs_list V3 W3 zaV (qv 14) (zb (zM (zb (qv 7) (zb (zsc (qv 8) (zf6 zcd ze)) zd))) zd)))
   (zi (zI 2 zu.nd (zQ zdE (zQ zdE (qv 2) (zQ zor (za0 (zb (zx zag (qv 14) ze) zd)) (zH Y.zt G__law_take hr (zb (qv 0) (zb ze zd))))) (za0 (zb (zH Y.zz G__law_pick hr (zb (qv 0) (zb (qv 14) zd))) zd))))))))))) zL)))))))
   (zi (zv (qv 2))))),?_⟩
  try dsimp only[zav]
  refine⟨few rfl,λl0 hl0=>?_⟩
  have S0:=Same.new (o:= .lst []) hl0
  refine vr rfl (ex3 a _ n ⟨rfl,hH.same S0,(),⋯,⋯,λt H1 t0 t1 hH1 k1=>⟨t,rfl,(),(),?_⟩⟩)
  have e1:=k1 _ _ (hH.ne hl0) zc
  let I0:Nat->St->Hp->Prop:=λi σ' H'=>(∃lF o3 o4 o5 o6 o7 o8 o9 o10 o11 o12 o13 o14,σ'=[some (.ref a),some u,some (.ref lF),o3,o4,o5,o6,o7,o8,o9,o10,o11,o12,o13,o14]/\LLs hs ps H' lF (3*i)/\H lF=none/\lF≠a)/\Hand H' a (n+1+40*i)/\Keep a H H'
  refine zbi zdb I0 ?_ (λ_ _ _ _=>trivial) ?_ ?_
  ·exact ⟨(ex8 l0 _ _ _ _ _ _ _ (ex4 _ _ _ _ ⟨_,rfl,⟨[],[],e1, .nil,(λ_ z=>nomatch z),K2 _⟩,hl0,hH.ne hl0⟩)),hH1.mono (),(Keep.of S0).trans k1⟩
  ·rintro i y σ' H5 hi rfl ⟨⟨lF,o3,o4,o5,o6,o7,o8,o9,o10,o11,o12,o13,o14,rfl,LF,zF,nF⟩,hH5,k5⟩
   have hi8:i<8:=()
   have hu5:=hu.mono (.keep k5 hH hH5)
   refine vr rfl (vr rfl (ex8 a _ u g hs ps lks hds ⟨rfl,hH5,(),hu5,T,λvw ws H6 rw6 W hH6 k6=>?_⟩))
   have hu6:=hu5.mono (.keep k6 hH5 hH6)
   obtain⟨pw,rfl,hpw⟩:=zaC rw6
   obtain⟨w1,w2⟩:=W.len
   obtain⟨x0,wr,rfl⟩:∃x0' wr,ws=x0'::wr:=by
    match ws,w1 with
    |a::b,_=>exact ⟨a,b,rfl⟩
   have hx0:x0∈hs:=W.mem _ Z0
   have lw:wr.length<=9:=by rw[O1] at w2;lia
   have npw:pw≠a:=λz=>by obtain⟨_,_,_,e',_⟩:=hH6;rw[z,e'] at hpw;cases hpw
   refine vr rfl (vr rfl (ixT hpw at0 (ex4 u x0 g hs (ex3 ps lks hds ⟨rfl,hu6,T,hx0,λln H7 hln en s7=>?_⟩))))
   have hu7:=hu6.same s7
   have hH7:=hH6.same s7
   have nln:ln≠a:=hH6.ne hln
   have k57:=k6.trans (Keep.of s7)
   have hT:∀to∈hs.filter (λy=>decide (y∈zaR ps x0)),to∈hs/\to∈zaR ps x0:=λto h=>by
    obtain⟨h1,h2⟩:=X2.mp h
    exact⟨h1,R0 h2⟩
   have lT:(hs.filter λy=>decide (y∈zaR ps x0)).length<=10:=J1 (G3 _ _) T10
   generalize hs.filter (λy=>decide (y∈zaR ps x0))=ts at *
   dsimp only[za5]
   let I1:St->Hp->Prop:=λσ' H'=>∃v6,σ'=[some (.ref a),some u,some (.ref lF),some (.int (0+(i:Int))),some (.ref pw),some (.ref ln),some v6,o7,o8,o9,o10,o11,o12,o13,o14]/\(v6= .non\/∃f qs,Rep H' v6 (zbJ f qs)/\(∀p∈f::qs,PpK hs ps p/\∃w,p.way=some w)/\qs.length<=9)/\Hand H' a (n+22+40*i)/\Keep a H5 H'
   refine⟨I1,?_,?_⟩
   ·refine vr rfl ⟨few rfl,λpe hpe=>?_⟩
    have Se:=Same.new (o:= .lst []) hpe
    have tn:∀x∈ts,PyData.strOk x=true:=λx hx=>zp (T.names x (hT x hx).1)
    refine⟨_,_,zlm (Se _ _ en) tn,zgv zc,J1 (M3 _ _) zic,vr rfl ?_⟩
    have e0:(PyData.list (zal ts)).eqv (.list [])=decide (ts=[]):=ziU (ys:=[])
    rw[e0]
    have hH8:=hH7.same Se
    have k58:=k57.trans (Keep.of Se)
    cases ed:decide (ts=[])with
    |true=>exact zO rfl ⟨.non,rfl, .inl rfl,hH8.mono (),k58⟩
    |false=>
     have l1:0<ts.length:=by
      cases ts with
      |nil=>cases ed
      |cons _ _=>exact Nat.succ_pos _
     refine zN rfl (vr rfl (vr rfl (vr rfl (vr rfl (vr rfl ⟨a,_,hH8,(), .inl (ex2 ln _ ⟨rfl,nln,SqL.of (Se _ _ en),by rw[B0];exact l1,by rw[B0];lia,λvt H9 hvt hH9 k9=>?_⟩)⟩)))))
     obtain⟨to,hto,rfl⟩:=G1.mp hvt
     obtain⟨hto,htn⟩:=hT to hto
     have hu9:=(hu7.same Se).mono (.keep k9 hH8 hH9)
     have hpw9:=k9 _ _ npw (Se _ _ (s7 _ _ hpw))
     have k59:=k58.trans k9
     refine ex8 a pw _ u to (x0::wr) g hs (ex4 ps lks hds O ⟨rfl,hH9,(),hu9,T,PO,hpw9,W,hto,λhc HA hHA kA=>?_,λv' f qs HA c rv hHA kA=>?_⟩)
     ·exact ⟨.non,rfl, .inl rfl,hHA.mono (),k59.trans kA⟩
     ·have hkx:∀x∈x0::wr,zdI O (zac hs hds x):=λx hx=>by
       obtain⟨_,rs,_,_,er,hk⟩:=zqr T PO (W.mem x hx)
       rw[er];exact hk
      have cM:=c.marks hkx
      have cP:=c.pp T.names T10 PO.few PO.nm W hto htn cM
      obtain⟨_,_,eh,_,_,_,_,lc⟩:=c.head
      have lq:qs.length<=9:=by rw[O1,O1] at lc;lia
      have cw:=zo8 c
      exact⟨v',rfl, .inr ⟨f,qs,rv,λp hp=>⟨⟨cP p hp,J1 ((cM p hp).toMk0.len PO.few) ⋯⟩,cw p hp⟩,lq⟩,hHA.mono (),k59.trans kA⟩
   rintro σ' H8 ⟨v6,rfl,h6,hH8,k58⟩
   have MF:Mono H5 H8:= .keep k58 hH5 hH8
   rcases h6 with rfl|⟨f,qs,rv,hP,lq⟩
   ·refine vr rfl ⟨rfl,vr rfl (zO rfl ⟨(ex8 lF _ _ _ _ _ _ _ (ex4 _ _ _ _ ⟨_,rfl,?_,zF,nF⟩)),hH8.mono (by push_cast;lia),k5.trans k58⟩)⟩
    obtain⟨us,L,h1,h2,h3,h4⟩:=LF
    exact⟨us,L,k58 _ _ nF h1,h2.mono MF,h3,()⟩
   have nn:decide (v6=V.non)=false:=by rw[zcl rv];rfl
   refine vr rfl ⟨rfl,vr rfl (zN (by rw[nn];rfl) ?_)⟩
   have rv0:=rv
   obtain⟨pd,v1,xq,rfl,hpd,rf,rq⟩:=rv.of2
   have rf0:=rf
   obtain⟨pf,y1,y2,y3,y4,y5,rfl,hpf,r1,r2,r3,r4,r5⟩:=ze6 rf
   cases r1 with|str _ _=>
   cases r2 with|str _ _=>
   cases r3 with|int _=>
   have kf:=(hP f Z0).1
   obtain⟨wf,ewf⟩:=(hP f Z0).2
   have kq:∀p∈qs,PpK hs ps p:=λp hp=>(hP p (N1 _ hp)).1
   refine vr rfl (ex2 pd _ ⟨rfl, .inl (.inl hpd),rfl,ex2 _ _ ⟨rfl,ex2 _ _ ⟨rfl,rfl,?_⟩⟩⟩)
   refine vr rfl (ex2 pf _ ⟨rfl, .inl (.inl hpf),rfl,ex2 _ _ ⟨rfl,ex2 _ _ ⟨rfl,ex2 _ _ ⟨rfl,ex2 _ _ ⟨rfl,ex2 _ _ ⟨rfl,rfl,?_⟩⟩⟩⟩⟩⟩)
   let I2:St->Hp->Prop:=λσ' H'=>∃vo nr' wy,σ'=[some (.ref a),some u,some (.ref lF),some (.int (0+(i:Int))),some y4,some (.ref ln),some (.ref pd),some (.ref pf),some xq,some (.str f.one),some (.str f.to),some (.int f.nr),some y5,some vo,o14]/\Rep H' vo (ppD ⟨f.one,f.to,nr',wy,f.marks⟩)/\1<=nr'/\(wy=f.way\/wy=none)/\Hand H' a (n+24+40*i)/\Keep a H8 H'
   refine⟨I2,?_,?_⟩
   ·refine vr rfl (vr rfl (vr rfl ⟨few rfl,λb1 hb1=>?_⟩))
    have B1:=Same.new (o:= .lst [V.int f.nr,V.int 1]) hb1
    refine vr rfl (ex3 a _ _ ⟨rfl,hH8.same B1,(),⋯,⋯,λd1 H9 d0 dl hH9 k9=>?_⟩)
    obtain⟨v3,e3,m3⟩:=zdA (xs:=[V.int f.nr,V.int 1]) d0 dl
    obtain⟨nr',rfl,h1n⟩:∃nr':Int,v3= .int nr'/\1<=nr':=by
     simp only[K0,C3,or_false] at m3
     rcases m3 with rfl|rfl
     ·exact vr rfl kf.1.nr
     ·exact ⟨1,rfl,Int.le_refl _⟩
    refine ixL (k9 _ _ (hH8.ne hb1) zc) e3 (vr rfl ⟨few rfl,λb2 hb2=>?_⟩)
    have B2:=Same.new (o:= .lst [y4,V.non]) hb2
    refine vr rfl (ex3 a _ _ ⟨rfl,hH9.same B2,(),⋯,⋯,λd2 HA d0' dl' hHA kA=>?_⟩)
    have k8A:=((Keep.of B1).trans k9).trans ((Keep.of B2).trans kA)
    have M8:Mono H8 HA:= .keep k8A hH8 hHA
    obtain⟨v4,e4,m4⟩:=zdA (xs:=[y4,V.non]) (d:=d2/2) () (by show d2/2<2;lia)
    obtain⟨wy,r4',h4⟩:∃wy,Rep HA v4 (wyD wy)/\(wy=f.way\/wy=none):=by
     simp only[K0,C3,or_false] at m4
     rcases m4 with rfl|rfl
     ·exact ⟨f.way,r4.mono M8, .inl rfl⟩
     ·exact ⟨none, .non, .inr rfl⟩
    refine ex2 _ _ ⟨rfl,rfl,⟨⋯,⋯⟩,ixL (kA _ _ (hH9.ne hb2) zc) e4 (vr rfl ⟨few rfl,λpo hpo=>?_⟩)⟩
    have SO:=Same.new (o:= .tup [V.str f.one,V.str f.to,V.int nr',v4,y5]) hpo
    exact ex3 _ nr' wy ⟨rfl, .mkL (vs:=[.str f.one, .str f.to, .int nr',v4,y5]) zc (C2 rfl) (.cons (.str _ (zy (T.names _ kf.1.one))) (.cons (.str _ (zy (T.names _ kf.1.to))) (.cons (.int nr') (.cons (r4'.same SO) (.cons ((r5.mono M8).same SO) .nil))))),h1n,h4,(hHA.same SO).mono (),k8A.trans (Keep.of SO)⟩
   rintro σ' H9 ⟨vo,nr',wy,rfl,ro,h1n,hwy,hH9,k9⟩
   have M9:Mono H8 H9:= .keep k9 hH8 hH9
   let I3:St->Hp->Prop:=λσ' H'=>∃vo p',σ'=[some (.ref a),some u,some (.ref lF),some (.int (0+(i:Int))),some y4,some (.ref ln),some (.ref pd),some (.ref pf),some xq,some (.str f.one),some (.str f.to),some (.int f.nr),some y5,some vo,o14]/\Rep H' vo (ppD p')/\PpK hs ps p'/\Hand H' a (n+24+40*i)/\Keep a H8 H'
   refine⟨I3,?_,?_⟩
   ·have ro':Rep H9 vo (.tup [.str f.one, .str f.to, .int nr',wyD wy,tD f.marks]):=ro
    obtain⟨po,z1,z2,z3,z4,z5,rfl,hpo,t1,t2,t3,t4,t5⟩:=ze6 ro
    refine vr rfl (ixT hpo (zG (j:=3) rfl) ⟨rfl,vr rfl ?_⟩)
    have ez:decide (z4=V.non)=decide (wy=none):=by
     rw[zcl t4]
     cases wy<;>rfl
    rw[ez]
    cases wy with
    |some w'=>
     rcases hwy with h|h
     ·exact zO rfl (ex2 _ _ ⟨rfl,ro,⟨⟨kf.1.one,kf.1.to,kf.1.tied,h1n,kf.1.mnm,kf.1.ml,(λz=>nomatch z),λw e=>kf.1.way w (by rw[←h];exact e)⟩,kf.2⟩,hH9,k9⟩)
     ·cases h
    |none=>
     refine zN rfl (zrq (d:= .tup ([D.str f.one, .str f.to, .int nr', .non]++ [.tup []])) ?_ λv' HB sB rB=>?_)
     ·exact zjb (zhx (n:=4) (ds:=[.str f.one, .str f.to, .int nr',wyD none,tD f.marks]) rfl ro') (zcn (zaj (zcn zbu (K2 _)) zbu) (C2 rfl)) (C2 rfl)
     exact⟨v',⟨f.one,f.to,nr',none,[]⟩,rfl,rB,⟨⟨kf.1.one,kf.1.to,kf.1.tied,h1n,(λ_ z=>nomatch z),K2 _,λ_=>rfl,(λ_ z=>nomatch z)⟩,K2 _⟩,hH9.same sB,k9.trans (Keep.of sB)⟩
   rintro σ' HA ⟨vo,p',rfl,ro,kp',hHA,kA⟩
   have MA:Mono H8 HA:= .keep kA hH8 hHA
   have rfA:=rf0.mono MA
   have rqA:=rq.mono MA
   have rvA:=rv0.mono MA
   have rfA':Rep HA (.ref pf) (.tup [.str f.one, .str f.to, .int f.nr,wyD f.way,tD f.marks]):=rfA
   refine zsz (ds:=[zbJ f qs,zbJ p' qs,zbJ f (qs.drop 1),zbJ {f with marks:=["zz"]} qs]) ?_ (C2 rfl) λvs HB lS sB rB hlS=>?_
   ·refine zaj (zcV rfl rvA) (zaj (zcn (zaj (zcV rfl ro) (zaj (zcV rfl rqA) zbu)) (C2 rfl)) (zaj (zcn (zaj (zcV rfl rfA) (zaj ?_ zbu)) (C2 rfl)) (zaj (zcn (zaj ?_ (zaj (zcV rfl rqA) zbu)) (C2 rfl)) zbu)))
    ·rw[List.map_drop];exact znz rfl rqA
    ·exact zjb (zhx (n:=4) (ds:=[.str f.one, .str f.to, .int f.nr,wyD f.way,tD f.marks]) rfl rfA') (zcn (zaj (zcn (zaj (zlL `n4) zbu) (C2 rfl)) zbu) (C2 rfl)) (C2 rfl)
   have SB:=sB.trans (Same.new (o:= .lst vs) hlS)
   have nS:lS≠a:=(hHA.same sB).ne hlS
   have eS:(upd HB lS (.lst vs)) lS=some (.lst vs):=zc
   have rS:RepL (upd HB lS (.lst vs)) vs ([(f,qs),(p',qs),(f,qs.drop 1),({f with marks:=["zz"]},qs)].map slD):=rB.mono (.new hlS)
   have zS:H8 lS=none:=zhL (kA.trans (Keep.of sB)) nS hlS
   have hHB:=hHA.same SB
   have kB:=kA.trans (Keep.of SB)
   generalize (upd HB lS (HO.lst vs))=HC at *
   have rfC:=rfA.same SB
   have rqC:=rqA.same SB
   have hL4:∀z∈ [(f,qs),(p',qs),(f,qs.drop 1),({f with marks:=["zz"]},qs)],LtK hs ps z:=by
    intro z hz
    simp only[K0,C3,or_false] at hz
    rcases hz with rfl|rfl|rfl|rfl
    ·exact zgF kf kq ()
    ·exact zgF kp' kq ()
    ·exact zgF kf (λp hp=>kq p (List.mem_of_mem_drop hp)) (by rw[D3];lia)
    ·exact zgF ⟨⟨kf.1.one,kf.1.to,kf.1.tied,kf.1.nr,λx hx=>by rw[c0.mp hx];decide +kernel,C2 rfl,(λz=>by rw[show f.way=none from z] at ewf;cases ewf),kf.1.way⟩,C2 rfl⟩ kq ()
   have l4:[(f,qs),(p',qs),(f,qs.drop 1),({f with marks:=["zz"]},qs)].length=4:=rfl
   generalize [(f,qs),(p',qs),(f,qs.drop 1),({f with marks:=["zz"]},qs)]=L4 at *
   refine vr rfl ⟨.inl ⟨rfl,_,SqL.of eS⟩,?_⟩
   refine zsE (d:=zbJ f qs.reverse) (zcn (zaj (zcV rfl rfC) (zaj (by rw[List.map_reverse];exact zoY rfl rqC) zbu)) (C2 rfl)) λv4 HD sD rD=>?_
   obtain⟨p4,_,_,rfl,_⟩:=rD.of2
   have lv:=rS.1
   rw[B0] at lv
   refine ex3 lS _ _ ⟨rfl,rfl,sD _ _ eS,zl (),?_⟩
   have rE:RepL (upd HD lS (.lst (vs ++ [.ref p4]))) (vs ++ [.ref p4]) ((L4 ++ [(f,qs.reverse)]).map slD):=by
    rw[J2]
    exact((rS.mono (.of sD)).append (.cons rD .nil)).mono (.lset (sD _ _ eS))
   have eE:(upd HD lS (.lst (vs ++ [.ref p4]))) lS=some (.lst (vs ++ [.ref p4])):=zc
   have hHE:=(hHB.same sD).updNe (o:= .lst (vs ++ [.ref p4])) nS
   have kE:Keep a H8 (upd HD lS (.lst (vs ++ [.ref p4]))):=Keep.updNew (kB.trans (Keep.of sD)) zS
   have hL5:∀z∈L4 ++ [(f,qs.reverse)],LtK hs ps z:=λz hz=>(X1.mp hz).elim (hL4 z) λe=>by rw[c0.mp e];exact zgF kf (λp hp=>kq p (List.mem_reverse.mp hp)) (by rw[List.length_reverse];lia)
   have l5:(L4 ++ [(f,qs.reverse)]).length=5:=by rw[W0,l4];rfl
   generalize (upd HD lS (HO.lst (vs ++ [V.ref p4])))=HE at *
   generalize L4 ++ [(f,qs.reverse)]=L5 at *
   generalize vs ++ [V.ref p4]=us5 at *
   obtain⟨z0,Lr,rfl⟩:∃z0 Lr,L5=z0::Lr:=by
    match L5,l5 with
    |a::b,_=>exact ⟨a,b,rfl⟩
   obtain⟨x0',xr,rfl⟩:∃x xr,us5=x::xr:=by
    have:=rE.1
    rw[B0,l5] at this
    match us5,this with
    |a::b,_=>exact ⟨a,b,rfl⟩
   obtain⟨us,L,h1,h2,h3,h4⟩:=LF
   have lus:=h2.1
   rw[B0] at lus
   refine vr rfl (vr rfl (ixL eE at0 ⟨few rfl,λb hb=>?_⟩))
   have Bb:=Same.new (o:= .lst [x0']) hb
   refine vr rfl (ex3 a _ _ ⟨rfl,hHE.same Bb,(),⋯,⋯,λd HF d0 d3 hHF kF=>?_⟩)
   have kEF:=(Keep.of Bb).trans kF
   refine ex3 b d _ ⟨rfl,rfl,kF _ _ (hHE.ne hb) zc,(),(),Z2 (zl (by show 1*_<=_;lia)),λp1 hp1=>?_⟩
   have e1F:=kEF _ _ nF (kE _ _ nF (k58 _ _ nF h1))
   have P1:=Same.new (o:= .lst (List.replicate d.toNat [x0']).flatten) hp1
   have lrp:(List.replicate d.toNat [x0']).flatten.length=d.toNat:=by rw[zh6];exact Nat.mul_one _
   refine ex4 lF p1 _ _ ⟨rfl,rfl,P1 _ _ e1F,zc,Z2 (zl (by rw[lrp];lia)),λp2 hp2=>?_⟩
   have P2:=Same.new (o:= .lst (us ++(List.replicate d.toNat [x0']).flatten)) hp2
   have hH2:=(hHF.same P1).same P2
   have kE2:=kEF.trans ((Keep.of P1).trans (Keep.of P2))
   have ME2:Mono HE _:= .keep kE2 hHE hH2
   refine vr rfl (vr rfl (ziu hH2 () (kE2 _ _ nS eE) (rE.mono ME2) (λv d' HG hd rd hHG kG=>?_) (by rw[B0,l5];rfl)))
   obtain⟨z,hz,rfl⟩:=G1.mp hd
   have e2G:=kG _ _ ((hHF.same P1).ne hp2) zc
   refine⟨few rfl,λp3 hp3=>?_⟩
   have P3:=Same.new (o:= .lst [v]) hp3
   refine ex4 p2 p3 _ _ ⟨rfl,rfl,P3 _ _ e2G,zc,Z2 (zl (by rw[W0,lrp];show _+1<=_;lia)),λp5 hp5=>?_⟩
   have P5:=Same.new (o:= .lst ((us ++(List.replicate d.toNat [x0']).flatten)++ [v])) hp5
   have kEG:=(kE2.trans kG).trans ((Keep.of P3).trans (Keep.of P5))
   have hHZ:=(hHG.same P3).same P5
   have MZ:Mono HE _:= .keep kEG hHE hHZ
   have k5Z:=(k58.trans kE).trans kEG
   have M5Z:Mono H5 _:= .keep k5Z hH5 hHZ
   have n5:=(hHG.same P3).ne hp5
   refine⟨(ex8 p5 _ _ _ _ _ _ _ (ex4 _ _ _ _ ⟨_,rfl,⟨_,(L ++(List.replicate d.toNat [z0]).flatten)++ [z],zc,?_,λy hy=>?_,?_⟩,zhL ((k5.trans ((k58.trans kE).trans (kE2.trans kG))).trans (Keep.of P3)) n5 hp5,n5⟩)),hHZ.mono (by push_cast;lia),k5.trans k5Z⟩
   ·rw[J2,J2,List.map_flatten,List.map_replicate]
    exact((h2.mono M5Z).append ((RepL.cons (rE.head.1.mono MZ) .nil).reps _)).append (.cons (((rd.same P3).same P5)) .nil)
   ·rcases X1.mp hy with hy|hy
    ·rcases X1.mp hy with hy|hy
     ·exact h3 y hy
     ·obtain ⟨l',hl',hy⟩:=List.mem_flatten.mp hy
      rw[(List.mem_replicate.mp hl').2] at hy
      rw[c0.mp hy];exact hL5 z0 Z0
    ·rw[c0.mp hy];exact hL5 z hz
   ·rw[W0,W0,zh6]
    show _+_*1+1<=_
    lia
  ·rintro σ' H5 ⟨⟨lF,o3,o4,o5,o6,o7,o8,o9,o10,o11,o12,o13,o14,rfl,⟨us,L,h1,h2,h3,h4⟩,zF,nF⟩,hH5,k5⟩
   exact vr rfl (q lF H5 zF ⟨us,L,h1,h2,h3,()⟩ (hH5.mono ()) k5)
theorem zpV{g:TG}{D:Ends}(Pv:Nat->St->Hp->Prop)(h0:Pv 0 σ H)(hok:∀i σ H,Pv i σ H->SqL K H a xs)
 (hs:∀i x T σ H,xs[i]?=some x->H T=none->Pv i σ H->g (.ref T) σ (upd H T (.tup [.int ((i:Nat):Int),x])) λσ2 H2=>tb {D with nx:=Pv (i+1),ct:=Pv (i+1),bk:=D.nx} σ2 H2) (hd:∀σ H,Pv xs.length σ H->D.nx σ H):
 zlr g tb D σ (ItL K a xs.length) H:=by
 refine⟨λi m σ H=>m=xs.length -i/\i<=xs.length/\Pv i σ H,⟨xs.length,`n3,K2 _,h0⟩,?_⟩
 rintro i m σ H ⟨rfl,hi,p⟩
 by_cases hlt:i<xs.length
 ·refine .inr ⟨⟨xs,xs[i],hok i σ H p,rfl,by simp[hlt]⟩,Pv (i+1),λσ' H' q=>⟨xs.length -(i+1),(),rfl,hlt,q⟩,λx H' y=>?_⟩
  obtain⟨T,v,rfl,hT,hv,rfl⟩:=y
  exact hs i v T σ H (hv xs (hok i σ H p)) hT p
 ·have e:i=xs.length:=()
  subst e
  exact .inl ⟨⟨xs,hok _ σ H p,rfl,O0 _⟩,hd σ H p⟩
def Rws(H:Hp)(l:Addr)(N:List (List Str))(c:Nat)(F:List Str->Prop):Prop:=∃(vs:List V) (ks:List (List Str)),H l=some (.lst vs)/\RepL H vs (ks.map tD)/\(∀k,k∈ks↔F k)/\(∀k,F k->k∈N)/\ks.length<=c
theorem Rws.mono{N:List (List Str)}{c:Nat}(h:Rws H l N c F)(m:Mono H H')(e:∀o,H l=some o->H' l=some o)(hF:∀k,F k↔F' k)(hc:c<=c'):Rws H' l N c' F':=by
 obtain⟨vs,ks,h1,h2,h3,h4,h5⟩:=h
 exact⟨vs,ks,e _ h1,h2.mono m,λk=>(h3 k).trans (hF k),λk hk=>h4 k ((hF k).mpr hk),J1 h5 hc⟩
theorem Rws.snoc{N:List (List Str)}{c:Nat}{k:List Str}(h:Rws H l N c F)(e:H l=some (.lst vs))(hp:Rep H (.ref p) (tD k))(hk:k∈N):Rws (upd H l (.lst (vs ++ [.ref p]))) l N (c+1) (λk'=>F k'\/k'=k):=by
 obtain⟨vs',ks,h1,h2,h3,h4,h5⟩:=h
 rw[e] at h1
 cases h1
 refine⟨_,ks ++ [k],zc,?_,λk'=>?_,λk' z=>z.elim (h4 k') λe=>by rw[e];exact hk,by rw[W0];exact Nat.succ_le_succ h5⟩
 ·rw[J2]
  exact(h2.append (.cons hp .nil)).mono (.lset e)
 ·rw[X1,h3 k',c0]
def Du(R:Pp->List Pp->Bool)(hs:List Str)(H H':Hp)(lf lp:Addr)(La:List (Pp×List Pp))(c:Nat)(S0 S:List Pp):Prop:=
 Rws H' lf (KL hs) c (λk=>zbx R La k\/TwinK S k)/\(∃vp,H' lp=some (.lst vp)/\RepL H' vp (S0.map ppD))/\Same H H'/\lp≠lf
theorem zq4(Y:Ev K mg):Y.zes.O P w base 7 zgc:=by
 have G__law_is_right:Y.zbQ.O P w base 6 zjd:=zmh Y
 refine Y.zes.fn.okQ zaO (λvs H Q E h=>?_) `j4
 ·obtain ⟨u,l,us,L,g,hs,ps,lks,hds,rfl,_⟩:=h;rfl
 ·obtain ⟨u,l,us,L,g,hs,ps,lks,hds,rfl,O,q⟩:=h
  have T:=O.ok
  have T10:=T.ten
  have L30:=O.few
  have lr:=O.rep.1
  rw[B0] at lr
  have noT:∀k,¬TwinK [] k:=λk ⟨_,z,_⟩=>nomatch z
  refine⟨_,(zh (zI 2 zaO.nd (za0 zd))
   (zh (zI 3 zaO.nd (za0 zd))
   (zh (zbG J3 rfl (zdT (qv 1)) (zbS 2 rfl (zo (zk 4 zaO.nd) (zo (zk 5 zaO.nd) zaB))) (zey (zak (zbp (za4 (zH Y.zbQ G__law_is_right hr (zb (qv 0) (zb (zM (zb (qv 4) (zb (qv 5) zd))) zd))))) (zi (zcB (zf3 F.plainAttrs_list V3 W3 zaV (qv 2) (zb (zM (zb (zx zm (qv 4) ze) (zb zar zd))) zd)))) zL)
   (zi (zI 3 zaO.nd (zQ zdE (zQ zdE (qv 3) (za0 (zb (qv 4) zd))) (zah zfl Y.list zil (zb (qv 5) zd)))))))
   (zh (zbG J3 rfl (zpr Y.enumerate (zb (qv 3) zd)) (zbS 2 rfl (zo (zk 6 zaO.nd) (zo (zfd 7 zaO.nd) zaB))) (zi (zak (zE (zb0 (zb8 hr)) (zaQ (src:=[none,some 7]) zfb rfl rfl (zdT (zdB zga (qv 3) zba (zaW (qv 6)))) (λ_ _ _ _ _=>(zk 0 zfb.nd)) (λ_ _ _ _ _=>(zcS (t_w (ziX (zE (zeP (zb8 hr)) (zdB (zjX (K:=K) rfl) (qv 0) zba (zaW ze)) (zdB (zjX (K:=K) rfl) (qc 1) zba (zaW ze))) (zgP (zE (zb0 (zb8 hr)) (qv 0) (qc 1))))))) (λ_ _ _ _ _=>(qv 0))) (za0 zd)) (zi (zcB (zf3 F.plainAttrs_list V3 W3 zaV (qv 2) (zb (zM (zb (zx zm (qc 7) ze) (zb zar zd))) zd)))) zL)))
   (zi (zv (zn (zeu rfl) Y.sorted zbB (zb (zah (zmx rfl (hu8 (zb8 hr))) Y.set zj9 (zb (qv 2) zd)) zd)))))))),?_⟩
  try dsimp only[zav]
  refine⟨few rfl,λlf hlf=>?_⟩
  refine⟨few rfl,λl1 hl1=>?_⟩
  have S1:=Same.new (o:= .lst []) hlf
  have S2:=Same.new (o:= .lst []) hl1
  have n1:l1≠lf:=λz=>by rw[z,zc] at hl1;cases hl1
  refine vr rfl ⟨l,rfl,⟨_,SqL.of (S2 _ _ (S1 _ _ O.at_))⟩,?_⟩
  let I0:Nat->St->Hp->Prop:=λi σ' H'=>∃lp o4 o5,σ'=[some u,some (.ref l),some (.ref lf),some (.ref lp),o4,o5,none,none]/\Du (zae g hs ps lks hds) hs H H' lf lp (L.take i) i (zbo (L.take i)) []
  refine zbi (zcW (K:=K) (xs:=us)) I0 ?_ (λi σ' H' z=>by obtain⟨_,_,_,_,z⟩:=z;exact SqL.of (z.2.2.1 _ _ O.at_)) ?_ ?_
  ·refine ex3 l1 _ _ ⟨rfl,⟨[],[],S2 _ _ zc, .nil,λk=>⟨(λz=>nomatch z),λz=>?_⟩,λk z=>?_,O0 _⟩,⟨[],zc, .nil⟩,S1.trans S2,n1⟩
   ·rcases z with⟨_,z,_⟩|⟨_,z,_⟩<;>cases z
   ·rcases z with⟨_,z,_⟩|⟨_,z,_⟩<;>cases z
  ·rintro i y σ' H1 hi hy ⟨lp,o4,o5,rfl,F1,⟨vp,ep,rp⟩,s1,np⟩
   obtain⟨d,hd,rd⟩:=O.rep.get hy
   rw[V0] at hd
   cases eL:L[i]? with
   |none=>rw[eL] at hd;cases hd
   |some z=>
   rw[eL] at hd
   obtain⟨f,qs⟩:=z
   cases hd
   have hP:∀p∈f::qs,PpK hs ps p:=(O.pp _ (U0 eL)).1
   have lq:qs.length<=10:=(O.pp _ (U0 eL)).2
   have rd:Rep H y (zbJ f qs):=rd
   obtain⟨pd,xf,xq,rfl,hpd,rf,rq⟩:=rd.of2
   have rf0:=rf
   obtain⟨pp,y1,y2,y3,y4,y5,rfl,hpp,r1,r2,r3,r4,r5⟩:=ze6 rf
   obtain⟨pq,uq,rfl,hpq,ru,_⟩:=rq.ofT
   cases r1 with|str _ _=>
   have lu:=ru.1
   rw[B0] at lu
   refine ex2 pd _ ⟨rfl, .inl (.inl (s1 _ _ hpd)),rfl,ex2 _ _ ⟨rfl,ex2 _ _ ⟨rfl,rfl,?_⟩⟩⟩
   have e1:=λk=>zfY (R:=zae g hs ps lks hds) (k:=k) eL
   have e2:=zjF eL
   let I1:St->Hp->Prop:=λσ' H'=>σ'=[some u,some (.ref l),some (.ref lf),some (.ref lp),some (.ref pp),some (.ref pq),none,none]/\Du (zae g hs ps lks hds) hs H H' lf lp (L.take (i+1)) (i+1) (zbo (L.take i)) []
   refine⟨I1,?_,?_⟩
   ·refine vr rfl (vr rfl (vr rfl ⟨few rfl,λpn hpn=>?_⟩))
    have S3:=Same.new (o:= .tup [V.ref pp,V.ref pq]) hpn
    have s3:=s1.trans S3
    refine ex8 u _ f qs g hs ps lks ⟨hds,rfl,O.town.same s3,T,O.hf, .mk2 zc (rf0.same s3) (.mkL (s3 _ _ hpq) (by rw[B0];lia) (ru.mono (.of s3))),hP,lq,λH2 s4=>(vr rfl ?_)⟩
    rw[zsG T.names λw ew=>((hP f Z0).1.way w ew).1]
    have s34:=S3.trans s4
    have ep2:=s34 _ _ ep
    have rp2:=rp.mono (.of s34)
    cases eb:zae g hs ps lks hds f qs with
    |true=>
     refine zO rfl ⟨rfl,F1.mono (.of s34) (s34 _) (λk=>?_) (Nat.le_succ _),⟨vp,ep2,rp2⟩,s1.trans s34,np⟩
     rw[e1]
     simp only[eb,Bool.true_eq_false,false_and,or_false]
    |false=>
     have F2:=F1.mono (F':=λk=>zbx (zae g hs ps lks hds) (L.take i) k\/TwinK [] k) (.of s34) (s34 _) (λ_=> .rfl) (O0 i)
     obtain⟨vf,ks,hvf,rvf,_,_,lvf⟩:=id F2
     refine zN rfl (vr rfl ⟨.inl ⟨rfl,_,SqL.of hvf⟩,vr rfl (ixT (s34 _ _ (s1 _ _ hpp)) at0 ⟨few rfl,λpt hpt=>?_⟩)⟩)
     have S5:=Same.new (o:= .tup [V.str f.one,V.str "false"]) hpt
     have hone:=(hP f Z0).1.one
     have lv:=rvf.1
     rw[B0] at lv
     refine ex3 lf _ _ ⟨rfl,rfl,S5 _ _ hvf,zl (),rfl,?_,⟨vp,?_,?_⟩,?_,np⟩
     ·refine ((F2.mono (F':=λk=>zbx (zae g hs ps lks hds) (L.take i) k\/TwinK [] k) (.of S5) (S5 _) (λ_=> .rfl) (O0 i)).snoc (k:=[f.one,"false"]) (S5 _ _ hvf) ?_ (zrl hone)).mono (.refl _) (λ_ z=>z) (λk=>?_) (O0 _)
      ·exact .mk2 zc (.str _ (zy (T.names _ hone))) (.str _ `n4)
      ·rw[e1]
       simp only[eb,true_and]
       exact⟨λz=>z.elim (λz=>z.imp .inl id) λz=> .inl (.inr z),λz=>z.elim (λz=>z.imp .inl id) λz=> .inl (.inr z)⟩
     ·rw[zj np];exact S5 _ _ ep2
     ·exact (rp2.mono (.of S5)).mono (.lset (S5 _ _ hvf))
     ·exact Same.put ((s1.trans s34).trans S5) hlf
   rintro σ' H2 ⟨rfl,F2,⟨vp2,ep2,rp2⟩,s2,_⟩
   have lvp:=rp2.1
   rw[B0] at lvp
   have lS:=zh0 (L:=L.take i) λz hz=>(O.pp z (List.mem_of_mem_take hz)).2
   rw[N2] at lS
   refine vr rfl (vr rfl ⟨few rfl,λp1 hp1=>?_⟩)
   have P1:=Same.new (o:= .lst [V.ref pp]) hp1
   refine ex4 lp p1 _ _ ⟨rfl,rfl,P1 _ _ ep2,zc,Z2 (zl (by show _+1<=_;lia)),λp2 hp2=>?_⟩
   have P2:=Same.new (o:= .lst (vp2 ++ [V.ref pp])) hp2
   have s22:=P1.trans P2
   refine vr rfl (ex2 pq _ ⟨rfl, .inr (.inl (.inl (s22 _ _ (s2 _ _ hpq)))),λp3 hp3=>?_⟩)
   have P3:=Same.new (o:= .lst uq) hp3
   refine ex4 p2 p3 _ _ ⟨rfl,rfl,P3 _ _ zc,zc,Z2 (zl (by rw[W0];show(_+1)+_<=_;lia)),λp4 hp4=>?_⟩
   have P4:=Same.new (o:= .lst ((vp2 ++ [V.ref pp])++uq)) hp4
   have s24:=s22.trans (P3.trans P4)
   have s04:=s2.trans s24
   refine ex3 p4 _ _ ⟨rfl,F2.mono (.of s24) (s24 _) (λ_=> .rfl) (O0 _),⟨_,zc,?_⟩,s04,λz=>?_⟩
   ·have ra:=(rp2.mono (.of s24)).append (.cons (rf0.same s04) (ru.mono (.of s04)))
    rw[show vp2 ++(V.ref pp::uq)=(vp2 ++ [V.ref pp])++uq by simp] at ra
    rw[e2,J2]
    exact ra
   ·obtain ⟨vf,_,hvf,_⟩:=F2
    have:=(s22.trans P3) _ _ hvf
    rw[←z,hp4] at this
    cases this
  ·rintro σ' H1 ⟨lp,o4,o5,rfl,F1,⟨vp,ep,rp⟩,s1,np⟩
   rw[lr,X3] at F1 rp
   have lvp:=rp.1
   rw[B0] at lvp
   have lS:=zh0 (L:=L) λz hz=>(O.pp z hz).2
   have hS:∀p∈zbo L,PpOk hs ps p:=λp hp=>by
    obtain⟨z,hz,hp⟩:=zfi.mp hp
    exact((O.pp z hz).1 p hp).1
   have eN:∀k,NK (zae g hs ps lks hds) L k↔zbx (zae g hs ps lks hds) L k\/TwinK (zbo L) k:=λ_=> .rfl
   generalize zbo L=S at *
   refine vr rfl (ex2 lp vp ⟨rfl,SqL.of ep,?_⟩)
   refine zpV (K:=K) (xs:=vp) (λj σ' H'=>(∃o6 o7,σ'=[some u,some (.ref l),some (.ref lf),some (.ref lp),o4,o5,o6,o7])/\Du (zae g hs ps lks hds) hs H H' lf lp L (L.length+j) S (S.take j)/\H' lp=some (.lst vp)) ⟨(ex2 _ _ rfl),⟨F1.mono (.refl _) (λ_ z=>z) (λ_=> .rfl) (O0 _),⟨vp,ep,rp⟩,s1,np⟩,ep⟩ (λj σ' H' z=>SqL.of z.2.2) ?_ ?_
   ·rintro j x Tp σ' H2 hx hTp ⟨⟨o6,o7,rfl⟩,⟨F2,⟨vp2,ep2,rp2⟩,s2,_⟩,ep3⟩
    rw[ep3] at ep2
    cases ep2
    obtain⟨d,hd,rx⟩:=rp2.get hx
    rw[V0] at hd
    cases eP:S[j]? with
    |none=>rw[eP] at hd;cases hd
    |some p=>
    rw[eP] at hd
    cases hd
    have hj:j<S.length:=(List.getElem?_eq_some_iff.mp eP).1
    have hp:=hS p (U0 eP)
    have okp:=zeN T.names hp
    have ok3:∀{p:Pp},PpOk hs ps p->okD (k3 p)=true:=λhp=>by
     unfold k3
     rw[okD]
     refine zfH λd hd=>?_
     simp only[K0,C3,or_false] at hd
     rcases hd with rfl|rfl|rfl
     ·rw[okD];exact zp (T.names _ hp.one)
     ·rw[okD];exact zp (T.names _ hp.to)
     ·rw[okD]
    have ST:=Same.new (o:= .tup [.int (j:Int),x]) hTp
    refine ex2 Tp _ ⟨rfl, .inl (.inl zc),rfl,ex2 _ _ ⟨rfl,ex2 _ _ ⟨rfl,rfl,?_⟩⟩⟩
    have r3:∀{H3:Hp} {v:V} {q:Pp},Rep H3 v (ppD q)->∃a vs,v= .ref a/\H3 a=some (.tup vs)/\vs[0]?=some (.str q.one)/\∀{b:Addr} {H4:Hp},Same H3 H4->H4 b=some (.tup (za9 vs none (some 3)))->Rep H4 (.ref b) (k3 q):=λr=>by
     obtain⟨px,z1,z2,z3,z4,z5,rfl,hpx,t1,t2,t3,t4,t5⟩:=ze6 r
     cases t1 with|str _ h1=>
     cases t2 with|str _ h2=>
     cases t3 with|int _=>
     refine ex2 px _ ⟨rfl,hpx,rfl,λ{b H4} s hb=>?_⟩
     exact .mkL (vs:=[.str _, .str _, .int _]) (hb.trans (j3 (λz=>some (HO.tup z)) (zcF (n:=3)))) (C2 rfl) (.cons (.str _ h1) (.cons (.str _ h2) (.cons (.int _) .nil)))
    obtain⟨px,vx,rfl,hpx,hx0,c3⟩:=r3 rx
    refine vr rfl (vr rfl (vr rfl (ex2 lp vp ⟨rfl,SqL.of (ST _ _ ep3),λlc hlc=>⟨lc,rfl,⟨_,SqL.of zc⟩,?_⟩⟩)))
    have SC:=Same.new (o:= .lst (za9 vp none (some (j:Int)))) hlc
    have ec:za9 vp none (some (j:Int))=vp.take j:=zcF
    have sC:=ST.trans SC
    have rT:=(rp2.mono (.of sC)).take j
    rw[←ec,←List.map_take] at rT
    refine zdv (g:=gTw p) (f:=λd=>d) (ds:=(S.take j).map ppD) (vs:=za9 vp none (some (j:Int))) (σr:=[some (.ref px)]) (zcW (K:=K)) (λH' s'=>SqL.of (s' _ _ zc)) rT (by rw[B0,N2];lia) rfl ?_ (λx d HA sA rx hd=>zcV rfl rx) λl7 us7 H7 s7 hl7 e7 r7=>?_
    ·intro z d HA Q1 sA rz hd q1
     obtain⟨q',hq',rfl⟩:=G1.mp hd
     have hq':=hS q' (List.mem_of_mem_take hq')
     obtain⟨pz,vz,rfl,hpz,_,c3z⟩:=r3 rz
     have hpxA:=sA _ _ (sC _ _ hpx)
     refine vr rfl (vr rfl ?_)
     refine zbn hpz λb1 HB hb1 sB=>?_
     refine vr rfl (vr rfl ?_)
     refine zbn (sB _ _ hpxA) λb2 HC hb2 sCC=>?_
     have sAC:=sB.trans sCC
     refine⟨_,_,zd2 ((c3z sB hb1).same sCC) (ok3 hq'),zd2 (c3 ((sC.trans sA).trans sAC) hb2) (ok3 hp),J1 (Nat.min_le_left _ _) zq3,vr rfl ?_⟩
     have eg:gTw p (ppD q')=((pyD (k3 q')).eqv (pyD (k3 p))&&!(pyD (ppD q')).eqv (pyD (ppD p))):=rfl
     rw[eg] at q1
     cases e3:(pyD (k3 q')).eqv (pyD (k3 p))with
     |false=>
      rw[e3] at q1
      exact zO rfl (q1 HC sAC)
     |true=>
      rw[e3] at q1
      refine zN rfl (vr rfl (vr rfl ⟨_,_,zd2 (rz.same sAC) (zeN T.names hq'),zd2 ((rx.same (sC.trans sA)).same sAC) okp,J1 (Nat.min_le_left _ _) zkE,vr rfl (q1 HC sAC)⟩))
    rw[List.map_id'] at r7
    refine⟨few rfl,λpe hpe=>?_⟩
    have Se:=Same.new (o:= .lst []) hpe
    have okf:∀d∈((S.take j).map ppD).filter (gTw p),okD d=true:=λd hd=>by
     obtain⟨q',hq',rfl⟩:=G1.mp (X2.mp hd).1
     exact zeN T.names (hS q' (List.mem_of_mem_take hq'))
    refine⟨_,_,zlj (Se _ _ e7) (r7.mono (.of Se)) okf,zgv zc,J1 (M3 _ _) zic,vr rfl ?_⟩
    rw[zmp]
    have s28:=(sC.trans s7).trans Se
    have eS:S.take (j+1)=S.take j ++ [p]:=by rw[O3,eP];rfl
    have F8:=F2.mono (F':=λk=>zbx (zae g hs ps lks hds) L k\/TwinK (S.take j) k) (.of s28) (s28 _) (λ_=> .rfl) (O0 _)
    have gi:=zp4 (p:=p) (S:=S.take j)
    rw[eS]
    cases en:decide (((S.take j).map ppD).filter (gTw p)=[])with
    |true=>
     refine zO rfl ⟨(ex2 _ _ rfl),⟨F8.mono (.refl _) (λ_ z=>z) (λk=>?_) (Nat.le_succ _),⟨vp,s28 _ _ ep3,rp2.mono (.of s28)⟩,s2.trans s28,np⟩,s28 _ _ ep3⟩
     rw[TwinK.snocI,←gi]
     simp only[R0 en,ne_eq,not_true_eq_false,false_and,or_false]
    |false=>
     obtain⟨vf,ks,hvf,rvf,_,_,lvf⟩:=id F8
     refine zN rfl (vr rfl ⟨.inl ⟨rfl,_,SqL.of hvf⟩,vr rfl (ixT (s28 _ _ hpx) (zG hx0) ⟨few rfl,λpt hpt=>?_⟩)⟩)
     have S5:=Same.new (o:= .tup [V.str p.one,V.str "twin"]) hpt
     have lv:=rvf.1
     rw[B0] at lv
     have s29:=s28.trans S5
     refine ex3 lf _ _ ⟨rfl,rfl,S5 _ _ hvf,zl (),(ex2 _ _ rfl),⟨?_,⟨vp,?_,?_⟩,?_,np⟩,?_⟩
     ·refine ((F8.mono (F':=λk=>zbx (zae g hs ps lks hds) L k\/TwinK (S.take j) k) (.of S5) (S5 _) (λ_=> .rfl) (O0 _)).snoc (k:=[p.one,"twin"]) (S5 _ _ hvf) ?_ (zra hp.one)).mono (.refl _) (λ_ z=>z) (λk=>?_) (O0 _)
      ·exact .mk2 zc (.str _ (zy (T.names _ hp.one))) (.str _ `n4)
      ·rw[TwinK.snocI,←gi]
       simp only[of_decide_eq_false en,ne_eq,not_false_eq_true,true_and]
       rw[or_assoc]
     ·rw[zj np];exact s29 _ _ ep3
     ·exact (rp2.mono (.of s29)).mono (.lset (S5 _ _ hvf))
     ·exact Same.put (s2.trans s29) hlf
     ·rw[zj np];exact s29 _ _ ep3
   ·rintro σ' H2 ⟨⟨o6,o7,rfl⟩,⟨F2,_,s2,_⟩,_⟩
    rw[lvp,X3] at F2
    obtain⟨vf,ks,hvf,rvf,hk,hN,lvf⟩:=F2
    refine vr rfl (ex3 lf vf ks ⟨rfl,hvf,znK rvf,λk h=>?_,⟨KL hs,by rw[ziB];lia,λk h=>hN k ((hk k).mp h)⟩,λys p hp nd hy ht hl=>?_⟩)
    ·have:=zjE (hN k ((hk k).mp h))
     lia
    have S3:=Same.new (o:=StT P w p ys) hp
    have hyN:∀k,k∈ys.map (·.1)->k∈KL hs:=λk h=>hN k ((hk k).mp ((hy k).mp h))
    have ly:ys.length<=(KL hs).length:=by
     have:=nodup_len (m:=KL hs) nd hyN
     rwa[B0] at this
    have kl:=ziB (hs:=hs)
    refine ex2 p ys ⟨rfl,zc,λy h=>⟨S3 _ _ (ht y h),?_⟩,(),λks' vs' l' pm pw tu hl'=>?_⟩
    ·have:=zjE (hyN _ (G1.mpr ⟨y,h,rfl⟩))
     lia
    have S4:=Same.new (o:= .lst vs') hl'
    have s4:=s2.trans S3
    refine q l' _ ⟨vs',ks',zc,(zjP tu λk h=>?_).mono (.of S4),pw,λk=>?_,by rw[pm.length_eq,B0];exact ly⟩ (zbI s4 hl') (s4.trans S4)
    ·have h:=hyN k (pm.mem_iff.mp h)
     exact⟨by rw[zjE h];decide,λx hx=>zy ((zk2 T.names h).2 x hx)⟩
    ·rw[pm.mem_iff,hy k,hk k]
     exact(eN k).symm
theorem LsOk.same{u:V}{us:List V}{L:List (Pp×List Pp)}(h:LsOk g hs ps lks hds H u l us L)(s:Same H H'):LsOk g hs ps lks hds H' u l us L:=⟨h.town.same s,h.ok,h.hf,s _ _ h.at_,h.rep.mono (.of s),h.pp,h.few⟩
theorem zox{l':Addr}(hn:∀x∈hs,zg x=true)(hF:∀k,F k->k∈KL hs)(e:∀k,F k↔F' k)(h:NList H l (KL hs) F)(h':NList H l' (KL hs) F'):∃d,Tr H (.ref l) d/\Tr H (.ref l') d/\d.depth<=60/\d.eqv d=true:=by
 obtain⟨vs,ks,h1,h2,h3,h4,_⟩:=h
 obtain⟨vs',ks',h1',h2',h3',h4',_⟩:=h'
 have:=zo2 h3 h3' λk=>(h4 k).trans ((e k).trans (h4' k).symm)
 subst this
 obtain⟨t1,t2⟩:=NList.tr hn hF h1 h2 h4
 obtain⟨t1',_⟩:=NList.tr hn hF h1' h2' h4
 exact⟨_,t1,t1',t2,zoP⟩
noncomputable def zqN(K:W.Frag):Sp:=λvs H Q _=>∃(a:Addr) (ns:List Int),vs=[.ref a]/\SqL K H a (ns.map V.int)/\ns.length<=63/\∀H',Q (.bl true) H'
theorem zlW(Y:Ev K mg){fl:Addr}{fdl:FuncData}(FL:Fun K "law" "law" zr7 fl fdl):FnOk P w K mg base CX0 9 fl fdl zsq (zqN K):=by
 have G__law_hand:Y.zdN.O P w base 1 (znL K):=zp1 Y
 have G__law_mild_town:Y.zbw.O P w base 5 zoz:=zpl Y
 have G__law_letters:Y.zb6.O P w base 7 zhI:=zkW Y
 have G__law_due:Y.zes.O P w base 7 zgc:=zq4 Y
 have G_named:Y.zeR.O P w base 8 zgc:=zm1 Y
 refine FL.okQ ze9 (λvs H Q E h=>?_) `j4
 ·obtain ⟨a,ns,rfl,_⟩:=h;rfl
 ·obtain ⟨b,ns,rfl,hS,hns,q⟩:=h
  refine⟨_,(zh (zbG J3 rfl (zcD Y.range (zb (zn (zmR rfl) Y.max zkJ (zb ze (zb (zn (zhJ rfl) Y.min zh1 (zb ze (zb (zn zJ Y.len zap (zb (qv 0) zd)) zd))) zd))) zd)) (zk 1 ze9.nd) (zh (zI 2 ze9.nd (zH Y.zdN G__law_hand hr (zb (qv 0) (zb (qv 1) zd))))
   (zh (zI 3 ze9.nd (zH Y.zbw G__law_mild_town hr (zb (qv 2) zd)))
   (zh (zI 4 ze9.nd (zH Y.zb6 G__law_letters hr (zb (qv 2) (zb (qv 3) zd))))
   (zh (zI 5 ze9.nd (zH Y.zes G__law_due hr (zb (qv 3) (zb (qv 4) zd))))
   (zh (zI 6 ze9.nd (zH Y.zeR G_named hr (zb (qv 3) (zb (qv 4) zd))))
   (zh (zak (t_w (zcO (zbp (za4 (zn zdk Y.zbE za8 (zb (qv 6) (zb (zmb Y.list zil) zd))))) (zcO (zE (zb0 (zb8 hr)) (qv 6) (qv 5)) (zcZ (zbp (za4 (zn (zbC rfl) Y.all zd8 (zb (zaQ (src:=[none]) zlR rfl rfl (zdT (qv 6)) (λ_ _ _ _ _=>(zk 0 zlR.nd)) (λ_ _ _ _ _=>zdi) (λ_ _ _ _ _=>(zn (zmn (K:=K) rfl) Y.zbE za8 (zb (qv 0) (zb (zmb Y.tuple za6) zd))))) zd)))))))) (zi (zv zbT)) zL)
   (zh (zcB (zf3 F.plainAttrs_list V3 W3 zaV (qv 6) (zb (zM (zb zar (zb zar zd))) zd)))
   (zi (zak (t_w (zcO (zE (zb0 (zb8 hr)) (zH Y.zeR G_named hr (zb (qv 3) (zb (zod (qv 4) (zf6 zcd ze)) zd))) (qv 5)) (zcO (zE (zb0 (zb8 hr)) (zH Y.zeR G_named hr (zb (qv 3) (zb (qv 4) zd))) (qv 5)) (zcZ (zE (zb0 (zb8 hr)) (zH Y.zeR G_named hr (zb (qv 3) (zb (za0 zd) zd))) (za0 zd)))))) (zi (zv zbT)) zL))))))))))
   (zi (zv zbT))),?_⟩
  try dsimp only[zav]
  refine vr rfl (.inl (ex2 b _ ⟨rfl, .inl hS,ex2 _ _ ⟨rfl,ex2 _ _ ⟨rfl,vr rfl ⟨?_,?_,?_⟩⟩⟩⟩))
  ·split<;>(try split)<;>lia
  ·rw[B0]
   split<;>(try split)<;>lia
  let I0:Nat->St->Hp->Prop:=λi σ' H'=>(∃o1 o2 o3 o4 o5 o6,σ'=[some (.ref b),o1,o2,o3,o4,o5,o6])/\Same H H'
  refine zbi zdb I0 ⟨(ex4 _ _ _ _ (ex2 _ _ rfl)),Same.refl H⟩ (λ_ _ _ _=>trivial) ?_ ?_
  ·rintro i y σ' H0 hi rfl ⟨⟨o1,o2,o3,o4,o5,o6,rfl⟩,s0⟩
   have hi':i<1000:=by
    refine E2 hi ?_
    rw[B0]
    split<;>(try split)<;>lia
   refine vr rfl (vr rfl (ex3 b ns _ ⟨rfl,s0.seq hS,(),(),λa H1 ha hH1 s1=>?_⟩))
   refine vr rfl (ex2 a 0 ⟨rfl,hH1,⋯,λv g hs ps lks hds H2 hv T hw hP hSh hH2 k2=>?_⟩)
   obtain⟨O,PO,O13⟩:=hP
   have fw:∀d∈hds,zkl d=true:=λd hd=>zrY (hSh d hd)
   refine vr rfl (vr rfl (ex8 a _ v g hs ps lks hds ⟨O,rfl,hH2,(),hv,T,PO,λl H3 hl LL hH3 k3=>?_⟩))
   obtain⟨us,L,el,rl,hL,lL⟩:=LL
   have OK:LsOk g hs ps lks hds H3 v l us L:=⟨hv.mono (.keep k3 hH2 hH3),T,fw,el,rl,hL,()⟩
   have kl:∀k,NK (zae g hs ps lks hds) L k->k∈KL hs:=λk n=>n.kl OK.one
   have T10:=T.ten
   have kll:=ziB (hs:=hs)
   refine vr rfl (vr rfl (ex8 v l us L g hs ps lks ⟨hds,rfl,OK,λl4 H4 N4 z4 s4=>?_⟩))
   refine vr rfl (vr rfl (ex8 v l us L g hs ps lks ⟨hds,rfl,OK.same s4,λl5 H5 N5 z5 s5=>?_⟩))
   obtain⟨d,t1,t2,dd,de⟩:=zox T.names kl (λ_=> .rfl) N5 (N4.same s5)
   obtain⟨vs5,ks5,e5,r5,_,_,c5⟩:=id N5
   have lv5:=r5.1
   rw[B0] at lv5
   refine vr rfl (ex4 _ _ _ _ ⟨rfl, .lst e5,rfl,vr rfl (zO rfl (vr rfl (vr rfl ⟨_,_,t1,t2,J1 (Nat.min_le_left _ _) dd,vr rfl (zO (by rw[de];rfl) ?_)⟩)))⟩)
   refine vr rfl ⟨l5,rfl,⟨_,SqL.of e5⟩,?_⟩
   refine zdz (g:=zkT) (σr:=[]) (zcW (K:=K)) (λH' s=>SqL.of (s _ _ e5)) r5 (by rw[B0];lia) rfl (λx d HC Q1 sC rx hd q1=>?_) (λl6 H6 s6 hl6 e6=>?_)
   ·obtain ⟨ty,hty,h3,_⟩:=rx.isi (K:=K)
    exact vr rfl (ex4 _ _ _ _ ⟨rfl,hty,h3,q1 HC (Same.refl _)⟩)
   refine ex2 l6 _ ⟨rfl,SqL.of e6,vr rfl ?_⟩
   rw[zbV]
   have ea:(ks5.map tD).all zkT=true:=V1.mpr λd hd=>by
    obtain⟨k,_,rfl⟩:=G1.mp hd
    rfl
   rw[ea]
   refine zO rfl ?_
   have e5':=s6 _ _ e5
   refine vr rfl ⟨.inl ⟨rfl,_,SqL.of e5'⟩,few rfl,λpt hpt=>?_⟩
   have S7:=Same.new (o:= .tup [V.str "aa",V.str "false"]) hpt
   refine ex3 l5 _ _ ⟨rfl,rfl,S7 _ _ e5',zl (),?_⟩
   have s48:Same H4 (upd (upd H6 pt (.tup [V.str "aa",V.str "false"])) l5 (.lst (vs5 ++ [.ref pt]))):=Same.put ((s5.trans s6).trans S7) z5
   generalize (upd (upd H6 pt (HO.tup [V.str "aa",V.str "false"])) l5 (HO.lst (vs5 ++ [V.ref pt])))=H8 at *
   have OK8:=OK.same (s4.trans s48)
   have N8:=N4.same s48
   refine vr rfl (vr rfl (ex2 l us ⟨rfl,SqL.of OK8.at_,λpr hpr=>?_⟩))
   have S9:=Same.new (o:= .lst us.reverse) hpr
   have OK9:=OK8.same S9
   refine ex8 v pr us.reverse L.reverse g hs ps lks ⟨hds,rfl,⟨OK9.town,T,fw,zc,by rw[List.map_reverse];exact OK9.rep.rev,λz hz=>OK9.pp z (List.mem_reverse.mp hz),by rw[List.length_reverse];exact OK9.few⟩,λl9 HA NA zA sA=>?_⟩
   obtain⟨d,t1,t2,dd,de⟩:=zox T.names (λk n=>kl k ((NK.perm λz=>List.mem_reverse).mp n)) (λk=>NK.perm λz=>List.mem_reverse) NA ((N8.same S9).same sA)
   refine vr rfl ⟨_,_,t1,t2,J1 (Nat.min_le_left _ _) dd,vr rfl (zO (by rw[de];rfl) ?_)⟩
   have OKA:=OK9.same sA
   refine vr rfl (vr rfl (ex8 v l us L g hs ps lks ⟨hds,rfl,OKA,λlB HB NB zB sB=>?_⟩))
   obtain⟨d,t1,t2,dd,de⟩:=zox T.names kl (λ_=> .rfl) NB (((N8.same S9).same sA).same sB)
   refine vr rfl ⟨_,_,t1,t2,J1 (Nat.min_le_left _ _) dd,vr rfl (zO (by rw[de];rfl) ?_)⟩
   have OKB:=OKA.same sB
   refine vr rfl ⟨few rfl,λpe hpe=>?_⟩
   have SE:=Same.new (o:= .lst []) hpe
   refine ex8 v pe [] [] g hs ps lks ⟨hds,rfl,⟨OKB.town.same SE,T,fw,zc, .nil,(λ_ z=>nomatch z),K2 _⟩,λlC HC NC zC sC=>?_⟩
   obtain⟨vsC,ksC,eC,rC,_,hC,_⟩:=NC
   have k0:ksC=[]:=List.eq_nil_iff_forall_not_mem.mpr λk hk=>by
    rcases(hC k).mp hk with⟨_,z,_⟩|⟨_,z,_⟩<;>cases z
   subst k0
   have v0:vsC=[]:=List.eq_nil_of_length_eq_zero rC.1
   subst v0
   refine⟨few rfl,λpz hpz=>?_⟩
   have SZ:=Same.new (o:= .lst []) hpz
   have e0:(PyData.list []).eqv (.list [])=true:=ziU (xs:=[]) (ys:=[])
   refine⟨_,_,zgv (SZ _ _ eC),zgv zc,J1 (Nat.min_le_left _ _) zic,vr rfl (zO (by rw[e0];rfl) ?_)⟩
   have sF:=((((s4.trans s48).trans S9).trans sA).trans sB).trans ((SE.trans sC).trans SZ)
   exact⟨(ex4 _ _ _ _ (ex2 _ _ rfl)),λc o e=>sF c o (k3 c o (zr (s0 c o e) ha) (k2 c o (zr (s0 c o e) ha) (s1 c o (s0 c o e))))⟩
  ·rintro σ' H0 ⟨⟨o1,o2,o3,o4,o5,o6,rfl⟩,s0⟩
   exact q H0
theorem walk{l:W.OpenLaw}{q:Program}{d:DefRec}{K:Params->W.Frag}(hn:l.most=some 63)(hdf:d.params.defaults=[])
 (hY:∀(w:World) (h:Heap),YP w h->(K w.params).In h)
 (F:∀(w:World) (mg:Str->Option Value) (h:Heap),(K w.params).In h->h.Ns mainGlobals mg->(∃fa,mg d.name=some (.ref fa))->Ev (K w.params) mg) (hd:d.name="law"):
 W.WalkO q loose XP YP l.row.toRowW d [] (λf vs=>PySem.call f vs):=
 walk_of (n:=63) (k:=9) (x:="_law_script") (CX:=λ_=>CX0) (sp:=λw=>zqN (K w.params)) hn ⋯ hdf ⟨rfl,⋯,⋯,rfl⟩ hY (λw mg fa h X G e=>by
  have Y:=F w mg h X G ⟨_,e⟩
  rw[hd] at e
  cases e.symm.trans Y.law.gl
  refine⟨_,λs v=>?_,λbase _ _=>zlW Y Y.law.fn⟩
  obtain⟨_,_,_,_,_,_,_,_,_,e,_⟩:=Y.law.fn.ex
  rw[e]
  exact .of_eq rfl) (λ_ _ a ns hl _ hS=>(ex2 a ns ⟨rfl,hS,hl,λ_=>rfl⟩)) λ_ _ _ _ _ z=>z
noncomputable def vw:Program:={Challenge.pw_restways_k73_named with main:={Challenge.pw_restways_k73_named.main with body:=([1,2,3,5,6,7,12,13,14,15,16,18,19,21,23,24,25,26,27,28,29,30,31,33,34,35,36,37,38,39,40,41,42,43,44,45,46,47,48,49,50,51,52]:List Nat).filterMap λi=>Challenge.pw_restways_k73_named.main.body[i]?}}
end L2
open PySem PySem.W PyProof.Rows L2
local macro_rules | `(tactic|o_head $H)=> `(tactic|(
 refine holds_open (N:=2782) (q:=vw) (loose:=[(PySem.Str.ofString "holds"),(PySem.Str.ofString "all_hold")]) (YP:=Hook.says $H) (Ya:=Hook.val $H) (Yf:=Hook.obs $H) (XP:=XL vw [])
  (Xt:=λz=>xlAt vw [] z&&recOk [] z) (λw=>by kernel_rfl) (Hook.of $H) (Hook.keeps $H) (λz e=>xl_of z (Bool.and_eq_true_iff.mp e).1) XL.keeps
  (by rfl) (by rfl) (by rfl) (λz e=>recFacts_of (Bool.and_eq_true_iff.mp e).2) (by rfl) (by first|assumption|decide +kernel) (by decide +kernel)
  ⟨rfl,rfl,rfl,rfl,rfl,by decide +kernel⟩ ?hw ?hc))
set_option maxRecDepth 100000 in
set_option maxHeartbeats 0 in
theorem PySem.Challenge.cw_restways_k73_named_holds : PySem.Challenge.rw_restways_k73_named.Holds := by
 w_on;o_law;k_head;(case hw=>w_witness2)
 k_fill
 refine walk (l:=PySem.Challenge.rw_restways_k73_named) rfl rfl (λw h Y=>PySem.W.kIn_of Y) ?F rfl
 case F=>
  intro w mg h KX G _
  constructor
  all_goals first
   |(refine' Fa.mk' KX G ?a ?l ?c ?k ?b
     (case a=>k_is)
     (case l=>k_is)
     (case c=>k_is)
     (case k=>k_is)
     (case b=>first
      |exact λ_ _ _ _ _ _=>of1 λ_=>rfl
      |exact λ_ _ _ _ _ _=>of2 λ_ _=>rfl
      |exact λ_ _ _ _ _ _=>of3 λ_ _ _=>rfl
      |exact λ_ _ _ _ _ _=>of4 λ_ _ _ _=>rfl))
   |(refine' FaD.mk' 3 KX G ?a ?l ?c ?k ?e rfl ?b ?d
     (case a=>k_is)
     (case l=>k_is)
     (case c=>k_is)
     (case k=>k_is)
     (case e=>k_is)
     (case b=>exact λ_ _ _ _ _ _ _=>of4 λ_ _ _ _=>⟨_,rfl,rfl⟩)
     (case d=>exact λ_ _ _ _ _ _ _=>of3 λ_ _ _=>⟨_,rfl,rfl⟩))
   |(refine' PySem.W.mg_none_of KX G ?a
     (case a=>k_is))
   |(refine' Gi.mk' KX G ?a
     (case a=>k_is))
   |(refine' Gt.mk' KX G ?a ?l ?c ?d
     (case a=>k_is)
     (case l=>k_is)
     (case c=>show _<=sizeLine;decide)
     (case d=>repeat' (first|exact .nil|refine .cons ⟨_,rfl⟩ ?_)))
