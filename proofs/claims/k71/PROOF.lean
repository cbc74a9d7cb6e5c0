import PyProof.Rows.All
import Wide.All
import OpenK.AllK
import Wide.FinOn
import Lean
import PyProof.EqAt
import PyProof.EqKinds
import PyProof.TupleCall
import KE.KSortTup
import KE.KDictSum
import PyProof.Rows.SortStr
import PyProof.AutoSeq1
import PyProof.ZipIter
import PyProof.Rows.FStr
import PyProof.Rows.FStrParts
import PyProof.AttrMissHeap
import KE.KDictOf
import PyProof.StrCalls
import KE.KStrOpen
import KE.KRevIter
import PyProof.WalkInts
import KE.KDictList
import PyProof.Rows.SetFrom
import PyProof.SetRoads
import PyProof.DictCompW
import PyProof.DictItems
import KE.KPairComp
import KE.KEqDict
import PyProof.Rows.Range3
import PyProof.WalksMore
import PySem.Challenge.RW_restways_k71_letters_that_are_not_right
abbrev ζa:=@List.length_map
abbrev ζb:=@PySem.wpAny_bind
abbrev ζc:=@PySem.Heap.get?_push_of_some
abbrev ζd:=@List.getElem?_eq_getElem
abbrev ζe:=@List.length_append
abbrev ζf:=@decide_eq_true
abbrev ζg:=@decide_eq_true_iff
abbrev ζh:=@of_decide_eq_true
abbrev ζi:=@List.getElem?_eq_none
abbrev ζj:=@PySem.Heap.get?_push_size
abbrev ζk:=@Nat.le_of_ble_eq_true
abbrev ζl:=@List.mem_of_getElem?
abbrev ζm:=@List.length_take
abbrev ζn:=@PySem.Heap.lt_size
abbrev ζo:=@decide_eq_false
abbrev ζp:=@List.mem_cons_self
abbrev ζq:=@List.getElem?_map
abbrev ζr:=@List.length_drop
abbrev ζs:=@PySem.wpAny_pure
abbrev ζt:=@Bool.and_eq_true
abbrev ζu:=@Nat.le_refl
abbrev ζv:=@List.size_toArray
abbrev ζw:=@List.length_cons
abbrev ξa:=@Nat.lt_or_ge
abbrev ξb:=@Nat.le_trans
abbrev ξc:=@List.map_append
abbrev ξd:=@List.length_singleton
abbrev ξe:=@List.mem_cons_of_mem
abbrev ξf:=@Bool.eq_iff_iff
abbrev ξg:=@Bool.false_ne_true
abbrev ξh:=@Nat.lt_of_lt_of_le
abbrev ξi:=@Nat.le_of_lt
abbrev ξj:=@Option.some.inj
abbrev ξk:=@Nat.zero_le
abbrev ξl:=@Nat.ne_of_lt
set_option Elab.async false
set_option linter.all false
set_option maxRecDepth 100000
namespace L2
open PySem PySem.Spec PyProof.Rows
noncomputable abbrev Key:=Sum Int Str
noncomputable def zhl:Key->Value->Bool
 | .inl k,v=>Value.isInt k v
 | .inr x,v=>Value.isStrOf x v
noncomputable def zrh(w:World):Key->Int
 | .inl k=>hashInt k
 | .inr x=>hashStr w x
theorem zaQ:∀{k:Key} {v:Value},zhl k v=true->(∃i t,k=Sum.inl i/\v=Value.int i t)\/(∃x t,k=Sum.inr x/\v=Value.str x t)
 | .inl i,v,h=>by
   obtain⟨t,e⟩:=Value.isInt_shape (k:=i) (v:=v) h
   exact .inl ⟨i,t,rfl,e⟩
 | .inr x,v,h=>by
   obtain⟨t,e⟩:=Value.isStrOf_shape (x:=x) (v:=v) h
   exact .inr ⟨x,t,rfl,e⟩
theorem zla(i:Int)(t:Tok):zhl (.inl i) (.int i t)=true:=by simp[zhl,Value.isInt]
theorem zl1(x:Str)(t:Tok):zhl (.inr x) (.str x t)=true:=by simp[zhl,Value.isStrOf]
theorem zqj(a b:Int):decide ((Sum.inl a:Key)=Sum.inl b)=(a==b):=by
 by_cases e:a=b
 ·subst e;simp
 ·have h:¬(Sum.inl a:Key)=Sum.inl b:=λq=>e (Sum.inl.inj q)
  rw[ζo h]
  exact(beq_eq_false_iff_ne.mpr e).symm
theorem zpX(a b:Str):decide ((Sum.inr a:Key)=Sum.inr b)=decide (a=b):=by
 by_cases e:a=b
 ·subst e;simp
 ·have h:¬(Sum.inr a:Key)=Sum.inr b:=λq=>e (Sum.inr.inj q)
  rw[ζo h,ζo e]
theorem zqh(a:Int)(b:Str):decide ((Sum.inl a:Key)=Sum.inr b)=false:=ζo (λq=>nomatch q)
theorem zp3(a:Str)(b:Int):decide ((Sum.inr a:Key)=Sum.inl b)=false:=ζo (λq=>nomatch q)
noncomputable def zaA(prog:Program)(w:World):PySem.KeyKind prog w Key where
 is:=zhl
 hash:=zrh w
 inj:=λv a b ha hb=>by
  rcases zaQ ha with⟨i,t,rfl,rfl⟩|⟨x,t,rfl,rfl⟩
  ·rcases zaQ hb with⟨j,u,rfl,e⟩|⟨y,u,rfl,e⟩
   ·injection e with e1 _;rw[e1]
   ·exact nomatch e
  ·rcases zaQ hb with⟨j,u,rfl,e⟩|⟨y,u,rfl,e⟩
   ·exact nomatch e
   ·injection e with e1 _;rw[e1]
 byValue:=λk v h=>by
   rcases zaQ h with⟨i,t,rfl,rfl⟩|⟨x,t,rfl,rfl⟩<;>rfl
 pyHash:=λhv h=>by
  rcases zaQ hv with⟨i,t,rfl,rfl⟩|⟨x,t,rfl,rfl⟩
  ·exact wpAny_pyHash_int h
  ·exact wpAny_pyHash_str h
 eqBool:=λhu hv h=>by
  rcases zaQ hu with⟨i,t,rfl,rfl⟩|⟨x,t,rfl,rfl⟩
  ·rcases zaQ hv with⟨j,u,rfl,rfl⟩|⟨y,u,rfl,rfl⟩
   ·rw[zqj] at h;exact wpAny_eqBool_int h
   ·rw[zqh] at h;exact SeqAt.EqAt.int_str i t y u _ _ _ _ h
  ·rcases zaQ hv with⟨j,u,rfl,rfl⟩|⟨y,u,rfl,rfl⟩
   ·rw[zp3] at h;exact SeqAt.EqAt.str_int x t j u _ _ _ _ h
   ·rw[zpX] at h;exact wpAny_eqBool_str h
 «strs»:=λk x t v h=>by
  rcases zaQ h with⟨i,u,rfl,e⟩|⟨y,u,rfl,e⟩
  ·exact nomatch e
  ·injection e with e1 _
   subst e1
   cases v<;>rfl
theorem zin(prog:Program)(w:World)(i:Int)(t:Tok):(zaA prog w).is (.inl i) (.int i t)=true:=zla i t
theorem zd7(prog:Program)(w:World)(x:Str)(t:Tok):(zaA prog w).is (.inr x) (.str x t)=true:=zl1 x t
inductive V where
 |non|bl (b:Bool)|int (i:Int)|str (x:Str)|byt (b:Array UInt8)|flt (b:UInt64)|ref (a:Addr)|ty (n:String)
 deriving DecidableEq
def RelV:V->Value->Prop
 | .non,u=>u=Value.none
 | .bl b,u=>u=Value.bool b
 | .int i,u=>∃t,u=Value.int i t
 | .str x,u=>∃t,u=Value.str x t
 | .byt b,u=>∃t,u=Value.bytes b t
 | .flt b,u=>∃t,u=Value.float b t
 | .ref a,u=>u=Value.ref a
 | .ty n,u=>u=Value.type n
abbrev Vals:List V->List Value->Prop:=Paired RelV
theorem Vals.length{xs:List V}{us:List Value}(r:Vals xs us):xs.length=us.length:=Paired.length r
theorem Vals.get:∀{xs:List V} {us:List Value} {i:Nat} {x:V},Vals xs us->xs[i]?=some x->∃u,us[i]?=some u/\RelV x u
 |_,_,_,_, .nil,e=>by simp at e
 |_,_,0,_, .cons r _,e=>by simp at e;subst e;exact⟨_,rfl,r⟩
 |_,_,i+1,x, .cons _ t,e=>by
  obtain⟨u,h1,h2⟩:=Vals.get (i:=i) (x:=x) t (by simpa using e)
  exact⟨u,by simpa using h1,h2⟩
theorem Vals.set{x:V}{u:Value}(r:RelV x u):∀{xs:List V} {us:List Value} (i:Nat),Vals xs us->Vals (xs.set i x) (us.set i u)
 |_,_,_, .nil=> .nil
 |_,_,0, .cons _ t=> .cons r t
 |_,_,i+1, .cons q t=> .cons q (Vals.set r i t)
theorem Vals.append:∀{xs ys:List V} {us ws:List Value},Vals xs us->Vals ys ws->Vals (xs ++ys) (us ++ws)
 |_,_,_,_, .nil,s=>s
 |_,_,_,_, .cons r t,s=> .cons r (Vals.append t s)
theorem Vals.take:∀{xs:List V} {us:List Value} (n:Nat),Vals xs us->Vals (xs.take n) (us.take n)
 |_,_,0,_=> .nil
 |_,_,_+1, .nil=> .nil
 |_,_,n+1, .cons r t=> .cons r (Vals.take n t)
theorem Vals.drop:∀{xs:List V} {us:List Value} (n:Nat),Vals xs us->Vals (xs.drop n) (us.drop n)
 |_,_,0,r=>r
 |_,_,_+1, .nil=> .nil
 |_,_,n+1, .cons _ t=>Vals.drop n t
def RelO:Option V->Option Value->Prop
 |some v,some u=>RelV v u
 |none,none=>True
 |_,_=>False
def KV{κ:Type}:List (κ×V)->List (κ×Value)->Prop:=Paired λ(p:κ×V) (q:κ×Value)=>p.1=q.1/\RelV p.2 q.2
noncomputable def kV:Key->V
 | .inl i=> .int i
 | .inr x=> .str x
inductive HO where
 |lst (xs:List V)
 |tup (xs:List V)
 |dK (kvs:List (Key×V))|dT (kvs:List (List Key×V))
 |set (S:Int->Bool) (n:Nat)
 |ins (C dx:Addr) (fs:List (Str×V))
 |own (x:Addr)
 |xd (fs:List (Str×V))
 |met (f x:Addr)
 |rng (lo hi:Int)
 |frz (o:Obj) (u:HO)
 |tbl (ps:Array Value)
 |ext (φ:Heap->Prop)
noncomputable abbrev Hp:=Addr->Option HO
noncomputable def upd(H:Hp)(a:Addr)(o:HO):Hp:=λb=>if b=a then some o else H b
theorem zd{H:Hp}{a:Addr}{o:HO}:upd H a o a=some o:=by unfold upd;rw[if_pos rfl]
theorem zr{H:Hp}{a b:Addr}{o:HO}(h:b≠a):upd H a o b=H b:=by unfold upd;rw[if_neg h]
theorem zkN{H:Hp}{a:Addr}{o u:HO}:upd (upd H a o) a u=upd H a u:=by
 funext b;unfold upd;split<;>rfl
theorem zra{H:Hp}{a b:Addr}{o u:HO}(h:H a=some o)(h':H b=some u)(d:o≠u):a≠b:=by
 intro e;subst e;rw[h] at h';exact d (ξj h')
theorem zB{H:Hp}{a b:Addr}{o:HO}(h:H a=some o)(h':H b=none):a≠b:=by
 intro e;subst e;rw[h] at h';cases h'
section
variable(P:Program)(w:World)
def NoDict(h:Heap)(a:Addr):Prop:=∀o,h.get? a=some o->o.dict=none
theorem NoDict.new{h:Heap}{o:Obj}(e:o.dict=none)(f:(h.push o).get? h.objs.size=some o):NoDict (h.push o) h.objs.size:=λo' z=>by rw[f] at z;cases z;exact e
def ObjOk(H:Hp)(h:Heap)(a:Addr):HO->Prop
 | .lst xs=>xs.length<=sizeLine/\∃(its:List Value) (n:Nat),Vals xs its/\h.get? a=some {cls:= .type "list",data:= .seq its.toArray n}
 | .tup xs=>xs.length<=sizeLine/\∃its:List Value,Vals xs its/\IsTup h a its.toArray/\NoDict h a
 | .dK kvs=>kvs.length<=sizeLine/\(a==sysModules)=false/\∃vs,KV kvs vs/\h.DictOf (zaA P w) a vs
 | .dT kvs=>kvs.length<=sizeLine/\(a==sysModules)=false/\∃xs:List (List Key×Addr×Value),
    Paired (λ(p:List Key×V) (q:List Key×Addr×Value)=>p.1=q.1/\H q.2.1=some (.tup (p.1.map kV))/\RelV p.2 q.2.2) kvs xs/\
    ∃o es ep,h.get? a=some o/\o.ExactDict/\o.data= .dict es ep/\es.toList=xs.map (entryOfKey (tupleKind (zaA P w)))/\(xs.map (·.1)).Nodup
 | .set S n=>h.SetOf (intKind P w) a S n
 | .ins C dx fs=>H dx=some (.own a)/\fs.length<=1000/\dx≠a/\h.get? a=some (PySem.W.instObj C dx)/\
    ∃mA,h.Ns1 dx mA/\(∀f,RelO (fs.lookup f) (mA f))/\PySem.Within mA (fs.map (·.1))
 | .own _=>∃o,h.get? a=some o
 | .xd fs=>∃mA,h.Ns1 a mA/\∀f,RelO (fs.lookup f) (mA f)
 | .rng lo hi=>∃t u v,h.get? a=some {cls:= .type "range",data:= .fields #[.int lo t, .int hi u, .int 1 v]}
 | .frz o u=>h.get? a=some o/\ObjOk H h a u
 | .tbl ps=>h.get? a=some {cls:= .none,data:= .fields ps}
 | .met f x=>h.get? a=some (PySem.W.methodObj (.ref f) (.ref x))
 | .ext φ=>φ h/\(∃o,h.get? a=some o)/\∀h1 h2:Heap,φ h1->(∀o,h1.get? a=some o->h2.get? a=some o)->φ h2
def HOk(H:Hp)(h:Heap):Prop:=∀a o,H a=some o->ObjOk P w H h a o
end
section
variable{P:Program}{w:World}{H H':Hp}{h h':Heap}{a:Addr}{o:HO}
theorem ObjOk.lt(x:ObjOk P w H h a o):a<h.objs.size:=by
 cases o with
 |lst xs=>obtain ⟨_,_,_,_,e⟩:=x;exact ζn e
 |tup xs=>obtain ⟨_,_,_,p,_⟩:=x;exact p.lt
 |dK kvs=>obtain ⟨_,_,_,_,o,_,_,e,_⟩:=x;exact ζn e
 |dT kvs=>obtain ⟨_,_,_,_,o,_,_,e,_⟩:=x;exact ζn e
 |set S n=>obtain ⟨o,_,_,_,e,_⟩:=x;exact ζn e
 |ins C dx fs=>obtain ⟨_,_,_,e,_⟩:=x;exact ζn e
 |own y=>obtain ⟨_,e⟩:=x;exact ζn e
 |xd fs=>obtain ⟨_,⟨_,_,_,e,_⟩,_⟩:=x;exact ζn e
 |rng lo hi=>obtain ⟨_,_,_,e⟩:=x;exact ζn e
 |frz ob u=>obtain ⟨e,_⟩:=x;exact ζn e
 |tbl ps=>exact ζn (show h.get? a=some _ from x)
 |met f y=>exact ζn (show h.get? a=some _ from x)
 |ext φ=>obtain ⟨_,⟨_,e⟩,_⟩:=x;exact ζn e
theorem Paired.mapP{α β:Type}{F G:α->β->Prop}:∀{l₁:List α} {l₂:List β},Paired F l₁ l₂->(∀a b,F a b->G a b)->Paired G l₁ l₂
 |_,_, .nil,_=> .nil
 |_,_, .cons r t,f=> .cons (f _ _ r) (Paired.mapP t f)
theorem ObjOk.stay(x:ObjOk P w H h a o)(k:∀b u,(b=a\/H b=some (.own a))->h.get? b=some u->h'.get? b=some u)
 (ho:∀b,H b=some (.own a)->H' b=some (.own a)) (ht:∀b xs,H b=some (.tup xs)->H' b=some (.tup xs)):ObjOk P w H' h' a o:=by
 induction o with
 |lst xs=>obtain ⟨z,its,n,r,e⟩:=x;exact⟨z,its,n,r,k _ _ (.inl rfl) e⟩
 |tup xs=>obtain ⟨z,its,r,⟨ob,e,c⟩,nd⟩:=x;exact⟨z,its,r,⟨ob,k _ _ (.inl rfl) e,c⟩,λo q=>by rw[k _ _ (.inl rfl) e] at q;cases q;exact nd _ e⟩
 |dK kvs=>obtain ⟨z,y,vs,r,ob,es,ep,e,c⟩:=x;exact⟨z,y,vs,r,ob,es,ep,k _ _ (.inl rfl) e,c⟩
 |dT kvs=>
  obtain⟨z,y,xs,r,ob,es,ep,e,c⟩:=x
  exact⟨z,y,xs,Paired.mapP r λp q z=>⟨z.1,ht _ _ z.2.1,z.2.2⟩,ob,es,ep,k _ _ (.inl rfl) e,c⟩
 |set S n=>obtain ⟨ob,es,ep,t,e,c⟩:=x;exact⟨ob,es,ep,t,k _ _ (.inl rfl) e,c⟩
 |ins C dx fs=>
  obtain⟨d,z,ne,e,mA,⟨od,es,ep,e2,c⟩,r⟩:=x
  exact⟨ho _ d,z,ne,k _ _ (.inl rfl) e,mA,⟨od,es,ep,k _ _ (.inr d) e2,c⟩,r⟩
 |own y=>obtain ⟨ob,e⟩:=x;exact⟨ob,k _ _ (.inl rfl) e⟩
 |xd fs=>obtain ⟨mA,⟨od,es,ep,e,c⟩,r⟩:=x;exact⟨mA,⟨od,es,ep,k _ _ (.inl rfl) e,c⟩,r⟩
 |rng lo hi=>obtain ⟨t,u,v,e⟩:=x;exact⟨t,u,v,k _ _ (.inl rfl) e⟩
 |frz ob u ih=>obtain ⟨e,q⟩:=x;exact⟨k _ _ (.inl rfl) e,ih q⟩
 |tbl ps=>
  have e:h.get? a=some {cls:= .none,data:= .fields ps}:=x
  show h'.get? a=some {cls:= .none,data:= .fields ps}
  exact k a _ (.inl rfl) e
 |met f y=>
  have e:h.get? a=some (PySem.W.methodObj (.ref f) (.ref y)):=x
  show h'.get? a=some (PySem.W.methodObj (.ref f) (.ref y))
  exact k a _ (.inl rfl) e
 |ext φ=>obtain ⟨p,⟨o,e⟩,st⟩:=x;exact⟨st _ _ p λo q=>k _ _ (.inl rfl) q,⟨o,k _ _ (.inl rfl) e⟩,st⟩
theorem HOk.lt(x:HOk P w H h)(e:H a=some o):a<h.objs.size:=(x a o e).lt
theorem HOk.fresh(x:HOk P w H h)(e:h.objs.size<=a):H a=none:=by
 cases q:H a with
 |none=>rfl
 |some u=>exact absurd (ξh (x.lt q) e) (Nat.lt_irrefl _)
theorem HOk.kept(x:HOk P w H h)(k:∀b u,h.get? b=some u->h'.get? b=some u):HOk P w H h':=λa o e=>
 (x a o e).stay (λb u _ q=>k b u q) (λ_ q=>q) λ_ _ q=>q
theorem HOk.laid(x:HOk P w H h)(k:∀b u,h.get? b=some u->h'.get? b=some u)(hp:h.objs.size<=a)(new:ObjOk P w (upd H a o) h' a o):HOk P w (upd H a o) h':=λb u e=>by
 have hn:=x.fresh hp
 by_cases hb:b=a
 ·subst hb;rw[zd] at e;cases e;exact new
 ·rw[zr hb] at e
  exact(x b u e).stay (λc v _ q=>k c v q) (λc q=>by rw[zr (zB q hn)];exact q) λc xs q=>by rw[zr (zB q hn)];exact q
end
def Rd(H:Hp)(a:Addr)(u:HO):Prop:=H a=some u\/∃o,H a=some (.frz o u)
theorem Rd.ok{P:Program}{w:World}{H:Hp}{h:Heap}{a:Addr}{u:HO}(r:Rd H a u)(x:HOk P w H h):ObjOk P w H h a u:=by
 rcases r with r|⟨o,r⟩
 ·exact x a u r
 ·obtain ⟨_,q⟩:=x a _ r
  exact q
def Mut:Option HO->Prop
 |some (.lst _)=>True
 |some (.dK _)=>True
 |some (.dT _)=>True
 |some (.set _ _)=>True
 |some (.ins _ _ _)=>True
 |some (.ext _)=>True
 |_=>False
section
variable{P:Program}{w:World}{H:Hp}{h h':Heap}{x e:Addr}{o':HO}
theorem HOk.write(ok:HOk P w H h)(mu:Mut (H x))(he:e=x\/H e=some (.own x))(k:∀b u,b≠e->h.get? b=some u->h'.get? b=some u)(heo:∃u,h'.get? e=some u)
 (new:ObjOk P w (upd H x o') h' x o'):HOk P w (upd H x o') h':=λb u q=>by
 have nown:∀c y,H c=some (.own y)->c≠x:=λc y r z=>by subst z;rw[r] at mu;exact mu
 have ntup:∀c xs,H c=some (.tup xs)->c≠x:=λc xs r z=>by subst z;rw[r] at mu;exact mu
 by_cases hb:b=x
 ·subst hb;rw[zd] at q;cases q;exact new
 ·rw[zr hb] at q
  by_cases hbe:b=e
  ·have q':H b=some (.own x):=by
    rcases he with z|z
    ·exact absurd (hbe.trans z) hb
    ·rw[hbe];exact z
   rw[q] at q';cases q'
   obtain⟨v,hv⟩:=heo
   exact⟨v,by rw[hbe];exact hv⟩
  ·refine (ok b u q).stay (λc v hc r=>k c v ?_ r) (λc r=>by rw[zr (nown c b r)];exact r) λc xs r=>by rw[zr (ntup c xs r)];exact r
   rcases hc with rfl|hc
   ·exact hbe
   ·rintro rfl
    rcases he with z|z
    ·exact nown c b hc z
    ·rw[hc] at z;cases z;exact hb rfl
end
structure Un(fs ex:List Addr)(H H':Hp)(h h':Heap):Prop where
 keep:∀b o,h.get? b=some o->H b=none->b∉fs->b∉ex->h'.get? b=some o
 slot:∀b o,h.get? b=some o->H b=none->b∈fs->b∉ex->∃sl,h'.get? b=some {o with slots:=sl}
 free:∀b o,h.get? b=some o->H b=none->b∉ex->H' b=none
 there:∀b o,h.get? b=some o->b∉ex->∃o',h'.get? b=some o'
 tups:∀b xs,H b=some (.tup xs)->H' b=some (.tup xs)
 frzs:∀b o u,H b=some (.frz o u)->H' b=some (.frz o u)
 tbls:∀b ps,H b=some (.tbl ps)->∃more,H' b=some (.tbl (ps ++more))
section
variable{fs fs' ex ex':List Addr}{H H1 H2:Hp}{h h1 h2 h':Heap}{a x e:Addr}{o:HO}
theorem Un.any(u:Un fs ex H H1 h h1){b:Addr}{ob:Obj}(q:h.get? b=some ob)(n:H b=none)(hx:b∉ex):∃sl,h1.get? b=some {ob with slots:=sl}:=by
 by_cases hb:b∈fs
 ·exact u.slot b ob q n hb hx
 ·exact ⟨ob.slots,u.keep b ob q n hb hx⟩
theorem Un.kept(k:∀b u,h.get? b=some u->h'.get? b=some u):Un fs ex H H h h':=
 ⟨λb ob q _ _ _=>k b ob q,λb ob q _ _ _=>⟨ob.slots,k b ob q⟩,λ_ _ _ n _=>n,λb ob q _=>⟨ob,k b ob q⟩,λ_ _ q=>q,λ_ _ _ q=>q,λ_ ps q=>⟨#[],by rw[q];simp⟩⟩
theorem Un.refl:Un fs ex H H h h:=Un.kept λ_ _ q=>q
theorem Un.laid(k:∀b u,h.get? b=some u->h'.get? b=some u)(hp:h.objs.size<=a)(hn:H a=none):Un fs ex H (upd H a o) h h' where
 keep:=λb u q _ _ _=>k b u q
 slot:=λb u q _ _ _=>⟨u.slots,k b u q⟩
 free:=λb u q n _=>by rw[zr (ξl (ξh (ζn q) hp))];exact n
 there:=λb u q _=>⟨u,k b u q⟩
 tups:=λb xs q=>by rw[zr (zB q hn)];exact q
 frzs:=λb u xs q=>by rw[zr (zB q hn)];exact q
 tbls:=λb ps q=>⟨#[],by rw[zr (zB q hn),q];simp⟩
theorem Un.write(mu:Mut (H x))(he:e=x\/H e=some (.own x))(k:∀b u,b≠e->h.get? b=some u->h'.get? b=some u)(heo:∃u,h'.get? e=some u):Un fs ex H (upd H x o) h h':=by
 have hx:∀b,H b=none->b≠x:=λb n z=>by subst z;rw[n] at mu;exact mu
 have hb:∀b,H b=none->b≠e:=λb n z=>by
  subst z
  rcases he with r|r
  ·exact hx b n r
  ·rw[n] at r;cases r
 have hm:∀b u,H b=some u->¬Mut (some u)->b≠x:=λb u q nm z=>by subst z;rw[q] at mu;exact nm mu
 refine⟨λb u q n _ _=>k b u (hb b n) q,λb u q n _ _=>⟨u.slots,k b u (hb b n) q⟩,λb u q n _=>by rw[zr (hx b n)];exact n,λb u q _=>?_,
  λb xs q=>by rw[zr (hm b _ q λz=>z)];exact q,λb u xs q=>by rw[zr (hm b _ q λz=>z)];exact q,λb ps q=>⟨#[],by rw[zr (hm b _ q λz=>z),q];simp⟩⟩
 by_cases hbe:b=e
 ·subst hbe;exact heo
 ·exact ⟨u,k b u hbe q⟩
end
noncomputable def trk(h:Heap)(H:Hp):List Addr:=(List.range h.objs.size).filter λa=>(H a).isSome
noncomputable def zh4(h:Heap)(H:Hp):Heap:=PySem.W.hideAll h (trk h H)
theorem zlJ(h:Heap)(H:Hp):(zh4 h H).objs.size=h.objs.size:=PySem.W.hideAll_size _ _
theorem znK{h:Heap}{H:Hp}{b:Addr}{o:Obj}(e:h.get? b=some o)(n:H b=none):(zh4 h H).get? b=some o:=
 PySem.W.hideAll_get _ e λhm=>by
  have q:(H b).isSome=true:=(List.mem_filter.mp hm).2
  rw[n] at q;simp at q
theorem zo3{h:Heap}{H:Hp}{b:Addr}{o:Obj}(e:(zh4 h H).get? b=some o):h.get? b=some o/\H b=none:=by
 have e':h.get? b=some o:=PySem.W.of_hideAll (trk h H) e
 refine⟨e',?_⟩
 cases q:H b with
 |none=>rfl
 |some x=>
  have hm:b∈trk h H:=List.mem_filter.mpr ⟨List.mem_range.mpr (ζn e'),by simp[q]⟩
  have z:(zh4 h H).get? b=none:=PySem.W.hideAll_none (trk h H) hm
  rw[z] at e;cases e
structure Mod(K:PySem.W.Frag)(mg:Str->Option Value)(base:Heap):Prop where
 kin:K.In base
 glob:base.Ns mainGlobals mg
 blt:∃mb,base.Ns builtinsNs mb/\∀x:Str,x≠"__name__"->mb x=bootBuiltins x
 nolimit:base.NoLimit
structure Cx where
 prog:Program
 w:World
 K:PySem.W.Frag
 mg:Str->Option Value
 base:Heap
 A:Around
 N:List Str
 s₀:Shared
 H₀:Hp
 env:Env
 outer:List Env
 stack:List Env
 ex:List Addr
 fn:Str->Bool
 calm:Bool
 pn:List (Addr×Obj)
 xe:Value->Shared->Prop
noncomputable def frs(l:List Env):List Addr:=l.filterMap (·.frame)
noncomputable abbrev Cx.fs(X:Cx):List Addr:=frs X.outer
def Vis(sc:Scope)(x:Str):Prop:=sc.names.lookup x=some .local\/sc.names.lookup x=some .cell\/sc.names.lookup x=some .free
def Loc(sc:Scope)(x:Str):Prop:=sc.names.lookup x=some .local\/sc.names.lookup x=some .cell
def zrE(env:Env)(h:Heap)(m:Str->Option Value)(x:Str)(u:Value):Prop:=
 (env.kindOf x=some .local/\m x=some u)\/((env.kindOf x=some .cell\/env.kindOf x=some .free)/\∃c,env.cells.lookup x=some c/\h.IsCell c (some u))
structure Cx.Ok(X:Cx):Prop where
 mod:Mod X.K X.mg X.base
 kind:X.env.scope.kind= .function
 glob:X.env.globals=mainGlobals
 blt:X.env.builtins=builtinsNs
 above:X.s₀.heap.objs.size<=X.env.locals
 inj:∀x y c,X.env.cells.lookup x=some c->X.env.cells.lookup y=some c->x=y
 has:∀x,(X.env.kindOf x=some .cell\/X.env.kindOf x=some .free)->∃c,X.env.cells.lookup x=some c
 cab:∀x c,X.fn x=true->X.env.cells.lookup x=some c->X.s₀.heap.objs.size<=c
 hd:X.calm=true->X.A.handled=none
 frames:X.A.frames=some X.stack
 stk:X.stack=X.outer\/(X.stack=X.env::X.outer/\X.env.frame=some X.env.locals)
 exf:∀b∈X.ex,b≠X.env.locals/\∀x c,X.env.cells.lookup x=some c->c≠b
 bs:∀b o,X.base.get? b=some o->X.s₀.heap.get? b=some o/\X.H₀ b=none
 bsz:X.base.objs.size<=X.s₀.heap.objs.size
 noex:∀b o,X.base.get? b=some o->b∉X.ex
 exfs:∀b∈X.ex,b∉X.fs
 funs:X.s₀.heap.FunFrames X.base X.outer
 frf:∀b∈X.fs,X.H₀ b=none
structure Inv(X:Cx)(pins:List (Addr×Obj))(σ:List (Option V))(H:Hp)(s:Shared):Prop where
 ok:X.Ok
 os:s.os=X.s₀.os
 bare:AllBare s.gens
 base:Un X.fs X.ex X.H₀ H X.s₀.heap s.heap
 loc:∃m,s.heap.Ns X.env.locals m/\∀(i:Nat) (x:Str) (v:V),X.N[i]?=some x->σ[i]?=some (some v)->Vis X.env.scope x->∃u,RelV v u/\zrE X.env s.heap m x u
 cell:∀x c,X.env.cells.lookup x=some c->∃v,s.heap.IsCell c v
 free:H X.env.locals=none
 freeC:∀x c,X.env.cells.lookup x=some c->H c=none
 pin:∀p∈X.pn ++pins,s.heap.get? p.1=some p.2/\H p.1=none/\p.1≠X.env.locals/\p.1∉X.fs/\∀v,p.2.data≠ .cell v
 hok:HOk X.prog X.w H s.heap
 len:σ.length=X.N.length
section
variable{X:Cx}{pins:List (Addr×Obj)}{σ:List (Option V)}{H H':Hp}{s:Shared}{h':Heap}
theorem Cx.Ok.nofr(ok:X.Ok){b:Addr}{o:Obj}(e:X.base.get? b=some o):b∉X.fs:=λhb=>by
 have:=(ok.funs.mem hb).1
 rw[e] at this;cases this
theorem Inv.bs(I:Inv X pins σ H s):∀b o,X.base.get? b=some o->s.heap.get? b=some o/\H b=none:=λb o e=>
 ⟨I.base.keep b o (I.ok.bs b o e).1 (I.ok.bs b o e).2 (I.ok.nofr e) (I.ok.noex b o e),I.base.free b o (I.ok.bs b o e).1 (I.ok.bs b o e).2 (I.ok.noex b o e)⟩
theorem Inv.bk(I:Inv X pins σ H s):∀b o,X.base.get? b=some o->s.heap.get? b=some o:=λb o e=>(I.bs b o e).1
theorem Inv.mod(I:Inv X pins σ H s):Mod X.K X.mg X.base:=I.ok.mod
theorem Inv.kIn(I:Inv X pins σ H s):X.K.In s.heap:=I.ok.mod.kin.keeps I.bk
theorem Inv.lt(I:Inv X pins σ H s):X.env.locals<s.heap.objs.size:=let⟨_,hn,_⟩:=I.loc;hn.lt
theorem Inv.sz(I:Inv X pins σ H s):X.s₀.heap.objs.size<=s.heap.objs.size:=ξb I.ok.above (ξi I.lt)
theorem Inv.nofs(I:Inv X pins σ H s){a:Addr}(h:s.heap.objs.size<=a):a∉X.fs:=λhb=>by
 obtain⟨_,o,ho,_⟩:=I.ok.funs.mem hb
 exact absurd (ξh (ζn ho) (ξb I.sz h)) (Nat.lt_irrefl _)
theorem Inv.cne(I:Inv X pins σ H s):∀x c,X.env.cells.lookup x=some c->c≠X.env.locals:=λx c e z=>by
 obtain⟨v,o,ho,hd⟩:=I.cell x c e
 obtain⟨m,⟨o',es,ep,ho',hd',_⟩,_⟩:=I.loc
 rw[z,ho'] at ho;cases ho;rw[hd'] at hd;cases hd
theorem Inv.funs(I:Inv X pins σ H s):s.heap.FunFrames X.base X.outer:=by
 have all:∀(l:List Env),(∀b∈frs l,b∈X.fs)->X.s₀.heap.FunFrames X.base l->s.heap.FunFrames X.base l:=by
  intro l
  induction l with
  |nil=>intro _ _;trivial
  |cons env r ih=>
   intro hs hl
   obtain⟨hk,⟨L,o,hf,hn,ho,hd⟩,hr⟩:=hl
   have hL:L∈X.fs:=hs L (by unfold frs;rw[List.filterMap_cons,hf];exact ζp)
   obtain⟨sl,e⟩:=I.base.slot L o ho (I.ok.frf L hL) hL λz=>I.ok.exfs L z hL
   exact⟨hk,⟨L,_,hf,hn,e,hd⟩,ih (λb hb=>hs b (by unfold frs;rw[List.filterMap_cons,hf];exact ξe _ hb)) hr⟩
 exact all X.outer (λ_ hb=>hb) I.ok.funs
theorem Inv.stack(I:Inv X pins σ H s):s.heap.FunFrames X.base X.stack:=by
 rcases I.ok.stk with e|⟨e,hf⟩
 ·rw[e];exact I.funs
 ·rw[e]
  obtain⟨m,hn,_⟩:=I.loc
  refine .cons (by rw[I.ok.kind];decide) hf hn ?_ I.funs
  exact Heap.get?_none_of_le (ξb I.ok.bsz I.ok.above)
theorem Inv.stkSub(I:Inv X pins σ H s):∀b∈frs X.stack,b∈X.env.locals::X.fs:=λb hb=>by
 rcases I.ok.stk with e|⟨e,hf⟩
 ·rw[e] at hb;exact ξe _ hb
 ·rw[e] at hb
  unfold frs at hb
  rw[List.filterMap_cons,hf] at hb
  exact hb
theorem Inv.stkFree(I:Inv X pins σ H s):∀b∈frs X.stack,H b=none:=λb hb=>by
 rcases List.mem_cons.mp (I.stkSub b hb)with e|hb
 ·rw[e];exact I.free
 ·obtain ⟨_,o,ho,_⟩:=I.ok.funs.mem hb
  exact I.base.free b o ho (I.ok.frf b hb) λz=>I.ok.exfs b z hb
theorem Inv.step{g':Array GenState}{t':Nat}{d':Drawn}{ch:List Addr}(I:Inv X pins σ H s)
 (hch:∀b∈ch,(b∈X.ex\/X.s₀.heap.objs.size<=b)/\b≠X.env.locals/\(∀x c,X.env.cells.lookup x=some c->c≠b)/\∀p∈X.pn ++pins,p.1≠b)
 (keep:∀b o,b≠X.env.locals->b∉X.fs->b∉ch->s.heap.get? b=some o->H b=none->h'.get? b=some o)
 (slot:∀b o,b≠X.env.locals->b∈X.fs->b∉ch->s.heap.get? b=some o->H b=none->∃sl,h'.get? b=some {o with slots:=sl}) (free:∀b o,b∉ch->s.heap.get? b=some o->H b=none->H' b=none)
 (there:∀b o,b∉ch->s.heap.get? b=some o->∃o',h'.get? b=some o')
 (tups:∀b xs,H b=some (.tup xs)->H' b=some (.tup xs)) (frzs:∀b o u,H b=some (.frz o u)->H' b=some (.frz o u)) (tbls:∀b ps,H b=some (.tbl ps)->∃more,H' b=some (.tbl (ps ++more)))
 (ns:∀m,s.heap.Ns X.env.locals m->h'.Ns X.env.locals m) (hok:HOk X.prog X.w H' h') (hg:AllBare g'):
 Inv X pins σ H' {s with heap:=h',gens:=g',drawn:=d',toks:=t'}:=by
 have neL:∀b o,X.s₀.heap.get? b=some o->b≠X.env.locals:=λb o e=>ξl (ξh (ζn e) I.ok.above)
 have neC:∀b o,X.s₀.heap.get? b=some o->b∉X.ex->b∉ch:=λb o e hx hb=>by
  rcases(hch b hb).1 with z|z
  ·exact hx z
  ·exact absurd (ξh (ζn e) z) (Nat.lt_irrefl _)
 have cellK:∀x c,X.env.cells.lookup x=some c->∀v,s.heap.IsCell c v->h'.IsCell c v:=λx c e v ⟨o,ho,hd⟩=>by
  have nch:c∉ch:=λz=>(hch c z).2.2.1 x c e rfl
  by_cases hc:c∈X.fs
  ·obtain ⟨sl,q⟩:=slot c o (I.cne x c e) hc nch ho (I.freeC x c e)
   exact⟨_,q,hd⟩
  ·exact ⟨o,keep c o (I.cne x c e) hc nch ho (I.freeC x c e),hd⟩
 refine⟨I.ok,I.os,hg,⟨λb o e n hb hx=>?_,λb o e n hb hx=>?_,λb o e n hx=>?_,λb o e hx=>?_,λb xs e=>tups b xs (I.base.tups b xs e),λb o xs e=>frzs b o xs (I.base.frzs b o xs e),λb ps e=>?_⟩,?_,λx c e=>?_,?_,λx c e=>?_,λp hp=>?_,hok,I.len⟩
 ·exact keep b o (neL b o e) hb (neC b o e hx) (I.base.keep b o e n hb hx) (I.base.free b o e n hx)
 ·obtain ⟨sl,e1⟩:=I.base.slot b o e n hb hx
  obtain⟨sl',e2⟩:=slot b _ (neL b o e) hb (neC b o e hx) e1 (I.base.free b o e n hx)
  exact⟨sl',e2⟩
 ·obtain ⟨o',e1⟩:=I.base.there b o e hx
  exact free b o' (neC b o e hx) e1 (I.base.free b o e n hx)
 ·obtain ⟨o',e1⟩:=I.base.there b o e hx
  exact there b o' (neC b o e hx) e1
 ·obtain ⟨m1,e1⟩:=I.base.tbls b ps e
  obtain⟨m2,e2⟩:=tbls b _ e1
  exact⟨m1 ++m2,by rw[e2,Array.append_assoc]⟩
 ·obtain ⟨m,hn,hl⟩:=I.loc
  refine⟨m,ns m hn,λi x v e1 e2 e3=>?_⟩
  obtain⟨u,r,l⟩:=hl i x v e1 e2 e3
  refine⟨u,r,?_⟩
  rcases l with l|⟨k,c,e,z⟩
  ·exact .inl l
  ·exact .inr ⟨k,c,e,cellK x c e _ z⟩
 ·obtain ⟨v,z⟩:=I.cell x c e
  exact⟨v,cellK x c e v z⟩
 ·obtain ⟨m,⟨o,_,_,ho,_⟩,_⟩:=I.loc
  exact free _ o (λz=>(hch _ z).2.1 rfl) ho I.free
 ·obtain ⟨v,o,ho,hd⟩:=I.cell x c e
  exact free c o (λz=>(hch c z).2.2.1 x c e rfl) ho (I.freeC x c e)
 ·obtain ⟨e,n,ne,nf,d⟩:=I.pin p hp
  have nch:p.1∉ch:=λz=>(hch p.1 z).2.2.2 p hp rfl
  exact⟨keep p.1 p.2 ne nf nch e n,free p.1 p.2 nch e n,ne,nf,d⟩
theorem Inv.un{t':Nat}(I:Inv X pins σ H s)(u:Un X.fs [] H H' s.heap h')(hok:HOk X.prog X.w H' h'):Inv X pins σ H' {s with heap:=h',toks:=t'}:=by
 obtain⟨m,⟨o,es,ep,ho,r⟩,_⟩:=id I.loc
 obtain⟨sl,hL⟩:=u.any ho I.free (by simp)
 exact I.step (g':=s.gens) (d':=s.drawn) (ch:=[]) (λ_ z=>nomatch z) (λb o _ hb _ e n=>u.keep b o e n hb (by simp)) (λb o _ hb _ e n=>u.slot b o e n hb (by simp)) (λb o _ e n=>u.free b o e n (by simp)) (λb o _ e=>u.there b o e (by simp)) u.tups u.frzs u.tbls (λm' hm=>by
  obtain⟨o',es',ep',ho',r'⟩:=hm
  rw[ho] at ho';cases ho'
  exact⟨_,es',ep',hL,r'⟩) hok I.bare
theorem Inv.call{g':Array GenState}{t':Nat}{d':Drawn}{ch:List Addr}(I:Inv X pins σ H s)(u:Un (frs X.stack) ch H H' s.heap h')(hok:HOk X.prog X.w H' h')(hg:AllBare g')
 (hch:∀b∈ch,(b∈X.ex\/X.s₀.heap.objs.size<=b)/\b≠X.env.locals/\(∀x c,X.env.cells.lookup x=some c->c≠b)/\∀p∈X.pn ++pins,p.1≠b):
 Inv X pins σ H' {s with heap:=h',gens:=g',drawn:=d',toks:=t'}:=by
 obtain⟨m,⟨o,es,ep,ho,r⟩,_⟩:=id I.loc
 obtain⟨sl,hL⟩:=u.any ho I.free λz=>(hch _ z).2.1 rfl
 exact I.step (ch:=ch) hch (λb o hL hb hc e n=>u.keep b o e n (λz=>(List.mem_cons.mp (I.stkSub b z)).elim hL hb) hc) (λb o _ _ hc e n=>u.any e n hc) (λb o hc e n=>u.free b o e n hc) (λb o hc e=>u.there b o e hc) u.tups u.frzs u.tbls (λm' hm=>by
  obtain⟨o',es',ep',ho',r'⟩:=hm
  rw[ho] at ho';cases ho'
  exact⟨_,es',ep',hL,r'⟩) hok hg
theorem Inv.turned{t':Nat}{it:Addr}(I:Inv X pins σ H s)(k:∀b o,b≠it->s.heap.get? b=some o->h'.get? b=some o)(hn:H it=none)(hL:it≠X.env.locals)
 (h1:it∈X.ex\/X.s₀.heap.objs.size<=it) (h2:∀x c,X.env.cells.lookup x=some c->c≠it) (h3:∀p∈X.pn ++pins,p.1≠it):Inv X pins σ H {s with heap:=h',toks:=t'}:=by
 have nit:∀b u,H b=some u->b≠it:=λb u e z=>by rw[z,hn] at e;cases e
 refine I.step (g':=s.gens) (d':=s.drawn) (ch:=[it]) (λb hb=>?_) (λb o _ _ hc e _=>k b o (λz=>hc (by simp[z])) e) (λb o _ _ hc e _=>⟨o.slots,k b o (λz=>hc (by simp[z])) e⟩) (λ_ _ _ _ n=>n)
  (λb o hc e=>⟨o,k b o (λz=>hc (by simp[z])) e⟩) (λ_ _ e=>e) (λ_ _ _ e=>e) (λb ps e=>⟨#[],by rw[e];simp⟩) (λm hm=>?_) (λb u e=>?_) I.bare
 ·have e:b=it:=by simpa using hb
  subst e
  exact⟨h1,hL,h2,h3⟩
 ·obtain ⟨o,es,ep,ho,r⟩:=hm
  exact⟨o,es,ep,k _ o (Ne.symm hL) ho,r⟩
 ·refine (I.hok b u e).stay (λc v hc q=>k c v ?_ q) (λ_ q=>q) λ_ _ q=>q
  rcases hc with z|z
  ·rw[z];exact nit b u e
  ·exact nit c _ z
theorem Inv.tok(I:Inv X pins σ H s)(t:Nat):Inv X pins σ H {s with toks:=t}:=I.un (h':=s.heap) (t':=t) Un.refl I.hok
theorem Inv.kept{t':Nat}(I:Inv X pins σ H s)(k:∀b u,s.heap.get? b=some u->h'.get? b=some u):Inv X pins σ H {s with heap:=h',toks:=t'}:=I.un (Un.kept k) (I.hok.kept k)
theorem Inv.laid{a:Addr}{o:HO}{t':Nat}(I:Inv X pins σ H s)(k:∀b u,s.heap.get? b=some u->h'.get? b=some u)(hp:s.heap.objs.size<=a)(new:ObjOk X.prog X.w (upd H a o) h' a o):
 Inv X pins σ (upd H a o) {s with heap:=h',toks:=t'}:=I.un (Un.laid k hp (I.hok.fresh hp)) (I.hok.laid k hp new)
theorem Inv.write{x e:Addr}{o:HO}{t':Nat}(I:Inv X pins σ H s)(mu:Mut (H x))(he:e=x\/H e=some (.own x))(k:∀b u,b≠e->s.heap.get? b=some u->h'.get? b=some u)(heo:∃u,h'.get? e=some u)
 (new:ObjOk X.prog X.w (upd H x o) h' x o):Inv X pins σ (upd H x o) {s with heap:=h',toks:=t'}:=I.un (Un.write mu he k heo) (I.hok.write mu he k heo new)
theorem Inv.pins_of{pins':List (Addr×Obj)}(I:Inv X pins σ H s)(h:∀p∈pins',s.heap.get? p.1=some p.2/\H p.1=none/\p.1≠X.env.locals/\p.1∉X.fs/\∀v,p.2.data≠ .cell v):Inv X pins' σ H s:=
 ⟨I.ok,I.os,I.bare,I.base,I.loc,I.cell,I.free,I.freeC,λp hp=>(List.mem_append.mp hp).elim (λz=>I.pin p (List.mem_append_left _ z)) (h p),I.hok,I.len⟩
theorem zis{N:List Str}(hN:N.Nodup){i j:Nat}{x:Str}(a:N[i]?=some x)(b:N[j]?=some x):i=j:=by
 obtain⟨h1,e1⟩:=List.getElem?_eq_some_iff.mp a
 obtain⟨h2,e2⟩:=List.getElem?_eq_some_iff.mp b
 exact(List.getElem_inj hN).mp (e1.trans e2.symm)
theorem zlb{M:Model}{A:Around}{E:Value->Shared->Prop}{i:Nat}{x:Str}{v:V}{u:Value}{Q:Unit->Shared->Prop}(I:Inv X pins σ H s)(hN:X.N.Nodup)(hi:X.N[i]?=some x)(hx:Loc X.env.scope x)(r:RelV v u)
 (h:∀s',Inv X pins (σ.set i (some v)) H s'->(∃a,Heap.SameBut a s.heap s'.heap/\(a=X.env.locals\/X.env.cells.lookup x=some a))->Q () s') (hf:X.fn x=true\/X.env.scope.names.lookup x=some .local:=by first|exact .inl rfl|exact .inr rfl|assumption):wpAny M A (storeName X.env x u) Q E s:=by
 obtain⟨m,hn,hl⟩:=id I.loc
 have hcls:(X.env.scope.kind== .class||(X.env.scope.kind== .module&&X.env.locals !=X.env.globals))=false:=by rw[I.ok.kind];rfl
 have hiσ:i<σ.length:=by rw[I.len];exact(List.getElem?_eq_some_iff.mp hi).1
 have cne:=I.cne
 have tracked:∀{a:Addr} {h':Heap},(∃o,s.heap.get? a=some o/\H a=none)->Heap.SameBut a s.heap h'->HOk X.prog X.w H h':=λ{a h'} ha hs b ob e=>by
  obtain⟨_,_,hfree⟩:=ha
  refine(I.hok b ob e).stay (λc w' hc q=>(hs.2 c ?_).trans q) (λ_ q=>q) λ_ _ q=>q
  rintro rfl
  rcases hc with rfl|hc
  ·rw[hfree] at e;cases e
  ·rw[hfree] at hc;cases hc
 rcases hx with hk|hk
 ·refine wpAny_storeName_local hk hn (λh' hn' hs=>?_) hcls
  obtain⟨oL,_,_,hoL,_⟩:=id hn
  refine h _ ⟨I.ok,I.os,I.bare,⟨λb o e n hb hx=>?_,λb o e n hb hx=>?_,I.base.free,λb o e hx=>?_,I.base.tups,I.base.frzs,I.base.tbls⟩,⟨_,hn',λj y v' e1 e2 e3=>?_⟩,λy c e=>?_,I.free,I.freeC,λp hp=>?_,tracked ⟨oL,hoL,I.free⟩ hs,by simpa using I.len⟩ ⟨_,hs, .inl rfl⟩
  ·exact (hs.2 b (ξl (ξh (ζn e) I.ok.above))).trans (I.base.keep b o e n hb hx)
  ·obtain ⟨sl,e1⟩:=I.base.slot b o e n hb hx
   exact⟨sl,(hs.2 b (ξl (ξh (ζn e) I.ok.above))).trans e1⟩
  ·obtain ⟨o',e1⟩:=I.base.there b o e hx
   exact⟨o',(hs.2 b (ξl (ξh (ζn e) I.ok.above))).trans e1⟩
  ·by_cases hj:j=i
   ·subst hj
    rw[hi] at e1;cases e1
    rw[List.getElem?_set_self hiσ] at e2
    cases e2
    exact⟨u,r, .inl ⟨hk,by simp⟩⟩
   ·rw[List.getElem?_set_ne (Ne.symm hj)] at e2
    obtain⟨u',r',q⟩:=hl j y v' e1 e2 e3
    refine⟨u',r',?_⟩
    rcases q with⟨k,e⟩|⟨k,c,e,z⟩
    ·refine .inl ⟨k,?_⟩
     have:y≠x:=λe=>hj (zis hN e1 (e▸hi))
     simp[this,e]
    ·exact .inr ⟨k,c,e,z.sameBut hs (cne y c e)⟩
  ·obtain ⟨w',z⟩:=I.cell y c e
   exact⟨w',z.sameBut hs (cne y c e)⟩
  ·obtain ⟨e,n,ne,nf,d⟩:=I.pin p hp
   exact⟨(hs.2 p.1 ne).trans e,n,ne,nf,d⟩
 ·have hfn:X.fn x=true:=by
   rcases hf with z|z
   ·exact z
   ·rw[z] at hk;cases hk
  obtain⟨c,hc⟩:=I.ok.has x (.inl hk)
  obtain⟨w',z⟩:=I.cell x c hc
  refine wpAny_storeName_cell I.ok.kind hk hc z (λh' hc' hs=>?_)
  obtain⟨oc,hoc,hocd⟩:=id z
  refine h {s with heap:=h'} ⟨I.ok,I.os,I.bare,⟨λb o e n hb hx=>?_,λb o e n hb hx=>?_,I.base.free,λb o e hx=>?_,I.base.tups,I.base.frzs,I.base.tbls⟩,⟨m,hn.sameBut hs (Ne.symm (cne x c hc)),λj y v' e1 e2 e3=>?_⟩,λy c' e=>?_,I.free,I.freeC,λp hp=>?_,tracked ⟨oc,hoc,I.freeC x c hc⟩ hs,by simpa using I.len⟩ ⟨c,hs, .inr hc⟩
  ·exact (hs.2 b (ξl (ξh (ζn e) (I.ok.cab x c hfn hc)))).trans (I.base.keep b o e n hb hx)
  ·obtain ⟨sl,e1⟩:=I.base.slot b o e n hb hx
   exact⟨sl,(hs.2 b (ξl (ξh (ζn e) (I.ok.cab x c hfn hc)))).trans e1⟩
  ·obtain ⟨o',e1⟩:=I.base.there b o e hx
   exact⟨o',(hs.2 b (ξl (ξh (ζn e) (I.ok.cab x c hfn hc)))).trans e1⟩
  ·by_cases hj:j=i
   ·subst hj
    rw[hi] at e1;cases e1
    rw[List.getElem?_set_self hiσ] at e2
    cases e2
    exact⟨u,r, .inr ⟨.inl hk,c,hc,hc'⟩⟩
   ·rw[List.getElem?_set_ne (Ne.symm hj)] at e2
    obtain⟨u',r',q⟩:=hl j y v' e1 e2 e3
    refine⟨u',r',?_⟩
    rcases q with q|⟨k,c',e,z'⟩
    ·exact .inl q
    ·refine .inr ⟨k,c',e,z'.sameBut hs ?_⟩
     rintro rfl
     exact hj (zis hN e1 (I.ok.inj _ _ _ e hc▸hi))
  ·by_cases hcc:c'=c
   ·subst hcc;exact⟨_,hc'⟩
   ·obtain ⟨w2,z2⟩:=I.cell y c' e
    exact⟨w2,z2.sameBut hs hcc⟩
  ·obtain ⟨e,n,ne,nf,d⟩:=I.pin p hp
   refine⟨(hs.2 p.1 ?_).trans e,n,ne,nf,d⟩
   intro q
   rw[q,hoc] at e
   have q':oc=p.2:=ξj e
   exact d w' (by rw[←q'];exact hocd)
theorem zd3{M:Model}{A:Around}{E:Value->Shared->Prop}{i:Nat}{x:Str}{v:V}{u:Value}{Q:Unit->Shared->Prop}(I:Inv X pins σ H s)(hN:X.N.Nodup)(hi:X.N[i]?=some x)(hx:Loc X.env.scope x)(r:RelV v u)
 (h:∀s',Inv X pins (σ.set i (some v)) H s'->Q () s') (hf:X.fn x=true\/X.env.scope.names.lookup x=some .local:=by first|exact .inl rfl|exact .inr rfl|assumption):wpAny M A (storeName X.env x u) Q E s:=
 zlb I hN hi hx r (λs' I' _=>h s' I') hf
theorem Inv.call'{s':Shared}{ch:List Addr}(I:Inv X pins σ H s)(ho:s'.os=s.os)(u:Un (frs X.stack) ch H H' s.heap s'.heap)(hok:HOk X.prog X.w H' s'.heap)(hg:AllBare s'.gens)
 (hch:∀b∈ch,(b∈X.ex\/X.s₀.heap.objs.size<=b)/\b≠X.env.locals/\(∀x c,X.env.cells.lookup x=some c->c≠b)/\∀p∈X.pn ++pins,p.1≠b):Inv X pins σ H' s':=by
 obtain⟨h',g',d',t',o'⟩:=s'
 have e:o'=s.os:=ho
 subst e
 exact I.call (g':=g') (t':=t') (d':=d') u hok hg hch
end
noncomputable abbrev XK:=Value->Option Addr->Hp->Prop
noncomputable abbrev St:=List (Option V)
noncomputable abbrev VK:=V->Hp->Prop
noncomputable abbrev TE:=St->Hp->VK->Prop
noncomputable abbrev TT:=St->Hp->(Bool->Hp->Prop)->Prop
noncomputable abbrev TA:=St->Hp->(List V->Hp->Prop)->Prop
structure Ends where
 nx:St->Hp->Prop
 rt:VK
 bk:St->Hp->Prop:=λ_ _=>False
 ct:St->Hp->Prop:=λ_ _=>False
noncomputable abbrev TS:=Ends->St->Hp->Prop
def EP(X:Cx)(pins:List (Addr×Obj))(σ:St)(Q:VK)(u:Value)(s':Shared):Prop:=∃v H',Inv X pins σ H' s'/\RelV v u/\Q v H'
def TP(X:Cx)(pins:List (Addr×Obj))(σ:St)(Q:Bool->Hp->Prop)(b:Bool)(s':Shared):Prop:=∃H',Inv X pins σ H' s'/\Q b H'
def AP(X:Cx)(pins:List (Addr×Obj))(σ:St)(Q:List V->Hp->Prop)(us:List Value)(s':Shared):Prop:=∃vs H',Inv X pins σ H' s'/\Vals vs us/\Q vs H'
def SP(X:Cx)(pins:List (Addr×Obj))(D:Ends)(f:Flow)(s':Shared):Prop:=
 match f with
 | .next=>∃σ' H',Inv X pins σ' H' s'/\D.nx σ' H'
 | .brk=>∃σ' H',Inv X pins σ' H' s'/\D.bk σ' H'
 | .cont=>∃σ' H',Inv X pins σ' H' s'/\D.ct σ' H'
 | .ret u=>∃v σ' H',Inv X pins σ' H' s'/\RelV v u/\D.rt v H'
def PE(X:Cx)(e:Expr)(t:TE):Prop:=
 ∀(pins:List (Addr×Obj)) (s:Shared) (σ:St) (H:Hp) (Q:VK),Inv X pins σ H s->t σ H Q->wpAny (model X.prog X.w) X.A (eval e X.env) (EP X pins σ Q) X.xe s
def PT(X:Cx)(e:Expr)(t:TT):Prop:=
 ∀(pins:List (Addr×Obj)) (s:Shared) (σ:St) (H:Hp) (Q:Bool->Hp->Prop),Inv X pins σ H s->t σ H Q->wpAny (model X.prog X.w) X.A (isTrue e X.env (eval e X.env)) (TP X pins σ Q) X.xe s
def PW(X:Cx)(e:Expr)(t:TT):Prop:=
 ∀(whole:Sem Value) (pins:List (Addr×Obj)) (s:Shared) (σ:St) (H:Hp) (Q:Bool->Hp->Prop),Inv X pins σ H s->t σ H Q->wpAny (model X.prog X.w) X.A (isTrue e X.env whole) (TP X pins σ Q) X.xe s
theorem PW.pt{X:Cx}{e:Expr}{t:TT}(h:PW X e t):PT X e t:=h _
def PA(X:Cx)(es:List Expr)(t:TA):Prop:=
 ∀(pos:Pos) (pins:List (Addr×Obj)) (s:Shared) (σ:St) (H:Hp) (Q:List V->Hp->Prop),Inv X pins σ H s->t σ H Q->wpAny (model X.prog X.w) X.A (spliced (backTo pos (starEach es X.env))) (AP X pins σ Q) X.xe s
def PS(X:Cx)(st:Stmt)(t:TS):Prop:=
 ∀(pins:List (Addr×Obj)) (s:Shared) (σ:St) (H:Hp) (D:Ends),Inv X pins σ H s->t D σ H->wpAny (model X.prog X.w) X.A (exec st X.env) (SP X pins D) X.xe s
def PSs(X:Cx)(st:List Stmt)(t:TS):Prop:=
 ∀(pins:List (Addr×Obj)) (s:Shared) (σ:St) (H:Hp) (D:Ends),Inv X pins σ H s->t D σ H->wpAny (model X.prog X.w) X.A (execs st X.env) (SP X pins D) X.xe s
theorem thn{α:Type}{t:Sem α}{Q Q':α->Shared->Prop}{M:Model}{A:Around}{E:Value->Shared->Prop}{s:Shared}(h:wpAny M A t Q E s)(hQ:∀a s,Q a s->Q' a s):wpAny M A t Q' E s:=wpAny_mono h hQ λ_ _ x=>x
section
variable{X:Cx}
theorem bin{a b:Expr}{ta tb:TE}(ha:PE X a ta)(hb:PE X b tb){pins:List (Addr×Obj)}{s:Shared}{σ:St}{H:Hp}{R:V->V->Hp->Prop}(I:Inv X pins σ H s)(h:ta σ H λx H1=>tb σ H1 λy H2=>R x y H2)
 {α:Type} {Q:α->Shared->Prop} {f:Value->Value->Sem α}
 (hf:∀v u s2 x y H2,Inv X pins σ H2 s2->RelV x v->RelV y u->R x y H2->wpAny (model X.prog X.w) X.A (f v u) Q X.xe s2):
 wpAny (model X.prog X.w) X.A (eval a X.env) (λv s₁=>wpAny (model X.prog X.w) X.A (eval b X.env) (λu s₂=>wpAny (model X.prog X.w) X.A (f v u) Q X.xe s₂) X.xe s₁) X.xe s:=by
 refine thn (ha pins s σ H _ I h) λv s1 ⟨x,H1,I1,r1,q1⟩=>?_
 refine thn (hb pins s1 σ H1 _ I1 q1) λu s2 ⟨y,H2,I2,r2,q2⟩=>?_
 exact hf v u s2 x y H2 I2 r1 r2 q2
noncomputable def zb8(i:Nat):TE:=λσ H Q=>∃v,σ[i]?=some (some v)/\Q v H
noncomputable def tC(v:V):TE:=λ_ H Q=>Q v H
theorem zmj{i:Nat}{x:Str}{pos:Pos}(hN:X.N[i]?=some x)(hv:Vis X.env.scope x)(hd:(x==("__debug__":Str))=false:=by decide)(hcd:(x==("__classdict__":Str))=false:=by decide):PE X (.Name x pos) (zb8 i):=by
 intro pins s σ H Q I h
 obtain⟨v,e,h⟩:=h
 obtain⟨m,hn,hl⟩:=I.loc
 obtain⟨u,r,l⟩:=hl i x v hN e hv
 have fin:EP X pins σ Q u s:=⟨v,H,I,r,h⟩
 rcases l with⟨hk,hm⟩|⟨hk,c,hc,hcell⟩
 ·exact wpAny_Name (wpAny_loadName_local I.ok.kind hk hn hm fin) hd
 ·rcases hk with hk|hk
  ·exact wpAny_Name (wpAny_loadName_cell I.ok.kind hk hc hcell fin) hd
  ·exact wpAny_Name (wpAny_loadName_free I.ok.kind hk hc hcell fin hcd) hd
theorem zmS{i j pos}:PE X (.Constant (.int i) j pos) (tC (.int i)):=λ_ _ _ H _ I h=>wpAny_Constant_int ⟨.int i,H,I.tok _,⟨_,rfl⟩,h⟩
theorem zpl{b j pos}:PE X (.Constant (.bool b) j pos) (tC (.bl b)):=λ_ _ _ H _ I h=>Constant_bool ⟨.bl b,H,I,rfl,h⟩
theorem zm9{j pos}:PE X (.Constant .none j pos) (tC .non):=λ_ _ _ H _ I h=>Constant_none ⟨.non,H,I,rfl,h⟩
theorem zmH{x j pos}:PE X (.Constant (.str x) j pos) (tC (.str x)):=λ_ _ _ H _ I h=>Calls.Constant_str ⟨.str x,H,I.tok _,⟨_,rfl⟩,h⟩
def Gl(X:Cx)(x:Str):Prop:=X.env.kindOf x=some .globalImplicit
theorem zkx{E:Value->Shared->Prop}{pins:List (Addr×Obj)}{s:Shared}{σ:St}{H:Hp}{x:Str}{u:Value}{pos:Pos}{Q:Value->Shared->Prop}(I:Inv X pins σ H s)(hg:Gl X x)(hm:X.mg x=some u)(h:Q u s)
 (hd:(x==("__debug__":Str))=false:=by decide):wpAny (model X.prog X.w) X.A (eval (.Name x pos) X.env) Q E s:=
 Calls.Name_function_global I.ok.kind hg (Calls.loadGlobal_global (by rw[I.ok.glob];exact I.mod.glob.keeps I.bk) hm h) hd
theorem zdY{E:Value->Shared->Prop}{pins:List (Addr×Obj)}{s:Shared}{σ:St}{H:Hp}{x:Str}{u:Value}{pos:Pos}{Q:Value->Shared->Prop}(I:Inv X pins σ H s)(hg:Gl X x)(hm:X.mg x=none)(hv:bootBuiltins x=some u)(h:Q u s)
 (hn:x≠"__name__":=by decide) (hd:(x==("__debug__":Str))=false:=by decide):wpAny (model X.prog X.w) X.A (eval (.Name x pos) X.env) Q E s:=by
 obtain⟨mb,h1,h2⟩:=I.mod.blt
 exact Calls.Name_function_global I.ok.kind hg (Calls.loadGlobal_builtin (by rw[I.ok.glob];exact I.mod.glob.keeps I.bk) hm (by rw[I.ok.blt];exact h1.keeps I.bk) ((h2 x hn).trans hv) h) hd
theorem zn3{x:Str}{v:V}{u:Value}{pos:Pos}(hg:Gl X x)(hm:X.mg x=some u)(r:RelV v u)(hd:(x==("__debug__":Str))=false:=by decide):PE X (.Name x pos) (tC v):=
 λ_ _ _ H _ I h=>zkx I hg hm ⟨v,H,I,r,h⟩ hd
theorem zoE{x:Str}{v:V}{u:Value}{pos:Pos}(hg:Gl X x)(hm:X.mg x=none)(hv:bootBuiltins x=some u)(r:RelV v u)(hn:x≠"__name__":=by decide)(hd:(x==("__debug__":Str))=false:=by decide):PE X (.Name x pos) (tC v):=
 λ_ _ _ H _ I h=>zdY I hg hm hv ⟨v,H,I,r,h⟩ hn hd
variable{a b:Expr}{ta tb:TE}{pos:Pos}
def PC(X:Cx)(op:CmpOp)(a b:Expr)(t:TE):Prop:=
 ∀(pins:List (Addr×Obj)) (s:Shared) (σ:St) (H:Hp) (Q:VK),Inv X pins σ H s->t σ H Q->
  wpAny (model X.prog X.w) X.A (eval a X.env) (λv s₁=>wpAny (model X.prog X.w) X.A (eval b X.env) (λu s₂=>wpAny (model X.prog X.w) X.A (compareOp op v u) (EP X pins σ Q) X.xe s₂) X.xe s₁) X.xe s
noncomputable def tB(t:TE):TT:=λσ H Q=>t σ H λx H1=>∃c,x= .bl c/\Q c H1
theorem pt_cmp{op:CmpOp}{t:TE}(h:PC X op a b t)(h1:behindInMarks op b=false:=by first|exact nobehind _ (by decide) (by decide)|rfl):PT X (.Compare a [op] [b] pos) (tB t):=by
 intro pins s σ H Q I hw
 refine wpAny_isTrue_Compare1 (thn (h pins s σ H _ I hw) λv s1 h1=>thn h1 λu s2 h2=>thn h2 λc s3 ⟨x,H1,I1,r1,q1⟩=>?_) h1
 obtain⟨d,rfl,q⟩:=q1
 cases r1
 exact wpAny_truthy_bool ⟨H1,I1,q⟩
theorem zpD{e:Expr}{t:TE}(h:PE X e t)(he:∀whole,isTrue e X.env whole=(do let v ←whole;standAt e.pos;holding [v] (truthy v)):=by intro _;rfl):PT X e (tB t):=by
 intro pins s σ H Q I hw
 refine isTrue_plain (thn (h pins s σ H _ I hw) λv s1 ⟨x,H1,I1,r1,q1⟩=>?_) (he _)
 obtain⟨d,rfl,q⟩:=q1
 cases r1
 exact wpAny_truthy_bool ⟨H1,I1,q⟩
variable{tA tB':TT}{rest:List Expr}
noncomputable def zq2(t u:TT):TT:=λσ H Q=>t σ H λc H1=>if c=true then u σ H1 Q else Q false H1
noncomputable def tOr(t u:TT):TT:=λσ H Q=>t σ H λc H1=>if c=true then Q true H1 else u σ H1 Q
noncomputable def zqB(t:TT):TT:=λσ H Q=>t σ H λc H1=>Q (!c) H1
theorem zn7(ha:PT X a tA):PW X (.BoolOp .And [a] pos) tA:=by
 intro wh pins s σ H Q I h
 refine isTrue_and (thn (ha pins s σ H Q I h) λc s1 e=>?_)
 cases c with
 |true=>exact isTrue_and_nil e
 |false=>exact e
theorem zqe(ha:PT X a tA):PW X (.BoolOp .Or [a] pos) tA:=by
 intro wh pins s σ H Q I h
 refine isTrue_or (thn (ha pins s σ H Q I h) λc s1 e=>?_)
 cases c with
 |false=>exact isTrue_or_nil e
 |true=>exact e
theorem zqn(ha:PT X a tA)(hb:PW X (.BoolOp .And (b::rest) pos) tB'):PW X (.BoolOp .And (a::b::rest) pos) (zq2 tA tB'):=by
 intro wh pins s σ H Q I h
 refine isTrue_and (thn (ha pins s σ H _ I h) λc s1 ⟨H1,I1,q1⟩=>?_)
 cases c with
 |true=>exact hb wh pins s1 σ H1 Q I1 q1
 |false=>exact ⟨H1,I1,q1⟩
theorem zrb(ha:PT X a tA)(hb:PW X (.BoolOp .Or (b::rest) pos) tB'):PW X (.BoolOp .Or (a::b::rest) pos) (tOr tA tB'):=by
 intro wh pins s σ H Q I h
 refine isTrue_or (thn (ha pins s σ H _ I h) λc s1 ⟨H1,I1,q1⟩=>?_)
 cases c with
 |true=>exact ⟨H1,I1,q1⟩
 |false=>exact hb wh pins s1 σ H1 Q I1 q1
theorem zqv(ha:PT X a tA):PT X (.UnaryOp .Not a pos) (zqB tA):=by
 intro pins s σ H Q I h
 exact isTrue_not (ha pins s σ H (λc H1=>Q (!c) H1) I h)
noncomputable def zpb(ta tb:TE):TE:=λσ H Q=>ta σ H λx H1=>∃c,x= .bl c/\if c=true then tb σ H1 Q else Q (.bl false) H1
noncomputable def zqZ(ta tb:TE):TE:=λσ H Q=>ta σ H λx H1=>∃c,x= .bl c/\if c=true then Q (.bl true) H1 else tb σ H1 Q
noncomputable def zpf(ta:TE):TE:=λσ H Q=>ta σ H λx H1=>∃c,x= .bl c/\Q (.bl (!c)) H1
theorem zp0{op}{t:TE}(h:PE X a t):PE X (.BoolOp op [a] pos) t:=λpins s σ H Q I hw=>BoolOp_one (h pins s σ H Q I hw)
theorem zqg(ha:PE X a ta)(hb:PE X (.BoolOp .And (b::rest) pos) tb):PE X (.BoolOp .And (a::b::rest) pos) (zpb ta tb):=by
 intro pins s σ H Q I h
 refine BoolOp_and (thn (ha pins s σ H _ I h) λv s1 ⟨x,H1,I1,r1,q1⟩=>?_)
 obtain⟨c,rfl,q1⟩:=q1
 cases r1
 refine wpAny_truthy_bool ?_
 cases c with
 |true=>exact hb pins s1 σ H1 Q I1 q1
 |false=>exact ⟨.bl false,H1,I1,rfl,q1⟩
theorem zqH(ha:PE X a ta)(hb:PE X (.BoolOp .Or (b::rest) pos) tb):PE X (.BoolOp .Or (a::b::rest) pos) (zqZ ta tb):=by
 intro pins s σ H Q I h
 refine BoolOp_or (thn (ha pins s σ H _ I h) λv s1 ⟨x,H1,I1,r1,q1⟩=>?_)
 obtain⟨c,rfl,q1⟩:=q1
 cases r1
 refine wpAny_truthy_bool ?_
 cases c with
 |false=>exact hb pins s1 σ H1 Q I1 q1
 |true=>exact ⟨.bl true,H1,I1,rfl,q1⟩
theorem zqy(ha:PE X a ta):PE X (.UnaryOp .Not a pos) (zpf ta):=by
 intro pins s σ H Q I h
 refine UnaryOp_ (thn (ha pins s σ H _ I h) λv s1 ⟨x,H1,I1,r1,q1⟩=>?_)
 obtain⟨c,rfl,q1⟩:=q1
 cases r1
 exact not_of (wpAny_truthy_bool ⟨.bl (!c),H1,I1,rfl,q1⟩)
noncomputable def tIf(t:TT)(ta tb:TE):TE:=λσ H Q=>t σ H λc H1=>if c=true then ta σ H1 Q else tb σ H1 Q
theorem zns{c:Expr}(hc:PT X c tA)(ha:PE X a ta)(hb:PE X b tb):PE X (.IfExp c a b pos) (tIf tA ta tb):=by
 intro pins s σ H Q I h
 refine wpAny_IfExp (thn (hc pins s σ H _ I h) λd s1 ⟨H1,I1,q1⟩=>?_)
 cases d with
 |true=>exact ha pins s1 σ H1 Q I1 q1
 |false=>exact hb pins s1 σ H1 Q I1 q1
end
def SqL(K:PySem.W.Frag)(H:Hp)(a:Addr)(xs:List V):Prop:=
 Rd H a (.lst xs)\/
  ∃(o:Obj) (its:Array Value) (n:Nat),K.lookup a=some o/\o.cls= .type "list"/\o.dict=none/\o.data= .seq its n/\its.size<=sizeLine/\Vals xs its.toList
def SqT(K:PySem.W.Frag)(H:Hp)(a:Addr)(xs:List V):Prop:=
 Rd H a (.tup xs)\/
  ∃(o:Obj) (its:Array Value) (n:Nat),K.lookup a=some o/\o.cls= .type "tuple"/\o.data= .seq its n/\its.size<=sizeLine/\Vals xs its.toList
noncomputable def zrB:Value->Option V
 | .none=>some .non
 | .bool b=>some (.bl b)
 | .int i _=>some (.int i)
 | .str x _=>some (.str x)
 | .bytes b _=>some (.byt b)
 | .float b _=>some (.flt b)
 | .ref a=>some (.ref a)
 | .type n=>some (.ty n)
 |_=>none
theorem RelV.abs{x:V}{u:Value}(r:RelV x u):zrB u=some x:=by
 cases x with
 |non=>cases r;rfl
 |bl _=>cases r;rfl
 |int _=>obtain ⟨t,rfl⟩:=r;rfl
 |str _=>obtain ⟨t,rfl⟩:=r;rfl
 |byt _=>obtain ⟨t,rfl⟩:=r;rfl
 |flt _=>obtain ⟨t,rfl⟩:=r;rfl
 |ref _=>cases r;rfl
 |ty _=>cases r;rfl
theorem RelV.inj{x y:V}{u:Value}(r:RelV x u)(q:RelV y u):x=y:=ξj (r.abs.symm.trans q.abs)
theorem Vals.inj:∀{xs ys:List V} {us:List Value},Vals xs us->Vals ys us->xs=ys
 |_,_,_, .nil, .nil=>rfl
 |_,_,_, .cons r t, .cons r' t'=>by rw[r.inj r',Vals.inj t t']
section
variable{X:Cx}{pins:List (Addr×Obj)}{σ:St}{H:Hp}{s:Shared}{a:Addr}{xs ys:List V}
theorem SqL.of{K:PySem.W.Frag}(h:H a=some (.lst xs)):SqL K H a xs:= .inl (.inl h)
theorem SqT.of{K:PySem.W.Frag}(h:H a=some (.tup xs)):SqT K H a xs:= .inl (.inl h)
theorem Inv.list(I:Inv X pins σ H s)(h:SqL X.K H a xs):∃its:List Value,Vals xs its/\PlainL s.heap a its.toArray/\xs.length<=sizeLine:=by
 rcases h with h|⟨o,its,n,hk,hc,hd,hs,hz,r⟩
 ·obtain ⟨z,its,n,r,e⟩:=h.ok I.hok
  exact⟨its,r,⟨_,n,e,rfl,rfl,rfl⟩,z⟩
 ·refine ⟨its.toList,r,⟨o,n,I.kIn a o hk,hc,hd,by simpa using hs⟩,?_⟩
  have e:=r.length
  simp only[Array.length_toList] at e
  omega
theorem Inv.tuple(I:Inv X pins σ H s)(h:SqT X.K H a xs):∃its:List Value,Vals xs its/\IsTup s.heap a its.toArray/\xs.length<=sizeLine:=by
 rcases h with h|⟨o,its,n,hk,hc,hs,hz,r⟩
 ·obtain ⟨z,its,r,p,_⟩:=h.ok I.hok
  exact⟨its,r,p,z⟩
 ·refine ⟨its.toList,r,⟨o,I.kIn a o hk,hc,n,by simpa using hs⟩,?_⟩
  have e:=r.length
  simp only[Array.length_toList] at e
  omega
theorem Inv.list_inj(I:Inv X pins σ H s)(h:SqL X.K H a xs)(h':SqL X.K H a ys):xs=ys:=by
 obtain⟨its,r,⟨o,n,e,_,_,d⟩,_⟩:=I.list h
 obtain⟨its',r',⟨o',n',e',_,_,d'⟩,_⟩:=I.list h'
 rw[e] at e';cases e'
 rw[d] at d'
 injection d' with d1 _
 have:its=its':=by simpa using congrArg Array.toList d1
 subst this
 exact r.inj r'
theorem Inv.tuple_inj(I:Inv X pins σ H s)(h:SqT X.K H a xs)(h':SqT X.K H a ys):xs=ys:=by
 obtain⟨its,r,⟨o,e,_,n,d⟩,_⟩:=I.tuple h
 obtain⟨its',r',⟨o',e',_,n',d'⟩,_⟩:=I.tuple h'
 rw[e] at e';cases e'
 rw[d] at d'
 injection d' with d1 _
 have:its=its':=by simpa using congrArg Array.toList d1
 subst this
 exact r.inj r'
end
abbrev Cx.wish(X:Cx)(E:Value->Shared->Prop):Cx:={X with xe:=E}
noncomputable abbrev Cx.nox(X:Cx):Cx:=X.wish λ_ _=>False
theorem Cx.Ok.wish{X:Cx}(ok:X.Ok)(E:Value->Shared->Prop):(X.wish E).Ok:=
 ⟨ok.mod,ok.kind,ok.glob,ok.blt,ok.above,ok.inj,ok.has,ok.cab,ok.hd,ok.frames,ok.stk,ok.exf,ok.bs,ok.bsz,ok.noex,ok.exfs,ok.funs,ok.frf⟩
theorem Cx.Ok.unwish{X:Cx}{E:Value->Shared->Prop}(ok:(X.wish E).Ok):X.Ok:=
 ⟨ok.mod,ok.kind,ok.glob,ok.blt,ok.above,ok.inj,ok.has,ok.cab,ok.hd,ok.frames,ok.stk,ok.exf,ok.bs,ok.bsz,ok.noex,ok.exfs,ok.funs,ok.frf⟩
section
variable{X:Cx}{pins:List (Addr×Obj)}{σ:St}{H:Hp}{s:Shared}{E:Value->Shared->Prop}
theorem Inv.wish(I:Inv X pins σ H s)(E:Value->Shared->Prop):Inv (X.wish E) pins σ H s:=⟨I.ok.wish E,I.os,I.bare,I.base,I.loc,I.cell,I.free,I.freeC,I.pin,I.hok,I.len⟩
theorem Inv.unwish(I:Inv (X.wish E) pins σ H s):Inv X pins σ H s:=⟨I.ok.unwish,I.os,I.bare,I.base,I.loc,I.cell,I.free,I.freeC,I.pin,I.hok,I.len⟩
theorem SP.unwish{D:Ends}{f:Flow}{s':Shared}(h:SP (X.wish E) pins D f s'):SP X pins D f s':=by
 cases f with
 |next=>obtain ⟨σ',H',I,q⟩:=h;exact⟨σ',H',I.unwish,q⟩
 |brk=>obtain ⟨σ',H',I,q⟩:=h;exact⟨σ',H',I.unwish,q⟩
 |cont=>obtain ⟨σ',H',I,q⟩:=h;exact⟨σ',H',I.unwish,q⟩
 |ret u=>obtain ⟨v,σ',H',I,r,q⟩:=h;exact⟨v,σ',H',I.unwish,r,q⟩
theorem PSs.nox{st:List Stmt}{t:TS}(h:PSs X.nox st t):PSs X st t:=λpins s σ H D I hw=>
 wpAny_mono (h pins s σ H D (I.wish _) hw) (λ_ _ q=>q.unwish) λ_ _ z=>False.elim z
end
section
variable{X:Cx}{st:Stmt}{rest:List Stmt}{t u:TS}{e:Expr}{te:TE}{pos:Pos}
noncomputable def zpg:TS:=λD σ H=>D.nx σ H
noncomputable def zlu(t u:TS):TS:=λD σ H=>t {D with nx:=u D} σ H
theorem zo0:PSs X [] zpg:=λ_ _ σ H _ I h=>wpAny_execs_nil ⟨σ,H,I,h⟩
theorem zjk(h1:PS X st t)(h2:PSs X rest u):PSs X (st::rest) (zlu t u):=by
 intro pins s σ H D I h
 refine wpAny_execs_cons (thn (h1 pins s σ H {D with nx:=u D} I h) λf s1 q=>?_)
 cases f with
 |next=>
  obtain⟨σ',H',I',q⟩:=q
  exact h2 pins s1 σ' H' D I' q
 |ret v=>exact q
 |brk=>exact q
 |cont=>exact q
theorem znT(h1:PS X st t):PSs X [st] t:=by
 intro pins s σ H D I h
 refine wpAny_execs_cons (thn (h1 pins s σ H D I h) λf s1 q=>?_)
 cases f with
 |next=>exact wpAny_execs_nil q
 |ret v=>exact q
 |brk=>exact q
 |cont=>exact q
noncomputable def zpr:TS:=λD σ H=>D.ct σ H
theorem zjj:PS X (.Continue pos) zpr:=λ_ _ σ H _ I h=>wpAny_Continue ⟨σ,H,I,h⟩
theorem Inv.quiet{pins:List (Addr×Obj)}{σ:St}{H:Hp}{s:Shared}(I:Inv X pins σ H s):interactive X.env=false:=by simp[interactive,I.ok.kind]
noncomputable def zpt(te:TE):TS:=λD σ H=>te σ H λ_ H1=>D.nx σ H1
theorem zos(he:PE X e te)(hs:swapsWith e none pos.line X.env=pure false:=by rfl):PS X (.Expr e pos) (zpt te):=by
 intro pins s σ H D I h
 exact wpAny_Expr_any (thn (he pins s σ H _ I h) λv s1 ⟨x,H1,I1,r1,q1⟩=>⟨σ,H1,I1,q1⟩) I.quiet hs
noncomputable def zpP(te:TE):TS:=λD σ H=>te σ H D.rt
theorem zp6(he:PE X e te):PS X (.Return (some e) pos) (zpP te):=by
 intro pins s σ H D I h
 exact wpAny_Return_some (thn (he pins s σ H _ I h) λv s1 ⟨x,H1,I1,r1,q1⟩=>⟨x,σ,H1,I1,r1,q1⟩)
noncomputable def zpK(c:TT)(t u:TS):TS:=λD σ H=>c σ H λb H1=>if b=true then t D σ H1 else u D σ H1
theorem zq0{c:Expr}{a b:List Stmt}{tc:TT}(hc:PT X c tc)(ha:PSs X a t)(hb:PSs X b u):PS X (.If c a b pos) (zpK tc t u):=by
 intro pins s σ H D I h
 refine wpAny_If (thn (hc pins s σ H _ I h) λd s1 ⟨H1,I1,q1⟩=>?_)
 cases d with
 |true=>exact ha pins s1 σ H1 D I1 q1
 |false=>exact hb pins s1 σ H1 D I1 q1
end
noncomputable abbrev TG:=V->St->Hp->(St->Hp->Prop)->Prop
noncomputable abbrev TGs:=List V->St->Hp->(St->Hp->Prop)->Prop
def PG(X:Cx)(target:Expr)(t:TG):Prop:=
 ∀(pins:List (Addr×Obj)) (s:Shared) (σ:St) (H:Hp) (v:V) (u:Value) (Q:St->Hp->Prop),Inv X pins σ H s->RelV v u->t v σ H Q->
  wpAny (model X.prog X.w) X.A (assign target X.env u) (λ_ s'=>∃σ' H',Inv X pins σ' H' s'/\Q σ' H') X.xe s
def PGs(X:Cx)(ts:List Expr)(t:TGs):Prop:=
 ∀(pins:List (Addr×Obj)) (s:Shared) (σ:St) (H:Hp) (vs:List V) (us:List Value) (Q:St->Hp->Prop),Inv X pins σ H s->Vals vs us->t vs σ H Q->
  wpAny (model X.prog X.w) X.A (assignInOrder ((assignEach ts X.env).map (·.2)) us) (λ_ s'=>∃σ' H',Inv X pins σ' H' s'/\Q σ' H') X.xe s
noncomputable abbrev zod:=V->V->V->Hp->(Hp->Prop)->Prop
def zqa(X:Cx)(t:zod):Prop:=
 ∀(pins:List (Addr×Obj)) (s:Shared) (σ:St) (H:Hp) (o i v:V) (ov iv u:Value) (Q:Hp->Prop),Inv X pins σ H s->RelV o ov->RelV i iv->RelV v u->t o i v H Q->
  wpAny (model X.prog X.w) X.A (setItem ov iv u) (λ_ s'=>∃H',Inv X pins σ H' s'/\Q H') X.xe s
section
variable{X:Cx}{pos:Pos}
noncomputable def zaE(i:Nat):TG:=λv σ H Q=>Q (σ.set i (some v)) H
theorem zk2{i:Nat}{x:Str}(hN:X.N.Nodup)(hi:X.N[i]?=some x)(hx:Loc X.env.scope x)(hf:X.fn x=true\/X.env.scope.names.lookup x=some .local:=by first|exact .inl rfl|exact .inr rfl|assumption):PG X (.Name x pos) (zaE i):=by
 intro pins s σ H v u Q I r h
 exact wpAny_assign_Name (zd3 I hN hi hx r (λs' I'=>⟨_,H,I',h⟩) hf)
noncomputable def zq7:TGs:=λvs σ H Q=>vs=[]/\Q σ H
noncomputable def zpv(t:TG)(u:TGs):TGs:=λvs σ H Q=>∃v r,vs=v::r/\t v σ H λσ' H'=>u r σ' H' Q
theorem zoR:PGs X [] zq7:=by
 intro pins s σ H vs us Q I r h
 obtain⟨e,h⟩:=h
 subst e
 cases r
 exact assignInOrder_nil ⟨σ,H,I,h⟩
theorem znw{e:Expr}{es:List Expr}{t:TG}{u:TGs}(h1:PG X e t)(h2:PGs X es u)
 (hs:(assignEach (e::es) X.env).map (·.2)=assign e X.env::(assignEach es X.env).map (·.2):=by rfl):PGs X (e::es) (zpv t u):=by
 intro pins s σ H vs us Q I r h
 obtain⟨v,vr,e1,h⟩:=h
 subst e1
 cases r with
 |cons r rr=>
  rw[hs]
  refine assignInOrder_cons (thn (h1 pins s σ H _ _ _ I r h) λ_ s1 ⟨σ1,H1,I1,q1⟩=>?_)
  exact h2 pins s1 σ1 H1 _ _ Q I1 rr q1
noncomputable def zpZ(K:PySem.W.Frag)(n:Nat)(t:TGs):TG:=λv σ H Q=>∃a xs,v= .ref a/\SqT K H a xs/\xs.length=n/\t xs σ H Q
theorem zp7{es:List Expr}{k:Nat}{t:TGs}{n:Nat}(hc:X.calm=true)(h:PGs X es t)
 (hn:(assignEach es X.env).length=n:=by rfl) (hst:(assignEach es X.env).findIdx? (·.1)=none:=by rfl):PG X (.Tuple es k pos) (zpZ X.K n t):=by
 intro pins s σ H v u Q I r hw
 obtain⟨a,xs,e1,hq,hl,hw⟩:=hw
 subst e1
 cases r
 obtain⟨its,rv,ht,hz⟩:=I.tuple hq
 refine assign_Tuple_tuple (I.ok.hd hc) ht (by simp[hn,←hl,rv.length]) hst λh' hx=>?_
 have I1:Inv X pins σ H {s with heap:=h'}:=I.kept (t':=s.toks) λb o e=>hx b o (ξl (ζn e)) e
 exact h pins _ σ H xs _ Q I1 (by simpa using rv) hw
noncomputable def zqP(to ti:TE)(t:zod):TG:=λv σ H Q=>to σ H λo H1=>ti σ H1 λi H2=>t o i v H2 λH3=>Q σ H3
theorem zqp{o i:Expr}{to ti:TE}{t:zod}(ho:PE X o to)(hi:PE X i ti)(hs:zqa X t)
 (ha:∀v,assign (.Subscript o i pos) X.env v=(do
   let ov ←holding [v] (eval o X.env)
   let iv ←holding [v,ov] (eval i X.env)
   standAt pos
   holding [v,ov,iv] (setItem ov iv v)
   release [v,ov,iv] []):=by intro _;rfl):PG X (.Subscript o i pos) (zqP to ti t):=by
 intro pins s σ H v u Q I r h
 rw[ha]
 refine ζb (wpAny_holding (thn (ho pins s σ H _ I h) λov s1 ⟨x,H1,I1,r1,q1⟩=>?_))
 refine ζb (wpAny_holding (thn (hi pins s1 σ H1 _ I1 q1) λiv s2 ⟨y,H2,I2,r2,q2⟩=>?_))
 refine ζb (wpAny_standAt (ζb (wpAny_holding (thn (hs pins s2 σ H2 x y v ov iv u _ I2 r1 r2 r q2) λ_ s3 ⟨H3,I3,q3⟩=>?_))))
 exact wpAny_release ⟨σ,H3,I3,q3⟩
noncomputable def zgK(te:TE)(g:TG):TS:=λD σ H=>te σ H λx H1=>g x σ H1 D.nx
theorem zql{tg e:Expr}{te:TE}{g:TG}(he:PE X e te)(hg:PG X tg g)(hs:swapsWithSole [tg] e pos.line X.env=pure false:=by rfl)(hw:swappedStores [tg] e X.env=pure none:=by rfl)
 (h1:(assignEach [tg] X.env).map (·.2)=[assign tg X.env]:=by rfl):PS X (.Assign [tg] e pos) (zgK te g):=by
 intro pins s σ H D I h
 refine wpAny_Assign_stores (thn (he pins s σ H _ I h) λv s1 ⟨x,H1,I1,r1,q1⟩=>?_) hs hw
 rw[h1]
 exact thn (hg pins s1 σ H1 x v _ I1 r1 q1) λ_ s2 q=>q
theorem zmI{i:Nat}{x:Str}{e:Expr}{te:TE}{pos':Pos}(hN:X.N.Nodup)(hi:X.N[i]?=some x)(hx:Loc X.env.scope x)(he:PE X e te)(hs:swapsWith e (some (.Name x pos')) pos.line X.env=pure false:=by rfl)(hf:X.fn x=true\/X.env.scope.names.lookup x=some .local:=by first|exact .inl rfl|exact .inr rfl|assumption):
 PS X (.Assign [.Name x pos'] e pos) (zgK te (zaE i)):=by
 intro pins s σ H D I h
 refine wpAny_Assign_Name (thn (he pins s σ H _ I h) λv s1 ⟨y,H1,I1,r1,q1⟩=>?_) hs
 exact zd3 I1 hN hi hx r1 (λs2 I2=>⟨_,H1,I2,q1⟩) hf
noncomputable def zqT(i j:Nat)(ta:TA):TS:=λD σ H=>ta σ H λvs H1=>∃v w,vs=[v,w]/\D.nx ((σ.set i (some v)).set j (some w)) H1
theorem zpH{i j:Nat}{x y:Str}{a b:Expr}{ta:TA}{px py pt:Pos}{kt k2 pt2}(hc:X.calm=true)(hN:X.N.Nodup)(hi:X.N[i]?=some x)(hj:X.N[j]?=some y)(hij:i≠j)
 (hx:X.env.scope.names.lookup x=some .local) (hy:X.env.scope.names.lookup y=some .local) (ha:PA X [a,b] ta)
 (hw:swappedStores [.Tuple [.Name x px, .Name y py] kt pt] (.Tuple [a,b] k2 pt2) X.env=pure (some [x,y]))
 (hs:swapsWithSole [.Tuple [.Name x px, .Name y py] kt pt] (.Tuple [a,b] k2 pt2) pos.line X.env=pure false:=by rfl):
 PS X (.Assign [.Tuple [.Name x px, .Name y py] kt pt] (.Tuple [a,b] k2 pt2) pos) (zqT i j ta):=by
 intro pins s σ H D I h
 rw[exec_Assign_arm]
 refine ζb (wpAny_standAt ?_)
 rw[hs]
 refine ζb (ζs ?_)
 rw[if_neg (by decide)]
 refine ζb (Tuple_ (thn (ha _ pins s σ H _ I h) λus s1 ⟨vs,H1,I1,r1,q1⟩=>?_))
 obtain⟨v,w,e1,q1⟩:=q1
 subst e1
 obtain⟨u1,u2,rfl,rv,rw'⟩:∃u1 u2,us=[u1,u2]/\RelV v u1/\RelV w u2:=by
  cases r1 with
  |cons p q=>
   cases q with
   |cons p' q'=>
    cases q'
    exact⟨_,_,rfl,p,p'⟩
 refine wpAny_newObj_type ?_ (by show 2<=sizeLine;decide)
 have I2:Inv X pins σ H1 {s1 with heap:=s1.heap.push {cls:= .type "tuple",data:= .seq [u1,u2].toArray}}:=I1.kept (t':=s1.toks) λb o e=>ζc _ e
 rw[hw]
 refine ζb (ζs ?_)
 show wpAny (model X.prog X.w) X.A (do rule "assign.swapped-stores";let items ←unpackItems (.ref s1.heap.objs.size) 2 none;assignInOrder [λv=>bindName X.env y v,λv=>bindName X.env x v] items.reverse;pure Flow.next) _ _ _
 refine ζb (wpAny_rule (ζb (unpackItems_tuple (items:= #[u1,u2]) (I.ok.hd hc) (IsTup.new s1.heap _) λh' hx'=>?_)))
 have I3:=I2.kept (h':=h') (t':=s1.toks) λb o e=>hx' b o (ξl (ζn e)) e
 show wpAny _ _ (assignInOrder [λv=>bindName X.env y v,λv=>bindName X.env x v] [u2,u1]>>=λ_=>pure Flow.next) _ _ _
 refine ζb (assignInOrder_cons (wpAny_bindName (zd3 I3 hN hj (.inl hy) rw' (λs2 I4=>?_) (.inr hy))))
 refine assignInOrder_cons (wpAny_bindName (zd3 I4 hN hi (.inl hx) rv (λs3 I5=>assignInOrder_nil (ζs ?_)) (.inr hx)))
 rw[List.set_comm _ _ (Ne.symm hij)] at I5
 exact⟨_,H1,I5,q1⟩
end
section
variable{X:Cx}{pos:Pos}
end
structure It where
 go:Nat->Hp->Prop
 yld:Nat->Hp->V->Hp->Prop
 stop:Nat->Hp->Prop
def ze2(X:Cx)(pins:List (Addr×Obj))(H:Hp)(b:Addr):Prop:=
 H b=none/\b≠X.env.locals/\b∉X.fs/\(b∈X.ex\/X.s₀.heap.objs.size<=b)/\(∀x c,X.env.cells.lookup x=some c->c≠b)/\∀p∈X.pn ++pins,p.1≠b
theorem Inv.fpOk{X:Cx}{pins:List (Addr×Obj)}{σ:St}{H H':Hp}{s:Shared}{b:Addr}(I:Inv X pins σ H s)(hb:s.heap.objs.size<=b)(hn:H' b=none):ze2 X pins H' b:=by
 refine⟨hn,Nat.ne_of_gt (ξh I.lt hb),I.nofs hb, .inr (ξb I.sz hb),λx c e z=>?_,λp hp z=>?_⟩
 ·obtain ⟨v,q⟩:=I.cell x c e
  exact absurd (ξh q.lt (by rw[z];exact hb)) (Nat.lt_irrefl _)
 ·exact absurd (ξh (ζn (I.pin p hp).1) (by rw[z];exact hb)) (Nat.lt_irrefl _)
structure Turn(P:Program)(w:World)(K:PySem.W.Frag)(tg:Expr)(J:It)(fp:List Addr)(it:Addr)(tn:Nat->Heap->Prop):Prop where
 mem:it∈fp
 obj:∀i h,tn i h->∀b∈fp,∃o,h.get? b=some o/\∀v,o.data≠ .cell v
 keep:∀i h h',tn i h->(∀b∈fp,∀o,h.get? b=some o->h'.get? b=some o)->tn i h'
 item:∀(X:Cx),X.prog=P->X.w=w->X.K=K->X.calm=true->∀(i:Nat) (pins:List (Addr×Obj)) (s:Shared) (σ:St) (H:Hp) (E:Value->Shared->Prop),Inv X pins σ H s->(∀b∈fp,ze2 X pins H b)->tn i s.heap->J.go i H->
  wpAny (model P w) X.A (pyNext (.ref it)) (λr s1=>∃u,r=some u/\
   wpAny (model P w) X.A (letOwnedTupleGo tg (.ref it) u) (λ_ s2=>∃x H',Inv X pins σ H' s2/\RelV x u/\J.yld i H x H'/\tn (i+1) s2.heap/\∀b∈fp,H' b=none) E s1) E s
 done:∀(X:Cx),X.prog=P->X.w=w->X.K=K->X.calm=true->∀(i:Nat) (pins:List (Addr×Obj)) (s:Shared) (σ:St) (H:Hp) (E:Value->Shared->Prop),Inv X pins σ H s->(∀b∈fp,ze2 X pins H b)->tn i s.heap->J.stop i H->
   wpAny (model P w) X.A (pyNext (.ref it)) (λr s1=>r=none/\Inv X pins σ H s1) E s
 self:∀(A:Around) (i:Nat) (s:Shared) (Q:Value->Shared->Prop) (E:Value->Shared->Prop),tn i s.heap->Q (.ref it) s->wpAny (model P w) A (pyIter (.ref it)) Q E s
noncomputable abbrev TI:=St->Hp->(It->Hp->Prop)->Prop
def PIE(X:Cx)(pins:List (Addr×Obj))(σ:St)(tg:Expr)(R:It->Hp->Prop)(itv:Value)(s2:Shared):Prop:=
 ∃(it:Addr) (fp:List Addr) (tn:Nat->Heap->Prop) (J:It) (H':Hp),itv= .ref it/\Inv X pins σ H' s2/\Turn X.prog X.w X.K tg J fp it tn/\tn 0 s2.heap/\(∀b∈fp,ze2 X pins H' b)/\R J H'
def PI(X:Cx)(tg iter:Expr)(wi:TI):Prop:=
 ∀(pins:List (Addr×Obj)) (s:Shared) (σ:St) (H:Hp) (R:It->Hp->Prop),Inv X pins σ H s->wi σ H R->
  wpAny (model X.prog X.w) X.A (eval iter X.env) (λv s1=>wpAny (model X.prog X.w) X.A (pyIter v) (PIE X pins σ tg R) X.xe s1) X.xe s
theorem zhg{M:Model}{A:Around}{E:Value->Shared->Prop}{s:Shared}{tg:Expr}{it:Addr}{u:Value}{o:Obj}{n:String}{vs:Array Value}{Q:Unit->Shared->Prop}(ho:s.heap.get? it=some o)(hc:o.cls= .type n)(hd:o.data= .fields vs)
 (hn:["enumerate","zip","dict_itemiterator","dict_reverseitemiterator","odict_iterator","itertools.zip_longest","itertools.pairwise"].contains n=false) (hQ:Q () s):wpAny M A (letOwnedTupleGo tg (.ref it) u) Q E s:=by
 unfold letOwnedTupleGo
 cases tg<;>first
  |exact ζs hQ
  |(cases u<;>first
     |exact ζs hQ
     |(refine ζb (wpAny_load ho ?_)
       rw[hc,hd]
       show wpAny M A (if(["enumerate","zip","dict_itemiterator","dict_reverseitemiterator","odict_iterator","itertools.zip_longest","itertools.pairwise"].contains n&&vs[0]?==some (rawInt _))=true then _ else _) Q E s
       rw[if_neg (by intro h;rw[hn,Bool.false_and] at h;cases h)]
       exact ζs hQ))
noncomputable def Itl(K:PySem.W.Frag)(a:Addr):It:=
 ⟨λi H=>∃xs x,SqL K H a xs/\xs[i]?=some x,λi H x H'=>H'=H/\∀xs,SqL K H a xs->xs[i]?=some x,λi H=>∃xs,SqL K H a xs/\xs.length<=i⟩
noncomputable def Itt(K:PySem.W.Frag)(a:Addr):It:=
 ⟨λi H=>∃xs x,SqT K H a xs/\xs[i]?=some x,λi H x H'=>H'=H/\∀xs,SqT K H a xs->xs[i]?=some x,λi H=>∃xs,SqT K H a xs/\xs.length<=i⟩
noncomputable def Itr(lo:Int)(n:Nat):It:=⟨λi _=>i<n,λi H x H'=>H'=H/\x= .int (lo+i),λi _=>n<=i⟩
theorem zl4{P:Program}{w:World}{K:PySem.W.Frag}{tg:Expr}(a it:Addr):Turn P w K tg (Itl K a) [it] it (λi h=>h.IsListIter it a i) where
 mem:=by simp
 obj:=λi h st b hb=>by
  have e:b=it:=by simpa using hb
  subst e
  obtain⟨o,e,c,d⟩:=st
  exact⟨o,e,λv z=>by rw[d] at z;cases z⟩
 keep:=λi h h' st k=>st.at λo e=>k it (by simp) o e
 item:=by
  intro X hP hw hK hc i pins s σ H E I hf st hg
  subst hP hw hK
  obtain⟨xs,x,hq,hx⟩:=hg
  obtain⟨its,rv,p,hz⟩:=I.list hq
  obtain⟨u,hu,ru⟩:=rv.get hx
  obtain⟨f0,f1,f2,f3,f4,f5⟩:=hf it (by simp)
  refine wpAny_pyNext_list_item st p.isList (x:=u) (by simpa using hu) λh' st' sb=>?_
  have I1:Inv X pins σ H {s with heap:=h'}:=I.turned (t':=s.toks) (λb o hb e=>(sb.2 b hb).trans e) f0 f1 f3 f4 f5
  obtain⟨o,e,c,d⟩:=id st'
  exact⟨u,rfl,zhg (s:={s with heap:=h'}) e c d (by decide) ⟨x,H,I1,ru,⟨rfl,λys hy=>by rw[I.list_inj hy hq];exact hx⟩,st',λb hb=>(hf b hb).1⟩⟩
 done:=by
   intro X hP hw hK hc i pins s σ H E I hf st hg
   subst hP hw hK
   obtain⟨xs,hq,hx⟩:=hg
   obtain⟨its,rv,p,hz⟩:=I.list hq
   obtain⟨f0,f1,f2,f3,f4,f5⟩:=hf it (by simp)
   have hl:=rv.length
   exact wpAny_pyNext_list_end (I.ok.hd hc) st p.isList (by simp;omega) λh' eb=>⟨rfl,I.turned (t':=s.toks) (λb o hb e=>eb b o hb e) f0 f1 f3 f4 f5⟩
 self:=λ_ _ _ _ _ st h=>wpAny_pyIter_listiter st h
theorem zjp{P:Program}{w:World}{K:PySem.W.Frag}{tg:Expr}(a it:Addr):Turn P w K tg (Itt K a) [it] it (λi h=>h.IsTupleIter it a i) where
 mem:=by simp
 obj:=λi h st b hb=>by
  have e:b=it:=by simpa using hb
  subst e
  obtain⟨o,e,c,d⟩:=st
  exact⟨o,e,λv z=>by rw[d] at z;cases z⟩
 keep:=λi h h' st k=>st.at λo e=>k it (by simp) o e
 item:=by
  intro X hP hw hK hc i pins s σ H E I hf st hg
  subst hP hw hK
  obtain⟨xs,x,hq,hx⟩:=hg
  obtain⟨its,rv,p,hz⟩:=I.tuple hq
  obtain⟨u,hu,ru⟩:=rv.get hx
  obtain⟨f0,f1,f2,f3,f4,f5⟩:=hf it (by simp)
  refine wpAny_pyNext_tuple_item st (show s.heap.IsTuple a its.toArray from p) (x:=u) (by simpa using hu) λh' st' sb=>?_
  have I1:Inv X pins σ H {s with heap:=h'}:=I.turned (t':=s.toks) (λb o hb e=>(sb.2 b hb).trans e) f0 f1 f3 f4 f5
  obtain⟨o,e,c,d⟩:=id st'
  exact⟨u,rfl,zhg (s:={s with heap:=h'}) e c d (by decide) ⟨x,H,I1,ru,⟨rfl,λys hy=>by rw[I.tuple_inj hy hq];exact hx⟩,st',λb hb=>(hf b hb).1⟩⟩
 done:=by
   intro X hP hw hK hc i pins s σ H E I hf st hg
   subst hP hw hK
   obtain⟨xs,hq,hx⟩:=hg
   obtain⟨its,rv,p,hz⟩:=I.tuple hq
   obtain⟨f0,f1,f2,f3,f4,f5⟩:=hf it (by simp)
   have hl:=rv.length
   exact wpAny_pyNext_tuple_end (I.ok.hd hc) st (show s.heap.IsTuple a its.toArray from p) (by simp;omega) λh' eb=>⟨rfl,I.turned (t':=s.toks) (λb o hb e=>eb b o hb e) f0 f1 f3 f4 f5⟩
 self:=λ_ _ _ _ _ st h=>wpAny_pyIter_tupleiter st h
theorem zj6{P:Program}{w:World}{K:PySem.W.Frag}{tg:Expr}(it:Addr)(lo:Int)(n:Nat):Turn P w K tg (Itr lo n) [it] it (λi h=>IsRangeIter h it (lo+(i:Nat)*1) ((n:Int) -(i:Nat)) 1) where
 mem:=by simp
 obj:=λi h st b hb=>by
  have e:b=it:=by simpa using hb
  subst e
  exact⟨_,st,λv z=>by
   have z':Data.fields _=Data.cell v:=z
   cases z'⟩
 keep:=λi h h' st k=>k it (by simp) _ st
 item:=by
  intro X hP hw hK hc i pins s σ H E I hf st hg
  subst hP hw hK
  obtain⟨f0,f1,f2,f3,f4,f5⟩:=hf it (by simp)
  have W:=Walks.range (prog:=X.prog) (w:=X.w) (I.ok.hd hc) it lo 1 n
  refine W.item i s _ _ hg st λv h' tk hv st' kk=>?_
  obtain⟨t,rfl⟩:=hv
  have I1:Inv X pins σ H {s with heap:=h',toks:=tk}:=I.turned (λb o hb e=>kk b o (by simpa using hb) e) f0 f1 f3 f4 f5
  refine⟨_,rfl,zhg (s:={s with heap:=h',toks:=tk}) (n:="range_iterator") st' rfl rfl (by decide) ⟨.int (lo+i),H,I1,⟨t,?_⟩,⟨rfl,rfl⟩,st',λb hb=>(hf b hb).1⟩⟩
  rw[Int.mul_one]
 done:=by
   intro X hP hw hK hc i pins s σ H E I hf st hg
   subst hP hw hK
   obtain⟨f0,f1,f2,f3,f4,f5⟩:=hf it (by simp)
   exact wpAny_pyNext_range_end (I.ok.hd hc) st (by have:n<=i:=hg;omega) λh' eb=>⟨rfl,I.turned (t':=s.toks) (λb o hb e=>eb b o hb e) f0 f1 f3 f4 f5⟩
 self:=λ_ _ _ _ _ st h=>wpAny_pyIter_rangeiter st h
section
variable{X:Cx}{tg:Expr}
noncomputable def znk(K:PySem.W.Frag)(tl:TE):TI:=λσ H R=>tl σ H λx H1=>∃a,x= .ref a/\(∃xs,SqL K H1 a xs)/\R (Itl K a) H1
noncomputable def zqs(K:PySem.W.Frag)(tl:TE):TI:=λσ H R=>tl σ H λx H1=>∃a,x= .ref a/\(∃xs,SqT K H1 a xs)/\R (Itt K a) H1
theorem zow{l:Expr}{tl:TE}(hl:PE X l tl):PI X tg l (znk X.K tl):=by
 intro pins s σ H R I h
 refine thn (hl pins s σ H _ I h) λv s1 ⟨x,H1,I1,r1,q1⟩=>?_
 obtain⟨a,e,⟨xs,hq⟩,q⟩:=q1
 subst e
 cases r1
 obtain⟨its,rv,p,hz⟩:=I1.list hq
 refine wpAny_pyIter_list p.isList ?_
 refine⟨s1.heap.objs.size,[s1.heap.objs.size],_,_,H1,rfl,I1.kept (t':=s1.toks) λb o e=>ζc _ e,zl4 a _,⟨_,ζj _ rfl,rfl,rfl⟩,λb hb=>?_,q⟩
 have e:b=s1.heap.objs.size:=by simpa using hb
 subst e
 exact I1.fpOk (ζu _) (I1.hok.fresh (ζu _))
theorem zqo{l:Expr}{tl:TE}(hl:PE X l tl):PI X tg l (zqs X.K tl):=by
 intro pins s σ H R I h
 refine thn (hl pins s σ H _ I h) λv s1 ⟨x,H1,I1,r1,q1⟩=>?_
 obtain⟨a,e,⟨xs,hq⟩,q⟩:=q1
 subst e
 cases r1
 obtain⟨its,rv,p,hz⟩:=I1.tuple hq
 refine wpAny_pyIter_tuple (show s1.heap.IsTuple a its.toArray from p) ?_
 refine⟨s1.heap.objs.size,[s1.heap.objs.size],_,_,H1,rfl,I1.kept (t':=s1.toks) λb o e=>ζc _ e,zjp a _,⟨_,ζj _ rfl,rfl,rfl⟩,λb hb=>?_,q⟩
 have e:b=s1.heap.objs.size:=by simpa using hb
 subst e
 exact I1.fpOk (ζu _) (I1.hok.fresh (ζu _))
theorem ziE{pins:List (Addr×Obj)}{σ:St}{H:Hp}{s:Shared}{R:It->Hp->Prop}{E:Value->Shared->Prop}{lo hi:Int}{t u v:Tok}{tk:Nat}(I:Inv X pins σ H s)(h1: -(2^62)<=lo)(h2:lo<2^62)(h3: -(2^62)<=hi)(h4:hi<2^62)
 (q:R (Itr lo (hi -lo).toNat) H):wpAny (model X.prog X.w) X.A (pyIter (.ref s.heap.objs.size)) (PIE X pins σ tg R) E {s with heap:=s.heap.push {cls:= .type "range",data:= .fields #[.int lo t, .int hi u, .int 1 v]},toks:=tk}:=by
 refine wpAny_pyIter_range (IsRange.new ..) (small_one h1 h2 h3 h4) ?_
 have I1:Inv X pins σ H {s with heap:=s.heap.push {cls:= .type "range",data:= .fields #[.int lo t, .int hi u, .int 1 v]},toks:=tk}:=I.kept λb o e=>ζc _ e
 refine⟨(s.heap.push {cls:= .type "range",data:= .fields #[.int lo t, .int hi u, .int 1 v]}).objs.size,[(s.heap.push {cls:= .type "range",data:= .fields #[.int lo t, .int hi u, .int 1 v]}).objs.size],_,_,H,rfl,
  I1.kept (t':=tk) λb o e=>ζc _ e,zj6 _ lo (hi -lo).toNat,?_,λb hb=>?_,q⟩
 ·have e1:lo+((0:Nat):Int)*1=lo:=by simp
  have e2:(((hi -lo).toNat:Nat):Int) -((0:Nat):Int)=Builtin.Range.rangeSize lo hi 1:=by rw[rangeSize_one];split<;>omega
  show IsRangeIter _ _ (lo+((0:Nat):Int)*1) ((((hi -lo).toNat:Nat):Int) -((0:Nat):Int)) 1
  rw[e1,e2]
  exact ζj _ rfl
 ·have e:b=(s.heap.push {cls:= .type "range",data:= .fields #[.int lo t, .int hi u, .int 1 v]}).objs.size:=by simpa using hb
  subst e
  exact I1.fpOk (ζu _) (I1.hok.fresh (ζu _))
noncomputable def zps(ta:TA):TI:=λσ H R=>ta σ H λvs H1=>∃j:Int,vs=[.int j]/\-(2^62)<=j/\j<2^62/\R (Itr 0 j.toNat) H1
noncomputable def zpj(ta:TA):TI:=λσ H R=>ta σ H λvs H1=>∃i j:Int,vs=[.int i, .int j]/\(-(2^62)<=i/\i<2^62/\-(2^62)<=j/\j<2^62)/\R (Itr i (j -i).toNat) H1
theorem zlf{a:Expr}{ta:TA}{p pos:Pos}(hg:Gl X "range")(hm:X.mg "range"=none)(ha:PA X [a] ta)(hs:starEach [a] X.env=[(false,eval a X.env)]:=by rfl):PI X tg (.Call (.Name "range" p) [a] [] pos) (zps ta):=by
 intro pins s σ H R I h
 refine Call_ (zdY I hg hm boot_range (PyProof.Rows.callWith_type1 (thn (ha pos pins s σ H _ I h) λus s1 ⟨vs,H1,I1,r1,q1⟩=>?_) hs rfl))
 obtain⟨j,e,q1,q2,q⟩:=q1
 subst e
 cases r1 with
 |cons r rr=>
  cases rr
  obtain⟨t,rfl⟩:=r
  exact call_range_1 (ziE I1 (by omega) (by omega) q1 q2 (by simpa using q))
theorem zl5{a b:Expr}{ta:TA}{p pos:Pos}(hg:Gl X "range")(hm:X.mg "range"=none)(ha:PA X [a,b] ta)(hs:starEach [a,b] X.env=[(false,eval a X.env),(false,eval b X.env)]:=by rfl)(hs2:starEach [b] X.env=[(false,eval b X.env)]:=by rfl):
 PI X tg (.Call (.Name "range" p) [a,b] [] pos) (zpj ta):=by
 intro pins s σ H R I h
 refine Call_ (zdY I hg hm boot_range (PyProof.Rows.callWith_type1 (thn (ha pos pins s σ H _ I h) λus s1 ⟨vs,H1,I1,r1,q1⟩=>?_) (by rw[hs,hs2]) (by rw[hs2];rfl)))
 obtain⟨i,j,e,⟨q1,q2,q3,q4⟩,q⟩:=q1
 subst e
 cases r1 with
 |cons r rr=>
  cases rr with
  |cons r' rr=>
   cases rr
   obtain⟨t,rfl⟩:=r
   obtain⟨t',rfl⟩:=r'
   exact call_range_2 (ziE I1 q1 q2 q3 q4 q)
noncomputable def zrn(wi:TI)(g:TG)(tb:TS):TS:=λD σ H=>wi σ H λJ H1=>∃W:Nat->Nat->St->Hp->Prop,(∃m,W 0 m σ H1)/\∀i m σ H,W i m σ H->
 (J.stop i H/\D.nx σ H)\/(J.go i H/\∃N:St->Hp->Prop,(∀σ' H',N σ' H'->∃m',m'<m/\W (i+1) m' σ' H')/\∀x H',J.yld i H x H'->g x σ H' λσ2 H2=>tb {D with nx:=N,ct:=N,bk:=D.nx} σ2 H2)
noncomputable def zfo(fp:List Addr)(h:Heap):List (Addr×Obj):=fp.filterMap λb=>(h.get? b).map λo=>(b,o)
theorem zbP{fp:List Addr}{h:Heap}{b:Addr}{o:Obj}(hb:b∈fp)(e:h.get? b=some o):(b,o)∈zfo fp h:=List.mem_filterMap.mpr ⟨b,hb,by rw[e];rfl⟩
theorem zlU{fp:List Addr}{h:Heap}{p:Addr×Obj}(hp:p∈zfo fp h):p.1∈fp/\h.get? p.1=some p.2:=by
 obtain⟨b,hb,e⟩:=List.mem_filterMap.mp hp
 cases q:h.get? b with
 |none=>rw[q] at e;cases e
 |some o=>
  rw[q] at e
  have e':(b,o)=p:=ξj e
  subst e'
  exact⟨hb,q⟩
theorem Inv.pinned{pins:List (Addr×Obj)}{σ:St}{H:Hp}{s:Shared}{fp:List Addr}(I:Inv X pins σ H s)(hf:∀b∈fp,ze2 X pins H b)(ho:∀b∈fp,∃o,s.heap.get? b=some o/\∀v,o.data≠ .cell v):Inv X (pins ++zfo fp s.heap) σ H s:=
 I.pins_of λp hp=>(List.mem_append.mp hp).elim (λz=>I.pin p (List.mem_append_right _ z)) λz=>by
  obtain⟨hb,e⟩:=zlU z
  obtain⟨f0,f1,f2,_⟩:=hf p.1 hb
  obtain⟨o,e',d⟩:=ho p.1 hb
  rw[e] at e';cases e'
  exact⟨e,f0,f1,f2,d⟩
theorem Inv.unpinned{pins pl:List (Addr×Obj)}{σ:St}{H:Hp}{s:Shared}(I:Inv X (pins ++pl) σ H s):Inv X pins σ H s:=I.pins_of λp hp=>I.pin p (List.mem_append_right _ (List.mem_append_left _ hp))
theorem zpL{iter:Expr}{body:List Stmt}{wi:TI}{g:TG}{tb:TS}{pos:Pos}(hp:PassesOwn (model X.prog X.w) X.A X.env X.xe)(hc:X.calm=true)(hi:PI X tg iter wi)(hg:PG X tg g)(hb:PSs X body tb)
 (hs:∀x,foldedSetIterable iter X.env x=pure x:=by intro _;rfl):PS X (.For tg iter body [] pos) (zrn wi g tb):=by
 intro pins s σ H D I h
 refine wpAny_For (thn (hi pins s σ H _ I h) λv s1 h1=>thn h1 λitv s2 h2=>?_) hs
 obtain⟨it,fp,tn,J,H2,e,I2,T,st2,f2,W,⟨m0,w0⟩,turn⟩:=h2
 subst e
 have stat:∀{H':Hp},(∀b∈fp,H' b=none)->∀b∈fp,ze2 X pins H' b:=λhn b hb=>⟨hn b hb,(f2 b hb).2⟩
 refine codeAny_forLoop_any (λn s'=>∃i σ' H',Inv X pins σ' H' s'/\tn i s'.heap/\(∀b∈fp,H' b=none)/\W i n σ' H') ?_ m0 ⟨0,σ,H2,I2,st2,λb hb=>(f2 b hb).1,w0⟩
 rintro n s3 ⟨i,σ3,H3,I3,st3,fr3,w3⟩
 rcases turn i n σ3 H3 w3 with⟨stop,qn⟩|⟨go,N,hN,step⟩
 ·refine wpAny_passesOwn hp (thn (T.done X rfl rfl rfl hc i pins s3 σ3 H3 X.xe I3 (stat fr3) st3 stop) λr s4 ⟨hr,I4⟩=>?_)
  subst hr
  exact wpAny_execs_nil ⟨σ3,H3,I4,qn⟩
 ·refine wpAny_passesOwn hp (thn (T.item X rfl rfl rfl hc i pins s3 σ3 H3 X.xe I3 (stat fr3) st3 go) λr s4 ⟨u,hr,h4⟩=>?_)
  subst hr
  refine wpAny_passesOwn hp (thn h4 λ_ s5 ⟨x,H5,I5,r5,y5,st5,fr5⟩=>?_)
  have I5':=I5.pinned (stat fr5) (T.obj _ _ st5)
  refine wpAny_passesOwn hp (thn (hg _ s5 σ3 H5 x u _ I5' r5 (step x H5 y5)) λ_ s6 ⟨σ6,H6,I6,q6⟩=>?_)
  refine wpAny_passesOwn hp (thn (hb _ s6 σ6 H6 _ I6 q6) λf s7 q7=>?_)
  have again:∀{σ7:St} {H7:Hp},Inv X (pins ++zfo fp s5.heap) σ7 H7 s7->N σ7 H7->∃m,m<n/\∃i σ' H',Inv X pins σ' H' s7/\tn i s7.heap/\(∀b∈fp,H' b=none)/\W i m σ' H':=λ{σ7 H7} I7 n7=>by
   obtain⟨m',hm,w7⟩:=hN σ7 H7 n7
   refine⟨m',hm,i+1,σ7,H7,I7.unpinned,T.keep _ _ _ st5 λb hb o e=>(I7.pin (b,o) (List.mem_append_right _ (List.mem_append_right _ (zbP hb e)))).1,λb hb=>?_,w7⟩
   obtain⟨o,e,d⟩:=T.obj _ _ st5 b hb
   exact(I7.pin (b,o) (List.mem_append_right _ (List.mem_append_right _ (zbP hb e)))).2.1
  cases f with
  |next=>obtain ⟨σ7,H7,I7,n7⟩:=q7;exact again I7 n7
  |cont=>obtain ⟨σ7,H7,I7,n7⟩:=q7;exact again I7 n7
  |brk=>obtain ⟨σ7,H7,I7,q7⟩:=q7;exact⟨σ7,H7,I7.unpinned,q7⟩
  |ret v=>obtain ⟨x7,σ7,H7,I7,r7,q7⟩:=q7;exact⟨x7,σ7,H7,I7.unpinned,r7,q7⟩
end
noncomputable abbrev R2:=V->V->Hp->VK->Prop
def OpR(X:Cx)(f:Value->Value->Sem Value)(r:R2):Prop:=
 ∀(pins:List (Addr×Obj)) (s:Shared) (σ:St) (H:Hp) (x y:V) (v u:Value) (Q:VK),Inv X pins σ H s->RelV x v->RelV y u->r x y H Q->
  wpAny (model X.prog X.w) X.A (f v u) (EP X pins σ Q) X.xe s
def UnR(X:Cx)(f:Value->Sem Value)(r:V->Hp->VK->Prop):Prop:=
 ∀(pins:List (Addr×Obj)) (s:Shared) (σ:St) (H:Hp) (x:V) (v:Value) (Q:VK),Inv X pins σ H s->RelV x v->r x H Q->
  wpAny (model X.prog X.w) X.A (f v) (EP X pins σ Q) X.xe s
def CallR(X:Cx)(f:Value)(r:List V->Hp->VK->Prop):Prop:=
 ∀(pins:List (Addr×Obj)) (s:Shared) (σ:St) (H:Hp) (xs:List V) (us:List Value) (Q:VK),Inv X pins σ H s->Vals xs us->r xs H Q->
  wpAny (model X.prog X.w) X.A (call f us) (EP X pins σ Q) X.xe s
def zrp(X:Cx)(r:V->Hp->(Bool->Hp->Prop)->Prop):Prop:=
 ∀(pins:List (Addr×Obj)) (s:Shared) (σ:St) (H:Hp) (x:V) (v:Value) (Q:Bool->Hp->Prop),Inv X pins σ H s->RelV x v->r x H Q->
  wpAny (model X.prog X.w) X.A (truthy v) (TP X pins σ Q) X.xe s
noncomputable def tOp(r:R2)(ta tb:TE):TE:=λσ H Q=>ta σ H λx H1=>tb σ H1 λy H2=>r x y H2 Q
def tUn(r:V->Hp->VK->Prop)(ta:TE):TE:=λσ H Q=>ta σ H λx H1=>r x H1 Q
def rI(C:Int->Int->Prop)(g:Int->Int->V):R2:=λx y H Q=>∃i j,x= .int i/\y= .int j/\C i j/\Q (g i j) H
noncomputable def rI0(g:Int->Int->V):R2:=λx y H Q=>∃i j,x= .int i/\y= .int j/\Q (g i j) H
def rU(g:Int->V):V->Hp->VK->Prop:=λx H Q=>∃i,x= .int i/\Q (g i) H
section
variable{X:Cx}{a b c:Expr}{ta tb tc:TE}{pos:Pos}
theorem zpY(ha:PE X a ta)(hb:PE X b tb){pins:List (Addr×Obj)}{s:Shared}{σ:St}{H:Hp}{R:V->V->Hp->Prop}(I:Inv X pins σ H s)
 (h:ta σ H λx H1=>tb σ H1 λy H2=>R x y H2) {Q:Value->Shared->Prop} {f:Value->Value->Sem Value}
 (hf:∀v u s2 x y H2,Inv X pins σ H2 s2->RelV x v->RelV y u->R x y H2->wpAny (model X.prog X.w) X.A (f v u) Q X.xe s2):
 wpAny (model X.prog X.w) X.A (eval a X.env) (λv s₁=>wpAny (model X.prog X.w) X.A (eval b X.env) (λu s₂=>wpAny (model X.prog X.w) X.A (f v u) Q X.xe s₂) X.xe s₁) X.xe s:=by
 refine thn (ha pins s σ H _ I h) λv s1 ⟨x,H1,I1,r1,q1⟩=>?_
 refine thn (hb pins s1 σ H1 _ I1 q1) λu s2 ⟨y,H2,I2,r2,q2⟩=>?_
 exact hf v u s2 x y H2 I2 r1 r2 q2
theorem zq8{op:Operator}{r:R2}(ho:OpR X (binaryOp op) r)(ha:PE X a ta)(hb:PE X b tb):PE X (.BinOp a op b pos) (tOp r ta tb):=by
 intro pins s σ H Q I h
 exact wpAny_BinOp (zpY ha hb I h λv u s2 x y H2 I2 rx ry q=>ho pins s2 σ H2 x y v u Q I2 rx ry q)
theorem zqM{op:UnaryOp}{r:V->Hp->VK->Prop}(ho:UnR X (unaryOp op) r)(ha:PE X a ta):PE X (.UnaryOp op a pos) (tUn r ta):=by
 intro pins s σ H Q I h
 exact UnaryOp_ (thn (ha pins s σ H _ I h) λv s1 ⟨x,H1,I1,r1,q1⟩=>ho pins s1 σ H1 x v Q I1 r1 q1)
theorem opI{f:Value->Value->Sem Value}{C:Int->Int->Prop}{g:Int->Int->Int}
 (rule:∀(i j:Int) (t u:Tok) (s:Shared) (Q:Value->Shared->Prop) (E:Value->Shared->Prop),C i j->Q (.int (g i j) s.toks) {s with toks:=s.toks+1}->wpAny (model X.prog X.w) X.A (f (.int i t) (.int j u)) Q E s):
 OpR X f (rI C λi j=> .int (g i j)):=by
 intro pins s σ H x y v u Q I rx ry h
 obtain⟨i,j,rfl,rfl,hc,q⟩:=h
 obtain⟨t,rfl⟩:=rx
 obtain⟨t',rfl⟩:=ry
 exact rule i j t t' s _ _ hc ⟨.int (g i j),H,I.tok _,⟨_,rfl⟩,q⟩
theorem zrg{f:Value->Value->Sem Value}{g:Int->Int->Int}
 (rule:∀(i j:Int) (t u:Tok) (s:Shared) (Q:Value->Shared->Prop) (E:Value->Shared->Prop),Q (.int (g i j) s.toks) {s with toks:=s.toks+1}->wpAny (model X.prog X.w) X.A (f (.int i t) (.int j u)) Q E s):
 OpR X f (rI0 λi j=> .int (g i j)):=by
 intro pins s σ H x y v u Q I rx ry h
 obtain⟨i,j,rfl,rfl,q⟩:=h
 obtain⟨t,rfl⟩:=rx
 obtain⟨t',rfl⟩:=ry
 exact rule i j t t' s _ _ ⟨.int (g i j),H,I.tok _,⟨_,rfl⟩,q⟩
theorem zn6{f:Value->Value->Sem Value}{g:Int->Int->Bool}
 (rule:∀(i j:Int) (t u:Tok) (s:Shared) (Q:Value->Shared->Prop) (E:Value->Shared->Prop),Q (.bool (g i j)) s->wpAny (model X.prog X.w) X.A (f (.int i t) (.int j u)) Q E s):
 OpR X f (rI0 λi j=> .bl (g i j)):=by
 intro pins s σ H x y v u Q I rx ry h
 obtain⟨i,j,rfl,rfl,q⟩:=h
 obtain⟨t,rfl⟩:=rx
 obtain⟨t',rfl⟩:=ry
 exact rule i j t t' s _ _ ⟨.bl (g i j),H,I,rfl,q⟩
def zru(i j:Int):Prop:=0<j/\j<1073741824
def zro(i j:Int):Prop:=0<=j/\j<=1000000/\i.natAbs<2^64
def CMul(i j:Int):Prop:=(-(2^64)<i/\i<2^64)\/(-(2^64)<j/\j<2^64)
theorem CMul.ok{i j:Int}(h:CMul i j):IntMulOk i j:=by
 rcases h with⟨h1,h2⟩|⟨h1,h2⟩
 ·exact .of_left (intBits_le_64 h1 h2)
 ·exact .of_right (intBits_le_64 h1 h2)
theorem zat:OpR X (binaryOp .Add) (rI0 λi j=> .int (i+j)):=zrg λ_ _ _ _ _ _ _ q=>add_int q
theorem zdP:OpR X (binaryOp .Sub) (rI0 λi j=> .int (i -j)):=zrg λ_ _ _ _ _ _ _ q=>sub_int q
theorem zdc:OpR X (binaryOp .Mult) (rI CMul λi j=> .int (i*j)):=opI λ_ _ _ _ _ _ _ hc q=>mul_int q hc.ok
theorem zhZ:OpR X (binaryOp .FloorDiv) (rI zru λi j=> .int (i/j)):=opI λi j _ _ _ _ _ hc q=>by
 have h1:(0:Int)<j:=hc.1
 have h2:j<1073741824:=hc.2
 exact floordiv_int (by omega) (by rw[Int.fdiv_eq_ediv_of_nonneg i (by omega)];exact q) (.inl (PyProof.noPylong_small (by omega)))
theorem zdO:OpR X (binaryOp .Mod) (rI (λ_ j=>0<j) λi j=> .int (i%j)):=opI λi j _ _ _ _ _ hc q=>by
 have h1:(0:Int)<j:=hc
 exact mod_int' (by omega) (by rw[Int.fmod_eq_emod_of_nonneg i (by omega)];exact q)
theorem zpy:OpR X (binaryOp .Pow) (rI zro λi j=> .int (i^j.toNat)):=opI λ_ _ _ _ _ _ _ hc q=>pow_int_small hc.1 hc.2.1 hc.2.2 q
theorem unI{f:Value->Sem Value}{g:Int->Int}
 (rule:∀(i:Int) (t:Tok) (s:Shared) (Q:Value->Shared->Prop) (E:Value->Shared->Prop),Q (.int (g i) s.toks) {s with toks:=s.toks+1}->wpAny (model X.prog X.w) X.A (f (.int i t)) Q E s):
 UnR X f (rU λi=> .int (g i)):=by
 intro pins s σ H x v Q I rx h
 obtain⟨i,rfl,q⟩:=h
 obtain⟨t,rfl⟩:=rx
 exact rule i t s _ _ ⟨.int (g i),H,I.tok _,⟨_,rfl⟩,q⟩
theorem zbH:UnR X (unaryOp .USub) (rU λi=> .int (-i)):=unI λ_ _ _ _ _ q=>neg_int q
end
noncomputable def zpR:V->V->Bool
 | .non, .non=>true| .non, .int _=>true| .int _, .non=>true| .non, .bl _=>true| .bl _, .non=>true| .non, .str _=>true| .str _, .non=>true
 | .int _, .int _=>true| .bl _, .bl _=>true| .str _, .str _=>true| .byt _, .byt _=>true
 | .int _, .str _=>true| .str _, .int _=>true| .bl _, .str _=>true| .str _, .bl _=>true
 |_,_=>false
noncomputable def rEq:R2:=λx y H Q=>zpR x y=true/\Q (.bl (decide (x=y))) H
noncomputable def rNe:R2:=λx y H Q=>zpR x y=true/\Q (.bl (!decide (x=y))) H
theorem zkS{i j:Int}:decide (V.int i=V.int j)=(i==j):=by
 rw[ξf]
 simp
theorem znr{i j:Bool}:decide (V.bl i=V.bl j)=(i==j):=by
 rw[ξf]
 simp
theorem zkK{i j:Str}:decide (V.str i=V.str j)=(i==j):=by
 rw[ξf]
 simp
theorem zkP{i j:Array UInt8}:decide (V.byt i=V.byt j)=(i.toList==j.toList):=by
 rw[ξf]
 cases i
 cases j
 simp
section
variable{X:Cx}{a b c:Expr}{ta tb tc:TE}{pos:Pos}
theorem zT{pins:List (Addr×Obj)}{σ:St}{H:Hp}{s:Shared}{Q:VK}{k k':Bool}(I:Inv X pins σ H s)(q:Q (.bl k) H)(e:k=k'):EP X pins σ Q (.bool k') s:=by
 subst e
 exact⟨.bl k,H,I,rfl,q⟩
theorem zay:OpR X (compareOp .Eq) rEq:=by
 intro pins s σ H x y v u Q I rx ry h
 obtain⟨hs,q⟩:=h
 cases x with
 |non=>
  cases rx
  cases y with
  |non=>cases ry;exact PySem.EqNone.eq_none_none (zT I q (by simp))
  |bl j=>cases ry;exact PySem.EqNone.eq_none_bool (zT I q (by simp))
  |int j=>obtain ⟨t',rfl⟩:=ry;exact PySem.EqNone.eq_none_int (zT I q (by simp))
  |str j=>obtain ⟨t',rfl⟩:=ry;exact PySem.EqNone.eq_none_str (zT I q (by simp))
  |_=>exact absurd (show false=true from hs) ξg
 |bl i=>
  cases rx
  cases y with
  |non=>cases ry;exact PySem.EqNone.eq_bool_none (zT I q (by simp))
  |bl j=>cases ry;exact eq_bool (zT I q znr)
  |str j=>obtain ⟨t',rfl⟩:=ry;exact PySem.EqMixed.eq_bool_str (zT I q (by simp))
  |_=>exact absurd (show false=true from hs) ξg
 |int i=>
  obtain⟨t,rfl⟩:=rx
  cases y with
  |non=>cases ry;exact PySem.EqNone.eq_int_none (zT I q (by simp))
  |int j=>obtain ⟨t',rfl⟩:=ry;exact eq_int (zT I q zkS)
  |str j=>obtain ⟨t',rfl⟩:=ry;exact PySem.EqMixed.eq_int_str (zT I q (by simp))
  |_=>exact absurd (show false=true from hs) ξg
 |str i=>
  obtain⟨t,rfl⟩:=rx
  cases y with
  |non=>cases ry;exact PySem.EqNone.eq_str_none (zT I q (by simp))
  |bl j=>cases ry;exact PySem.EqMixed.eq_str_bool (zT I q (by simp))
  |int j=>obtain ⟨t',rfl⟩:=ry;exact PySem.EqMixed.eq_str_int (zT I q (by simp))
  |str j=>obtain ⟨t',rfl⟩:=ry;exact eq_str (zT I q zkK)
  |_=>exact absurd (show false=true from hs) ξg
 |byt i=>
  obtain⟨t,rfl⟩:=rx
  cases y with
  |byt j=>obtain ⟨t',rfl⟩:=ry;exact PySem.W.eq_bytes (zT I q zkP)
  |_=>exact absurd (show false=true from hs) ξg
 |_=>cases y<;>exact absurd (show false=true from hs) ξg
theorem zeP:OpR X (compareOp .NotEq) rNe:=by
 intro pins s σ H x y v u Q I rx ry h
 obtain⟨hs,q⟩:=h
 cases x with
 |non=>
  cases rx
  cases y with
  |non=>cases ry;exact PySem.EqNone.ne_none_none (zT I q (by simp))
  |bl j=>cases ry;exact PySem.EqNone.ne_none_bool (zT I q (by simp))
  |int j=>obtain ⟨t',rfl⟩:=ry;exact PySem.EqNone.ne_none_int (zT I q (by simp))
  |str j=>obtain ⟨t',rfl⟩:=ry;exact PySem.EqNone.ne_none_str (zT I q (by simp))
  |_=>exact absurd (show false=true from hs) ξg
 |bl i=>
  cases rx
  cases y with
  |non=>cases ry;exact PySem.EqNone.ne_bool_none (zT I q (by simp))
  |bl j=>cases ry;exact ne_bool (zT I q (congrArg not znr))
  |str j=>obtain ⟨t',rfl⟩:=ry;exact PySem.EqMixed.ne_bool_str (zT I q (by simp))
  |_=>exact absurd (show false=true from hs) ξg
 |int i=>
  obtain⟨t,rfl⟩:=rx
  cases y with
  |non=>cases ry;exact PySem.EqNone.ne_int_none (zT I q (by simp))
  |int j=>obtain ⟨t',rfl⟩:=ry;exact ne_int (zT I q (congrArg not zkS))
  |str j=>obtain ⟨t',rfl⟩:=ry;exact PySem.EqMixed.ne_int_str (zT I q (by simp))
  |_=>exact absurd (show false=true from hs) ξg
 |str i=>
  obtain⟨t,rfl⟩:=rx
  cases y with
  |non=>cases ry;exact PySem.EqNone.ne_str_none (zT I q (by simp))
  |bl j=>cases ry;exact PySem.EqMixed.ne_str_bool (zT I q (by simp))
  |int j=>obtain ⟨t',rfl⟩:=ry;exact PySem.EqMixed.ne_str_int (zT I q (by simp))
  |str j=>obtain ⟨t',rfl⟩:=ry;exact ne_str (zT I q (congrArg not zkK))
  |_=>exact absurd (show false=true from hs) ξg
 |byt i=>
  obtain⟨t,rfl⟩:=rx
  cases y with
  |byt j=>obtain ⟨t',rfl⟩:=ry;exact PySem.W.ne_bytes (zT I q (congrArg not zkP))
  |_=>exact absurd (show false=true from hs) ξg
 |_=>cases y<;>exact absurd (show false=true from hs) ξg
theorem ziz:OpR X (compareOp .Lt) (rI0 λi j=> .bl (decide (i<j))):=zn6 λ_ _ _ _ _ _ _ q=>lt_int q
theorem zh8:OpR X (compareOp .LtE) (rI0 λi j=> .bl (decide (i<=j))):=zn6 λ_ _ _ _ _ _ _ q=>le_int q
theorem zes:OpR X (compareOp .Gt) (rI0 λi j=> .bl (decide (j<i))):=zn6 λ_ _ _ _ _ _ _ q=>gt_int q
theorem zpa:OpR X (compareOp .GtE) (rI0 λi j=> .bl (decide (j<=i))):=zn6 λ_ _ _ _ _ _ _ q=>ge_int q
theorem op_lt_str:OpR X (compareOp .Lt) (λx y H Q=>∃i j,x= .str i/\y= .str j/\Q (.bl (decide (i.cps.toList<j.cps.toList))) H):=by
 intro pins s σ H x y v u Q I rx ry h
 obtain⟨i,j,rfl,rfl,q⟩:=h
 obtain⟨t,rfl⟩:=rx
 obtain⟨t',rfl⟩:=ry
 exact lt_str (zT I q rfl)
theorem zeH:OpR X (compareOp .Is) (λx y H Q=>y= .non/\Q (.bl (decide (x= .non))) H):=by
 intro pins s σ H x y v u Q I rx ry h
 obtain⟨rfl,q⟩:=h
 cases ry
 refine is_none_gen (zT I q ?_)
 cases x<;>first
  |(cases rx;rfl)
  |(obtain⟨t,rfl⟩:=rx;rfl)
theorem zkp:OpR X (compareOp .IsNot) (λx y H Q=>y= .non/\Q (.bl (!decide (x= .non))) H):=by
 intro pins s σ H x y v u Q I rx ry h
 obtain⟨rfl,q⟩:=h
 cases ry
 refine isnot_none_gen (zT I q ?_)
 cases x<;>first
  |(cases rx;rfl)
  |(obtain⟨t,rfl⟩:=rx;rfl)
theorem OpR.or{f:Value->Value->Sem Value}{r r':R2}(h:OpR X f r)(h':OpR X f r'):OpR X f (λx y H Q=>r x y H Q\/r' x y H Q):=by
 intro pins s σ H x y v u Q I rx ry q
 rcases q with q|q
 ·exact h pins s σ H x y v u Q I rx ry q
 ·exact h' pins s σ H x y v u Q I rx ry q
theorem zor{op:CmpOp}{r:R2}(ho:OpR X (compareOp op) r)(ha:PE X a ta)(hb:PE X b tb)(hm:behindInMarks op b=false):PE X (.Compare a [op] [b] pos) (tOp r ta tb):=by
 intro pins s σ H Q I h
 exact wpAny_Compare1 (zpY ha hb I h λv u s2 x y H2 I2 rx ry q=>ho pins s2 σ H2 x y v u Q I2 rx ry q) hm
noncomputable def zkD(t:TE):TT:=λσ H Q=>t σ H λx H'=>∃k,x= .bl k/\Q k H'
theorem zoy{op:CmpOp}{r:R2}(ho:OpR X (compareOp op) r)(ha:PE X a ta)(hb:PE X b tb)(hm:behindInMarks op b=false):PT X (.Compare a [op] [b] pos) (zkD (tOp r ta tb)):=by
 intro pins s σ H Q I h
 refine wpAny_isTrue_Compare1 (thn (ha pins s σ H _ I h) λv s1 ⟨x,H1,I1,r1,q1⟩=>thn (hb pins s1 σ H1 _ I1 q1) λu s2 ⟨y,H2,I2,r2,q2⟩=>
  thn (ho pins s2 σ H2 x y v u _ I2 r1 r2 q2) λc s3 ⟨z,H3,I3,r3,k,e,q3⟩=>?_) hm
 subst e
 cases r3
 exact wpAny_truthy_bool ⟨H3,I3,q3⟩
noncomputable def zhK(r r':R2)(ta tb tc:TE):TE:=λσ H Q=>ta σ H λx H1=>tb σ H1 λy H2=>r x y H2 λz H3=>∃k,z= .bl k/\
 (if k=true then tc σ H3 λw' H4=>r' y w' H4 Q else Q (.bl false) H3)
theorem znl{op op':CmpOp}{r r':R2}(ho:OpR X (compareOp op) r)(ho':OpR X (compareOp op') r')(ha:PE X a ta)(hb:PE X b tb)(hc:PE X c tc)
 (hm:lastMarks [op,op'] [b,c]=false:=by with_unfolding_all rfl):PE X (.Compare a [op,op'] [b,c] pos) (zhK r r' ta tb tc):=by
 intro pins s σ H Q I h
 refine Compare_chain (thn (ha pins s σ H _ I h) λv s1 ⟨x,H1,I1,r1,q1⟩=>chain_link (thn (hb pins s1 σ H1 _ I1 q1) λu s2 ⟨y,H2,I2,r2,q2⟩=>
  thn (ho pins s2 σ H2 x y v u _ I2 r1 r2 q2) λd s3 ⟨z,H3,I3,r3,k,e,q3⟩=>?_)) hm
 subst e
 cases r3
 refine wpAny_truthy_bool ?_
 cases k with
 |false=>exact ite_ff ⟨.bl false,H3,I3,rfl,q3⟩
 |true=>exact ite_tt (chain_last (thn (hc pins s3 σ H3 _ I3 q3) λw' s4 ⟨z',H4,I4,r4,q4⟩=>ho' pins s4 σ H4 y z' u w' Q I4 r2 r4 q4))
theorem zmK{op op':CmpOp}{r r':R2}(ho:OpR X (compareOp op) r)(ho':OpR X (compareOp op') r')(ha:PE X a ta)(hb:PE X b tb)(hc:PE X c tc)
 (hm:lastMarks [op,op'] [b,c]=false:=by with_unfolding_all rfl):PT X (.Compare a [op,op'] [b,c] pos) (zkD (zhK r r' ta tb tc)):=by
 intro pins s σ H Q I h
 refine isTrue_chain (thn (ha pins s σ H _ I h) λv s1 ⟨x,H1,I1,r1,q1⟩=>test_link (thn (hb pins s1 σ H1 _ I1 q1) λu s2 ⟨y,H2,I2,r2,q2⟩=>
  thn (ho pins s2 σ H2 x y v u _ I2 r1 r2 q2) λd s3 ⟨z,H3,I3,r3,k,e,q3⟩=>?_)) hm
 subst e
 cases r3
 refine wpAny_truthy_bool ?_
 cases k with
 |false=>
  obtain⟨k',e',q'⟩:=q3
  cases e'
  exact ite_ff ⟨H3,I3,q'⟩
 |true=>
  refine ite_tt (test_last (thn (hc pins s3 σ H3 _ I3 q3) λw' s4 ⟨z',H4,I4,r4,q4⟩=>thn (ho' pins s4 σ H4 y z' u w' _ I4 r2 r4 q4) λd' s5 ⟨z2,H5,I5,r5,k2,e2,q5⟩=>?_))
  subst e2
  cases r5
  exact wpAny_truthy_bool ⟨H5,I5,q5⟩
def zqA(K:PySem.W.Frag)(x:V)(H:Hp)(k:Bool):Prop:=
 match x with
 | .non=>k=false
 | .bl b=>k=b
 | .int i=>k=(i !=0)
 | .str y=>y.length<=sizeLine/\k=((y.length:Int) !=0)
 | .byt y=>y.size<=sizeLine/\k=((y.size:Int) !=0)
 | .ref p=>(∃xs,SqL K H p xs/\k=!xs.isEmpty)\/(∃xs,SqT K H p xs/\k=!xs.isEmpty)\/∃kvs,H p=some (.dK kvs)/\k=!kvs.isEmpty
 |_=>False
theorem zkc{κ:Type}{kvs:List (κ×V)}{vs:List (κ×Value)}(r:KV kvs vs):(!vs.isEmpty)=!kvs.isEmpty:=by
 cases r<;>rfl
theorem zgd{xs:List V}{its:List Value}(r:Vals xs its):(!its.toArray.isEmpty)=!xs.isEmpty:=by
 cases r<;>simp
theorem zex:(sizeLine:Nat)<2^63:=by rw[sizeLine_eq];decide
theorem zqf:zrp X (λx H Q=>∃k,zqA X.K x H k/\Q k H):=by
 intro pins s σ H x v Q I rx h
 obtain⟨k,e,q⟩:=h
 have hl:=zex
 have hs:sizeLine=16777216:=sizeLine_eq
 cases x with
 |non=>
  cases rx
  have e':k=false:=e
  subst e'
  exact truthy_none ⟨H,I,q⟩
 |bl b=>
  cases rx
  have e':k=b:=e
  subst e'
  exact wpAny_truthy_bool ⟨H,I,q⟩
 |int i=>
  obtain⟨t,rfl⟩:=rx
  have e':k=(i !=0):=e
  subst e'
  exact PySem.P.truthy_int ⟨H,I,q⟩
 |str y=>
  obtain⟨t,rfl⟩:=rx
  obtain⟨hy,e'⟩:y.length<=sizeLine/\k=((y.length:Int) !=0):=e
  subst e'
  exact PySem.P.truthy_str (by omega) ⟨H,I.tok _,q⟩
 |byt y=>
  obtain⟨t,rfl⟩:=rx
  obtain⟨hy,e'⟩:y.size<=sizeLine/\k=((y.size:Int) !=0):=e
  subst e'
  exact PySem.W.truthy_bytes (by omega) ⟨H,I.tok _,q⟩
 |ref p=>
  cases rx
  have e':(∃xs,SqL X.K H p xs/\k=!xs.isEmpty)\/(∃xs,SqT X.K H p xs/\k=!xs.isEmpty)\/∃kvs,H p=some (.dK kvs)/\k=!kvs.isEmpty:=e
  rcases e' with⟨xs,hx,e'⟩|⟨xs,hx,e'⟩|⟨kvs,hx,e'⟩
  ·subst e'
   obtain⟨its,r,pl,hz⟩:=I.list hx
   have hlen:=r.length
   exact wpAny_truthy_list pl.isList (by simp only[ζv];omega) ⟨H,I.tok _,by rw[zgd r];exact q⟩
  ·subst e'
   obtain⟨its,r,pl,hz⟩:=I.tuple hx
   have hlen:=r.length
   exact truthy_tuple pl (by simp only[ζv];omega) ⟨H,I.tok _,by rw[zgd r];exact q⟩
  ·subst e'
   obtain⟨hz,hS,vs,r,m⟩:kvs.length<=sizeLine/\(p==sysModules)=false/\∃vs,KV kvs vs/\s.heap.DictOf (zaA X.prog X.w) p vs:=I.hok p _ hx
   have hlen:kvs.length=vs.length:=Paired.length r
   exact wpAny_truthy_dict hS m (by omega) ⟨H,I.tok _,by rw[zkc r];exact q⟩
 |_=>exact (show False from e).elim
theorem zdg{x:V}{us:List Value}(r:Vals [x] us):∃u,us=[u]/\RelV x u:=by
 cases r with
 |cons r1 r2=>cases r2;exact⟨_,rfl,r1⟩
theorem zgT{x y:V}{us:List Value}(r:Vals [x,y] us):∃u w',us=[u,w']/\RelV x u/\RelV y w':=by
 cases r with
 |cons r1 r2=>
  cases r2 with
  |cons r3 r4=>cases r4;exact⟨_,_,rfl,r1,r3⟩
theorem zlI(hc:X.calm=true):CallR X (.builtin "max") (λxs H Q=>∃i j,xs=[.int i, .int j]/\Q (.int (if j>i then j else i)) H):=by
 intro pins s σ H xs us Q I r h
 obtain⟨i,j,rfl,q⟩:=h
 obtain⟨u,w',rfl,⟨t,rfl⟩,⟨t',rfl⟩⟩:=zgT r
 refine max_two_ints (I.ok.hd hc) λh' tk k=>⟨_,H,I.kept k,?_,q⟩
 by_cases hj:j>i
 ·rw[if_pos hj,if_pos hj];exact⟨_,rfl⟩
 ·rw[if_neg hj,if_neg hj];exact⟨_,rfl⟩
theorem zgS(hc:X.calm=true):CallR X (.builtin "min") (λxs H Q=>∃i j,xs=[.int i, .int j]/\Q (.int (if j<i then j else i)) H):=by
 intro pins s σ H xs us Q I r h
 obtain⟨i,j,rfl,q⟩:=h
 obtain⟨u,w',rfl,⟨t,rfl⟩,⟨t',rfl⟩⟩:=zgT r
 refine min_two_ints (I.ok.hd hc) λh' tk k=>⟨_,H,I.kept k,?_,q⟩
 by_cases hj:j<i
 ·rw[if_pos hj,if_pos hj];exact⟨_,rfl⟩
 ·rw[if_neg hj,if_neg hj];exact⟨_,rfl⟩
theorem zdz:CallR X (.type "int") (λxs H Q=>(∃i,xs=[.int i]/\Q (.int i) H)\/∃k,xs=[.bl k]/\Q (.int (if k then 1 else 0)) H):=by
 intro pins s σ H xs us Q I r h
 rcases h with⟨i,rfl,q⟩|⟨k,rfl,q⟩
 ·obtain ⟨u,rfl,t,rfl⟩:=zdg r
  exact call_int_int ⟨.int i,H,I,⟨_,rfl⟩,q⟩
 ·obtain ⟨u,rfl,r1⟩:=zdg r
  cases r1
  exact call_int_bool ⟨.int (if k then 1 else 0),H,I.tok _,⟨_,rfl⟩,q⟩
end
structure ObjM(h:Heap)(x dx C:Addr)(mA:Str->Option Value):Prop where
 obj:h.get? x=some (PySem.W.instObj C dx)
 ns:h.Ns1 dx mA
 ne:dx≠x
theorem zlw{h:Heap}{dx:Addr}{mA:Str->Option Value}(n:h.Ns1 dx mA):∃od,h.get? dx=some od/\∀name,PySem.W.lookIn name od=some (mA name):=by
 obtain⟨o,es,ep,ho,hd,hk,_,hm⟩:=n
 refine⟨o,ho,λname=>?_⟩
 have e:=hm name
 unfold nsFind findBy at e
 rw[←Array.find?_toList] at e
 unfold PySem.W.lookIn
 rw[hd]
 dsimp only
 split
 ·rename_i y q
  rw[q] at e
  exact congrArg some e
 ·rename_i q
  rw[q] at e
  have a:es.toList.any (·.refKey)=false:=by
   rw[List.any_eq_false]
   intro y hy
   obtain⟨z,t,hkey⟩:=hk y (Array.mem_toList_iff.mp hy)
   simp[DictEntry.refKey,hkey]
  have a':¬es.toList.any (·.refKey)=true:=by rw[a];exact ξg
  rw[if_neg a']
  exact congrArg some e
theorem ObjM.look{h:Heap}{x dx C:Addr}{mA:Str->Option Value}(I:ObjM h x dx C mA):∃od,PySem.W.InstAt h x (PySem.W.instObj C dx) C (some od)/\∀name,PySem.W.lookIn name od=some (mA name):=
 let⟨od,ho,hl⟩:=zlw I.ns
 ⟨od,⟨I.obj,rfl,rfl,ho⟩,hl⟩
section
variable{prog:Program}{w:World}{A:Around}{E:Value->Shared->Prop}{s:Shared}{K:PySem.W.Frag}{x dx C f:Addr}{mA:Str->Option Value}{name:Str}{v:Value}
end
section
variable{P:Program}{w:World}{H H':Hp}{h h':Heap}{a C dx:Addr}{fs fs':List (Str×V)}
theorem znU(hok:HOk P w H h)(e:H a=some (.ins C dx fs)):∃mA,ObjM h a dx C mA/\(∀f,RelO (fs.lookup f) (mA f))/\PySem.Within mA (fs.map (·.1))/\fs.length<=1000/\H dx=some (.own a):=by
 obtain⟨d,z,ne,ob,mA,n,r,q⟩:=(show ObjOk P w H h a (.ins C dx fs)from hok a _ e)
 exact⟨mA,⟨ob,n,ne⟩,r,q,z,d⟩
end
structure Cls(K:PySem.W.Frag)(C:Addr):Prop where
 pg:PySem.W.plainGet K C Str.empty=true
 hd:PySem.W.hasDictIn K C=true
 po:PySem.W.plainOver K C=true
 sa:PySem.W.findIn K (.ref C) "__setattr__"=some (some (.builtin "object.__setattr__"))
theorem Cls.get{K:PySem.W.Frag}{C:Addr}(c:Cls K C)(f:Str):PySem.W.plainGet K C f=true:=c.pg
structure Con(K:PySem.W.Frag)(C:Addr)(f:Str)(v:V)(u:Value):Prop where
 at_:PySem.W.findIn K (.ref C) f=some (some u)
 rel:RelV v u
 get:PySem.W.specialIn K u "__get__"=some none
 cp:PySem.W.copiedNames.contains f=false
structure Meth(K:PySem.W.Frag)(C:Addr)(m:Str)(f:Addr):Prop where
 at_:PySem.W.findIn K (.ref C) m=some (some (.ref f))
 fn:PySem.W.isFn K (.ref f)=true
 kp:PySem.W.keepIn K (.ref f)=true
section
variable{X:Cx}{pins:List (Addr×Obj)}{σ:St}{H:Hp}{s:Shared}{a C dx:Addr}{fs:List (Str×V)}{f:Str}{v:V}{A:Around}{E:Value->Shared->Prop}
end
section
variable{X:Cx}{o e value:Expr}{f:Str}{pos pos' tpos:Pos}{ta tv:TE}
end
section
variable{X:Cx}{pins:List (Addr×Obj)}{σ:St}{H:Hp}{s:Shared}{A:Around}{E:Value->Shared->Prop}{Q:Value->Shared->Prop}{c:Value}{b:Bool}
inductive TyOf(K:PySem.W.Frag)(H:Hp):V->Value->Prop where
 |non:TyOf K H .non (.type "NoneType")
 |bl (x:Bool):TyOf K H (.bl x) (.type "bool")
 |int (i:Int):TyOf K H (.int i) (.type "int")
 |str (x:Str):TyOf K H (.str x) (.type "str")
 |flt (x:UInt64):TyOf K H (.flt x) (.type "float")
 |lst {a:Addr} {xs:List V} (e:H a=some (.lst xs)):TyOf K H (.ref a) (.type "list")
 |frz {a:Addr} {o:Obj} {xs:List V} (e:H a=some (.frz o (.lst xs))):TyOf K H (.ref a) (.type "list")
 |tup {a:Addr} {xs:List V} (e:H a=some (.tup xs)):TyOf K H (.ref a) (.type "tuple")
 |dK {a:Addr} {kvs:List (Key×V)} (e:H a=some (.dK kvs)):TyOf K H (.ref a) (.type "dict")
 |dT {a:Addr} {kvs:List (List Key×V)} (e:H a=some (.dT kvs)):TyOf K H (.ref a) (.type "dict")
 |ins {a C dx:Addr} {fs:List (Str×V)} (e:H a=some (.ins C dx fs)) (cl:Cls K C) (ha:PySem.W.findIn K (.ref C) "__class__"=some (some (.builtin "object.__class__")))
   (hn:PySem.W.specialIn K (.builtin "object.__class__") "__get__"=some (some (.builtin "getset_descriptor.__get__"))) (htk:PySem.W.takesIn K (.builtin "object.__class__")=some true)
   (hm:PySem.W.mroIn K C (.type "object")=some true):TyOf K H (.ref a) (.ref C)
theorem zlA{x:V}{u t:Value}(I:Inv X pins σ H s)(rx:RelV x u)(ty:TyOf X.K H x t)(e:PySem.W.kitOne X.K t c=some b)(h:∀tk,Q (.bool b) {s with toks:=tk}):
 wpAny (model X.prog X.w) A (call (.builtin "isinstance") [u,c]) Q E s:=by
 cases ty with
 |non=>cases (show u=Value.none from rx);exact PySem.W.kia_one PySem.W.kitx_none I.kIn True.intro e (λz=>nomatch z) h
 |bl y=>cases (show u=Value.bool y from rx);exact PySem.W.kia_one PySem.W.kitx_bool I.kIn True.intro e (λz=>nomatch z) h
 |int i=>obtain ⟨t,q⟩:=(show∃t,u=Value.int i t from rx);cases q;exact PySem.W.kia_one PySem.W.kitx_int I.kIn True.intro e (λz=>nomatch z) h
 |str y=>obtain ⟨t,q⟩:=(show∃t,u=Value.str y t from rx);cases q;exact PySem.W.kia_one PySem.W.kitx_str I.kIn True.intro e (λz=>nomatch z) h
 |flt y=>obtain ⟨t,q⟩:=(show∃t,u=Value.float y t from rx);cases q;exact PySem.W.kia_one PySem.W.kitx_float I.kIn True.intro e (λz=>nomatch z) h
 | @lst a xs ea=>
   cases(show u=Value.ref a from rx)
   obtain⟨_,_,n,_,h1⟩:=(show ObjOk X.prog X.w H s.heap a (.lst xs)from I.hok a _ ea)
   exact PySem.W.kia_one PySem.W.kitx_list I.kIn ⟨_,h1,rfl⟩ e (λz=>nomatch z) h
 | @frz a ob xs ea=>
   cases(show u=Value.ref a from rx)
   obtain⟨_,_,_,n,_,h1⟩:=(show ObjOk X.prog X.w H s.heap a (.frz ob (.lst xs))from I.hok a _ ea)
   exact PySem.W.kia_one PySem.W.kitx_list I.kIn ⟨_,h1,rfl⟩ e (λz=>nomatch z) h
 | @tup a xs ea=>
   cases(show u=Value.ref a from rx)
   obtain⟨_,_,_,p,_⟩:=(show ObjOk X.prog X.w H s.heap a (.tup xs)from I.hok a _ ea)
   obtain⟨o,h1,h2,_⟩:=p
   exact PySem.W.kia_one PySem.W.kitx_tuple I.kIn ⟨o,h1,h2⟩ e (λz=>nomatch z) h
 | @dK a kvs ea=>
   cases(show u=Value.ref a from rx)
   obtain⟨_,_,vs,_,p⟩:=(show ObjOk X.prog X.w H s.heap a (.dK kvs)from I.hok a _ ea)
   obtain⟨o,es,ep,h1,h2,_⟩:=p
   exact PySem.W.kia_one PySem.W.kitx_dict I.kIn ⟨o,h1,h2.1⟩ e (λz=>nomatch z) h
 | @dT a kvs ea=>
   cases(show u=Value.ref a from rx)
   obtain⟨_,_,xs,_,o,es,ep,h1,h2,_⟩:=(show ObjOk X.prog X.w H s.heap a (.dT kvs)from I.hok a _ ea)
   exact PySem.W.kia_one PySem.W.kitx_dict I.kIn ⟨o,h1,h2.1⟩ e (λz=>nomatch z) h
 | @ins a C dx fs ea cl ha hn htk hm=>
   cases(show u=Value.ref a from rx)
   obtain⟨mA,O,_⟩:=znU I.hok ea
   obtain⟨od,J,_⟩:=O.look
   exact PySem.W.kia_one (PySem.W.kitx_own (cl.get _) cl.hd ha hn htk hm) I.kIn J e (λz=>nomatch z) h
end
structure Room(k:Nat)(A:Around):Prop where
 hd:A.handled=none
 dp:A.depth+3*k+5<recursionLimit
 un:A.units+16*k+200<cLine
 gd:A.guards=some []
theorem Room.mono{j k:Nat}{A:Around}(r:Room k A)(h:j<=k):Room j A:=⟨r.hd,by have:=r.dp;omega,by have:=r.un;omega,r.gd⟩
theorem Room.deeper{k:Nat}{A:Around}(r:Room (k+1) A)(env:Env):Room k (A.deeper env):=
 ⟨r.hd,by have:=r.dp;show A.depth+1+3*k+5<_;omega,by have:=r.un;show A.units+3+16*k+200<_;omega,r.gd⟩
theorem Room.depth{k:Nat}{A:Around}(r:Room k A):A.depth<recursionLimit:=by have:=r.dp;omega
theorem Room.units{k:Nat}{A:Around}(r:Room k A):A.units+64<cLine:=by have:=r.un;omega
theorem Room.units0{k:Nat}{A:Around}(r:Room k A):A.units<cLine:=by have:=r.un;omega
noncomputable def zmw:TA:=λ_ H Q=>Q [] H
noncomputable def zfA(ta:TE)(tr:TA):TA:=λσ H Q=>ta σ H λx H1=>tr σ H1 λxs H2=>Q (x::xs) H2
section
variable{X:Cx}{e:Expr}{es:List Expr}{te:TE}{t:TA}{pos:Pos}
theorem znM:PA X [] zmw:=λ_ _ _ _ H Q I h=>Calls.spliced_nil ⟨[],H,I, .nil,h⟩
theorem zkk(ha:PE X e te)(hr:PA X es t)(hs:starEach (e::es) X.env=(false,eval e X.env)::starEach es X.env:=by rfl):PA X (e::es) (zfA te t):=by
 intro pos pins s σ H Q I h
 rw[hs]
 show wpAny _ _ (spliced ((false,eval e X.env)::backTo pos (starEach es X.env))) _ _ s
 refine Calls.spliced_cons (thn (ha pins s σ H _ I h) λu s1 ⟨x,H1,I1,r1,q1⟩=>?_)
 exact thn (hr pos pins s1 σ H1 _ I1 q1) λus s2 ⟨xs,H2,I2,r2,q2⟩=>⟨x::xs,H2,I2, .cons r1 r2,q2⟩
noncomputable def zpN(t:TA):TE:=λσ H Q=>t σ H λxs H1=>xs.length<=sizeLine/\∀p,H1 p=none->Q (.ref p) (upd H1 p (.tup xs))
noncomputable def zol(t:TA):TE:=λσ H Q=>t σ H λxs H1=>xs.length<=sizeLine/\∀p,H1 p=none->Q (.ref p) (upd H1 p (.lst xs))
theorem zp1{x1}(h:PA X es t):PE X (.Tuple es x1 pos) (zpN t):=by
 intro pins s σ H Q I hq
 refine wpAny_Tuple_spliced (thn (h pos pins s σ H _ I hq) λus s1 ⟨xs,H1,I1,r,z,q⟩=>⟨by rw[←r.length];exact z,?_⟩)
 have hf:H1 s1.heap.objs.size=none:=I1.hok.fresh (ζu _)
 refine⟨.ref s1.heap.objs.size,upd H1 s1.heap.objs.size (.tup xs),I1.laid (t':=s1.toks) (λb u e=>ζc _ e) (ζu _) ?_,rfl,q _ hf⟩
 exact⟨z,us,r,⟨_,ζj _ rfl,rfl,_,rfl⟩,NoDict.new rfl (ζj _ rfl)⟩
theorem zm5(h:PA X es t):PE X (.List es pos) (zol t):=by
 intro pins s σ H Q I hq
 refine wpAny_List_spliced (thn (h pos pins s σ H _ I hq) λus s1 ⟨xs,H1,I1,r,z,q⟩=>⟨by rw[←r.length];exact z,?_⟩)
 have hf:H1 s1.heap.objs.size=none:=I1.hok.fresh (ζu _)
 refine⟨.ref s1.heap.objs.size,upd H1 s1.heap.objs.size (.lst xs),I1.laid (t':=s1.toks) (λb u e=>ζc _ e) (ζu _) ?_,rfl,q _ hf⟩
 exact⟨z,us,0,r,ζj _ rfl⟩
end
noncomputable abbrev Sp:=List V->Hp->VK->XK->Prop
noncomputable abbrev CXT:=List Env->Hp->Shared->XK->Value->Shared->Prop
structure Env0(P:Program)(w:World)(K:PySem.W.Frag)(mg:Str->Option Value)(base:Heap)(A:Around)(outer:List Env)(s:Shared)(H:Hp):Prop where
 frames:A.frames=some outer
 mod:Mod K mg base
 bs:∀b o,base.get? b=some o->s.heap.get? b=some o/\H b=none
 bsz:base.objs.size<=s.heap.objs.size
 funs:s.heap.FunFrames base outer
 frf:∀b∈frs outer,H b=none
 hok:HOk P w H s.heap
 bare:AllBare s.gens
def CE(outer:List Env)(P:Program)(w:World)(H:Hp)(s:Shared)(Q:VK)(u:Value)(s':Shared):Prop:=
 ∃v H',s'.os=s.os/\AllBare s'.gens/\Un (frs outer) [] H H' s.heap s'.heap/\HOk P w H' s'.heap/\RelV v u/\Q v H'
def CR(CX:CXT)(outer:List Env)(P:Program)(w:World)(H:Hp)(s:Shared)(Q:VK)(E:XK)(r:Result)(s':Shared):Prop:=
 match r with
 | .ok (.ret u)=>CE outer P w H s Q u s'
 | .ok _=>False
 | .error e=>CX outer H s E e s'
structure FnOk(P:Program)(w:World)(K:PySem.W.Frag)(mg:Str->Option Value)(base:Heap)(CX:CXT)(k:Nat)(f:Addr)(fd:FuncData)(ps:List Str)(sp:Sp):Prop where
 len:∀vs H Q E,sp vs H Q E->vs.length=ps.length
 run:∀(A:Around) (outer:List Env) (s:Shared) (H:Hp) (args:Args) (us:List Value) (vs:List V) (Q:VK) (E:XK),Room k A->Env0 P w K mg base A outer s H->BindsTo s fd args (ps.zip us)->Vals vs us->sp vs H Q E->
  codeAny (model P w) A (.call (.ref f) args) (CR CX outer P w H s Q E) s
theorem FnOk.imp{P:Program}{w:World}{K:PySem.W.Frag}{mg:Str->Option Value}{base:Heap}{CX:CXT}{k:Nat}{f:Addr}{fd:FuncData}{ps:List Str}{sp sp':Sp}(F:FnOk P w K mg base CX k f fd ps sp)
 (h:∀vs H Q E,sp' vs H Q E->sp vs H Q E):FnOk P w K mg base CX k f fd ps sp':=
 ⟨λvs H Q E q=>F.len vs H Q E (h _ _ _ _ q),λA outer s H args us vs Q E hr he hb hv hs=>F.run A outer s H args us vs Q E hr he hb hv (h _ _ _ _ hs)⟩
section
variable{X:Cx}{pins:List (Addr×Obj)}{σ:St}{H:Hp}{s s':Shared}
theorem Inv.env0(I:Inv X pins σ H s):Env0 X.prog X.w X.K X.mg X.base X.A X.stack s H:=
 ⟨I.ok.frames,I.ok.mod,I.bs,ξb I.ok.bsz I.sz,I.stack,I.stkFree,I.hok,I.bare⟩
theorem Inv.after{Q:VK}{u:Value}(I:Inv X pins σ H s)(h:CE X.stack X.prog X.w H s Q u s'):EP X pins σ Q u s':=by
 obtain⟨v,H',os,bare,un,hok,r,q⟩:=h
 obtain⟨hh,g,d,t,os'⟩:=s'
 obtain rfl:os'=s.os:=os
 exact⟨v,H',I.call (h':=hh) (g':=g) (d':=d) (t':=t) (ch:=[]) un hok bare (λb z=>absurd z (by simp)),r,q⟩
end
noncomputable def zmD(sp:Sp)(dvs:List V)(E:XK)(t:TA):TE:=λσ H Q=>t σ H λvs H1=>sp (vs ++dvs) H1 Q E
def Binds(K:PySem.W.Frag)(fd:FuncData)(ps:List Str)(ds:List Value):Prop:=
 ∀(s:Shared) (us:List Value),K.In s.heap->(us ++ds).length=ps.length->BindsTo s fd ⟨us,[]⟩ (ps.zip (us ++ds))
theorem Binds.all{K:PySem.W.Frag}{fd:FuncData}{ps:List Str}(h:∀us:List Value,us.length=ps.length->bindArgs fd ⟨us,[]⟩=pure (ps.zip us)):Binds K fd ps []:=λs us _ hl=>by
 rw[List.append_nil] at hl⊢
 exact .of_eq (h us hl)
def zh0(CX:CXT)(X:Cx)(E:XK):Prop:=∀(pins:List (Addr×Obj)) (σ:St) (H:Hp) (s:Shared) (e:Value) (s':Shared),Inv X pins σ H s->CX X.stack H s E e s'->X.xe e s'
section
variable{X:Cx}{CX:CXT}{k:Nat}{f C:Addr}{fd:FuncData}{ps:List Str}{sp:Sp}{dvs:List V}{ds:List Value}{E:XK}{x m:Str}{p pos apos:Pos}{e o:Expr}{es:List Expr}{ta:TE}{t:TA}
theorem zpz{pins:List (Addr×Obj)}{σ:St}{H:Hp}{s:Shared}{Q:VK}{us:List Value}{vs:List V}(F:FnOk X.prog X.w X.K X.mg X.base CX k f fd ps sp)(hr:Room k X.A)(hb:Binds X.K fd ps ds)(hd:Vals dvs ds)(hx:zh0 CX X E)
 (I:Inv X pins σ H s) (r:Vals vs us) (h:sp (vs ++dvs) H Q E):wpAny (model X.prog X.w) X.A (call (.ref f) us) (EP X pins σ Q) X.xe s:=by
 have r2:Vals (vs ++dvs) (us ++ds):=r.append hd
 have hl:(us ++ds).length=ps.length:=by rw[←r2.length];exact F.len _ _ _ _ h
 refine wpAny_call (codeAny_mono (F.run X.A X.stack s H ⟨us,[]⟩ (us ++ds) (vs ++dvs) Q E hr I.env0 (hb s us I.kIn hl) r2 h) λr s' hq=>?_)
 cases r with
 |error e=>exact hx pins σ H s e s' I hq
 |ok fl=>
  cases fl with
  |ret u=>exact I.after hq
  |next=>exact False.elim hq
  |brk=>exact False.elim hq
  |cont=>exact False.elim hq
theorem zom(F:FnOk X.prog X.w X.K X.mg X.base CX k f fd ps sp)(hr:Room k X.A)(hg:Gl X x)(hm:X.mg x=some (.ref f))(hk:PySem.W.keepIn X.K (.ref f)=true)(hb:Binds X.K fd ps ds)(hd:Vals dvs ds)(hx:zh0 CX X E)
 (ha:PA X (e::es) t) (hdb:(x==("__debug__":Str))=false:=by decide) (he:starEach (e::es) X.env=(false,eval e X.env)::starEach es X.env:=by rfl) (hpl:(backTo pos (starEach es X.env)).any (·.1)=false:=by rfl):
 PE X (.Call (.Name x p) (e::es) [] pos) (zmD sp dvs E t):=by
 intro pins s σ H Q I h
 refine wpAny_Call_Name_kw (zkx I hg hm ?_ hdb)
 refine PySem.W.callWith_K (h₀:=X.base) I.ok.mod.kin hk (thn (ha pos pins s σ H _ I h) λus s1 ⟨vs,H1,I1,r,q⟩=>⟨I1.kIn,?_⟩) he hpl
 exact zpz F hr hb hd hx I1 r q
structure Mk(K:PySem.W.Frag)(C f:Addr):Prop where
 makes:PySem.W.makesIn K C=true
 init:PySem.W.findIn K (.ref C) "__init__"=some (some (.ref f))
 fn:PySem.W.isFn K (.ref f)=true
 kp:PySem.W.keepIn K (.ref C)=true
end
section
variable{X:Cx}{CX:CXT}{k:Nat}{f C:Addr}{fd:FuncData}{ps ks:List Str}{sp:Sp}{E:XK}{x m:Str}{p pos apos kpos:Pos}{e o:Expr}{es:List Expr}{kws:List Keyword}{te ta:TE}{t tk:TA}{nm:Option Str}
structure KBinds(K:PySem.W.Frag)(fd:FuncData)(ps ks:List Str)(g:List Value->List Value->List Value)(gV:List V->List V->List V):Prop where
 to:∀(s:Shared) (us ws:List Value),K.In s.heap->(g us ws).length=ps.length->BindsTo s fd ⟨us,ks.zip ws⟩ (ps.zip (g us ws))
 rel:∀{vs:List V} {us:List Value} {zs:List V} {ws:List Value},Vals vs us->Vals zs ws->Vals (gV vs zs) (g us ws)
variable{g:List Value->List Value->List Value}{gV:List V->List V->List V}
end
structure FnScope(N P:List Str)(sc:Scope):Prop where
 kind:sc.kind= .function
 co:sc.isCoroutine=false
 gen:sc.isGenerator=false
 nd:N.Nodup
 pre:N.take P.length=P
 par:∀x∈P,sc.names.lookup x=some .local\/sc.names.lookup x=some .cell
 nofree:∀y∈sc.names,y.2≠ .free
theorem zhj{kindOf:Str->Option NameKind}{x:Str}:∀{binds:List (Str×Value)} {m:Str->Option Value},(∀v,(x,v)∉binds)->bindL kindOf binds m x=m x
 |[],_,_=>rfl
 |(n,v)::r,m,h=>by
  unfold bindL
  rw[zhj λw hw=>h w (ξe _ hw)]
  split
  ·have:x≠n:=by rintro rfl;exact h v ζp
   simp[this]
  ·rfl
theorem zhh{kindOf:Str->Option NameKind}{x:Str}:∀{binds:List (Str×Value)} {m:Str->Option Value},(∀v,(x,v)∉binds)->bindC kindOf binds m x=m x
 |[],_,_=>rfl
 |(n,v)::r,m,h=>by
  unfold bindC
  rw[zhh λw hw=>h w (ξe _ hw)]
  split
  ·rfl
  ·have:x≠n:=by rintro rfl;exact h v ζp
   simp[this]
theorem zhb{kindOf:Str->Option NameKind}{x:Str}{v:Value}:∀{P:List Str} {vs:List Value} {i:Nat} {m:Str->Option Value},P.Nodup->P[i]?=some x->vs[i]?=some v->kindOf x=some .local->
 bindL kindOf (P.zip vs) m x=some v
 |[],_,_,_,_,h,_,_=>by simp at h
 |_::_,[],_,_,_,_,h,_=>by simp at h
 |p::P,w::vs,0,m,nd,h1,h2,hk=>by
  simp at h1 h2;subst h1;subst h2
  show bindL kindOf ((p,w)::P.zip vs) m p=_
  unfold bindL
  rw[zhj λv hv=>(List.nodup_cons.mp nd).1 (List.of_mem_zip hv).1,if_pos hk]
  simp
 |p::P,w::vs,i+1,m,nd,h1,h2,hk=>by
  show bindL kindOf ((p,w)::P.zip vs) m x=_
  unfold bindL
  exact zhb (i:=i) (List.nodup_cons.mp nd).2 (by simpa using h1) (by simpa using h2) hk
theorem zgY{kindOf:Str->Option NameKind}{x:Str}{v:Value}:∀{P:List Str} {vs:List Value} {i:Nat} {m:Str->Option Value},P.Nodup->P[i]?=some x->vs[i]?=some v->kindOf x≠some .local->
 bindC kindOf (P.zip vs) m x=some v
 |[],_,_,_,_,h,_,_=>by simp at h
 |_::_,[],_,_,_,_,h,_=>by simp at h
 |p::P,w::vs,0,m,nd,h1,h2,hk=>by
  simp at h1 h2;subst h1;subst h2
  show bindC kindOf ((p,w)::P.zip vs) m p=_
  unfold bindC
  rw[zhh λv hv=>(List.nodup_cons.mp nd).1 (List.of_mem_zip hv).1,if_neg hk]
  simp
 |p::P,w::vs,i+1,m,nd,h1,h2,hk=>by
  show bindC kindOf ((p,w)::P.zip vs) m x=_
  unfold bindC
  exact zgY (i:=i) (List.nodup_cons.mp nd).2 (by simpa using h1) (by simpa using h2) hk
noncomputable def zet(N:List Str)(vs:List V):St:=vs.map some ++List.replicate (N.length -vs.length) none
noncomputable def zi4(CX:CXT)(P:Program)(w:World)(K:PySem.W.Frag)(mg:Str->Option Value)(base:Heap)(N:List Str)(qual:Str)(scope:Scope)(f:Addr)(cd:Value)(A:Around)(outer:List Env)(s:Shared)(H:Hp)(E:XK):Cx where
 prog:=P
 w:=w
 K:=K
 mg:=mg
 base:=base
 A:=A.deeper (envOfC qual scope s.heap.objs.size f cd)
 N:=N
 s₀:=s
 H₀:=H
 env:=envOfC qual scope s.heap.objs.size f cd
 outer:=outer
 stack:=envOfC qual scope s.heap.objs.size f cd::outer
 ex:=[]
 calm:=true
 fn:=λ_=>true
 pn:=[]
 xe:=λe s'=>wpAny (model P w) (A.deeper (envOfC qual scope s.heap.objs.size f cd)) (leaving (envOfC qual scope s.heap.objs.size f cd) e) (λ_ s''=>CX outer H s E e s'') (λe' s''=>CX outer H s E e' s'') s'
theorem zi2{sc:Scope}{n:Nat}{x:Str}(h:sc.names.lookup x=some .cell):∃c,(cellsFrom n sc.names []).lookup x=some c:=by
 have q:=PySem.W.cellsFrom_some sc.names n [] (.inl h)
 exact Option.isSome_iff_exists.mp q
theorem zlr{CX:CXT}{P:Program}{w:World}{K:PySem.W.Frag}{mg:Str->Option Value}{base:Heap}{N ps:List Str}{qual:Str}{scope:Scope}{f:Addr}{cd:Value}{A:Around}{outer:List Env}{s s1:Shared}{H:Hp}{E:XK}{us:List Value}{vs:List V}
 (S:FnScope N ps scope) (hd:A.handled=none) (e0:Env0 P w K mg base A outer s H) (hl:vs.length=ps.length) (r:Vals vs us)
 (x:InCallC s s.heap.objs.size (bindL (envOfC qual scope s.heap.objs.size f cd).kindOf (ps.zip us) λ_=>none) (cellsFrom (s.heap.objs.size+1) scope.names []) (bindC (envOfC qual scope s.heap.objs.size f cd).kindOf (ps.zip us) λ_=>none) s1):
 Inv (zi4 CX P w K mg base N qual scope f cd A outer s H E) [] (zet N vs) H s1:=by
 have hpl:ps.length<=N.length:=by have:=congrArg List.length S.pre;rw[ζm] at this;omega
 obtain⟨h1,tk,rfl,hk⟩:=x.done
 have noA:∀b:Addr,b∉(zi4 CX P w K mg base N qual scope f cd A outer s H E).ex:=λb z=>absurd (show b∈([]:List Addr)from z) (by simp)
 refine⟨⟨e0.mod,S.kind,rfl,rfl,ζu _,λy z c h1 h2=>?_,λy hy=>?_,λy c _ h=>?_,λ_=>hd,Around.frames_deeper e0.frames, .inr ⟨rfl,rfl⟩,λb z=>absurd z (noA b),e0.bs,e0.bsz,λb _ _=>noA b,λb z=>absurd z (noA b),e0.funs,e0.frf⟩,
  rfl,e0.bare,Un.kept hk,⟨_,x.toInCall.ns,λi y v h1 h2 h3=>?_⟩,λy c h=>⟨_,x.cell y c h⟩,e0.hok.fresh (ζu _),λy c h=>?_,λp hp=>absurd (show p∈([]:List (Addr×Obj))from hp) (by simp),e0.hok.kept hk,?_⟩
 ·exact name_of_addr x.apart (PySem.mem_of_lookup h1) (PySem.mem_of_lookup h2)
 ·have hy:scope.names.lookup y=some .cell\/scope.names.lookup y=some .free:=hy
  rcases hy with hy|hy
  ·exact zi2 hy
  ·exact absurd rfl (S.nofree _ (PySem.mem_of_lookup hy))
 ·exact ξi (x.above y c (PySem.mem_of_lookup h))
 ·have hi:i<vs.length:=by
   unfold zet at h2
   by_cases hi:i<vs.length
   ·exact hi
   ·rw[List.getElem?_append_right (by simpa using hi)] at h2
    rw[List.getElem?_replicate] at h2
    split at h2<;>cases h2
  have ha:vs[i]?=some v:=by
   unfold zet at h2
   rw[List.getElem?_append_left (by simpa using hi),ζq] at h2
   cases e:vs[i]? with
   |none=>rw[e] at h2;cases h2
   |some a=>rw[e] at h2;cases h2;rfl
  obtain⟨u,hu,rv⟩:=r.get ha
  have hp:ps[i]?=some y:=by
   rw[←S.pre,List.getElem?_take_of_lt (by omega)];exact h1
  have ndP:ps.Nodup:=by rw[←S.pre];exact S.nd.sublist (List.take_sublist _ _)
  refine⟨u,rv,?_⟩
  rcases S.par y (ζl hp)with k|k
  ·exact .inl ⟨k,zhb ndP hp hu k⟩
  ·obtain ⟨c,e⟩:=zi2 (n:=s.heap.objs.size+1) k
   refine .inr ⟨.inl k,c,e,?_⟩
   have q:=x.cell y c e
   rw[zgY ndP hp hu (by show scope.names.lookup y≠_;rw[k];decide)] at q
   exact q
 ·exact e0.hok.fresh (ξi (x.above y c (PySem.mem_of_lookup h)))
 ·unfold zet
  show _=N.length
  rw[ζe,ζa,List.length_replicate]
  omega
theorem zpm{CX:CXT}{P:Program}{w:World}{K:PySem.W.Frag}{mg:Str->Option Value}{base:Heap}{k:Nat}{f:Addr}{name qual:Str}{params:Arguments}{body:List Stmt}{scope:Scope}{dV kV doc pm cdv ct oc:Value}{an od:Option Addr}
 {osl:Array (Option Value)} {N ps:List Str} {sp:Sp} (lk:K.lookup f=some ⟨oc,od, .func (PySem.W.fnOf name qual params body scope dV kV doc pm an cdv ct),osl⟩) (hcd:PySem.W.codeIn K cdv qual=true) (S:FnScope N ps scope)
 (len:∀vs H Q E,sp vs H Q E->vs.length=ps.length)
 (hbody:∀(A:Around) (outer:List Env) (s:Shared) (H:Hp) (vs:List V) (Q:VK) (E:XK),Room k (A.deeper (envOfC qual scope s.heap.objs.size f cdv))->sp vs H Q E->
   ∃t,PSs (zi4 CX P w K mg base N qual scope f cdv A outer s H E) body t/\t {nx:=λ_ H'=>Q .non H',rt:=Q} (zet N vs) H):
 FnOk P w K mg base CX (k+1) f (PySem.W.fnOf name qual params body scope dV kV doc pm an cdv ct) ps sp:=by
 refine⟨len,λA outer s H args us vs Q E hr e0 hb r hsp=>?_⟩
 have hl:=len _ _ _ _ hsp
 have KX:K.In s.heap:=e0.mod.kin.keeps λb o e=>(e0.bs b o e).1
 have lim:s.heap.NoLimit:=e0.mod.nolimit.keeps λb o e=>(e0.bs b o e).1
 have hkind:∀y∈ps.zip us,scope.names.lookup y.1=some .local\/(scope.names.lookup y.1=some .cell/\((cellsFrom (s.heap.objs.size+1) scope.names []).lookup y.1).isSome=true):=λ⟨n,v⟩ hy=>by
  rcases S.par n (List.of_mem_zip hy).1 with q|q
  ·exact .inl q
  ·exact .inr ⟨q,PySem.W.cellsFrom_some _ _ _ (.inl q)⟩
 refine codeAny_call_function hr.depth (KX _ _ lk) rfl S.co S.gen rfl (PySem.W.codeRec_of KX hcd) (hb _ _ _ _ ?_)
 refine wpAny_newFunctionEnv_cells S.kind hkind λenv he s1 x=>?_
 subst he
 refine⟨lim.keeps x.toInCall.keep,codeAny_func ?_⟩
 obtain⟨t,ht,hq⟩:=hbody A outer s H vs Q E (hr.deeper _) hsp
 have I:Inv (zi4 CX P w K mg base N qual scope f cdv A outer s H E) [] (zet N vs) H s1:=zlr S hr.hd e0 hl r x
 refine wpAny_mono (ht [] s1 (zet N vs) H _ I hq) (λfl s' hs=>?_) λe s' hs=>hs
 have fin:∀{σ':St} {H':Hp} {v:V} {u:Value},Inv (zi4 CX P w K mg base N qual scope f cdv A outer s H E) [] σ' H' s'->RelV v u->Q v H'->CE outer P w H s Q u s':=
  λ{σ' H' v u} J rv q=>⟨v,H',J.os,J.bare,J.base,J.hok,rv,q⟩
 cases fl with
 |ret u=>
  obtain⟨v,σ',H',J,rv,q⟩:=hs
  exact fin J rv q
 |next=>
  obtain⟨σ',H',J,q⟩:=hs
  exact fin (v:=V.non) (u:=Value.none) J rfl q
 |brk=>
  obtain⟨_,_,_,q⟩:=hs
  exact False.elim q
 |cont=>
  obtain⟨_,_,_,q⟩:=hs
  exact False.elim q
section
variable{X:Cx}{x:Str}{p pos:Pos}{e:Expr}{es:List Expr}{t:TA}{id T:String}{r:List V->Hp->VK->Prop}
def tCB(r:List V->Hp->VK->Prop)(t:TA):TE:=λσ H Q=>t σ H λvs H1=>r vs H1 Q
theorem znI(hc:CallR X (.builtin id) r)(hg:Gl X x)(hm:X.mg x=none)(hv:bootBuiltins x=some (.builtin id))(ha:PA X (e::es) t)(hn:x≠"__name__":=by decide)(hdb:(x==("__debug__":Str))=false:=by decide)
 (he:starEach (e::es) X.env=(false,eval e X.env)::starEach es X.env:=by rfl) (hpl:(backTo pos (starEach es X.env)).any (·.1)=false:=by rfl):PE X (.Call (.Name x p) (e::es) [] pos) (tCB r t):=by
 intro pins s σ H Q I h
 refine wpAny_Call_Name_kw (zdY I hg hm hv ?_ hn hdb)
 exact PyProof.Rows.callWith_builtin1 (thn (ha pos pins s σ H _ I h) λus s1 ⟨vs,H1,I1,r1,q1⟩=>hc pins s1 σ H1 vs us Q I1 r1 q1) he hpl
theorem zlC(hc:CallR X (.type T) r)(hg:Gl X x)(hm:X.mg x=none)(hv:bootBuiltins x=some (.type T))(ha:PA X (e::es) t)(hn:x≠"__name__":=by decide)(hdb:(x==("__debug__":Str))=false:=by decide)
 (he:starEach (e::es) X.env=(false,eval e X.env)::starEach es X.env:=by rfl) (hpl:(backTo pos (starEach es X.env)).any (·.1)=false:=by rfl):PE X (.Call (.Name x p) (e::es) [] pos) (tCB r t):=by
 intro pins s σ H Q I h
 refine wpAny_Call_Name_kw (zdY I hg hm hv ?_ hn hdb)
 exact PyProof.Rows.callWith_type1 (thn (ha pos pins s σ H _ I h) λus s1 ⟨vs,H1,I1,r1,q1⟩=>hc pins s1 σ H1 vs us Q I1 r1 q1) he hpl
end
end L2
namespace HT
open PySem PyProof.Rows
section
open PySem.SeqAt
open PySem.AutoSeq1 (wpAny_loadPart')
open PySem.MeetsSeq PySem.MeetsSeq2 PySem.MeetsSeq3
end
section
variable{prog:Program}{w:World}{A:Around}{E:Value->Shared->Prop}{s:Shared}
theorem cat_tup{t b:Addr}{vs ws:List Value}{Q:Value->Shared->Prop}(ht:IsTup s.heap t vs.toArray)(hb:IsTup s.heap b ws.toArray)(hv:vs≠ [])
 (h1:ws=[]->Q (.ref t) s) (h2:ws≠ []->Q (.ref s.heap.objs.size) {s with heap:=s.heap.push {cls:= .type "tuple",data:= .seq (vs ++ws).toArray}})
 (hsz:vs.length+ws.length<=sizeLine):wpAny (model prog w) A (binaryOp .Add (.ref t) (.ref b)) Q E s:=by
 obtain⟨⟨cls,dd,data,sl⟩,ho,hc,n,hd⟩:=id ht
 obtain⟨⟨cls2,dd2,data2,sl2⟩,ho2,hc2,n2,hd2⟩:=id hb
 simp only at hc hd hc2 hd2
 subst hc hd hc2 hd2
 have e:vs.toArray ++ws.toArray=(vs ++ws).toArray:=by simp
 by_cases hw:ws=[]
 ·exact concat_meets ⟨_,ho,rfl⟩ ⟨_,ho2,rfl⟩ noFill_tuple_add seq_tuple_add PySem.F.slot_tuple_add PySem.F.entry_tuple_add (PySem.F.args_tuple_add_2 _ _)
   (tuple_addW1 t b vs.toArray ws.toArray n n2 dd dd2 sl sl2 (by simpa using hv) (by simp[hw])) ⟨ho,ho2,h1 hw⟩
 ·refine concat_meets ⟨_,ho,rfl⟩ ⟨_,ho2,rfl⟩ noFill_tuple_add seq_tuple_add PySem.F.slot_tuple_add PySem.F.entry_tuple_add (PySem.F.args_tuple_add_2 _ _)
   (tuple_addW2 t b vs.toArray ws.toArray n n2 dd dd2 sl sl2 (by simpa using hv) (by simpa using hw) (by rw[ζv,ζv];exact hsz)) ⟨ho,ho2,?_⟩
  rw[e]
  exact h2 hw
noncomputable def sIx(n d:Nat):Option Int->Nat
 |none=>d
 |some v=>if v<0 then(v+(n:Int)).toNat else min v.toNat n
theorem zp9(n d:Nat)(hd:d<=n)(o:Option Int):sIx n d o<=n:=by
 cases o with
 |none=>exact hd
 |some v=>
  show(if v<0 then(v+(n:Int)).toNat else min v.toNat n)<=n
  by_cases hv:v<0
  ·rw[if_pos hv];omega
  ·rw[if_neg hv];exact Nat.min_le_right _ _
theorem zkC(v:Int)(n d:Nat):(if v<0 then max (v+(n:Int)) 0 else min v (n:Int))=((sIx n d (some v):Nat):Int):=by
 show(if v<0 then max (v+(n:Int)) 0 else min v (n:Int))=(((if v<0 then(v+(n:Int)).toNat else min v.toNat n):Nat):Int)
 by_cases hv:v<0
 ·simp only[if_pos hv];omega
 ·simp only[if_neg hv];omega
theorem zj5(lo hi:Option Int)(n:Nat):Builtin.Slice.sliceAdjust lo hi 1 (n:Int)=(((sIx n 0 lo:Nat):Int),((sIx n n hi:Nat):Int)):=by
 have h1:¬((1:Int)<0):=by omega
 unfold Builtin.Slice.sliceAdjust
 simp only[h1,if_false]
 refine Prod.ext ?_ ?_
 ·cases lo with
  |none=>rfl
  |some v=>exact zkC v n 0
 ·cases hi with
  |none=>rfl
  |some v=>exact zkC v n n
theorem zjO(i j:Nat):Builtin.Slice.slicePlaces (i:Int) (j:Int) 1=j -i:=by
 unfold Builtin.Slice.slicePlaces
 have h1:(1:Int)>0:=by omega
 simp only[h1,if_true,Int.ediv_one]
 split<;>omega
theorem zda{v:Value}{o:Option Int}{Q:Option Int->Shared->Prop}(p:IsPart v o)(h:Q o s):wpAny (model prog w) A (Builtin.Slice.slicePartIndex v) Q E s:=by
 cases p with
 |none=>exact slicePart_none h
 |int i t=>exact slicePart_int h
theorem zdv{sl:Addr}{vl vu:Value}{lo hi:Option Int}{n:Nat}{Q:Int×Int×Nat->Shared->Prop}(hs:s.heap.IsSliceOf sl vl vu .none)(pl:IsPart vl lo)(pu:IsPart vu hi)
 (h:Q (((sIx n 0 lo:Nat):Int),1,sIx n n hi -sIx n 0 lo) s):wpAny (model prog w) A (Builtin.Slice.sliceApplied (.ref sl) (pure (n:Int))) Q E s:=by
 obtain⟨os,hos,hcs,hds⟩:=id hs
 unfold Builtin.Slice.sliceApplied Builtin.Slice.sliceFields
 refine ζb (ζb (wpAny_field hos hds (x:=vl) rfl (ζb (wpAny_field hos hds (x:=vu) rfl (ζb (wpAny_field hos hds (x:= .none) rfl (ζs ?_)))))))
 refine ζb (slicePart_none ?_)
 show wpAny _ _ (if((1:Int)==0)=true then _ else _) _ _ s
 rw[if_neg (by decide)]
 refine ζb (zda pl (ζb (zda pu (ζb (ζs ?_)))))
 show wpAny _ _ (match Builtin.Slice.sliceAdjust lo hi 1 (n:Int)with|(lo,hi)=>pure (lo,(1:Int),Builtin.Slice.slicePlaces lo hi 1)) _ _ s
 rw[zj5 lo hi n]
 show wpAny _ _ (pure (((sIx n 0 lo:Nat):Int),(1:Int),Builtin.Slice.slicePlaces ((sIx n 0 lo:Nat):Int) ((sIx n n hi:Nat):Int) 1)) _ _ s
 rw[zjO]
 exact ζs h
theorem zmk(xs:Array Value)(i k:Nat):((List.range k).filterMap λ(m:Nat)=>xs[((i:Int)+(m:Int)*1).toNat]?).toArray=((xs.toList.drop i).take k).toArray:=by
 have e:(λ(m:Nat)=>xs[((i:Int)+(m:Int)*1).toNat]?)=λm=>xs[i+m]?:=by
  funext m
  have:((i:Int)+(m:Int)*1).toNat=i+m:=by omega
  rw[this]
 rw[e]
 have:=pick_run xs i k
 rw[List.filterMap_map] at this
 have e2:((λx=>xs[x]?)∘λx=>i+x)=λm=>xs[i+m]?:=rfl
 rw[e2] at this
 rw[this]
theorem getItem_tuple_cut{t sl:Addr}{items:Array Value}{vl vu:Value}{lo hi:Option Int}{Q:Value->Shared->Prop}(ht:IsTup s.heap t items)(hs:s.heap.IsSliceOf sl vl vu .none)(pl:IsPart vl lo)(pu:IsPart vu hi)
 (hw:¬(sIx items.size 0 lo=0/\sIx items.size items.size hi=items.size))
 (h:Q (.ref s.heap.objs.size) {s with heap:=s.heap.push {cls:= .type "tuple",data:= .seq ((items.toList.drop (sIx items.size 0 lo)).take (sIx items.size items.size hi -sIx items.size 0 lo)).toArray}})
 (hsz:items.size<=sizeLine):wpAny (model prog w) A (getItem (.ref t) (.ref sl)) Q E s:=by
 have htake:sizeOk (.seq ((items.toList.drop (sIx items.size 0 lo)).take (sIx items.size items.size hi -sIx items.size 0 lo)).toArray):=by
  show((items.toList.drop (sIx items.size 0 lo)).take (sIx items.size items.size hi -sIx items.size 0 lo)).toArray.size<=sizeLine
  rw[ζv,ζm,ζr,Array.length_toList]
  omega
 have hj:sIx items.size items.size hi<=items.size:=zp9 _ _ (ζu _) hi
 obtain⟨os,hos,hcs,hds⟩:=id hs
 have hTs:s.TypeIs (.ref sl) "slice":=⟨os,hos,hcs⟩
 unfold getItem
 try with_reducible refine wpAny_holding ?_
 first|refine ζb (ζs ?_)|skip
 refine ζb (wpAny_sequenceKey ht.typeIs (by decide) ?_)
 refine ζb (wpAny_callSpecial?_slot (name:=Str.ofString "__getitem__") ht.typeIs PyProof.Rows.slot_tuple_getitem
  (wpAny_call_entry PyProof.Rows.slot_tuple_getitem ht.typeIs entry_tuple_getitem ?_ (args_tuple_getitem _ _)))
 show wpAny _ _ (Builtin.Tuple.tupleItemsOf (.ref t)>>=_) _ _ s
 refine ζb (tupleItemsOf_ ht ?_)
 refine ζb (wpAny_typeOf hTs ?_)
 rw[if_pos (by decide)]
 refine ζb (zdv hs pl pu ?_)
 have hno:¬((((sIx items.size 0 lo:Nat):Int)==0&&(1:Int)==1&&(sIx items.size items.size hi -sIx items.size 0 lo)==items.size)=true):=by
  intro q
  rw[ζt,ζt] at q
  have q1:((sIx items.size 0 lo:Nat):Int)=0:=eq_of_beq q.1.1
  have q2:sIx items.size items.size hi -sIx items.size 0 lo=items.size:=eq_of_beq q.2
  exact hw ⟨by omega,by omega⟩
 show wpAny _ _ (if(((sIx items.size 0 lo:Nat):Int)==0&&(1:Int)==1&&(sIx items.size items.size hi -sIx items.size 0 lo)==items.size)=true then _ else _) _ _ s
 rw[if_neg hno,zmk]
 first
  |exact ζb (m:=Builtin.Tuple.tupleExact _) (wpAny_newObj_type (ζs ⟨_,rfl,ζs h⟩) htake)
  |exact ζb (m:=Builtin.Tuple.tupleExact _) (wpAny_newObj_type (ζb (ζs (ζs ⟨_,rfl,ζs h⟩))) htake)
  |exact ζb (ζb (m:=Builtin.Tuple.tupleExact _) (wpAny_newObj_type (ζs (ζs ⟨_,rfl,ζs h⟩)) htake))
  |exact ζb (ζb (m:=Builtin.Tuple.tupleExact _) (wpAny_newObj_type (ζs ⟨_,rfl,ζs h⟩) htake))
end
end HT
namespace L2
open PySem PySem.Spec PyProof.Rows
noncomputable abbrev TO:=St->Hp->(Option Int->Hp->Prop)->Prop
def PO(X:Cx)(e:Option Expr)(t:TO):Prop:=
 ∀(pins:List (Addr×Obj)) (s:Shared) (σ:St) (H:Hp) (Q:Option Int->Hp->Prop),Inv X pins σ H s->t σ H Q->
  wpAny (model X.prog X.w) X.A (evalPart e X.env) (λu s'=>∃o H',Inv X pins σ H' s'/\IsPart u o/\Q o H') X.xe s
noncomputable def zal:TO:=λ_ H Q=>Q none H
noncomputable def zcQ(t:TE):TO:=λσ H Q=>t σ H λx H1=>∃i,x= .int i/\Q (some i) H1
section
variable{X:Cx}{e:Expr}{te:TE}{lo hi:Option Expr}{tl th:TO}{pos p2:Pos}
theorem zof:PO X none zal:=by
 intro pins s σ H Q I h
 rw[evalPart_none]
 exact ζs ⟨none,H,I, .none,h⟩
theorem zoo(h:PE X e te):PO X (some e) (zcQ te):=by
 intro pins s σ H Q I hw
 rw[evalPart_some]
 refine thn (h pins s σ H _ I hw) λu s1 ⟨x,H1,I1,r1,q1⟩=>?_
 obtain⟨i,rfl,q⟩:=q1
 obtain⟨t,rfl⟩:=r1
 exact⟨some i,H1,I1, .int i t,q⟩
def SlR(X:Cx)(r:V->Option Int->Option Int->Hp->VK->Prop):Prop:=
 ∀(pins:List (Addr×Obj)) (s:Shared) (σ:St) (H:Hp) (x:V) (v vl vu:Value) (lo hi:Option Int) (sl:Addr) (Q:VK),Inv X pins σ H s->RelV x v->s.heap.IsSliceOf sl vl vu .none->IsPart vl lo->IsPart vu hi->r x lo hi H Q->
  ∃T id,typeLookup (.type T) "__getitem__"=pure (some (.builtin id))/\s.TypeIs v T/\wpAny (model X.prog X.w) X.A (getItem v (.ref sl)) (EP X pins σ Q) X.xe s
def tSl(r:V->Option Int->Option Int->Hp->VK->Prop)(te:TE)(tl th:TO):TE:=λσ H Q=>te σ H λx H1=>tl σ H1 λl H2=>th σ H2 λu H3=>r x l u H3 Q
theorem znn{r:V->Option Int->Option Int->Hp->VK->Prop}(hr:SlR X r)(he:PE X e te)(hl:PO X lo tl)(hu:PO X hi th):PE X (.Subscript e (.Slice lo hi none p2) pos) (tSl r te tl th):=by
 intro pins s σ H Q I h
 refine Subscript_ (thn (he pins s σ H _ I h) λv s1 ⟨x,H1,I1,r1,q1⟩=>?_)
 refine wpAny_Slice (thn (hl pins s1 σ H1 _ I1 q1) λvl s2 ⟨l,H2,I2,pl,q2⟩=>thn (hu pins s2 σ H2 _ I2 q2) λvu s3 ⟨u,H3,I3,pu,q3⟩=>?_)
 rw[evalPart_none]
 refine ζs ?_
 have I4:Inv X pins σ H3 {s3 with heap:=s3.heap.push {cls:= .type "slice",data:= .fields #[vl,vu, .none]}}:=I3.kept (t':=s3.toks) λb ob q=>ζc _ q
 obtain⟨T,id,hT,ht,hg⟩:=hr pins {s3 with heap:=s3.heap.push {cls:= .type "slice",data:= .fields #[vl,vu, .none]}} σ H3 x v vl vu l u s3.heap.objs.size Q I4 r1 (Heap.IsSliceOf.new ..) pl pu q3
 show wpAny (model X.prog X.w) X.A (subscriptTail e (.Slice lo hi none p2) v (.ref s3.heap.objs.size)) (EP X pins σ Q) X.xe {s3 with heap:=s3.heap.push {cls:= .type "slice",data:= .fields #[vl,vu, .none]}}
 exact tail_any (ops:=[.ref s3.heap.objs.size,v]) ht hT hg (by with_unfolding_all rfl)
noncomputable def zaY(xs:List V)(lo hi:Option Int):List V:=(xs.drop (HT.sIx xs.length 0 lo)).take (HT.sIx xs.length xs.length hi -HT.sIx xs.length 0 lo)
theorem zfw(xs:List V)(lo hi:Option Int):(zaY xs lo hi).length<=xs.length:=by
 unfold zaY
 rw[ζm,ζr]
 omega
def zri(K:PySem.W.Frag):V->Option Int->Option Int->Hp->VK->Prop:=λx lo hi H Q=>∃a xs,x= .ref a/\SqT K H a xs/\
 ¬(HT.sIx xs.length 0 lo=0/\HT.sIx xs.length xs.length hi=xs.length)/\∀p,H p=none->Q (.ref p) (upd H p (.tup (zaY xs lo hi)))
theorem zqi:SlR X (zri X.K):=by
 intro pins s σ H x v vl vu lo hi sl Q I rx hs pl pu h
 obtain⟨a,xs,rfl,hx,hw,q⟩:=h
 cases rx
 obtain⟨its,r,ht,hz⟩:=I.tuple hx
 have hlen:its.toArray.size=xs.length:=by rw[ζv];exact r.length.symm
 refine⟨"tuple",_,PyProof.Rows.slot_tuple_getitem.lookup,ht.typeIs,?_⟩
 refine HT.getItem_tuple_cut ht hs pl pu (by rw[hlen];exact hw) ?_ (by rw[hlen];exact hz)
 rw[hlen]
 refine⟨.ref s.heap.objs.size,_,I.laid (t':=s.toks) (o:= .tup (zaY xs lo hi)) (λb ob q=>ζc _ q) (ζu _) ?_,rfl,q _ (I.hok.fresh (ζu _))⟩
 exact⟨ξb (zfw xs lo hi) hz,_,(r.drop (HT.sIx xs.length 0 lo)).take (HT.sIx xs.length xs.length hi -HT.sIx xs.length 0 lo),IsTup.new _ _,NoDict.new rfl (ζj _ rfl)⟩
noncomputable def zqK(K:PySem.W.Frag):R2:=λx y H Q=>∃a b xs ys,x= .ref a/\y= .ref b/\SqT K H a xs/\SqT K H b ys/\xs≠ []/\xs.length+ys.length<=sizeLine/\
 (ys=[]->Q (.ref a) H)/\(ys≠ []->∀p,H p=none->Q (.ref p) (upd H p (.tup (xs ++ys))))
theorem Vals.nil_iff{xs:List V}{us:List Value}(r:Vals xs us):us=[]↔xs=[]:=by
 cases r with
 |nil=>simp
 |cons _ _=>simp
theorem zoG:OpR X (binaryOp .Add) (zqK X.K):=by
 intro pins s σ H x y v u Q I rx ry h
 obtain⟨a,b,xs,ys,rfl,rfl,ha,hb,hx,hz,q1,q2⟩:=h
 cases rx
 cases ry
 obtain⟨its,r1,p1,_⟩:=I.tuple ha
 obtain⟨its2,r2,p2,_⟩:=I.tuple hb
 refine HT.cat_tup p1 p2 (λz=>hx (r1.nil_iff.mp z)) (λz=>⟨.ref a,H,I,rfl,q1 (r2.nil_iff.mp z)⟩) (λz=>?_) (by rw[←r1.length,←r2.length];exact hz)
 refine⟨.ref s.heap.objs.size,_,I.laid (t':=s.toks) (o:= .tup (xs ++ys)) (λb ob q=>ζc _ q) (ζu _) ?_,rfl,q2 (λw=>z (r2.nil_iff.mpr w)) _ (I.hok.fresh (ζu _))⟩
 exact⟨by rw[ζe];exact hz,_,r1.append r2,IsTup.new _ _,NoDict.new rfl (ζj _ rfl)⟩
end
noncomputable def ixN(n:Nat)(i:Int):Option Nat:=if 0<=i then(if i<n then some i.toNat else none)else if -(n:Int)<=i then some (i+n).toNat else none
noncomputable def atI{α:Type}(xs:List α)(i:Int):Option α:=(ixN xs.length i).bind λj=>xs[j]?
theorem zkZ{n:Nat}{i:Int}{j:Nat}(h:ixN n i=some j):seqIndex? i n=some j/\j<n/\-(n:Int)<=i/\i<n:=by
 unfold ixN at h
 by_cases h0:0<=i
 ·rw[if_pos h0] at h
  by_cases h1:i<n
  ·rw[if_pos h1] at h
   have e:i.toNat=j:=ξj h
   exact⟨by rw[seqIndex_of h0 h1,e],by omega,by omega,h1⟩
  ·rw[if_neg h1] at h;cases h
 ·rw[if_neg h0] at h
  by_cases h1: -(n:Int)<=i
  ·rw[if_pos h1] at h
   have e:(i+n).toNat=j:=ξj h
   exact⟨by rw[seqIndex_neg (by omega) h1,e],by omega,h1,by omega⟩
  ·rw[if_neg h1] at h;cases h
theorem zhQ{α:Type}{xs:List α}{i:Int}{v:α}(h:atI xs i=some v):∃j,seqIndex? i xs.length=some j/\xs[j]?=some v/\j<xs.length/\-(xs.length:Int)<=i/\i<xs.length:=by
 unfold atI at h
 cases e:ixN xs.length i with
 |none=>rw[e] at h;cases h
 |some j=>
  rw[e] at h
  obtain⟨h1,h2,h3,h4⟩:=zkZ e
  exact⟨j,h1,h,h2,h3,h4⟩
theorem zz{α:Type}{xs:List α}{j:Nat}{v:α}(h:xs[j]?=some v):atI xs (j:Int)=some v:=by
 have hj:j<xs.length:=(List.getElem?_eq_some_iff.mp h).1
 have e:ixN xs.length (j:Int)=some j:=by
  unfold ixN
  rw[if_pos (by omega),if_pos (by omega)];simp
 unfold atI;rw[e];exact h
theorem zeX{α:Type}(xs:List α)(v:α):atI (xs ++ [v]) (-1)=some v:=by
 have hl:(xs ++ [v]).length=xs.length+1:=by simp
 have e:ixN (xs ++ [v]).length (-1)=some xs.length:=by
  unfold ixN
  rw[hl,if_neg (by decide),if_pos (by omega)]
  congr 1
  omega
 unfold atI
 rw[e]
 show(xs ++ [v])[xs.length]?=some v
 simp
def zkm(b:Expr):Prop:=∀o i,subscripted b false o i=operate [o,i] (getItem o i)
def IxR(X:Cx)(r:R2):Prop:=
 ∀(value slice:Expr) (pins:List (Addr×Obj)) (s:Shared) (σ:St) (H:Hp) (x y:V) (v u:Value) (Q:VK),Inv X pins σ H s->RelV x v->RelV y u->r x y H Q->
  subscripted slice false v u=operate [v,u] (getItem v u)->wpAny (model X.prog X.w) X.A (subscriptTail value slice v u) (EP X pins σ Q) X.xe s
def MtR(X:Cx)(id:String)(r:V->List V->Hp->VK->Prop):Prop:=
 ∀(pins:List (Addr×Obj)) (s:Shared) (σ:St) (H:Hp) (x:V) (xs:List V) (v:Value) (us:List Value) (Q:VK),Inv X pins σ H s->RelV x v->Vals xs us->r x xs H Q->
  wpAny (model X.prog X.w) X.A (call (.builtin id) (v::us)) (EP X pins σ Q) X.xe s
section
variable{X:Cx}{a b:Expr}{ta tb:TE}{pos:Pos}
theorem IxR.or{r r':R2}(h:IxR X r)(h':IxR X r'):IxR X (λx y H Q=>r x y H Q\/r' x y H Q):=by
 intro value slice pins s σ H x y v u Q I rx ry q hs
 rcases q with q|q
 ·exact h value slice pins s σ H x y v u Q I rx ry q hs
 ·exact h' value slice pins s σ H x y v u Q I rx ry q hs
theorem zqF{r:R2}(hr:IxR X r)(ha:PE X a ta)(hb:PE X b tb)(hs:zkm b):PE X (.Subscript a b pos) (tOp r ta tb):=by
 intro pins s σ H Q I h
 exact Subscript_ (zpY ha hb I h λv u s2 x y H2 I2 rx ry q=>hr a b pins s2 σ H2 x y v u Q I2 rx ry q (hs _ _))
noncomputable def zrd(K:PySem.W.Frag):R2:=λx y H Q=>∃p xs i v,x= .ref p/\y= .int i/\SqL K H p xs/\atI xs i=some v/\Q v H
noncomputable def zj7(K:PySem.W.Frag):R2:=λx y H Q=>∃p xs i v,x= .ref p/\y= .int i/\SqT K H p xs/\atI xs i=some v/\Q v H
noncomputable def zqE:R2:=λx y H Q=>∃z i c,x= .str z/\y= .int i/\z.length<=sizeLine/\atI z.cps.toList i=some c/\Q (.str ⟨#[c]⟩) H
theorem ix_list:IxR X (zrd X.K):=by
 intro value slice pins s σ H x y v u Q I rx ry h hs
 obtain⟨p,xs,i,z,rfl,rfl,hq,he,q⟩:=h
 cases rx
 obtain⟨t,rfl⟩:=ry
 obtain⟨its,r,pl,hz⟩:=I.list hq
 obtain⟨j,h1,h2,h3,h4,h5⟩:=zhQ he
 obtain⟨w,ew,rw'⟩:=r.get h2
 have hl:=r.length
 have hn:=zex
 have fin:EP X pins σ Q w s:=⟨z,H,I,rw',q⟩
 by_cases h0:0<=i
 ·have hj:i.toNat=j:=by
   rw[seqIndex_of h0 h5] at h1
   exact ξj h1
  exact item_listR pl.isList h0 (by omega) (by rw[hj];simpa using ew) fin hs
 ·have hj:(i+(its.toArray.size:Int)).toNat=j:=by
   rw[seqIndex_neg (by omega) h4] at h1
   rw[ζv,←hl]
   exact ξj h1
  exact subscriptTail_builtinR (x:=w) pl.isList.typeIs slot_list_getitem.lookup
   (wpAny_getItem_list_neg (Q:=λr s'=>r=w/\EP X pins σ Q r s') pl.isList (by omega) (by rw[ζv]<;>omega) (by omega) (by rw[hj];simpa using ew) ⟨rfl,fin⟩) hs
theorem ix_tup:IxR X (zj7 X.K):=by
 intro value slice pins s σ H x y v u Q I rx ry h hs
 obtain⟨p,xs,i,z,rfl,rfl,hq,he,q⟩:=h
 cases rx
 obtain⟨t,rfl⟩:=ry
 obtain⟨its,r,pl,hz⟩:=I.tuple hq
 obtain⟨j,h1,h2,h3,h4,h5⟩:=zhQ he
 obtain⟨w,ew,rw'⟩:=r.get h2
 have hl:=r.length
 have hn:=zex
 have fin:EP X pins σ Q w s:=⟨z,H,I,rw',q⟩
 exact subscriptTail_builtinR (x:=w) pl.typeIs slot_tuple_getitem.lookup
  (getItem_tuple (j:=j) (Q:=λr s'=>r=w/\EP X pins σ Q r s') pl (by omega) (by omega) (by rw[ζv,←hl];exact h1) (by simpa using ew) ⟨rfl,fin⟩) hs
theorem zmZ:IxR X zqE:=by
 intro value slice pins s σ H x y v u Q I rx ry h hs
 obtain⟨z,i,c,rfl,rfl,hz,he,q⟩:=h
 obtain⟨t,rfl⟩:=rx
 obtain⟨t',rfl⟩:=ry
 obtain⟨j,h1,h2,h3,h4,h5⟩:=zhQ he
 have hl:z.cps.toList.length=z.length:=by simp[Str.length]
 rw[hl] at h1 h4 h5
 have hn:=zex
 exact tail_any (typeIs_str s z t) slot_str_getitem.lookup (getItem_str (c:=c) (by
  have e1:decide (i< -(2^63:Int))=false:=ζo (by omega)
  have e2:decide (i≥2^63)=false:=ζo (by omega)
  rw[e1,e2,Bool.or_false]) (by rw[h1];simpa using h2) ⟨.str ⟨#[c]⟩,H,I.tok _,⟨_,rfl⟩,q⟩) hs
noncomputable def rIx(K:PySem.W.Frag):R2:=λx y H Q=>zrd K x y H Q\/zj7 K x y H Q\/zqE x y H Q
theorem zhq:IxR X (rIx X.K):=ix_list.or (ix_tup.or zmZ)
theorem zjQ(its:List Value)(n j:Nat)(u:Value):Obj.mapSeq (·.setIfInBounds j u) {cls:= .type "list",data:= .seq its.toArray n}={cls:= .type "list",data:= .seq (its.set j u).toArray n}:=by
 simp[Obj.mapSeq]
theorem Inv.lst{pins:List (Addr×Obj)}{σ:St}{H:Hp}{s:Shared}{p:Addr}{xs:List V}(I:Inv X pins σ H s)(h:H p=some (.lst xs)):
 ∃(its:List Value) (n:Nat),Vals xs its/\s.heap.get? p=some {cls:= .type "list",data:= .seq its.toArray n}/\xs.length<=sizeLine:=by
 obtain⟨z,its,n,r,e⟩:=I.hok p _ h
 exact⟨its,n,r,e,z⟩
theorem Inv.lstUpd{pins:List (Addr×Obj)}{σ:St}{H:Hp}{s:Shared}{p:Addr}{xs ys:List V}{its its':List Value}{n n':Nat}{f:Obj->Obj}(I:Inv X pins σ H s)(h:H p=some (.lst xs))
 (ho:s.heap.get? p=some {cls:= .type "list",data:= .seq its.toArray n}) (hf:f {cls:= .type "list",data:= .seq its.toArray n}={cls:= .type "list",data:= .seq its'.toArray n'}) (r:Vals ys its') (hz:ys.length<=sizeLine) (t:Nat):
 Inv X pins σ (upd H p (.lst ys)) {s with heap:=s.heap.update p f,toks:=t}:=by
 have e:(s.heap.update p f).get? p=some {cls:= .type "list",data:= .seq its'.toArray n'}:=by
  rw[Heap.get?_update_self f ho (by rw[hf]<;>rfl),hf]
 refine I.write (x:=p) (e:=p) (by rw[h];trivial) (.inl rfl) (λb u hb q=>(Heap.get?_update_other _ _ (Ne.symm hb)).trans q) ⟨_,e⟩ ?_
 exact⟨hz,its',n',r,e⟩
def zqS:V->V->V->Hp->(Hp->Prop)->Prop:=λo i v H Q=>∃p xs k j,o= .ref p/\i= .int k/\H p=some (.lst xs)/\ixN xs.length k=some j/\Q (upd H p (.lst (xs.set j v)))
theorem zf1:zqa X zqS:=by
 intro pins s σ H o i v ov iv u Q I ro ri rv h
 obtain⟨p,xs,k,j,rfl,rfl,hp,hj,q⟩:=h
 cases ro
 obtain⟨t,rfl⟩:=ri
 obtain⟨its,n,r,ho,hz⟩:=I.lst hp
 obtain⟨h1,h2,h3,h4⟩:=zkZ hj
 have hl:=r.length
 have hn:=zex
 have I':Inv X pins σ (upd H p (.lst (xs.set j v))) {s with heap:=s.heap.update p (Obj.mapSeq (·.setIfInBounds j u))}:=
  I.lstUpd hp ho (zjQ its n j u) (r.set rv j) (by rw[List.length_set];exact hz) s.toks
 by_cases h0:0<=k
 ·have hk:k.toNat=j:=by
   rw[seqIndex_of h0 h4] at h1
   exact ξj h1
  exact PySem.W.ki_setAt ho h0 (by omega) (by rw[ζv,←hl];exact h4) (by rw[hk];exact⟨_,I',q⟩)
 ·have hk:(k+(its.toArray.size:Int)).toNat=j:=by
   rw[seqIndex_neg (by omega) h3] at h1
   rw[ζv,←hl]
   exact ξj h1
  exact PySem.W.ki_setBack ho (by omega) (by rw[ζv,←hl];exact h3) (by omega) (by rw[hk];exact⟨_,I',q⟩)
theorem zhW(lo hi:Option Int)(n:Nat):(sliceBounds lo hi none n).1=((HT.sIx n 0 lo:Nat):Int)/\(sliceBounds lo hi none n).2.1=((HT.sIx n n hi:Nat):Int)/\(sliceBounds lo hi none n).2.2=1:=by
 refine⟨?_,?_,rfl⟩
 ·cases lo with
  |none=>simp[sliceBounds,HT.sIx]
  |some i=>
   simp only[sliceBounds,HT.sIx,Option.getD_none,show(1:Int)>0 by decide,if_true]
   by_cases h:i<0
   ·simp only[h,if_true]<;>omega
   ·simp only[h,if_false]<;>omega
 ·cases hi with
  |none=>simp[sliceBounds,HT.sIx]
  |some i=>
   simp only[sliceBounds,HT.sIx,Option.getD_none,show(1:Int)>0 by decide,if_true]
   by_cases h:i<0
   ·simp only[h,if_true]<;>omega
   ·simp only[h,if_false]<;>omega
theorem zgF(its:List Value)(lo hi:Option Int):slicePick its.toArray lo hi none=((its.drop (HT.sIx its.length 0 lo)).take (HT.sIx its.length its.length hi -HT.sIx its.length 0 lo)).toArray:=by
 obtain⟨h1,h2,h3⟩:=zhW lo hi its.toArray.size
 unfold slicePick
 rw[h1,h2,h3]
 simp only[sliceRange_one,pick_run,ζv]<;>rfl
def zrm(K:PySem.W.Frag):V->Option Int->Option Int->Hp->VK->Prop:=λx lo hi H Q=>∃a xs,x= .ref a/\SqL K H a xs/\∀p,H p=none->Q (.ref p) (upd H p (.lst (zaY xs lo hi)))
theorem zfU:SlR X (zrm X.K):=by
 intro pins s σ H x v vl vu lo hi sl Q I rx hs pl pu h
 obtain⟨a,xs,rfl,hx,q⟩:=h
 cases rx
 obtain⟨its,r,ht,hz⟩:=I.list hx
 have hlen:=r.length
 refine⟨"list",_,slot_list_getitem.lookup,ht.isList.typeIs,?_⟩
 refine wpAny_getItem_list_slice ht.isList hs pl pu .none (by simp) ?_ (by rw[ζv]<;>omega)
 rw[zgF,←hlen]
 refine⟨.ref s.heap.objs.size,_,I.laid (t':=s.toks) (o:= .lst (zaY xs lo hi)) (λb ob q=>ζc _ q) (ζu _) ?_,rfl,q _ (I.hok.fresh (ζu _))⟩
 exact⟨ξb (zfw xs lo hi) hz,_,0,(r.drop (HT.sIx xs.length 0 lo)).take (HT.sIx xs.length xs.length hi -HT.sIx xs.length 0 lo),ζj _ rfl⟩
noncomputable def zeK:V->Bool
 | .non=>true
 | .bl _=>true
 | .int _=>true
 | .str _=>true
 |_=>false
noncomputable def eqV:V->V->Bool
 | .non, .non=>true
 | .bl a, .bl b=>a==b
 | .bl a, .int b=>(if a then 1 else 0)==b
 | .int a, .bl b=>a==(if b then 1 else 0)
 | .int a, .int b=>a==b
 | .str a, .str b=>a==b
 |_,_=>false
theorem zqd{A:Around}{s:Shared}{y x:V}{u v:Value}(ry:RelV y u)(rx:RelV x v)(fy:zeK y=true)(fx:zeK x=true):SeqAt.EqAt A s u v (eqV y x):=by
 cases y with
 |non=>
  cases ry
  cases x with
  |non=>cases rx;exact SeqAt.EqAt.same _
  |bl b=>cases rx;exact SeqAt.EqAt.none_bool b
  |int b=>obtain ⟨t,rfl⟩:=rx;exact SeqAt.EqAt.none_int b t
  |str b=>obtain ⟨t,rfl⟩:=rx;exact SeqAt.EqAt.none_str b t
  |_=>exact absurd (show false=true from fx) ξg
 |bl a=>
  cases ry
  cases x with
  |non=>cases rx;exact SeqAt.EqAt.bool_none a
  |bl b=>cases rx;exact SeqAt.EqAt.bool_bool a b
  |int b=>obtain ⟨t,rfl⟩:=rx;exact SeqAt.EqAt.bool_int a b t
  |str b=>obtain ⟨t,rfl⟩:=rx;exact SeqAt.EqAt.bool_str a b t
  |_=>exact absurd (show false=true from fx) ξg
 |int a=>
  obtain⟨t',rfl⟩:=ry
  cases x with
  |non=>cases rx;exact SeqAt.EqAt.int_none a t'
  |bl b=>cases rx;exact SeqAt.EqAt.int_bool a t' b
  |int b=>obtain ⟨t,rfl⟩:=rx;exact SeqAt.EqAt.int_int a t' b t
  |str b=>obtain ⟨t,rfl⟩:=rx;exact SeqAt.EqAt.int_str a t' b t
  |_=>exact absurd (show false=true from fx) ξg
 |str a=>
  obtain⟨t',rfl⟩:=ry
  cases x with
  |non=>cases rx;exact SeqAt.EqAt.str_none a t'
  |bl b=>cases rx;exact SeqAt.EqAt.str_bool a t' b
  |int b=>obtain ⟨t,rfl⟩:=rx;exact SeqAt.EqAt.str_int a t' b t
  |str b=>obtain ⟨t,rfl⟩:=rx;exact SeqAt.EqAt.str_str a t' b t
  |_=>exact absurd (show false=true from fx) ξg
 |_=>exact absurd (show false=true from fy) ξg
noncomputable def eqU(x:V)(u:Value):Bool:=match u with
 | .none=>eqV .non x
 | .bool b=>eqV (.bl b) x
 | .int i _=>eqV (.int i) x
 | .str z _=>eqV (.str z) x
 |_=>false
theorem zmm{x y:V}{u:Value}(r:RelV y u)(f:zeK y=true):eqU x u=eqV y x:=by
 cases y with
 |non=>cases r;rfl
 |bl b=>cases r;rfl
 |int i=>obtain ⟨t,rfl⟩:=r;rfl
 |str z=>obtain ⟨t,rfl⟩:=r;rfl
 |_=>exact absurd (show false=true from f) ξg
theorem zeY{x:V}:∀{xs:List V} {us:List Value},Vals xs us->xs.all zeK=true->us.any (eqU x)=xs.any λy=>eqV y x
 |_,_, .nil,_=>rfl
 |y::xs,u::us, .cons r t,f=>by
  rw[List.all_cons,ζt] at f
  rw[List.any_cons,List.any_cons,zmm r f.1,zeY t f.2]
theorem zdZ{A:Around}{s:Shared}{x:V}{v:Value}(rx:RelV x v)(fx:zeK x=true):∀{xs:List V} {us:List Value},Vals xs us->xs.all zeK=true->∀u∈us,SeqAt.EqAt A s u v (eqU x u)
 |_,_, .nil,_=>λu hu=>by cases hu
 |y::xs,u::us, .cons r t,f=>λu' hu=>by
  rw[List.all_cons,ζt] at f
  rcases List.mem_cons.mp hu with rfl|hu
  ·rw[zmm r f.1];exact zqd r rx f.1 fx
  ·exact zdZ rx fx t f.2 u' hu
noncomputable def inV(x:V)(xs:List V):Bool:=xs.any λy=>eqV y x
noncomputable def rIn(K:PySem.W.Frag)(neg:Bool):R2:=λx y H Q=>∃p xs,y= .ref p/\(SqL K H p xs\/SqT K H p xs)/\zeK x=true/\xs.all zeK=true/\Q (.bl (if neg then !inV x xs else inV x xs)) H
theorem zef:OpR X (compareOp .In) (rIn X.K false):=by
 intro pins s σ H x y v u Q I rx ry h
 obtain⟨p,xs,rfl,hq,fx,fs,q⟩:=h
 cases ry
 rcases hq with hq|hq
 ·obtain ⟨its,r,pl,hz⟩:=I.list hq
  refine SeqAt.in_listAt (eqU x) pl.isList (λw hw=>zdZ rx fx r fs w (by simpa using hw)) ⟨.bl _,H,I,rfl,?_⟩
  rw[show its.toArray.any (eqU x)=its.any (eqU x) by simp,zeY r fs]
  exact q
 ·obtain ⟨its,r,pl,hz⟩:=I.tuple hq
  refine SeqAt.in_tupleAt (eqU x) pl (λw hw=>zdZ rx fx r fs w (by simpa using hw)) ⟨.bl _,H,I,rfl,?_⟩
  rw[show its.toArray.any (eqU x)=its.any (eqU x) by simp,zeY r fs]
  exact q
theorem zcV:OpR X (compareOp .NotIn) (rIn X.K true):=by
 intro pins s σ H x y v u Q I rx ry h
 obtain⟨p,xs,rfl,hq,fx,fs,q⟩:=h
 cases ry
 rcases hq with hq|hq
 ·obtain ⟨its,r,pl,hz⟩:=I.list hq
  refine SeqAt.notIn_listAt (eqU x) pl.isList (λw hw=>zdZ rx fx r fs w (by simpa using hw)) ⟨.bl _,H,I,rfl,?_⟩
  rw[show its.toArray.any (eqU x)=its.any (eqU x) by simp,zeY r fs]
  exact q
 ·obtain ⟨its,r,pl,hz⟩:=I.tuple hq
  refine SeqAt.notIn_tupleAt (eqU x) pl (λw hw=>zdZ rx fx r fs w (by simpa using hw)) ⟨.bl _,H,I,rfl,?_⟩
  rw[show its.toArray.any (eqU x)=its.any (eqU x) by simp,zeY r fs]
  exact q
theorem call_len_seq:CallR X (.builtin "len") (λxs H Q=>∃p ys,xs=[.ref p]/\(SqL X.K H p ys\/SqT X.K H p ys)/\Q (.int ys.length) H):=by
 intro pins s σ H xs us Q I r h
 obtain⟨p,ys,rfl,hq,q⟩:=h
 obtain⟨u,rfl,rx⟩:=zdg r
 cases rx
 have hn:=zex
 rcases hq with hq|hq
 ·obtain ⟨its,r',pl,hz⟩:=I.list hq
  have hlen:=r'.length
  exact Calls.call_len_list pl.isList (by simp only[ζv]<;>omega) ⟨.int ys.length,H,I.tok _,⟨s.toks+1,by rw[ζv,hlen]⟩,q⟩
 ·obtain ⟨its,r',pl,hz⟩:=I.tuple hq
  have hlen:=r'.length
  exact len_tuple pl (by simp only[ζv]<;>omega) ⟨.int ys.length,H,I.tok _,⟨s.toks+1,by rw[ζv,hlen]⟩,q⟩
theorem zhI:CallR X (.builtin "len") (λxs H Q=>∃z,xs=[.str z]/\z.length<=sizeLine/\Q (.int z.length) H):=by
 intro pins s σ H xs us Q I r h
 obtain⟨z,rfl,hz,q⟩:=h
 obtain⟨u,rfl,t,rfl⟩:=zdg r
 have hn:=zex
 exact len_str (by omega) ⟨.int z.length,H,I.tok _,⟨_,rfl⟩,q⟩
theorem CallR.or{f:Value}{r r':List V->Hp->VK->Prop}(h:CallR X f r)(h':CallR X f r'):CallR X f (λxs H Q=>r xs H Q\/r' xs H Q):=by
 intro pins s σ H xs us Q I rs q
 rcases q with q|q
 ·exact h pins s σ H xs us Q I rs q
 ·exact h' pins s σ H xs us Q I rs q
theorem zhA:CallR X (.type "list") (λxs H Q=>∃p ys,xs=[.ref p]/\(SqL X.K H p ys\/SqT X.K H p ys)/\∀l,H l=none->Q (.ref l) (upd H l (.lst ys))):=by
 intro pins s σ H xs us Q I r h
 obtain⟨p,ys,rfl,hq,q⟩:=h
 obtain⟨u,rfl,rx⟩:=zdg r
 cases rx
 have fin:∀(its:List Value),Vals ys its->ys.length<=sizeLine->∀(h':Heap) (c':Nat),(∀b o',s.heap.get? b=some o'->h'.get? b=some o')->
  h'.get? s.heap.objs.size=some {cls:= .type "list",dict:=none,data:= .seq its.toArray c',slots:= #[]}->EP X pins σ Q (.ref s.heap.objs.size) {s with heap:=h'}:=λits r' hz h' c' kp e=>
  ⟨.ref s.heap.objs.size,_,I.laid (t':=s.toks) kp (ζu _) (show ObjOk X.prog X.w _ h' _ (.lst ys)from⟨hz,its,c',r',e⟩),rfl,q _ (I.hok.fresh (ζu _))⟩
 rcases hq with hq|hq
 ·obtain ⟨its,r',pl,hz⟩:=I.list hq
  have hlen:=r'.length
  obtain⟨o,ho,hc,n,hd⟩:=pl.isList
  exact call_list_seq p (.inl rfl) ho hc hd (λh' c' kp e=>fin its r' hz h' c' kp e) (by simp only[ζv]<;>omega)
 ·obtain ⟨its,r',pl,hz⟩:=I.tuple hq
  have hlen:=r'.length
  obtain⟨o,ho,hc,n,hd⟩:=pl
  exact call_list_seq p (.inr rfl) ho hc hd (λh' c' kp e=>fin its r' hz h' c' kp e) (by simp only[ζv]<;>omega)
theorem zab:CallR X (.type "tuple") (λxs H Q=>∃p ys,xs=[.ref p]/\((SqL X.K H p ys/\∀l,H l=none->Q (.ref l) (upd H l (.tup ys)))\/(SqT X.K H p ys/\Q (.ref p) H))):=by
 intro pins s σ H xs us Q I r h
 obtain⟨p,ys,rfl,h⟩:=h
 obtain⟨u,rfl,rx⟩:=zdg r
 cases rx
 rcases h with⟨hq,q⟩|⟨hq,q⟩
 ·obtain ⟨its,r',pl,hz⟩:=I.list hq
  have hlen:=r'.length
  refine call_tuple_list pl.isList (λh' kp=>?_) (by simp only[ζv]<;>omega)
  have I1:Inv X pins σ H {s with heap:=h'}:=I.kept (t':=s.toks) kp
  have I2:Inv X pins σ (upd H h'.objs.size (.tup ys)) {s with heap:=h'.push {cls:= .type "tuple",data:= .seq its.toArray}}:=
   I1.laid (t':=s.toks) (λb o e=>ζc _ e) (ζu _) (show ObjOk X.prog X.w _ _ _ (.tup ys)from⟨hz,its,r',IsTup.new _ _,NoDict.new rfl (ζj _ rfl)⟩)
  exact⟨.ref h'.objs.size,_,I2,rfl,q _ (I1.hok.fresh (ζu _))⟩
 ·obtain ⟨its,r',pl,hz⟩:=I.tuple hq
  exact call_tuple_same pl ⟨.ref p,H,I,rfl,q⟩
def tyV(K:PySem.W.Frag)(T:String)(x:V)(H:Hp):Prop:=match x with
 | .str _=>T="str"
 | .int _=>T="int"
 | .ref p=>(T="list"/\∃xs,SqL K H p xs)\/(T="tuple"/\∃o,K.lookup p=some o/\o.cls= .type "tuple"/\o.dict=none)\/
    (T="dict"/\((∃kvs,H p=some (.dK kvs))\/∃kvs,H p=some (.dT kvs)))\/(T="set"/\∃S n,H p=some (.set S n))\/(T="tuple"/\∃xs,H p=some (.tup xs))
 |_=>False
theorem zqk{pins:List (Addr×Obj)}{σ:St}{H:Hp}{s:Shared}{T:String}{x:V}{v:Value}(I:Inv X pins σ H s)(r:RelV x v)(ty:tyV X.K T x H):
 s.TypeIs v T/\∀a,v= .ref a->∃ob,s.heap.get? a=some ob/\ob.dict=none:=by
 cases x with
 |str z=>
  obtain⟨t,rfl⟩:=r
  cases(show T="str"from ty)
  exact⟨typeIs_str s z t,λ_ e=>nomatch e⟩
 |int i=>
  obtain⟨t,rfl⟩:=r
  cases(show T="int"from ty)
  exact⟨typeIs_int s i t,λ_ e=>nomatch e⟩
 |ref p=>
  cases r
  rcases ty with⟨rfl,xs,hq⟩|⟨rfl,o,hk,hc,hd⟩|⟨rfl,hk⟩|⟨rfl,S,n,hk⟩|⟨rfl,xs,hk⟩
  ·obtain ⟨its,_,pl,_⟩:=I.list hq
   refine⟨pl.isList.typeIs,λa e=>?_⟩
   cases e
   obtain⟨o,n,e,c,hd,_⟩:=pl
   exact⟨o,e,hd⟩
  ·refine ⟨⟨o,I.kIn p o hk,hc⟩,λa e=>?_⟩
   cases e
   exact⟨o,I.kIn _ o hk,hd⟩
  ·have z:∃o,s.heap.get? p=some o/\o.ExactDict:=by
    rcases hk with⟨kvs,hk⟩|⟨kvs,hk⟩
    ·obtain ⟨_,_,_,_,o,_,_,e,ex,_⟩:=I.hok p _ hk
     exact⟨o,e,ex⟩
    ·obtain ⟨_,_,_,_,o,_,_,e,ex,_⟩:=I.hok p _ hk
     exact⟨o,e,ex⟩
   obtain⟨o,e,ex⟩:=z
   refine⟨⟨o,e,ex.1⟩,λa e2=>?_⟩
   cases e2
   exact⟨o,e,ex.2.1⟩
  ·obtain ⟨o,_,_,_,e,ex,_⟩:=I.hok p _ hk
   refine⟨⟨o,e,ex.1⟩,λa e2=>?_⟩
   cases e2
   exact⟨o,e,ex.2.1⟩
  ·obtain ⟨_,_,_,⟨o,e,c,_⟩,nd⟩:=I.hok p _ hk
   refine⟨⟨o,e,c⟩,λa e2=>?_⟩
   cases e2
   exact⟨o,e,nd o e⟩
 |_=>exact False.elim ty
def tBM(K:PySem.W.Frag)(T:String)(r:V->List V->Hp->VK->Prop)(to:TE)(t:TA):TE:=λσ H Q=>to σ H λx H1=>tyV K T x H1/\t σ H1 λxs H2=>r x xs H2 Q
variable{o e:Expr}{es:List Expr}{to:TE}{t:TA}{name:Str}{apos cpos:Pos}{T id:String}{r:V->List V->Hp->VK->Prop}
theorem zq6(pa:PlainAttrs T)(slot:Slot T name id)(hty:typeOf (.builtin id)=pure (.type "method_descriptor"))(hm:MtR X id r)(ho:PE X o to)(ha:PA X (e::es) t)
 (hbase:attributeBase o name X.env (eval o X.env)=eval o X.env:=by rfl)
 (hfew:((backTo cpos (starEach (e::es) X.env)).all (λx=>!x.1)&&(backToKw cpos (keywordEach [] X.env)).all (λx=>x.1.isSome)
   &&decide ((e::es).length+([]:List Keyword).length+(if([]:List Keyword).isEmpty then 0 else 1)<30))=true:=by rfl)
 (hline:(apos.endLine==cpos.line)=true:=by rfl) (hs:starEach (e::es) X.env=(false,eval e X.env)::starEach es X.env:=by rfl) (hplain:(backTo cpos (starEach es X.env)).any (·.1)=false:=by rfl):
 PE X (.Call (.Attribute o name apos) (e::es) [] cpos) (tBM X.K T r to t):=by
 intro pins s σ H Q I h
 refine wpAny_Call_method_late hbase hfew hline rfl (thn (ho pins s σ H _ I h) λv s1 ⟨x,H1,I1,r1,ty,q1⟩=>?_)
 obtain⟨h1,h2⟩:=zqk I1 r1 ty
 refine⟨T,id,pa,slot,hty,h1,h2,?_⟩
 have hA:=ha cpos pins s1 σ H1 _ I1 q1
 rw[hs] at hA⊢
 refine Calls.callWith_builtin (by show(false||(backTo cpos (starEach es X.env)).any (·.1))=false;rw[hplain]<;>rfl) (Calls.evalArgs_plain ?_)
 exact thn hA λus s2 ⟨vs,H2,I2,r2,q2⟩=>hm pins s2 σ H2 x vs v us Q I2 r1 r2 q2
end
def MtM(X:Cx)(id:String)(r:V->List V->Hp->VK->Prop):Prop:=
 ∀(pins:List (Addr×Obj)) (s:Shared) (σ:St) (H:Hp) (x:V) (xs:List V) (v:Value) (us:List Value) (Q:VK),Inv X pins σ H s->RelV x v->Vals xs us->r x xs H Q->
  wpAny (model X.prog X.w) X.A (call (.builtin id) (v::us)) (EP X pins σ Q) X.xe s
theorem Vals.one:∀{x:V} {us:List Value},Vals [x] us->∃u,us=[u]/\RelV x u
 |_,_, .cons r .nil=>⟨_,rfl,r⟩
theorem Vals.rep{xs:List V}{us:List Value}(h:Vals xs us):∀k:Nat,Vals (List.replicate k xs).flatten (List.replicate k us).flatten
 |0=> .nil
 |k+1=>by
  rw[List.replicate_succ,List.replicate_succ,List.flatten_cons,List.flatten_cons]
  exact Vals.append h (Vals.rep h k)
theorem zgZ(its:List Value):∀(k:Nat) (acc:List Value),
 List.foldl (λx1 x2=>x1 ++x2) acc.toArray (List.replicate k its.toArray)=(acc ++(List.replicate k its).flatten).toArray
 |0,acc=>by simp
 |k+1,acc=>by
  have e:acc.toArray ++its.toArray=(acc ++its).toArray:=by simp
  have e2:(acc ++its)++(List.replicate k its).flatten=acc ++(List.replicate (k+1) its).flatten:=by
   rw[List.replicate_succ,List.flatten_cons,List.append_assoc]
  rw[←e2,←zgZ its k (acc ++its),←e,List.replicate_succ,List.foldl_cons]
section
variable{X:Cx}{pins:List (Addr×Obj)}{σ:St}{H:Hp}{s:Shared}{l b:Addr}{xs ys zs:List V}
theorem Inv.lset{its its':List Value}{n:Nat}{f:Array Value->Array Value}{t':Nat}(I:Inv X pins σ H s)(hH:H l=some (.lst xs))
 (e:s.heap.get? l=some {cls:= .type "list",data:= .seq its.toArray n}) (hf:f its.toArray=its'.toArray) (hv:Vals ys its') (hz:ys.length<=sizeLine):
 Inv X pins σ (upd H l (.lst ys)) {s with heap:=s.heap.update l (Obj.mapSeq f),toks:=t'}:=by
 have q:=PySem.IsL.update e f
 rw[hf] at q
 refine I.write (x:=l) (e:=l) (by rw[hH];exact trivial) (.inl rfl) (λb' u hb hu=>(Heap.get?_update_other s.heap (Obj.mapSeq f) (Ne.symm hb)).trans hu) ⟨_,q⟩ ?_
 exact⟨hz,its',_,hv,q⟩
theorem Inv.lnew{its:List Value}{t':Nat}(I:Inv X pins σ H s)(hv:Vals ys its)(hz:ys.length<=sizeLine):
 Inv X pins σ (upd H s.heap.objs.size (.lst ys)) {s with heap:=s.heap.push {cls:= .type "list",data:= .seq its.toArray},toks:=t'}:=
 I.laid (λ_ _ q=>ζc _ q) (ζu _) ⟨hz,its,0,hv,ζj _ rfl⟩
theorem Inv.fresh(I:Inv X pins σ H s):H s.heap.objs.size=none:=I.hok.fresh (ζu _)
theorem Inv.lstM(I:Inv X pins σ H s)(hH:H l=some (.lst xs)):xs.length<=sizeLine/\∃(its:List Value) (n:Nat),Vals xs its/\xs.length=its.length/\s.heap.get? l=some {cls:= .type "list",data:= .seq its.toArray n}:=by
 obtain⟨z,its,n,r,e⟩:=I.hok l _ hH
 exact⟨z,its,n,r,r.length,e⟩
theorem zjf{n:Nat}(h:n<=sizeLine):Builtin.List.listTooLong n=false:=by
 unfold Builtin.List.listTooLong
 exact ζo (by omega)
end
section
variable{X:Cx}
def zoF:V->List V->Hp->VK->Prop:=λx vs H Q=>∃l xs y,x= .ref l/\vs=[y]/\H l=some (.lst xs)/\xs.length<sizeLine/\Q .non (upd H l (.lst (xs ++ [y])))
theorem zaM:MtM X "list.append" zoF:=by
 intro pins s σ H x vs v us Q I rx rv h
 obtain⟨l,xs,y,rfl,rfl,hH,hz,q⟩:=h
 cases rx
 obtain⟨u,rfl,ru⟩:=rv.one
 obtain⟨z,its,n,r,hl,e⟩:=I.lstM hH
 refine call_meets F.slot_list_append ⟨_,e,rfl⟩ F.entry_list_append (F.args_list_append_2 _ _) (PySem.list_append l its.toArray n u (by rw[ζv];omega)) ⟨e,?_⟩
 refine⟨.non,_,I.lset (its':=its ++ [u]) hH e (by simp) (r.append (.cons ru .nil)) ?_,rfl,q⟩
 rw[ζe,ξd]
 omega
def zn0:V->List V->Hp->VK->Prop:=λx vs H Q=>∃l b xs zs,x= .ref l/\vs=[.ref b]/\H l=some (.lst xs)/\H b=some (.lst zs)/\xs.length+zs.length<=sizeLine/\Q .non (upd H l (.lst (xs ++zs)))
theorem mt_extend:MtM X "list.extend" zn0:=by
 intro pins s σ H x vs v us Q I rx rv h
 obtain⟨l,b,xs,zs,rfl,rfl,hH,hB,hz,q⟩:=h
 cases rx
 obtain⟨u,rfl,ru⟩:=rv.one
 cases ru
 obtain⟨z,its,n,r,hl,e⟩:=I.lstM hH
 obtain⟨z2,its2,n2,r2,hl2,e2⟩:=I.lstM hB
 have hsz:its.toArray.size+its2.toArray.size<=sizeLine:=by rw[ζv,ζv];omega
 have hlong:¬(!its.toArray.isEmpty&&Builtin.List.listTooLong (its.toArray.size+its2.toArray.size))=true:=by
  rw[zjf hsz,Bool.and_false]
  exact ξg
 refine call_meets F.slot_list_extend ⟨_,e,rfl⟩ F.entry_list_extend (F.args_list_extend_2 _ _)
  (AutoSeq1.list_extend_list_list_0 l its.toArray n b its2.toArray n2 hlong (by rw[ζv];omega) (by omega)) ⟨e,e2,?_⟩
 refine⟨.non,_,I.lset (its':=its ++its2) hH e (by simp) (r.append r2) ?_,rfl,q⟩
 rw[ζe]
 omega
noncomputable def zq3:R2:=λx y H Q=>∃l b xs zs,x= .ref l/\y= .ref b/\H l=some (.lst xs)/\H b=some (.lst zs)/\xs.length+zs.length<=sizeLine/\∀p,H p=none->Q (.ref p) (upd H p (.lst (xs ++zs)))
theorem zcd:OpR X (binaryOp .Add) zq3:=by
 intro pins s σ H x y v u Q I rx ry h
 obtain⟨l,b,xs,zs,rfl,rfl,hH,hB,hz,q⟩:=h
 cases rx
 cases ry
 obtain⟨z,its,n,r,hl,e⟩:=I.lstM hH
 obtain⟨z2,its2,n2,r2,hl2,e2⟩:=I.lstM hB
 refine PySem.P.add_list e e2 ?_ (by rw[ζv,ζv];omega)
 have ea:its.toArray ++its2.toArray=(its ++its2).toArray:=by simp
 rw[ea]
 exact⟨.ref _,_,I.lnew (t':=s.toks) (r.append r2) (by rw[ζe];omega),rfl,q _ I.fresh⟩
noncomputable def zrt:R2:=λx y H Q=>∃l k xs,x= .ref l/\y= .int k/\H l=some (.lst xs)/\-(2^63)<=k/\k<2^63/\xs.length*k.toNat<=sizeLine/\
 ∀p,H p=none->Q (.ref p) (upd H p (.lst (List.replicate k.toNat xs).flatten))
theorem zoQ{α:Type}(xs:List α)(k:Nat):(List.replicate k xs).flatten.length=k*xs.length:=by
 induction k with
 |zero=>simp
 |succ k ih=>rw[List.replicate_succ,List.flatten_cons,ζe,ih,Nat.succ_mul,Nat.add_comm]
theorem zpB:OpR X (binaryOp .Mult) zrt:=by
 intro pins s σ H x y v u Q I rx ry h
 obtain⟨l,k,xs,rfl,rfl,hH,h1,h2,hz,q⟩:=h
 cases rx
 obtain⟨t,rfl⟩:=ry
 obtain⟨z,its,n,r,hl,e⟩:=I.lstM hH
 have hlen:its.toArray.size*k.toNat<=sizeLine:=by rw[ζv,←hl];exact hz
 have hcap:¬its.toArray.size*k.toNat>(2^63 -1)/8:=by
  have:(sizeLine:Nat)<=(2^63 -1)/8:=by decide
  omega
 have hfit:¬(!Builtin.List.listFitsIndex k)=true:=by
  rw[fitsIndex_both h1 h2]
  exact ξg
 have hlong:¬Builtin.List.listTooLong (its.toArray.size*k.toNat)=true:=by
  rw[zjf hlen]
  exact ξg
 have hnew:List.foldl (λx1 x2=>x1 ++x2) #[] (List.replicate (if its.toArray.isEmpty=true then 0 else k.toNat) its.toArray)=(List.replicate k.toNat its).flatten.toArray:=by
  have f0:∀m:Nat,List.foldl (λx1 x2=>x1 ++x2) #[] (List.replicate m its.toArray)=(List.replicate m its).flatten.toArray:=λm=>by
   have:=zgZ its m []
   rw[List.nil_append] at this
   exact this
  rw[f0]
  cases its with
  |nil=>simp
  |cons a r'=>rw[if_neg (by simp)]
 refine wpAny_binaryOp_repeat_ref (T:="list") (U:="int") (by decide) ⟨_,e,rfl⟩ (λs'=>typeIs_int s' k t) noFill_list_mul F.fills_int_mul F.slot_int_rmul repeat_list F.slot_int_index.lookup
  (call_meets F.slot_int_rmul (typeIs_int s k t) F.entry_int_rmul (F.args_int_rmul_2 _ _) (int___rmul___int_list k t l its.toArray n)
    ⟨e,rfl,⟨_,e,rfl⟩,call_meets F.slot_list_mul ⟨_,e,rfl⟩ F.entry_list_mul (F.args_list_mul_2 _ _) (AutoListH.list___mul___list_int_3 l its.toArray n k t hfit hcap hlong) ⟨e,?_⟩⟩)
 rw[hnew]
 exact⟨.ref _,_,I.lnew (t':=s.toks) (r.rep k.toNat) (by rw[zoQ,Nat.mul_comm];exact hz),rfl,q _ I.fresh⟩
end
section
variable{prog:Program}{w:World}{A:Around}{E:Value->Shared->Prop}{s:Shared}
set_option maxRecDepth 100000 in
end
section
variable{X:Cx}
end
end L2
namespace Att
open PySem PySem.W PySem.Calls PyProof.Rows
theorem zfP{P:Params}{h:Heap}:∀(ns:List Int) (vs:List Value),WellAll P h vs (ns.map WData.int)->IntsAre vs ns:=by
 intro ns
 induction ns with
 |nil=>
  intro vs w
  rw[List.map_nil] at w
  cases w
  exact .nil
 |cons n ns ih=>
  intro vs w
  rw[List.map_cons] at w
  cases w with
  |cons a b=>
   cases a
   exact .cons _ _ (ih _ b)
theorem zli{l:OpenLaw}{n:Nat}(hn:l.most=some n){P:Params}{h:Heap}{args:List WData}{vals:List Value}
 (hpre:l.row.toRowW.claim.pre args=true) (hwl:WellAll P h vals args):
 ∃a vs ns,vals=[Value.ref a]/\args=[WData.list (ns.map WData.int)]/\h.get? a=some {cls:= .type "list",data:= .seq vs.toArray}/\IntsAre vs ns/\ns.length<=n:=by
 have hsh:WShape.hasAll [] args [.list .int]=true:=(pre_splitW hpre).1
 have hc:l.pre.holds [] {args:=args}=true:=(pre_splitW hpre).2
 obtain⟨d,r,rfl,h1,h2⟩:=hasAllW_cons hsh
 obtain rfl:=hasAllW_nil h2
 obtain⟨xs,rfl,h3⟩:=hasW_list h1
 obtain⟨ns,rfl⟩:=items_int h3
 have hlen:ns.length<=n:=by
  unfold OpenLaw.pre at hc
  have h4:(WTm.not (.lt (.lit (.int (n:Int))) (.len (.arg 0)))).holds [] {args:=[.list (ns.map .int)]}=true:=by
   have h4:=(holds_andW hc).1
   rw[hn] at h4
   exact h4
  have h5:=condW_of h4 (w_not (w_lt w_lit (w_len_list (w_arg rfl))))
  rw[ζa] at h5
  refine Nat.le_of_not_lt λq=>?_
  have q':(n:Int)<((ns.length:Nat):Int):=by omega
  first
   |(rw[ζf q'] at h5;exact absurd h5 (by decide))
   |(simp at h5;omega)
 cases hwl with
 |cons w1 w2=>
  cases w2
  cases w1 with
  |list ho hall=>exact ⟨_,_,ns,rfl,rfl,ho,zfP ns _ hall,hlen⟩
theorem zlz(l:OpenLaw)(args:List WData):l.row.toRowW.claim.post args (.bool true) args=true:=
 postW_of (r:=l.row.toRowW) (X:=(true==true))
  (show WShape.has [] (.bool true) .bool=true by first|rfl|decide|simp[WShape.has,WShape.arms,WShape.armsAll])
  (show(WTm.eq .res (.lit (.bool true))).value [] {args:=args,res:=some (.bool true),after:=args}=some (.bool (true==true))from w_eq_bool (w_res rfl) w_lit) rfl
theorem attach_call{l:OpenLaw}{n:Nat}{q:Program}{loose:List Str}{XP:(Str->Option Value)->Heap->Prop}{YP:World->Heap->Prop}{d:DefRec}
 (hn:l.most=some n) (hdf:d.params.defaults=[])
 (call:∀(w:World) (s₀ s₁:Shared) (mg mb:Str->Option Value) (fa:Addr) (o:Obj) (pm cd doc:Value) (a:Addr) (vs:List Value) (ns:List Int),
   Ground q loose [] XP w s₀ mg mb s₁.heap->YP w s₁.heap->
   s₁.heap.get? fa=some o->o.data= .func (docDef d.name d.params d.body d.scope pm cd doc)->s₁.heap.CodeRec cd d.name->mg d.name=some (.ref fa)->
   s₁.heap.get? a=some {cls:= .type "list",data:= .seq vs.toArray}->IntsAre vs ns->ns.length<=n->s₁.gens= #[]->
   codeAny (model l.prog w) callerA (.call (.ref fa) ⟨[.ref a],[]⟩) (λr s'=>r= .ok (.ret (.bool true))/\OldK s₁.heap s'.heap/\s'.os=s₁.os/\AllBare s'.gens) s₁):
 WalkO q loose XP YP l.row.toRowW d [] (λf vs=>PySem.call f vs):=by
 intro w s₀ s₁ mg mb G Y fa o pm cd doc dV kV ho hd hcd hD hmg hg args vals as hpre hlay hrd hwl hlo
 obtain rfl:dV= .none:=Dflts.none hD hdf
 obtain rfl:kV= .none:=Dflts.noKw hD
 obtain⟨a,vs,ns,rfl,rfl,hobj,hints,hlen⟩:=zli hn hpre hwl
 refine enter_call (codeAny_mono (call w s₀ s₁ mg mb fa o pm cd doc a vs ns G Y ho (fd_plain hd) hcd hmg hobj hints hlen hg) λr s' hq=>?_)
 obtain⟨rfl,h2,h3,h4⟩:=hq
 exact⟨.inl ⟨.bool true, .bool true,[],rfl,λ_=>rfl, .bool true,zlz l _,λ_=>⟨List.Pairwise.nil,λ_ hm=>(nomatch hm)⟩⟩,h2,h3,h4⟩
section
variable{prog:Program}{w:World}{A:Around}{E:Value->Shared->Prop}{s:Shared}{K:Frag}
end
end Att
namespace L2
open PySem PySem.Spec PyProof.Rows
theorem zg4:∀{vs:List Value} {ns:List Int},IntsAre vs ns->Vals (ns.map V.int) vs
 |_,_, .nil=> .nil
 |_,_, .cons n t h=> .cons ⟨t,rfl⟩ (zg4 h)
def zp8(H:Hp):Prop:=∀b,H b=none\/∃o xs,H b=some (.frz o (.lst xs))
theorem zm4{P:Program}{w:World}{K:PySem.W.Frag}{mg mb:Str->Option Value}{CX:CXT}{k:Nat}{fa a:Addr}{fd:FuncData}{x:Str}{sp:Sp}{s₁:Shared}{vs:List Value}{ns:List Int}
 (KX:K.In s₁.heap) (hns:s₁.heap.Ns mainGlobals mg) (hb:s₁.heap.Ns builtinsNs mb) (hbb:∀x:Str,x≠"__name__"->mb x=bootBuiltins x) (hlim:s₁.heap.NoLimit) (hg:s₁.gens= #[])
 (ha:s₁.heap.get? a=some {cls:= .type "list",data:= .seq vs.toArray}) (hi:IntsAre vs ns) (hl:ns.length<=sizeLine) (hr:Room k callerA)
 (F:∀base:Heap,K.In base->base.Ns mainGlobals mg->FnOk P w K mg base CX k fa fd [x] sp) (hbind:∀(s:Shared) (u:Value),BindsTo s fd ⟨[u],[]⟩ [(x,u)])
 (hsp:∀H:Hp,zp8 H->SqL K H a (ns.map V.int)->sp [.ref a] H (λv _=>v= .bl true) λ_ _ _=>False)
 (hCX:∀H e s',CX [] H s₁ (λ_ _ _=>False) e s'->False):
 codeAny (model P w) callerA (.call (.ref fa) ⟨[.ref a],[]⟩) (λr s'=>r= .ok (.ret (.bool true))/\OldK s₁.heap s'.heap/\s'.os=s₁.os/\AllBare s'.gens) s₁:=by
 have rv:=zg4 hi
 have lenV:=hi.length
 have core:∀H:Hp,zp8 H->SqL K H a (ns.map V.int)->HOk P w H s₁.heap->(∀b,H b≠none->b=a)->(H a≠none->K.lookup a=none)->
  codeAny (model P w) callerA (.call (.ref fa) ⟨[.ref a],[]⟩) (λr s'=>r= .ok (.ret (.bool true))/\OldK s₁.heap s'.heap/\s'.os=s₁.os/\AllBare s'.gens) s₁:=by
  intro H hO hS hok hA hK
  have base_of:∀{b:Addr} {o:Obj},s₁.heap.get? b=some o->H b=none->(zh4 s₁.heap H).get? b=some o:=λe n=>znK e n
  have noA:∀{b:Addr} {o:Obj} {es:Array DictEntry} {ep:Nat},s₁.heap.get? b=some o->o.data= .dict es ep->H b=none:=λ{b o es ep} e d=>by
   cases q:H b with
   |none=>rfl
   |some u=>
    have e':b=a:=hA b (by rw[q];simp)
    subst e'
    rw[ha] at e;cases e
    have d':Data.seq vs.toArray _=Data.dict es ep:=d
    cases d'
  have nsK:∀{b:Addr} {m:Str->Option Value},s₁.heap.Ns b m->(zh4 s₁.heap H).Ns b m:=λ{b m} ⟨o,es,ep,e,d,r⟩=>⟨o,es,ep,base_of e (noA e d),d,r⟩
  have hKb:K.In (zh4 s₁.heap H):=λb o e=>base_of (KX b o e) (by
   cases q:H b with
   |none=>rfl
   |some u=>
    have e':b=a:=hA b (by rw[q];simp)
    subst e'
    rw[hK (by rw[q];simp)] at e;cases e)
  have hM:Mod K mg (zh4 s₁.heap H):=⟨hKb,nsK hns,⟨mb,nsK hb,hbb⟩,let⟨mc,h1,h2⟩:=hlim;⟨mc,nsK h1,h2⟩⟩
  have e0:Env0 P w K mg (zh4 s₁.heap H) callerA [] s₁ H:=⟨rfl,hM,λb o e=>zo3 e,Nat.le_of_eq (zlJ _ _),trivial,λb hb=>absurd (show b∈([]:List Addr)from hb) (by simp),hok, .of_eq hg⟩
  refine codeAny_mono ((F _ hKb (nsK hns)).run callerA [] s₁ H ⟨[.ref a],[]⟩ [.ref a] [.ref a] _ _ hr e0 (hbind s₁ (.ref a)) (.cons rfl .nil) (hsp H hO hS)) λr s' h=>?_
  cases r with
  |error e=>exact (hCX H e s' h).elim
  |ok fl=>
   cases fl with
   |next=>exact False.elim h
   |brk=>exact False.elim h
   |cont=>exact False.elim h
   |ret u=>
    obtain⟨v,H',os,bare,un,hok',r',q⟩:=h
    have q':v= .bl true:=q
    subst q'
    obtain rfl:u=Value.bool true:=r'
    refine⟨rfl,OldK.of_keep λb o e=>?_,os,bare⟩
    cases q:H b with
    |none=>exact un.keep b o e q (by intro z;exact absurd (show b∈([]:List Addr)from z) (by simp)) (by simp)
    |some u=>
     rcases hO b with z|⟨ob,xs,z⟩
     ·rw[q] at z;cases z
     ·have z2:=un.frzs b ob _ z
      obtain⟨e1,_⟩:=hok b _ z
      obtain⟨e2,_⟩:=hok' b _ z2
      rw[e] at e1;cases e1
      exact e2
 cases hk:K.lookup a with
 |some o=>
  have e:=KX a o hk
  rw[ha] at e
  cases e
  refine core (λ_=>none) (λ_=> .inl rfl) (.inr ⟨_,vs.toArray,_,hk,rfl,rfl,rfl,by rw[ζv,lenV];exact hl,by simpa using rv⟩) (λb u z=>by have z':(none:Option HO)=some u:=z;cases z') (λb z=>absurd rfl z) λz=>absurd rfl z
 |none=>
  refine core (λb=>if b=a then some (.frz {cls:= .type "list",data:= .seq vs.toArray} (.lst (ns.map V.int)))else none) (λb=>?_) (.inl (.inr ⟨{cls:= .type "list",data:= .seq vs.toArray},if_pos rfl⟩)) (λb u z=>?_) (λb z=>?_) λ_=>hk
  ·by_cases hb:b=a
   ·exact .inr ⟨_,_,if_pos hb⟩
   ·exact .inl (if_neg hb)
  ·by_cases hb:b=a
   ·have z':=(if_pos hb).symm.trans z
    cases z'
    subst hb
    exact⟨ha,by rw[ζa];exact hl,vs,_,rv,ha⟩
   ·have z':=(if_neg hb).symm.trans z
    cases z'
  ·by_cases hb:b=a
   ·exact hb
   ·exact absurd (if_neg hb) z
theorem walk_of{l:PySem.W.OpenLaw}{n k:Nat}{q:Program}{loose:List Str}{XP:(Str->Option Value)->Heap->Prop}{YP:World->Heap->Prop}{d:DefRec}{K:Params->PySem.W.Frag}{CX:World->CXT}{sp:World->Sp}{x:Str}
 (hn:l.most=some n) (hn2:n<=sizeLine) (hdf:d.params.defaults=[]) (hr:Room k callerA)
 (hY:∀(w:World) (h:Heap),YP w h->(K w.params).In h)
 (F:∀(w:World) (mg:Str->Option Value) (fa:Addr) (h:Heap),(K w.params).In h->h.Ns mainGlobals mg->mg d.name=some (.ref fa)->
   ∃fd:FuncData,(∀(s:Shared) (u:Value),BindsTo s fd ⟨[u],[]⟩ [(x,u)])/\
    ∀base:Heap,(K w.params).In base->base.Ns mainGlobals mg->FnOk l.prog w (K w.params) mg base (CX w) k fa fd [x] (sp w))
 (hsp:∀(w:World) (H:Hp) (a:Addr) (ns:List Int),ns.length<=n->zp8 H->SqL (K w.params) H a (ns.map V.int)->sp w [.ref a] H (λv _=>v= .bl true) λ_ _ _=>False)
 (hCX:∀(w:World) (H:Hp) (s:Shared) (e:Value) (s':Shared),CX w [] H s (λ_ _ _=>False) e s'->False):
 PySem.W.WalkO q loose XP YP l.row.toRowW d [] (λf vs=>PySem.call f vs):=by
 refine Att.attach_call hn hdf λw s₀ s₁ mg mb fa o pm cd doc a vs ns G Y ho hd hcd hmg hobj hints hlen hg=>?_
 have KX:=hY w _ Y
 obtain⟨fd,hb,hF⟩:=F w mg fa _ KX G.T.g hmg
 exact zm4 KX G.T.g G.T.b G.T.builtins G.T.nolimit hg hobj hints (ξb hlen hn2) hr hF hb (λH hO hS=>hsp w H a ns hlen hO hS) λH e s'=>hCX w H s₁ e s'
noncomputable def zw(s:Stmt):Arguments:=match s with
 | .FunctionDef _ a _ _ _ _ _ _ _ _=>a
 |_=>{posonlyargs:=[],args:=[],vararg:=none,kwonlyargs:=[],kw_defaults:=[],kwarg:=none,defaults:=[]}
noncomputable def zu(s:Stmt):List Stmt:=match s with
 | .FunctionDef _ _ b _ _ _ _ _ _ _=>b
 |_=> []
noncomputable def zg(s:Stmt):Scope:=match s with
 | .FunctionDef _ _ _ _ _ _ sc _ _ _=>sc
 |_=>{kind:= .function,names:=[],isGenerator:=false,isCoroutine:=false}
noncomputable abbrev CX0:CXT:=λ_ _ _ _ _ _=>False
noncomputable abbrev E0:XK:=λ_ _ _=>False
theorem zp{X:Cx}:zh0 CX0 X E0:=λ_ _ _ _ _ _ _ h=>h.elim
structure Fun(K:PySem.W.Frag)(x qual:Str)(st:Stmt)(f:Addr)(fd:FuncData):Prop where
 ex:∃(oc:Value) (od:Option Addr) (kV doc pm:Value) (an:Option Addr) (cdv ct:Value) (osl:Array (Option Value)),
  fd=PySem.W.fnOf x qual (zw st) (zu st) (zg st) .none kV doc pm an cdv ct/\K.lookup f=some ⟨oc,od, .func fd,osl⟩/\PySem.W.codeIn K cdv qual=true
 kp:PySem.W.keepIn K (.ref f)=true
section
variable{P:Program}{w:World}{K:PySem.W.Frag}{mg:Str->Option Value}{base:Heap}
theorem Fun.ok{x qual:Str}{st:Stmt}{f:Addr}{fd:FuncData}{N ps:List Str}{k:Nat}{sp:Sp}(F:Fun K x qual st f fd)(S:FnScope N ps (zg st))(len:∀vs H Q E,sp vs H Q E->vs.length=ps.length)
 (hbody:∀(cdv:Value) (A:Around) (outer:List Env) (s:Shared) (H:Hp) (vs:List V) (Q:VK) (E:XK),Room k (A.deeper (envOfC qual (zg st) s.heap.objs.size f cdv))->sp vs H Q E->
   ∃t,PSs (zi4 CX0 P w K mg base N qual (zg st) f cdv A outer s H E).nox (zu st) t/\t {nx:=λ_ H'=>Q .non H',rt:=Q} (zet N vs) H):FnOk P w K mg base CX0 (k+1) f fd ps sp:=by
 obtain⟨oc,od,kV,doc,pm,an,cdv,ct,osl,rfl,lk,hcd⟩:=F.ex
 refine zpm lk hcd S len λA outer s H vs Q E hr hsp=>?_
 obtain⟨t,h,q⟩:=hbody cdv A outer s H vs Q E hr hsp
 exact⟨t,h.nox,q⟩
theorem Fun.binds{x qual:Str}{st:Stmt}{f:Addr}{fd:FuncData}{ps:List Str}(F:Fun K x qual st f fd)
 (h:∀(kV doc pm:Value) (an:Option Addr) (cdv ct:Value) (us:List Value),us.length=ps.length->bindArgs (PySem.W.fnOf x qual (zw st) (zu st) (zg st) .none kV doc pm an cdv ct) ⟨us,[]⟩=pure (ps.zip us)):Binds K fd ps []:=by
 obtain⟨oc,od,kV,doc,pm,an,cdv,ct,osl,rfl,lk,hcd⟩:=F.ex
 exact .all (h kV doc pm an cdv ct)
theorem zK{x qual:Str}{st:Stmt}{f:Addr}{oc:Value}{od an:Option Addr}{osl:Array (Option Value)}{kV doc pm cdv ct:Value}(l:K.lookup f=some ⟨oc,od, .func (PySem.W.fnOf x qual (zw st) (zu st) (zg st) .none kV doc pm an cdv ct),osl⟩)
 (c:PySem.W.codeIn K cdv qual=true) (k:PySem.W.keepIn K (.ref f)=true):Fun K x qual st f (PySem.W.fnOf x qual (zw st) (zu st) (zg st) .none kV doc pm an cdv ct):=⟨⟨oc,od,kV,doc,pm,an,cdv,ct,osl,rfl,l,c⟩,k⟩
end
theorem zm{n:Nat}(h:n<=1000):n<sizeLine:=Nat.lt_of_le_of_lt h (by decide)
section
variable{X:Cx}
end
theorem zcc{c A B:Prop}[Decidable c](h1:c->A)(h2:¬c->B):if c then A else B:=by
 by_cases h:c
 ·rw[if_pos h]
  exact h1 h
 ·rw[if_neg h]
  exact h2 h
def Same(H H':Hp):Prop:=∀b o,H b=some o->H' b=some o
theorem Same.refl(H:Hp):Same H H:=λ_ _ h=>h
theorem Same.trans{H H1 H2:Hp}(a:Same H H1)(b:Same H1 H2):Same H H2:=λc o h=>b c o (a c o h)
theorem Same.seq{K:PySem.W.Frag}{H H':Hp}{a:Addr}{xs:List V}(e:Same H H')(h:SqL K H a xs):SqL K H' a xs:=by
 rcases h with(h|⟨o,h⟩)|h
 ·exact .inl (.inl (e _ _ h))
 ·exact .inl (.inr ⟨o,e _ _ h⟩)
 ·exact .inr h
end L2
set_option maxHeartbeats 4000000
namespace L2
open PySem PySem.Spec PyProof.Rows
noncomputable def zas(X:Cx)(N':List Str)(scope:Scope)(cl:List (Str×Addr))(C:Addr)(s₀:Shared)(H₀:Hp)(fp:List Addr):Cx:=
 {prog:=X.prog,w:=X.w,K:=X.K,mg:=X.mg,base:=X.base,A:=X.A,N:=N',s₀:=s₀,H₀:=H₀,env:=compEnvC scope cl C X.env,outer:=X.stack,stack:=X.stack,ex:=fp,fn:=λ_=>false,
  calm:=X.calm,pn:=[],xe:=λ_ _=>False}
structure CompOk(N:List Str)(osc:Scope)(N':List Str)(src:List (Option Nat))(scope:Scope):Prop where
 kind:scope.kind= .function
 nocell:∀y∈scope.names,y.2≠ .cell
 loc:∀y∈scope.names,y.2= .local->scope.names.lookup y.1=some .local
 frees:∀y∈scope.names,y.2= .free->osc.names.lookup y.1=some .cell\/osc.names.lookup y.1=some .free
 nd:N'.Nodup
 len:src.length=N'.length
 src:∀q∈src.zip N',∀j∈q.1.toList,N[j]?=some q.2/\scope.names.lookup q.2=some .free
theorem zeG{env:Env}:∀(l:List (Str×NameKind)) (acc:List (Str×Addr)),(∀x c,acc.lookup x=some c->env.cells.lookup x=some c)->(∀y∈l,y.2= .free->∃c,env.cells.lookup y.1=some c)->
 ∃cl,(forIn l acc λ(x:Str×NameKind) (r:List (Str×Addr))=>(if(x.2==NameKind.free)=true then(cellOf env x.1>>=λa=>pure (ForInStep.yield ((x.1,a)::r)))else pure (ForInStep.yield r):Sem (ForInStep (List (Str×Addr)))))=pure cl/\
  (∀x c,cl.lookup x=some c->env.cells.lookup x=some c)/\(∀y∈l,y.2= .free->∃c,cl.lookup y.1=some c)/\(∀x c,acc.lookup x=some c->∃d,cl.lookup x=some d)
 |[],acc,h,_=>⟨acc,rfl,h,λ_ z=>(nomatch z),λx c e=>⟨c,e⟩⟩
 |(n,k)::l,acc,h,hf=>by
  by_cases hk:k= .free
  ·subst hk
   obtain⟨c,hc⟩:=hf (n, .free) ζp rfl
   have hacc:∀x d,((n,c)::acc).lookup x=some d->env.cells.lookup x=some d:=λx d e=>by
    rw[List.lookup_cons] at e
    cases hx:x==n with
    |true=>
     rw[hx] at e
     have e1:x=n:=by simpa using hx
     have e2:c=d:=by simpa using e
     rw[e1,←e2];exact hc
    |false=>
     rw[hx] at e
     exact h x d e
   obtain⟨cl,e1,e2,e3,e4⟩:=zeG l ((n,c)::acc) hacc λy hy=>hf y (ξe _ hy)
   refine⟨cl,?_,e2,λy hy hyf=>?_,λx d e=>?_⟩
   ·rw[List.forIn_cons]
    have:cellOf env n=pure c:=by unfold cellOf;rw[hc]
    simp only[beq_self_eq_true,if_true,this,pure_bind]
    exact e1
   ·rcases List.mem_cons.mp hy with rfl|hy
    ·exact e4 n c (by simp)
    ·exact e3 y hy hyf
   ·by_cases hx:x=n
    ·subst hx;exact e4 x c (by simp)
    ·have hb:(x==n)=false:=by simpa using hx
     exact e4 x d (by rw[List.lookup_cons,hb];exact e)
  ·obtain ⟨cl,e1,e2,e3,e4⟩:=zeG l acc h λy hy=>hf y (ξe _ hy)
   refine⟨cl,?_,e2,λy hy hyf=>?_,e4⟩
   ·rw[List.forIn_cons]
    have hb:(k==NameKind.free)=false:=by simpa using hk
    simp only[hb,Bool.false_eq_true,if_false,pure_bind]
    exact e1
   ·rcases List.mem_cons.mp hy with rfl|hy
    ·exact absurd hyf hk
    ·exact e3 y hy hyf
theorem zgy{scope:Scope}{env:Env}(hf:∀y∈scope.names,y.2= .free->∃c,env.cells.lookup y.1=some c):
 ∃cl,closureFor scope env=pure cl/\(∀x c,cl.lookup x=some c->env.cells.lookup x=some c)/\∀y∈scope.names,y.2= .free->∃c,cl.lookup y.1=some c:=by
 obtain⟨cl,e1,e2,e3,_⟩:=zeG (env:=env) scope.names [] (λ_ _ z=>by simp at z) hf
 refine⟨cl,?_,e2,e3⟩
 unfold closureFor
 refine Eq.trans ?_ (congrArg (λt=>t>>=λc=>(pure c:Sem (List (Str×Addr)))) e1)
 first
  |rfl
  |(congr 1)
theorem zhV{scope:Scope}{env:Env}:∀{x:Str},(relabel scope env).names.lookup x=some .cell\/(relabel scope env).names.lookup x=some .free->(∀y∈scope.names,y.2≠ .cell)->(x,NameKind.free)∈scope.names:=by
 intro x h hc
 have key:∀(l:List (Str×NameKind)),(∀y∈l,y.2≠ .cell)->((l.map λ(n,k)=>if (k==NameKind.free&&env.scope.kind== .function&&env.kindOf n==some .cell)then(n,NameKind.cell)else(n,k)).lookup x=some .cell\/
  (l.map λ(n,k)=>if (k==NameKind.free&&env.scope.kind== .function&&env.kindOf n==some .cell)then(n,NameKind.cell)else(n,k)).lookup x=some .free)->(x,NameKind.free)∈l:=by
  intro l
  induction l with
  |nil=>intro _ h;simp at h
  |cons y l ih=>
   obtain⟨n,k⟩:=y
   intro hc h
   have hc':∀y∈l,y.2≠ .cell:=λy hy=>hc y (ξe _ hy)
   have hk:k≠ .cell:=hc (n,k) ζp
   rw[List.map_cons] at h
   by_cases hx:x=n
   ·subst hx
    by_cases hf:k= .free
    ·subst hf;exact ζp
    ·exfalso
     have hb:(k==NameKind.free)=false:=by simpa using hf
     simp only[hb,Bool.false_and,Bool.false_eq_true,if_false,List.lookup_cons,beq_self_eq_true] at h
     rcases h with h|h
     ·exact hk (ξj h)
     ·exact hf (ξj h)
   ·refine ξe _ (ih hc' ?_)
    have hb:(x==n)=false:=by simpa using hx
    by_cases hq:(k==NameKind.free&&env.scope.kind== .function&&env.kindOf n==some .cell)=true
    ·simp only[hq,if_true,List.lookup_cons,hb] at h
     exact h
    ·simp only[hq,Bool.false_eq_true,if_false,List.lookup_cons,hb] at h
     exact h
 exact key _ hc h
theorem zhF{scope:Scope}{env:Env}{x:Str}(h:scope.names.lookup x=some .free):(relabel scope env).names.lookup x=some .cell\/(relabel scope env).names.lookup x=some .free:=by
 have key:∀(l:List (Str×NameKind)),l.lookup x=some .free->((l.map λ(n,k)=>if (k==NameKind.free&&env.scope.kind== .function&&env.kindOf n==some .cell)then(n,NameKind.cell)else(n,k)).lookup x=some .cell\/
  (l.map λ(n,k)=>if (k==NameKind.free&&env.scope.kind== .function&&env.kindOf n==some .cell)then(n,NameKind.cell)else(n,k)).lookup x=some .free):=by
  intro l
  induction l with
  |nil=>intro h;simp at h
  |cons y l ih=>
   obtain⟨n,k⟩:=y
   intro h
   rw[List.map_cons]
   rw[List.lookup_cons] at h
   cases hx:x==n with
   |true=>
    rw[hx] at h
    have hk:k= .free:=ξj h
    subst hk
    by_cases hq:(NameKind.free==NameKind.free&&env.scope.kind== .function&&env.kindOf n==some .cell)=true
    ·simp only[hq,if_true,List.lookup_cons,hx];exact .inl trivial
    ·simp only[hq,Bool.false_eq_true,if_false,List.lookup_cons,hx];exact .inr trivial
   |false=>
    rw[hx] at h
    by_cases hq:(k==NameKind.free&&env.scope.kind== .function&&env.kindOf n==some .cell)=true
    ·simp only[hq,if_true,List.lookup_cons,hx];exact ih h
    ·simp only[hq,Bool.false_eq_true,if_false,List.lookup_cons,hx];exact ih h
 exact key _ h
noncomputable def zel(src:List (Option Nat))(σ:St):St:=src.map λo=>o.bind λj=>(σ[j]?).join
section
variable{X:Cx}{pins:List (Addr×Obj)}{σ:St}{H:Hp}{s:Shared}{N':List Str}{src:List (Option Nat)}{scope osc:Scope}{cl:List (Str×Addr)}{fp:List Addr}
theorem zgr{h₁:Heap}{tk:Nat}(I:Inv X pins σ H s)(hf:∀b∈fp,ze2 X pins H b)(hlt:∀b∈fp,b<s.heap.objs.size)(ok:CompOk X.N osc N' src scope)(hsc:X.env.scope=osc)
 (c1:∀x c,cl.lookup x=some c->X.env.cells.lookup x=some c) (c2:∀y∈scope.names,y.2= .free->∃c,cl.lookup y.1=some c)
 (hn:h₁.Ns s.heap.objs.size λ_=>none) (hk:∀b o,s.heap.get? b=some o->h₁.get? b=some o):
 Inv (zas X N' scope cl s.heap.objs.size s H fp) [] (zel src σ) H {s with heap:=h₁,toks:=tk}:=by
 have hkind:(relabel scope X.env).kind= .function:=ok.kind
 refine⟨⟨I.ok.mod,hkind,I.ok.glob,I.ok.blt,ζu _,λx y c h1 h2=>I.ok.inj x y c (c1 x c h1) (c1 y c h2),λx hx=>?_,λx c z _=>(by cases z),I.ok.hd,I.ok.frames, .inl rfl,λb hb=>?_,I.bs,ξb I.ok.bsz I.sz,λb o e hb=>?_,λb hb z=>?_,I.stack,I.stkFree⟩,
  rfl,I.bare,Un.kept hk,⟨_,hn,λi x v h1 h2 h3=>?_⟩,λx c e=>?_,I.hok.fresh (ζu _),λx c e=>I.freeC x c (c1 x c e),λp hp=>absurd (show p∈([]:List (Addr×Obj))from hp) (by simp),I.hok.kept hk,?_⟩
 ·exact c2 _ (zhV (env:=X.env) (scope:=scope) (x:=x) hx ok.nocell) rfl
 ·obtain ⟨f0,f1,f2,f3,f4,f5⟩:=hf b hb
  exact⟨λz=>absurd (hlt b hb) (by rw[z];exact Nat.lt_irrefl _),λx c e=>f4 x c (c1 x c e)⟩
 ·obtain ⟨f0,f1,f2,f3,f4,f5⟩:=hf b hb
  rcases f3 with z|z
  ·exact I.ok.noex b o e z
  ·exact absurd (ξh (ζn e) (ξb I.ok.bsz z)) (Nat.lt_irrefl _)
 ·obtain ⟨f0,f1,f2,f3,f4,f5⟩:=hf b hb
  rcases List.mem_cons.mp (I.stkSub b z)with q|q
  ·exact f1 q
  ·exact f2 q
 ·
  have hi:∃j,src[i]?=some (some j)/\σ[j]?=some (some v):=by
   unfold zel at h2
   rw[ζq] at h2
   cases e:src[i]? with
   |none=>rw[e] at h2;cases h2
   |some o=>
    rw[e] at h2
    cases o with
    |none=>cases h2
    |some j=>
     refine⟨j,rfl,?_⟩
     have h2':(σ[j]?).join=some v:=ξj h2
     cases e2:σ[j]? with
     |none=>rw[e2] at h2';cases h2'
     |some w=>rw[e2] at h2';exact congrArg some h2'
  obtain⟨j,e1,e2⟩:=hi
  have hz:(some j,x)∈src.zip N':=by
   refine List.mem_iff_getElem?.mpr ⟨i,?_⟩
   rw[List.getElem?_zip_eq_some]
   exact⟨e1,h1⟩
  obtain⟨q1,q2⟩:=ok.src _ hz j (by simp)
  have hfr:=PySem.mem_of_lookup q2
  have hk0:=ok.frees _ hfr rfl
  rw[←hsc] at hk0
  obtain⟨m,hns,hl⟩:=I.loc
  obtain⟨u,r,l⟩:=hl j x v q1 e2 (hk0.elim (λz=> .inr (.inl z)) λz=> .inr (.inr z))
  refine⟨u,r,?_⟩
  rcases l with⟨l1,_⟩|⟨_,c,l2,l3⟩
  ·exfalso
   have l1':X.env.scope.names.lookup x=some .local:=l1
   rcases hk0 with z|z
   ·rw[l1'] at z;cases z
   ·rw[l1'] at z;cases z
  ·obtain ⟨d,hd⟩:=c2 _ hfr rfl
   have:d=c:=by
    have:=(c1 _ _ hd).symm.trans l2
    exact ξj this
   subst this
   obtain⟨o,ho,hod⟩:=l3
   exact .inr ⟨zhF q2,d,hd,o,hk _ _ ho,hod⟩
 ·obtain ⟨v,o,ho,hod⟩:=I.cell x c (c1 x c e)
  exact⟨v,o,hk _ _ ho,hod⟩
 ·show (zel src σ).length=N'.length
  unfold zel
  rw[ζa]
  exact ok.len
theorem zge{C:Addr}{σ':St}{H':Hp}{s':Shared}{h':Heap}(I:Inv X pins σ H s)(hf:∀b∈fp,ze2 X pins H b)(hC:s.heap.objs.size<=C)(J:Inv (zas X N' scope cl C s H fp) [] σ' H' s')(hs:Heap.SameBut C s'.heap h'):
 Inv X pins σ H' {s' with heap:=h'}:=by
 have nC:∀b o,s.heap.get? b=some o->b≠C:=λb o e z=>absurd (ξh (ζn e) (by rw[z];exact hC)) (Nat.lt_irrefl _)
 have B:Un (frs X.stack) fp H H' s.heap s'.heap:=J.base
 refine I.call' (ch:=fp) J.os ⟨λb o e n hb hx=>(hs.2 b (nC b o e)).trans (B.keep b o e n hb hx),λb o e n hb hx=>?_,B.free,λb o e hx=>?_,B.tups,B.frzs,B.tbls⟩ (λb ob e=>?_) J.bare λb hb=>?_
 ·obtain ⟨sl,e1⟩:=B.slot b o e n hb hx
  exact⟨sl,(hs.2 b (nC b o e)).trans e1⟩
 ·obtain ⟨o',e1⟩:=B.there b o e hx
  exact⟨o',(hs.2 b (nC b o e)).trans e1⟩
 ·refine (J.hok b ob e).stay (λc w' hc q=>(hs.2 c ?_).trans q) (λ_ q=>q) λ_ _ q=>q
  have hfree:H' C=none:=J.free
  rintro rfl
  rcases hc with rfl|hc
  ·rw[hfree] at e;cases e
  ·rw[hfree] at hc;cases hc
 ·obtain ⟨f0,f1,f2,f3,f4,f5⟩:=hf b hb
  exact⟨f3,f1,f4,f5⟩
end
noncomputable def zkM(ifs:List Expr)(env:Env):Sem Bool:=forIn ifs true λc r=>if r=true then do let ok ←isTrue c env (eval c env);pure (ForInStep.yield ok)else pure (ForInStep.yield r)
def PIf(X:Cx)(ifs:List Expr)(t:TT):Prop:=
 ∀(pins:List (Addr×Obj)) (s:Shared) (σ:St) (H:Hp) (Q:Bool->Hp->Prop),Inv X pins σ H s->t σ H Q->wpAny (model X.prog X.w) X.A (zkM ifs X.env) (TP X pins σ Q) X.xe s
noncomputable def zlZ:TT:=λ_ H Q=>Q true H
theorem zox{X:Cx}:PIf X [] zlZ:=λpins s σ H Q I h=>wpAny_tests_nil ⟨H,I,h⟩
theorem zoH{X:Cx}{c:Expr}{t:TT}(h:PT X c t):PIf X [c] t:=λpins s σ H Q I hq=>wpAny_tests_one (h pins s σ H Q I hq)
theorem zeS{prog:Program}{w:World}{A:Around}{R:Result->Shared->Prop}{s:Shared}{elt target iter:Expr}{ifs:List Expr}{scope:Scope}{pos:Pos}{it acc:Value}{env:Env}(I:Nat->Shared->Prop)
 (turn:∀n s,I n s->wpAny (model prog w) A (pyNext it) (λr s1=>match r with
   |none=>R (.ok .next) s1
   |some v=>wpAny (model prog w) A (letOwnedTupleGo target it v) (λ_ s1'=>wpAny (model prog w) A (assign target env v) (λ_ s2=>wpAny (model prog w) A (zkM ifs env) (λok s3=>
     if ok=true then wpAny (model prog w) A (eval elt env) (λx s4=>wpAny (model prog w) A (call (.builtin "list.append") [acc,x]) (λ_ s5=>∃m,m<n/\I m s5) (λ_ _=>False) s4) (λ_ _=>False) s3
     else∃m,m<n/\I m s3) (λ_ _=>False) s2) (λ_ _=>False) s1') (λ_ _=>False) s1) (λ_ _=>False) s)
 (n:Nat) (h:I n s):codeAny (model prog w) A (.compLoop (.ListComp elt [⟨target,iter,ifs,0⟩] scope pos) 0 it acc env) R s:=by
 have no:∀{E:Value->Shared->Prop} (e:Value) (s:Shared),(λ(_:Value) (_:Shared)=>False) e s->E e s:=λ_ _ z=>False.elim z
 refine codeAny_loop rfl I (λn s hI=>?_) n h
 show wpAny _ A ((compTurn (.ListComp elt [⟨target,iter,ifs,0⟩] scope pos) 0 it acc env).onRaise (λx=>do noteFrame x env;theTreesLotGoes x)) _ _ s
 refine wpAny_noted ?_
 rw[compTurn_list]
 refine ζb (wpAny_standAt (ζb (wpAny_mono (turn n s hI) (λr s₁ h₁=>?_) no)))
 cases r with
 |none=>exact ζs h₁
 |some v=>
  refine ζb (wpAny_mono h₁ (λ_ s1' h1'=>?_) no)
  refine ζb (wpAny_mono h1' (λ_ s₂ h₂=>ζb (wpAny_mono h₂ (λok s₃ h₃=>?_) no)) no)
  cases ok with
  |false=>exact ζs ⟨rfl,h₃⟩
  |true=>
   exact ζb (ζb (wpAny_mono h₃ (λx s₄ h₄=>ζb (wpAny_mono h₄ (λ_ s₅ h₅=>ζs (ζs ⟨rfl,h₅⟩)) no)) no))
def zcN(g:TG)(tc:TT)(te:TE)(src:List (Option Nat))(σ:St)(Q:VK)(J:It)(H1:Hp):Prop:=∀l,H1 l=none->
 ∃W:Nat->Nat->List V->St->Hp->Prop,(∃m,W 0 m [] (zel src σ) (upd H1 l (.lst [])))/\∀i m ys σ' H',W i m ys σ' H'->H' l=some (.lst ys)->
  (J.stop i H'/\Q (.ref l) H')\/(J.go i H'/\∃N:List V->St->Hp->Prop,(∀zs σ2 H2,N zs σ2 H2->∃m',m'<m/\W (i+1) m' zs σ2 H2)/\∀x H2,J.yld i H' x H2->g x σ' H2 λσ2 H3=>tc σ2 H3 λb H4=>
    if b=true then te σ2 H4 λy H5=>H5 l=some (.lst ys)/\ys.length<sizeLine/\N (ys ++ [y]) σ2 (upd H5 l (.lst (ys ++ [y])))
    else H4 l=some (.lst ys)/\N ys σ2 H4)
noncomputable def zkj(wi:TI)(g:TG)(tc:TT)(te:TE)(src:List (Option Nat)):TE:=λσ H Q=>wi σ H (zcN g tc te src σ Q)
def zmv(g:TG)(tb:TS)(D:Ends)(σ:St)(J:It)(H1:Hp):Prop:=∃W:Nat->Nat->St->Hp->Prop,(∃m,W 0 m σ H1)/\∀i m σ H,W i m σ H->
 (J.stop i H/\D.nx σ H)\/(J.go i H/\∃N:St->Hp->Prop,(∀σ' H',N σ' H'->∃m',m'<m/\W (i+1) m' σ' H')/\∀x H',J.yld i H x H'->g x σ H' λσ2 H2=>tb {D with nx:=N,ct:=N,bk:=D.nx} σ2 H2)
noncomputable def zpu(wi:TI)(g:TG)(tb:TS):TS:=λD σ H=>wi σ H (zmv g tb D σ)
theorem zoK{X:Cx}{tg iter:Expr}{body:List Stmt}{wi:TI}{g:TG}{tb:TS}{pos:Pos}(hp:PassesOwn (model X.prog X.w) X.A X.env X.xe)(hc:X.calm=true)(hi:PI X tg iter wi)(hg:PG X tg g)(hb:PSs X body tb)
 (hs:∀x,foldedSetIterable iter X.env x=pure x:=by intro _;rfl):PS X (.For tg iter body [] pos) (zpu wi g tb):=zpL hp hc hi hg hb hs
section
variable{X:Cx}{elt tg iter:Expr}{ifs:List Expr}{scope osc:Scope}{pos:Pos}{N':List Str}{src:List (Option Nat)}{wi:TI}{g:TG}{tc:TT}{te:TE}
theorem zn1(ok:CompOk X.N osc N' src scope)(hsc:X.env.scope=osc)(hc:X.calm=true)(hi:PI X tg iter wi)
 (hg:∀cl C s₀ H₀ fp,PG (zas X N' scope cl C s₀ H₀ fp) tg g) (ht:∀cl C s₀ H₀ fp,PIf (zas X N' scope cl C s₀ H₀ fp) ifs tc) (he:∀cl C s₀ H₀ fp,PE (zas X N' scope cl C s₀ H₀ fp) elt te)
 (hs:∀x,foldedSetIterable iter X.env x=pure x:=by intro _;rfl):PE X (.ListComp elt [⟨tg,iter,ifs,0⟩] scope pos) (zkj wi g tc te src):=by
 intro pins s σ H Q I h
 obtain⟨cl,hcl,c1,c2⟩:=zgy (scope:=scope) (env:=X.env) λy hy hyf=>I.ok.has y.1 (by
  have z:=ok.frees y hy hyf
  rw[←hsc] at z
  exact z)
 rw[eval_ListComp]
 refine wpAny_comprehension_free (use:=none) rfl hs hcl ok.kind ok.loc (thn (hi pins s σ H _ I h) λv s1 h1=>thn h1 λitv s2 h2=>?_)
 obtain⟨it,fp,tn,J,H2,e,I2,T,st2,f2,q2⟩:=h2
 subst e
 have hlt2:∀b∈fp,b<s2.heap.objs.size:=λb hb=>by
  obtain⟨o,e,_⟩:=T.obj _ _ st2 b hb
  exact ζn e
 refine wpAny_newObj_type ?_
 have hl:H2 s2.heap.objs.size=none:=I2.hok.fresh (ζu _)
 have I3:Inv X pins σ (upd H2 s2.heap.objs.size (.lst [])) {s2 with heap:=s2.heap.push {cls:= .type "list",dict:=none,data:= .seq ([]:List Value).toArray}}:=
  I2.laid (t':=s2.toks) (λb u e=>ζc _ e) (ζu _) ⟨ξk _,[],0, .nil,ζj _ rfl⟩
 obtain⟨W,⟨m0,w0⟩,turn⟩:=q2 _ hl
 generalize hl2:s2.heap.objs.size=l at *
 generalize hs3:({s2 with heap:=s2.heap.push {cls:= .type "list",dict:=none,data:= .seq ([]:List Value).toArray}}:Shared)=s3 at *
 have f3:∀b∈fp,ze2 X pins (upd H2 l (.lst [])) b:=λb hb=>⟨by rw[zr (ξl (hlt2 b hb))];exact(f2 b hb).1,(f2 b hb).2⟩
 have k3:∀b o,s2.heap.get? b=some o->s3.heap.get? b=some o:=λb o e=>by rw[←hs3];exact ζc _ e
 have hlt3:∀b∈fp,b<s3.heap.objs.size:=λb hb=>by
  obtain⟨o,e,_⟩:=T.obj _ _ st2 b hb
  exact ζn (k3 b o e)
 refine wpAny_newFunctionEnv ok.nocell (by intro y hy;simp at hy) (λh₁ hns₁ hsb₁=>?_) ok.kind
 have k4:∀b o,s3.heap.get? b=some o->h₁.get? b=some o:=λb o e=>(hsb₁.2 b (ξl (ζn e))).trans (ζc _ e)
 have J0:=zgr (tk:=s3.toks+([]:List (Str×Value)).length) I3 f3 hlt3 ok hsc c1 c2 hns₁ k4
 have st4:tn 0 h₁:=T.keep _ _ _ st2 λb hb o e=>k4 b o (k3 b o e)
 generalize hC:s3.heap.objs.size=C at *
 have stat:∀{H':Hp},(∀b∈fp,H' b=none)->∀b∈fp,ze2 (zas X N' scope cl C s3 (upd H2 l (.lst [])) fp) [] H' b:=λ{H'} hn b hb=>
  ⟨hn b hb,(J0.ok.exf b hb).1,J0.ok.exfs b hb, .inl hb,(J0.ok.exf b hb).2,λp hp=>absurd (show p∈([]:List (Addr×Obj))from hp) (by simp)⟩
 have loop:codeAny (model X.prog X.w) X.A (.compLoop (.ListComp elt [⟨tg,iter,ifs,0⟩] scope pos) 0 (.ref it) (.ref l) (compEnvC scope cl C X.env))
  (compPost (model X.prog X.w) X.A X.xe none (EP X pins σ Q) (.ref l) C) {s3 with heap:=h₁,toks:=s3.toks+([]:List (Str×Value)).length}:=by
  refine zeS (λn s'=>∃i ys σ' H',Inv (zas X N' scope cl C s3 (upd H2 l (.lst [])) fp) [] σ' H' s'/\tn i s'.heap/\(∀b∈fp,H' b=none)/\H' l=some (.lst ys)/\W i n ys σ' H') ?_ m0
   ⟨0,[],_,_,J0,st4,λb hb=>(f3 b hb).1,zd,w0⟩
  rintro n s5 ⟨i,ys,σ5,H5,I5,st5,fr5,hl5,w5⟩
  rcases turn i n ys σ5 H5 w5 hl5 with⟨stop,qn⟩|⟨go,N,hN,step⟩
  ·refine thn (T.done (zas X N' scope cl C s3 (upd H2 l (.lst [])) fp) rfl rfl rfl hc i [] s5 σ5 H5 (λ_ _=>False) I5 (stat fr5) st5 stop) λr s6 ⟨hr,I6⟩=>?_
   subst hr
   obtain⟨m,hn,_⟩:=I6.loc
   exact⟨m,hn,λh' hsb=>⟨.ref l,H5,zge I3 f3 (by rw[←hC];exact ζu _) I6 hsb,rfl,qn⟩⟩
  ·refine thn (T.item (zas X N' scope cl C s3 (upd H2 l (.lst [])) fp) rfl rfl rfl hc i [] s5 σ5 H5 (λ_ _=>False) I5 (stat fr5) st5 go) λr s6 ⟨u,hr,h6⟩=>?_
   subst hr
   refine thn h6 λ_ s7 ⟨x,H7,I7,r7,y7,st7,fr7⟩=>?_
   have I7':=I7.pinned (stat fr7) (T.obj _ _ st7)
   refine thn (hg cl C s3 _ fp _ s7 σ5 H7 x u _ I7' r7 (step x H7 y7)) λ_ s8 ⟨σ8,H8,I8,q8⟩=>?_
   refine thn (ht cl C s3 _ fp _ s8 σ8 H8 _ I8 q8) λb s9 ⟨H9,I9,q9⟩=>?_
   have back:∀{s':Shared} {H':Hp},Inv (zas X N' scope cl C s3 (upd H2 l (.lst [])) fp) ([]++zfo fp s7.heap) σ8 H' s'->tn (i+1) s'.heap/\∀b∈fp,H' b=none:=λ{s' H'} I'=>by
    refine⟨T.keep _ _ _ st7 λb hb o e=>(I'.pin (b,o) (List.mem_append_right _ (List.mem_append_right _ (zbP hb e)))).1,λb hb=>?_⟩
    obtain⟨o,e,d⟩:=T.obj _ _ st7 b hb
    exact(I'.pin (b,o) (List.mem_append_right _ (List.mem_append_right _ (zbP hb e)))).2.1
   cases b with
   |false=>
    obtain⟨hl9,n9⟩:=q9
    obtain⟨m',hm,w9⟩:=hN _ _ _ n9
    obtain⟨t9,fr9⟩:=back I9
    exact⟨m',hm,i+1,ys,σ8,H9,I9.unpinned,t9,fr9,hl9,w9⟩
   |true=>
    refine thn (he cl C s3 _ fp _ s9 σ8 H9 _ I9 q9) λxv s10 ⟨y,H10,I10,r10,hl10,hz,n10⟩=>?_
    obtain⟨m',hm,w10⟩:=hN _ _ _ n10
    refine thn (zaM (X:=zas X N' scope cl C s3 (upd H2 l (.lst [])) fp) _ s10 σ8 H10 (.ref l) [y] (.ref l) [xv] (λv H'=>H'=upd H10 l (.lst (ys ++ [y]))) I10 rfl (.cons r10 .nil) ⟨l,ys,y,rfl,rfl,hl10,hz,rfl⟩) λ_ s11 ⟨_,H11,I11,_,e11⟩=>?_
    subst e11
    obtain⟨t11,fr11⟩:=back I11
    exact⟨m',hm,i+1,ys ++ [y],σ8,_,I11.unpinned,t11,fr11,zd,w10⟩
 exact codeAny_compStart_list loop (T.self _ 0 _ _ _ st4 loop)
end
section
variable{κ:Type}[DecidableEq κ]
noncomputable def zeN(kvs:List (κ×V))(k:κ):Option V:=(kvs.find? λkv=>decide (kv.1=k)).map (·.2)
noncomputable def zeI(kvs:List (κ×V))(k:κ)(v:V):List (κ×V):=
 if(kvs.any λkv=>decide (kv.1=k))=true then kvs.map (λkv=>if kv.1=k then(kv.1,v)else kv)else kvs ++ [(k,v)]
theorem zjl{p:κ×V}{r:List (κ×V)}{k:κ}(e:p.1=k):zeN (p::r) k=some p.2:=by simp[zeN,List.find?_cons,e]
theorem zii{p:κ×V}{r:List (κ×V)}{k:κ}(e:¬p.1=k):zeN (p::r) k=zeN r k:=by simp[zeN,List.find?_cons,e]
theorem ziX(k:κ):∀kvs:List (κ×V),(kvs.any λkv=>decide (kv.1=k))=(zeN kvs k).isSome
 |[]=>rfl
 |p::r=>by
  rw[List.any_cons]
  by_cases e:p.1=k
  ·simp only[zjl e,ζf e,Bool.true_or,Option.isSome_some]
  ·rw[zii e,ζo e,Bool.false_or];exact ziX k r
theorem zfz(kvs:List (κ×V))(k:κ)(v:V):(zeI kvs k v).length<=kvs.length+1:=by
 unfold zeI
 split
 ·rw[ζa];omega
 ·rw[ζe,ζw,List.length_nil];omega
theorem RelO.isSome_eq{o:Option V}{u:Option Value}(r:RelO o u):o.isSome=u.isSome:=by
 cases o with
 |none=>cases u with
  |none=>rfl
  |some _=>exact (show False from r).elim
 |some _=>cases u with
  |none=>exact (show False from r).elim
  |some _=>rfl
theorem KV.any{kvs:List (κ×V)}{vs:List (κ×Value)}(r:KV kvs vs)(k:κ):(kvs.any λkv=>decide (kv.1=k))=vs.any λkv=>decide (kv.1=k):=by
 unfold KV at r
 induction r with
 |nil=>rfl
 |cons h t ih=>rw[List.any_cons,List.any_cons,ih,h.1]
theorem KV.repl{kvs:List (κ×V)}{vs:List (κ×Value)}(r:KV kvs vs)(k:κ){y:V}{u:Value}(ry:RelV y u):
 KV (kvs.map λkv=>if kv.1=k then(kv.1,y)else kv) (vs.map λkv=>if kv.1=k then(kv.1,u)else kv):=by
 unfold KV at r⊢
 induction r with
 |nil=>exact .nil
 | @cons p q ps qs h t ih=>
   rw[List.map_cons,List.map_cons]
   refine .cons ?_ ih
   obtain⟨h1,h2⟩:=h
   by_cases e:p.1=k
   ·rw[if_pos e,if_pos (h1.symm.trans e)];exact⟨h1,ry⟩
   ·rw[if_neg e,if_neg (λz=>e (h1.trans z))];exact⟨h1,h2⟩
theorem KV.put{kvs:List (κ×V)}{vs:List (κ×Value)}(r:KV kvs vs)(k:κ){y:V}{u:Value}(ry:RelV y u):KV (zeI kvs k y) (stored vs k u):=by
 unfold zeI stored
 rw[r.any k]
 by_cases e:(vs.any λkv=>decide (kv.1=k))=true
 ·rw[if_pos e,if_pos e];exact r.repl k ry
 ·rw[if_neg e,if_neg e];exact Paired.snoc r ⟨rfl,ry⟩
theorem KV.length{kvs:List (κ×V)}{vs:List (κ×Value)}(r:KV kvs vs):kvs.length=vs.length:=Paired.length r
end
theorem zpk{P:Program}{w:World}{k:Key}{u:Value}(r:RelV (kV k) u):(zaA P w).is k u=true:=by
 cases k with
 |inl i=>obtain ⟨t,e⟩:=(show∃t,u=Value.int i t from r);subst e;exact zin P w i t
 |inr x=>obtain ⟨t,e⟩:=(show∃t,u=Value.str x t from r);subst e;exact zd7 P w x t
theorem zg5{P:Program}{w:World}:∀{ks:List Key} {us:List Value},Vals (ks.map kV) us->ItemsAre (zaA P w) ks us
 |[],_,r=>by rw[List.map_nil] at r;cases r;exact .nil
 |k::ks,_,r=>by
  rw[List.map_cons] at r
  cases r with
  |cons h t=>exact .cons (zpk h) (zg5 t)
abbrev KT(H:Hp):List (List Key×V)->List (List Key×Addr×Value)->Prop:=Paired λp q=>p.1=q.1/\H q.2.1=some (.tup (p.1.map kV))/\RelV p.2 q.2.2
theorem KT.val{H:Hp}{kvs:List (List Key×V)}{xs:List (List Key×Addr×Value)}(r:KT H kvs xs)(k:List Key):RelO (zeN kvs k) ((atKey xs k).map (·.2)):=by
 induction r with
 |nil=>exact True.intro
 | @cons p q ps qs h t ih=>
   obtain⟨h1,_,h2⟩:=h
   by_cases e:p.1=k
   ·have e':q.1=k:=h1.symm.trans e
    have b:atKey (q::qs) k=some q.2:=by simp[atKey,List.find?_cons,e']
    rw[zjl e,b];exact h2
   ·have e':¬q.1=k:=λz=>e (h1.trans z)
    have b:atKey (q::qs) k=atKey qs k:=by simp[atKey,List.find?_cons,e']
    rw[zii e,b];exact ih
theorem KT.repl{H:Hp}{kvs:List (List Key×V)}{xs:List (List Key×Addr×Value)}(r:KT H kvs xs)(k:List Key){y:V}{u:Value}(ry:RelV y u):
 KT H (kvs.map λkv=>if kv.1=k then(kv.1,y)else kv) (xs.map (putAt k u)):=by
 induction r with
 |nil=>exact .nil
 | @cons p q ps qs h t ih=>
   rw[List.map_cons,List.map_cons]
   refine .cons ?_ ih
   obtain⟨h1,h2,h3⟩:=h
   unfold putAt
   by_cases e:p.1=k
   ·rw[if_pos e,if_pos (h1.symm.trans e)];exact⟨h1,h2,ry⟩
   ·rw[if_neg e,if_neg (λz=>e (h1.trans z))];exact⟨h1,h2,h3⟩
theorem KT.put{H:Hp}{kvs:List (List Key×V)}{xs:List (List Key×Addr×Value)}(r:KT H kvs xs)(k:List Key){b:Addr}{y:V}{u:Value}(hb:H b=some (.tup (k.map kV)))(ry:RelV y u):
 KT H (zeI kvs k y) (storedH xs k b u):=by
 have e:(kvs.any λkv=>decide (kv.1=k))=(atKey xs k).isSome:=by
  rw[ziX,(r.val k).isSome_eq,Option.isSome_map]
 unfold zeI storedH
 rw[e]
 by_cases q:(atKey xs k).isSome=true
 ·rw[if_pos q,if_pos q];exact r.repl k ry
 ·rw[if_neg q,if_neg q];exact Paired.snoc r ⟨rfl,hb,ry⟩
theorem KT.keeps{H H':Hp}{kvs:List (List Key×V)}{xs:List (List Key×Addr×Value)}(r:KT H kvs xs)(ht:∀b ys,H b=some (.tup ys)->H' b=some (.tup ys)):KT H' kvs xs:=
 Paired.mapP r λ_ _ z=>⟨z.1,ht _ _ z.2.1,z.2.2⟩
section
variable{P:Program}{w:World}{H:Hp}{h:Heap}{a:Addr}
theorem zpd{u:HO}(ok:HOk P w H h)(e:Rd H a u):ObjOk P w H h a u:=e.ok ok
theorem zqD{kvs:List (Key×V)}(ok:HOk P w H h)(e:Rd H a (.dK kvs)):kvs.length<=sizeLine/\(a==sysModules)=false/\∃vs,KV kvs vs/\h.DictOf (zaA P w) a vs:=
 show ObjOk P w H h a (.dK kvs)from zpd ok e
theorem zqL{kvs:List (Key×V)}(ok:HOk P w H h)(e:H a=some (.dK kvs)):kvs.length<=sizeLine/\(a==sysModules)=false/\∃vs,KV kvs vs/\h.DictOf (zaA P w) a vs:=zqD ok (.inl e)
theorem zmr{ks:List Key}(ok:HOk P w H h)(e:H a=some (.tup (ks.map kV))):(tupleKind (zaA P w)).is h ks a:=by
 obtain⟨_,its,r,⟨o,h1,h2,n,h3⟩,_⟩:=(show ObjOk P w H h a (.tup (ks.map kV))from ok a _ e)
 exact⟨o,its.toArray,n,h1,h2,h3,by simpa using zg5 r⟩
theorem zrf{kvs:List (List Key×V)}(ok:HOk P w H h)(e:Rd H a (.dT kvs)):kvs.length<=sizeLine/\(a==sysModules)=false/\
 ∃xs,KT H kvs xs/\h.DictOfH (tupleKind (zaA P w)) a xs:=by
 obtain⟨z,y,xs,r,o,es,ep,h1,h2,h3,h4,h5⟩:=(show ObjOk P w H h a (.dT kvs)from zpd ok e)
 refine⟨z,y,xs,r,o,es,ep,h1,h2,h3,h4,λx hx=>?_,h5⟩
 have all:∀{l:List (List Key×V)} {m:List (List Key×Addr×Value)},KT H l m->∀x∈m,(tupleKind (zaA P w)).is h x.1 x.2.1:=by
  intro l m q
  induction q with
  |nil=>intro x hx;exact nomatch hx
  | @cons p q ps qs hq t ih=>
    intro x hx
    rcases List.mem_cons.mp hx with e|hx
    ·subst e
     exact zmr ok (by rw[←hq.1];exact hq.2.1)
    ·exact ih x hx
 exact all r x hx
theorem zq4{kvs:List (List Key×V)}(ok:HOk P w H h)(e:H a=some (.dT kvs)):kvs.length<=sizeLine/\(a==sysModules)=false/\
 ∃xs,KT H kvs xs/\h.DictOfH (tupleKind (zaA P w)) a xs:=zrf ok (.inl e)
end
def DPut(H:Hp)(a:Addr)(y v:V)(H':Hp):Prop:=
 (∃kvs k,H a=some (.dK kvs)/\y=kV k/\kvs.length<sizeLine/\H'=upd H a (.dK (zeI kvs k v)))\/
 ∃kvs k b,H a=some (.dT kvs)/\y= .ref b/\H b=some (.tup (k.map kV))/\kvs.length<sizeLine/\H'=upd H a (.dT (zeI kvs k v))
theorem DPut.t{H:Hp}{a b:Addr}{kvs:List (List Key×V)}{k:List Key}{v:V}(e:H a=some (.dT kvs))(eb:H b=some (.tup (k.map kV)))(hl:kvs.length<sizeLine):
 DPut H a (.ref b) v (upd H a (.dT (zeI kvs k v))):= .inr ⟨kvs,k,b,e,rfl,eb,hl,rfl⟩
section
variable{X:Cx}{pins:List (Addr×Obj)}{σ:St}{H:Hp}{s:Shared}{a:Addr}{y v:V}{u r:Value}{o:Option V}{A:Around}{E:Value->Shared->Prop}
theorem Inv.big(I:Inv X pins σ H s):sysModules<s.heap.objs.size:=by
 have h:mainGlobals<s.heap.objs.size:=(I.mod.glob.keeps I.bk).lt
 exact Nat.lt_trans (by decide) h
theorem zku{h':Heap}{t':Nat}{ob:HO}(I:Inv X pins σ H s)(mu:Mut (H a))(hs:Heap.SameBut a s.heap h')(he:∃q,h'.get? a=some q)(new:ObjOk X.prog X.w (upd H a ob) h' a ob):
 Inv X pins σ (upd H a ob) {s with heap:=h',toks:=t'}:=
 I.write (x:=a) (e:=a) mu (.inl rfl) (λb q hb z=>(hs.2 b hb).trans z) he new
theorem zpW{P:Program}{w:World}{H':Hp}{h':Heap}{kvs:List (Key×V)}{vs:List (Key×Value)}(z:kvs.length<=sizeLine)(hd:(a==sysModules)=false)(rel:KV kvs vs)(dd:h'.DictOf (zaA P w) a vs):
 ObjOk P w H' h' a (.dK kvs):=⟨z,hd,vs,rel,dd⟩
theorem zlc{H':Hp}{Q:Unit->Shared->Prop}(hu:A.units+1<cLine)(I:Inv X pins σ H s)(g:DPut H a y v H')(ry:RelV y u)(rv:RelV v r)(h:∀s',Inv X pins σ H' s'->Q () s'):
 wpAny (model X.prog X.w) A (setItem (.ref a) u r) Q E s:=by
 rcases g with⟨kvs,k,e,ey,l,eH⟩|⟨kvs,k,b,e,ey,eb,l,eH⟩
 ·subst ey eH
  obtain⟨z,hd,vs,rel,dd⟩:=zqL I.hok e
  have hz:vs.length<=sizeLine:=by rw[←rel.length];exact z
  have hl:(zeI kvs k v).length<=sizeLine:=by have:=zfz kvs k v;omega
  refine wpAny_setItem_pairs (hsz:=hz) (zpk ry) dd λh' dd' hs=>h _ ?_
  have he:∃q,h'.get? a=some q:=let⟨q,_,_,hq,_⟩:=dd';⟨q,hq⟩
  exact zku I (by rw[e];exact True.intro) hs he (zpW hl hd (rel.put k rv) dd')
 ·subst ey eH
  cases(show u=Value.ref b from ry)
  obtain⟨z,hd,xs,rel,dd⟩:=zq4 I.hok e
  have hz:xs.length<=sizeLine:=by rw[←Paired.length rel];exact z
  have hl:(zeI kvs k v).length<=sizeLine:=by have:=zfz kvs k v;omega
  refine wpAny_setItem_heap (hsz:=hz) (tupleKind_room_in1 hu) (zmr I.hok eb) dd λh' dd' hs=>h _ ?_
  obtain⟨q,es,ep,hq,h2,h3,h4,_,h5⟩:=dd'
  refine zku I (by rw[e];exact True.intro) hs ⟨q,hq⟩ ⟨hl,hd,_,(rel.put k eb rv).keeps λc ys ec=>?_,q,es,ep,hq,h2,h3,h4,h5⟩
  rw[zr (zra ec e (λz=>nomatch z))]
  exact ec
end
section
variable{X:Cx}{pins:List (Addr×Obj)}{σ:St}{H:Hp}{s:Shared}{a:Addr}{kvs:List (Key×V)}{k:Key}{u:Value}{A:Around}{E:Value->Shared->Prop}
end
noncomputable def zpe(td ty tv:TE):TS:=λD σ H=>tv σ H λv H1=>td σ H1 λx H2=>ty σ H2 λy H3=>∃a H4,x= .ref a/\DPut H3 a y v H4/\D.nx σ H4
section
variable{X:Cx}{o i e value:Expr}{pos pos' tpos:Pos}{td ty tv:TE}
theorem zoA(hu:X.A.units+1<cLine)(ho:PE X o td)(hi:PE X i ty)(hv:PE X value tv)(hs:swapsWith value (some (.Subscript o i pos')) pos.line X.env=pure false):
 PS X (.Assign [.Subscript o i pos'] value pos) (zpe td ty tv):=by
 intro pins s σ H D I h
 refine wpAny_Assign_Subscript (thn (hv pins s σ H _ I h) λr s1 ⟨v,H1,I1,rv,q1⟩=>thn (ho pins s1 σ H1 _ I1 q1) λu s2 ⟨x,H2,I2,rx,q2⟩=>thn (hi pins s2 σ H2 _ I2 q2) λiv s3 ⟨y,H3,I3,ry,a,H4,ex,g,q3⟩=>?_) hs
 subst ex
 obtain rfl:u=Value.ref a:=rx
 exact zlc hu I3 g ry rv λs4 I4=>⟨σ,H4,I4,q3⟩
end
theorem zmh{P:Program}{w:World}{H:Hp}(h:Heap)(hb:sysModules<h.objs.size):ObjOk P w H (h.push {cls:= .type "dict",data:= .dict #[]}) h.objs.size (.dT []):=
 ⟨ξk _,beq_eq_false_iff_ne.mpr (Ne.symm (ξl hb)),[], .nil,_, #[],0,ζj _ rfl,⟨rfl,rfl,rfl⟩,rfl,rfl,List.nodup_nil⟩
noncomputable def zni:TE:=λ_ H Q=>∀p,H p=none->Q (.ref p) (upd H p (.dT []))
section
variable{X:Cx}{pos:Pos}
theorem znA:PE X (.Dict [] [] pos) zni:=λpins s σ H Q I h=>
 wpAny_Dict_empty ⟨.ref s.heap.objs.size,_,I.laid (a:=s.heap.objs.size) (o:= .dT []) (t':=s.toks) (λ_ _ q=>ζc _ q) (ζu _) (zmh s.heap I.big),rfl,h _ (I.hok.fresh (ζu _))⟩
end
def znm:List (TE×TE)->St->Hp->(List (V×V)->Hp->Prop)->Prop
 |[],_,H,Q=>Q [] H
 |(tk,tv)::r,σ,H,Q=>tk σ H λx H1=>tv σ H1 λy H2=>znm r σ H2 λps H3=>Q ((x,y)::ps) H3
abbrev VV:List (V×V)->List (Value×Value)->Prop:=Paired λp q=>RelV p.1 q.1/\RelV p.2 q.2
def PPs(X:Cx)(pos:Pos)(keys:List (Option Expr))(values:List Expr)(trs:List (TE×TE)):Prop:=
 ∀(pins:List (Addr×Obj)) (s:Shared) (σ:St) (H:Hp) (Q:List (V×V)->Hp->Prop),Inv X pins σ H s->znm trs σ H Q->
  wpAny (model X.prog X.w) X.A (evalPairs (pairTrees keys values X.env pos)) (λvs s'=>∃ps H',Inv X pins σ H' s'/\VV ps vs/\Q ps H') X.xe s
structure M1(X:Cx)(o:Expr)(m:Str)(apos:Pos)(e:Expr)(cpos:Pos):Prop where
 base:attributeBase o m X.env (eval o X.env)=eval o X.env
 few:((backTo cpos (starEach [e] X.env)).all (λx=>!x.1)&&(backToKw cpos (keywordEach [] X.env)).all (λx=>x.1.isSome)
  &&decide (([e]:List Expr).length+([]:List Keyword).length+(if([]:List Keyword).isEmpty then 0 else 1)<30))=true
 line:(apos.endLine==cpos.line)=true
 trees:backTo cpos (starEach [e] X.env)=[(false,eval e X.env)]
structure M2(X:Cx)(o:Expr)(m:Str)(apos:Pos)(e f:Expr)(cpos:Pos):Prop where
 base:attributeBase o m X.env (eval o X.env)=eval o X.env
 few:((backTo cpos (starEach [e,f] X.env)).all (λx=>!x.1)&&(backToKw cpos (keywordEach [] X.env)).all (λx=>x.1.isSome)
  &&decide (([e,f]:List Expr).length+([]:List Keyword).length+(if([]:List Keyword).isEmpty then 0 else 1)<30))=true
 line:(apos.endLine==cpos.line)=true
 trees:backTo cpos (starEach [e,f] X.env)=[(false,eval e X.env),(false,eval f X.env)]
section
variable{X:Cx}{pins:List (Addr×Obj)}{σ:St}{H:Hp}{s:Shared}{a:Addr}{y d:V}{u r:Value}{o:Option V}{A:Around}{E:Value->Shared->Prop}
end
section
variable{X:Cx}{o e f:Expr}{apos cpos:Pos}{td ty tx:TE}
end
section
variable{X:Cx}{pins:List (Addr×Obj)}{σ:St}{H:Hp}{s:Shared}{a:Addr}{kvs:List (Key×V)}{A:Around}{E:Value->Shared->Prop}
end
section
variable{X:Cx}{pins:List (Addr×Obj)}{σ:St}{H:Hp}{s:Shared}{a:Addr}{y:V}{u:Value}{A:Around}{E:Value->Shared->Prop}
end
section
variable{X:Cx}
theorem zg9:OpR X (compareOp .LtE) (λx y H Q=>∃i j,x= .str i/\y= .str j/\Q (.bl (!decide (j.cps.toList<i.cps.toList))) H):=by
 intro pins s σ H x y v u Q I rx ry h
 obtain⟨i,j,rfl,rfl,q⟩:=h
 obtain⟨t,rfl⟩:=rx
 obtain⟨t',rfl⟩:=ry
 exact PySem.P.le_str (zT I q rfl)
theorem zkR:∀{bs:List Bool} {us:List Value} {i:Nat} {v:Value},Vals (bs.map V.bl) us->us[i]?=some v->∃b,bs[i]?=some b/\v= .bool b
 |[],_,_,_, .nil,e=>by simp at e
 |b::bs,_,0,v, .cons r _,e=>by
  simp at e
  subst e
  exact⟨b,rfl,r⟩
 |b::bs,_,i+1,v, .cons _ t,e=>by
  obtain⟨c,h1,h2⟩:=zkR (i:=i) t (by simpa using e)
  exact⟨c,by simpa using h1,h2⟩
noncomputable def atB(bs:List Bool)(j:Nat):Bool:=match bs[j]? with|some b=>b|none=>true
theorem zht(bs:List Bool):(List.range bs.length).all (atB bs)=bs.all id:=by
 refine Eq.trans ?_ (PyProof.Rows.all_rangeD bs (id:Bool->Bool))
 congr 1
 funext j
 unfold atB
 cases bs[j]?<;>rfl
theorem zbA{X:Cx}(hc:X.calm=true):CallR X (.builtin "all") (λxs H Q=>∃(p:Addr) (bs:List Bool),xs=[.ref p]/\SqL X.K H p (bs.map V.bl)/\Q (.bl (bs.all id)) H):=by
 intro pins s σ H xs us Q I r h
 obtain⟨p,bs,rfl,hq,q⟩:=h
 obtain⟨u,rfl,ru⟩:=zdg r
 cases ru
 obtain⟨its,rv,pl,hz⟩:=I.list hq
 have hp:p≠s.heap.objs.size:=ξl pl.lt
 refine call_all_walk (wpAny_pyIter_list pl.isList ?_)
 refine⟨s.heap.objs.size,_,_,_,_,_,atB bs,rfl,Walks.list (A:=X.A.in1) (show X.A.in1.handled=none from I.ok.hd hc) _ p hp its.toArray,⟨⟨_,ζj _ rfl,rfl,rfl⟩,?_⟩,?_,λh' tk hk=>?_⟩
 ·obtain ⟨o,n,e,c,_,d⟩:=pl
  exact⟨o,ζc _ e,c,n,d⟩
 ·intro i v s' Q' E' hP hQ
  obtain⟨b,h1,rfl⟩:=zkR (i:=i) (v:=v) rv (by simpa using hP)
  refine wpAny_truthy_bool ?_
  have e:atB bs i=b:=by unfold atB;rw[h1]
  rw[e] at hQ
  exact hQ
 ·have hl:its.toArray.size=bs.length:=by
   have:=rv.length
   simp at this
   simp[this]
  rw[hl,zht]
  refine⟨.bl (bs.all id),H,I.kept λb o e=>hk b o ?_ (ζc _ e),rfl,q⟩
  intro z
  have:b=s.heap.objs.size:=by simpa using z
  exact absurd (ζn e) (by rw[this];exact Nat.lt_irrefl _)
theorem zcs:∀{ys:List Str} {us:List Value},Vals (ys.map V.str) us->StrsAre us ys
 |[],_, .nil=>by first|exact .nil|trivial
 |y::ys,_, .cons r t=>by
  obtain⟨k,rfl⟩:=r
  first
   |exact .cons _ _ (zcs t)
   |exact .cons (zcs t)
   |exact⟨⟨k,rfl⟩,zcs t⟩
noncomputable def zfX(z:Str)(n:Nat):Str:=⟨(List.replicate n z.cps).foldl (·++·) #[]⟩
theorem zjS:OpR X (binaryOp .Mult) (λx y H Q=>∃z n,x= .str z/\y= .int n/\1<n/\n<=1000/\0<z.length/\z.length<=1000/\Q (.str (zfX z n.toNat)) H):=by
 intro pins s σ H x y v u Q I rx ry h
 obtain⟨z,n,rfl,rfl,h1,h2,h3,h4,q⟩:=h
 obtain⟨t,rfl⟩:=rx
 obtain⟨t',rfl⟩:=ry
 have e1:¬n<1:=by omega
 have e2:(n==1||z.length==0)=false:=by
  have a:(n==1)=false:=beq_eq_false_iff_ne.mpr (by omega)
  have b:(z.length==0)=false:=beq_eq_false_iff_ne.mpr (by omega)
  rw[a,b];rfl
 have hz:z.length*n.toNat<=1000*1000:=Nat.mul_le_mul h4 (by omega)
 refine PySem.P.mul_str ?_ (λ_ _=>?_) (λ_ _=>?_) ?_
 ·have a:decide (n< -(2^63:Int))=false:=ζo (by omega)
  have b:decide (n≥2^63)=false:=ζo (by omega)
  rw[a,b];rfl
 ·have hd:(1000:Int)<=(2^63 -1)/n:=by
   apply Int.le_ediv_of_mul_le (by omega)
   omega
  omega
 ·have hb:z.length*n.toNat<=sizeLine:=ξb hz (by decide)
  unfold Builtin.Str.tooLong
  exact ζo (by omega)
 ·rw[if_neg e1,e2]
  simp only[Bool.false_eq_true,if_false]
  refine⟨?_,⟨.str _,H,I.tok _,⟨_,rfl⟩,q⟩⟩
  have key:∀(k:Nat) (acc:Array Nat),((List.replicate k z.cps).foldl (·++·) acc).size=acc.size+k*z.cps.size:=by
   intro k
   induction k with
   |zero=>intro acc;simp
   |succ k ih=>intro acc;rw[List.replicate_succ,List.foldl_cons,ih,Array.size_append,Nat.succ_mul];omega
  have hk:=key n.toNat #[]
  have hz':n.toNat *z.cps.size<=1000*1000:=Nat.mul_le_mul (by omega) h4
  have hsl:1000*1000<=sizeLine:=by decide
  show((List.replicate n.toNat z.cps).foldl (·++·) #[]).size<=sizeLine
  rw[hk]
  simp only[Array.size_empty]
  omega
theorem zea:CallR X (.builtin "isinstance") (λxs H Q=>∃x T t b,xs=[x, .ty T]/\TyOf X.K H x t/\PySem.W.kitOne X.K t (.type T)=some b/\Q (.bl b) H):=by
 intro pins s σ H xs us Q I r h
 obtain⟨x,T,t,b,rfl,ht,hk,q⟩:=h
 obtain⟨u,w',rfl,ru,rw'⟩:=zgT r
 cases rw'
 exact zlA I ru ht hk λtk=>⟨.bl b,H,I.tok _,rfl,q⟩
noncomputable def Its(x:Str):It:=⟨λi _=>i<x.length,λi H y H'=>H'=H/\∃c,x.cps[i]?=some c/\y= .str ⟨#[c]⟩,λi _=>x.length<=i⟩
theorem zlS{P:Program}{w:World}{K:PySem.W.Frag}{tg:Expr}(x:Str)(t:Tok)(it:Addr):Turn P w K tg (Its x) [it] it (λi h=>h.IsStrIter it "str_ascii_iterator" x t i) where
 mem:=by simp
 obj:=λi h st b hb=>by
  have e:b=it:=by simpa using hb
  subst e
  obtain⟨o,e,c,d⟩:=st
  exact⟨o,e,λv z=>by rw[d] at z;cases z⟩
 keep:=λi h h' st k=>by
  obtain⟨o,e,r⟩:=st
  exact⟨o,k it (by simp) o e,r⟩
 item:=by
  intro X hP hw hK hc i pins s σ H E I hf st hg
  subst hP hw hK
  have hi:i<x.cps.size:=hg
  obtain⟨f0,f1,f2,f3,f4,f5⟩:=hf it (by simp)
  refine wpAny_pyNext_ascii_item st (c:=x.cps[i]) (by simp[hi]) λh' st' sb=>?_
  have I1:Inv X pins σ H {s with heap:=h',toks:=s.toks+1}:=I.turned (t':=s.toks+1) (λb o hb e=>(sb.2 b hb).trans e) f0 f1 f3 f4 f5
  obtain⟨o,e,c,d⟩:=id st'
  exact⟨_,rfl,zhg (s:={s with heap:=h',toks:=s.toks+1}) e c d (by decide) ⟨.str ⟨#[x.cps[i]]⟩,H,I1,⟨_,rfl⟩,⟨rfl,x.cps[i],by simp[hi],rfl⟩,st',λb hb=>(hf b hb).1⟩⟩
 done:=by
   intro X hP hw hK hc i pins s σ H E I hf st hg
   subst hP hw hK
   have hi:x.cps.size<=i:=hg
   obtain⟨f0,f1,f2,f3,f4,f5⟩:=hf it (by simp)
   exact wpAny_pyNext_ascii_end (I.ok.hd hc) st (by simp[hi]) λh' eb=>⟨rfl,I.turned (t':=s.toks) (λb o hb e=>eb b o hb e) f0 f1 f3 f4 f5⟩
 self:=λ_ _ _ _ _ st h=>wpAny_pyIter_striter_ascii st h
theorem zl2{P:Program}{w:World}{K:PySem.W.Frag}{tg:Expr}(x:Str)(t:Tok)(it:Addr):Turn P w K tg (Its x) [it] it (λi h=>h.IsStrIter it "str_iterator" x t i) where
 mem:=by simp
 obj:=λi h st b hb=>by
  have e:b=it:=by simpa using hb
  subst e
  obtain⟨o,e,c,d⟩:=st
  exact⟨o,e,λv z=>by rw[d] at z;cases z⟩
 keep:=λi h h' st k=>by
  obtain⟨o,e,r⟩:=st
  exact⟨o,k it (by simp) o e,r⟩
 item:=by
  intro X hP hw hK hc i pins s σ H E I hf st hg
  subst hP hw hK
  have hi:i<x.cps.size:=hg
  obtain⟨f0,f1,f2,f3,f4,f5⟩:=hf it (by simp)
  refine wpAny_pyNext_wide_item st (c:=x.cps[i]) (by simp[hi]) λh' st' sb=>?_
  have I1:Inv X pins σ H {s with heap:=h',toks:=s.toks+1}:=I.turned (t':=s.toks+1) (λb o hb e=>(sb.2 b hb).trans e) f0 f1 f3 f4 f5
  obtain⟨o,e,c,d⟩:=id st'
  exact⟨_,rfl,zhg (s:={s with heap:=h',toks:=s.toks+1}) e c d (by decide) ⟨.str ⟨#[x.cps[i]]⟩,H,I1,⟨_,rfl⟩,⟨rfl,x.cps[i],by simp[hi],rfl⟩,st',λb hb=>(hf b hb).1⟩⟩
 done:=by
   intro X hP hw hK hc i pins s σ H E I hf st hg
   subst hP hw hK
   have hi:x.cps.size<=i:=hg
   obtain⟨f0,f1,f2,f3,f4,f5⟩:=hf it (by simp)
   exact wpAny_pyNext_wide_end (I.ok.hd hc) st (by simp[hi]) λh' eb=>⟨rfl,I.turned (t':=s.toks) (λb o hb e=>eb b o hb e) f0 f1 f3 f4 f5⟩
 self:=λ_ _ _ _ _ st h=>wpAny_pyIter_striter_wide st h
noncomputable def zqQ(tl:TE):TI:=λσ H R=>tl σ H λy H1=>∃x,y= .str x/\R (Its x) H1
theorem zpA{tg l:Expr}{tl:TE}(hl:PE X l tl):PI X tg l (zqQ tl):=by
 intro pins s σ H R I h
 refine thn (hl pins s σ H _ I h) λv s1 ⟨y,H1,I1,r1,q1⟩=>?_
 obtain⟨x,rfl,q⟩:=q1
 obtain⟨t,rfl⟩:=r1
 cases ha:x.cps.all (·<128)
 ·refine wpAny_pyIter_wide ha ⟨s1.heap.objs.size,[s1.heap.objs.size],_,_,H1,rfl,I1.kept (t':=s1.toks) λb o e=>ζc _ e,zl2 x t _,⟨_,ζj _ rfl,rfl,rfl⟩,λb hb=>?_,q⟩
  have e:b=s1.heap.objs.size:=by simpa using hb
  subst e
  exact I1.fpOk (ζu _) (I1.hok.fresh (ζu _))
 ·refine wpAny_pyIter_ascii ha ⟨s1.heap.objs.size,[s1.heap.objs.size],_,_,H1,rfl,I1.kept (t':=s1.toks) λb o e=>ζc _ e,zlS x t _,⟨_,ζj _ rfl,rfl,rfl⟩,λb hb=>?_,q⟩
  have e:b=s1.heap.objs.size:=by simpa using hb
  subst e
  exact I1.fpOk (ζu _) (I1.hok.fresh (ζu _))
theorem zaj:bootBuiltins "len"=some (.builtin "len"):=by decide +kernel
theorem zdJ:bootBuiltins "all"=some (.builtin "all"):=by decide +kernel
theorem zbK:bootBuiltins "isinstance"=some (.builtin "isinstance"):=by decide +kernel
theorem zjJ:bootBuiltins "max"=some (.builtin "max"):=by decide +kernel
theorem zhO:bootBuiltins "min"=some (.builtin "min"):=by decide +kernel
theorem zcn:bootBuiltins "sorted"=some (.builtin "sorted"):=by decide +kernel
theorem zfc:bootBuiltins "int"=some (.type "int"):=by decide +kernel
theorem zpM:bootBuiltins "str"=some (.type "str"):=by decide +kernel
theorem zbf:bootBuiltins "tuple"=some (.type "tuple"):=by decide +kernel
theorem zoa:bootBuiltins "list"=some (.type "list"):=by decide +kernel
theorem zk3:bootBuiltins "bool"=some (.type "bool"):=by decide +kernel
theorem few{α:Type}{xs:List α}(h:Nat.ble xs.length 1000=true):xs.length<=sizeLine:=ξi (zm (ζk h))
noncomputable def zfb:Expr->Option V
 | .Constant (.str x) _ _=>some (.str x)
 | .Constant (.int i) _ _=>some (.int i)
 | .Constant (.bool b) _ _=>some (.bl b)
 | .Constant .none _ _=>some .non
 |_=>none
theorem znu{e:Expr}{v:V}(h:zfb e=some v):PE X e (tC v)/\∀es,starEach (e::es) X.env=(false,eval e X.env)::starEach es X.env:=by
 cases e with
 |Constant c j pos=>
  cases c with
  |str x=>cases h;exact⟨zmH,λ_=>rfl⟩
  |int x=>cases h;exact⟨zmS,λ_=>rfl⟩
  |bool x=>cases h;exact⟨zpl,λ_=>rfl⟩
  |none=>cases h;exact⟨zm9,λ_=>rfl⟩
  |_=>cases h
 |_=>cases h
noncomputable def zrj(vs:List V):TA:=λ_ H Q=>Q vs H
theorem ze4:∀{es:List Expr} {vs:List V},es.mapM zfb=some vs->PA X es (zrj vs)
 |[],vs,h=>by
  have e:vs=[]:=by simpa using h.symm
  subst e
  exact znM
 |e::es,vs,h=>by
  rw[List.mapM_cons] at h
  cases h1:zfb e with
  |none=>rw[h1] at h;cases h
  |some v=>
   rw[h1] at h
   cases h2:es.mapM zfb with
   |none=>rw[h2] at h;cases h
   |some us=>
    rw[h2] at h
    have e1:v::us=vs:=ξj h
    subst e1
    obtain⟨p,st⟩:=znu (X:=X) h1
    have q:=zkk p (ze4 (es:=es) h2) (st es)
    exact q
noncomputable def zpp(vs:List V):TE:=λ_ H Q=>vs.length<=sizeLine/\∀p,H p=none->Q (.ref p) (upd H p (.lst vs))
theorem zoi(vs:List V){es:List Expr}{pos:Pos}(h:es.mapM zfb=some vs):PE X (.List es pos) (zpp vs):=zm5 (ze4 h)
end
structure Wk(J:It)(n:Nat)(P:Nat->V->Prop)(ok:Hp->Prop):Prop where
 stop:∀i H,ok H->n<=i->J.stop i H
 go:∀i H,ok H->i<n->J.go i H
 yld:∀i H x H',ok H->i<n->J.yld i H x H'->H'=H/\P i x
theorem zcy{K:PySem.W.Frag}{a:Addr}{xs:List V}:Wk (Itl K a) xs.length (λi x=>xs[i]?=some x) (λH=>SqL K H a xs) where
 stop:=λi H h l=>⟨xs,h,l⟩
 go:=λi H h l=>⟨xs,xs[i],h,by simp[l]⟩
 yld:=λi H x H' h l y=>⟨y.1,y.2 xs h⟩
theorem za0{K:PySem.W.Frag}{a:Addr}{xs:List V}:Wk (Itt K a) xs.length (λi x=>xs[i]?=some x) (λH=>SqT K H a xs) where
 stop:=λi H h l=>⟨xs,h,l⟩
 go:=λi H h l=>⟨xs,xs[i],h,by simp[l]⟩
 yld:=λi H x H' h l y=>⟨y.1,y.2 xs h⟩
theorem zdo{lo:Int}{n:Nat}:Wk (Itr lo n) n (λi x=>x= .int (lo+i)) (λ_=>True) where
 stop:=λi H h l=>l
 go:=λi H h l=>l
 yld:=λi H x H' h l y=>y
theorem zqz{x:Str}:Wk (Its x) x.length (λi y=>∃c,x.cps[i]?=some c/\y= .str ⟨#[c]⟩) (λ_=>True) where
 stop:=λi H h l=>l
 go:=λi H h l=>l
 yld:=λi H x H' h l y=>y
theorem zby{J:It}{n:Nat}{P:Nat->V->Prop}{ok:Hp->Prop}{g:TG}{tc:TT}{te:TE}{src:List (Option Nat)}{σ:St}{H1:Hp}{Q:VK}(wk:Wk J n P ok)(Pv:Addr->Nat->List V->St->Hp->Prop)
 (h0:∀l,H1 l=none->Pv l 0 [] (zel src σ) (upd H1 l (.lst []))) (hok:∀l i ys σ H,H1 l=none->Pv l i ys σ H->ok H)
 (hs:∀l i x ys σ H,H1 l=none->i<n->P i x->Pv l i ys σ H->H l=some (.lst ys)->g x σ H λσ2 H3=>tc σ2 H3 λb H4=>
   if b=true then te σ2 H4 λy H5=>H5 l=some (.lst ys)/\ys.length<sizeLine/\Pv l (i+1) (ys ++ [y]) σ2 (upd H5 l (.lst (ys ++ [y])))else H4 l=some (.lst ys)/\Pv l (i+1) ys σ2 H4)
 (hd:∀l ys σ H,H1 l=none->Pv l n ys σ H->H l=some (.lst ys)->Q (.ref l) H):
 zcN g tc te src σ Q J H1:=by
 intro l hl
 refine⟨λi m ys σ H=>m=n -i/\i<=n/\Pv l i ys σ H,⟨n,by simp,ξk _,h0 l hl⟩,?_⟩
 rintro i m ys σ' H' ⟨rfl,hi,p⟩ hl'
 by_cases hlt:i<n
 ·refine .inr ⟨wk.go i H' (hok l i ys σ' H' hl p) hlt,Pv l (i+1),λzs σ2 H2 q=>⟨n -(i+1),by omega,rfl,hlt,q⟩,λx H2 y=>?_⟩
  obtain⟨rfl,px⟩:=wk.yld i H' x H2 (hok l i ys σ' H' hl p) hlt y
  exact hs l i x ys σ' _ hl hlt px p hl'
 ·have e:i=n:=by omega
  subst e
  exact .inl ⟨wk.stop _ _ (hok l _ ys σ' H' hl p) (ζu _),hd l ys σ' H' hl p hl'⟩
theorem zbG{J:It}{n:Nat}{P:Nat->V->Prop}{ok:Hp->Prop}{g:TG}{tb:TS}{D:Ends}{σ:St}{H:Hp}(wk:Wk J n P ok)(Pv:Nat->St->Hp->Prop)(h0:Pv 0 σ H)(hok:∀i σ H,Pv i σ H->ok H)
 (hs:∀i x σ H,i<n->P i x->Pv i σ H->g x σ H λσ2 H2=>tb {D with nx:=Pv (i+1),ct:=Pv (i+1),bk:=D.nx} σ2 H2) (hd:∀σ H,Pv n σ H->D.nx σ H):
 zmv g tb D σ J H:=by
 refine⟨λi m σ H=>m=n -i/\i<=n/\Pv i σ H,⟨n,by simp,ξk _,h0⟩,?_⟩
 rintro i m σ H ⟨rfl,hi,p⟩
 by_cases hlt:i<n
 ·refine .inr ⟨wk.go i H (hok i σ H p) hlt,Pv (i+1),λσ' H' q=>⟨n -(i+1),by omega,rfl,hlt,q⟩,λx H' y=>?_⟩
  obtain⟨rfl,px⟩:=wk.yld i H x H' (hok i σ H p) hlt y
  exact hs i x σ _ hlt px p
 ·have e:i=n:=by omega
  subst e
  exact .inl ⟨wk.stop _ _ (hok _ σ H p) (ζu _),hd σ H p⟩
structure QE(X:Cx)(e:Expr)(t:TE):Prop where o:PE X e t
structure QT(X:Cx)(e:Expr)(t:TT):Prop where o:PT X e t
structure QW(X:Cx)(e:Expr)(t:TT):Prop where o:PW X e t
structure QA(X:Cx)(es:List Expr)(t:TA):Prop where o:PA X es t
structure QS(X:Cx)(s:Stmt)(t:TS):Prop where o:PS X s t
structure QB(X:Cx)(s:List Stmt)(t:TS):Prop where o:PSs X s t
structure QI(X:Cx)(tg iter:Expr)(t:TI):Prop where o:PI X tg iter t
structure QG(X:Cx)(tg:Expr)(t:TG):Prop where o:PG X tg t
structure QGs(X:Cx)(tg:List Expr)(t:TGs):Prop where o:PGs X tg t
structure QF(X:Cx)(ifs:List Expr)(t:TT):Prop where o:PIf X ifs t
structure QO(X:Cx)(e:Option Expr)(t:TO):Prop where o:PO X e t
structure QPs(X:Cx)(pos:Pos)(keys:List (Option Expr))(values:List Expr)(trs:List (TE×TE)):Prop where o:PPs X pos keys values trs
section
variable{X:Cx}{a b c e o i:Expr}{es:List Expr}{ta tb tc te to ti:TE}{t u:TA}{pos p apos cpos:Pos}{j:Nat}{x:Str}{sa sb:TS}{q q':TT}{rest:List Expr}
theorem qv(i:Nat){x:Str}{pos:Pos}(hN:X.N[i]?=some x:=by rfl)(hv:Vis X.env.scope x:=by exact Or.inl rfl)(hd:(x==("__debug__":Str))=false:=by decide)
 (hcd:(x==("__classdict__":Str))=false:=by decide):QE X (.Name x pos) (zb8 i):=⟨zmj hN hv hd hcd⟩
theorem qc(i:Nat){x:Str}{pos:Pos}(hN:X.N[i]?=some x:=by rfl)(hv:X.env.scope.names.lookup x=some .cell:=by rfl)(hd:(x==("__debug__":Str))=false:=by decide)
 (hcd:(x==("__classdict__":Str))=false:=by decide):QE X (.Name x pos) (zb8 i):=⟨zmj hN (.inr (.inl hv)) hd hcd⟩
theorem zh{k:Int}:QE X (.Constant (.int k) j pos) (tC (.int k)):=⟨zmS⟩
theorem zaz{k:Str}:QE X (.Constant (.str k) j pos) (tC (.str k)):=⟨zmH⟩
theorem zco{k:Bool}:QE X (.Constant (.bool k) j pos) (tC (.bl k)):=⟨zpl⟩
theorem zck:QE X (.Constant .none j pos) (tC .non):=⟨zm9⟩
theorem zfZ{v:V}{u:Value}(hm:X.mg x=some u)(r:RelV v u)(hg:Gl X x:=by rfl)(hd:(x==("__debug__":Str))=false:=by decide):QE X (.Name x pos) (tC v):=⟨zn3 hg hm r hd⟩
theorem zmE{T:String}(hm:X.mg x=none)(hv:bootBuiltins x=some (.type T))(hg:Gl X x:=by rfl)(hn:x≠"__name__":=by decide)(hd:(x==("__debug__":Str))=false:=by decide):QE X (.Name x pos) (tC (.ty T)):=⟨zoE hg hm hv rfl hn hd⟩
theorem zG{op:Operator}{r:R2}(ho:OpR X (binaryOp op) r)(ha:QE X a ta)(hb:QE X b tb):QE X (.BinOp a op b pos) (tOp r ta tb):=⟨zq8 ho ha.o hb.o⟩
theorem zeo{op:UnaryOp}{r:V->Hp->VK->Prop}(ho:UnR X (unaryOp op) r)(ha:QE X a ta):QE X (.UnaryOp op a pos) (tUn r ta):=⟨zqM ho ha.o⟩
theorem za2{op:CmpOp}{r:R2}(ho:OpR X (compareOp op) r)(ha:QE X a ta)(hb:QE X b tb)(hm:behindInMarks op b=false:=by rfl):QE X (.Compare a [op] [b] pos) (tOp r ta tb):=⟨zor ho ha.o hb.o hm⟩
theorem zH{op:CmpOp}{r:R2}(ho:OpR X (compareOp op) r)(ha:QE X a ta)(hb:QE X b tb)(hm:behindInMarks op b=false:=by rfl):QT X (.Compare a [op] [b] pos) (zkD (tOp r ta tb)):=⟨zoy ho ha.o hb.o hm⟩
theorem zk0{op op':CmpOp}{r r':R2}(ho:OpR X (compareOp op) r)(ho':OpR X (compareOp op') r')(ha:QE X a ta)(hb:QE X b tb)(hc:QE X c tc)
 (hm:lastMarks [op,op'] [b,c]=false:=by with_unfolding_all rfl):QE X (.Compare a [op,op'] [b,c] pos) (zhK r r' ta tb tc):=⟨znl ho ho' ha.o hb.o hc.o hm⟩
theorem zoh{op op':CmpOp}{r r':R2}(ho:OpR X (compareOp op) r)(ho':OpR X (compareOp op') r')(ha:QE X a ta)(hb:QE X b tb)(hc:QE X c tc)
 (hm:lastMarks [op,op'] [b,c]=false:=by with_unfolding_all rfl):QT X (.Compare a [op,op'] [b,c] pos) (zkD (zhK r r' ta tb tc)):=⟨zmK ho ho' ha.o hb.o hc.o hm⟩
theorem zd2{op:BoolOp}(h:QE X a ta):QE X (.BoolOp op [a] pos) ta:=⟨zp0 h.o⟩
theorem ze5(ha:QE X a ta)(hb:QE X (.BoolOp .And (b::rest) pos) tb):QE X (.BoolOp .And (a::b::rest) pos) (zpb ta tb):=⟨zqg ha.o hb.o⟩
theorem zrx(ha:QE X a ta)(hb:QE X (.BoolOp .Or (b::rest) pos) tb):QE X (.BoolOp .Or (a::b::rest) pos) (zqZ ta tb):=⟨zqH ha.o hb.o⟩
theorem zng(ha:QE X a ta):QE X (.UnaryOp .Not a pos) (zpf ta):=⟨zqy ha.o⟩
theorem zrz(hc:QT X c q)(ha:QE X a ta)(hb:QE X b tb):QE X (.IfExp c a b pos) (tIf q ta tb):=⟨zns hc.o ha.o hb.o⟩
theorem zh5(ha:QT X a q):QW X (.BoolOp .And [a] pos) q:=⟨zn7 ha.o⟩
theorem zdS(ha:QT X a q):QW X (.BoolOp .Or [a] pos) q:=⟨zqe ha.o⟩
theorem zkH(ha:QT X a q)(hb:QW X (.BoolOp .And (b::rest) pos) q'):QW X (.BoolOp .And (a::b::rest) pos) (zq2 q q'):=⟨zqn ha.o hb.o⟩
theorem zdT(ha:QT X a q)(hb:QW X (.BoolOp .Or (b::rest) pos) q'):QW X (.BoolOp .Or (a::b::rest) pos) (tOr q q'):=⟨zrb ha.o hb.o⟩
theorem t_w(h:QW X a q):QT X a q:=⟨h.o.pt⟩
theorem zbX(ha:QT X a q):QT X (.UnaryOp .Not a pos) (zqB q):=⟨zqv ha.o⟩
theorem zbp(h:QE X e te)(he:∀whole,isTrue e X.env whole=(do let v ←whole;standAt e.pos;holding [v] (truthy v)):=by intro _;rfl):QT X e (tB te):=⟨zpD h.o he⟩
theorem ze:QA X [] zmw:=⟨znM⟩
theorem zc(ha:QE X e te)(hr:QA X es t)(hs:starEach (e::es) X.env=(false,eval e X.env)::starEach es X.env:=by rfl):QA X (e::es) (zfA te t):=⟨zkk ha.o hr.o hs⟩
theorem zv{k:Nat}(h:QA X es t):QE X (.Tuple es k pos) (zpN t):=⟨zp1 h.o⟩
theorem zbs(h:QA X es t):QE X (.List es pos) (zol t):=⟨zm5 h.o⟩
theorem zfs(vs:List V)(h:es.mapM zfb=some vs):QE X (.List es pos) (zpp vs):=⟨zoi vs h⟩
theorem zk{CX:CXT}{k:Nat}{f:Addr}{fd:FuncData}{ps:List Str}{sp:Sp}{dvs:List V}{ds:List Value}{E:XK}(F:FnOk X.prog X.w X.K X.mg X.base CX k f fd ps sp)(hr:Room k X.A)(hm:X.mg x=some (.ref f))(hk:PySem.W.keepIn X.K (.ref f)=true)(hb:Binds X.K fd ps ds)(hd:Vals dvs ds)(hx:zh0 CX X E)
 (ha:QA X (e::es) t) (hg:Gl X x:=by rfl) (hdb:(x==("__debug__":Str))=false:=by decide) (he:starEach (e::es) X.env=(false,eval e X.env)::starEach es X.env:=by rfl) (hpl:(backTo pos (starEach es X.env)).any (·.1)=false:=by rfl):
 QE X (.Call (.Name x p) (e::es) [] pos) (zmD sp dvs E t):=⟨zom F hr hg hm hk hb hd hx ha.o hdb he hpl⟩
theorem zq{id:String}{r:List V->Hp->VK->Prop}(hc:CallR X (.builtin id) r)(hm:X.mg x=none)(hv:bootBuiltins x=some (.builtin id))(ha:QA X (e::es) t)(hg:Gl X x:=by rfl)(hn:x≠"__name__":=by decide)(hdb:(x==("__debug__":Str))=false:=by decide)
 (he:starEach (e::es) X.env=(false,eval e X.env)::starEach es X.env:=by rfl) (hpl:(backTo pos (starEach es X.env)).any (·.1)=false:=by rfl):QE X (.Call (.Name x p) (e::es) [] pos) (tCB r t):=⟨znI hc hg hm hv ha.o hn hdb he hpl⟩
theorem zao{T:String}{r:List V->Hp->VK->Prop}(hc:CallR X (.type T) r)(hm:X.mg x=none)(hv:bootBuiltins x=some (.type T))(ha:QA X (e::es) t)(hg:Gl X x:=by rfl)(hn:x≠"__name__":=by decide)(hdb:(x==("__debug__":Str))=false:=by decide)
 (he:starEach (e::es) X.env=(false,eval e X.env)::starEach es X.env:=by rfl) (hpl:(backTo pos (starEach es X.env)).any (·.1)=false:=by rfl):QE X (.Call (.Name x p) (e::es) [] pos) (tCB r t):=⟨zlC hc hg hm hv ha.o hn hdb he hpl⟩
theorem zt{r:R2}(hr:IxR X r)(ha:QE X a ta)(hb:QE X b tb)(hs:zkm b:=by exact λ_ _=>rfl):QE X (.Subscript a b pos) (tOp r ta tb):=⟨zqF hr ha.o hb.o hs⟩
theorem zae:QO X none zal:=⟨zof⟩
theorem zV(h:QE X e te):QO X (some e) (zcQ te):=⟨zoo h.o⟩
theorem zbL{r:V->Option Int->Option Int->Hp->VK->Prop}{lo hi:Option Expr}{tl th:TO}(hr:SlR X r)(he:QE X e te)(hl:QO X lo tl)(hu:QO X hi th):QE X (.Subscript e (.Slice lo hi none p) pos) (tSl r te tl th):=⟨znn hr he.o hl.o hu.o⟩
theorem zfq{T id:String}{name:Str}{r:V->List V->Hp->VK->Prop}(pa:PlainAttrs T)(slot:Slot T name id)(hty:typeOf (.builtin id)=pure (.type "method_descriptor"))(hm:MtR X id r)(ho:QE X o to)(ha:QA X (e::es) t)
 (hbase:attributeBase o name X.env (eval o X.env)=eval o X.env:=by rfl)
 (hfew:((backTo cpos (starEach (e::es) X.env)).all (λx=>!x.1)&&(backToKw cpos (keywordEach [] X.env)).all (λx=>x.1.isSome)
   &&decide ((e::es).length+([]:List Keyword).length+(if([]:List Keyword).isEmpty then 0 else 1)<30))=true:=by rfl)
 (hline:(apos.endLine==cpos.line)=true:=by rfl) (hs:starEach (e::es) X.env=(false,eval e X.env)::starEach es X.env:=by rfl) (hplain:(backTo cpos (starEach es X.env)).any (·.1)=false:=by rfl):
 QE X (.Call (.Attribute o name apos) (e::es) [] cpos) (tBM X.K T r to t):=⟨zq6 pa slot hty hm ho.o ha.o hbase hfew hline hs hplain⟩
theorem zdt{tg:Expr}(h:QE X e te):QI X tg e (znk X.K te):=⟨zow h.o⟩
theorem zbZ{tg:Expr}(h:QE X e te):QI X tg e (zqs X.K te):=⟨zqo h.o⟩
theorem zq5{tg:Expr}(h:QE X e te):QI X tg e (zqQ te):=⟨zpA h.o⟩
theorem zdf{tg:Expr}(hm:X.mg "range"=none)(ha:QA X [a] t)(hg:Gl X "range":=by rfl)(hs:starEach [a] X.env=[(false,eval a X.env)]:=by rfl):QI X tg (.Call (.Name "range" p) [a] [] pos) (zps t):=⟨zlf hg hm ha.o hs⟩
theorem zqm{tg:Expr}(hm:X.mg "range"=none)(ha:QA X [a,b] t)(hg:Gl X "range":=by rfl)(hs:starEach [a,b] X.env=[(false,eval a X.env),(false,eval b X.env)]:=by rfl)(hs2:starEach [b] X.env=[(false,eval b X.env)]:=by rfl):QI X tg (.Call (.Name "range" p) [a,b] [] pos) (zpj t):=⟨zl5 hg hm ha.o hs hs2⟩
theorem zo(k:Nat)(hN:X.N.Nodup)(hi:X.N[k]?=some x:=by rfl)(hx:X.env.scope.names.lookup x=some .local:=by rfl):QG X (.Name x pos) (zaE k):=⟨zk2 hN hi (.inl hx) (.inr hx)⟩
theorem za4:QGs X [] zq7:=⟨zoR⟩
theorem zx{tg:TG}{tgs:TGs}(h1:QG X e tg)(h2:QGs X es tgs)(hs:(assignEach (e::es) X.env).map (·.2)=assign e X.env::(assignEach es X.env).map (·.2):=by rfl):QGs X (e::es) (zpv tg tgs):=⟨znw h1.o h2.o hs⟩
theorem zc5(n:Nat){k:Nat}{tgs:TGs}(hc:X.calm=true)(h:QGs X es tgs)(hn:(assignEach es X.env).length=n:=by rfl)(hst:(assignEach es X.env).findIdx? (·.1)=none:=by rfl):QG X (.Tuple es k pos) (zpZ X.K n tgs):=⟨zp7 hc h.o hn hst⟩
theorem zcR:QF X [] zlZ:=⟨zox⟩
theorem zc6(h:QT X c q):QF X [c] q:=⟨zoH h.o⟩
theorem zO:QB X [] zpg:=⟨zo0⟩
theorem zj{st:Stmt}{sts:List Stmt}(h1:QS X st sa)(h2:QB X sts sb):QB X (st::sts) (zlu sa sb):=⟨zjk h1.o h2.o⟩
theorem zn{st:Stmt}(h1:QS X st sa):QB X [st] sa:=⟨znT h1.o⟩
theorem zau{A B:List Stmt}(hc:QT X c q)(ha:QB X A sa)(hb:QB X B sb):QS X (.If c A B pos) (zpK q sa sb):=⟨zq0 hc.o ha.o hb.o⟩
theorem zy(h:QE X e te):QS X (.Return (some e) pos) (zpP te):=⟨zp6 h.o⟩
theorem zdq(he:QE X e te)(hs:swapsWith e none pos.line X.env=pure false:=by rfl):QS X (.Expr e pos) (zpt te):=⟨zos he.o hs⟩
theorem zqc:QS X (.Continue pos) zpr:=⟨zjj⟩
theorem zI(k:Nat){pos':Pos}(hN:X.N.Nodup)(he:QE X e te)(hi:X.N[k]?=some x:=by rfl)(hx:X.env.scope.names.lookup x=some .local:=by rfl)(hs:swapsWith e (some (.Name x pos')) pos.line X.env=pure false:=by rfl):
 QS X (.Assign [.Name x pos'] e pos) (zgK te (zaE k)):=⟨zmI hN hi (.inl hx) he.o hs (.inr hx)⟩
theorem zc2(k:Nat){pos':Pos}(hN:X.N.Nodup)(he:QE X e te)(hi:X.N[k]?=some x:=by rfl)(hx:X.env.scope.names.lookup x=some .cell:=by rfl)(hf:X.fn x=true:=by rfl)(hs:swapsWith e (some (.Name x pos')) pos.line X.env=pure false:=by rfl):
 QS X (.Assign [.Name x pos'] e pos) (zgK te (zaE k)):=⟨zmI hN hi (.inr hx) he.o hs (.inl hf)⟩
theorem zcJ{tg iter:Expr}{body:List Stmt}{wi:TI}{g:TG}(hp:PassesOwn (model X.prog X.w) X.A X.env X.xe)(hc:X.calm=true)(hi:QI X tg iter wi)(hg:QG X tg g)(hb:QB X body sa)
 (hs:∀x,foldedSetIterable iter X.env x=pure x:=by intro _;rfl):QS X (.For tg iter body [] pos) (zpu wi g sa):=⟨zoK hp hc hi.o hg.o hb.o hs⟩
end
section
variable{X:Cx}{elt tg iter:Expr}{ifs:List Expr}{scope osc:Scope}{pos:Pos}{N':List Str}{src:List (Option Nat)}{wi:TI}{g:TG}{tc:TT}{te:TE}
theorem zaI(ok:CompOk X.N osc N' src scope)(hsc:X.env.scope=osc)(hc:X.calm=true)(hi:QI X tg iter wi)
 (hg:∀cl C s₀ H₀ fp,QG (zas X N' scope cl C s₀ H₀ fp) tg g) (ht:∀cl C s₀ H₀ fp,QF (zas X N' scope cl C s₀ H₀ fp) ifs tc) (he:∀cl C s₀ H₀ fp,QE (zas X N' scope cl C s₀ H₀ fp) elt te)
 (hs:∀x,foldedSetIterable iter X.env x=pure x:=by intro _;rfl):QE X (.ListComp elt [⟨tg,iter,ifs,0⟩] scope pos) (zkj wi g tc te src):=
 ⟨zn1 ok hsc hc hi.o (λcl C s₀ H₀ fp=>(hg cl C s₀ H₀ fp).o) (λcl C s₀ H₀ fp=>(ht cl C s₀ H₀ fp).o) (λcl C s₀ H₀ fp=>(he cl C s₀ H₀ fp).o) hs⟩
end
theorem Fun.okQ{P:Program}{w:World}{K:PySem.W.Frag}{mg:Str->Option Value}{base:Heap}{x qual:Str}{st:Stmt}{f:Addr}{fd:FuncData}{N ps:List Str}{k:Nat}{sp:Sp}(F:Fun K x qual st f fd)(S:FnScope N ps (zg st))(len:∀vs H Q E,sp vs H Q E->vs.length=ps.length)
 (hbody:∀(cdv:Value) (A:Around) (outer:List Env) (s:Shared) (H:Hp) (vs:List V) (Q:VK) (E:XK),Room k (A.deeper (envOfC qual (zg st) s.heap.objs.size f cdv))->sp vs H Q E->
   ∃t,QB (zi4 CX0 P w K mg base N qual (zg st) f cdv A outer s H E).nox (zu st) t/\t {nx:=λ_ H'=>Q .non H',rt:=Q} (zet N vs) H):FnOk P w K mg base CX0 (k+1) f fd ps sp:=
 F.ok S len λcdv A outer s H vs Q E hr h=>let ⟨t,a,b⟩:=hbody cdv A outer s H vs Q E hr h;⟨t,a.o,b⟩
theorem zp5{h:Heap}{a:Addr}{m:Str->Option Value}(hn:h.Ns a m):∃o,h.get? a=some o/\∀v,o.data≠ .cell v:=
 let⟨o,es,ep,e,d,_⟩:=hn;⟨o,e,λv z=>by rw[d] at z;cases z⟩
theorem zn8{h h':Heap}{a:Addr}{m:Str->Option Value}{o:Obj}(hn:h.Ns a m)(e:h.get? a=some o)(e':h'.get? a=some o):h'.Ns a m:=by
 obtain⟨o',es,ep,e1,r⟩:=hn
 rw[e] at e1
 cases e1
 exact⟨o,es,ep,e',r⟩
section
variable{X:Cx}{elt tg iter:Expr}{ifs:List Expr}{scope osc:Scope}{pos:Pos}{N':List Str}{src:List (Option Nat)}{wi:TI}{g:TG}{tc:TT}{te:TE}{y:Str}{py spos:Pos}{k:Nat}
theorem zjA(ok:CompOk X.N osc N' src scope)(hsc:X.env.scope=osc)(hc:X.calm=true)(hi:PI X tg iter wi)
 (hg:∀cl C s₀ H₀ fp,PG (zas X N' scope cl C s₀ H₀ fp) tg g) (ht:∀cl C s₀ H₀ fp,PIf (zas X N' scope cl C s₀ H₀ fp) ifs tc) (he:∀cl C s₀ H₀ fp,PE (zas X N' scope cl C s₀ H₀ fp) elt te)
 (hN:X.N.Nodup) (hk:X.N[k]?=some y) (hx:X.env.scope.names.lookup y=some .local) (hsw:swapsWith (.ListComp elt [⟨tg,iter,ifs,0⟩] scope pos) (some (.Name y py)) spos.line X.env=pure true)
 (hs:∀x,foldedSetIterable iter X.env x=pure x:=by intro _;rfl):PS X (.Assign [.Name y py] (.ListComp elt [⟨tg,iter,ifs,0⟩] scope pos) spos) (zgK (zkj wi g tc te src) (zaE k)):=by
 intro pins s σ H D I h
 obtain⟨cl,hcl,c1,c2⟩:=zgy (scope:=scope) (env:=X.env) λy hy hyf=>I.ok.has y.1 (by
  have z:=ok.frees y hy hyf
  rw[←hsc] at z
  exact z)
 rw[exec_Assign_Name_used _ _ _ _ hsw]
 refine ζb (wpAny_standAt (ζb ?_))
 show wpAny _ X.A (do let _ ←comprehension (.ListComp elt [⟨tg,iter,ifs,0⟩] scope pos) scope X.env _ (newList []) false (eval iter X.env) (some (assign (.Name y py) X.env))) _ _ s
 refine ζb (wpAny_mono (wpAny_comprehension_free (use:=some (assign (.Name y py) X.env)) (Q:=λ_ s'=>∃σ' H',Inv X pins σ' H' s'/\D.nx σ' H') rfl hs hcl ok.kind ok.loc
  (thn (hi pins s σ H _ I h) λv s1 h1=>thn h1 λitv s2 h2=>?_)) (λ_ s' hq=>ζs (ζs hq)) λ_ _ e=>e)
 obtain⟨it,fp,tn,J,H2,e,I2,T,st2,f2,q2⟩:=h2
 subst e
 have hlt2:∀b∈fp,b<s2.heap.objs.size:=λb hb=>by
  obtain⟨o,e,_⟩:=T.obj _ _ st2 b hb
  exact ζn e
 refine wpAny_newObj_type ?_
 have hl:H2 s2.heap.objs.size=none:=I2.hok.fresh (ζu _)
 have I3:Inv X pins σ (upd H2 s2.heap.objs.size (.lst [])) {s2 with heap:=s2.heap.push {cls:= .type "list",dict:=none,data:= .seq ([]:List Value).toArray}}:=
  I2.laid (t':=s2.toks) (λb u e=>ζc _ e) (ζu _) ⟨ξk _,[],0, .nil,ζj _ rfl⟩
 obtain⟨W,⟨m0,w0⟩,turn⟩:=q2 _ hl
 generalize hl2:s2.heap.objs.size=l at *
 generalize hs3:({s2 with heap:=s2.heap.push {cls:= .type "list",dict:=none,data:= .seq ([]:List Value).toArray}}:Shared)=s3 at *
 have f3:∀b∈fp,ze2 X pins (upd H2 l (.lst [])) b:=λb hb=>⟨by rw[zr (ξl (hlt2 b hb))];exact(f2 b hb).1,(f2 b hb).2⟩
 have k3:∀b o,s2.heap.get? b=some o->s3.heap.get? b=some o:=λb o e=>by rw[←hs3];exact ζc _ e
 have hlt3:∀b∈fp,b<s3.heap.objs.size:=λb hb=>by
  obtain⟨o,e,_⟩:=T.obj _ _ st2 b hb
  exact ζn (k3 b o e)
 refine wpAny_newFunctionEnv ok.nocell (by intro y hy;simp at hy) (λh₁ hns₁ hsb₁=>?_) ok.kind
 have k4:∀b o,s3.heap.get? b=some o->h₁.get? b=some o:=λb o e=>(hsb₁.2 b (ξl (ζn e))).trans (ζc _ e)
 have J0:=zgr (tk:=s3.toks+([]:List (Str×Value)).length) I3 f3 hlt3 ok hsc c1 c2 hns₁ k4
 have st4:tn 0 h₁:=T.keep _ _ _ st2 λb hb o e=>k4 b o (k3 b o e)
 generalize hC:s3.heap.objs.size=C at *
 have stat:∀{H':Hp},(∀b∈fp,H' b=none)->∀b∈fp,ze2 (zas X N' scope cl C s3 (upd H2 l (.lst [])) fp) [] H' b:=λ{H'} hn b hb=>
  ⟨hn b hb,(J0.ok.exf b hb).1,J0.ok.exfs b hb, .inl hb,(J0.ok.exf b hb).2,λp hp=>absurd (show p∈([]:List (Addr×Obj))from hp) (by simp)⟩
 have loop:codeAny (model X.prog X.w) X.A (.compLoop (.ListComp elt [⟨tg,iter,ifs,0⟩] scope pos) 0 (.ref it) (.ref l) (compEnvC scope cl C X.env))
  (compPost (model X.prog X.w) X.A X.xe (some (assign (.Name y py) X.env)) (λ_ s'=>∃σ' H',Inv X pins σ' H' s'/\D.nx σ' H') (.ref l) C) {s3 with heap:=h₁,toks:=s3.toks+([]:List (Str×Value)).length}:=by
  refine zeS (λn s'=>∃i ys σ' H',Inv (zas X N' scope cl C s3 (upd H2 l (.lst [])) fp) [] σ' H' s'/\tn i s'.heap/\(∀b∈fp,H' b=none)/\H' l=some (.lst ys)/\W i n ys σ' H') ?_ m0
   ⟨0,[],_,_,J0,st4,λb hb=>(f3 b hb).1,zd,w0⟩
  rintro n s5 ⟨i,ys,σ5,H5,I5,st5,fr5,hl5,w5⟩
  rcases turn i n ys σ5 H5 w5 hl5 with⟨stop,qn⟩|⟨go,N,hN,step⟩
  ·refine thn (T.done (zas X N' scope cl C s3 (upd H2 l (.lst [])) fp) rfl rfl rfl hc i [] s5 σ5 H5 (λ_ _=>False) I5 (stat fr5) st5 stop) λr s6 ⟨hr,I6⟩=>?_
   subst hr
   obtain⟨m,hn,_⟩:=I6.loc
   have hCs:s3.heap.objs.size<=C:=by rw[←hC];exact ζu _
   have I7:Inv X pins σ H5 s6:=zge (h':=s6.heap) I3 f3 hCs I6 ⟨rfl,λ_ _=>rfl⟩
   have fC:ze2 X pins H5 C:=I3.fpOk hCs I6.free
   obtain⟨oC,eC,dC⟩:∃o,s6.heap.get? C=some o/\∀v,o.data≠ .cell v:=by
    obtain⟨o,e,d⟩:=zp5 hn
    exact⟨o,e,d⟩
   have I8:=I7.pinned (fp:=[C]) (λb hb=>by rw[List.mem_singleton.mp hb];exact fC) (λb hb=>by rw[List.mem_singleton.mp hb];exact⟨oC,eC,dC⟩)
   refine wpAny_assign_Name (zd3 (v:= .ref l) I8 hN hk (.inl hx) rfl (λs9 I9=>?_) (.inr hx))
   have p9:=(I9.pin (C,oC) (List.mem_append_right _ (List.mem_append_right _ (zbP (List.mem_singleton.mpr rfl) eC)))).1
   refine⟨m,zn8 hn eC p9,λh' hsb=>⟨_,H5,?_,qn⟩⟩
   obtain⟨f0,f1,f2,f3',f4,f5⟩:=fC
   exact I9.unpinned.turned (t':=s9.toks) (λb o hb e=>(hsb.2 b hb).trans e) f0 f1 f3' f4 f5
  ·refine thn (T.item (zas X N' scope cl C s3 (upd H2 l (.lst [])) fp) rfl rfl rfl hc i [] s5 σ5 H5 (λ_ _=>False) I5 (stat fr5) st5 go) λr s6 ⟨u,hr,h6⟩=>?_
   subst hr
   refine thn h6 λ_ s7 ⟨x,H7,I7,r7,y7,st7,fr7⟩=>?_
   have I7':=I7.pinned (stat fr7) (T.obj _ _ st7)
   refine thn (hg cl C s3 _ fp _ s7 σ5 H7 x u _ I7' r7 (step x H7 y7)) λ_ s8 ⟨σ8,H8,I8,q8⟩=>?_
   refine thn (ht cl C s3 _ fp _ s8 σ8 H8 _ I8 q8) λb s9 ⟨H9,I9,q9⟩=>?_
   have back:∀{s':Shared} {H':Hp},Inv (zas X N' scope cl C s3 (upd H2 l (.lst [])) fp) ([]++zfo fp s7.heap) σ8 H' s'->tn (i+1) s'.heap/\∀b∈fp,H' b=none:=λ{s' H'} I'=>by
    refine⟨T.keep _ _ _ st7 λb hb o e=>(I'.pin (b,o) (List.mem_append_right _ (List.mem_append_right _ (zbP hb e)))).1,λb hb=>?_⟩
    obtain⟨o,e,d⟩:=T.obj _ _ st7 b hb
    exact(I'.pin (b,o) (List.mem_append_right _ (List.mem_append_right _ (zbP hb e)))).2.1
   cases b with
   |false=>
    obtain⟨hl9,n9⟩:=q9
    obtain⟨m',hm,w9⟩:=hN _ _ _ n9
    obtain⟨t9,fr9⟩:=back I9
    exact⟨m',hm,i+1,ys,σ8,H9,I9.unpinned,t9,fr9,hl9,w9⟩
   |true=>
    refine thn (he cl C s3 _ fp _ s9 σ8 H9 _ I9 q9) λxv s10 ⟨y,H10,I10,r10,hl10,hz,n10⟩=>?_
    obtain⟨m',hm,w10⟩:=hN _ _ _ n10
    refine thn (zaM (X:=zas X N' scope cl C s3 (upd H2 l (.lst [])) fp) _ s10 σ8 H10 (.ref l) [y] (.ref l) [xv] (λv H'=>H'=upd H10 l (.lst (ys ++ [y]))) I10 rfl (.cons r10 .nil) ⟨l,ys,y,rfl,rfl,hl10,hz,rfl⟩) λ_ s11 ⟨_,H11,I11,_,e11⟩=>?_
    subst e11
    obtain⟨t11,fr11⟩:=back I11
    exact⟨m',hm,i+1,ys ++ [y],σ8,_,I11.unpinned,t11,fr11,zd,w10⟩
 exact codeAny_compStart_list loop (T.self _ 0 _ _ _ st4 loop)
theorem zbU(k:Nat)(ok:CompOk X.N osc N' src scope)(hsc:X.env.scope=osc)(hc:X.calm=true)(hN:X.N.Nodup)(hi:QI X tg iter wi)
 (hg:∀cl C s₀ H₀ fp,QG (zas X N' scope cl C s₀ H₀ fp) tg g) (ht:∀cl C s₀ H₀ fp,QF (zas X N' scope cl C s₀ H₀ fp) ifs tc) (he:∀cl C s₀ H₀ fp,QE (zas X N' scope cl C s₀ H₀ fp) elt te)
 (hk:X.N[k]?=some y:=by rfl) (hx:X.env.scope.names.lookup y=some .local:=by rfl) (hsw:swapsWith (.ListComp elt [⟨tg,iter,ifs,0⟩] scope pos) (some (.Name y py)) spos.line X.env=pure true:=by rfl)
 (hs:∀x,foldedSetIterable iter X.env x=pure x:=by intro _;rfl):QS X (.Assign [.Name y py] (.ListComp elt [⟨tg,iter,ifs,0⟩] scope pos) spos) (zgK (zkj wi g tc te src) (zaE k)):=
 ⟨zjA ok hsc hc hi.o (λcl C s₀ H₀ fp=>(hg cl C s₀ H₀ fp).o) (λcl C s₀ H₀ fp=>(ht cl C s₀ H₀ fp).o) (λcl C s₀ H₀ fp=>(he cl C s₀ H₀ fp).o) hN hk hx hsw hs⟩
end
section
variable{X:Cx}{e o i tg:Expr}{te to ti:TE}{g:TG}{pos:Pos}{x:Str}{t:zod}
theorem zdA(he:QE X e te)(hg:QG X tg g)(hs:swapsWithSole [tg] e pos.line X.env=pure false:=by rfl)(hw:swappedStores [tg] e X.env=pure none:=by rfl)
 (h1:(assignEach [tg] X.env).map (·.2)=[assign tg X.env]:=by rfl):QS X (.Assign [tg] e pos) (zgK te g):=⟨zql he.o hg.o hs hw h1⟩
theorem znj(ho:QE X o to)(hi:QE X i ti)(hs:zqa X t)(ha:∀v,assign (.Subscript o i pos) X.env v=(do
 let ov ←holding [v] (eval o X.env)
 let iv ←holding [v,ov] (eval i X.env)
 standAt pos
 holding [v,ov,iv] (setItem ov iv v)
 release [v,ov,iv] []):=by intro _;rfl):QG X (.Subscript o i pos) (zqP to ti t):=⟨zqp ho.o hi.o hs ha⟩
theorem zcX(k:Nat)(hN:X.N.Nodup)(hi:X.N[k]?=some x:=by rfl)(hx:X.env.scope.names.lookup x=some .cell:=by rfl)(hf:X.fn x=true:=by rfl):QG X (.Name x pos) (zaE k):=⟨zk2 hN hi (.inr hx) (.inl hf)⟩
end
noncomputable def zrl(t u:TS):TS:=λD σ H=>∃R:St->Hp->Prop,t {D with nx:=R} σ H/\∀σ' H',R σ' H'->u D σ' H'
theorem zb5{X:Cx}{st:Stmt}{sts:List Stmt}{sa sb:TS}(h1:QS X st sa)(h2:QB X sts sb):QB X (st::sts) (zrl sa sb):=by
 refine⟨λpins s σ H D I h=>?_⟩
 obtain⟨R,ha,hb⟩:=h
 have h3:PSs X sts (λD' σ' H'=>D'=D/\R σ' H'):=λpins s σ' H' D' I h=>by
  obtain⟨rfl,hR⟩:=h
  exact h2.o pins s σ' H' D' I (hb σ' H' hR)
 have e:(λσ' H'=>D=D/\R σ' H')=R:=by
  funext σ' H'
  simp
 refine zjk h1.o h3 pins s σ H D I ?_
 show sa {D with nx:=λσ' H'=>D=D/\R σ' H'} σ H
 rw[e]
 exact ha
section
variable{X:Cx}
theorem zna(z:Str):zfX z 1=z:=by
 unfold zfX
 simp
theorem ziU:OpR X (binaryOp .Mult) (λx y H Q=>∃z n,x= .str z/\y= .int n/\1<=n/\n<=1000/\0<z.length/\z.length<=1000/\Q (.str (zfX z n.toNat)) H):=by
 intro pins s σ H x y v u Q I rx ry h
 obtain⟨z,n,rfl,rfl,h1,h2,h3,h4,q⟩:=h
 by_cases h:1<n
 ·exact zjS pins s σ H _ _ v u Q I rx ry ⟨z,n,rfl,rfl,h,h2,h3,h4,q⟩
 ·have e:n=1:=by omega
  subst e
  obtain⟨t,rfl⟩:=rx
  obtain⟨t',rfl⟩:=ry
  refine PySem.P.mul_str (by decide) (λ_ z=>by simp at z) (λ_ z=>by simp at z) ?_
  simp only[show¬(1:Int)<1 by decide,if_false,beq_self_eq_true,Bool.true_or,if_true]
  refine⟨.str _,H,I,⟨_,rfl⟩,?_⟩
  have e:zfX z (1:Int).toNat=z:=zna z
  rw[e] at q
  exact q
end
section
variable{X:Cx}{K:PySem.W.Frag}
theorem za6(h:X.K=K):IxR X (zj7 K):=by subst h;exact ix_tup
theorem zkV(h:X.K=K):IxR X (rIx K):=by subst h;exact zhq
theorem zjx(h:X.K=K):OpR X (compareOp .In) (rIn K false):=by subst h;exact zef
theorem zeq(h:X.K=K):OpR X (compareOp .NotIn) (rIn K true):=by subst h;exact zcV
theorem zgw(h:X.K=K):CallR X (.type "tuple") (λxs H Q=>∃p ys,xs=[.ref p]/\((SqL K H p ys/\∀l,H l=none->Q (.ref l) (upd H l (.tup ys)))\/(SqT K H p ys/\Q (.ref p) H))):=by subst h;exact zab
theorem zE:CallR X (.builtin "len") (λxs H Q=>(∃p ys,xs=[.ref p]/\(SqL X.K H p ys\/SqT X.K H p ys)/\Q (.int ys.length) H)\/∃z,xs=[.str z]/\z.length<=sizeLine/\Q (.int z.length) H):=call_len_seq.or zhI
theorem zjG(h:X.K=K):CallR X (.builtin "len") (λxs H Q=>(∃p ys,xs=[.ref p]/\(SqL K H p ys\/SqT K H p ys)/\Q (.int ys.length) H)\/∃z,xs=[.str z]/\z.length<=sizeLine/\Q (.int z.length) H):=by subst h;exact zE
theorem zfa(n:Nat){k:Nat}{es:List Expr}{pos:Pos}{tgs:TGs}(hK:X.K=K)(hc:X.calm=true)(h:QGs X es tgs)(hn:(assignEach es X.env).length=n:=by rfl)(hst:(assignEach es X.env).findIdx? (·.1)=none:=by rfl):QG X (.Tuple es k pos) (zpZ K n tgs):=by subst hK;exact zc5 n hc h hn hst
end
end L2
namespace RW
open PySem PySem.Spec PyProof.Rows L2
noncomputable def za7(c:Nat):Bool:=decide (97<=c)&&decide (c<=122)
noncomputable def takenL:List Str:=["if","and","not","never"]
noncomputable def zi(x:Str):Bool:=decide (1<=x.length)&&decide (x.length<=8)&&x.cps.toList.all za7&&!(takenL.any λy=>decide (y=x))
def Hand(H:Hp)(a:Addr)(n:Int):Prop:=∃x m t:Int,H a=some (.lst [.int x, .int m, .int t])/\0<=m/\m<2^63/\0<=t/\t<=n
def Keep(a:Addr)(H H':Hp):Prop:=∀b o,b≠a->H b=some o->H' b=some o
theorem Keep.refl(a:Addr)(H:Hp):Keep a H H:=λ_ _ _ h=>h
theorem Keep.trans{a:Addr}{H H1 H2:Hp}(x:Keep a H H1)(y:Keep a H1 H2):Keep a H H2:=λb o n h=>y b o n (x b o n h)
theorem Keep.upd(a:Addr)(H:Hp)(o:HO):Keep a H (upd H a o):=λb u n h=>by rw[zr n];exact h
theorem Keep.new{a p:Addr}{H:Hp}{o:HO}(h:H p=none):Keep a H (L2.upd H p o):=λb u n e=>by rw[zr (zB e h)];exact e
theorem Keep.of{a:Addr}{H H':Hp}(h:Same H H'):Keep a H H':=λb o _ e=>h b o e
theorem Hand.ne{H:Hp}{a p:Addr}{n:Int}(h:Hand H a n)(e:H p=none):p≠a:=by
 obtain⟨x,m,t,h,_⟩:=h
 exact λz=>by rw[z,h] at e;cases e
theorem Hand.new{H:Hp}{a p:Addr}{n:Int}{o:HO}(h:Hand H a n)(e:H p=none):Hand (upd H p o) a n:=by
 have ne:=h.ne e
 obtain⟨x,m,t,h,r⟩:=h
 exact⟨x,m,t,by rw[zr (Ne.symm ne)];exact h,r⟩
theorem Hand.same{H H':Hp}{a:Addr}{n:Int}(h:Hand H a n)(s:Same H H'):Hand H' a n:=by
 obtain⟨x,m,t,h,r⟩:=h
 exact⟨x,m,t,s _ _ h,r⟩
theorem Hand.mono{H:Hp}{a:Addr}{n n':Int}(h:Hand H a n)(l:n<=n'):Hand H a n':=by
 obtain⟨x,m,t,h,h1,h2,h3,h4⟩:=h
 exact⟨x,m,t,h,h1,h2,h3,by omega⟩
theorem Keep.sqL{K:PySem.W.Frag}{a b:Addr}{H H':Hp}{xs:List V}(k:Keep a H H')(n:b≠a)(h:SqL K H b xs):SqL K H' b xs:=by
 rcases h with(h|⟨o,h⟩)|h
 ·exact .inl (.inl (k _ _ n h))
 ·exact .inl (.inr ⟨o,k _ _ n h⟩)
 ·exact .inr h
theorem Hand.updNe{H:Hp}{a p:Addr}{n:Int}{o:HO}(h:Hand H a n)(e:p≠a):Hand (upd H p o) a n:=by
 obtain⟨x,m,t,h,r⟩:=h
 exact⟨x,m,t,by rw[zr (Ne.symm e)];exact h,r⟩
theorem Keep.updNew{a p:Addr}{H H':Hp}{o:HO}(k:Keep a H H')(e:H p=none):Keep a H (L2.upd H' p o):=λb u n h=>by
 rw[zr (zB h e)]
 exact k b u n h
noncomputable def lettersS:Str:="abcdefghijklmnopqrstuvwxyz"
noncomputable def one(c:Nat):Str:=⟨#[c]⟩
theorem Same.new{H:Hp}{p:Addr}{o:HO}(h:H p=none):Same H (L2.upd H p o):=λb u e=>by rw[zr (zB e h)];exact e
structure At(K:PySem.W.Frag)(mg:Str->Option Value)(x:Str)(st:Stmt)(ps:List Str)(f:Addr)(fd:FuncData):Prop where
 fn:Fun K x x st f fd
 b:Binds K fd ps []
 mg:mg x=some (.ref f)
 kp:PySem.W.keepIn K (.ref f)=true
theorem zeh{α:Type}{xs:List α}{d:Int}(h0:0<=d)(h1:d<xs.length):∃v,atI xs d=some v/\v∈xs:=by
 obtain⟨k,rfl⟩:∃k:Nat,d=(k:Int):=⟨d.toNat,by omega⟩
 have hk:k<xs.length:=by omega
 exact⟨xs[k],zz (by simp[hk]),List.getElem_mem hk⟩
theorem at0{α:Type}{x:α}{xs:List α}:atI (x::xs) 0=some x:=zz (j:=0) rfl
theorem at1{α:Type}{x y:α}{xs:List α}:atI (x::y::xs) 1=some y:=zz (j:=1) rfl
theorem tru{b:Bool}(h:¬b=true):b=false:=by simpa using h
inductive D where
 |non|bl (b:Bool)|int (i:Int)|str (x:Str)|tup (ds:List D)|oth
inductive Rep(H:Hp):V->D->Prop where
 |non:Rep H .non .non
 |bl (b:Bool):Rep H (.bl b) (.bl b)
 |int (i:Int):Rep H (.int i) (.int i)
 |str (x:Str) (h:x.length<=1000):Rep H (.str x) (.str x)
 |tup {p:Addr} {vs:List V} {ds:List D} (h:H p=some (.tup vs)) (l:vs.length=ds.length) (b:ds.length<=1000) (r:∀(i:Nat) (v:V) (d:D),vs[i]?=some v->ds[i]?=some d->Rep H v d):Rep H (.ref p) (.tup ds)
 |lst {p:Addr} {vs:List V} (h:H p=some (.lst vs)):Rep H (.ref p) .oth
 |dK {p:Addr} {kvs:List (Key×V)} (h:H p=some (.dK kvs)):Rep H (.ref p) .oth
structure Mono(H H':Hp):Prop where
 tup:∀p xs,H p=some (.tup xs)->H' p=some (.tup xs)
 lst:∀p xs,H p=some (.lst xs)->∃ys,H' p=some (.lst ys)
 dK:∀p xs,H p=some (.dK xs)->∃ys,H' p=some (.dK ys)
theorem Mono.trans{H H1 H2:Hp}(a:Mono H H1)(b:Mono H1 H2):Mono H H2:=⟨λp xs h=>b.tup p xs (a.tup p xs h),λp xs h=>let ⟨ys,e⟩:=a.lst p xs h;b.lst p ys e,λp xs h=>let ⟨ys,e⟩:=a.dK p xs h;b.dK p ys e⟩
theorem Mono.of{H H':Hp}(s:Same H H'):Mono H H':=⟨λp xs h=>s _ _ h,λp xs h=>⟨xs,s _ _ h⟩,λp xs h=>⟨xs,s _ _ h⟩⟩
theorem Mono.new{H:Hp}{p:Addr}{o:HO}(h:H p=none):Mono H (upd H p o):= .of (Same.new h)
theorem Mono.lset{H:Hp}{p:Addr}{xs ys:List V}(h:H p=some (.lst xs)):Mono H (upd H p (.lst ys)):=by
 refine⟨λq zs e=>?_,λq zs e=>?_,λq zs e=>?_⟩
 ·by_cases hq:q=p
  ·subst hq;rw[h] at e;cases e
  ·rw[zr hq];exact e
 ·by_cases hq:q=p
  ·subst hq;exact⟨ys,zd⟩
  ·rw[zr hq];exact⟨zs,e⟩
 ·by_cases hq:q=p
  ·subst hq;rw[h] at e;cases e
  ·rw[zr hq];exact⟨zs,e⟩
theorem Mono.keep{H H':Hp}{a:Addr}{n m:Int}(k:Keep a H H')(h:Hand H a n)(h':Hand H' a m):Mono H H':=by
 obtain⟨x,y,z,h,_⟩:=h
 obtain⟨x',y',z',h',_⟩:=h'
 refine⟨λq zs e=>?_,λq zs e=>?_,λq zs e=>?_⟩
 ·exact k q _ (λhq=>by subst hq;rw[h] at e;cases e) e
 ·by_cases hq:q=a
  ·subst hq;exact⟨_,h'⟩
  ·exact ⟨zs,k q _ hq e⟩
 ·exact ⟨zs,k q _ (λhq=>by subst hq;rw[h] at e;cases e) e⟩
theorem Rep.mono{H H':Hp}{v:V}{d:D}(h:Rep H v d)(m:Mono H H'):Rep H' v d:=by
 induction h with
 |non=>exact .non
 |bl b=>exact .bl b
 |int i=>exact .int i
 |str x h=>exact .str x h
 |tup h l b _ ih=>exact .tup (m.tup _ _ h) l b ih
 |lst h=>obtain ⟨ys,e⟩:=m.lst _ _ h;exact .lst e
 |dK h=>obtain ⟨ys,e⟩:=m.dK _ _ h;exact .dK e
theorem Rep.same{H H':Hp}{v:V}{d:D}(h:Rep H v d)(s:Same H H'):Rep H' v d:=h.mono (.of s)
def RepL(H:Hp)(vs:List V)(ds:List D):Prop:=vs.length=ds.length/\∀(i:Nat) (v:V) (d:D),vs[i]?=some v->ds[i]?=some d->Rep H v d
theorem RepL.nil{H:Hp}:RepL H [] []:=⟨rfl,λi v d e=>by simp at e⟩
theorem RepL.cons{H:Hp}{v:V}{d:D}{vs:List V}{ds:List D}(h:Rep H v d)(r:RepL H vs ds):RepL H (v::vs) (d::ds):=by
 refine⟨by simp[r.1],λi w e h1 h2=>?_⟩
 cases i with
 |zero=>simp at h1 h2;subst h1;subst h2;exact h
 |succ i=>exact r.2 i w e (by simpa using h1) (by simpa using h2)
theorem RepL.head{H:Hp}{v:V}{d:D}{vs:List V}{ds:List D}(r:RepL H (v::vs) (d::ds)):Rep H v d/\RepL H vs ds:=
 ⟨r.2 0 v d rfl rfl,by have:=r.1;simp at this;exact this,λi w e h1 h2=>r.2 (i+1) w e (by simpa using h1) (by simpa using h2)⟩
theorem RepL.mono{H H':Hp}{vs:List V}{ds:List D}(r:RepL H vs ds)(m:Mono H H'):RepL H' vs ds:=⟨r.1,λi v d h1 h2=>(r.2 i v d h1 h2).mono m⟩
theorem RepL.append{H:Hp}{vs us:List V}{ds es:List D}(r:RepL H vs ds)(q:RepL H us es):RepL H (vs ++us) (ds ++es):=by
 refine⟨by rw[ζe,ζe,r.1,q.1],λi v d h1 h2=>?_⟩
 by_cases hi:i<vs.length
 ·rw[List.getElem?_append_left hi] at h1
  rw[List.getElem?_append_left (by rw[←r.1];exact hi)] at h2
  exact r.2 i v d h1 h2
 ·rw[List.getElem?_append_right (by omega)] at h1
  rw[List.getElem?_append_right (by rw[←r.1];omega),←r.1] at h2
  exact q.2 _ v d h1 h2
theorem RepL.take{H:Hp}{vs:List V}{ds:List D}(r:RepL H vs ds)(n:Nat):RepL H (vs.take n) (ds.take n):=by
 refine⟨by rw[ζm,ζm,r.1],λi v d h1 h2=>?_⟩
 rw[List.getElem?_take] at h1 h2
 split at h1
 ·rename_i h;rw[if_pos h] at h2;exact r.2 i v d h1 h2
 ·cases h1
theorem RepL.drop{H:Hp}{vs:List V}{ds:List D}(r:RepL H vs ds)(n:Nat):RepL H (vs.drop n) (ds.drop n):=by
 refine⟨by rw[ζr,ζr,r.1],λi v d h1 h2=>?_⟩
 rw[List.getElem?_drop] at h1 h2
 exact r.2 _ v d h1 h2
theorem RepL.get{H:Hp}{vs:List V}{ds:List D}{i:Nat}{v:V}(r:RepL H vs ds)(h:vs[i]?=some v):∃d,ds[i]?=some d/\Rep H v d:=by
 have hi:i<vs.length:=by
  rcases ξa i vs.length with q|q
  ·exact q
  ·rw[ζi q] at h;cases h
 have hd:i<ds.length:=by rw[←r.1];exact hi
 exact⟨ds[i],by simp[hd],r.2 i v _ h (by simp[hd])⟩
theorem Rep.mkL{H:Hp}{p:Addr}{vs:List V}{ds:List D}(h:H p=some (.tup vs))(b:ds.length<=1000)(r:RepL H vs ds):Rep H (.ref p) (.tup ds):= .tup h r.1 b r.2
theorem Rep.ofT{H:Hp}{v:V}{ds:List D}(h:Rep H v (.tup ds)):∃p vs,v= .ref p/\H p=some (.tup vs)/\RepL H vs ds/\ds.length<=1000:=by
 cases h with
 |tup h l b r=>exact ⟨_,_,rfl,h,⟨l,r⟩,b⟩
theorem Rep.of2{H:Hp}{v:V}{d e:D}(h:Rep H v (.tup [d,e])):∃p x y,v= .ref p/\H p=some (.tup [x,y])/\Rep H x d/\Rep H y e:=by
 obtain⟨p,vs,rfl,hp,r,_⟩:=h.ofT
 match vs,r with
 |[x,y],r=>exact ⟨p,x,y,rfl,hp,r.head.1,r.head.2.head.1⟩
 |[],r=>exact absurd r.1 (by simp)
 |[_],r=>exact absurd r.1 (by simp)
 |_::_::_::_,r=>exact absurd r.1 (by simp)
theorem Rep.mk1{H:Hp}{p:Addr}{x:V}{d:D}(h:H p=some (.tup [x]))(a:Rep H x d):Rep H (.ref p) (.tup [d]):= .mkL h (by simp) (.cons a .nil)
theorem Rep.mk2{H:Hp}{p:Addr}{x y:V}{d e:D}(h:H p=some (.tup [x,y]))(a:Rep H x d)(b:Rep H y e):Rep H (.ref p) (.tup [d,e]):= .mkL h (by simp) (.cons a (.cons b .nil))
noncomputable def zqw:D->Bool| .tup _=>true|_=>false
noncomputable def zqx:D->Bool| .int _=>true| .bl _=>true|_=>false
noncomputable def zqG:D->Bool| .bl _=>true|_=>false
noncomputable def zpU:D->Bool| .str _=>true|_=>false
theorem Rep.isi{K:PySem.W.Frag}{H:Hp}{v:V}{d:D}(h:Rep H v d):∃t,TyOf K H v t/\PySem.W.kitOne K t (.type "tuple")=some (zqw d)/\PySem.W.kitOne K t (.type "int")=some (zqx d)/\PySem.W.kitOne K t (.type "bool")=some (zqG d)/\PySem.W.kitOne K t (.type "str")=some (zpU d):=by
 cases h with
 |non=>exact ⟨_, .non,rfl,rfl,rfl,rfl⟩
 |bl b=>exact ⟨_, .bl b,rfl,rfl,rfl,rfl⟩
 |int i=>exact ⟨_, .int i,rfl,rfl,rfl,rfl⟩
 |str x _=>exact ⟨_, .str x,rfl,rfl,rfl,rfl⟩
 |tup h _ _ _=>exact ⟨_, .tup h,rfl,rfl,rfl,rfl⟩
 |lst h=>exact ⟨_, .lst h,rfl,rfl,rfl,rfl⟩
 |dK h=>exact ⟨_, .dK h,rfl,rfl,rfl,rfl⟩
noncomputable def zeA:D->Bool| .int _=>true|_=>false
noncomputable def zf7(d:D)(lo hi:Int):Bool:=match d with| .int i=>decide (lo<=i)&&decide (i<=hi)|_=>false
noncomputable def zaW(d:D)(lo hi:Int):Bool:=match d with| .tup ds=>decide (lo<=(ds.length:Int))&&decide ((ds.length:Int)<=hi)|_=>false
noncomputable def headStrB:D->Bool| .tup (.str _::_)=>true|_=>false
noncomputable def zaB:D->Bool| .str x=>zi x|_=>false
noncomputable def namingL:List Str:=["by","from","to","mark"]
noncomputable def zP:D->Bool
 | .tup [.str w,x]=>if w="long"then zf7 x 0 99 else(namingL.any λy=>decide (y=w))&&zaB x
 |_=>false
noncomputable def zN(d:D):Bool:=match d with
 | .tup [.str w,x]=>if w="not"then zP x else zP d
 |_=>false
noncomputable def zbx:D->Bool| .tup ds=>decide (ds.length<=4)&&ds.all zN|_=>false
noncomputable def zfJ:D->Bool| .tup [.str w,_]=>decide (w="to")|_=>false
noncomputable def zeO:D->Bool| .tup [.str w,x]=>if w="not"then zfJ x else decide (w="to")|_=>false
noncomputable def zdx:D->Bool| .non=>true|d=>zf7 d (-999) 999
noncomputable def zfW:D->Bool| .tup ds=>ds.any zeO|_=>false
noncomputable def zaF:D->Bool| .tup [c,x]=>zbx c&&zdx x&&!zfW c|_=>false
noncomputable def zc9:D->Bool
 | .tup [.str w]=>decide (w="keep")
 | .tup [.str w,x]=>(decide (w="put")||decide (w="strike"))&&zaB x
 |_=>false
noncomputable def zbj:D->Bool| .tup [c,x]=>zbx c&&zc9 x|_=>false
theorem zrw(c:Nat):decide (({cps:= #[c]}:Str).cps.toList<(Str.ofString "a").cps.toList)=decide (c<97):=by
 have e:(Str.ofString "a").cps.toList=[97]:=by decide +kernel
 rw[e]
 show decide ([c]< [97])=_
 by_cases h:c<97
 ·rw[ζf h]
  exact ζf (List.cons_lt_cons_iff.mpr (.inl h))
 ·rw[ζo h]
  refine ζo λz=>?_
  rcases List.cons_lt_cons_iff.mp z with q|⟨_,q⟩
  ·exact h q
  ·exact absurd q (by simp)
theorem zrs(c:Nat):decide ((Str.ofString "z").cps.toList<({cps:= #[c]}:Str).cps.toList)=decide (122<c):=by
 have e:(Str.ofString "z").cps.toList=[122]:=by decide +kernel
 rw[e]
 show decide ([122]< [c])=_
 by_cases h:122<c
 ·rw[ζf h]
  exact ζf (List.cons_lt_cons_iff.mpr (.inl h))
 ·rw[ζo h]
  refine ζo λz=>?_
  rcases List.cons_lt_cons_iff.mp z with q|⟨_,q⟩
  ·exact h q
  ·exact absurd q (by simp)
theorem ze7{w:Str}{x:D}:zP (.tup [.str w,x])=if w="long"then zf7 x 0 99 else(namingL.any λy=>decide (y=w))&&zaB x:=rfl
theorem zej{w:Str}{x:D}:zN (.tup [.str w,x])=if w="not"then zP x else zP (.tup [.str w,x]):=rfl
theorem zie{ds:List D}:zbx (.tup ds)=(decide (ds.length<=4)&&ds.all zN):=rfl
theorem zle{c x:D}:zaF (.tup [c,x])=(zbx c&&zdx x&&!zfW c):=rfl
theorem zog{c x:D}:zbj (.tup [c,x])=(zbx c&&zc9 x):=rfl
theorem zpQ{w:Str}{x:D}:zc9 (.tup [.str w,x])=((decide (w="put")||decide (w="strike"))&&zaB x):=rfl
theorem zc7{x:Str}:zaB (.str x)=zi x:=rfl
theorem zZ{x y:Str}:decide (V.str x=V.str y)=decide (x=y):=by
 by_cases h:x=y
 ·subst h;rw[ζf rfl,ζf rfl]
 ·rw[ζo h,ζo λz=>h (V.str.inj z)]
theorem zc4(d:D)(h:zP d=true):∃x e,d= .tup [.str x,e]:=by
 unfold zP at h
 split at h
 ·exact ⟨_,_,rfl⟩
 ·cases h
theorem zhk(d:D)(h:zN d=true):∃x e,d= .tup [.str x,e]:=by
 unfold zN at h
 split at h
 ·exact ⟨_,_,rfl⟩
 ·cases h
theorem zdE{e:D}:zP (.tup [.str "not",e])=false:=by
 have h1:¬("not":Str)="long":=by decide +kernel
 have h2:(namingL.any λy=>decide (y=("not":Str)))=false:=by decide +kernel
 rw[ze7,if_neg h1,h2];rfl
theorem zbO{α:Type}{ds:List α}{g:α->Bool}:(ds.map g).all id=ds.all g:=by rw[List.all_map];rfl
noncomputable def ziS(g:D->Bool):Sp:=λvs H Q _=>∃v d,vs=[v]/\Rep H v d/\∀H',Same H H'->Q (.bl (g d)) H'
theorem zbw{xs:List V}{n:Nat}:zaY xs none (some (n:Int))=xs.take n:=by
 unfold zaY
 have e1:HT.sIx xs.length 0 none=0:=rfl
 have e2:HT.sIx xs.length xs.length (some (n:Int))=min n xs.length:=by
  unfold HT.sIx
  have h:¬(n:Int)<0:=by omega
  simp only[if_neg h,Int.toNat_natCast]
 rw[e1,e2,List.drop_zero,Nat.sub_zero,List.take_eq_take_iff]
 omega
theorem zev{N:Nat}{a:Addr}{m c:Int}{Pd:Nat->D->Prop}{H:Hp}{te:TE}{src:List (Option Nat)}{σ σr:L2.St}{Q:VK}(hs:zel src σ=none::σr)(hH:Hand H a m)(hN:N<=900)(hc:0<=c)
 (he:∀(i:Nat) (H1:Hp) (Q1:VK),i<N->Hand H1 a (m+c*i)->Keep a H H1->(∀v d H2,Rep H2 v d->Pd i d->Hand H2 a (m+c*i+c)->Keep a H1 H2->Q1 v H2)->te (some (.int (i:Int))::σr) H1 Q1)
 (q:∀l vs ds H',H l=none->H' l=some (.lst vs)->RepL H' vs ds->ds.length=N->(∀i d,ds[i]?=some d->Pd i d)->Hand H' a (m+c*N)->Keep a H H'->Q (.ref l) H'):zcN (zaE 0) zlZ te src σ Q (Itr 0 N) H:=by
 refine zby zdo (λl i ys σ' H'=>(∃o,σ'=o::σr)/\(∃ds:List D,RepL H' ys ds/\ds.length=i/\∀j d,ds[j]?=some d->Pd j d)/\Hand H' a (m+c*i)/\Keep a H H') ?_ (λ_ _ _ _ _ _ _=>trivial) ?_ ?_
 ·exact λl hl=>⟨⟨_,hs⟩,⟨[],RepL.nil,rfl,λj d z=>by simp at z⟩,(hH.new hl).mono (by simp),Keep.new hl⟩
 ·rintro l i y ys σ' H1 hl hi rfl ⟨⟨o,rfl⟩,⟨ds,hr,hl2,hp⟩,hH1,k1⟩ hl'
  have nl:=hH.ne hl
  rw[Int.zero_add]
  refine he i H1 _ hi hH1 k1 λv d H2 rv pd hH2 k2=>?_
  have hl2':H2 l=some (.lst ys):=k2 _ _ nl hl'
  have m2:Mono H1 H2:=Mono.keep k2 hH1 hH2
  have m3:Mono H2 (upd H2 l (.lst (ys ++ [v]))):=Mono.lset hl2'
  refine⟨hl2',?_,⟨_,rfl⟩,⟨ds ++ [d],((hr.mono m2).append (.cons rv .nil)).mono m3,?_,?_⟩,(hH2.updNe nl).mono ?_,(k1.trans k2).updNew hl⟩
  ·have:=hr.1
   exact zm (by omega)
  ·rw[ζe,hl2];rfl
  ·intro j e he
   by_cases hj:j<ds.length
   ·rw[List.getElem?_append_left hj] at he
    exact hp j e he
   ·rw[List.getElem?_append_right (by omega)] at he
    have hj2:j=ds.length:=by
     rcases ξa ds.length j with z|z
     ·rw[ζi (by simp;omega)] at he;cases he
     ·omega
    subst hj2
    simp at he
    subst he
    rw[hl2];exact pd
  ·rw[show((i+1:Nat):Int)=(i:Int)+1 by omega,Int.mul_add,Int.mul_one]
   omega
 ·rintro l ys σ' H1 hl ⟨⟨o,rfl⟩,⟨ds,hr,hl2,hp⟩,hH1,k1⟩ hl'
  exact q l ys ds H1 hl hl' hr hl2 hp hH1 k1
theorem zjh{J:It}{vs:List V}{ds:List D}{g:D->Bool}{ok:Hp->Prop}{H:Hp}{te:TE}{src:List (Option Nat)}{σ:L2.St}{Q:VK}(wk:Wk J vs.length (λi x=>vs[i]?=some x) ok)(hok:∀H',Same H H'->ok H')(r:RepL H vs ds)(hl:ds.length<=1000)(e:zel src σ=[none])
 (he:∀(x:V) (d:D) (H1:Hp) (Q1:VK),Same H H1->Rep H1 x d->d∈ds->(∀H2,Same H1 H2->Q1 (.bl (g d)) H2)->te [some x] H1 Q1)
 (q:∀l H',Same H H'->H l=none->H' l=some (.lst ((ds.map g).map V.bl))->Q (.ref l) H'):zcN (zaE 0) zlZ te src σ Q J H:=by
 refine zby wk (λl i ys σ' H'=>(∃o,σ'=[o])/\ys=((ds.take i).map g).map V.bl/\Same H H') ?_ ?_ ?_ ?_
 ·exact λl h'=>⟨⟨none,e⟩,rfl,Same.new h'⟩
 ·exact λl i ys σ' H' _ p=>hok H' p.2.2
 ·rintro l i y ys σ' H1 h' hi hy ⟨⟨o,rfl⟩,rfl,s1⟩ hl'
  obtain⟨d,hd,rd⟩:=r.get hy
  refine he y d H1 _ s1 (rd.same s1) (ζl hd) λH2 s2=>?_
  refine⟨s2 _ _ hl',?_,⟨_,rfl⟩,?_,?_⟩
  ·rw[ζa,ζa,ζm]
   exact zm (by omega)
  ·rw[List.take_add_one,hd]
   simp
  ·exact λc o e=>by
    rw[zr (zB e h')]
    exact s2 _ _ (s1 _ _ e)
 ·rintro l ys σ' H1 h' ⟨⟨o,rfl⟩,rfl,s1⟩ hl'
  rw[r.1,List.take_length] at hl'
  exact q l H1 s1 h' hl'
end RW
namespace L2
open PySem PySem.Spec PyProof.Rows
open Sem (wp)
open MeetsSeq MeetsSeq2 MeetsSeq3 Builtin
end L2
namespace L2
open PySem PySem.Spec PyProof.Rows
end L2
namespace RW
open PySem PySem.Spec PyProof.Rows L2
def Dsp(te:TE)(σ:L2.St)(H:Hp)(d:D):Prop:=∀(H1:Hp) (Q:VK),Same H H1->(∀v H2,Same H1 H2->Rep H2 v d->Q v H2)->te σ H1 Q
def zk8(ta:TA)(σ:L2.St)(H:Hp)(ds:List D):Prop:=∀(H1:Hp) (Q:List V->Hp->Prop),Same H H1->(∀vs H2,Same H1 H2->RepL H2 vs ds->Q vs H2)->ta σ H1 Q
section
variable{te tf:TE}{ta:TA}{σ:L2.St}{H:Hp}{d:D}{ds es:List D}{K:PySem.W.Frag}
theorem zfT{x:Str}(h:x.length<=1000):Dsp (tC (.str x)) σ H (.str x):=λH1 Q s q=>q _ H1 (Same.refl _) (.str x h)
theorem zhm:Dsp (tC .non) σ H .non:=λH1 Q s q=>q _ H1 (Same.refl _) .non
theorem za9{i:Nat}{v:V}(h:σ[i]?=some (some v))(r:Rep H v d):Dsp (zb8 i) σ H d:=λH1 Q s q=>⟨v,h,q v H1 (Same.refl _) (r.same s)⟩
theorem zF:zk8 zmw σ H []:=λH1 Q s q=>q [] H1 (Same.refl _) RepL.nil
theorem zl(h:Dsp te σ H d)(r:zk8 ta σ H ds):zk8 (zfA te ta) σ H (d::ds):=λH1 Q s q=>
 h H1 _ s λv H2 s2 rv=>r H2 _ (s.trans s2) λvs H3 s3 rs=>q (v::vs) H3 (s2.trans s3) (.cons (rv.same s3) rs)
theorem zM(h:zk8 ta σ H ds)(hl:ds.length<=1000):Dsp (zpN ta) σ H (.tup ds):=λH1 Q s q=>
 h H1 _ s λvs H2 s2 rs=>⟨ξi (zm (by rw[rs.1];exact hl)),λp hp=>q _ _ (s2.trans (Same.new hp)) (.mkL zd hl (rs.mono (.new hp)))⟩
end
theorem zqb{te:TE}{σ:L2.St}{H:Hp}{d:D}{Q:VK}(h:Dsp te σ H d)(q:∀v H2,Same H H2->Rep H2 v d->Q v H2):te σ H Q:=h H Q (Same.refl H) q
section
variable{te:TE}{tr:TA}{tb:TS}{De:Ends}{σ:L2.St}{H:Hp}{ds:List D}{d:D}{k:Nat}
theorem zph(h:Dsp te σ H d)(q:∀v H2,Same H H2->Rep H2 v d->tb De (σ.set k (some v)) H2):zlu (zgK te (zaE k)) tb De σ H:=h H _ (Same.refl H) q
end
theorem zjZ{H:Hp}{a l:Addr}{n:Int}{vs:List V}{ds:List D}(h:Hand H a n)(e:H l=some (.lst vs))(r:RepL H vs ds)(h3:ds.length≠3):l≠a:=λz=>by
 obtain⟨x,m,t,hh,_⟩:=h
 rw[z,hh] at e
 cases e
 exact h3 r.1.symm
end RW
namespace RW
open PySem PySem.W PyProof.Rows L2
section
variable{α β:Type}{N:Nat}{lt:Nat->Nat->Bool}
def OkT(N:Nat)(lt:Nat->Nat->Bool){α:Type}:KasT α->(α->Prop)->Prop
 | .ret a,P=>P a
 | .ask i j k,P=>i<N/\j<N/\OkT N lt (k (lt i j)) P
theorem OkT.mono{P Q:α->Prop}(h:∀a,P a->Q a):∀{t:KasT α},OkT N lt t P->OkT N lt t Q
 | .ret a,q=>h a q
 | .ask i j k,⟨h1,h2,q⟩=>⟨h1,h2,OkT.mono h q⟩
theorem OkT.bind{f:α->KasT β}{P:β->Prop}:∀{t:KasT α},OkT N lt t (λa=>OkT N lt (f a) P)->OkT N lt (t.bind f) P
 | .ret a,q=>q
 | .ask i j k,⟨h1,h2,q⟩=>⟨h1,h2,OkT.bind q⟩
theorem OkT.wp{cmp:Nat->Nat->(Bool->Shared->Prop)->Shared->Prop}{I:Shared->Prop}(hc:∀i j (C:Bool->Shared->Prop) s,i<N->j<N->I s->(∀s',I s'->C (lt i j) s')->cmp i j C s){P:α->Prop}{Q:α->Shared->Prop}(hq:∀a s,P a->I s->Q a s):
 ∀{t:KasT α} {s:Shared},I s->OkT N lt t P->t.kasWp cmp Q s
 | .ret a,s,hs,q=>hq a s q hs
 | .ask i j k,s,hs,⟨h1,h2,q⟩=>hc i j _ s h1 h2 hs λs' hs'=>OkT.wp hc hq hs' q
noncomputable abbrev gd(p:Array Nat)(i:Nat):Nat:=p.getD i 0
structure Strict(N:Nat)(lt:Nat->Nat->Bool):Prop where
 tot:∀i j,i<N->j<N->i≠j->lt i j=false->lt j i=true
 tr:∀i j k,i<N->j<N->k<N->lt i j=true->lt j k=true->lt i k=true
 asy:∀i j,i<N->j<N->lt i j=true->lt j i=false
def PermN(N:Nat)(p:Array Nat):Prop:=p.toList.Perm (List.range N)
theorem PermN.size{p:Array Nat}(h:PermN N p):p.size=N:=by
 have:=h.length_eq
 simpa using this
theorem gd_get{p:Array Nat}{i:Nat}(h:i<p.size):gd p i=p[i]:=by simp[gd,Array.getD,h]
theorem zhu{p q:Array Nat}{i j:Nat}(h:p[i]?=q[j]?):gd p i=gd q j:=by
 simp only[gd,Array.getD_eq_getD_getElem?,h]
theorem PermN.bd{p:Array Nat}(h:PermN N p){i:Nat}(hi:i<N):gd p i<N:=by
 have hs:=h.size
 rw[gd_get (by omega)]
 have:p[i]∈p.toList:=by simp
 exact List.mem_range.mp (h.mem_iff.mp this)
theorem PermN.inj{p:Array Nat}(h:PermN N p){i j:Nat}(hi:i<N)(hj:j<N)(hij:i≠j):gd p i≠gd p j:=by
 have hs:=h.size
 have nd:p.toList.Nodup:=h.nodup_iff.mpr List.nodup_range
 rw[gd_get (by omega),gd_get (by omega)]
 intro z
 exact hij ((List.getElem_inj (i:=i) (j:=j) (h₀:=by simp;omega) (h₁:=by simp;omega) nd).mp (by simpa using z))
def Sor(lt:Nat->Nat->Bool)(p:Array Nat)(m:Nat):Prop:=∀i j,i<j->j<m->lt (gd p i) (gd p j)=true
def Des(lt:Nat->Nat->Bool)(p:Array Nat)(m:Nat):Prop:=∀i j,i<j->j<m->lt (gd p j) (gd p i)=true
theorem Sor.snoc{p:Array Nat}{n:Nat}(S:Strict N lt)(hp:PermN N p)(h:Sor lt p n)(h1:1<=n)(hn:n<N)(e:lt (gd p (n -1)) (gd p n)=true):Sor lt p (n+1):=by
 intro i j hij hj
 by_cases hjn:j<n
 ·exact h i j hij hjn
 ·have ej:j=n:=by omega
  subst ej
  by_cases hi:i=j -1
  ·subst hi;exact e
  ·exact S.tr _ _ _ (hp.bd (by omega)) (hp.bd (by omega)) (hp.bd hn) (h i (j -1) (by omega) (by omega)) e
theorem Des.snoc{p:Array Nat}{n:Nat}(S:Strict N lt)(hp:PermN N p)(h:Des lt p n)(h1:1<=n)(hn:n<N)(e:lt (gd p n) (gd p (n -1))=true):Des lt p (n+1):=by
 intro i j hij hj
 by_cases hjn:j<n
 ·exact h i j hij hjn
 ·have ej:j=n:=by omega
  subst ej
  by_cases hi:i=j -1
  ·subst hi;exact e
  ·exact S.tr _ _ _ (hp.bd hn) (hp.bd (by omega)) (hp.bd (by omega)) e (h i (j -1) (by omega) (by omega))
theorem zjI{p:Array Nat}(S:Strict N lt)(hp:PermN N p):∀f n,1<=n->n+f<=N->Sor lt p n->OkT N lt (kas_asc p f n) (λm=>n<=m/\m<=n+f/\Sor lt p m/\(m<n+f->lt (gd p m) (gd p (m -1))=true))
 |0,n,_,_,hs=>⟨ζu _,ζu _,hs,λh=>by omega⟩
 |f+1,n,h1,hn,hs=>by
  refine⟨hp.bd (by omega),hp.bd (by omega),?_⟩
  cases hc:lt (gd p n) (gd p (n -1))with
  |true=>
   show OkT N lt (if true=true then _ else _) _
   rw[if_pos rfl]
   exact⟨ζu _,by omega,hs,λ_=>hc⟩
  |false=>
   show OkT N lt (if false=true then _ else _) _
   rw[if_neg (by decide)]
   refine OkT.mono (λm hm=>⟨by omega,by omega,hm.2.2.1,λh=>hm.2.2.2 (by omega)⟩) (zjI S hp f (n+1) (by omega) (by omega) (hs.snoc S hp h1 (by omega) (S.tot _ _ (hp.bd (by omega)) (hp.bd (by omega)) (hp.inj (by omega) (by omega) (by omega)) hc)))
theorem zkG{p:Array Nat}(S:Strict N lt)(hp:PermN N p):∀f n,1<=n->n+f<=N->Des lt p n->OkT N lt (kas_desc f p n 0) (λr=>r.1=p/\n<=r.2.1/\r.2.1<=n+f/\Des lt p r.2.1/\r.2.2=0)
 |0,n,_,_,hs=>⟨rfl,ζu _,ζu _,hs,rfl⟩
 |f+1,n,h1,hn,hs=>by
  refine⟨hp.bd (by omega),hp.bd (by omega),?_⟩
  cases hc:lt (gd p n) (gd p (n -1))with
  |true=>
   show OkT N lt (if true=true then(if 0>0 then _ else _)else _) _
   rw[if_pos rfl,if_neg (by decide)]
   exact OkT.mono (λm hm=>⟨hm.1,by omega,by omega,hm.2.2.2⟩) (zkG S hp f (n+1) (by omega) (by omega) (hs.snoc S hp h1 (by omega) hc))
  |false=>
   show OkT N lt (if false=true then _ else _) _
   rw[if_neg (by decide)]
   refine⟨hp.bd (by omega),hp.bd (by omega),?_⟩
   have hd:lt (gd p (n -1)) (gd p n)=true:=S.tot _ _ (hp.bd (by omega)) (hp.bd (by omega)) (hp.inj (by omega) (by omega) (by omega)) hc
   show OkT N lt (if lt (gd p (n -1)) (gd p n)=true then _ else _) _
   rw[if_pos hd]
   exact⟨rfl,ζu _,by show n<=n+(f+1);omega,hs,rfl⟩
theorem zi6{p:Array Nat}(hp:PermN N p)(n:Nat):PermN N (kas_rev p 0 n):=(Array.perm_iff_toList_perm.mp (mirror_perm p 0 n _)).trans hp
theorem zoc{p:Array Nat}{n:Nat}(hp:PermN N p)(hn:n<=N)(h:Des lt p n):Sor lt (kas_rev p 0 n) n:=by
 have hs:=hp.size
 have e:∀k,k<n->gd (kas_rev p 0 n) k=gd p (n -1 -k):=λk hk=>by
  refine zhu ?_
  show(mirror p 0 n ((n -0)/2))[k]?=_
  rw[getElem?_mirror_all (by omega),if_pos ⟨ξk _,hk⟩,Nat.zero_add]
 intro i j hij hj
 rw[e i (by omega),e j hj]
 exact h (n -1 -j) (n -1 -i) (by omega) (by omega)
def znN(N:Nat)(lt:Nat->Nat->Bool)(r:Nat×Array Nat):Prop:=PermN N r.2/\Sor lt r.2 r.1/\1<=r.1/\r.1<=N
theorem zmQ{p:Array Nat}{n:Nat}(S:Strict N lt)(hp:PermN N p)(h1:1<=n)(hn:n<=N)(h:Des lt p n):OkT N lt (kas_tail3 n N p) (znN N lt):=by
 refine OkT.bind (OkT.mono (λm hm=>?_) (zjI S (zi6 hp n) (N -n) n h1 (by omega) (zoc hp hn h)))
 exact⟨zi6 hp n,hm.2.2.1,by have:=hm.1;omega,by have:=hm.2.1;omega⟩
theorem zmF{p:Array Nat}(S:Strict N lt)(hp:PermN N p)(h1:1<=N):OkT N lt (kas_count N p) (znN N lt):=by
 refine OkT.bind (OkT.mono (λn hn=>?_) (zjI S hp (N -1) 1 (ζu _) (by omega) (λi j hij hj=>by omega)))
 obtain⟨n1,n2,hs,hl⟩:=hn
 by_cases hN:(n==N)=true
 ·rw[if_pos hN]
  exact⟨hp,hs,n1,by omega⟩
 ·have hne:n≠N:=by simpa using hN
  rw[if_neg hN]
  by_cases h2:n>1
  ·rw[if_pos h2]
   refine⟨hp.bd (by omega),hp.bd (by omega),?_⟩
   show OkT N lt (if lt (gd p 0) (gd p (n -1))=true then _ else _) _
   rw[if_pos (hs 0 (n -1) (by omega) (by omega))]
   exact⟨hp,hs,n1,by omega⟩
  ·rw[if_neg h2]
   have e1:n=1:=by omega
   subst e1
   have hd:Des lt p 2:=λi j hij hj=>by
    have ei:i=0:=by omega
    have ej:j=1:=by omega
    subst ei ej
    exact hl (by omega)
   refine OkT.bind (OkT.mono (λr hr=>?_) (zkG S hp (N -(1+1)) (1+1) (by omega) (by omega) hd))
   obtain⟨e1,r1,r2,r3,r4⟩:=hr
   rw[if_neg (by omega),e1]
   exact zmQ S hp (by omega) (by omega) r3
theorem zf8{p:Array Nat}{k:Nat}(S:Strict N lt)(hp:PermN N p)(hs:Sor lt p k)(hk:k<N):∀f l r,l<=r->r<=k->r -l<=f->(∀i,i<l->lt (gd p i) (gd p k)=true)->(∀i,r<=i->i<k->lt (gd p k) (gd p i)=true)->
 OkT N lt (kas_place p k f l r) (λm=>m<=k/\(∀i,i<m->lt (gd p i) (gd p k)=true)/\∀i,m<=i->i<k->lt (gd p k) (gd p i)=true)
 |0,l,r,h1,h2,h3,ha,hb=>⟨by omega,ha,λi hi=>hb i (by omega)⟩
 |f+1,l,r,h1,h2,h3,ha,hb=>by
  by_cases hlr:l≥r
  ·show OkT N lt (if l≥r then _ else _) _
   rw[if_pos hlr]
   exact⟨by omega,ha,λi hi=>hb i (by omega)⟩
  ·show OkT N lt (if l≥r then _ else _) _
   rw[if_neg hlr]
   refine⟨hp.bd hk,hp.bd (by omega),?_⟩
   cases hc:lt (gd p k) (gd p ((l+r)/2))with
   |true=>
    show OkT N lt (if true=true then _ else _) _
    rw[if_pos rfl]
    refine zf8 S hp hs hk f l ((l+r)/2) (by omega) (by omega) (by omega) ha λi hi hik=>?_
    by_cases e:i=(l+r)/2
    ·subst e;exact hc
    ·exact S.tr _ _ _ (hp.bd hk) (hp.bd (by omega)) (hp.bd (by omega)) hc (hs ((l+r)/2) i (by omega) hik)
   |false=>
    show OkT N lt (if false=true then _ else _) _
    rw[if_neg (by decide)]
    have hm:lt (gd p ((l+r)/2)) (gd p k)=true:=S.tot _ _ (hp.bd hk) (hp.bd (by omega)) (hp.inj hk (by omega) (by omega)) hc
    refine zf8 S hp hs hk f ((l+r)/2+1) r (by omega) h2 (by omega) (λi hi=>?_) hb
    by_cases e:i=(l+r)/2
    ·subst e;exact hm
    ·exact S.tr _ _ _ (hp.bd (by omega)) (hp.bd (by omega)) (hp.bd hk) (hs i ((l+r)/2) (by omega) (by omega)) hm
theorem zjH{p:Array Nat}{k l:Nat}(hp:PermN N p)(hk:k<N)(hl:l<=k)(hs:Sor lt p k)(ha:∀i,i<l->lt (gd p i) (gd p k)=true)(hb:∀i,l<=i->i<k->lt (gd p k) (gd p i)=true):Sor lt (bubble p k (k -l)) (k+1):=by
 have hz:=hp.size
 have g:∀i,(bubble p k (k -l))[i]?=if i=l then p[k]? else if l<i/\i<=k then p[i -1]? else p[i]?:=λi=>by
  rw[getElem?_bubble (by omega) (k -l) (by omega),show k -(k -l)=l by omega]
 have g1:gd (bubble p k (k -l)) l=gd p k:=zhu (by rw[g,if_pos rfl])
 have g2:∀i,l<i->i<=k->gd (bubble p k (k -l)) i=gd p (i -1):=λi h1 h2=>zhu (by rw[g,if_neg (by omega),if_pos ⟨h1,h2⟩])
 have g3:∀i,i<l->gd (bubble p k (k -l)) i=gd p i:=λi h1=>zhu (by rw[g,if_neg (by omega),if_neg (by omega)])
 intro i j hij hj
 rcases Nat.lt_trichotomy i l with hi|hi|hi
 ·rw[g3 i hi]
  rcases Nat.lt_trichotomy j l with h|h|h
  ·rw[g3 j h];exact hs i j hij (by omega)
  ·subst h;rw[g1];exact ha i hi
  ·rw[g2 j h (by omega)];exact hs i (j -1) (by omega) (by omega)
 ·subst hi
  rw[g1,g2 j hij (by omega)]
  exact hb (j -1) (by omega) (by omega)
 ·rw[g2 i hi (by omega),g2 j (by omega) (by omega)]
  exact hs (i -1) (j -1) (by omega) (by omega)
theorem znB(S:Strict N lt):∀f (p:Array Nat) k,PermN N p->Sor lt p k->k+f=N->OkT N lt (kas_bin f p k) (λp'=>PermN N p'/\Sor lt p' N)
 |0,p,k,hp,hs,hk=>⟨hp,by have:k=N:=by omega
                         rw[←this];exact hs⟩
 |f+1,p,k,hp,hs,hk=>by
  refine OkT.bind (OkT.mono (λl hl=>?_) (zf8 S hp hs (by omega) k 0 k (ξk _) (ζu _) (by omega) (λi hi=>by omega) (λi hi hik=>by omega)))
  exact znB S f _ (k+1) ((Array.perm_iff_toList_perm.mp (bubble_perm p k _)).trans hp) (zjH hp (by omega) hl.1 hs hl.2.1 hl.2.2) (by omega)
theorem sort_ok(S:Strict N lt)(h1:1<=N):OkT N lt (kas_sort N) (λp=>PermN N p/\Sor lt p N):=by
 have h0:PermN N (List.toArray (List.range N)):=by show(List.range N).Perm _;exact List.Perm.refl _
 refine OkT.bind (OkT.mono (λr hr=>?_) (zmF S h0 h1))
 obtain⟨c1,c2,c3,c4⟩:=hr
 by_cases h:r.1<N
 ·rw[if_pos h]
  have e:max r.1 1=r.1:=by omega
  rw[e]
  exact znB S _ _ _ c1 c2 (by omega)
 ·rw[if_neg h]
  have e:r.1=N:=by omega
  rw[e] at c2
  exact⟨c1,c2⟩
end
end RW
namespace L2
open PySem PySem.W PySem.Spec PyProof.Rows
def RawD(h:Heap)(d:Addr)(ks:List Value)(ep:Nat):Prop:=∃o es,h.get? d=some o/\o.ExactDict/\o.data= .dict es ep/\es.toList.map (·.key)=ks
theorem RawD.at{h h':Heap}{d:Addr}{ks:List Value}{ep:Nat}(x:RawD h d ks ep)(e:∀o,h.get? d=some o->h'.get? d=some o):RawD h' d ks ep:=let⟨o,es,ho,r⟩:=x;⟨o,es,e _ ho,r⟩
theorem RawD.ty{s:Shared}{d:Addr}{ks:List Value}{ep:Nat}(x:RawD s.heap d ks ep):s.TypeIs (.ref d) "dict":=let⟨o,_,ho,hc,_⟩:=x;⟨o,ho,hc.1⟩
theorem RawD.lt{h:Heap}{d:Addr}{ks:List Value}{ep:Nat}(x:RawD h d ks ep):d<h.objs.size:=let⟨_,_,ho,_⟩:=x;ζn ho
section
variable{prog:Program}{w:World}{A:Around}{E:Value->Shared->Prop}{s:Shared}{it d:Addr}{i ep:Nat}{ks:List Value}
theorem znP{R:Value->Shared->Prop}(nsys:(d==sysModules)=false)(x:RawD s.heap d ks ep)(q:R (.ref s.heap.objs.size) {s with heap:=s.heap.push {cls:= .type "dict_keyiterator",data:= .fields #[.ref d, .int 0 0, .int ks.length 0, .int ep 0]}}):
 wpAny (model prog w) A (pyIter (.ref d)) R E s:=by
 have ty:=x.ty
 obtain⟨o,es,ho,_,hdat,hks⟩:=x
 refine wpAny_pyIter_slot ty PySem.F.slot_dict_iter (wpAny_call_entry PySem.F.slot_dict_iter ty PySem.F.entry_dict_iter ?_ (PySem.F.args_dict_iter_1 _))
 unfold Builtin.«dict.__iter__»
 refine ζb (by unfold Builtin.Dict.dictSlotNone;refine ζb (wpAny_notOrdered_dict ty ?_);show wpAny _ _ (pure (Value.ref d)) _ _ s;exact ζs (by
  show wpAny _ _ (Builtin.Dict.showsAll d>>=_) _ _ s
  unfold Builtin.Dict.showsAll
  rw[if_neg (λz=>by rw[nsys] at z;cases z)]
  refine ζb (ζs (ζb (wpAny_dictEntries ho hdat (ζb (wpAny_dictEpoch ho hdat ?_)))))
  have sz:es.size=ks.length:=by rw[←hks];simp
  refine ζb (wpAny_newObj_type (ζs ⟨_,rfl,"dict_keyiterator",_,⟨_,ζj _ rfl,rfl⟩,PySem.F.slot_dict_keyiterator_next.lookup,?_⟩))
  simpa[rawInt,sz] using q))
theorem zmi{R:Option Value->Shared->Prop}{key:Value}(y:s.heap.IsKeyIter it d i ks.length ep)(x:RawD s.heap d ks ep)(hx:ks[i]?=some key)
 (q:∀h',h'.IsKeyIter it d (i+1) ks.length ep->Heap.SameBut it s.heap h'->R (some key) {s with heap:=h'}):wpAny (model prog w) A (pyNext (.ref it)) R E s:=by
 obtain⟨o,ho,hc,hd⟩:=id y
 obtain⟨od,es,hod,_,hdd,hks⟩:=x
 have sz:es.size=ks.length:=by rw[←hks];simp
 have li:i<ks.length:=by
  rcases ξa i ks.length with h|h
  ·exact h
  ·rw[ζi h] at hx;cases hx
 have li':i<es.size:=by omega
 have ek:es[i].key=key:=by
  have e1:ks[i]?=some es[i].key:=by rw[←hks];simp[li']
  rw[e1] at hx;exact ξj hx
 unfold pyNext
 refine ζb (wpAny_attempt (wpAny_callSpecial?_slot (name:=Str.ofString "__next__") y.typeIs PySem.F.slot_dict_keyiterator_next (wpAny_call_entry PySem.F.slot_dict_keyiterator_next y.typeIs PySem.F.entry_dict_keyiterator_next ?_ (PySem.F.args_dict_keyiterator_next_1 _))))
 refine ζb (ζs (ζb (ζb ?_)))
 first|refine ζb (wpAny_typeNameOfWhole_keyiter y.typeIs (ζs ?_))|refine ζb (wpAny_typeNameOf_keyiter y.typeIs (ζs ?_))
 refine ζb (wpAny_fieldsOf ho hd ?_)
 simp only[(by decide:Builtin.Dict_items.ownsTuple "dict_keyiterator"=false),Bool.false_eq_true,if_false]
 show wpAny _ _ (if(Value.ref d==Value.none)=true then _ else _) _ _ s
 rw[if_neg (λz=>nomatch z)]
 refine ζb (ζs (ζb (wpAny_dictEntries hod hdd ?_)))
 rw[if_neg (λz=>by rw[sz] at z;simp at z)]
 refine ζb (ζs (ζb (wpAny_dictEpoch hod hdd ?_)))
 rw[if_neg (λz=>by simp at z)]
 refine ζs ?_
 simp only[(by omega:¬((i:Int)<0)),if_false,Int.toNat_natCast,Array.getElem?_eq_getElem li']
 refine ζb ?_
 first|refine ζb (wpAny_typeNameOfWhole_keyiter y.typeIs (ζs ?_))|refine ζb (wpAny_typeNameOf_keyiter y.typeIs (ζs ?_))
 refine ζb (wpAny_isOneOf_keyiter y.typeIs ?_)
 show wpAny _ _ (setField (.ref it) 1 (rawInt ((i:Int)+1))>>=_) _ _ s
 refine ζb (wpAny_setField ho hd (by simp) ?_)
 have y':(s.heap.update it (Obj.mapFields (·.setIfInBounds 1 (rawInt ((i:Int)+1))))).IsKeyIter it d (i+1) ks.length ep:=⟨_,Heap.get?_update_self _ ho (Obj.isFreed_of_fields (Obj.data_mapFields hd _)),(Obj.cls_mapFields ..).trans hc,by rw[Obj.data_mapFields hd];simp[rawInt]⟩
 refine ζb (wpAny_holding (ζb (wpAny_isOneOf_keyiter (s:={s with heap:=s.heap.update it (Obj.mapFields (·.setIfInBounds 1 (rawInt ((i:Int)+1))))}) y'.typeIs ?_)))
 show wpAny _ _ (pure es[i].key) _ _ _
 rw[ek]
 exact ζs (ζs ⟨_,rfl,ζs (q _ y' (Heap.SameBut.update ..))⟩)
theorem zn2{R:Option Value->Shared->Prop}(hh:A.handled=none)(y:s.heap.IsKeyIter it d ks.length ks.length ep)(x:RawD s.heap d ks ep)(q:∀h',Heap.ExtBut it s.heap h'->R none {s with heap:=h'}):wpAny (model prog w) A (pyNext (.ref it)) R E s:=by
 obtain⟨o,ho,hc,hd⟩:=id y
 obtain⟨od,es,hod,_,hdd,hks⟩:=x
 have sz:es.size=ks.length:=by rw[←hks];simp
 unfold pyNext
 refine ζb (wpAny_attempt (wpAny_callSpecial?_slot (name:=Str.ofString "__next__") y.typeIs PySem.F.slot_dict_keyiterator_next (wpAny_call_entry PySem.F.slot_dict_keyiterator_next y.typeIs PySem.F.entry_dict_keyiterator_next ?_ (PySem.F.args_dict_keyiterator_next_1 _))))
 refine ζb (ζs (ζb (ζb ?_)))
 first|refine ζb (wpAny_typeNameOfWhole_keyiter y.typeIs (ζs ?_))|refine ζb (wpAny_typeNameOf_keyiter y.typeIs (ζs ?_))
 refine ζb (wpAny_fieldsOf ho hd ?_)
 simp only[(by decide:Builtin.Dict_items.ownsTuple "dict_keyiterator"=false),Bool.false_eq_true,if_false]
 show wpAny _ _ (if(Value.ref d==Value.none)=true then _ else _) _ _ s
 rw[if_neg (λz=>nomatch z)]
 refine ζb (ζs (ζb (wpAny_dictEntries hod hdd ?_)))
 rw[if_neg (λz=>by rw[sz] at z;simp at z)]
 refine ζb (ζs (ζb (wpAny_dictEpoch hod hdd ?_)))
 rw[if_neg (λz=>by simp at z)]
 refine ζs ?_
 simp only[(by omega:¬((ks.length:Int)<0)),if_false,Int.toNat_natCast,Array.getElem?_eq_none (show es.size<=ks.length by omega)]
 refine ζb ?_
 first|refine ζb (wpAny_typeNameOfWhole_keyiter y.typeIs (ζs ?_))|refine ζb (wpAny_typeNameOf_keyiter y.typeIs (ζs ?_))
 show wpAny _ _ (setField (.ref it) 0 .none>>=_) _ _ s
 refine ζb (wpAny_setField ho hd (by simp) ?_)
 show wpAny _ _ (newExc (.type "StopIteration") []>>=_) _ _ _
 refine ζb (by
  simp only[newExc,newTuple]
  refine ζb (wpAny_newObj_type (ζb (m:=firstArgMember _ _) (wpAny_of_eq (a:=Value.none) (by first|rfl|(simp only[firstArgMember];rfl)) (wpAny_newObj_type ?_ (by size_fits)))) (by size_fits))
  simp only[raiseNew]
  refine ζb (wpAny_handled ?_)
  rw[show A.in1.handled=none from hh]
  refine ζb (ζs (wpAny_throw ?_));refine ζb (wpAny_isInstance (T:="StopIteration") (b:=true) ⟨_,ζj _ rfl,rfl⟩ isSubtype_stop ?_)
  exact ζs (q _ (((Heap.SameBut.update ..).extBut.push _).push _)))
theorem zlV(hh:A.handled=none)(hne:d≠it):Walks prog w A it [it,d] [it] ks.length (λi v=>ks[i]?=some v) (λi h=>h.IsKeyIter it d i ks.length ep/\RawD h d ks ep) where
 sub:=λb hb=>by simp at hb;simp[hb]
 frame:=λ_ _ _ st hk=>⟨st.1.at λo e=>hk it (by simp) o e,st.2.at λo e=>hk d (by simp) o e⟩
 item:=λi s Q E hi st hQ=>zmi st.1 st.2 (show ks[i]?=some ks[i] by simp[hi]) λh' y' hs=>hQ _ h' s.toks (by simp[hi]) ⟨y',st.2.at λo e=>hs.extBut d o hne e⟩ λb o hb e=>hs.extBut b o (λh=>hb (by simp[h])) e
 done:=λs Q E st hQ=>zn2 hh st.1 st.2 λh' he=>hQ h' s.toks λb o hb e=>he b o (λh=>hb (by simp[h])) e
 self:=λ_ _ _ _ st hQ=>wpAny_pyIter_keyiter st.1 hQ
theorem zou(nsys:(d==sysModules)=false):KdlSrc prog w "dict" d d ks.length (λi v=>ks[i]?=some v) (λh=>RawD h d ks ep) where
 type:=λ_ hm=>hm.ty
 there:=λ_ hm=>⟨hm.lt,hm.lt⟩
 keep:=λ_ _ hm hk=>hm.at λo e=>hk d (.inl rfl) o e
 notList:=by decide
 notTuple:=by decide
 hint:=λ_ _ _ _ hm hq=>kdl_hint_dict hm.ty hq
 iter:=λ_ _ hh hm=>⟨_,_,(λ_ _ hq=>znP nsys hm hq),zlV hh (ξl hm.lt),⟨⟨_,ζj _ rfl,rfl,rfl⟩,hm.at λo e=>ζc _ e⟩⟩
end
section
variable{prog:Program}{w:World}{A:Around}{E:Value->Shared->Prop}{s:Shared}
def Kp(a:Addr)(s s1:Shared):Prop:=s1={s with heap:=s1.heap}/\∀b o,b≠a->s.heap.get? b=some o->s1.heap.get? b=some o
theorem zls{a:Addr}{vs:List Value}{n:Nat}{R:PySem.Fin->Shared->Prop}{G:Array Nat->Prop}{κ:SortKind}(ho:s.heap.get? a=some (seqObj "list" vs.toArray n))(h64:vs.length<64)
 (hk:2<=vs.length->∀s1:Shared,Kp a s s1->(∀C:SortKind->Shared->Prop,C κ s1->wpAny (model prog w) A (keyKind' vs.toArray) C E s1)/\(kas_sort vs.length).kasWp (kas_ask prog w A κ vs) (λp s'=>s'=s1/\G p) s1)
 (q:∀(out:List Value) (h':Heap) (c:Nat),(vs.length<2/\out=vs\/∃p:Array Nat,p.size=vs.length/\G p/\out=p.toList.map λi=>vs.getD i Value.none)->(∀b o,b≠a->s.heap.get? b=some o->h'.get? b=some o)->
   h'.get? a=some (seqObj "list" out.toArray c)->R (.done (.ret .none)) {s with heap:=h'}):wpAny (model prog w) A (Builtin.«list.sort» ⟨[.ref a],[]⟩) R E s:=by
 have la:a<s.heap.objs.size:=ζn ho
 have lz:vs.toArray.size=vs.length:=ζv ..
 have u1:=Heap.SameBut.update s.heap a (Obj.mapSeq λ_=>(#[]:Array Value))
 obtain⟨e1,g1⟩:∃e1,(s.heap.update a (Obj.mapSeq λ_=>(#[]:Array Value))).get? a=some (seqObj "list" #[] e1):=⟨_,get?_update_seq ho λ_=> #[]⟩
 rw[list_sort_plain]
 refine ζb (listItems_at ho rfl (ζb (listUpdate_at ho rfl (ζb (seqEpoch_at g1 rfl (ζb (wpAny_newTuple (ζb (wpAny_newList (wpAny_holding ?_) (ξk _))) (by show vs.length<=_;rw[sizeLine_eq];omega))))) (by rw[lz,sizeLine_eq];omega) (ξk _))))
 generalize hs1:({s with heap:=((s.heap.update a (Obj.mapSeq λ_=>(#[]:Array Value))).push (seqObj "tuple" vs.toArray 0)).push (seqObj "list" #[] 0)}:Shared)=s1
 have kp:∀b o,(s.heap.update a (Obj.mapSeq λ_=>(#[]:Array Value))).get? b=some o->s1.heap.get? b=some o:=λb o e=>by rw[←hs1];exact ζc _ (ζc _ e)
 have k1:Kp a s s1:=⟨by rw[←hs1],λb o nb e=>kp b o ((u1.2 b nb).trans e)⟩
 have g2:s1.heap.get? a=some (seqObj "list" #[] e1):=kp a _ g1
 dsimp only
 have fin:∀(st:SortSt) (out:List Value),(arrOf st).map (·.2)=out.toArray->failedOf st=none->out.length<64->(vs.length<2/\out=vs\/∃p:Array Nat,p.size=vs.length/\G p/\out=p.toList.map λi=>vs.getD i Value.none)->
  wpAny (model prog w) A (do
   let touched:=(←seqEpoch a) !=e1
   Builtin.List.listUpdate (.ref a) λ_=>(arrOf st).map (·.2)
   if let some e:=failedOf st then rule "list.sort.comparison-raised";throw e
   if touched then rule "list.sort.modified";raiseError "ValueError" "list modified during sort"
   ret .none) R E s1:=by
  intro st out ho hf hl hc
  rw[ho]
  have u2:=Heap.SameBut.update s1.heap a (Obj.mapSeq λ_=>out.toArray)
  obtain⟨c2,g3⟩:∃c2,(s1.heap.update a (Obj.mapSeq λ_=>out.toArray)).get? a=some (seqObj "list" out.toArray c2):=⟨_,get?_update_seq g2 λ_=>out.toArray⟩
  refine ζb (seqEpoch_at g2 rfl (ζb (listUpdate_at g2 rfl ?_ (ξk _) (by show out.toArray.size<=_;rw[ζv,sizeLine_eq];omega))))
  rw[hf]
  simp only[bne_self_eq_false,Bool.false_eq_true,if_false]
  have:=q out _ c2 hc (λb o nb e=>(u2.2 b nb).trans (k1.2 b o nb e)) g3
  rw[k1.1]
  exact ζs this
 by_cases h2:vs.toArray.size<2
 ·rw[if_pos h2,if_pos h2]
  refine ζb (ζs ?_)
  rw[StateT.run_pure]
  refine ζb (ζs ?_)
  refine fin _ vs ?_ rfl h64 (.inl ⟨by omega,rfl⟩)
  apply Array.toList_inj.mp
  show((vs.toArray.zip vs.toArray).map (·.2)).toList=_
  rw[Array.toList_map,Array.toList_zip]
  exact List.map_snd_zip (ζu _)
 ·rw[if_neg h2,if_neg h2]
  obtain⟨hkk,hw⟩:=hk (by omega) s1 k1
  refine ζb (hkk _ ?_)
  refine ζb (wpAny_mono (kat_run (E:=E) (Q:=λst' s'=>s'=s1/\∃p:Array Nat,p.size=vs.length/\arrOf st'=p.map (kas_item (vs.toArray.zip vs.toArray))/\failedOf st'=none/\G p) rfl (by omega) h64 (λp st' s' x1 x2 x3 x4=>⟨x4.1,p,x1,x2,x3,x4.2⟩) hw) ?_ λ_ _ e=>e)
  rintro⟨⟨⟩,st'⟩ s' ⟨rfl,p,hp,har,hf,hG⟩
  refine fin st' (p.toList.map λi=>vs.getD i Value.none) (kat_snds rfl har) hf (by rw[ζa,Array.length_toList,hp];exact h64) (.inr ⟨p,hp,hG,rfl⟩)
theorem zjt{r d:Addr}{T:String}{n:Nat}{Pn:Nat->Value->Prop}{OK:Heap->Prop}{R:List Value->Shared->Prop}(K:KdlSrc prog w T r d n Pn OK)(hh:A.handled=none)(hok:OK s.heap)(hn:n<=sizeLine)
 (q:∀(h':Heap) (tk:Nat) (acc:Array Value),(∀b o,s.heap.get? b=some o->h'.get? b=some o)->s.heap.objs.size<h'.objs.size->ItemsOf Pn acc n->R acc.toList {s with heap:=h',toks:=tk}):wpAny (model prog w) A (collect (.ref r)) R E s:=by
 have lt:=K.there _ hok
 have g0:(s.heap.push {cls:= .type "list",data:= .seq ([]:List Value).toArray}).get? s.heap.objs.size=some {cls:= .type "list",data:= .seq #[]}:=ζj _ rfl
 have key:=kdl_extend (A:=A) (s:={s with heap:=s.heap.push {cls:= .type "list",data:= .seq ([]:List Value).toArray}}) (R:=λ(f:Result) (s':Shared)=>∃(h':Heap) (tk:Nat) (acc':Array Value) (c':Nat),f= .ok (.ret (.ref s.heap.objs.size))/\s'={s with heap:=h',toks:=tk}/\(∀b o,s.heap.get? b=some o->h'.get? b=some o)/\h'.get? s.heap.objs.size=some {cls:= .type "list",dict:=none,data:= .seq acc' c',slots:= #[]}/\ItemsOf Pn acc' n)
  K hh (K.keep _ _ hok λb _ o e=>ζc _ e) s.heap.objs.size (Nat.ne_of_gt lt.1) (Nat.ne_of_gt lt.2) (.ref s.heap.objs.size) 0 g0 (λh' tk acc' c' kp gS ia=>⟨h',tk,acc',c',rfl,rfl,λb o e=>kp b o (ξl (ζn e)) (ζc _ e),gS,ia⟩) hn
 unfold collect
 refine ζb (wpAny_runValue (codeAny_builtin entry_proto_collect' (by
  rw[Around.under_plainId PySem.F.plain_proto_collect _]
  show wpAny _ A.in1 (newList []>>=λl=>again (.builtin "list.__iadd__" ⟨[l, .ref r],[]⟩)) _ _ s
  refine ζb (wpAny_newObj_type (ζs ⟨plainId_quiet PySem.F.plain_list_iadd _,codeAny_builtin entry_list_iadd' (by
   rw[Around.under_plainId PySem.F.plain_list_iadd _]
   show wpAny _ A.in1 (Builtin.List.listExtendWith (.ref s.heap.objs.size) (.ref r) (.ref s.heap.objs.size)) _ _ _
   refine wpAny_mono key (λfin s' x=>?_) λe s' x=>?_
   ·cases fin with
    |done f=>
     obtain⟨h',tk,acc',c',e,rfl,kp,gS,ia⟩:=x;cases e
     show wpAny _ A (load s.heap.objs.size>>=_) _ _ _
     exact ζb (wpAny_load gS (ζs (q h' tk acc' kp (ζn gS) ia)))
    |again c₁=>
     refine⟨x.1,codeAny_mono x.2 λf s₂ y=>?_⟩
     obtain⟨h',tk,acc',c',rfl,rfl,kp,gS,ia⟩:=y
     show wpAny _ A (load s.heap.objs.size>>=_) _ _ _
     exact ζb (wpAny_load gS (ζs (q h' tk acc' kp (ζn gS) ia)))
   ·obtain ⟨_,_,_,_,e',_⟩:=x
    cases e')⟩)))))
theorem zjM{r d:Addr}{T:String}{OK:Heap->Prop}{ks:List Value}{R:Value->Shared->Prop}{G:Array Nat->Prop}{κ:SortKind}(K:KdlSrc prog w T r d ks.length (λi v=>ks[i]?=some v) OK)(hh:A.handled=none)(hok:OK s.heap)(h64:ks.length<64)
 (hk:2<=ks.length->∀s1:Shared,(∀b o,s.heap.get? b=some o->s1.heap.get? b=some o)->(∀C:SortKind->Shared->Prop,C κ s1->wpAny (model prog w) A.in1.in1 (keyKind' ks.toArray) C (λ_ _=>False) s1)/\(kas_sort ks.length).kasWp (kas_ask prog w A.in1.in1 κ ks) (λp s'=>s'=s1/\G p) s1)
 (q:∀(D:Addr) (out:List Value) (h':Heap) (tk c:Nat),(ks.length<2/\out=ks\/∃p:Array Nat,p.size=ks.length/\G p/\out=p.toList.map λi=>ks.getD i Value.none)->(∀b o,s.heap.get? b=some o->h'.get? b=some o)->
   s.heap.objs.size<=D->h'.get? D=some (seqObj "list" out.toArray c)->R (.ref D) {s with heap:=h',toks:=tk}):wpAny (model prog w) A (call (.builtin "sorted") [.ref r]) R E s:=by
 refine Calls.call_function_entry kind_sorted plain_sorted entry_sorted (args_sorted1 _) ?_
 unfold Builtin.«sorted»
 refine ζb (m:=checkCount "sorted" 1 1 _) (ζs (ζb (zjt (A:=A.in1) K hh hok (by rw[sizeLine_eq];omega) λh1 tk acc kp gr0 hacc=>?_)))
 have ea:acc.toList=ks:=by
  apply List.ext_getElem?
  intro i
  rcases ξa i ks.length with h|h
  ·have hi:i<acc.size:=by rw[hacc.1];exact h
   rw[Array.getElem?_toList,Array.getElem?_eq_getElem hi]
   exact(hacc.2 i acc[i] (by rw[Array.getElem?_eq_getElem hi])).symm
  ·rw[ζi h,ζi (by rw[Array.length_toList,hacc.1];exact h)]
 rw[ea]
 refine ζb (wpAny_newList ?_ (by rw[sizeLine_eq];omega))
 have hD:(h1.push (seqObj "list" ks.toArray 0)).get? h1.objs.size=some (seqObj "list" ks.toArray 0):=ζj _ rfl
 have k2:∀b o,s.heap.get? b=some o->(h1.push (seqObj "list" ks.toArray 0)).get? b=some o:=λb o e=>ζc _ (kp b o e)
 have gr:s.heap.objs.size<=h1.objs.size:=ξi gr0
 show wpAny _ _ _ _ _ {s with heap:=h1.push (seqObj "list" ks.toArray 0),toks:=tk}
 refine ζb (wpAny_holding (wpAny_call_entry slot_list_sort ⟨_,hD,rfl⟩ entry_list_sort (zls (G:=G) (κ:=κ) (s:={s with heap:=h1.push (seqObj "list" ks.toArray 0),toks:=tk}) hD h64 (λh2 s1 k1=>?_) λout h' c hc hkp hg=>?_) (args_list_sort _)))
 ·obtain ⟨x1,x2⟩:=hk h2 s1 λb o e=>k1.2 b o (ξl (ξh (ζn e) gr)) (k2 b o e)
  exact⟨λC hC=>wpAny_mono (x1 C hC) (λ_ _ z=>z) λ_ _ z=>z.elim,x2⟩
 ·exact ⟨_,rfl,ζs ⟨_,rfl,q h1.objs.size out h' tk c hc (λb o e=>hkp b o (ξl (ξh (ζn e) gr)) (k2 b o e)) gr hg⟩⟩
end
noncomputable abbrev ltS(x y:Str):Bool:=decide (x.cps.toList<y.cps.toList)
noncomputable def ltP(p q:Str×Str):Bool:=if p.1=q.1 then(if p.2=q.2 then false else ltS p.2 q.2)else ltS p.1 q.1
theorem zkh:∀(a b:List Nat),a≠b->¬a<b->b<a
 |[],[],h,_=>absurd rfl h
 |[],b::bs,_,h=>absurd (List.nil_lt_cons b bs) h
 |a::as,[],_,_=>List.nil_lt_cons a as
 |a::as,b::bs,h,hn=>by
  rw[List.cons_lt_cons_iff] at hn⊢
  rcases Nat.lt_trichotomy a b with q|q|q
  ·exact absurd (.inl q) hn
  ·subst q
   exact .inr ⟨rfl,zkh as bs (λz=>h (by rw[z])) (λz=>hn (.inr ⟨rfl,z⟩))⟩
  ·exact .inl q
theorem zjB:∀{a b c:List Nat},a<b->b<c->a<c
 |_,[],_,h,_=>absurd h (by simp)
 |_,_::_,[],_,h=>absurd h (by simp)
 |[],_::_,c::cs,_,_=>List.nil_lt_cons c cs
 |a::as,b::bs,c::cs,h1,h2=>by
  rw[List.cons_lt_cons_iff] at h1 h2⊢
  rcases h1 with h1|⟨rfl,h1⟩
  ·rcases h2 with h2|⟨rfl,h2⟩
   ·exact .inl (by omega)
   ·exact .inl h1
  ·rcases h2 with h2|⟨rfl,h2⟩
   ·exact .inl h2
   ·exact .inr ⟨rfl,zjB h1 h2⟩
theorem zh1:∀(a:List Nat),¬a<a
 |[],h=>absurd h (by simp)
 |a::as,h=>by
  rw[List.cons_lt_cons_iff] at h
  rcases h with h|⟨_,h⟩
  ·omega
  ·exact zh1 as h
theorem znX{x y:Str}(h:x.cps.toList=y.cps.toList):x=y:=by
 cases x;cases y
 simp only[Str.mk.injEq]
 exact Array.toList_inj.mp h
theorem zdM{x y:Str}(h:x≠y)(e:ltS x y=false):ltS y x=true:=ζf (zkh _ _ (λz=>h (znX z)) (of_decide_eq_false e))
theorem zgt{x y z:Str}(h1:ltS x y=true)(h2:ltS y z=true):ltS x z=true:=ζf (zjB (ζh h1) (ζh h2))
theorem zhJ(x:Str):ltS x x=false:=ζo (zh1 _)
theorem zh6{x y:Str}(h:ltS x y=true):ltS y x=false:=ζo λz=>zh1 _ (zjB (ζh h) z)
theorem znz{x y:Str}(h:ltS x y=true):x≠y:=λz=>by rw[z,zhJ] at h;cases h
theorem zok{p q:Str×Str}(h:p≠q)(e:ltP p q=false):ltP q p=true:=by
 unfold ltP at e⊢
 by_cases h1:p.1=q.1
 ·rw[if_pos h1] at e
  rw[if_pos h1.symm]
  have h2:p.2≠q.2:=λz=>h (Prod.ext h1 z)
  rw[if_neg h2] at e
  rw[if_neg (Ne.symm h2)]
  exact zdM h2 e
 ·rw[if_neg h1] at e
  rw[if_neg (Ne.symm h1)]
  exact zdM h1 e
theorem znf{p q r:Str×Str}(h1:ltP p q=true)(h2:ltP q r=true):ltP p r=true:=by
 unfold ltP at h1 h2⊢
 by_cases e1:p.1=q.1
 ·rw[if_pos e1] at h1
  by_cases e2:q.1=r.1
  ·rw[if_pos e2] at h2
   rw[if_pos (e1.trans e2)]
   by_cases f1:p.2=q.2
   ·rw[if_pos f1] at h1;cases h1
   ·by_cases f2:q.2=r.2
    ·rw[if_pos f2] at h2;cases h2
    ·rw[if_neg f1] at h1
     rw[if_neg f2] at h2
     have:=zgt h1 h2
     rw[if_neg (znz this)];exact this
  ·rw[if_neg e2] at h2
   rw[if_neg (by rw[e1];exact e2),e1];exact h2
 ·rw[if_neg e1] at h1
  by_cases e2:q.1=r.1
  ·rw[if_neg (by rw[←e2];exact e1),←e2];exact h1
  ·rw[if_neg e2] at h2
   have:=zgt h1 h2
   rw[if_neg (znz this)];exact this
theorem zhU(p:Str×Str):ltP p p=false:=by unfold ltP;rw[if_pos rfl,if_pos rfl]
theorem zoD{p q:Str×Str}(h:ltP p q=true):ltP q p=false:=by
 cases e:ltP q p with
 |false=>rfl
 |true=>have:=znf h e;rw[zhU] at this;cases this
theorem zh3:∀(l:List Str),sortedS l=true->l.Nodup->l.Pairwise (λa b=>ltS a b=true)
 |[],_,_=> .nil
 |[x],_,_=>by simp
 |x::y::r,h,hn=>by
  have h':(!ltCps y.cps.toList x.cps.toList&&risingS y r)=true:=h
  rw[ζt] at h'
  have hr:sortedS (y::r)=true:=h'.2
  have ih:=zh3 (y::r) hr (List.nodup_cons.mp hn).2
  have hxy:ltS x y=true:=by
   have h1:ltS y x=false:=by
    have:=h'.1
    rw[ltCps_eq] at this
    simpa using this
   exact zdM (λz=>(List.nodup_cons.mp hn).1 (by rw[z];exact ζp)) h1
  refine List.pairwise_cons.mpr ⟨λz hz=>?_,ih⟩
  rcases List.mem_cons.mp hz with rfl|hz
  ·exact hxy
  ·exact zgt hxy ((List.pairwise_cons.mp ih).1 z hz)
section
variable{X:Cx}
theorem zhY:CallR X (.builtin "sorted") (λxs H Q=>∃(p:Addr) (ss:List Str),xs=[.ref p]/\SqL X.K H p (ss.map V.str)/\ss.length<64/\ss.Nodup/\∀(ss':List Str) l,ss'.Perm ss->ss'.Pairwise (λa b=>ltS a b=true)->H l=none->Q (.ref l) (upd H l (.lst (ss'.map V.str)))):=by
 intro pins s σ H xs us Q I r h
 obtain⟨p,ss,rfl,hq,h64,hnd,q⟩:=h
 obtain⟨u,rfl,ru⟩:=zdg r
 cases ru
 obtain⟨its,rv,pl,hz⟩:=I.list hq
 have hS:=zcs rv
 have hl:=rv.length
 rw[ζa] at hl
 refine sorted_strs pl.isList hS (by omega) λout ss' a1 a2 a3=>?_
 have nl:H (s.heap.objs.size+1)=none:=I.hok.fresh (Nat.le_succ _)
 obtain⟨e,he⟩:=sortedAll_at s.heap its out
 have hn':ss'.Nodup:=a2.nodup_iff.mpr hnd
 refine⟨.ref _,_,I.laid (a:=s.heap.objs.size+1) (o:= .lst (ss'.map V.str)) (t':=s.toks) (λb o hb=>sortedAll_old hb) (Nat.le_succ _) ⟨?_,out.toList,e,?_,?_⟩,rfl,q ss' _ a2 (zh3 ss' a3 hn') nl⟩
 ·rw[ζa,a2.length_eq];exact ξi (zm (by omega))
 ·have mk:∀{vs:List Value} {zs:List Str},StrsAre vs zs->Vals (zs.map V.str) vs:=by
   intro vs zs h
   induction h with
   |nil=>exact .nil
   |cons x t _ ih=>exact .cons ⟨t,rfl⟩ ih
  exact mk a1
 ·rw[Array.toArray_toList];exact he
def zoB(H:Hp)(vs:List V)(ps:List (Str×Str)):Prop:=vs.length=ps.length/\∀(i:Nat) (v:V) (p:Str×Str),vs[i]?=some v->ps[i]?=some p->∃b,v= .ref b/\H b=some (.tup [.str p.1, .str p.2])
noncomputable def zgL(p:Str×Str):List Key:=[.inr p.1, .inr p.2]
def TupAt(h:Heap)(u:Value)(p:Str×Str):Prop:=∃b o n t1 t2,u= .ref b/\h.get? b=some o/\o.cls= .type "tuple"/\o.data= .seq #[.str p.1 t1, .str p.2 t2] n
theorem TupAt.keeps{h h':Heap}{u:Value}{p:Str×Str}(x:TupAt h u p)(k:∀b o,h.get? b=some o->h'.get? b=some o):TupAt h' u p:=let⟨b,o,n,t1,t2,e,g,r⟩:=x;⟨b,o,n,t1,t2,e,k _ _ g,r⟩
theorem zm0{prog:Program}{w:World}{A:Around}{E:Value->Shared->Prop}{s:Shared}{u v:Value}{p q:Str×Str}{C:Bool->Shared->Prop}(x:TupAt s.heap u p)(y:TupAt s.heap v q)(h:C (ltP p q) s):wpAny (model prog w) A (keyLt' (tuples' true) u v) C E s:=by
 obtain⟨b,o,n,t1,t2,rfl,g,_,d⟩:=x
 obtain⟨b',o',n',t3,t4,rfl,g',_,d'⟩:=y
 refine kat_lt g d g' d' ?_
 show KatLex prog w A true (decide (2<2)) C [(.str p.1 t1, .str q.1 t3),(.str p.2 t2, .str q.2 t4)] 0 s
 unfold ltP at h
 refine kat_cons (wpAny_eqBool_str ?_)
 by_cases e1:p.1=q.1
 ·rw[if_pos e1] at h
  rw[ζf e1]
  refine kat_yes (kat_cons (wpAny_eqBool_str ?_))
  by_cases e2:p.2=q.2
  ·rw[if_pos e2] at h
   rw[ζf e2]
   exact kat_yes (kat_nil h)
  ·rw[if_neg e2] at h
   rw[ζo e2]
   refine kat_no ?_
   show wpAny (model prog w) A (oneLt' false (.str p.2 t2) (.str q.2 t4)) C _ s
   exact kat_one _ _ (lt_str h)
 ·rw[if_neg e1] at h
  rw[ζo e1]
  refine kat_no ?_
  show wpAny (model prog w) A (oneLt' true (.str p.1 t1) (.str q.1 t3)) C _ s
  exact oneLt_str h
theorem zkg{h:Heap}:∀{us:List Value} {ps:List (Str×Str)},us.length=ps.length->(∀(i:Nat) (u:Value) (p:Str×Str),us[i]?=some u->ps[i]?=some p->TupAt h u p)->∃fs,KatTups h us fs/\fs.length=us.length/\∀f∈fs,∃x t,f=Value.str x t
 |[],[],_,_=>⟨[],trivial,rfl,λ_ z=>nomatch z⟩
 |[],_::_,z,_=>by simp at z
 |_::_,[],z,_=>by simp at z
 |u::us,p::ps,hl,hx=>by
  obtain⟨fs,h1,h2,h3⟩:=zkg (us:=us) (ps:=ps) (by simpa using hl) λi u p e1 e2=>hx (i+1) u p (by simpa using e1) (by simpa using e2)
  obtain⟨b,o,n,t1,t2,rfl,g,c,d⟩:=hx 0 u p rfl rfl
  refine⟨.str p.1 t1::fs,KatTups.cons g c d rfl h1,by simp[h2],λf hf=>?_⟩
  rcases List.mem_cons.mp hf with rfl|hf
  ·exact ⟨_,_,rfl⟩
  ·exact h3 f hf
noncomputable def pAt(ps:List (Str×Str))(i:Nat):Str×Str:=ps.getD i (⟨#[]⟩,⟨#[]⟩)
theorem zhT{ps:List (Str×Str)}(hn:ps.Nodup):RW.Strict ps.length (λi j=>ltP (pAt ps i) (pAt ps j)) where
 tot:=λi j hi hj hij e=>zok (λz=>hij ((List.getElem_inj hn (h₀:=hi) (h₁:=hj)).mp (by unfold pAt at z;simpa[hi,hj] using z))) e
 tr:=λi j k _ _ _ h1 h2=>znf h1 h2
 asy:=λi j _ _ h=>zoD h
theorem zly{ps:List (Str×Str)}{p:Array Nat}(hp:RW.PermN ps.length p)(hs:RW.Sor (λi j=>ltP (pAt ps i) (pAt ps j)) p ps.length):(p.toList.map (pAt ps)).Perm ps/\(p.toList.map (pAt ps)).Pairwise (λa b=>ltP a b=true):=by
 constructor
 ·have h1:=hp.map (pAt ps)
  have h2:(List.range ps.length).map (pAt ps)=ps:=by
   apply List.ext_getElem?
   intro i
   rw[ζq]
   rcases ξa i ps.length with h|h
   ·rw[List.getElem?_range h]
    show some (pAt ps i)=_
    unfold pAt
    simp[h]
   ·rw[ζi (by simpa using h),ζi h];rfl
  rwa[h2] at h1
 ·have hz:=hp.size
  rw[List.pairwise_iff_getElem]
  intro i j hi hj hij
  have hi':i<p.size:=by simpa using hi
  have hj':j<p.size:=by simpa using hj
  have h:=hs i j hij (by omega)
  rw[RW.gd_get hi',RW.gd_get hj'] at h
  simpa using h
theorem zf5{α β:Type}{R:α->β->Prop}:∀{as:List α} {bs:List β},Paired R as bs->as.length=bs.length/\∀(i:Nat) (a:α) (b:β),as[i]?=some a->bs[i]?=some b->R a b
 |_,_, .nil=>⟨rfl,λi a b e=>by simp at e⟩
 |_,_, .cons h t=>by
  obtain⟨h1,h2⟩:=zf5 t
  refine⟨by simp[h1],λi a b e1 e2=>?_⟩
  cases i with
  |zero=>simp at e1 e2;subst e1;subst e2;exact h
  |succ i=>exact h2 i a b (by simpa using e1) (by simpa using e2)
theorem zhp(hc:X.calm=true):CallR X (.builtin "sorted") (λxs H Q=>∃(d:Addr) (kvs:List (List Key×V)) (ps:List (Str×Str)),xs=[.ref d]/\H d=some (.dT kvs)/\kvs.map (·.1)=ps.map zgL/\ps.length<64/\
 ∀(ps':List (Str×Str)) (vs:List V) l,ps'.Perm ps->ps'.Pairwise (λa b=>ltP a b=true)->zoB H vs ps'->H l=none->Q (.ref l) (upd H l (.lst vs))):=by
 intro pins s σ H xs us Q I r h
 obtain⟨d,kvs,ps,rfl,hd,hk,h64,q⟩:=h
 obtain⟨u,rfl,ru⟩:=zdg r
 cases ru
 obtain⟨_,nsys,zs,hp,o,es,ep,g,ex,dat,hes,hnd⟩:=(show ObjOk X.prog X.w H s.heap d (.dT kvs)from I.hok d _ hd)
 obtain⟨hl,hget⟩:=zf5 hp
 have hlk:kvs.length=ps.length:=by have:=congrArg List.length hk;simpa using this
 have hnp:ps.Nodup:=by
  have e:zs.map (·.1)=kvs.map (·.1):=by
   apply List.ext_getElem?
   intro i
   rw[ζq,ζq]
   rcases ξa i kvs.length with h|h
   ·have h':i<zs.length:=by omega
    have:=(hget i kvs[i] zs[i] (by simp[h]) (by simp[h'])).1
    simp[h,h',this]
   ·rw[ζi h,ζi (by omega)];rfl
  rw[e,hk] at hnd
  exact(List.pairwise_map.mp hnd).imp λh z=>h (by rw[z])
 have kz:(zs.map λq=>Value.ref q.2.1).length=ps.length:=by rw[ζa];omega
 have raw:RawD s.heap d (zs.map λq=>Value.ref q.2.1) ep:=⟨o,es,g,ex,dat,by rw[hes,List.map_map];rfl⟩
 have keyA:∀i (h:i<ps.length),∃b,(zs.map λq=>Value.ref q.2.1)[i]?=some (.ref b)/\H b=some (.tup [.str ps[i].1, .str ps[i].2]):=λi h=>by
  have h1:i<kvs.length:=by omega
  have h2:i<zs.length:=by omega
  have hr:=hget i kvs[i] zs[i] (by simp[h1]) (by simp[h2])
  refine⟨zs[i].2.1,by simp[h2],?_⟩
  have ek:kvs[i].1=zgL ps[i]:=by
   have e1:(kvs.map (·.1))[i]?=some kvs[i].1:=by simp[h1]
   rw[hk] at e1
   have e2:(ps.map zgL)[i]?=some (zgL ps[i]):=by simp[h]
   rw[e1] at e2
   exact ξj e2
  rw[hr.2.1,ek]
  rfl
 have keyT:∀(i:Nat) (u:Value) (p:Str×Str),(zs.map λq=>Value.ref q.2.1)[i]?=some u->ps[i]?=some p->TupAt s.heap u p:=λi u p e1 e2=>by
  have hi:i<ps.length:=by
   rcases ξa i ps.length with z|z
   ·exact z
   ·rw[ζi z] at e2;cases e2
  obtain⟨b,f1,f2⟩:=keyA i hi
  rw[f1] at e1
  cases e1
  have ep':ps[i]=p:=by simpa[hi] using e2
  rw[ep'] at f2
  obtain⟨_,its,rv,⟨o',g',c',n',d'⟩,_⟩:=(show ObjOk X.prog X.w H s.heap b (.tup [.str p.1, .str p.2])from I.hok b _ f2)
  cases rv with
  |cons r1 rv=>cases rv with
   |cons r2 rv=>cases rv with
    |nil=>
     obtain⟨t1,rfl⟩:=r1
     obtain⟨t2,rfl⟩:=r2
     exact⟨b,o',n',t1,t2,rfl,g',c',d'⟩
 generalize hks:(zs.map λq=>Value.ref q.2.1)=ks at *
 refine zjM (A:=X.A) (G:=λp=>RW.PermN ps.length p/\RW.Sor (λi j=>ltP (pAt ps i) (pAt ps j)) p ps.length) (κ:=tuples' true) (zou (ks:=ks) (ep:=ep) nsys) (I.ok.hd hc) raw (by omega) (λh2 s1 k1=>?_) (λD out h' tk c ho kp hD gD=>?_)
 ·have keyT1:∀(i:Nat) (u:Value) (p:Str×Str),ks[i]?=some u->ps[i]?=some p->TupAt s1.heap u p:=λi u p e1 e2=>(keyT i u p e1 e2).keeps k1
  obtain⟨fs,ft,fl,fa⟩:=zkg kz keyT1
  refine⟨λC hC=>kat_kind (T:= .type "str") ft (by omega) (λf hf=>?_) rfl hC,?_⟩
  ·obtain ⟨x,t,rfl⟩:=fa f hf
   exact Looks.of_pure rfl
  ·rw[kz]
   refine RW.OkT.wp (N:=ps.length) (lt:=λi j=>ltP (pAt ps i) (pAt ps j)) (I:=λs'=>s'=s1) (λi j C s' hi hj e hC=>?_) (λp s' hp e=>⟨e,hp⟩) rfl (RW.sort_ok (zhT hnp) (by omega))
   subst e
   have gi:∀i,i<ps.length->TupAt s'.heap (ks.getD i Value.none) (pAt ps i):=λi hi=>by
    have hi':i<ks.length:=by omega
    refine keyT1 i _ _ ?_ ?_
    ·simp[hi']
    ·unfold pAt;simp[hi]
   exact zm0 (gi i hi) (gi j hj) (hC s' rfl)
 ·
  have nD:H D=none:=I.hok.fresh hD
  obtain⟨ps',hperm,hpw,hout⟩:∃ps':List (Str×Str),ps'.Perm ps/\ps'.Pairwise (λa b=>ltP a b=true)/\out.length=ps'.length/\∀(i:Nat) (u:Value) (p:Str×Str),out[i]?=some u->ps'[i]?=some p->∃b,u= .ref b/\H b=some (.tup [.str p.1, .str p.2]):=by
   rcases ho with⟨hlt,rfl⟩|⟨p,hp,⟨hP,hS⟩,rfl⟩
   ·refine ⟨ps, .refl _,?_,kz,λi u p e1 e2=>?_⟩
    ·match ps,(show ps.length<2 by omega)with
     |[],_=>exact .nil
     |[x],_=>exact List.pairwise_singleton _ _
    ·have hi:i<ps.length:=by
      rcases ξa i ps.length with z|z
      ·exact z
      ·rw[ζi z] at e2;cases e2
     obtain⟨b,f1,f2⟩:=keyA i hi
     rw[f1] at e1;cases e1
     have ep':ps[i]=p:=by simpa[hi] using e2
     rw[ep'] at f2
     exact⟨b,rfl,f2⟩
   ·obtain ⟨o1,o2⟩:=zly hP hS
    refine⟨p.toList.map (pAt ps),o1,o2,by rw[ζa,ζa],λi u q e1 e2=>?_⟩
    rw[ζq] at e1 e2
    cases hpi:p.toList[i]? with
    |none=>rw[hpi] at e1;cases e1
    |some j=>
     rw[hpi] at e1 e2
     have hj:j<ps.length:=List.mem_range.mp (hP.mem_iff.mp (ζl hpi))
     obtain⟨b,f1,f2⟩:=keyA j hj
     have hj':j<ks.length:=by omega
     have eu:ks.getD j Value.none= .ref b:=by
      rw[List.getD_eq_getElem?_getD,f1];rfl
     have e1':some (ks.getD j Value.none)=some u:=e1
     rw[eu] at e1'
     have e2':some (pAt ps j)=some q:=e2
     have eq:pAt ps j=ps[j]:=by unfold pAt;simp[hj]
     rw[eq] at e2'
     cases e1'
     cases e2'
     exact⟨b,rfl,f2⟩
  obtain⟨hol,hog⟩:=hout
  have hall:∀u∈out,∃b,u=Value.ref b:=λu hu=>by
   obtain⟨i,hi,rfl⟩:=List.getElem_of_mem hu
   obtain⟨b,e,_⟩:=hog i out[i] (ps'[i]'(by omega)) (by simp[hi]) (by simp[show i<ps'.length by omega])
   exact⟨b,e⟩
  obtain⟨vs,rvs⟩:∃vs:List V,Vals vs out/\∀(i:Nat) (b:Addr),out[i]?=some (.ref b)->vs[i]?=some (.ref b):=by
   clear hog hol gD ho
   induction out with
   |nil=>exact ⟨[], .nil,λi b e=>by simp at e⟩
   |cons u out ih=>
    obtain⟨vs,h1,h2⟩:=ih λu hu=>hall u (ξe _ hu)
    obtain⟨b,rfl⟩:=hall u ζp
    refine⟨.ref b::vs, .cons rfl h1,λi b' e=>?_⟩
    cases i with
    |zero=>simpa using e
    |succ i=>exact h2 i b' (by simpa using e)
  have lv:vs.length=out.length:=rvs.1.length
  refine⟨.ref D,_,I.laid (a:=D) (o:= .lst vs) (t':=tk) kp hD ⟨by rw[lv,hol,hperm.length_eq];exact ξi (zm (by omega)),out,c,rvs.1,gD⟩,rfl,q ps' vs D hperm hpw ⟨by omega,λi v p e1 e2=>?_⟩ nD⟩
  have hi:i<out.length:=by
   rcases ξa i out.length with z|z
   ·exact z
   ·rw[ζi (by omega)] at e1;cases e1
  obtain⟨b,f1,f2⟩:=hog i out[i] p (by simp[hi]) e2
  have:=rvs.2 i b (by rw[←f1];simp[hi])
  rw[this] at e1
  cases e1
  exact⟨b,rfl,f2⟩
end
noncomputable def zjc(a c:Str)(t u:Tok)(i:Nat):Value:=if i=0 then .str a t else .str c u
section
variable{prog:Program}{w:World}{A:Around}{E:Value->Shared->Prop}{s:Shared}
theorem zhB{a c:Str}{t u:Tok}{i:Nat}{v:Value}(h:(#[Value.str a t,Value.str c u])[i]?=some v):(i=0/\v= .str a t)\/(i=1/\v= .str c u):=by
 match i,h with
 |0,h=>exact .inl ⟨rfl,by simpa using h.symm⟩
 |1,h=>exact .inr ⟨rfl,by simpa using h.symm⟩
 |i+2,h=>simp at h
theorem zho{a c:Str}{t u:Tok}{R:Value->Shared->Prop}(hh:A.handled=none)(q:∀h' tk,(∀b o,s.heap.get? b=some o->h'.get? b=some o)->R (if ltS a c=true then .str c u else .str a t) {s with heap:=h',toks:=tk}):
 wpAny (model prog w) A (call (.builtin "max") [.str a t, .str c u]) R E s:=by
 have hT:(s.heap.push {cls:= .type "tuple",data:= .seq #[.str a t, .str c u]}).IsTuple s.heap.objs.size #[.str a t, .str c u]:=⟨_,ζj _ rfl,rfl,0,rfl⟩
 have z:(s.heap.push {cls:= .type "tuple",data:= .seq #[.str a t, .str c u]}).objs.size=s.heap.objs.size+1:=Heap.size_push ..
 refine call_max_two (wpAny_pyIter_tuple hT ?_)
 refine⟨_,[_,s.heap.objs.size],[_],_,_,_,λi j=>ltS (strOf (zjc a c t u j)) (strOf (zjc a c t u i)),rfl,Walks.tuple (A:=A.in1) hh _ s.heap.objs.size (by rw[z];exact ξl (Nat.lt_succ_self _)) #[.str a t, .str c u],⟨⟨_,ζj _ rfl,rfl,rfl⟩,hT.push _⟩,λb hb=>?_,(by decide:0<2),?_,λv h' tk hP hk=>?_⟩
 ·show b<((s.heap.push _).push _).objs.size
  rw[Heap.size_push,z]
  rcases List.mem_cons.mp hb with rfl|hb
  ·rw[z];exact Nat.lt_succ_self _
  ·rcases List.mem_cons.mp hb with rfl|hb
   ·exact Nat.lt_succ_of_lt (Nat.lt_succ_self _)
   ·cases hb
 ·intro i j vi vj s' R' E' hi hj hq
  rcases zhB hi with⟨rfl,rfl⟩|⟨rfl,rfl⟩<;>rcases zhB hj with⟨rfl,rfl⟩|⟨rfl,rfl⟩<;>exact (PySem.P.gt_str hq:wpAny (model prog w) A.in1 (compareOp .Gt _ _) R' E' s')
 ·have keep:∀b o,s.heap.get? b=some o->h'.get? b=some o:=λb o e=>hk b o (λhm=>by
   rcases List.mem_cons.mp hm with e1|hm
   ·have lb:=ζn e
    rw[e1,z] at lb
    exact absurd lb (Nat.not_lt.mpr (Nat.le_succ _))
   ·cases hm) (ζc _ (ζc _ e))
  have fin:=q h' tk keep
  have eb:argBest (λi j=>ltS (strOf (zjc a c t u j)) (strOf (zjc a c t u i))) (2 -1)=if ltS a c=true then 1 else 0:=rfl
  have hP':(#[Value.str a t,Value.str c u])[if ltS a c=true then 1 else 0]?=some v:=hP
  by_cases hc:ltS a c=true
  ·rw[if_pos hc] at hP' fin
   have ev:Value.str c u=v:=by simpa using hP'
   rw[←ev];exact fin
  ·rw[if_neg hc] at hP' fin
   have ev:Value.str a t=v:=by simpa using hP'
   rw[←ev];exact fin
theorem zhN{a c:Str}{t u:Tok}{R:Value->Shared->Prop}(hh:A.handled=none)(q:∀h' tk,(∀b o,s.heap.get? b=some o->h'.get? b=some o)->R (if ltS c a=true then .str c u else .str a t) {s with heap:=h',toks:=tk}):
 wpAny (model prog w) A (call (.builtin "min") [.str a t, .str c u]) R E s:=by
 have hT:(s.heap.push {cls:= .type "tuple",data:= .seq #[.str a t, .str c u]}).IsTuple s.heap.objs.size #[.str a t, .str c u]:=⟨_,ζj _ rfl,rfl,0,rfl⟩
 have z:(s.heap.push {cls:= .type "tuple",data:= .seq #[.str a t, .str c u]}).objs.size=s.heap.objs.size+1:=Heap.size_push ..
 refine call_min_two (wpAny_pyIter_tuple hT ?_)
 refine⟨_,[_,s.heap.objs.size],[_],_,_,_,λi j=>ltS (strOf (zjc a c t u i)) (strOf (zjc a c t u j)),rfl,Walks.tuple (A:=A.in1) hh _ s.heap.objs.size (by rw[z];exact ξl (Nat.lt_succ_self _)) #[.str a t, .str c u],⟨⟨_,ζj _ rfl,rfl,rfl⟩,hT.push _⟩,λb hb=>?_,(by decide:0<2),?_,λv h' tk hP hk=>?_⟩
 ·show b<((s.heap.push _).push _).objs.size
  rw[Heap.size_push,z]
  rcases List.mem_cons.mp hb with rfl|hb
  ·rw[z];exact Nat.lt_succ_self _
  ·rcases List.mem_cons.mp hb with rfl|hb
   ·exact Nat.lt_succ_of_lt (Nat.lt_succ_self _)
   ·cases hb
 ·intro i j vi vj s' R' E' hi hj hq
  rcases zhB hi with⟨rfl,rfl⟩|⟨rfl,rfl⟩<;>rcases zhB hj with⟨rfl,rfl⟩|⟨rfl,rfl⟩<;>exact (lt_str hq:wpAny (model prog w) A.in1 (compareOp .Lt _ _) R' E' s')
 ·have keep:∀b o,s.heap.get? b=some o->h'.get? b=some o:=λb o e=>hk b o (λhm=>by
   rcases List.mem_cons.mp hm with e1|hm
   ·have lb:=ζn e
    rw[e1,z] at lb
    exact absurd lb (Nat.not_lt.mpr (Nat.le_succ _))
   ·cases hm) (ζc _ (ζc _ e))
  have fin:=q h' tk keep
  have eb:argBest (λi j=>ltS (strOf (zjc a c t u i)) (strOf (zjc a c t u j))) (2 -1)=if ltS c a=true then 1 else 0:=rfl
  have hP':(#[Value.str a t,Value.str c u])[if ltS c a=true then 1 else 0]?=some v:=hP
  by_cases hc:ltS c a=true
  ·rw[if_pos hc] at hP' fin
   have ev:Value.str c u=v:=by simpa using hP'
   rw[←ev];exact fin
  ·rw[if_neg hc] at hP' fin
   have ev:Value.str a t=v:=by simpa using hP'
   rw[←ev];exact fin
end
section
variable{X:Cx}
theorem zf6(hc:X.calm=true):CallR X (.builtin "max") (λxs H Q=>∃a c,xs=[.str a, .str c]/\Q (.str (if ltS a c=true then c else a)) H):=by
 intro pins s σ H xs us Q I r h
 obtain⟨i,j,rfl,q⟩:=h
 obtain⟨u,w',rfl,⟨t,rfl⟩,⟨t',rfl⟩⟩:=zgT r
 refine zho (I.ok.hd hc) λh' tk k=>⟨_,H,I.kept k,?_,q⟩
 by_cases hj:ltS i j=true
 ·rw[if_pos hj,if_pos hj];exact⟨_,rfl⟩
 ·rw[if_neg hj,if_neg hj];exact⟨_,rfl⟩
theorem zgl(hc:X.calm=true):CallR X (.builtin "min") (λxs H Q=>∃a c,xs=[.str a, .str c]/\Q (.str (if ltS c a=true then c else a)) H):=by
 intro pins s σ H xs us Q I r h
 obtain⟨i,j,rfl,q⟩:=h
 obtain⟨u,w',rfl,⟨t,rfl⟩,⟨t',rfl⟩⟩:=zgT r
 refine zhN (I.ok.hd hc) λh' tk k=>⟨_,H,I.kept k,?_,q⟩
 by_cases hj:ltS j i=true
 ·rw[if_pos hj,if_pos hj];exact⟨_,rfl⟩
 ·rw[if_neg hj,if_neg hj];exact⟨_,rfl⟩
end
section
open PySem.SeqAt
open PySem.AutoSeq1 (wpAny_loadPart')
open PySem.MeetsSeq PySem.MeetsSeq2 PySem.MeetsSeq3
theorem zgP(l b:Addr)(n n2:Nat)(dd dd2:Option Addr)(sl sl2:Array (Option Value))(x y z v:Str)(t1 t2 t3 t4:Tok):
 Meets (Builtin.«tuple.__lt__» ⟨[.ref l, .ref b],[]⟩) (λ_ R s=>s.heap.get? l=some {cls:= .type "tuple",dict:=dd,data:= .seq #[.str x t1, .str y t2] n,slots:=sl}/\s.heap.get? b=some {cls:= .type "tuple",dict:=dd2,data:= .seq #[.str z t3, .str v t4] n2,slots:=sl2}/\R (.ok (.ret (.bool (ltP (x,y) (z,v))))) s):=
 .of_wp λprog w A R s h=>by
  obtain⟨hp,g,d,tk,os⟩:=s;obtain⟨hl,hb,h⟩:=h
  have f2:=AutoSeq1.sub_tuple_tuple
  have cmp:∀(a c:Str) (t u:Tok) (E:Value->Shared->Prop) (Q:Value->Shared->Prop),Q (.bool (ltS a c)) ⟨hp,g,d,tk,os⟩->wpAny (model prog w) A.in1 (richCompare .Lt (.str a t) (.str c u)) Q E ⟨hp,g,d,tk,os⟩:=λa c t u E Q hq=>(PyProof.Rows.lt_str hq:wpAny (model prog w) A.in1 (compareOp .Lt (.str a t) (.str c u)) Q E ⟨hp,g,d,tk,os⟩)
  wp_walk using wpAny_loadPart' hl,wpAny_loadPart' hb,wpAny_forIn_list _ (λrest b s'=>b.1=none/\s'=⟨hp,g,d,tk,os⟩/\((rest=[(Value.str x t1,Value.str z t3),(Value.str y t2,Value.str v t4)])\/(rest=[(Value.str y t2,Value.str v t4)]/\x=z)\/(rest=[]/\x=z/\y=v))) _
  case turn=>
   rintro⟨p,q⟩ rest b s' ⟨hb',rfl,hr⟩
   rcases hr with hr|⟨hr,ex⟩|⟨hr,_⟩
   ·injection hr with h1 h2
    injection h1 with h3 h4
    subst h3 h4
    refine ζb (wpAny_eqBool_str ?_)
    by_cases ex:x=z
    ·rw[ζf ex]
     wp_walk
     exact⟨rfl,rfl, .inr (.inl ⟨h2,ex⟩)⟩
    ·rw[ζo ex]
     have c1:=cmp x z t1 t3
     wp_walk using c1
     unfold ltP at h
     rw[if_neg ex] at h
     exact⟨_,rfl,h⟩
   ·injection hr with h1 h2
    injection h1 with h3 h4
    subst h3 h4
    refine ζb (wpAny_eqBool_str ?_)
    by_cases ey:y=v
    ·rw[ζf ey]
     wp_walk
     exact⟨rfl,rfl, .inr (.inr ⟨h2,ex,ey⟩)⟩
    ·rw[ζo ey]
     have c1:=cmp y v t2 t4
     wp_walk using c1
     unfold ltP at h
     rw[if_pos ex,if_neg ey] at h
     exact⟨_,rfl,h⟩
   ·cases hr
  case fin=>
   rintro⟨b1,b2⟩ s' ⟨hb',rfl,hr⟩
   simp only at hb'
   subst hb'
   rcases hr with hr|⟨hr,_⟩|⟨_,ex,ey⟩
   ·cases hr
   ·cases hr
   ·unfold ltP at h
    rw[if_pos ex,if_pos ey] at h
    wp_walk
    exact⟨_,rfl,h⟩
  case h=>
   exact⟨rfl,rfl, .inl rfl⟩
end
section
variable{X:Cx}{K:PySem.W.Frag}
noncomputable def zqU:R2:=λx y H Q=>∃a b p q,x= .ref a/\y= .ref b/\H a=some (.tup [.str p.1, .str p.2])/\H b=some (.tup [.str q.1, .str q.2])/\Q (.bl (ltP p q)) H
theorem zkr{pins:List (Addr×Obj)}{σ:St}{H:Hp}{s:Shared}{a:Addr}{p:Str×Str}(I:Inv X pins σ H s)(h:H a=some (.tup [.str p.1, .str p.2])):∃t1 t2 n dd sl,s.heap.get? a=some {cls:= .type "tuple",dict:=dd,data:= .seq #[.str p.1 t1, .str p.2 t2] n,slots:=sl}:=by
 obtain⟨_,its,rv,⟨o',g',c',n',d'⟩,_⟩:=(show ObjOk X.prog X.w H s.heap a (.tup [.str p.1, .str p.2])from I.hok a _ h)
 cases rv with
 |cons r1 rv=>cases rv with
  |cons r2 rv=>cases rv with
   |nil=>
    obtain⟨t1,rfl⟩:=r1
    obtain⟨t2,rfl⟩:=r2
    obtain⟨cls,dd,data,sl⟩:=o'
    simp only at c' d'
    subst c' d'
    exact⟨t1,t2,n',dd,sl,g'⟩
theorem zqt(hu:X.A.units<cLine):OpR X (compareOp .Lt) zqU:=by
 intro pins s σ H x y v u Q I rx ry h
 obtain⟨a,b,p,q,rfl,rfl,ha,hb,fin⟩:=h
 cases rx
 cases ry
 obtain⟨t1,t2,n,dd,sl,g1⟩:=zkr I ha
 obtain⟨t3,t4,n2,dd2,sl2,g2⟩:=zkr I hb
 exact richCompare_meets_room (op:= .Lt) ⟨_,g1,rfl⟩ ⟨_,g2,rfl⟩ PySem.F.slot_tuple_lt PySem.F.entry_tuple_lt (PySem.F.args_tuple_lt_2 _ _) (zgP a b n n2 dd dd2 sl sl2 p.1 p.2 q.1 q.2 t1 t2 t3 t4)
  ⟨g1,g2,show Value.bool (ltP p q)≠Value.notImplemented/\EP X pins σ Q (.bool (ltP p q)) s from⟨(λx=>nomatch x),⟨.bl (ltP p q),H,I,rfl,fin⟩⟩⟩ hu
noncomputable def zrk:R2:=λx y H Q=>(∃i j,x= .str i/\y= .str j/\Q (.bl (ltS i j)) H)\/zqU x y H Q
theorem zpG(hu:X.A.units<cLine):OpR X (compareOp .Lt) zrk:=op_lt_str.or (zqt hu)
noncomputable def zkW(K:PySem.W.Frag):R2:=λx y H Q=>∃a b xs ys,x= .ref a/\y= .ref b/\SqT K H a xs/\SqT K H b ys/\xs.length+ys.length<=sizeLine/\
 (xs=[]->Q (.ref b) H)/\(xs≠ []->ys=[]->Q (.ref a) H)/\(xs≠ []->ys≠ []->∀p,H p=none->Q (.ref p) (upd H p (.tup (xs ++ys))))
theorem zad:OpR X (binaryOp .Add) (zkW X.K):=by
 intro pins s σ H x y v u Q I rx ry h
 obtain⟨a,b,xs,ys,rfl,rfl,ha,hb,hz,q0,q1,q2⟩:=h
 by_cases hx:xs=[]
 ·cases rx
  cases ry
  obtain⟨its,r1,p1,_⟩:=I.tuple ha
  obtain⟨its2,r2,p2,_⟩:=I.tuple hb
  have e1:its=[]:=r1.nil_iff.mpr hx
  obtain⟨⟨cls,dd,data,sl⟩,ho,hc,n,hd⟩:=id p1
  obtain⟨⟨cls2,dd2,data2,sl2⟩,ho2,hc2,n2,hd2⟩:=id p2
  simp only at hc hd hc2 hd2
  subst hc hd hc2 hd2
  exact concat_meets ⟨_,ho,rfl⟩ ⟨_,ho2,rfl⟩ noFill_tuple_add seq_tuple_add PySem.F.slot_tuple_add PySem.F.entry_tuple_add (PySem.F.args_tuple_add_2 _ _) (tuple_addW0 a b its.toArray its2.toArray n n2 dd dd2 sl sl2 (by simp[e1])) ⟨ho,ho2,⟨.ref b,H,I,rfl,q0 hx⟩⟩
 ·exact zoG pins s σ H _ _ v u Q I rx ry ⟨a,b,xs,ys,rfl,rfl,ha,hb,hx,hz,q1 hx,q2 hx⟩
theorem znC(h:X.K=K):OpR X (binaryOp .Add) (zkW K):=by subst h;exact zad
end
section
open PySem.AutoSeq1 (wpAny_loadPart')
end
section
variable{X:Cx}{K:PySem.W.Frag}
theorem hu1{k:Nat}{A:Around}(r:Room k A):A.units+1<cLine:=by have:=r.units;omega
end
section
variable{X:Cx}{a b o i value:Expr}{x y:Str}{px py pt pt2 pos pos':Pos}{kt k2:Nat}{ta:TA}{td ty tv:TE}
theorem zpc(m n:Nat)(hN:X.N.Nodup)(ha:QA X [a,b] ta)(hc:X.calm=true:=by rfl)(hi:X.N[m]?=some x:=by rfl)(hj:X.N[n]?=some y:=by rfl)(hij:m≠n:=by decide)
 (hx:X.env.scope.names.lookup x=some .local:=by rfl) (hy:X.env.scope.names.lookup y=some .local:=by rfl)
 (hw:swappedStores [.Tuple [.Name x px, .Name y py] kt pt] (.Tuple [a,b] k2 pt2) X.env=pure (some [x,y]):=by rfl)
 (hs:swapsWithSole [.Tuple [.Name x px, .Name y py] kt pt] (.Tuple [a,b] k2 pt2) pos.line X.env=pure false:=by rfl):
 QS X (.Assign [.Tuple [.Name x px, .Name y py] kt pt] (.Tuple [a,b] k2 pt2) pos) (zqT m n ta):=⟨zpH hc hN hi hj hij hx hy ha.o hw hs⟩
theorem zmt(hu:X.A.units+1<cLine)(ho:QE X o td)(hi:QE X i ty)(hv:QE X value tv)(hs:swapsWith value (some (.Subscript o i pos')) pos.line X.env=pure false:=by rfl):
 QS X (.Assign [.Subscript o i pos'] value pos) (zpe td ty tv):=⟨zoA hu ho.o hi.o hv.o hs⟩
theorem zoL:QE X (.Dict [] [] pos) zni:=⟨znA⟩
end
end L2
namespace RW
open PySem PySem.Spec PyProof.Rows L2
noncomputable def ltD:D->D->Bool
 | .str x, .str y=>ltS x y
 | .tup [.str a, .str b], .tup [.str c, .str d]=>ltP (a,b) (c,d)
 |_,_=>false
noncomputable def isStrD:D->Bool| .str _=>true|_=>false
noncomputable def zcz(ds:List D):Bool:=(List.range (ds.length -1)).all λk=>ltD (ds.getD k .non) (ds.getD (k+1) .non)
noncomputable def areHousesB:D->Bool| .tup ds=>decide (1<=ds.length)&&decide (ds.length<=10)&&ds.all zaB&&zcz ds|_=>false
noncomputable def inD(hs:List Str):D->Bool| .str x=>hs.any λy=>decide (y=x)|_=>false
noncomputable def zL(hs:List Str)(d:D):Bool:=zaB d&&inD hs d
noncomputable def zbV:D->Bool| .tup ds=>decide (ds.length<=90)&&ds.all zaF|_=>false
noncomputable def zbE:D->Bool| .tup ds=>decide (ds.length<=90)&&ds.all zbj|_=>false
noncomputable def zfr:D->List Str| .tup ds=>ds.filterMap (λd=>match d with| .str x=>some x|_=>none)|_=> []
noncomputable def zjv(g:D->Bool):D->Bool| .tup ds=>ds.all g|_=>false
theorem strs_map(xs:List Str):zfr (.tup (xs.map D.str))=xs:=by
 show(xs.map D.str).filterMap _=xs
 rw[List.filterMap_map]
 exact List.filterMap_some
theorem zga:∀{ds:List D},ds.all zaB=true->∃xs:List Str,ds=xs.map D.str/\∀x∈xs,zi x=true
 |[],_=>⟨[],rfl,λ_ z=>nomatch z⟩
 |d::ds,h=>by
  rw[List.all_cons,ζt] at h
  obtain⟨xs,rfl,hx⟩:=zga h.2
  cases d with
  |str x=>exact ⟨x::xs,rfl,λy hy=>by
    rcases List.mem_cons.mp hy with rfl|hy
    ·exact h.1
    ·exact hx y hy⟩
  |_=>exact absurd h.1 (by simp[zaB])
theorem zln{xs:List Str}(h:xs.Pairwise (λa b=>ltS a b=true)):zcz (xs.map D.str)=true:=by
 unfold zcz
 rw[List.all_eq_true]
 intro k hk
 have hk':k+1<xs.length:=by have:=List.mem_range.mp hk;rw[ζa] at this;omega
 have e:∀i,i<xs.length->(xs.map D.str).getD i .non=D.str (xs.getD i ⟨#[]⟩):=λi hi=>by simp[List.getD,hi]
 rw[e k (by omega),e (k+1) hk']
 show ltS _ _=true
 have:=List.pairwise_iff_getElem.mp h k (k+1) (by omega) hk' (by omega)
 simpa[List.getD,hk',show k<xs.length by omega] using this
theorem zl0(z:Str)(n:Nat):(zfX z n).cps.toList=(List.replicate n z.cps.toList).flatten:=by
 unfold zfX
 have key:∀(k:Nat) (acc:Array Nat),((List.replicate k z.cps).foldl (·++·) acc).toList=acc.toList ++(List.replicate k z.cps.toList).flatten:=by
  intro k
  induction k with
  |zero=>intro acc;simp
  |succ k ih=>intro acc;rw[List.replicate_succ,List.foldl_cons,ih,List.replicate_succ,List.flatten_cons,Array.toList_append,List.append_assoc]
 have:=key n #[]
 simpa using this
theorem zdn(c n:Nat):(zfX (one c) n).cps.toList=List.replicate n c:=by
 rw[zl0]
 show(List.replicate n [c]).flatten=_
 induction n with
 |zero=>rfl
 |succ n ih=>rw[List.replicate_succ,List.flatten_cons,ih,List.replicate_succ];rfl
noncomputable def zkJ(x:Str):Bool:=x.cps.toList.all λc=>some c==x.cps.toList.head?
theorem zjb(c n:Nat):zkJ (zfX (one c) n)=true:=by
 unfold zkJ
 rw[zdn]
 cases n with
 |zero=>rfl
 |succ n=>
  rw[List.all_eq_true]
  intro d hd
  rw[List.eq_of_mem_replicate hd]
  simp[List.replicate_succ]
noncomputable def keptL:List Str:=["goal","to","by","houses","tie","like","hand","keep","put","mark","long","from","strike"]
theorem zoC:∀x∈keptL,zi x=true:=by decide +kernel
theorem zl3:∀x∈keptL,zkJ x=false:=by decide +kernel
theorem zo4:∀c∈lettersS.cps.toList,∀k∈List.range 8,zi (zfX (one c) (k+1))=true:=by decide +kernel
theorem zig:lettersS.length=26:=by decide +kernel
theorem zgm:∀k∈List.range 26,lettersS.cps.toList[k]?=some (97+k):=by decide +kernel
theorem zkw(c:Nat):(one c).length=1:=rfl
noncomputable def znx:List Nat:=[1,3,5,7,9,11]
theorem znt:∀f∈List.range 26,∀st∈znx,((List.range 13).map λk=>(f+st*k)%26).Nodup:=by decide +kernel
noncomputable def nmS(f st k:Nat):Str:=zfX (one (97+(f+st*k)%26)) (1+(k*k+f)%8)
noncomputable def kwS(sp k:Nat):Str:=keptL.getD ((sp+3*k)%13) ""
noncomputable def zci(f st sp j k:Nat):Str:=if k<j then kwS sp k else nmS f st k
theorem zpI:∀sp∈List.range 13,((List.range 4).map λk=>kwS sp k).Nodup:=by decide +kernel
theorem zjr(sp k:Nat):kwS sp k∈keptL:=by
 unfold kwS
 have h:(sp+3*k)%13<keptL.length:=Nat.mod_lt _ (by decide)
 simp[List.getD,h]
theorem zmg{α:Type}{l:List α}(h:l.Nodup){i j:Nat}(hi:i<l.length)(hj:j<l.length)(hij:i≠j):l[i]≠l[j]:=λz=>hij ((List.getElem_inj h).mp z)
theorem ziy{f st sp j m:Nat}(hf:f<26)(hst:st∈znx)(hsp:sp<13)(hj:j<=4)(hm:m<=13):((List.range m).map (zci f st sp j)).Nodup:=by
 have key:∀a b,a<b->b<13->zci f st sp j a≠zci f st sp j b:=by
  intro a b hab hb
  unfold zci
  by_cases h1:a<j
  ·rw[if_pos h1]
   by_cases h2:b<j
   ·rw[if_pos h2]
    have:=zmg (zpI sp (List.mem_range.mpr hsp)) (i:=a) (j:=b) (by simp;omega) (by simp;omega) (by omega)
    simpa using this
   ·rw[if_neg h2]
    intro z
    have e1:=zl3 _ (zjr sp a)
    rw[z] at e1
    unfold nmS at e1
    rw[zjb] at e1
    cases e1
  ·rw[if_neg h1,if_neg (by omega)]
   intro z
   have hh:(nmS f st a).cps.toList.head?=(nmS f st b).cps.toList.head?:=by rw[z]
   unfold nmS at hh
   rw[zdn,zdn,Nat.add_comm 1,Nat.add_comm 1,List.replicate_succ,List.replicate_succ] at hh
   simp only[List.head?_cons,Option.some.injEq] at hh
   have:=zmg (znt f (List.mem_range.mpr hf) st hst) (i:=a) (j:=b) (by simp;omega) (by simp;omega) (by omega)
   simp at this
   omega
 rw[List.nodup_iff_pairwise_ne,List.pairwise_map]
 refine List.Pairwise.imp_of_mem (λ{a b} ha hb hab=>?_) (List.pairwise_lt_range (n:=m))
 exact key a b hab (by have:=List.mem_range.mp hb;omega)
theorem zre(f st k:Nat):zi (nmS f st k)=true:=by
 unfold nmS
 rw[Nat.add_comm 1]
 have hr:(f+st*k)%26<26:=Nat.mod_lt _ (by decide)
 exact zo4 _ (ζl (zgm _ (List.mem_range.mpr hr))) _ (List.mem_range.mpr (Nat.mod_lt _ (by decide)))
theorem zoV(f st sp j k:Nat):zi (zci f st sp j k)=true:=by
 unfold zci
 split
 ·exact zoC _ (zjr sp k)
 ·exact zre f st k
theorem znE{f st sp j m:Nat}(hj:j<m):((List.range m).map (zci f st sp j)).set j (kwS sp j)=(List.range m).map (zci f st sp (j+1)):=by
 apply List.ext_getElem?
 intro i
 rw[List.getElem?_set]
 by_cases e:j=i
 ·subst e
  rw[if_pos rfl,if_pos (by simp;exact hj)]
  simp[hj,zci]
 ·rw[if_neg e]
  rcases ξa i m with h|h
  ·rw[ζq,ζq,List.getElem?_range h]
   show some _=some _
   congr 1
   unfold zci
   by_cases h1:i<j
   ·rw[if_pos h1,if_pos (by omega)]
   ·rw[if_neg h1,if_neg (by omega)]
  ·rw[ζi (by simpa using h),ζi (by simpa using h)]
theorem zob{sp k:Nat}:keptL[(sp+3*k)%13]?=some (kwS sp k):=by
 unfold kwS
 have h:(sp+3*k)%13<keptL.length:=Nat.mod_lt _ (by decide)
 simp[List.getD,h]
theorem za3{xs:List V}{m:Nat}:zaY xs (some (m:Int)) none=xs.drop m:=by
 unfold zaY
 have e1:HT.sIx xs.length xs.length none=xs.length:=rfl
 have e2:HT.sIx xs.length 0 (some (m:Int))=min m xs.length:=by
  unfold HT.sIx
  have h:¬(m:Int)<0:=by omega
  simp only[if_neg h,Int.toNat_natCast]
 rw[e1,e2]
 rcases ξa m xs.length with h|h
 ·rw[Nat.min_eq_left (by omega),List.take_of_length_le (by rw[ζr];omega)]
 ·rw[Nat.min_eq_right h,List.drop_of_length_le (ζu _),List.drop_of_length_le h];simp
noncomputable def pairD(p:Str×Str):D:= .tup [.str p.1, .str p.2]
structure TownOk(g:Str)(hs:List Str)(ps:List (Str×Str))(lks hds:List D):Prop where
 rise:hs.Pairwise (λa b=>ltS a b=true)
 one:1<=hs.length
 ten:hs.length<=10
 names:∀x∈hs,zi x=true
 goal:g∈hs
 riseP:ps.Pairwise (λa b=>ltP a b=true)
 ties:∀p∈ps,p.1∈hs/\p.2∈hs/\ltS p.1 p.2=true
 ll:lks.length=hs.length
 lh:hds.length=hs.length
 likes:∀d∈lks,zbV d=true
 hands:∀d∈hds,zbE d=true
noncomputable def za5(g:Str)(hs:List Str)(ps:List (Str×Str))(lks hds:List D):D:= .tup [.str g, .tup (hs.map D.str), .tup (ps.map pairD), .tup lks, .tup hds]
theorem zgb{hs:List Str}{x:Str}(h:x∈hs)(hn:zi x=true):zL hs (.str x)=true:=by
 show(zi x&&hs.any λy=>decide (y=x))=true
 rw[hn,List.any_eq_true.mpr ⟨x,h,ζf rfl⟩];rfl
section
variable{te tf:TE}{ta:TA}{tb:TS}{De:Ends}{σ:L2.St}{H:Hp}{d:D}{ds es:List D}{K:PySem.W.Frag}{k:Nat}
theorem zbr(h:Dsp te σ H (.tup ds))(g:Dsp tf σ H (.tup es))(hl:ds.length+es.length<=1000):Dsp (tOp (zkW K) te tf) σ H (.tup (ds ++es)):=λH1 Q s q=>
 h H1 _ s λv H2 s2 rv=>g H2 _ (s.trans s2) λu H3 s3 ru=>by
  obtain⟨p,vs,rfl,hp,r1,_⟩:=rv.ofT
  obtain⟨p',us,rfl,hp',r2,_⟩:=ru.ofT
  have hp3:=s3 _ _ hp
  have r13:=r1.mono (.of s3)
  refine⟨p,p',vs,us,rfl,rfl, .inl (.inl hp3), .inl (.inl hp'),ξi (zm (by rw[r1.1,r2.1];exact hl)),λz=>?_,λ_ z=>?_,λ_ _ p2 hp2=>?_⟩
  ·have e:ds=[]:=by have:=r1.1;rw[z] at this;exact List.eq_nil_of_length_eq_zero this.symm
   subst e
   exact q _ H3 (s2.trans s3) ru
  ·have e:es=[]:=by have:=r2.1;rw[z] at this;exact List.eq_nil_of_length_eq_zero this.symm
   subst e
   have q':=q (.ref p) H3 (s2.trans s3)
   rw[List.append_nil] at q'
   exact q' (rv.same s3)
  ·exact q _ _ ((s2.trans s3).trans (Same.new hp2)) (.mkL zd (by rw[ζe];exact hl) ((r13.append r2).mono (.new hp2)))
theorem zo1{i:Nat}{v:V}(hv:σ[i]?=some (some v))(r:Rep H v (.tup (d::ds))):Dsp (tOp (zj7 K) (zb8 i) (tC (.int 0))) σ H d:=λH1 Q s q=>by
 obtain⟨p,vs,rfl,hp,r1,b⟩:=(r.same s).ofT
 match vs,r1 with
 |v0::vs,r1=>exact ⟨_,hv,p,_,0,v0,rfl,rfl, .inl (.inl hp),at0,q _ H1 (Same.refl _) r1.head.1⟩
 |[],r1=>exact absurd r1.1 (by simp)
end
section
variable{te tf:TE}{σ:L2.St}{H:Hp}{d:D}{ds es:List D}{K:PySem.W.Frag}
theorem zdj{J:It}{vs:List V}{f:D->D}{g:D->Bool}{ok:Hp->Prop}{tc:TT}{src:List (Option Nat)}{σr:L2.St}{Q:VK}(wk:Wk J vs.length (λi x=>vs[i]?=some x) ok)(hok:∀H',Same H H'->ok H')(r:RepL H vs ds)(hl:ds.length<=900)(e:zel src σ=none::σr)
 (hc:∀(x:V) (d:D) (H1:Hp) (Q1:Bool->Hp->Prop),Same H H1->Rep H1 x d->d∈ds->(∀H2,Same H1 H2->Q1 (g d) H2)->tc (some x::σr) H1 Q1)
 (he:∀(x:V) (d:D) (H1:Hp),Same H H1->Rep H1 x d->d∈ds->Dsp te (some x::σr) H1 (f d))
 (q:∀l us H',Same H H'->H l=none->H' l=some (.lst us)->RepL H' us ((ds.filter g).map f)->Q (.ref l) H'):zcN (zaE 0) tc te src σ Q J H:=by
 refine zby wk (λl i ys σ' H'=>(∃o,σ'=o::σr)/\RepL H' ys (((ds.take i).filter g).map f)/\Same H H') ?_ ?_ ?_ ?_
 ·exact λl h'=>⟨⟨none,e⟩,RepL.nil,Same.new h'⟩
 ·exact λl i ys σ' H' _ p=>hok H' p.2.2
 ·rintro l i y ys σ' H1 h' hi hy ⟨⟨o,rfl⟩,ry,s1⟩ hl'
  obtain⟨d,hd,rd⟩:=r.get hy
  refine hc y d H1 _ s1 (rd.same s1) (ζl hd) λH2 s2=>?_
  have tk:((ds.take (i+1)).filter g).map f=((ds.take i).filter g).map f ++([d].filter g).map f:=by
   rw[List.take_add_one,hd,List.filter_append,ξc];rfl
  rw[tk]
  cases hg:g d with
  |false=>
   have e0:([d].filter g).map f=[]:=by simp[hg]
   rw[e0,List.append_nil]
   exact⟨s2 _ _ hl',⟨_,rfl⟩,ry.mono (.of s2),s1.trans s2⟩
  |true=>
   have e0:([d].filter g).map f=[f d]:=by simp[hg]
   rw[e0]
   refine he y d H2 (s1.trans s2) ((rd.same s1).same s2) (ζl hd) H2 _ (Same.refl _) λv H3 s3 rv=>?_
   refine⟨s3 _ _ (s2 _ _ hl'),?_,⟨_,rfl⟩,?_,?_⟩
   ·have h1:=ry.1
    have h2:=List.length_filter_le g (ds.take i)
    rw[ζa] at h1
    rw[ζm] at h2
    exact zm (by omega)
   ·exact ((ry.mono (.of (s2.trans s3))).append (.cons rv .nil)).mono (.lset (s3 _ _ (s2 _ _ hl')))
   ·exact λc o e=>by
     rw[zr (zB e h')]
     exact s3 _ _ (s2 _ _ (s1 _ _ e))
 ·rintro l ys σ' H1 h' ⟨⟨o,rfl⟩,ry,s1⟩ hl'
  rw[r.1,List.take_length] at ry
  exact q l ys H1 s1 h' hl' ry
theorem zmJ{i:Nat}{v:V}(hv:σ[i]?=some (some v))(r:Rep H v (.tup (ds ++ [d]))):Dsp (tOp (zj7 K) (zb8 i) (tUn (rU λi=> .int (-i)) (tC (.int 1)))) σ H d:=λH1 Q s q=>by
 obtain⟨p,vs,rfl,hp,r1,b⟩:=(r.same s).ofT
 have h1:=r1.1
 rw[ζe,ξd] at h1
 obtain⟨us,u,rfl⟩:∃us u,vs=us ++ [u]:=⟨vs.dropLast,vs.getLast (λz=>by rw[z] at h1;simp at h1),(List.dropLast_concat_getLast _).symm⟩
 have ru:Rep H1 u d:=by
  rw[ζe,ξd] at h1
  refine r1.2 us.length u d (by simp) ?_
  rw[show us.length=ds.length by omega];simp
 exact⟨_,hv,1,rfl,p,_,-1,u,rfl,rfl, .inl (.inl hp),zeX us u,q _ H1 (Same.refl _) ru⟩
end
theorem zbe{H:Hp}{hs:List Str}(h:∀x∈hs,x.length<=1000):RepL H (hs.map V.str) (hs.map D.str):=by
 refine⟨by rw[ζa,ζa],λi v d hv hd=>?_⟩
 rw[ζq] at hv hd
 cases e:hs[i]? with
 |none=>rw[e] at hv;cases hv
 |some x=>
  rw[e] at hv hd
  cases hv
  cases hd
  exact .str x (h x (ζl e))
theorem zi8{α β:Type}{F:α->List β}{m:Nat}(hF:∀a,(F a).length<=m):∀l:List α,(l.flatMap F).length<=l.length*m
 |[]=>ξk _
 |a::l=>by
  rw[List.flatMap_cons,ζe,ζw,Nat.succ_mul]
  have:=zi8 hF l
  have:=hF a
  omega
inductive Tr(H:Hp):V->PyData->Prop
 |non:Tr H .non .none
 |bl (b:Bool):Tr H (.bl b) (.bool b)
 |int (i:Int):Tr H (.int i) (.int i)
 |str (x:Str) (h:PyData.strOk x=true):Tr H (.str x) (.str x)
 |tup {p:Addr} {vs:List V} {ds:List PyData} (e:H p=some (.tup vs)) (hl:vs.length=ds.length) (h:∀(i:Nat) (v:V) (d:PyData),vs[i]?=some v->ds[i]?=some d->Tr H v d):Tr H (.ref p) (.tuple ds)
 |lst {p:Addr} {vs:List V} {ds:List PyData} (e:H p=some (.lst vs)) (hl:vs.length=ds.length) (h:∀(i:Nat) (v:V) (d:PyData),vs[i]?=some v->ds[i]?=some d->Tr H v d):Tr H (.ref p) (.list ds)
theorem zd4{h:Heap}:∀{vs:List V} {us:List Value} {ds:List PyData},Vals vs us->vs.length=ds.length->(∀(i:Nat) (v:V) (d:PyData),vs[i]?=some v->ds[i]?=some d->∀u,RelV v u->∃as,Reads h u d as)->∃bs,ReadsAll h us ds bs
 |_,_,[], .nil,_,_=>⟨_, .nil⟩
 |v::vs,u::us,d::ds, .cons r t,hl,hh=>by
  obtain⟨as,ha⟩:=hh 0 v d rfl rfl u r
  obtain⟨bs,hb⟩:=zd4 t (by simpa using hl) λi v' d' h1 h2=>hh (i+1) v' d' h1 h2
  exact⟨_, .cons ha hb⟩
 |[],_,d::ds, .nil,hl,_=>by simp at hl
 |v::vs,u::us,[], .cons r t,hl,_=>by simp at hl
theorem Tr.reads{X:Cx}{pins:List (Addr×Obj)}{σ:L2.St}{H:Hp}{s:Shared}(I:Inv X pins σ H s){x:V}{d:PyData}(t:Tr H x d):∀v,RelV x v->∃as,Reads s.heap v d as:=by
 induction t with
 |non=>intro v r;cases r;exact⟨_, .none⟩
 |bl b=>intro v r;cases r;exact⟨_, .bool b⟩
 |int i=>intro v r;obtain⟨t,rfl⟩:=r;exact⟨_, .int i t⟩
 |str x h=>intro v r;obtain⟨t,rfl⟩:=r;exact⟨_, .str x t⟩
 |tup e hl h ih=>
  intro v r
  cases r
  obtain⟨its,rv,⟨o,ho,hc,n,hd⟩,_⟩:=I.tuple (SqT.of e)
  obtain⟨bs,hb⟩:=zd4 (h:=s.heap) rv hl ih
  exact⟨_, .tuple ho hc hd (by simpa using hb)⟩
 |lst e hl h ih=>
  intro v r
  cases r
  obtain⟨its,n,rv,ho,_⟩:=I.lst e
  obtain⟨bs,hb⟩:=zd4 (h:=s.heap) rv hl ih
  exact⟨_, .list ho rfl rfl (by simpa using hb)⟩
theorem zff:∀{vs:List V} {ds:List PyData},vs.length=ds.length->(∀(i:Nat) (v:V) (d:PyData),vs[i]?=some v->ds[i]?=some d->d.canLay0=true)->PyData.canLayAll0 ds=true
 |_,[],_,_=>rfl
 |v::vs,d::ds,hl,hh=>by
  rw[PyData.canLayAll0,hh 0 v d rfl rfl,zff (vs:=vs) (ds:=ds) (by simpa using hl) λi v' d' h1 h2=>hh (i+1) v' d' h1 h2];rfl
 |[],d::ds,hl,_=>by simp at hl
theorem Tr.can{H:Hp}{x:V}{d:PyData}(t:Tr H x d):d.canLay0=true:=by
 induction t with
 |non=>rfl
 |bl b=>rfl
 |int i=>rfl
 |str x h=>simp only[PyData.canLay0];exact h
 |tup e hl h ih=>rw[PyData.canLay0];exact zff hl ih
 |lst e hl h ih=>rw[PyData.canLay0];exact zff hl ih
section
variable{X:Cx}
noncomputable def zqO:R2:=λx y H Q=>∃d e,Tr H x d/\Tr H y e/\min d.depth e.depth<=60/\Q (.bl (d.eqv e)) H
noncomputable def zrr:R2:=λx y H Q=>∃d e,Tr H x d/\Tr H y e/\min d.depth e.depth<=60/\Q (.bl (!d.eqv e)) H
theorem zfn(hu:X.A.units+64<cLine):OpR X (compareOp .Eq) zqO:=by
 intro pins s σ H x y v u Q I rx ry h
 obtain⟨d,e,t1,t2,hd,q⟩:=h
 obtain⟨as,r1⟩:=t1.reads I v rx
 obtain⟨bs,r2⟩:=t2.reads I u ry
 exact SeqAt.compareEq_reads r1 r2 t1.can t2.can (by omega) ⟨.bl _,H,I,rfl,q⟩
theorem zfd(hu:X.A.units+64<cLine):OpR X (compareOp .NotEq) zrr:=by
 intro pins s σ H x y v u Q I rx ry h
 obtain⟨d,e,t1,t2,hd,q⟩:=h
 obtain⟨as,r1⟩:=t1.reads I v rx
 obtain⟨bs,r2⟩:=t2.reads I u ry
 exact SeqAt.compareNe_reads r1 r2 t1.can t2.can (by omega) ⟨.bl _,H,I,rfl,q⟩
noncomputable def zrv:R2:=λx y H Q=>∃d es,Tr H x d/\(Tr H y (.list es)\/Tr H y (.tuple es))/\d.depth<=60/\Q (.bl (es.any λy=>y.eqv d)) H
theorem zm8(hu:X.A.units+64<cLine):OpR X (compareOp .In) zrv:=by
 intro pins s σ H x y v u Q I rx ry h
 obtain⟨d,es,t1,t2,hd,q⟩:=h
 obtain⟨as,r1⟩:=t1.reads I v rx
 rcases t2 with t2|t2
 ·obtain ⟨bs,r2⟩:=t2.reads I u ry
  have c:=t2.can
  rw[PyData.canLay0] at c
  exact SeqAt.in_list_reads r2 r1 c t1.can (by omega) ⟨.bl _,H,I,rfl,q⟩
 ·obtain ⟨bs,r2⟩:=t2.reads I u ry
  have c:=t2.can
  rw[PyData.canLay0] at c
  exact SeqAt.in_tuple_reads r2 r1 c t1.can (by omega) ⟨.bl _,H,I,rfl,q⟩
theorem zeR{k:Nat}{A:Around}(r:Room k A):A.units+64<cLine:=by have:=r.un;omega
end
end RW
namespace HT
open PySem PySem.Spec PyProof.Rows
section
variable{prog:Program}{w:World}{A:Around}{E:Value->Shared->Prop}{s:Shared}
theorem znH{α β:Type}{f:α->Option β}{g:α->β}:∀{l:List α},(∀a∈l,f a=some (g a))->l.filterMap f=l.map g
 |[],_=>rfl
 |a::l,h=>by rw[List.filterMap_cons,h a ζp,znH λb hb=>h b (ξe _ hb)];rfl
theorem ziQ(xs:Array Value):((List.range xs.size).filterMap λ(m:Nat)=>xs[((xs.size:Int) -1+(m:Int)* -1).toNat]?).toArray=xs.toList.reverse.toArray:=by
 congr 1
 refine List.ext_getElem? λi=>?_
 have e:((List.range xs.size).filterMap λ(m:Nat)=>xs[((xs.size:Int) -1+(m:Int)* -1).toNat]?)=(List.range xs.size).map λm=>xs[xs.size -1 -m]?.getD .none:=by
  refine znH λm hm=>?_
  have hm':=List.mem_range.mp hm
  rw[show((xs.size:Int) -1+(m:Int)* -1).toNat=xs.size -1 -m by omega]
  have:xs.size -1 -m<xs.size:=by omega
  simp[this]
 rw[e,ζq]
 rcases ξa i xs.size with h|h
 ·rw[List.getElem?_range h,List.getElem?_reverse (by simpa using h)]
  have:xs.size -1 -i<xs.size:=by omega
  simp[this]
 ·rw[ζi (by simpa using h),ζi (by simpa using h)];rfl
theorem getItem_tuple_rev{t sl:Addr}{items:Array Value}{tk:Tok}{Q:Value->Shared->Prop}(ht:IsTup s.heap t items)(hs:s.heap.IsSliceOf sl .none .none (.int (-1) tk))
 (h:Q (.ref s.heap.objs.size) {s with heap:=s.heap.push {cls:= .type "tuple",data:= .seq items.toList.reverse.toArray}})
 (hsz:items.size<=sizeLine):wpAny (model prog w) A (getItem (.ref t) (.ref sl)) Q E s:=by
 have htake:sizeOk (.seq items.toList.reverse.toArray):=by
  show items.toList.reverse.toArray.size<=sizeLine
  rw[ζv,List.length_reverse,Array.length_toList]
  exact hsz
 obtain⟨os,hos,hcs,hds⟩:=id hs
 have hTs:s.TypeIs (.ref sl) "slice":=⟨os,hos,hcs⟩
 unfold getItem
 try with_reducible refine wpAny_holding ?_
 first|refine ζb (ζs ?_)|skip
 refine ζb (wpAny_sequenceKey ht.typeIs (by decide) ?_)
 refine ζb (wpAny_callSpecial?_slot (name:=Str.ofString "__getitem__") ht.typeIs PyProof.Rows.slot_tuple_getitem
  (wpAny_call_entry PyProof.Rows.slot_tuple_getitem ht.typeIs entry_tuple_getitem ?_ (args_tuple_getitem _ _)))
 show wpAny _ _ (Builtin.Tuple.tupleItemsOf (.ref t)>>=_) _ _ s
 refine ζb (tupleItemsOf_ ht ?_)
 refine ζb (wpAny_typeOf hTs ?_)
 rw[if_pos (by decide)]
 have happ:∀{A:Around} {R:Int×Int×Nat->Shared->Prop},R ((items.size:Int) -1,-1,items.size) s->wpAny (model prog w) A (Builtin.Slice.sliceApplied (.ref sl) (pure (items.size:Int))) R E s:=by
  intro A R hR
  unfold Builtin.Slice.sliceApplied Builtin.Slice.sliceFields
  refine ζb (ζb (wpAny_field hos hds (x:= .none) rfl (ζb (wpAny_field hos hds (x:= .none) rfl (ζb (wpAny_field hos hds (x:= .int (-1) tk) rfl (ζs ?_)))))))
  refine ζb (zda (.int (-1) tk) ?_)
  show wpAny _ _ (if((-1:Int)==0)=true then _ else _) _ _ s
  rw[if_neg (by decide)]
  refine ζb (zda .none (ζb (zda .none (ζb (ζs ?_)))))
  show wpAny _ _ (pure ((items.size:Int) -1,(-1:Int),Builtin.Slice.slicePlaces ((items.size:Int) -1) (-1) (-1))) _ _ s
  have hp:Builtin.Slice.slicePlaces ((items.size:Int) -1) (-1) (-1)=items.size:=by
   unfold Builtin.Slice.slicePlaces
   rw[if_neg (by decide),show(- -1:Int)=1 by decide,Int.ediv_one]
   split<;>omega
  rw[hp]
  exact ζs hR
 refine ζb (happ ?_)
 have hno:¬(((items.size:Int) -1==0&&(-1:Int)==1&&items.size==items.size)=true):=by
  intro q
  rw[ζt,ζt] at q
  exact absurd q.1.2 (by decide)
 show wpAny _ _ (if((items.size:Int) -1==0&&(-1:Int)==1&&items.size==items.size)=true then _ else _) _ _ s
 rw[if_neg hno,ziQ]
 first
  |exact ζb (m:=Builtin.Tuple.tupleExact _) (wpAny_newObj_type (ζs ⟨_,rfl,ζs h⟩) htake)
  |exact ζb (m:=Builtin.Tuple.tupleExact _) (wpAny_newObj_type (ζb (ζs (ζs ⟨_,rfl,ζs h⟩))) htake)
  |exact ζb (ζb (m:=Builtin.Tuple.tupleExact _) (wpAny_newObj_type (ζs (ζs ⟨_,rfl,ζs h⟩)) htake))
  |exact ζb (ζb (m:=Builtin.Tuple.tupleExact _) (wpAny_newObj_type (ζs ⟨_,rfl,ζs h⟩) htake))
end
end HT
namespace L2
open PySem PySem.Spec PyProof.Rows
section
variable{X:Cx}{e:Expr}{te:TE}{p1 p2 p3 pos:Pos}{tk:Tok}
noncomputable def zpw(K:PySem.W.Frag)(te:TE):TE:=λσ H Q=>te σ H λx H1=>∃a xs,x= .ref a/\SqT K H1 a xs/\∀p,H1 p=none->Q (.ref p) (upd H1 p (.tup xs.reverse))
theorem Vals.rev:∀{xs:List V} {us:List Value},Vals xs us->Vals xs.reverse us.reverse
 |_,_, .nil=> .nil
 |x::xs,u::us, .cons r t=>by
  rw[List.reverse_cons,List.reverse_cons]
  exact(Vals.rev t).append (.cons r .nil)
theorem zqr{st:Expr}(he:PE X e te)(hst:PE X st (tUn (rU λi=> .int (-i)) (tC (.int 1)))):PE X (.Subscript e (.Slice none none (some st) p2) pos) (zpw X.K te):=by
 intro pins s σ H Q I h
 refine Subscript_ (thn (he pins s σ H _ I h) λv s1 ⟨x,H1,I1,r1,q1⟩=>?_)
 refine wpAny_Slice ?_
 rw[evalPart_none,evalPart_some]
 refine ζs (ζs ?_)
 refine thn (hst pins s1 σ H1 (λy H2=>y= .int (-1)/\H2=H1) I1 ⟨1,rfl,rfl,rfl⟩) λvst s3 ⟨y,H3,I3,r3,ey,eh⟩=>?_
 subst ey eh
 obtain⟨tk,rfl⟩:=r3
 obtain⟨a,xs,rfl,hx,q⟩:=q1
 cases r1
 have I4:Inv X pins σ _ {s3 with heap:=s3.heap.push {cls:= .type "slice",data:= .fields #[.none, .none, .int (-1) tk]}}:=I3.kept (t':=s3.toks) λb ob q=>ζc _ q
 obtain⟨its,r,ht,hz⟩:=I4.tuple hx
 have hlen:its.toArray.size=xs.length:=by rw[ζv];exact r.length.symm
 show wpAny (model X.prog X.w) X.A (subscriptTail e (.Slice none none (some st) p2) (.ref a) (.ref s3.heap.objs.size)) (EP X pins σ Q) X.xe {s3 with heap:=s3.heap.push {cls:= .type "slice",data:= .fields #[.none, .none, .int (-1) tk]}}
 refine tail_any (ops:=[.ref a, .ref s3.heap.objs.size]) ht.typeIs PyProof.Rows.slot_tuple_getitem.lookup ?_ (by with_unfolding_all rfl)
 refine HT.getItem_tuple_rev (tk:=tk) ht (Heap.IsSliceOf.new ..) ?_ (by rw[hlen];exact hz)
 refine⟨.ref _,_,I4.laid (t':=s3.toks) (o:= .tup xs.reverse) (λb ob q=>ζc _ q) (ζu _) ?_,rfl,q _ (I4.hok.fresh (ζu _))⟩
 exact⟨by rw[List.length_reverse];exact hz,_,r.rev,IsTup.new _ _,NoDict.new rfl (ζj _ rfl)⟩
theorem zmy{st:Expr}(he:QE X e te)(hst:QE X st (tUn (rU λi=> .int (-i)) (tC (.int 1)))):QE X (.Subscript e (.Slice none none (some st) p2) pos) (zpw X.K te):=⟨zqr he.o hst.o⟩
end
end L2
namespace HT
open PySem PySem.Spec PyProof.Rows
section
variable{prog:Program}{w:World}{A:Around}{E:Value->Shared->Prop}{s:Shared}
theorem getItem_tuple_whole{t sl:Addr}{items:Array Value}{vl vu:Value}{lo hi:Option Int}{Q:Value->Shared->Prop}(ht:IsTup s.heap t items)(hs:s.heap.IsSliceOf sl vl vu .none)(pl:IsPart vl lo)(pu:IsPart vu hi)
 (h1:sIx items.size 0 lo=0) (h2:sIx items.size items.size hi=items.size)
 (h:Q (.ref t) s):wpAny (model prog w) A (getItem (.ref t) (.ref sl)) Q E s:=by
 obtain⟨os,hos,hcs,hds⟩:=id hs
 have hTs:s.TypeIs (.ref sl) "slice":=⟨os,hos,hcs⟩
 unfold getItem
 try with_reducible refine wpAny_holding ?_
 first|refine ζb (ζs ?_)|skip
 refine ζb (wpAny_sequenceKey ht.typeIs (by decide) ?_)
 refine ζb (wpAny_callSpecial?_slot (name:=Str.ofString "__getitem__") ht.typeIs PyProof.Rows.slot_tuple_getitem
  (wpAny_call_entry PyProof.Rows.slot_tuple_getitem ht.typeIs entry_tuple_getitem ?_ (args_tuple_getitem _ _)))
 show wpAny _ _ (Builtin.Tuple.tupleItemsOf (.ref t)>>=_) _ _ s
 refine ζb (tupleItemsOf_ ht ?_)
 refine ζb (wpAny_typeOf hTs ?_)
 rw[if_pos (by decide)]
 refine ζb (zdv hs pl pu ?_)
 rw[h1,h2]
 show wpAny _ _ (if(((0:Nat):Int)==0&&(1:Int)==1&&(items.size -0)==items.size)=true then _ else _) _ _ s
 rw[if_pos (by simp)]
 unfold Builtin.Tuple.tupleIsExact
 refine ζb (ζb (wpAny_typeOf ht.typeIs (ζs ?_)))
 rw[if_pos (by decide)]
 refine ζb (wpAny_rule ?_)
 exact ζs ⟨_,rfl,ζs h⟩
end
end HT
namespace L2
open PySem PySem.Spec PyProof.Rows
section
variable{X:Cx}{K:PySem.W.Frag}
def ze3(K:PySem.W.Frag):V->Option Int->Option Int->Hp->VK->Prop:=λx lo hi H Q=>∃a xs,x= .ref a/\SqT K H a xs/\
 (zaY xs lo hi=xs->Q (.ref a) H)/\∀p,H p=none->Q (.ref p) (upd H p (.tup (zaY xs lo hi)))
theorem zR:SlR X (ze3 X.K):=by
 intro pins s σ H x v vl vu lo hi sl Q I rx hs pl pu h
 obtain⟨a,xs,rfl,hx,q1,q2⟩:=h
 by_cases hw:HT.sIx xs.length 0 lo=0/\HT.sIx xs.length xs.length hi=xs.length
 ·have rx':v= .ref a:=rx
  subst rx'
  obtain⟨its,r,ht,hz⟩:=I.tuple hx
  have hlen:its.toArray.size=xs.length:=by rw[ζv];exact r.length.symm
  refine⟨"tuple",_,PyProof.Rows.slot_tuple_getitem.lookup,ht.typeIs,?_⟩
  refine HT.getItem_tuple_whole ht hs pl pu (by rw[hlen];exact hw.1) (by rw[hlen];exact hw.2) ⟨.ref a,H,I,rfl,q1 ?_⟩
  unfold zaY
  rw[hw.1,hw.2];simp
 ·exact zqi pins s σ H (.ref a) v vl vu lo hi sl Q I rx hs pl pu ⟨a,xs,rfl,hx,hw,q2⟩
end
end L2
namespace RW
open PySem PySem.Spec PyProof.Rows L2
section
variable{te tf:TE}{ta:TA}{σ:L2.St}{H:Hp}{d:D}{ds es:List D}{K:PySem.W.Frag}
theorem zdL{tl th:TO}{i:Nat}{v:V}{lo hi:Option Int}(hv:σ[i]?=some (some v))(r:Rep H v (.tup ds))(hl:∀H1 (Q:Option Int->Hp->Prop),Q lo H1->tl σ H1 Q)(hh:∀H1 (Q:Option Int->Hp->Prop),Q hi H1->th σ H1 Q)
 (hc:∀vs:List V,vs.length=ds.length->∃m k,zaY vs lo hi=(vs.drop m).take k/\es=(ds.drop m).take k):Dsp (tSl (ze3 K) (zb8 i) tl th) σ H (.tup es):=λH1 Q s q=>by
 obtain⟨p,vs,rfl,hp,r1,b⟩:=(r.same s).ofT
 obtain⟨m,k,e1,e2⟩:=hc vs r1.1
 refine⟨_,hv,hl _ _ (hh _ _ ⟨p,vs,rfl, .inl (.inl hp),λz=>?_,λp2 hp2=>?_⟩)⟩
 ·refine q _ H1 (Same.refl _) ?_
  have e3:es=ds:=by
   rw[e2]
   rw[e1] at z
   have z1:=congrArg List.length z
   rw[ζm,ζr,r1.1] at z1
   rcases Nat.eq_zero_or_pos m with rfl|hm
   ·rw[List.drop_zero]
    exact List.take_of_length_le (by omega)
   ·have:ds=[]:=List.eq_nil_of_length_eq_zero (by omega)
    subst this;simp
  rw[e3]
  exact .mkL hp b r1
 ·refine q _ _ (Same.new hp2) (.mkL zd (by rw[e2,ζm,ζr];omega) ?_)
  rw[e1,e2]
  exact((r1.drop m).take k).mono (.new hp2)
theorem zbi{Q:Option Int->Hp->Prop}{H1:Hp}(h:Q none H1):zal σ H1 Q:=h
theorem ziM{Q:Option Int->Hp->Prop}{H1:Hp}{i:Int}(h:Q (some i) H1):zcQ (tC (.int i)) σ H1 Q:=⟨i,rfl,h⟩
theorem zf0{Q:Option Int->Hp->Prop}{H1:Hp}{i:Int}(h:Q (some (-i)) H1):zcQ (tUn (rU λi=> .int (-i)) (tC (.int i))) σ H1 Q:=⟨i,rfl,-i,rfl,h⟩
theorem zlP{n:Nat}{i:Nat}{v:V}(hv:σ[i]?=some (some v))(r:Rep H v (.tup ds)):Dsp (tSl (ze3 K) (zb8 i) zal (zcQ (tC (.int (n:Int))))) σ H (.tup (ds.take n)):=
 zdL (lo:=none) (hi:=some (n:Int)) hv r (λ_ _ h=>zbi h) (λ_ _ h=>ziM h) λvs hl=>⟨0,n,by rw[zbw,List.drop_zero],by rw[List.drop_zero]⟩
theorem zlk{i:Nat}{v:V}(hv:σ[i]?=some (some v))(r:Rep H v (.tup (ds ++ [d]))):Dsp (tSl (ze3 K) (zb8 i) (zcQ (tUn (rU λi=> .int (-i)) (tC (.int 1)))) zal) σ H (.tup [d]):=
 zdL (lo:=some (-1)) (hi:=none) hv r (λ_ _ h=>zf0 h) (λ_ _ h=>zbi h) λvs hl=>by
  rw[ζe,ξd] at hl
  refine⟨ds.length,1,?_,?_⟩
  ·unfold zaY
   have e1:HT.sIx vs.length 0 (some (-1))=ds.length:=by
    unfold HT.sIx
    have h:(-1:Int)<0:=by omega
    simp only[if_pos h];omega
   have e2:HT.sIx vs.length vs.length none=vs.length:=rfl
   rw[e1,e2,hl]
   congr 1;omega
  ·simp
theorem zoz{i:Nat}{v:V}(hv:σ[i]?=some (some v))(r:Rep H v (.tup ds)):Dsp (zpw K (zb8 i)) σ H (.tup ds.reverse):=λH1 Q s q=>by
 obtain⟨p,vs,rfl,hp,r1,b⟩:=(r.same s).ofT
 refine⟨_,hv,p,vs,rfl, .inl (.inl hp),λp2 hp2=>q _ _ (Same.new hp2) (.mkL zd (by rw[List.length_reverse];exact b) ?_)⟩
 have rr:RepL H1 vs.reverse ds.reverse:=by
  refine⟨by rw[List.length_reverse,List.length_reverse];exact r1.1,λi v d h1 h2=>?_⟩
  have hi:i<vs.length:=by
   rcases ξa i vs.length with z|z
   ·exact z
   ·rw[ζi (by simpa using z)] at h1;cases h1
  have l1:=r1.1
  rw[List.getElem?_reverse hi] at h1
  rw[List.getElem?_reverse (by omega)] at h2
  exact r1.2 _ v d h1 (by rw[l1];exact h2)
 exact rr.mono (.new hp2)
end
theorem zl7:∀x∈keptL,x≠"nowhere":=by decide +kernel
theorem zlh:zkJ "nowhere"=false:=by decide +kernel
theorem zlq(f st sp j k:Nat):zci f st sp j k≠"nowhere":=by
 unfold zci
 split
 ·exact zl7 _ (zjr sp k)
 ·intro z
  have e:=zlh
  rw[←z] at e
  unfold nmS at e
  rw[zjb] at e
  cases e
section
variable{te:TE}{ta:TA}{tb:TS}{De:Ends}{σ:L2.St}{H:Hp}{d:D}{ds es:List D}{K:PySem.W.Frag}{k j:Nat}{g:D->Bool}{l lf:Addr}{m:Nat}
end
section
variable{x h t l a:D}
end
section
variable{te tf:TE}{ta:TA}{tb:TS}{De:Ends}{σ:L2.St}{H:Hp}{d:D}{ds es:List D}{K:PySem.W.Frag}{k j:Nat}{g:D->Bool}{m:Nat}
theorem zcj{H H':Hp}{p:Addr}(s:Same H H')(h:H' p=none):H p=none:=by
 cases e:H p with
 |none=>rfl
 |some o=>have:=s _ _ e;rw[h] at this;cases this
end
theorem zD{x:Str}(h:zi x=true):PyData.strOk x=true:=by
 unfold zi at h
 simp only[ζt] at h
 have h2:=h.1.2
 unfold PyData.strOk
 rw[Array.all_eq_true']
 intro c hc
 have:=List.all_eq_true.mp h2 c (by simpa using hc)
 unfold za7 at this
 simp only[ζt,decide_eq_true_eq] at this
 exact ζf (by omega)
noncomputable def zca(p:Str×Str):PyData:= .tuple [.str p.1, .str p.2]
theorem zks{H:Hp}{v:V}{p:Str×Str}(r:Rep H v (pairD p))(h1:zi p.1=true)(h2:zi p.2=true):Tr H v (zca p):=by
 obtain⟨q,x,y,rfl,hq,r1,r2⟩:=r.of2
 cases r1 with|str _ _=>
 cases r2 with|str _ _=>
 refine .tup hq rfl λi v d e1 e2=>?_
 match i with
 |0=>cases e1;cases e2;exact .str _ (zD h1)
 |1=>cases e1;cases e2;exact .str _ (zD h2)
 |i+2=>cases e1
theorem ziZ{H:Hp}{v:V}{ps:List (Str×Str)}(r:Rep H v (.tup (ps.map pairD)))(h:∀p∈ps,zi p.1=true/\zi p.2=true):Tr H v (.tuple (ps.map zca)):=by
 obtain⟨q,vs,rfl,hq,rl,_⟩:=r.ofT
 refine .tup hq (by rw[rl.1,ζa,ζa]) λi v d e1 e2=>?_
 rw[ζq] at e2
 cases e:ps[i]? with
 |none=>rw[e] at e2;cases e2
 |some p=>
  rw[e] at e2
  cases e2
  exact zks (rl.2 i v (pairD p) e1 (by rw[ζq,e];rfl)) (h p (ζl e)).1 (h p (ζl e)).2
theorem zb0{α:Type}[DecidableEq α]:∀{l m:List α},l.Nodup->(∀x∈l,x∈m)->l.length<=m.length
 |[],m,_,_=>ξk _
 |a::l,m,hn,hs=>by
  have ha:=hs a ζp
  have:=zb0 (l:=l) (m:=m.erase a) (List.nodup_cons.mp hn).2 λx hx=>(List.mem_erase_of_ne (λz:x=a=>(List.nodup_cons.mp hn).1 (by rw[←z];exact hx))).mpr (hs x (ξe _ hx))
  rw[List.length_erase_of_mem ha] at this
  have:1<=m.length:=List.length_pos_of_mem ha
  rw[ζw]
  omega
theorem TownOk.lp{g:Str}{hs:List Str}{ps:List (Str×Str)}{lks hds:List D}(T:TownOk g hs ps lks hds):ps.length<=100:=by
 have nd:ps.Nodup:=T.riseP.imp λ{a b} h z=>by rw[z,zhU] at h;cases h
 have:=zb0 (m:=hs.flatMap λa=>hs.map λb=>(a,b)) nd λp hp=>by
  obtain⟨h1,h2,_⟩:=T.ties p hp
  exact List.mem_flatMap.mpr ⟨p.1,h1,List.mem_map.mpr ⟨p.2,h2,rfl⟩⟩
 have h2:=zi8 (F:=λa=>hs.map λb=>(a,b)) (m:=10) (λa=>by rw[ζa];exact T.ten) hs
 have:=T.ten
 omega
theorem TownOk.tn{g:Str}{hs:List Str}{ps:List (Str×Str)}{lks hds:List D}(T:TownOk g hs ps lks hds):∀p∈ps,zi p.1=true/\zi p.2=true:=λp hp=>⟨T.names _ (T.ties p hp).1,T.names _ (T.ties p hp).2.1⟩
end RW
namespace RW
theorem zQ{b:Bool}{X Y:Prop}(h:b=true)(x:X):if b=true then X else Y:=by rw[if_pos h];exact x
theorem zW{b:Bool}{X Y:Prop}(h:b=false)(y:Y):if b=true then X else Y:=by rw[if_neg (by rw[h];decide)];exact y
end RW
namespace L2
open PySem PySem.W PySem.Spec PyProof.Rows
section
variable{prog:Program}{w:World}{A:Around}{E:Value->Shared->Prop}{s:Shared}
theorem zi5{r:Addr}{T:String}{o:Obj}{vs:List Value}{n:Nat}{R:List Value->Shared->Prop}(hT:T="list"\/T="tuple")(ho:s.heap.get? r=some o)(hc:o.cls= .type T)(hd:o.data= .seq vs.toArray n)(hz:vs.length<=sizeLine)
 (q:∀(h':Heap),(∀b o,s.heap.get? b=some o->h'.get? b=some o)->s.heap.objs.size<h'.objs.size->R vs {s with heap:=h'}):wpAny (model prog w) A (collect (.ref r)) R E s:=by
 have lt:=ζn ho
 have hne:r≠s.heap.objs.size:=ξl lt
 have g0:(s.heap.push {cls:= .type "list",data:= .seq ([]:List Value).toArray}).get? s.heap.objs.size=some (seqObj "list" #[] 0):=ζj _ rfl
 have gr:(s.heap.push {cls:= .type "list",data:= .seq ([]:List Value).toArray}).get? r=some o:=ζc _ ho
 obtain⟨e1,g1⟩:∃e1,((s.heap.push {cls:= .type "list",data:= .seq ([]:List Value).toArray}).update s.heap.objs.size (Obj.mapSeq λx=>x ++vs.toArray)).get? s.heap.objs.size=some (seqObj "list" ((#[]:Array Value)++vs.toArray) e1):=⟨_,get?_update_seq g0 λx=>x ++vs.toArray⟩
 have u1:=Heap.SameBut.update (s.heap.push {cls:= .type "list",data:= .seq ([]:List Value).toArray}) s.heap.objs.size (Obj.mapSeq λx=>x ++vs.toArray)
 unfold collect
 refine ζb (wpAny_runValue (codeAny_builtin entry_proto_collect' (by
  rw[Around.under_plainId PySem.F.plain_proto_collect _]
  show wpAny _ A.in1 (newList []>>=λl=>again (.builtin "list.__iadd__" ⟨[l, .ref r],[]⟩)) _ _ s
  refine ζb (wpAny_newObj_type (ζs ⟨plainId_quiet PySem.F.plain_list_iadd _,codeAny_builtin entry_list_iadd' (by
   rw[Around.under_plainId PySem.F.plain_list_iadd _]
   show wpAny _ A.in1 (Builtin.List.listExtendWith (.ref s.heap.objs.size) (.ref r) (.ref s.heap.objs.size)) _ _ _
   unfold Builtin.List.listExtendWith
   have hty:({s with heap:=s.heap.push {cls:= .type "list",data:= .seq ([]:List Value).toArray}}:Shared).TypeIs (.ref r) T:=⟨o,gr,hc⟩
   refine ζb (wpAny_typeOf hty ?_)
   rw[if_pos (by rcases hT with rfl|rfl<;>simp)]
   refine ζb (listItems_at gr hd (ζb (listItems_at g0 rfl ?_)))
   rw[if_neg (by simp)]
   refine ζb (listUpdate_at g0 rfl ?_ (ξk _) (by show((#[]:Array Value)++vs.toArray).size<=_;simp;omega))
   refine ζs ?_
   show wpAny _ A (load s.heap.objs.size>>=_) _ _ _
   refine ζb (wpAny_load g1 (ζs ?_))
   have ev:((#[]:Array Value)++vs.toArray).toList=vs:=by simp
   show R ((#[]:Array Value)++vs.toArray).toList _
   rw[ev]
   exact q _ (λb o e=>(u1.2 b (ξl (ζn e))).trans (ζc _ e)) (ζn g1))⟩)))))
theorem zfL{l:Addr}{T:String}{o:Obj}{vs:List Value}{n:Nat}{ss:List Str}{Q:Value->Shared->Prop}(hT:T="list"\/T="tuple")(ho:s.heap.get? l=some o)(hc:o.cls= .type T)(hd:o.data= .seq vs.toArray n)(hS:StrsAre vs ss)(h64:vs.length<64)
 (q:∀(D:Addr) (out:Array Value) (ss':List Str) (h':Heap) (e:Nat),StrsAre out.toList ss'->ss'.Perm ss->sortedS ss'=true->(∀b o,s.heap.get? b=some o->h'.get? b=some o)->s.heap.objs.size<=D->h'.get? D=some (seqObj "list" out e)->Q (.ref D) {s with heap:=h'}):
 wpAny (model prog w) A (call (.builtin "sorted") [.ref l]) Q E s:=by
 refine Calls.call_function_entry kind_sorted plain_sorted entry_sorted (args_sorted1 _) ?_
 unfold Builtin.«sorted»
 refine ζb (m:=checkCount "sorted" 1 1 _) (ζs (ζb (zi5 hT ho hc hd (by rw[sizeLine_eq];omega) λh1 kp gr0=>?_)))
 refine ζb (wpAny_newList ?_ (by show vs.length<=_;rw[sizeLine_eq];omega))
 have hD:(h1.push (seqObj "list" vs.toArray 0)).get? h1.objs.size=some (seqObj "list" vs.toArray 0):=ζj _ rfl
 have k2:∀b o,s.heap.get? b=some o->(h1.push (seqObj "list" vs.toArray 0)).get? b=some o:=λb o e=>ζc _ (kp b o e)
 have gr:s.heap.objs.size<=h1.objs.size:=ξi gr0
 show wpAny _ _ _ _ _ {s with heap:=h1.push (seqObj "list" vs.toArray 0)}
 refine ζb (wpAny_holding (wpAny_call_entry slot_list_sort ⟨_,hD,rfl⟩ entry_list_sort (list_sort_treeK strKind_oneLt (s:={s with heap:=h1.push (seqObj "list" vs.toArray 0)}) hD hS.keysOf (λv1 v2 rest e=>?_) h64 λst' hp hs=>?_) (args_list_sort _)))
 ·subst e
  exact keyKind_strs hS
 ·obtain ⟨ss',a1,a2,a3⟩:=sorted_out_str hS hp hs
  obtain⟨e,he⟩:=sortedHeap_at (h:=h1.push (seqObj "list" vs.toArray 0)) (vs:=vs) (out:=Array.map (λx=>x.snd) (arrOf st')) hD
  refine⟨_,rfl,ζs ⟨_,rfl,q h1.objs.size _ ss' _ e a1 a2 a3 (λb o hb=>?_) gr he⟩⟩
  have lb:=ζn hb
  rw[sortedHeap_old (ξl (ξh lb gr)) (ζn (k2 b o hb))]
  exact k2 b o hb
end
section
variable{X:Cx}{K:PySem.W.Frag}
def zkB(K:PySem.W.Frag):List V->Hp->VK->Prop:=λxs H Q=>∃(p:Addr) (ss:List Str),xs=[.ref p]/\(SqL K H p (ss.map V.str)\/SqT K H p (ss.map V.str))/\ss.length<64/\∀(ss':List Str) l,ss'.Perm ss->sortedS ss'=true->H l=none->Q (.ref l) (upd H l (.lst (ss'.map V.str)))
theorem zb9:CallR X (.builtin "sorted") (zkB X.K):=by
 intro pins s σ H xs us Q I r h
 obtain⟨p,ss,rfl,hq,h64,q⟩:=h
 obtain⟨u,rfl,ru⟩:=zdg r
 cases ru
 have key:∀{its:List Value} {T:String} {o:Obj} {n:Nat},T="list"\/T="tuple"->s.heap.get? p=some o->o.cls= .type T->o.data= .seq its.toArray n->Vals (ss.map V.str) its->wpAny (model X.prog X.w) X.A (call (.builtin "sorted") [.ref p]) (EP X pins σ Q) X.xe s:=by
  intro its T o n hT ho hc hd rv
  have hS:=zcs rv
  have hl:=rv.length
  rw[ζa] at hl
  refine zfL hT ho hc hd hS (by omega) λD out ss' h' e a1 a2 a3 kp hD he=>?_
  refine⟨.ref D,_,I.laid (a:=D) (o:= .lst (ss'.map V.str)) (t':=s.toks) kp hD ⟨?_,out.toList,e,?_,?_⟩,rfl,q ss' D a2 a3 (I.hok.fresh hD)⟩
  ·rw[ζa,a2.length_eq];exact ξi (zm (by omega))
  ·have mk:∀{vs:List Value} {zs:List Str},StrsAre vs zs->Vals (zs.map V.str) vs:=by
    intro vs zs h
    induction h with
    |nil=>exact .nil
    |cons x t _ ih=>exact .cons ⟨t,rfl⟩ ih
   exact mk a1
  ·rw[Array.toArray_toList];exact he
 rcases hq with hq|hq
 ·obtain ⟨its,rv,pl,hz⟩:=I.list hq
  obtain⟨o,ho,hc,n,hd⟩:=pl.isList
  exact key (.inl rfl) ho hc hd rv
 ·obtain ⟨its,rv,pl,hz⟩:=I.tuple hq
  obtain⟨o,ho,hc,n,hd⟩:=pl
  exact key (.inr rfl) ho hc hd rv
theorem zgH(h:X.K=K):CallR X (.builtin "sorted") (zkB K):=by subst h;exact zb9
end
end L2
namespace RW
open PySem PySem.Spec PyProof.Rows L2
def HsAt(H:Hp)(v:V)(hs:List Str):Prop:=∃p,v= .ref p/\H p=some (.tup (hs.map V.str))/\hs.length<=10/\∀x∈hs,zi x=true
theorem HsAt.same{H H':Hp}{v:V}{hs:List Str}(h:HsAt H v hs)(s:Same H H'):HsAt H' v hs:=let⟨p,e,g,r⟩:=h;⟨p,e,s _ _ g,r⟩
theorem zdh{hs:List Str}{x:Str}:inV (.str x) (hs.map V.str)=hs.any λy=>decide (y=x):=by
 unfold inV
 rw[List.any_map]
 congr 1
theorem zbW{hs:List Str}:(hs.map V.str).all zeK=true:=by
 rw[List.all_map,List.all_eq_true]
 exact λ_ _=>rfl
theorem zax{H:Hp}{v:V}{xs:List Str}(h:Rep H v (.tup (xs.map D.str))):∃p,v= .ref p/\H p=some (.tup (xs.map V.str)):=by
 obtain⟨p,vs,rfl,hp,r,_⟩:=h.ofT
 refine⟨p,rfl,?_⟩
 have e:vs=xs.map V.str:=by
  apply List.ext_getElem?
  intro i
  rcases ξa i xs.length with hi|hi
  ·have hv:i<vs.length:=by rw[r.1,ζa];exact hi
   have:=r.2 i vs[i] (.str xs[i]) (by simp[hv]) (by simp[hi])
   rw[ζd hv,ζq,ζd hi]
   generalize vs[i]=z at this
   cases this
   rfl
  ·rw[ζi (by rw[r.1,ζa];exact hi),ζi (by rw[ζa];exact hi)]
 rw[←e];exact hp
theorem zf9{H:Hp}{v:V}{d1 d2 d3 d4 d5:D}(h:Rep H v (.tup [d1,d2,d3,d4,d5])):∃p x1 x2 x3 x4 x5,v= .ref p/\H p=some (.tup [x1,x2,x3,x4,x5])/\Rep H x1 d1/\Rep H x2 d2/\Rep H x3 d3/\Rep H x4 d4/\Rep H x5 d5:=by
 obtain⟨p,vs,rfl,hp,r,_⟩:=h.ofT
 match vs,r with
 |[x1,x2,x3,x4,x5],r=>exact ⟨p,x1,x2,x3,x4,x5,rfl,hp,r.head.1,r.head.2.head.1,r.head.2.head.2.head.1,r.head.2.head.2.head.2.head.1,r.head.2.head.2.head.2.head.2.head.1⟩
 |[],r=>exact absurd r.1 (by simp)
 |[_],r=>exact absurd r.1 (by simp)
 |[_,_],r=>exact absurd r.1 (by simp)
 |[_,_,_],r=>exact absurd r.1 (by simp)
 |[_,_,_,_],r=>exact absurd r.1 (by simp)
 |_::_::_::_::_::_::_,r=>exact absurd r.1 (by simp)
def zpE(H:Hp)(v:V)(g:Str)(hs:List Str)(ps:List (Str×Str))(lks hds:List D):Prop:=∃p pr pt pl pa vt vl va,v= .ref p/\H p=some (.tup [.str g, .ref pr, .ref pt, .ref pl, .ref pa])/\H pr=some (.tup (hs.map V.str))/\H pt=some (.tup vt)/\RepL H vt (ps.map RW.pairD)/\H pl=some (.tup vl)/\RepL H vl lks/\H pa=some (.tup va)/\RepL H va hds
theorem zbN{H:Hp}{v:V}{g:Str}{hs:List Str}{ps:List (Str×Str)}{lks hds:List D}(h:Rep H v (za5 g hs ps lks hds)):zpE H v g hs ps lks hds:=by
 obtain⟨p,x1,x2,x3,x4,x5,rfl,hp,r1,r2,r3,r4,r5⟩:=zf9 h
 cases r1 with|str _ _=>
 obtain⟨pr,rfl,hpr⟩:=zax r2
 obtain⟨pt,vt,rfl,hpt,rt,_⟩:=r3.ofT
 obtain⟨pl,vl,rfl,hpl,rl,_⟩:=r4.ofT
 obtain⟨pa,va,rfl,hpa,ra,_⟩:=r5.ofT
 exact⟨p,pr,pt,pl,pa,vt,vl,va,rfl,hp,hpr,hpt,rt,hpl,rl,hpa,ra⟩
noncomputable def zan(ps:List (Str×Str))(x:Str):List Str:=(ps.filter λp=>decide (p.2=x)).map (·.1)++(ps.filter λp=>decide (p.1=x)).map (·.2)
theorem mem_nbrs{ps:List (Str×Str)}{x y:Str}:y∈zan ps x↔(y,x)∈ps\/(x,y)∈ps:=by
 unfold zan
 rw[List.mem_append,List.mem_map,List.mem_map]
 constructor
 ·rintro (⟨⟨a,b⟩,h,rfl⟩|⟨⟨a,b⟩,h,rfl⟩)
  ·obtain ⟨h1,h2⟩:=List.mem_filter.mp h
   have h2:b=x:=ζh h2
   subst h2
   exact .inl h1
  ·obtain ⟨h1,h2⟩:=List.mem_filter.mp h
   have h2:a=x:=ζh h2
   subst h2
   exact .inr h1
 ·rintro (h|h)
  ·exact .inl ⟨(y,x),List.mem_filter.mpr ⟨h,ζf rfl⟩,rfl⟩
  ·exact .inr ⟨(x,y),List.mem_filter.mpr ⟨h,ζf rfl⟩,rfl⟩
theorem TownOk.ps_nd{g:Str}{hs:List Str}{ps:List (Str×Str)}{lks hds:List D}(T:TownOk g hs ps lks hds):ps.Nodup:=T.riseP.imp λ{a b} h z=>by rw[z,zhU] at h;cases h
theorem TownOk.hs_nd{g:Str}{hs:List Str}{ps:List (Str×Str)}{lks hds:List D}(T:TownOk g hs ps lks hds):hs.Nodup:=T.rise.imp λ{a b} h z=>by rw[z,zhJ] at h;cases h
theorem zn5{g:Str}{hs:List Str}{ps:List (Str×Str)}{lks hds:List D}(T:TownOk g hs ps lks hds)(x:Str):(zan ps x).Nodup:=by
 have nd:=T.ps_nd
 unfold zan
 rw[List.nodup_append]
 refine⟨?_,?_,?_⟩
 ·rw[List.nodup_iff_pairwise_ne,List.pairwise_map]
  refine List.Pairwise.imp_of_mem (λ{a b} ha hb hab z=>?_) (nd.filter _)
  have h1:a.2=x:=ζh (List.mem_filter.mp ha).2
  have h2:b.2=x:=ζh (List.mem_filter.mp hb).2
  exact hab (Prod.ext z (h1.trans h2.symm))
 ·rw[List.nodup_iff_pairwise_ne,List.pairwise_map]
  refine List.Pairwise.imp_of_mem (λ{a b} ha hb hab z=>?_) (nd.filter _)
  have h1:a.1=x:=ζh (List.mem_filter.mp ha).2
  have h2:b.1=x:=ζh (List.mem_filter.mp hb).2
  exact hab (Prod.ext (h1.trans h2.symm) z)
 ·intro y hy z hz e
  subst e
  obtain⟨a,ha,rfl⟩:=List.mem_map.mp hy
  obtain⟨b,hb,eb⟩:=List.mem_map.mp hz
  obtain⟨ha1,ha2⟩:=List.mem_filter.mp ha
  obtain⟨hb1,hb2⟩:=List.mem_filter.mp hb
  have h1:a.2=x:=ζh ha2
  have h2:b.1=x:=ζh hb2
  have l1:=(T.ties a ha1).2.2
  have l2:=(T.ties b hb1).2.2
  rw[h1] at l1
  rw[h2,eb] at l2
  have:=zh6 l1
  rw[l2] at this
  cases this
theorem znS{g:Str}{hs:List Str}{ps:List (Str×Str)}{lks hds:List D}(T:TownOk g hs ps lks hds){x y:Str}(h:y∈zan ps x):y∈hs:=by
 rcases mem_nbrs.mp h with h|h
 ·exact (T.ties _ h).1
 ·exact (T.ties _ h).2.1
theorem zmd{g:Str}{hs:List Str}{ps:List (Str×Str)}{lks hds:List D}(T:TownOk g hs ps lks hds)(x:Str):(zan ps x).length<=10:=ξb (zb0 (zn5 T x) λy hy=>znS T hy) T.ten
theorem ziB{x y:D}{r:List D}:zcz (x::y::r)=(ltD x y&&zcz (y::r)):=by
 unfold zcz
 show(List.range (r.length+1)).all _=_
 rw[List.range_succ_eq_map,List.all_cons,List.all_map]
 rfl
theorem zhc:∀(xs:List Str),zcz (xs.map D.str)=true->xs.Pairwise (λa b=>ltS a b=true)
 |[],_=> .nil
 |[x],_=>List.pairwise_singleton _ _
 |x::y::r,h=>by
  rw[List.map_cons,List.map_cons,ziB,ζt] at h
  have ih:=zhc (y::r) h.2
  have hxy:ltS x y=true:=h.1
  refine List.pairwise_cons.mpr ⟨λz hz=>?_,ih⟩
  rcases List.mem_cons.mp hz with rfl|hz
  ·exact hxy
  ·exact zgt hxy ((List.pairwise_cons.mp ih).1 z hz)
theorem zjK{ss ws:List Str}(hp:ss.Perm ws)(hs:sortedS ss=true):zcz (ss.map D.str)=decide ws.Nodup:=by
 rw[ξf,ζg]
 constructor
 ·intro h
  have:=zhc ss h
  exact hp.nodup_iff.mp (this.imp λ{a b} h z=>by rw[z,zhJ] at h;cases h)
 ·intro h
  exact zln (zh3 ss hs (hp.nodup_iff.mpr h))
noncomputable def zoM(g:Str)(ps:List (Str×Str))(ws:List Str):Bool:=decide (ws.getLast?=some g)&&decide ws.Nodup&&(List.range (ws.length -1)).all λk=>decide (ws.getD (k+1) ""∈zan ps (ws.getD k ""))
noncomputable def zbF(g:Str)(hs:List Str)(ps:List (Str×Str))(d:D):Bool:=zaW d 1 hs.length&&zjv (zL hs) d&&zoM g ps (zfr d)
theorem zd6{hs:List Str}:∀{ds:List D},ds.all (zL hs)=true->∃ws:List Str,ds=ws.map D.str/\∀x∈ws,x∈hs
 |[],_=>⟨[],rfl,λ_ z=>nomatch z⟩
 |d::ds,h=>by
  rw[List.all_cons,ζt] at h
  obtain⟨ws,rfl,hw⟩:=zd6 h.2
  cases d with
  |str x=>
   have h1:=h.1
   have h2:(zi x&&hs.any λy=>decide (y=x))=true:=h1
   rw[ζt] at h2
   obtain⟨y,hy,e⟩:=List.any_eq_true.mp h2.2
   have e:y=x:=ζh e
   subst e
   refine⟨y::ws,rfl,λz hz=>?_⟩
   rcases List.mem_cons.mp hz with rfl|hz
   ·exact hy
   ·exact hw z hz
  |_=>cases h.1
structure WayOk(g:Str)(hs:List Str)(ps:List (Str×Str))(ws:List Str):Prop where
 nd:ws.Nodup
 mem:∀x∈ws,x∈hs
 last:∃w0,ws=w0 ++ [g]
 tied:∀(i:Nat) (a b:Str),ws[i]?=some a->ws[i+1]?=some b->b∈zan ps a
theorem WayOk.one{g:Str}{hs:List Str}{ps:List (Str×Str)}(h:g∈hs):WayOk g hs ps [g] where
 nd:=by simp
 mem:=λx hx=>by rw[List.mem_singleton.mp hx];exact h
 last:=⟨[],rfl⟩
 tied:=λi a b h1 h2=>by cases h2
theorem WayOk.more{g:Str}{hs:List Str}{ps:List (Str×Str)}{w0 x:Str}{ws:List Str}(W:WayOk g hs ps (w0::ws))(hx:x∈hs)(hn:x∉w0::ws)(ht:w0∈zan ps x):WayOk g hs ps (x::w0::ws) where
 nd:=List.nodup_cons.mpr ⟨hn,W.nd⟩
 mem:=λy hy=>by
  rcases List.mem_cons.mp hy with rfl|hy
  ·exact hx
  ·exact W.mem y hy
 last:=by obtain⟨v,e⟩:=W.last;exact⟨x::v,by rw[e];rfl⟩
 tied:=λi a b h1 h2=>by
  cases i with
  |zero=>cases h1;cases h2;exact ht
  |succ i=>exact W.tied i a b h1 h2
theorem WayOk.len{g:Str}{hs:List Str}{ps:List (Str×Str)}{ws:List Str}(W:WayOk g hs ps ws):1<=ws.length/\ws.length<=hs.length:=by
 constructor
 ·obtain ⟨v,rfl⟩:=W.last
  simp
 ·exact zb0 W.nd W.mem
theorem WayOk.ok{g:Str}{hs:List Str}{ps:List (Str×Str)}{ws:List Str}(W:WayOk g hs ps ws)(hn:∀x∈hs,zi x=true):zbF g hs ps (.tup (ws.map D.str))=true:=by
 obtain⟨l1,l2⟩:=W.len
 unfold zbF
 have e1:zaW (.tup (ws.map D.str)) 1 hs.length=true:=by
  show(decide ((1:Int)<=((ws.map D.str).length:Int))&&decide (((ws.map D.str).length:Int)<=(hs.length:Int)))=true
  rw[ζa,ζf (by omega),ζf (by omega)];rfl
 have e2:zjv (zL hs) (.tup (ws.map D.str))=true:=by
  show(ws.map D.str).all (zL hs)=true
  rw[List.all_map,List.all_eq_true]
  exact λx hx=>zgb (W.mem x hx) (hn x (W.mem x hx))
 rw[e1,e2,RW.strs_map]
 unfold zoM
 have e3:ws.getLast?=some g:=by obtain⟨v,rfl⟩:=W.last;simp
 rw[ζf e3,ζf W.nd,List.all_eq_true.mpr λk hk=>?_];rfl
 have hk':=List.mem_range.mp hk
 refine ζf (W.tied k _ _ ?_ ?_)
 ·simp[List.getD,show k<ws.length by omega]
 ·simp[List.getD,show k+1<ws.length by omega]
theorem znR{g:Str}{hs:List Str}{ps:List (Str×Str)}{d:D}(h:zaW d 1 hs.length=false):zbF g hs ps d=false:=by
 unfold zbF;rw[h];rfl
theorem zoq{g:Str}{hs:List Str}{ps:List (Str×Str)}{d:D}(h:zjv (zL hs) d=false):zbF g hs ps d=false:=by
 unfold zbF;rw[h];simp
theorem ze6{J:It}{vs:List V}{ps:List (Str×Str)}{sel:Str×Str->Bool}{f:Str×Str->Str}{ok:Hp->Prop}{g:TG}{tc:TT}{te:TE}{H:Hp}{src:List (Option Nat)}{σ:L2.St}{Q:VK}(Iv:L2.St->Prop)(wk:Wk J vs.length (λi x=>vs[i]?=some x) ok)(hok:∀H',Same H H'->ok H')(r:RepL H vs (ps.map RW.pairD))(hl:ps.length<=900)(h0:Iv (zel src σ))
 (hs:∀(q:Addr) (p:Str×Str) (σ':L2.St) (H1:Hp) (A:V->Hp->L2.St->Prop) (B:L2.St->Hp->Prop),Iv σ'->Same H H1->H1 q=some (.tup [.str p.1, .str p.2])->p∈ps->(∀σ2,Iv σ2->if sel p=true then A (.str (f p)) H1 σ2 else B σ2 H1)->g (.ref q) σ' H1 λσ2 H3=>tc σ2 H3 λb H4=>if b=true then te σ2 H4 (λy H5=>A y H5 σ2)else B σ2 H4)
 (q:∀l H',Same H H'->H l=none->H' l=some (.lst (((ps.filter sel).map f).map V.str))->Q (.ref l) H'):zcN g tc te src σ Q J H:=by
 refine zby wk (λl i ys σ' H'=>Iv σ'/\ys=(((ps.take i).filter sel).map f).map V.str/\Same H H') ?_ ?_ ?_ ?_
 ·exact λl h'=>⟨h0,rfl,Same.new h'⟩
 ·exact λl i ys σ' H' _ p=>hok H' p.2.2
 ·rintro l i y ys σ' H1 h' hi hy ⟨iv,rfl,s1⟩ hl'
  obtain⟨d,hd,rd⟩:=r.get hy
  rw[ζq] at hd
  cases hp:ps[i]? with
  |none=>rw[hp] at hd;cases hd
  |some p=>
   rw[hp] at hd
   cases hd
   obtain⟨q,x,y,rfl,hq,r1,r2⟩:=(rd.same s1).of2
   cases r1 with|str _ _=>
   cases r2 with|str _ _=>
   refine hs q p σ' H1 (λy H5 σ2=>H5 l=some (.lst ((((ps.take i).filter sel).map f).map V.str))/\((((ps.take i).filter sel).map f).map V.str).length<sizeLine/\Iv σ2/\(((ps.take i).filter sel).map f).map V.str ++ [y]=(((ps.take (i+1)).filter sel).map f).map V.str/\Same H (upd H5 l (.lst ((((ps.take i).filter sel).map f).map V.str ++ [y])))) (λσ2 H4=>H4 l=some (.lst ((((ps.take i).filter sel).map f).map V.str))/\Iv σ2/\(((ps.take i).filter sel).map f).map V.str=(((ps.take (i+1)).filter sel).map f).map V.str/\Same H H4) iv s1 hq (ζl hp) λσ2 iv2=>?_
   have tk:((ps.take (i+1)).filter sel)=((ps.take i).filter sel)++ [p].filter sel:=by rw[List.take_add_one,hp,List.filter_append];rfl
   cases hsel:sel p with
   |false=>
    refine zW rfl ⟨hl',iv2,?_,s1⟩
    rw[tk]
    simp[hsel]
   |true=>
    refine zQ rfl ⟨hl',?_,iv2,?_,?_⟩
    ·rw[ζa,ζa]
     have h2:=List.length_filter_le sel (ps.take i)
     rw[ζm] at h2
     exact zm (by omega)
    ·rw[tk]
     simp[hsel]
    ·exact λc o e=>by
      rw[zr (zB e h')]
      exact s1 _ _ e
 ·rintro l ys σ' H1 h' ⟨iv,rfl,s1⟩ hl'
  have e:ps.length=vs.length:=by rw[r.1,ζa]
  rw[←e,List.take_length] at hl'
  exact q l H1 s1 h' hl'
theorem zcS{J:It}{vs:List V}{ds:List D}{g:D->Bool}{ok:Hp->Prop}{H:Hp}{te:TE}{src:List (Option Nat)}{σ σr:L2.St}{Q:VK}(wk:Wk J vs.length (λi x=>vs[i]?=some x) ok)(hok:∀H',Same H H'->ok H')(r:RepL H vs ds)(hl:ds.length<=1000)(e:zel src σ=none::σr)
 (he:∀(x:V) (d:D) (H1:Hp) (Q1:VK),Same H H1->Rep H1 x d->d∈ds->(∀H2,Same H1 H2->Q1 (.bl (g d)) H2)->te (some x::σr) H1 Q1)
 (q:∀l H',Same H H'->H l=none->H' l=some (.lst ((ds.map g).map V.bl))->Q (.ref l) H'):zcN (zaE 0) zlZ te src σ Q J H:=by
 refine zby wk (λl i ys σ' H'=>(∃o,σ'=o::σr)/\ys=((ds.take i).map g).map V.bl/\Same H H') ?_ ?_ ?_ ?_
 ·exact λl h'=>⟨⟨none,e⟩,rfl,Same.new h'⟩
 ·exact λl i ys σ' H' _ p=>hok H' p.2.2
 ·rintro l i y ys σ' H1 h' hi hy ⟨⟨o,rfl⟩,rfl,s1⟩ hl'
  obtain⟨d,hd,rd⟩:=r.get hy
  refine he y d H1 _ s1 (rd.same s1) (ζl hd) λH2 s2=>?_
  refine⟨s2 _ _ hl',?_,⟨_,rfl⟩,?_,?_⟩
  ·rw[ζa,ζa,ζm]
   exact zm (by omega)
  ·rw[List.take_add_one,hd]
   simp
  ·exact λc o e=>by
    rw[zr (zB e h')]
    exact s2 _ _ (s1 _ _ e)
 ·rintro l ys σ' H1 h' ⟨⟨o,rfl⟩,rfl,s1⟩ hl'
  rw[r.1,List.take_length] at hl'
  exact q l H1 s1 h' hl'
theorem zno{d:D}{n:Nat}(h:zaW d 1 n=true):∃ds,d= .tup ds/\1<=ds.length/\ds.length<=n:=by
 cases d with
 |tup ds=>
  simp[zaW] at h
  exact⟨ds,rfl,by omega,by omega⟩
 |_=>cases h
theorem zp4{g:Str}{hs:List Str}{ps:List (Str×Str)}{w0:List Str}{z:Str}(h1:zaW (.tup ((w0 ++ [z]).map D.str)) 1 hs.length=true)(h2:((w0 ++ [z]).map D.str).all (zL hs)=true):zbF g hs ps (.tup ((w0 ++ [z]).map D.str))=(decide (z=g)&&decide (w0 ++ [z]).Nodup&&(List.range ((w0 ++ [z]).length -1)).all λk=>decide ((w0 ++ [z]).getD (k+1) ""∈zan ps ((w0 ++ [z]).getD k ""))):=by
 unfold zbF
 have h3:zjv (zL hs) (.tup ((w0 ++ [z]).map D.str))=true:=h2
 rw[h1,h3,RW.strs_map]
 unfold zoM
 have e:(decide ((w0 ++ [z]).getLast?=some g))=decide (z=g):=by
  rw[List.getLast?_append]
  simp
 rw[e];rfl
theorem zek{H:Hp}{us:List V}{xs:List Str}(r:RepL H us (xs.map D.str)):us=xs.map V.str:=by
 apply List.ext_getElem?
 intro i
 rcases ξa i xs.length with hi|hi
 ·have hv:i<us.length:=by rw[r.1,ζa];exact hi
  have:=r.2 i us[i] (.str xs[i]) (by simp[hv]) (by simp[hi])
  rw[ζd hv,ζq,ζd hi]
  generalize us[i]=z at this
  cases this
  rfl
 ·rw[ζi (by rw[r.1,ζa];exact hi),ζi (by rw[ζa];exact hi)]
noncomputable def zeb(ps:List (Str×Str))(x:Str):List Str:=(ps.filter λp=>decide (p.1=x)).map (·.2)++(ps.filter λp=>decide (p.2=x)).map (·.1)
theorem zmu{ps:List (Str×Str)}{x y:Str}(h:y∈zeb ps x):(x,y)∈ps\/(y,x)∈ps:=by
 unfold zeb at h
 rw[List.mem_append,List.mem_map,List.mem_map] at h
 rcases h with⟨⟨a,b⟩,h,rfl⟩|⟨⟨a,b⟩,h,rfl⟩
 ·obtain ⟨h1,h2⟩:=List.mem_filter.mp h
  have h2:a=x:=ζh h2
  subst h2
  exact .inl h1
 ·obtain ⟨h1,h2⟩:=List.mem_filter.mp h
  have h2:b=x:=ζh h2
  subst h2
  exact .inr h1
theorem zmW(ps:List (Str×Str))(x:Str):(zeb ps x).length<=2*ps.length:=by
 unfold zeb
 rw[ζe,ζa,ζa]
 have h1:=List.length_filter_le (λp:Str×Str=>decide (p.1=x)) ps
 have h2:=List.length_filter_le (λp:Str×Str=>decide (p.2=x)) ps
 omega
noncomputable def zkb(ws:List Str):D->Bool| .str x=>!(ws.any λy=>decide (y=x))|_=>false
theorem zfD{ws xs:List Str}:(xs.map D.str).filter (zkb ws)=(xs.filter λx=>!(ws.any λy=>decide (y=x))).map D.str:=by
 rw[List.filter_map];rfl
noncomputable def zaJ(xs:List Str):List PyData:=xs.map PyData.str
theorem znV{H:Hp}{l:Addr}{xs:List Str}(e:H l=some (.lst (xs.map V.str)))(h:∀x∈xs,PyData.strOk x=true):Tr H (.ref l) (.list (zaJ xs)):=by
 refine .lst e (by unfold zaJ;rw[ζa,ζa]) λi v d e1 e2=>?_
 unfold zaJ at e2
 rw[ζq] at e1 e2
 cases e3:xs[i]? with
 |none=>rw[e3] at e1;cases e1
 |some x=>
  rw[e3] at e1 e2
  cases e1
  cases e2
  exact .str x (h x (ζl e3))
theorem zp2{H:Hp}{l:Addr}(e:H l=some (.lst [])):Tr H (.ref l) (.list []):= .lst e rfl λi v d z=>by cases z
section
variable{X:Cx}{K:PySem.W.Frag}
end
section
variable{te tf:TE}{ta:TA}{σ:L2.St}{H:Hp}{d:D}{ds es:List D}{K:PySem.W.Frag}
theorem zf2{Q:Option Int->Hp->Prop}{H1:Hp}{j:Nat}{i:Int}(hj:σ[j]?=some (some (.int i)))(h:Q (some i) H1):zcQ (zb8 j) σ H1 Q:=⟨_,hj,i,rfl,h⟩
theorem zij{Q:Option Int->Hp->Prop}{H1:Hp}{j:Nat}{i:Int}(hj:σ[j]?=some (some (.int i)))(h:Q (some (i+1)) H1):zcQ (tOp (rI0 λi j=> .int (i+j)) (zb8 j) (tC (.int 1))) σ H1 Q:=⟨_,hj,_,_,rfl,rfl,_,rfl,h⟩
theorem zgV{i j t:Nat}{v:V}(hv:σ[i]?=some (some v))(r:Rep H v (.tup ds))(ht:σ[j]?=some (some (.int (t:Int)))):Dsp (tSl (ze3 K) (zb8 i) zal (zcQ (zb8 j))) σ H (.tup (ds.take t)):=
 zdL (lo:=none) (hi:=some (t:Int)) hv r (λ_ _ h=>zbi h) (λ_ _ h=>zf2 ht h) λvs hl=>⟨0,t,by rw[zbw,List.drop_zero],by rw[List.drop_zero]⟩
theorem zlT{i j t:Nat}{v:V}(hv:σ[i]?=some (some v))(r:Rep H v (.tup ds))(ht:σ[j]?=some (some (.int (t:Int)))):Dsp (tSl (ze3 K) (zb8 i) (zcQ (zb8 j)) zal) σ H (.tup (ds.drop t)):=
 zdL (lo:=some (t:Int)) (hi:=none) hv r (λ_ _ h=>zf2 ht h) (λ_ _ h=>zbi h) λvs hl=>⟨t,vs.length,by rw[za3];exact(List.take_of_length_le (by rw[ζr];omega)).symm,(List.take_of_length_le (by rw[ζr];omega)).symm⟩
theorem zjP{i j t:Nat}{v:V}(hv:σ[i]?=some (some v))(r:Rep H v (.tup ds))(ht:σ[j]?=some (some (.int (t:Int)))):Dsp (tSl (ze3 K) (zb8 i) (zcQ (tOp (rI0 λi j=> .int (i+j)) (zb8 j) (tC (.int 1)))) zal) σ H (.tup (ds.drop (t+1))):=
 zdL (lo:=some ((t:Int)+1)) (hi:=none) hv r (λ_ _ h=>zij ht h) (λ_ _ h=>zbi h) λvs hl=>⟨t+1,vs.length,by rw[show(t:Int)+1=((t+1:Nat):Int) by push_cast;rfl,za3];exact(List.take_of_length_le (by rw[ζr];omega)).symm,(List.take_of_length_le (by rw[ζr];omega)).symm⟩
end
theorem zg3{x:Str}(h:zi x=true):x.length<=8:=by
 unfold zi at h
 simp only[ζt,decide_eq_true_eq] at h
 omega
section
variable{te tf:TE}{ta:TA}{tb:TS}{De:Ends}{σ:L2.St}{H:Hp}{d:D}{ds es:List D}{K:PySem.W.Frag}{k:Nat}
theorem zmx{i:Nat}{v:V}(hv:σ[i]?=some (some v))(r:Rep H v (.tup ds)):Dsp (tSl (ze3 K) (zb8 i) zal (zcQ (tUn (rU λi=> .int (-i)) (tC (.int 1))))) σ H (.tup (ds.take (ds.length -1))):=
 zdL (lo:=none) (hi:=some (-1)) hv r (λ_ _ h=>zbi h) (λ_ _ h=>zf0 h) λvs hl=>by
  refine⟨0,ds.length -1,?_,by rw[List.drop_zero]⟩
  unfold zaY
  have e1:HT.sIx vs.length vs.length (some (-1))=ds.length -1:=by
   unfold HT.sIx
   have h:(-1:Int)<0:=by omega
   simp only[if_pos h];omega
  have e2:HT.sIx vs.length 0 none=0:=rfl
  rw[e1,e2];rfl
end
theorem ziu{p q:Str×Str}:(zca p).eqv (zca q)=decide (p=q):=by
 unfold zca
 rw[PyData.eqv,PyData.eqvAll,PyData.eqvAll,PyData.eqvAll,PyData.eqv,PyData.eqv]
 obtain⟨a,b⟩:=p
 obtain⟨c,d⟩:=q
 rw[ξf,ζg,Prod.mk.injEq]
 simp
theorem ziI{ps:List (Str×Str)}{q:Str×Str}:((ps.map zca).any λz=>z.eqv (zca q))=decide (q∈ps):=by
 rw[List.any_map,ξf,ζg,List.any_eq_true]
 constructor
 ·rintro ⟨p,hp,e⟩
  have e:(zca p).eqv (zca q)=true:=e
  rw[ziu] at e
  rw[←ζh e];exact hp
 ·exact λh=>⟨q,h,by show(zca q).eqv (zca q)=true;rw[ziu];exact ζf rfl⟩
theorem zgp(p:Str×Str):(zca p).depth<=60:=by
 unfold zca
 rw[PyData.depth,PyData.depthAll,PyData.depthAll,PyData.depthAll,PyData.depth,PyData.depth];decide
theorem zmR{H:Hp}{p:Addr}{x y:Str}(e:H p=some (.tup [.str x, .str y]))(h1:zi x=true)(h2:zi y=true):Tr H (.ref p) (zca (x,y)):=
 zks (p:=(x,y)) (.mk2 e (.str x (ξb (zg3 h1) (by decide))) (.str y (ξb (zg3 h2) (by decide)))) h1 h2
theorem zfx:∀{xs ys:List Str},PyData.eqvAll (zaJ xs) (zaJ ys)=decide (xs=ys)
 |[],[]=>by unfold zaJ;rw[List.map_nil,PyData.eqvAll];rfl
 |[],y::ys=>by unfold zaJ;rw[List.map_nil,List.map_cons,PyData.eqvAll];rfl
 |x::xs,[]=>by unfold zaJ;rw[List.map_nil,List.map_cons,PyData.eqvAll];rfl
 |x::xs,y::ys=>by
  have ih:=zfx (xs:=xs) (ys:=ys)
  unfold zaJ at ih⊢
  rw[List.map_cons,List.map_cons,PyData.eqvAll,PyData.eqv,ih,ξf,ζg,List.cons.injEq]
  simp
theorem zer:∀{xs:List Str},PyData.depthAll (zaJ xs)<=1
 |[]=>by unfold zaJ;rw[List.map_nil,PyData.depthAll];decide
 |x::xs=>by
  have ih:=zer (xs:=xs)
  unfold zaJ at ih⊢
  rw[List.map_cons,PyData.depthAll,PyData.depth]
  omega
end RW
namespace L2
open PySem PySem.Spec PyProof.Rows
structure FunD(K:PySem.W.Frag)(x qual:Str)(st:Stmt)(f:Addr)(fd:FuncData):Prop where
 ex:∃(oc:Value) (od:Option Addr) (dt:Addr) (kV doc pm:Value) (an:Option Addr) (cdv ct:Value) (osl:Array (Option Value)) (od2:Option Addr) (n2:Nat) (sl2:Array (Option Value)),
  fd=PySem.W.fnOf x qual (zw st) (zu st) (zg st) (.ref dt) kV doc pm an cdv ct/\K.lookup f=some ⟨oc,od, .func fd,osl⟩/\PySem.W.codeIn K cdv qual=true/\K.lookup dt=some ⟨.type "tuple",od2, .seq #[.none] n2,sl2⟩
 kp:PySem.W.keepIn K (.ref f)=true
section
variable{P:Program}{w:World}{K:PySem.W.Frag}{mg:Str->Option Value}{base:Heap}
theorem FunD.okQ{x qual:Str}{st:Stmt}{f:Addr}{fd:FuncData}{N ps:List Str}{k:Nat}{sp:Sp}(F:FunD K x qual st f fd)(S:FnScope N ps (zg st))(len:∀vs H Q E,sp vs H Q E->vs.length=ps.length)
 (hbody:∀(cdv:Value) (A:Around) (outer:List Env) (s:Shared) (H:Hp) (vs:List V) (Q:VK) (E:XK),Room k (A.deeper (envOfC qual (zg st) s.heap.objs.size f cdv))->sp vs H Q E->
   ∃t,QB (zi4 CX0 P w K mg base N qual (zg st) f cdv A outer s H E).nox (zu st) t/\t {nx:=λ_ H'=>Q .non H',rt:=Q} (zet N vs) H):FnOk P w K mg base CX0 (k+1) f fd ps sp:=by
 obtain⟨oc,od,dt,kV,doc,pm,an,cdv,ct,osl,od2,n2,sl2,rfl,lk,hcd,ld⟩:=F.ex
 refine zpm lk hcd S len λA outer s H vs Q E hr hsp=>?_
 obtain⟨t,h,q⟩:=hbody cdv A outer s H vs Q E hr hsp
 exact⟨t,h.o.nox,q⟩
theorem zkT{x qual:Str}{st:Stmt}{f dt:Addr}{oc:Value}{od an od2:Option Addr}{osl sl2:Array (Option Value)}{n2:Nat}{kV doc pm cdv ct:Value}(l:K.lookup f=some ⟨oc,od, .func (PySem.W.fnOf x qual (zw st) (zu st) (zg st) (.ref dt) kV doc pm an cdv ct),osl⟩)
 (ld:K.lookup dt=some ⟨.type "tuple",od2, .seq #[.none] n2,sl2⟩) (c:PySem.W.codeIn K cdv qual=true) (k:PySem.W.keepIn K (.ref f)=true):FunD K x qual st f (PySem.W.fnOf x qual (zw st) (zu st) (zg st) (.ref dt) kV doc pm an cdv ct):=⟨⟨oc,od,dt,kV,doc,pm,an,cdv,ct,osl,od2,n2,sl2,rfl,l,c,ld⟩,k⟩
theorem FunD.binds{x qual:Str}{st:Stmt}{f:Addr}{fd:FuncData}{ps:List Str}{ds:List Value}(F:FunD K x qual st f fd)(m:Nat)(hm:ps.length=m+ds.length)
 (h:∀(dt:Addr) (kV doc pm:Value) (an:Option Addr) (cdv ct:Value) (us:List Value),us.length=m->∃k:Option (Array Value)->Sem (List (Str×Value)),bindArgs (PySem.W.fnOf x qual (zw st) (zu st) (zg st) (.ref dt) kV doc pm an cdv ct) ⟨us,[]⟩=seqItems? (.ref dt)>>=k/\k (some #[.none])=pure (ps.zip (us ++ds))):Binds K fd ps ds:=by
 obtain⟨oc,od,dt,kV,doc,pm,an,cdv,ct,osl,od2,n2,sl2,rfl,lk,hcd,ld⟩:=F.ex
 intro s us kin hl
 obtain⟨k,e1,e2⟩:=h dt kV doc pm an cdv ct us (by rw[ζe] at hl;omega)
 exact BindsTo.of_defaults (T:=dt) rfl (kin _ _ ld) rfl e1 e2
end
end L2
namespace RW
open PySem PySem.Spec PyProof.Rows L2
structure AtD(K:PySem.W.Frag)(mg:Str->Option Value)(x:Str)(st:Stmt)(ps:List Str)(f:Addr)(fd:FuncData):Prop where
 fn:FunD K x x st f fd
 b:Binds K fd ps []
 bd:Binds K fd ps [.none]
 mg:mg x=some (.ref f)
 kp:PySem.W.keepIn K (.ref f)=true
noncomputable def zaq(O:List Str):D->Bool| .tup [_, .str x]=>decide (x∈O)|_=>true
noncomputable def zcv(O:List Str):D->Bool| .tup [.str w,e]=>if w="not"then zaq O e else zaq O (.tup [.str w,e])|_=>true
noncomputable def zoe(O:List Str):D->Bool| .tup ds=>ds.all (zcv O)|_=>true
noncomputable def zgn(O:List Str):D->Bool| .tup [c,t]=>zoe O c&&zaq O t|_=>true
noncomputable def zdi(O:List Str):D->Bool| .tup ds=>ds.all (zgn O)|_=>true
structure Pool(hs:List Str)(lks hds:List D)(O:List Str):Prop where
 few:O.length<=14
 nm:∀x∈O,zi x=true
 hs:∀x∈hs,x∈O
 lk:∀d∈lks,zdi O d=true
 hd:∀d∈hds,zdi O d=true
noncomputable def zjq(O:List Str)(d:D):Bool:=zaF d&&zgn O d
noncomputable def zjV(O:List Str)(d:D):Bool:=zbj d&&zgn O d
theorem zbu{O:List Str}{y:D}{x:Str}(h:x∈O):zaq O (.tup [y, .str x])=true:=ζf h
theorem zhv{O:List Str}{w:Str}{e:D}(h:zP (.tup [.str w,e])=true)(hp:zaq O (.tup [.str w,e])=true):zcv O (.tup [.str w,e])=true:=by
 show(if w="not"then _ else _)=true
 by_cases z:w="not"
 ·subst z;rw[zdE] at h;cases h
 ·rw[if_neg z];exact hp
theorem zlG{O:List Str}{d:D}(h:zP d=true)(hp:zaq O d=true):zcv O d=true:=by
 obtain⟨x,e,rfl⟩:=zc4 d h
 exact zhv h hp
theorem zjy{O:List Str}{d:D}(hp:zaq O d=true):zcv O (.tup [.str "not",d])=true:=by
 show(if("not":Str)="not"then zaq O d else zaq O (.tup [.str "not",d]))=true
 rw[if_pos rfl];exact hp
theorem zg7{O:List Str}{ds:List D}{t:D}(h:∀d∈ds,zcv O d=true)(ht:zaq O t=true):zgn O (.tup [.tup ds,t])=true:=by
 show(ds.all (zcv O)&&zaq O t)=true
 rw[List.all_eq_true.mpr h,ht];rfl
end RW
namespace L2
open PySem PySem.Spec PyProof.Rows
section
variable{X:Cx}{pos:Pos}{pins:List (Addr×Obj)}{σ:St}{H:Hp}{s:Shared}
end
end L2
namespace RW
open PySem PySem.Spec PyProof.Rows L2
noncomputable def phB(ws ms:List Str)(to:Option Str)(w:Str)(x:D):Bool:=
 if w="by"then (match x with| .str y=>ws.any λz=>decide (z=y)|_=>false)
 else if w="from"then (match x with| .str y=>decide (ws[1]?=some y)|_=>false)
 else if w="to"then (match x with| .str y=>decide (to=some y)|_=>false)
 else if w="mark"then (match x with| .str y=>ms.any λz=>decide (z=y)|_=>false)
 else(match x with| .int i=>decide (i<(ws.length:Int))|_=>false)
noncomputable def zc8(ws ms:List Str)(to:Option Str):D->Bool| .tup [.str w,x]=>phB ws ms to w x|_=>false
noncomputable def zbv(ws ms:List Str)(to:Option Str):D->Bool| .tup [.str w,x]=>if w="not"then !zc8 ws ms to x else phB ws ms to w x|_=>false
def TO(v:V)(to:Option Str):Prop:=(v= .non/\to=none)\/∃x,v= .str x/\to=some x/\zi x=true
theorem zaD{x:Str}{e:D}(h:zP (.tup [.str x,e])=true):(x="long"/\∃i:Int,e= .int i/\0<=i/\i<=99)\/(x∈namingL/\∃y,e= .str y/\zi y=true):=by
 rw[ze7] at h
 by_cases z:x="long"
 ·rw[if_pos z] at h
  cases e with
  |int i=>
   have h:(decide (0<=i)&&decide (i<=99))=true:=h
   rw[ζt,ζg,ζg] at h
   exact .inl ⟨z,i,rfl,h.1,h.2⟩
  |_=>cases h
 ·rw[if_neg z,ζt] at h
  obtain⟨h1,h2⟩:=h
  obtain⟨y,hy,ey⟩:=List.any_eq_true.mp h1
  have ey:y=x:=ζh ey
  subst ey
  cases e with
  |str y'=>exact .inr ⟨hy,y',rfl,h2⟩
  |_=>cases h2
theorem zeV{x:Str}(h:x∈namingL):x="by"\/x="from"\/x="to"\/x="mark":=by
 unfold namingL at h
 simpa using h
theorem zpq{ws ms:List Str}{to:Option Str}{y:Str}:phB ws ms to "by" (.str y)=ws.any λz=>decide (z=y):=by
 unfold phB;rw[if_pos rfl]
theorem zkq{ws ms:List Str}{to:Option Str}{y:Str}:phB ws ms to "from" (.str y)=decide (ws[1]?=some y):=by
 unfold phB;rw[if_neg (by decide +kernel),if_pos rfl]
theorem zo7{ws ms:List Str}{to:Option Str}{y:Str}:phB ws ms to "to" (.str y)=decide (to=some y):=by
 unfold phB;rw[if_neg (by decide +kernel),if_neg (by decide +kernel),if_pos rfl]
theorem zhw{ws ms:List Str}{to:Option Str}{y:Str}:phB ws ms to "mark" (.str y)=ms.any λz=>decide (z=y):=by
 unfold phB;rw[if_neg (by decide +kernel),if_neg (by decide +kernel),if_neg (by decide +kernel),if_pos rfl]
theorem zk1{ws ms:List Str}{to:Option Str}{i:Int}:phB ws ms to "long" (.int i)=decide (i<(ws.length:Int)):=by
 unfold phB;rw[if_neg (by decide +kernel),if_neg (by decide +kernel),if_neg (by decide +kernel),if_neg (by decide +kernel)]
theorem TO.eq{v:V}{to:Option Str}{y:Str}(h:TO v to):zpR v (.str y)=true/\decide (v= .str y)=decide (to=some y):=by
 rcases h with⟨rfl,rfl⟩|⟨x,rfl,rfl,_⟩
 ·exact ⟨rfl,rfl⟩
 ·refine ⟨rfl,?_⟩
  rw[zZ,ξf,ζg,ζg,Option.some.injEq]
noncomputable def eqD(y:Str):D->Bool| .str z=>decide (z=y)|_=>false
theorem zhG{ws:List Str}{y:Str}{us:List V}{H:Hp}(r:RepL H us (((ws.map D.str).filter (eqD y)).map λd=>d)):decide ((0:Int)<(us.length:Int))=ws.any λz=>decide (z=y):=by
 have l:=r.1
 rw[ζa,List.filter_map,ζa] at l
 rw[l,ξf,ζg,List.any_eq_true]
 constructor
 ·intro h
  have h:0<(ws.filter (eqD y∘D.str)).length:=by omega
  obtain⟨z,hz⟩:=List.exists_mem_of_length_pos h
  obtain⟨h1,h2⟩:=List.mem_filter.mp hz
  exact⟨z,h1,h2⟩
 ·rintro ⟨z,h1,h2⟩
  have:=List.length_pos_of_mem (List.mem_filter.mpr ⟨h1,h2⟩:z∈ws.filter (eqD y∘D.str))
  omega
theorem zaK{H:Hp}{p:Addr}{xs:List Str}(e:H p=some (.tup (xs.map V.str)))(h:∀x∈xs,PyData.strOk x=true):Tr H (.ref p) (.tuple (zaJ xs)):=by
 refine .tup e (by unfold zaJ;rw[ζa,ζa]) λi v d e1 e2=>?_
 unfold zaJ at e2
 rw[ζq] at e1 e2
 cases e3:xs[i]? with
 |none=>rw[e3] at e1;cases e1
 |some x=>
  rw[e3] at e1 e2
  cases e1
  cases e2
  exact .str x (h x (ζl e3))
theorem zbB{xs ys:List Str}:(PyData.tuple (zaJ xs)).eqv (.tuple (zaJ ys))=decide (xs=ys):=by
 rw[PyData.eqv,zfx]
theorem zai{xs:List Str}:(PyData.tuple (zaJ xs)).depth<=60:=by
 have:=zer (xs:=xs)
 rw[PyData.depth]
 omega
theorem zmM{xs:List V}(h:1<=xs.length):zaY xs (some 1) (some 2)=(xs.drop 1).take 1:=by
 unfold zaY HT.sIx
 simp only[show¬((1:Int)<0) by omega,show¬((2:Int)<0) by omega,if_false]
 rcases ξa 1 xs.length with z|z
 ·rw[show min (Int.toNat 1) xs.length=1 by omega,show min (Int.toNat 2) xs.length=2 by omega]
 ·match xs,h,z with
  |[a],_,_=>rfl
  |[],h,_=>exact absurd h (by simp)
  |_::_::_,_,z=>exact absurd z (by simp)
theorem zlE{ws:List Str}{y:Str}:decide ((ws.drop 1).take 1=[y])=decide (ws[1]?=some y):=by
 rw[ξf,ζg,ζg]
 match ws with
 |[]=>simp
 |[a]=>simp
 |a::b::r=>simp
theorem TO.notN{v:V}{to:Option Str}(h:TO v to):(v= .non/\to=none)\/∃x,v= .str x/\to=some x:=h.imp id λ⟨x,a,b,_⟩=>⟨x,a,b⟩
noncomputable def zeQ(c:D->Bool)(g:List Str->List Str->Option Str->D->Bool):Sp:=λvs H Q _=>∃(v:V) (d:D) (pw pm:Addr) (vt:V) (ws ms:List Str) (to:Option Str),vs=[v, .ref pw, .ref pm,vt]/\Rep H v d/\c d=true/\H pw=some (.tup (ws.map V.str))/\H pm=some (.tup (ms.map V.str))/\TO vt to/\(∀x∈ws,zi x=true)/\(∀x∈ms,zi x=true)/\1<=ws.length/\ws.length<=100/\ms.length<=100/\∀H',Same H H'->Q (.bl (g ws ms to d)) H'
theorem ziV{c:D}(h:zbx c=true):∃cs,c= .tup cs/\cs.length<=4/\∀d∈cs,zN d=true:=by
 cases c with
 |tup cs=>
  rw[zie,ζt] at h
  exact⟨cs,rfl,ζh h.1,List.all_eq_true.mp h.2⟩
 |_=>cases h
theorem zml{d:D}{f:D->D->Bool}(h:(match d with| .tup [c,x]=>f c x|_=>false)=true):∃c x,d= .tup [c,x]/\f c x=true:=by
 split at h
 ·exact ⟨_,_,rfl,h⟩
 ·cases h
theorem zfe{d:D}(h:zaF d=true):∃cs x,d= .tup [.tup cs,x]/\cs.length<=4/\(∀c∈cs,zN c=true)/\(x= .non\/∃i,x= .int i):=by
 unfold zaF at h
 obtain⟨c,x,rfl,h⟩:=zml (f:=λc x=>zbx c&&zdx x&&!zfW c) h
 rw[ζt,ζt] at h
 obtain⟨cs,rfl,h4,hc⟩:=ziV h.1.1
 refine⟨cs,x,rfl,h4,hc,?_⟩
 have hx:=h.1.2
 cases x with
 |non=>exact .inl rfl
 |int i=>exact .inr ⟨i,rfl⟩
 |_=>cases hx
theorem znG{x:D}(h:zc9 x=true):(x= .tup [.str "keep"])\/∃w y,x= .tup [.str w, .str y]/\(w="put"\/w="strike")/\zi y=true:=by
 unfold zc9 at h
 split at h
 ·rename_i w
  exact .inl (by rw[ζh h])
 ·rename_i w y
  rw[ζt,Bool.or_eq_true] at h
  have h2:=h.2
  cases y with
  |str y=>exact .inr ⟨w,y,rfl,h.1.imp ζh ζh,h2⟩
  |_=>cases h2
 ·cases h
theorem zkn{d:D}(h:zbj d=true):∃cs x,d= .tup [.tup cs,x]/\cs.length<=4/\(∀c∈cs,zN c=true)/\zc9 x=true:=by
 unfold zbj at h
 obtain⟨c,x,rfl,h⟩:=zml (f:=λc x=>zbx c&&zc9 x) h
 rw[ζt] at h
 obtain⟨cs,rfl,h4,hc⟩:=ziV h.1
 exact⟨cs,x,rfl,h4,hc,h.2⟩
theorem zl8{O:List Str}{cs:List D}{t:D}(h:zgn O (.tup [.tup cs,t])=true):(∀c∈cs,zcv O c=true)/\zaq O t=true:=by
 have h:(cs.all (zcv O)&&zaq O t)=true:=h
 rw[ζt] at h
 exact⟨List.all_eq_true.mp h.1,h.2⟩
section
variable{te tf:TE}{ta:TA}{tb:TS}{De:Ends}{σ:L2.St}{H:Hp}{d:D}{ds es:List D}{K:PySem.W.Frag}{k:Nat}
end
end RW
namespace HT
open PySem PySem.Spec PyProof.Rows
section
variable{prog:Program}{w:World}{A:Around}{E:Value->Shared->Prop}{s:Shared}
theorem zfH:∀{vs:List Value} {ys:List Str},StrsAre vs ys->vs.length=ys.length/\∀(i:Nat) (y:Str),ys[i]?=some y->∃t,vs[i]?=some (.str y t)
 |_,_, .nil=>⟨rfl,λi y h=>by simp at h⟩
 |_,_, .cons y t r=>by
  obtain⟨h1,h2⟩:=zfH r
  refine⟨by simp[h1],λi z h=>?_⟩
  cases i with
  |zero=>cases h;exact⟨t,rfl⟩
  |succ i=>exact h2 i z h
theorem index_tup{t:Addr}{items:Array Value}{ys:List Str}{x:Str}{tk:Tok}{j:Nat}{Q:Value->Shared->Prop}(ht:IsTup s.heap t items)(hS:StrsAre items.toList ys)(hj:ys[j]?=some x)(hb:∀i<j,ys[i]?≠some x)
 (h:∀(t':Tok) (k:Nat),Q (.int j t') {s with toks:=k}):wpAny (model prog w) A (call (.builtin "tuple.index") [.ref t, .str x tk]) Q E s:=by
 refine wpAny_call_entry PySem.F.slot_tuple_index ht.typeIs PySem.F.entry_tuple_index ?_ (PySem.F.args_tuple_index_2 _ _)
 unfold Builtin.«tuple.index»
 refine ζb (m:=selfAndSome "tuple.index" "index" 1 3 _) (ζs ?_)
 dsimp only
 refine ζb (tupleItemsOf_ ht ?_)
 refine ζb (ζs ?_)
 refine ζb (ζs ?_)
 obtain⟨hl,hg⟩:=zfH hS
 have hjn:j<items.size:=by
  rw[←Array.length_toList,hl]
  rcases ξa j ys.length with z|z
  ·exact z
  ·rw[ζi z] at hj;cases hj
 rw[Std.Legacy.Range.forIn_eq_forIn_range']
 refine ζb (wpAny_forIn_list _ (λl b s'=>∃i,l=List.range' i (items.size -i) 1/\i<=j/\b=(none,())/\s'=s) _ ?_ ?_ _ _ ?_)
 ·rintro a rest b s' ⟨i,el,hij,rfl,rfl⟩
  obtain⟨m,em⟩:∃m,items.size -i=m+1:=⟨items.size -i -1,by omega⟩
  rw[em,List.range'_succ] at el
  have ea:=(List.cons.inj el).1
  have er:=(List.cons.inj el).2
  subst er
  rw[ea]
  have hiy:i<ys.length:=by rw[←hl,Array.length_toList];omega
  obtain⟨t1,e1⟩:=hg i ys[i] (by simp[hiy])
  have e2:items[i]?=some (.str ys[i] t1):=by rw[←Array.getElem?_toList];exact e1
  rw[e2]
  dsimp only
  refine ζb (wpAny_eqBool_str ?_)
  rcases ξa i j with z|z
  ·have ne:¬ys[i]=x:=λy=>hb i z (by rw[←y];simp[hiy])
   rw[ζo ne]
   exact ζs ⟨i+1,by rw[show items.size -(i+1)=m by omega],by omega,rfl,rfl⟩
  ·have ei:i=j:=by omega
   subst ei
   have ey:ys[i]=x:=by
    have:ys[i]?=some ys[i]:=by simp[hiy]
    rw[this] at hj;exact ξj hj
   rw[ζf ey]
   refine ζb (m:=retInt _) (ζb (wpAny_mkInt (ζs (ζs ?_))))
   exact ζs ⟨_,rfl,h _ _⟩
 ·rintro b s' ⟨i,el,hij,rfl,rfl⟩
  have:=congrArg List.length el
  rw[List.length_range',List.length_nil] at this
  omega
 ·exact ⟨0,by simp[Std.Legacy.Range.size],ξk _,rfl,rfl⟩
end
section
variable{prog:Program}{w:World}{A:Around}{E:Value->Shared->Prop}{s:Shared}
theorem zeW{it d:Addr}{i:Nat}{items:Array Value}{x:Value}{Q:Value->Shared->Prop}(y:s.heap.IsTupleIter it d i)(ht:s.heap.IsTuple d items)(hx:items[i]?=some x)
 (q:∀h',h'.IsTupleIter it d (i+1)->Heap.SameBut it s.heap h'->Q x {s with heap:=h'}):wpAny (model prog w) A (Builtin.SmallTypes.nextOf (.ref it)) Q E s:=by
 obtain⟨o,ho,hc,hd⟩:=id y
 obtain⟨od,hod,hcd,n,hdd⟩:=id ht
 unfold Builtin.SmallTypes.nextOf
 refine ζb (wpAny_callSpecial?_slot (name:=Str.ofString "__next__") ⟨o,ho,hc⟩ PySem.F.slot_tuple_iterator_next (wpAny_call_entry PySem.F.slot_tuple_iterator_next ⟨o,ho,hc⟩ PySem.F.entry_tuple_iterator_next ?_ (PySem.F.args_tuple_iterator_next_1 _)))
 show wpAny _ _ (slotArgs "__next__" 0 _>>=_) _ _ s
 refine ζb (m:=slotArgs "__next__" 0 _) (ζs ?_)
 dsimp only
 refine ζb (wpAny_field ho hd (x:= .ref d) rfl ?_)
 rw[if_neg (λz=>nomatch z)]
 refine ζb (wpAny_field ho hd (x:= .int i 0) rfl ?_)
 dsimp only
 rw[seqItems?.eq_1]
 refine ζb (ζb (wpAny_load hod ?_))
 rw[hdd]
 refine ζs ?_
 dsimp only
 rw[Int.toNat_natCast,hx]
 dsimp only
 refine ζb (wpAny_setField ho hd (by simp) ?_)
 refine ζs ⟨_,rfl,ζs (q _ ⟨_,Heap.get?_update_self _ ho (Obj.isFreed_of_fields (Obj.data_mapFields hd _)),(Obj.cls_mapFields ..).trans hc,?_⟩ (Heap.SameBut.update ..))⟩
 rw[Obj.data_mapFields hd];simp[rawInt]
theorem zfm{it d:Addr}{i:Nat}{items:Array Value}{Q:Value->Shared->Prop}(hh:A.handled=none)(y:s.heap.IsTupleIter it d i)(ht:s.heap.IsTuple d items)(hx:items[i]?=none)
 (q:∀(h':Heap) (e:Addr),Heap.ExtBut it s.heap h'->(∃o,h'.get? e=some o/\o.cls= .type "StopIteration")->E (.ref e) {s with heap:=h'}):wpAny (model prog w) A (Builtin.SmallTypes.nextOf (.ref it)) Q E s:=by
 obtain⟨o,ho,hc,hd⟩:=id y
 obtain⟨od,hod,hcd,n,hdd⟩:=id ht
 unfold Builtin.SmallTypes.nextOf
 refine ζb (wpAny_callSpecial?_slot (name:=Str.ofString "__next__") ⟨o,ho,hc⟩ PySem.F.slot_tuple_iterator_next (wpAny_call_entry PySem.F.slot_tuple_iterator_next ⟨o,ho,hc⟩ PySem.F.entry_tuple_iterator_next ?_ (PySem.F.args_tuple_iterator_next_1 _)))
 show wpAny _ _ (slotArgs "__next__" 0 _>>=_) _ _ s
 refine ζb (m:=slotArgs "__next__" 0 _) (ζs ?_)
 dsimp only
 refine ζb (wpAny_field ho hd (x:= .ref d) rfl ?_)
 rw[if_neg (λz=>nomatch z)]
 refine ζb (wpAny_field ho hd (x:= .int i 0) rfl ?_)
 dsimp only
 rw[seqItems?.eq_1]
 refine ζb (ζb (wpAny_load hod ?_))
 rw[hdd]
 refine ζs ?_
 dsimp only
 rw[Int.toNat_natCast,hx]
 dsimp only
 refine ζb (wpAny_rule ?_)
 refine ζb (wpAny_setField ho hd (by simp) ?_)
 show wpAny _ _ (newExc (.type "StopIteration") []>>=_) _ _ _
 refine ζb (by
  simp only[newExc,newTuple]
  refine ζb (wpAny_newObj_type (ζb (m:=firstArgMember _ _) (wpAny_of_eq (a:=Value.none) (by first|rfl|(simp only[firstArgMember];rfl)) (wpAny_newObj_type ?_ (by size_fits)))) (by size_fits))
  simp only[raiseNew]
  refine ζb (wpAny_handled ?_)
  rw[show A.in1.handled=none from hh]
  refine ζb (ζs (wpAny_throw ?_))
  exact q _ _ (((Heap.SameBut.update ..).extBut.push _).push _) ⟨_,ζj _ rfl,rfl⟩)
theorem draws_tuple(hh:A.handled=none)(it l:Addr)(hne:l≠it)(items:Array Value):Draws prog w A it [it,l] items.size (λi v=>items[i]?=some v) (λi h=>h.IsTupleIter it l i/\h.IsTuple l items) where
 live:=λi h st=>let ⟨o,e,_⟩:=st.1;⟨o,e⟩
 frame:=λi h h' st k=>⟨st.1.at λo e=>k it (by simp) o e,let⟨o,e,r⟩:=st.2;⟨o,k l (by simp) o e,r⟩⟩
 item:=λi s Q E hi st q=>zeW st.1 st.2 (x:=items[i]) (by simp[hi]) λh' y' sb=>q _ h' s.toks (by simp[hi]) ⟨y',let⟨o,e,r⟩:=st.2;⟨o,(sb.2 l hne).trans e,r⟩⟩ sb
 done:=λs Q E st q=>zfm hh st.1 st.2 (by simp) q
end
section
variable{prog:Program}{w:World}{A:Around}{E:Value->Shared->Prop}{s:Shared}
theorem zf4(l:Addr)(items:Array Value):Meets (Builtin.«enumerate.__new__» {pos:=[Value.type "enumerate",Value.ref l]}) λ_ R s=>
 s.heap.IsTuple l items/\R (Except.ok (Flow.ret (Value.ref (s.heap.objs.size+1)))) {s with heap:=(s.heap.push {cls:=Value.type "tuple_iterator",data:=Data.fields #[Value.ref l,Value.int 0 0]}).push {cls:=Value.type "enumerate",data:=Data.fields #[Value.none,Value.bool false,Value.ref s.heap.objs.size,rawInt 0,Value.none,Value.none]}}:=by
 intro prog w A R s h
 unfold Builtin.«enumerate.__new__»
 refine ζb (m:=Builtin.SmallTypes.newClass "enumerate" _) ?_
 unfold Builtin.SmallTypes.newClass
 dsimp only
 refine ζb (wpAny_of_eq (a:=true) rfl ?_)
 rw[if_neg (by decide)]
 rw[sub_enumerate]
 refine ζb (ζs ?_)
 rw[if_neg (by decide)]
 refine ζs ?_
 dsimp only
 rw[if_pos (by decide)]
 unfold Builtin.SmallTypes.calledThroughType
 refine ζb (ζb (wpAny_stack_any λst=>ζs ?_))
 have key:∀{B:Sem (Value×Option Value)} {F:Value×Option Value->Sem PySem.Fin},B=pure (Value.ref l,none)->F (Value.ref l,none)=(do
  let it ←pyIter (Value.ref l)
  let r ←Builtin.SmallTypes.newRecord (Value.type "enumerate") (Builtin.SmallTypes.ownedTupleFields ++ [it,rawInt 0,Value.none,Value.none])
  ret r)->wpAny (model prog w) A.in1 (B>>=F) (λfin s'=>match fin with
  |Fin.done f=>R (Except.ok f) s'
  |Fin.again c'=>c'.quiet=true/\codeAny (model prog w) A c' R s') (λe s'=>R (Except.error e) s') s:=by
  intro B F e1 e2
  rw[e1]
  refine ζb (ζs ?_)
  rw[e2]
  refine ζb (wpAny_pyIter_tuple h.1 ?_)
  refine ζb ?_
  unfold Builtin.SmallTypes.newRecord
  refine wpAny_newObj_type (ζs ?_) (show(6:Nat)<=sizeLine+2 by decide)
  rw[show(s.heap.push {cls:=Value.type "tuple_iterator",data:=Data.fields #[Value.ref l,Value.int 0 0]}).objs.size=s.heap.objs.size+1 by simp[Heap.push]]
  exact h.2
 split<;>(try split)<;>exact key rfl rfl
theorem call_enum_tuple{l:Addr}{items:Array Value}{Q:Value->Shared->Prop}(ht:s.heap.IsTuple l items)
 (q:∀h',IsEnum h' (s.heap.objs.size+1) s.heap.objs.size 0 Value.none->h'.IsTupleIter s.heap.objs.size l 0->h'.objs.size=s.heap.objs.size+2->(∀(b:Addr) (o:Obj),s.heap.get? b=some o->h'.get? b=some o)->Q (.ref (s.heap.objs.size+1)) {s with heap:=h'}):
 wpAny (model prog w) A (call (.type "enumerate") [.ref l]) Q E s:=by
 refine callType_new PySem.F.called_enumerate (by decide) (PySem.F.typeCall_enumerate_1 _) (PySem.F.newCall_enumerate_1 _) ?_ PySem.F.entry_enumerate_new (zf4 l items) ⟨ht,?_⟩
 ·exact λobj=>PySem.F.args_object_init_2 _ _
 ·have e1:(s.heap.push {cls:=Value.type "tuple_iterator",data:=Data.fields #[Value.ref l,Value.int 0 0]}).objs.size=s.heap.objs.size+1:=by simp[Heap.push]
  have g1:((s.heap.push {cls:=Value.type "tuple_iterator",data:=Data.fields #[Value.ref l,Value.int 0 0]}).push {cls:=Value.type "enumerate",data:=Data.fields #[Value.none,Value.bool false,Value.ref s.heap.objs.size,rawInt 0,Value.none,Value.none]}).get? (s.heap.objs.size+1)=some {cls:=Value.type "enumerate",data:=Data.fields #[Value.none,Value.bool false,Value.ref s.heap.objs.size,rawInt 0,Value.none,Value.none]}:=by
   rw[←e1];exact ζj _ rfl
  exact⟨⟨_,g1,rfl⟩,q _ g1 ⟨_,ζc _ (ζj _ rfl),rfl,rfl⟩ (by simp[Heap.push]) λb o e=>ζc _ (ζc _ e)⟩
end
end HT
namespace L2
open PySem PySem.Spec PyProof.Rows
section
variable{X:Cx}{K:PySem.W.Frag}
def zot(K:PySem.W.Frag):V->List V->Hp->VK->Prop:=λx vs H Q=>∃(p:Addr) (ys:List Str) (y:Str) (j:Nat),x= .ref p/\vs=[.str y]/\SqT K H p (ys.map V.str)/\ys[j]?=some y/\(∀i<j,ys[i]?≠some y)/\Q (.int (j:Int)) H
theorem zfl:MtR X "tuple.index" (zot X.K):=by
 intro pins s σ H x xs v us Q I rx rs h
 obtain⟨p,ys,y,j,rfl,rfl,hq,hj,hb,q⟩:=h
 cases rx
 obtain⟨u,rfl,ru⟩:=zdg rs
 obtain⟨t,rfl⟩:=ru
 obtain⟨its,rv,pl,hz⟩:=I.tuple hq
 exact HT.index_tup pl (by simpa using zcs rv) hj hb λt' k=>⟨.int _,H,I.tok _,⟨_,rfl⟩,q⟩
noncomputable def Ite(K:PySem.W.Frag)(a:Addr)(n:Nat):It:=
 ⟨λi H=>∃xs x,SqT K H a xs/\xs.length=n/\xs[i]?=some x,λi H x H'=>∃T y,x= .ref T/\H T=none/\(∀xs,SqT K H a xs->xs[i]?=some y)/\H'=upd H T (.tup [.int (i:Int),y]),λi H=>∃xs,SqT K H a xs/\xs.length=n/\n<=i⟩
theorem zg8{P:Program}{w:World}{K:PySem.W.Frag}{elts:List Expr}{k:Nat}{pos:Pos}(a e it:Addr)(n:Nat)(hne:e≠it):
 Turn P w K (.Tuple elts k pos) (Ite K a n) [e,it] e (λi h=>i<=n/\(∃old,IsEnum h e it (i:Int) old)/\h.IsTupleIter it a i) where
 mem:=by simp
 obj:=λi h st b hb=>by
  obtain⟨_,⟨old,he⟩,o,e',c,d⟩:=st
  rcases List.mem_cons.mp hb with rfl|hb
  ·exact ⟨_,he,λv z=>by cases z⟩
  ·have:b=it:=by simpa using hb
   subst this
   exact⟨o,e',λv z=>by rw[d] at z;cases z⟩
 keep:=λi h h' st kk=>⟨st.1,let⟨old,he⟩:=st.2.1;⟨old,kk e (by simp) _ he⟩,st.2.2.at λo e'=>kk it (by simp) o e'⟩
 item:=by
  intro X hP hw hK hc i pins s σ H E I hf st hg
  subst hP hw hK
  obtain⟨xs,x,hq,hn,hx⟩:=hg
  obtain⟨its,rv,p,hz⟩:=I.tuple hq
  obtain⟨u,hu,ru⟩:=rv.get hx
  have pT:s.heap.IsTuple a its.toArray:=p
  have hil:i<its.length:=by
   rcases ξa i its.length with z|z
   ·exact z
   ·rw[ζi z] at hu;cases hu
  have hlen:its.length=n:=by rw[←rv.length];exact hn
  obtain⟨o1,ho1,hc1,_⟩:=id pT
  have na1:a≠it:=λz=>by
   obtain⟨o2,ho2,hc2,_⟩:=st.2.2
   rw[z,ho2] at ho1;cases ho1;rw[hc2] at hc1;injection hc1 with hc1;exact absurd hc1 (by decide)
  have na2:a≠e:=λz=>by
   obtain⟨old,he⟩:=st.2.1
   rw[z,he] at ho1;cases ho1;injection hc1 with hc1;exact absurd hc1 (by decide)
  obtain⟨f0,f1,f2,f3,f4,f5⟩:=hf e (by simp)
  obtain⟨g0,g1,g2,g3,g4,g5⟩:=hf it (by simp)
  have W:=WalksT.enumerateD (HT.draws_tuple (prog:=X.prog) (w:=X.w) (A:=X.A.in1) (I.ok.hd hc) it a na1 its.toArray) e hne (by simp[hne,Ne.symm na2]) (by simp)
  obtain⟨old,he⟩:=st.2.1
  unfold pyNext
  refine ζb (wpAny_attempt (wpAny_callSpecial?_slot (name:=Str.ofString "__next__") ⟨_,he,rfl⟩ PySem.F.slot_enumerate_next (wpAny_call_entry PySem.F.slot_enumerate_next ⟨_,he,rfl⟩ PySem.F.entry_enumerate_next (enumerate_next_itemD (HT.draws_tuple (prog:=X.prog) (w:=X.w) (A:=X.A.in1) (I.ok.hd hc) it a na1 its.toArray) he ⟨st.2.2,pT⟩ (by simpa using hil) hne (by simp[hne,Ne.symm na2]) λx' h' t hx' hOut hSt hTo hsz hk0=>?_) (PySem.F.args_enumerate_next_1 _))))
  refine ζs ?_
  obtain⟨tk,htk⟩:∃tk,tk=t+1:=⟨_,rfl⟩
  rw[←htk]
  obtain⟨T,hTT⟩:∃T,T=s.heap.objs.size:=⟨_,rfl⟩
  have hk:∀(b:Addr) (o:Obj),b∉ [e,it]->s.heap.get? b=some o->h'.get? b=some o:=λb o hb q=>hk0 b o (λz=>hb (by simp[z])) (λz=>hb (by simp[z])) q
  rw[←hTT] at hOut hTo⊢
  have hT:s.heap.objs.size<=T:=Nat.le_of_eq hTT.symm
  have hTup:h'.IsTuple T #[Value.int (i:Int) t,x']:=⟨_,hTo,rfl,_,rfl⟩
  have nTe:T≠e:=λz=>by have:=ζn he;rw[←z,hTT] at this;exact absurd this (Nat.lt_irrefl _)
  have nTi:T≠it:=λz=>by obtain⟨o2,ho2,_⟩:=st.2.2;have:=ζn ho2;rw[←z,hTT] at this;exact absurd this (Nat.lt_irrefl _)
  have hMid:(∃x,IsEnumOut h' e it ((i:Int)+1) x T)/\(h'.IsTupleIter it a (i+1)/\h'.IsTuple a its.toArray)/\T≠e/\T≠it:=⟨⟨_,hOut⟩,hSt,nTe,nTi⟩
  have ex:x'=u:=by
   have:its.toArray[i]?=some u:=by simpa using hu
   rw[this] at hx';exact(ξj hx').symm
  subst ex
  refine⟨_,rfl,W.go elts k pos i T {s with heap:=h',toks:=tk} _ _ hMid λh2 st2 hk2=>?_⟩
  have nT:T∉ [e,it]:=W.apart i T h' hMid
  have fT:H T=none:=I.hok.fresh hT
  have ltT:∀{b o},s.heap.get? b=some o->b≠T:=λq z=>by
   have:=ζn q
   rw[z] at this
   exact absurd (ξh this hT) (Nat.lt_irrefl _)
  have hTup2:h2.IsTuple T #[Value.int (i:Int) t,x']:=by
   obtain⟨o,ho,r⟩:=hTup
   exact⟨o,hk2 T o nT ho,r⟩
  have hND:NoDict h2 T:=λo q=>by rw[hk2 T _ nT hTo] at q;cases q;rfl
  have kk:∀b o,b∉ [e,it]->s.heap.get? b=some o->h2.get? b=some o:=λb o hb q=>hk2 b o hb (hk b o hb q)
  have neT:∀{b u'},H b=some u'->b≠T:=λq z=>by rw[z,fT] at q;cases q
  refine⟨.ref T,upd H T (.tup [.int (i:Int),x]),?_,rfl,⟨T,x,rfl,fT,λys hy=>by rw[I.tuple_inj hy hq];exact hx,rfl⟩,⟨by omega,st2.1,st2.2.1⟩,λb hb=>?_⟩
  ·show Inv X pins σ _ {s with heap:=h2,gens:=s.gens,drawn:=s.drawn,toks:=tk}
   refine Inv.step (s:=s) (h':=h2) (t':=tk) (g':=s.gens) (d':=s.drawn) (ch:=[e,it]) I (λb hb=>?_) (λb o _ _ hc e' _=>kk b o hc e') (λb o _ _ hc e' _=>⟨o.slots,kk b o hc e'⟩) (λb o _ e' z=>by rw[zr (ltT e')];exact z) (λb o hc e'=>⟨o,kk b o hc e'⟩) (λb xs z=>by rw[zr (neT z)];exact z) (λb o u' z=>by rw[zr (neT z)];exact z) (λb ps z=>⟨#[],by rw[zr (neT z),z];simp⟩) (λm hm=>?_) (λb u' z=>?_) I.bare
   ·rcases List.mem_cons.mp hb with rfl|hb
    ·exact ⟨f3,f1,f4,f5⟩
    ·have:b=it:=by simpa using hb
     subst this
     exact⟨g3,g1,g4,g5⟩
   ·obtain ⟨o,es,ep,ho,r⟩:=hm
    refine⟨o,es,ep,kk _ o (λz=>?_) ho,r⟩
    rcases List.mem_cons.mp z with z|z
    ·exact f1 z.symm
    ·exact g1 ((by simpa using z:X.env.locals=it).symm)
   ·by_cases hb:b=T
    ·subst hb
     rw[zd] at z
     cases z
     exact⟨few rfl,[Value.int (i:Int) t,x'], .cons ⟨t,rfl⟩ (.cons ru .nil),hTup2,hND⟩
    ·rw[zr hb] at z
     refine(I.hok b u' z).stay (λc v hc q=>kk c v (λy=>?_) q) (λc q=>by rw[zr (neT q)];exact q) λc xs q=>by rw[zr (neT q)];exact q
     have:∃u2,H c=some u2:=by
      rcases hc with rfl|hc
      ·exact ⟨_,z⟩
      ·exact ⟨_,hc⟩
     obtain⟨u2,hu2⟩:=this
     rcases List.mem_cons.mp y with rfl|y
     ·rw[f0] at hu2;cases hu2
     ·have:c=it:=by simpa using y
      subst this
      rw[g0] at hu2;cases hu2
  ·have:b≠T:=λz=>nT (by rw[←z];exact hb)
   rw[zr this]
   exact(hf b hb).1
 done:=by
   intro X hP hw hK hc i pins s σ H E I hf st hg
   subst hP hw hK
   obtain⟨xs,hq,hn,hx⟩:=hg
   obtain⟨its,rv,p,hz⟩:=I.tuple hq
   have pT:s.heap.IsTuple a its.toArray:=p
   have hlen:its.length=n:=by rw[←rv.length];exact hn
   have ei:i=its.toArray.size:=by have:=st.1;simp;omega
   obtain⟨o1,ho1,hc1,_⟩:=id pT
   have na1:a≠it:=λz=>by
    obtain⟨o2,ho2,hc2,_⟩:=st.2.2
    rw[z,ho2] at ho1;cases ho1;rw[hc2] at hc1;injection hc1 with hc1;exact absurd hc1 (by decide)
   have na2:a≠e:=λz=>by
    obtain⟨old,he⟩:=st.2.1
    rw[z,he] at ho1;cases ho1;injection hc1 with hc1;exact absurd hc1 (by decide)
   obtain⟨f0,f1,f2,f3,f4,f5⟩:=hf e (by simp)
   obtain⟨g0,g1,g2,g3,g4,g5⟩:=hf it (by simp)
   have W:=WalksT.enumerateD (HT.draws_tuple (prog:=X.prog) (w:=X.w) (A:=X.A.in1) (I.ok.hd hc) it a na1 its.toArray) e hne (by simp[hne,Ne.symm na2]) (by simp)
   subst ei
   refine W.done s _ _ ⟨st.2.1,st.2.2,pT⟩ λh' tk kk=>⟨rfl,?_⟩
   refine I.step (g':=s.gens) (d':=s.drawn) (ch:=[e,it]) (λb hb=>?_) (λb o _ _ hc e' _=>kk b o hc e') (λb o _ _ hc e' _=>⟨o.slots,kk b o hc e'⟩) (λ_ _ _ _ z=>z) (λb o hc e'=>⟨o,kk b o hc e'⟩) (λ_ _ z=>z) (λ_ _ _ z=>z) (λb ps z=>⟨#[],by rw[z];simp⟩) (λm hm=>?_) (λb u' z=>?_) I.bare
   ·rcases List.mem_cons.mp hb with rfl|hb
    ·exact ⟨f3,f1,f4,f5⟩
    ·have:b=it:=by simpa using hb
     subst this
     exact⟨g3,g1,g4,g5⟩
   ·obtain ⟨o,es,ep,ho,r⟩:=hm
    refine⟨o,es,ep,kk _ o (λz=>?_) ho,r⟩
    rcases List.mem_cons.mp z with z|z
    ·exact f1 z.symm
    ·exact g1 ((by simpa using z:X.env.locals=it).symm)
   ·refine (I.hok b u' z).stay (λc v hc q=>kk c v (λy=>?_) q) (λc q=>q) λc xs q=>q
    have:∃u2,H c=some u2:=by
     rcases hc with rfl|hc
     ·exact ⟨_,z⟩
     ·exact ⟨_,hc⟩
    obtain⟨u2,hu2⟩:=this
    rcases List.mem_cons.mp y with rfl|y
    ·rw[f0] at hu2;cases hu2
    ·have:c=it:=by simpa using y
     subst this
     rw[g0] at hu2;cases hu2
 self:=λA i s Q E st h=>by
  obtain⟨_,⟨old,he⟩,_⟩:=st
  refine wpAny_pyIter_slot (T:="enumerate") ⟨_,he,rfl⟩ PySem.F.slot_enumerate_iter (wpAny_call_entry PySem.F.slot_enumerate_iter ⟨_,he,rfl⟩ PySem.F.entry_enumerate_iter ?_ (PySem.F.args_enumerate_iter_1 _))
  unfold Builtin.«dict_keyiterator.__iter__»
  refine ζb (ζs (ζs ⟨_,rfl,"enumerate",_,⟨_,he,rfl⟩,PySem.F.slot_enumerate_next.lookup,h⟩))
noncomputable def zqX(K:PySem.W.Frag)(ta:TA):TI:=λσ H R=>ta σ H λvs H1=>∃a xs,vs=[.ref a]/\SqT K H1 a xs/\R (Ite K a xs.length) H1
theorem zjX{elts:List Expr}{k:Nat}{pos2:Pos}{a:Expr}{ta:TA}{p pos:Pos}(hm:X.mg "enumerate"=none)(ha:QA X [a] ta)(hg:Gl X "enumerate":=by rfl)(hs:starEach [a] X.env=[(false,eval a X.env)]:=by rfl):QI X (.Tuple elts k pos2) (.Call (.Name "enumerate" p) [a] [] pos) (zqX X.K ta):=⟨by
 intro pins s σ H R I h
 refine Call_ (zdY I hg hm boot_enumerate (PyProof.Rows.callWith_type1 (thn (ha.o pos pins s σ H _ I h) λus s1 ⟨vs,H1,I1,r1,q1⟩=>?_) hs rfl))
 obtain⟨l,xs,rfl,hq,q⟩:=q1
 obtain⟨u,rfl,ru⟩:=zdg r1
 cases ru
 obtain⟨its,rv,pl,hz⟩:=I1.tuple hq
 refine HT.call_enum_tuple (show s1.heap.IsTuple l its.toArray from pl) λh' he hit hsz kk=>?_
 have ne1:s1.heap.objs.size+1≠s1.heap.objs.size:=by omega
 refine(zg8 (P:=X.prog) (w:=X.w) (K:=X.K) (elts:=elts) (k:=k) (pos:=pos2) l (s1.heap.objs.size+1) s1.heap.objs.size xs.length ne1).self X.A 0 _ _ _ ⟨ξk _,⟨_,he⟩,hit⟩ ?_
 refine⟨s1.heap.objs.size+1,[s1.heap.objs.size+1,s1.heap.objs.size],_,_,H1,rfl,I1.kept (t':=s1.toks) kk,zg8 l _ _ xs.length ne1,⟨ξk _,⟨_,he⟩,hit⟩,λb hb=>?_,q⟩
 have hb':s1.heap.objs.size<=b:=by
  rcases List.mem_cons.mp hb with z|z
  ·rw[z];exact Nat.le_succ _
  ·have z:b=s1.heap.objs.size:=by simpa using z
   rw[z];exact ζu _
 exact I1.fpOk hb' (I1.hok.fresh hb')⟩
end
end L2
namespace RW
open PySem PySem.Spec PyProof.Rows L2
theorem zmB{K:PySem.W.Frag}{a:Addr}{xs:List V}{g:TG}{tc:TT}{te:TE}{src:List (Option Nat)}{σ:L2.St}{H1:Hp}{Q:VK}(Pv:Addr->Nat->List V->L2.St->Hp->Prop)
 (h0:∀l,H1 l=none->Pv l 0 [] (zel src σ) (upd H1 l (.lst []))) (hok:∀l i ys σ H,H1 l=none->Pv l i ys σ H->SqT K H a xs)
 (hs:∀l i x ys σ H T,H1 l=none->i<xs.length->xs[i]?=some x->Pv l i ys σ H->H l=some (.lst ys)->H T=none->g (.ref T) σ (upd H T (.tup [.int ((i:Nat):Int),x])) λσ2 H3=>tc σ2 H3 λb H4=>
   if b=true then te σ2 H4 λy H5=>H5 l=some (.lst ys)/\ys.length<sizeLine/\Pv l (i+1) (ys ++ [y]) σ2 (upd H5 l (.lst (ys ++ [y])))else H4 l=some (.lst ys)/\Pv l (i+1) ys σ2 H4)
 (hd:∀l ys σ H,H1 l=none->Pv l xs.length ys σ H->H l=some (.lst ys)->Q (.ref l) H):zcN g tc te src σ Q (Ite K a xs.length) H1:=by
 intro l hl
 refine⟨λi m ys σ H=>m=xs.length -i/\i<=xs.length/\Pv l i ys σ H,⟨xs.length,by simp,ξk _,h0 l hl⟩,?_⟩
 rintro i m ys σ' H' ⟨rfl,hi,p⟩ hl'
 by_cases hlt:i<xs.length
 ·refine .inr ⟨⟨xs,xs[i],hok l i ys σ' H' hl p,rfl,by simp[hlt]⟩,Pv l (i+1),λzs σ2 H2 q=>⟨xs.length -(i+1),by omega,rfl,hlt,q⟩,λx H2 y=>?_⟩
  obtain⟨T,v,rfl,hT,hv,rfl⟩:=y
  exact hs l i v ys σ' H' T hl hlt (hv xs (hok l i ys σ' H' hl p)) p hl' hT
 ·have e:i=xs.length:=by omega
  subst e
  exact .inl ⟨⟨xs,hok l _ ys σ' H' hl p,rfl,ζu _⟩,hd l ys σ' H' hl p hl'⟩
theorem zji{hs:List Str}(nd:hs.Nodup){x:Str}{i j:Nat}(h1:hs[i]?=some x)(h2:hs[j]?=some x):i=j:=by
 have lt:∀{k:Nat},hs[k]?=some x->k<hs.length:=λ{k} z=>by
  rcases ξa k hs.length with y|y
  ·exact y
  ·rw[ζi y] at z;cases z
 have l1:=lt h1
 have l2:=lt h2
 rw[ζd l1] at h1
 rw[ζd l2] at h2
 have e:hs[i]=hs[j]:=(ξj h1).trans (ξj h2).symm
 have pw:=List.pairwise_iff_getElem.mp nd
 rcases Nat.lt_trichotomy i j with z|z|z
 ·exact absurd e (pw i j l1 l2 z)
 ·exact z
 ·exact absurd e.symm (pw j i l2 l1 z)
noncomputable def zgJ(i:Nat):V:= .int (i:Int)
noncomputable def zdy(hs:List Str)(x:Str)(n:Nat):List Nat:=(List.range n).filter λi=>decide (hs[i]?=some x)
theorem zlM{hs:List Str}{x:Str}{n:Nat}{y:Str}(h:hs[n]?=some y):zdy hs x (n+1)=zdy hs x n ++(if y=x then [n] else []):=by
 unfold zdy
 rw[List.range_succ,List.filter_append]
 congr 1
 by_cases z:y=x
 ·rw[if_pos z];simp[h,z]
 ·rw[if_neg z];simp[h,z]
theorem ziP{hs:List Str}(nd:hs.Nodup){x:Str}{j:Nat}(h:hs[j]?=some x):∀n,j<n->zdy hs x n=[j]:=by
 have key:∀i,hs[i]?=some x↔i=j:=λi=>⟨λz=>zji nd z h,λz=>by rw[z];exact h⟩
 have small:∀n,n<=j->zdy hs x n=[]:=λn hn=>by
  unfold zdy
  rw[List.filter_eq_nil_iff]
  intro i hi
  have:=List.mem_range.mp hi
  simp[key];omega
 intro n hn
 induction n with
 |zero=>omega
 |succ n ih=>
  unfold zdy at ih⊢
  rw[List.range_succ,List.filter_append]
  rcases ξa j n with z|z
  ·rw[ih z]
   have:¬hs[n]?=some x:=λy=>by have:=(key n).mp y;omega
   simp[this]
  ·have e:n=j:=by omega
   subst e
   have:=small n (ζu _)
   unfold zdy at this
   rw[this]
   simp[h]
theorem zgg{hs:List Str}(nd:hs.Nodup){x:Str}{j:Nat}(h:hs[j]?=some x):∀i<j,hs[i]?≠some x:=λi hi z=>by
 have:=zji nd z h
 omega
theorem zh7{K:PySem.W.Frag}{a:Addr}{hs:List Str}{x:Str}{g:TG}{tc:TT}{te:TE}{H:Hp}{src:List (Option Nat)}{σ:L2.St}{Q:VK}(Iv:L2.St->Prop)(hok:∀H',Same H H'->SqT K H' a (hs.map V.str))(hl:hs.length<=900)(h0:Iv (zel src σ))
 (hst:∀(T:Addr) (i:Nat) (y:Str) (σ':L2.St) (H1:Hp) (A:V->Hp->L2.St->Prop) (B:L2.St->Hp->Prop),Iv σ'->Same H H1->H1 T=some (.tup [.int (i:Int), .str y])->(∀σ2,Iv σ2->if decide (y=x)=true then A (.int (i:Int)) H1 σ2 else B σ2 H1)->g (.ref T) σ' H1 λσ2 H3=>tc σ2 H3 λb H4=>if b=true then te σ2 H4 (λv H5=>A v H5 σ2)else B σ2 H4)
 (q:∀l H',Same H H'->H l=none->H' l=some (.lst ((zdy hs x hs.length).map zgJ))->Q (.ref l) H'):zcN g tc te src σ Q (Ite K a (hs.map V.str).length) H:=by
 refine zmB (K:=K) (a:=a) (xs:=hs.map V.str) (λl i ys σ' H'=>Iv σ'/\ys=(zdy hs x i).map (zgJ)/\Same H H') ?_ ?_ ?_ ?_
 ·exact λl h'=>⟨h0,rfl,Same.new h'⟩
 ·exact λl i ys σ' H' _ p=>hok H' p.2.2
 ·rintro l i v ys σ' H1 T h' hi hv ⟨iv,rfl,s1⟩ hl' hT
  rw[ζa] at hi
  rw[ζq,ζd hi] at hv
  cases hv
  have S:=Same.new (o:= .tup [V.int (i:Int), .str hs[i]]) hT
  have s2:=s1.trans S
  have hl2:=S _ _ hl'
  have hidx:=zlM (x:=x) (n:=i) (y:=hs[i]) (ζd hi)
  refine hst T i hs[i] σ' _ (λy H5 σ2=>H5 l=some (.lst ((zdy hs x i).map zgJ))/\((zdy hs x i).map zgJ).length<sizeLine/\Iv σ2/\(zdy hs x i).map (zgJ)++ [y]=(zdy hs x (i+1)).map (zgJ)/\Same H (upd H5 l (.lst ((zdy hs x i).map (zgJ)++ [y])))) (λσ2 H4=>H4 l=some (.lst ((zdy hs x i).map zgJ))/\Iv σ2/\(zdy hs x i).map (zgJ)=(zdy hs x (i+1)).map (zgJ)/\Same H H4) iv s2 zd λσ2 iv2=>?_
  by_cases z:hs[i]=x
  ·refine zQ (ζf z) ⟨hl2,?_,iv2,?_,?_⟩
   ·rw[ζa]
    have:(zdy hs x i).length<=i:=by
     unfold zdy
     exact ξb (List.length_filter_le _ _) (by rw[List.length_range];exact ζu _)
    exact zm (by omega)
   ·rw[hidx,if_pos z,ξc];rfl
   ·exact λc o e=>by
     rw[zr (zB e h')]
     exact s2 _ _ e
  ·refine zW (ζo z) ⟨hl2,iv2,?_,s2⟩
   rw[hidx,if_neg z,List.append_nil]
 ·rintro l ys σ' H1 h' ⟨iv,rfl,s1⟩ hl'
  rw[ζa] at hl'
  exact q l H1 s1 h' hl'
noncomputable def zcP(ws ms:List Str)(to:Option Str)(cs:List D):Bool:=cs.all (zbv ws ms to)
noncomputable def zdw:D->List D| .tup [.tup cs,_]=>cs|_=> []
noncomputable def zcC:D->D| .tup [_,t]=>t|_=> .non
noncomputable def zS(ws ms:List Str):List D->D
 |[]=> .int 0
 |r::rs=>if zcP ws ms none (zdw r)=true then zcC r else zS ws ms rs
theorem zgv{ws ms:List Str}:∀{rs:List D},∃es,(rs.filter λr=>zcP ws ms none (zdw r)).map zcC ++ [.int 0]=zS ws ms rs::es
 |[]=>⟨[],rfl⟩
 |r::rs=>by
  rw[List.filter_cons]
  cases h:zcP ws ms none (zdw r)with
  |true=>exact ⟨_,by rw[if_pos rfl,List.map_cons,List.cons_append,zS,h,if_pos rfl]⟩
  |false=>
   rw[if_neg (by decide),zS,h,if_neg (by decide)]
   exact zgv
theorem zjT{J:It}{vs:List V}{rs:List D}{sel:D->Bool}{ok:Hp->Prop}{g:TG}{tc:TT}{te:TE}{H:Hp}{src:List (Option Nat)}{σ:L2.St}{Q:VK}(Iv:L2.St->Prop)(wk:Wk J vs.length (λi x=>vs[i]?=some x) ok)(hok:∀H',Same H H'->ok H')(r:RepL H vs rs)(hl:rs.length<=900)(h0:Iv (zel src σ))
 (hr:∀d∈rs,∃cs t,d= .tup [.tup cs,t])
 (hst:∀(p:Addr) (d:D) (v0 v1:V) (σ':L2.St) (H1:Hp) (A:V->Hp->L2.St->Prop) (B:L2.St->Hp->Prop),Iv σ'->Same H H1->d∈rs->H1 p=some (.tup [v0,v1])->Rep H1 v0 (.tup (zdw d))->Rep H1 v1 (zcC d)->(∀σ2 H2,Iv σ2->Same H1 H2->if sel d=true then A v1 H2 σ2 else B σ2 H2)->g (.ref p) σ' H1 λσ2 H3=>tc σ2 H3 λb H4=>if b=true then te σ2 H4 (λy H5=>A y H5 σ2)else B σ2 H4)
 (q:∀l us H',Same H H'->H l=none->H' l=some (.lst us)->RepL H' us ((rs.filter sel).map zcC)->Q (.ref l) H'):zcN g tc te src σ Q J H:=by
 refine zby wk (λl i ys σ' H'=>Iv σ'/\RepL H' ys (((rs.take i).filter sel).map zcC)/\Same H H') ?_ ?_ ?_ ?_
 ·exact λl h'=>⟨h0,RepL.nil,Same.new h'⟩
 ·exact λl i ys σ' H' _ p=>hok H' p.2.2
 ·rintro l i y ys σ' H1 h' hi hy ⟨iv,ry,s1⟩ hl'
  obtain⟨d,hd,rd⟩:=r.get hy
  have hdm:=ζl hd
  obtain⟨cs,t,rfl⟩:=hr d hdm
  obtain⟨p,v0,v1,rfl,hp,r0,r1⟩:=(rd.same s1).of2
  have tk:((rs.take (i+1)).filter sel).map zcC=((rs.take i).filter sel).map zcC ++([D.tup [.tup cs,t]].filter sel).map zcC:=by
   rw[List.take_add_one,hd,List.filter_append,ξc];rfl
  refine hst p _ v0 v1 σ' H1 (λy H5 σ2=>H5 l=some (.lst ys)/\ys.length<sizeLine/\Iv σ2/\RepL (upd H5 l (.lst (ys ++ [y]))) (ys ++ [y]) (((rs.take (i+1)).filter sel).map zcC)/\Same H (upd H5 l (.lst (ys ++ [y])))) (λσ2 H4=>H4 l=some (.lst ys)/\Iv σ2/\RepL H4 ys (((rs.take (i+1)).filter sel).map zcC)/\Same H H4) iv s1 hdm hp r0 r1 λσ2 H2 iv2 s2=>?_
  rw[tk]
  cases hg:sel (.tup [.tup cs,t])with
  |false=>
   have e0:([D.tup [.tup cs,t]].filter sel).map zcC=[]:=by simp[hg]
   rw[e0,List.append_nil]
   exact⟨s2 _ _ hl',iv2,ry.mono (.of s2),s1.trans s2⟩
  |true=>
   have e0:([D.tup [.tup cs,t]].filter sel).map zcC=[t]:=by simp[hg,zcC]
   rw[e0]
   refine⟨s2 _ _ hl',?_,iv2,?_,?_⟩
   ·have h1:=ry.1
    have h2:=List.length_filter_le sel (rs.take i)
    rw[ζa] at h1
    rw[ζm] at h2
    exact zm (by omega)
   ·exact ((ry.mono (.of s2)).append (.cons (r1.same s2) .nil)).mono (.lset (s2 _ _ hl'))
   ·exact λc o e=>by
     rw[zr (zB e h')]
     exact s2 _ _ (s1 _ _ e)
 ·rintro l ys σ' H1 h' ⟨iv,ry,s1⟩ hl'
  rw[r.1,List.take_length] at ry
  exact q l ys H1 s1 h' hl' ry
noncomputable def zj0:Sp:=λvs H Q _=>∃(v:V) (cs:List D) (pw pm:Addr) (vt:V) (ws ms:List Str) (to:Option Str),vs=[v, .ref pw, .ref pm,vt]/\Rep H v (.tup cs)/\(∀c∈cs,zN c=true)/\H pw=some (.tup (ws.map V.str))/\H pm=some (.tup (ms.map V.str))/\TO vt to/\(∀x∈ws,zi x=true)/\(∀x∈ms,zi x=true)/\1<=ws.length/\ws.length<=100/\ms.length<=100/\∀H',Same H H'->Q (.bl (zcP ws ms to cs)) H'
noncomputable def zqN:Sp:=λvs H Q _=>∃(v:V) (x:Str) (g:Str) (hs:List Str) (ps:List (Str×Str)) (lks hds:List D) (j:Nat),vs=[v, .str x]/\Rep H v (za5 g hs ps lks hds)/\TownOk g hs ps lks hds/\hs[j]?=some x/\∀(vr:V) (d:D),lks[j]?=some d->Rep H vr d->Q vr H
noncomputable def zeU:Sp:=λvs H Q _=>∃(v:V) (pw pm:Addr) (x:Str) (ws ms:List Str) (g:Str) (hs:List Str) (ps:List (Str×Str)) (lks hds:List D) (j:Nat) (rs:List D),vs=[v, .ref pw, .ref pm]/\Rep H v (za5 g hs ps lks hds)/\TownOk g hs ps lks hds/\hs[j]?=some x/\lks[j]?=some (.tup rs)/\H pw=some (.tup ((x::ws).map V.str))/\H pm=some (.tup (ms.map V.str))/\(∀y∈x::ws,zi y=true)/\(∀y∈ms,zi y=true)/\ws.length<=90/\ms.length<=100/\∀(u:V) (H':Hp),Rep H' u (zS (x::ws) ms rs)->Same H H'->Q u H'
theorem zpO{g:Str}{hs:List Str}{ps:List (Str×Str)}{lks hds:List D}(T:TownOk g hs ps lks hds){x:Str}(h:x∈hs):∃(j:Nat) (rs:List D),hs[j]?=some x/\lks[j]?=some (.tup rs)/\rs.length<=90/\∀r∈rs,zaF r=true:=by
 obtain⟨j,hj,e⟩:=List.getElem_of_mem h
 have hl:j<lks.length:=by rw[T.ll];exact hj
 have hlk:=T.likes lks[j] (List.getElem_mem hl)
 cases hd:lks[j] with
 |tup rs=>
  rw[hd] at hlk
  have h:(decide (rs.length<=90)&&rs.all zaF)=true:=hlk
  rw[ζt] at h
  exact⟨j,rs,by rw[ζd hj,e],by rw[ζd hl,hd],ζh h.1,List.all_eq_true.mp h.2⟩
 |_=>rw[hd] at hlk;cases hlk
theorem zhr{α:Type}{rs:List α}{i:Nat}{d:α}(h:rs[i]?=some d):rs.drop i=d::rs.drop (i+1):=by
 have hi:i<rs.length:=by
  rcases ξa i rs.length with y|y
  ·exact y
  ·rw[ζi y] at h;cases h
 rw[List.drop_eq_getElem_cons hi]
 rw[ζd hi] at h
 rw[ξj h]
mutual
noncomputable def okD:D->Bool
 | .str x=>PyData.strOk x
 | .tup ds=>okL ds
 | .oth=>false
 | .non=>true
 | .bl _=>true
 | .int _=>true
noncomputable def okL:List D->Bool
 |[]=>true
 |d::ds=>okD d&&okL ds
end
mutual
noncomputable def pyD:D->PyData
 | .non=> .none
 | .bl b=> .bool b
 | .int i=> .int i
 | .str x=> .str x
 | .tup ds=> .tuple (pyL ds)
 | .oth=> .none
noncomputable def pyL:List D->List PyData
 |[]=> []
 |d::ds=>pyD d::pyL ds
end
theorem zkf:∀{ds:List D},pyL ds=ds.map pyD
 |[]=>by rw[pyL];rfl
 |d::ds=>by rw[pyL,List.map_cons,zkf]
theorem zkt:∀{ds:List D},okL ds=true->∀d∈ds,okD d=true
 |[],_,_,z=>nomatch z
 |d::ds,h,e,he=>by
  rw[okL,ζt] at h
  rcases List.mem_cons.mp he with rfl|he
  ·exact h.1
  ·exact zkt h.2 e he
theorem zgs:∀{ds:List D},(∀d∈ds,okD d=true)->okL ds=true
 |[],_=>by rw[okL]
 |d::ds,h=>by rw[okL,h d ζp,zgs λe he=>h e (ξe _ he)];rfl
theorem zmP{H:Hp}{v:V}{d:D}(r:Rep H v d):okD d=true->Tr H v (pyD d):=by
 induction r with
 |non=>intro _;rw[pyD];exact .non
 |bl b=>intro _;rw[pyD];exact .bl b
 |int i=>intro _;rw[pyD];exact .int i
 |str x _=>intro h;rw[okD] at h;rw[pyD];exact .str x h
 | @tup p vs ds hp l b r ih=>
   intro h
   rw[okD] at h
   rw[pyD,zkf]
   refine .tup hp (by rw[l,ζa]) λi v d e1 e2=>?_
   rw[ζq] at e2
   cases e:ds[i]? with
   |none=>rw[e] at e2;cases e2
   |some d'=>
    rw[e] at e2
    cases e2
    exact ih i v d' e1 e (zkt h d' (ζl e))
 |lst _=>intro h;rw[okD] at h;cases h
 |dK _=>intro h;rw[okD] at h;cases h
theorem zgo{ds:List D}:(PyData.tuple (pyL ds)).eqv (.tuple [])=decide (ds=[]):=by
 rw[PyData.eqv]
 cases ds with
 |nil=>rw[pyL,PyData.eqvAll];rfl
 |cons d ds=>rw[pyL,PyData.eqvAll];rfl
theorem zjR:(PyData.tuple []).depth<=60:=by rw[PyData.depth,PyData.depthAll];decide
theorem zhX{H:Hp}{p:Addr}(e:H p=some (.tup [])):Tr H (.ref p) (.tuple []):= .tup e rfl λi v d z=>by cases z
noncomputable def leS(a b:Str):Bool:=!ltS b a
noncomputable def srt(l:List Str):List Str:=l.mergeSort leS
theorem zjF(a b c:Str)(h1:leS a b=true)(h2:leS b c=true):leS a c=true:=by
 unfold leS at *
 rw[Bool.not_eq_true'] at *
 cases h:ltS c a with
 |false=>rfl
 |true=>
  by_cases e:a=b
  ·subst e;rw[h] at h2;cases h2
  ·have ab:ltS a b=true:=zdM (λz=>e z.symm) h1
   have:=zgt h ab
   rw[this] at h2;cases h2
theorem zkX(a b:Str):(leS a b||leS b a)=true:=by
 unfold leS
 cases h:ltS b a with
 |false=>rfl
 |true=>rw[zh6 h];rfl
theorem zdu(l:List Str):(srt l).Perm l:=List.mergeSort_perm l leS
theorem zmp{l:List Str}(nd:l.Nodup):(srt l).Pairwise (λa b=>ltS a b=true):=by
 have h1:(srt l).Pairwise (λa b=>leS a b=true):=List.pairwise_mergeSort zjF zkX l
 have h2:(srt l).Nodup:=(zdu l).nodup_iff.mpr nd
 refine(h1.and h2).imp λ{a b} h=>?_
 obtain⟨ha,hn⟩:=h
 unfold leS at ha
 rw[Bool.not_eq_true'] at ha
 exact zdM (λz=>hn z.symm) ha
noncomputable def zaU(t:List Str)(w m:Str):List Str:=t.filter (λx=>!decide (x=m))++(if w="put"then [m] else [])
theorem zg0{t:List Str}{w m:Str}(nd:t.Nodup):(zaU t w m).Nodup:=by
 unfold zaU
 rw[List.nodup_append]
 refine⟨nd.filter _,?_,?_⟩
 ·split<;>simp
 ·intro a ha b hb e
  split at hb
  ·rw[List.mem_singleton.mp hb] at e
   have:=(List.mem_filter.mp ha).2
   rw[e] at this
   simp at this
  ·cases hb
theorem zlX{t O:List Str}{w m:Str}(h:∀x∈t,x∈O)(hm:m∈O):∀x∈zaU t w m,x∈O:=by
 unfold zaU
 refine List.forall_mem_append.mpr ⟨λx hx=>h x (List.mem_filter.mp hx).1,λx hx=>?_⟩
 split at hx
 ·rw[List.mem_singleton.mp hx];exact hm
 ·cases hx
noncomputable def ze1(t:List Str)(w m:Str):List Str:=srt (zaU t w m)
structure Mk(O t:List Str):Prop where
 nd:t.Nodup
 mem:∀x∈t,x∈O
theorem Mk.next{O t:List Str}{w m:Str}(h:Mk O t)(hm:m∈O):Mk O (ze1 t w m) where
 nd:=(zdu _).nodup_iff.mpr (zg0 h.nd)
 mem:=λx hx=>zlX h.mem hm x ((zdu _).mem_iff.mp hx)
theorem Mk.len{O t:List Str}(h:Mk O t)(hO:O.length<=14):t.length<=14:=ξb (zb0 h.nd h.mem) hO
noncomputable def zA(ws:List Str)(to:Option Str):List D->List Str->Option (List Str)
 |[],t=>some t
 |r::rs,t=>if zcP ws t to (zdw r)=true then(match zcC r with| .tup [.str w, .str m]=>zA ws to rs (ze1 t w m)|_=>none)else zA ws to rs t
def zdI(O:List Str)(rs:List D):Prop:=rs.length<=90/\∀r∈rs,∃cs x,r= .tup [.tup cs,x]/\(∀c∈cs,zN c=true)/\(x= .tup [.str "keep"]\/∃w m,x= .tup [.str w, .str m]/\(w="put"\/w="strike")/\m∈O)
theorem zlp{O:List Str}{d:D}(h:zbE d=true)(hi:zdi O d=true):∃rs,d= .tup rs/\zdI O rs:=by
 cases d with
 |tup rs=>
  have h:(decide (rs.length<=90)&&rs.all zbj)=true:=h
  rw[ζt] at h
  refine⟨rs,rfl,ζh h.1,λr hr=>?_⟩
  obtain⟨cs,x,rfl,h4,hc,hx⟩:=zkn (List.all_eq_true.mp h.2 r hr)
  obtain⟨h1,h2⟩:=zl8 (List.all_eq_true.mp hi _ hr)
  refine⟨cs,x,rfl,hc,?_⟩
  rcases znG hx with rfl|⟨w,y,rfl,hw,_⟩
  ·exact .inl rfl
  ·exact .inr ⟨w,y,rfl,hw,ζh h2⟩
 |_=>cases h
def zpJ(H:Hp)(u:V):Option (List Str)->Prop
 |none=>u= .non
 |some t=>∃p,u= .ref p/\H p=some (.tup (t.map V.str))
noncomputable def zqV:Sp:=λvs H Q _=>∃(v:V) (x:Str) (g:Str) (hs:List Str) (ps:List (Str×Str)) (lks hds:List D) (j:Nat),vs=[v, .str x]/\Rep H v (za5 g hs ps lks hds)/\TownOk g hs ps lks hds/\hs[j]?=some x/\∀(vr:V) (d:D),hds[j]?=some d->Rep H vr d->Q vr H
noncomputable def zgj:Sp:=λvs H Q _=>∃(v:V) (pw pm:Addr) (vt:V) (x:Str) (ws ms:List Str) (to:Option Str) (g:Str) (hs:List Str) (ps:List (Str×Str)) (lks hds:List D) (j:Nat) (rs:List D) (O:List Str),vs=[v, .ref pw, .ref pm,vt]/\Rep H v (za5 g hs ps lks hds)/\TownOk g hs ps lks hds/\hs[j]?=some x/\hds[j]?=some (.tup rs)/\zdI O rs/\O.length<=14/\(∀y∈O,zi y=true)/\Mk O ms/\H pw=some (.tup ((x::ws).map V.str))/\H pm=some (.tup (ms.map V.str))/\TO vt to/\(∀y∈x::ws,zi y=true)/\ws.length<=90/\∀(u:V) (H':Hp),zpJ H' u (zA (x::ws) to rs ms)->Same H H'->Q u H'
theorem znd{g:Str}{hs:List Str}{ps:List (Str×Str)}{lks hds:List D}(T:TownOk g hs ps lks hds){x:Str}(h:x∈hs):∃(j:Nat) (d:D),hs[j]?=some x/\hds[j]?=some d/\d∈hds:=by
 obtain⟨j,hj,e⟩:=List.getElem_of_mem h
 have hl:j<hds.length:=by rw[T.lh];exact hj
 exact⟨j,hds[j],by rw[ζd hj,e],ζd hl,List.getElem_mem hl⟩
noncomputable def neD(m:Str):D->Bool| .str z=>!decide (z=m)|_=>false
theorem znv{t:List Str}{m:Str}:((t.map D.str).filter (neD m)).map (λd=>d)=(t.filter λx=>!decide (x=m)).map D.str:=by
 rw[List.map_id',List.filter_map];rfl
end RW
namespace L2
open PySem PySem.W PySem.Spec PyProof.Rows
section
open PySem.SeqAt
open PySem.AutoSeq1 (wpAny_loadPart')
open PySem.MeetsSeq PySem.MeetsSeq2 PySem.MeetsSeq3
end
end L2
namespace L2
open PySem PySem.W PySem.Spec PyProof.Rows RW
noncomputable def ltL:List Str->List Str->Bool
 |[],[]=>false
 |[],_::_=>true
 |_::_,[]=>false
 |x::xs,y::ys=>if x=y then ltL xs ys else ltS x y
section
variable{X:Cx}{K:PySem.W.Frag}
end
end L2
namespace RW
open PySem PySem.Spec PyProof.Rows L2
end RW
namespace HT
open PySem PySem.Spec PyProof.Rows
section
variable{prog:Program}{w:World}{A:Around}{E:Value->Shared->Prop}{s:Shared}
end
end HT
namespace L2
open PySem PySem.Spec PyProof.Rows
section
variable{X:Cx}{e st:Expr}{te ts:TE}{p1 p2 p3 pos:Pos}{tk:Tok}
end
end L2
namespace RW
open PySem PySem.Spec PyProof.Rows L2
section
variable{te tf:TE}{ta:TA}{σ:L2.St}{H:Hp}{d:D}{ds es:List D}{K:PySem.W.Frag}
theorem zaZ{i n:Nat}{v:V}(hv:σ[i]?=some (some v))(r:Rep H v (.tup ds))(hd:ds[n]?=some d):Dsp (tOp (zj7 K) (zb8 i) (tC (.int (n:Int)))) σ H d:=λH1 Q s q=>by
 obtain⟨p,vs,rfl,hp,r1,b⟩:=(r.same s).ofT
 have hlt:n<vs.length:=by
  rw[r1.1]
  rcases ξa n ds.length with z|z
  ·exact z
  ·rw[ζi z] at hd;cases hd
 exact⟨_,hv,p,_,_,vs[n],rfl,rfl, .inl (.inl hp),zz (by simp[hlt]),q _ H1 (Same.refl _) (r1.2 n _ d (by simp[hlt]) hd)⟩
theorem zhs{tl th:L2.TO}{lo hi:Option Int}(h:Dsp te σ H (.tup ds))(hl:∀H1 (Q:Option Int->Hp->Prop),Q lo H1->tl σ H1 Q)(hh:∀H1 (Q:Option Int->Hp->Prop),Q hi H1->th σ H1 Q)
 (hc:∀vs:List V,vs.length=ds.length->∃m k,zaY vs lo hi=(vs.drop m).take k/\es=(ds.drop m).take k):Dsp (tSl (ze3 K) te tl th) σ H (.tup es):=λH1 Q s q=>
 h H1 _ s λv H2 s2 r=>by
  obtain⟨p,vs,rfl,hp,r1,b⟩:=r.ofT
  obtain⟨m,k,e1,e2⟩:=hc vs r1.1
  refine hl _ _ (hh _ _ ⟨p,vs,rfl, .inl (.inl hp),λz=>?_,λp2 hp2=>?_⟩)
  ·refine q _ H2 s2 ?_
   have e3:es=ds:=by
    rw[e2]
    rw[e1] at z
    have z1:=congrArg List.length z
    rw[ζm,ζr,r1.1] at z1
    rcases Nat.eq_zero_or_pos m with rfl|hm
    ·rw[List.drop_zero]
     exact List.take_of_length_le (by omega)
    ·have:ds=[]:=List.eq_nil_of_length_eq_zero (by omega)
     subst this;simp
   rw[e3]
   exact .mkL hp b r1
  ·refine q _ _ (s2.trans (Same.new hp2)) (.mkL zd (by rw[e2,ζm,ζr];omega) ?_)
   rw[e1,e2]
   exact((r1.drop m).take k).mono (.new hp2)
theorem zgQ{j t:Nat}(h:Dsp te σ H (.tup ds))(ht:σ[j]?=some (some (.int (t:Int)))):Dsp (tSl (ze3 K) te zal (zcQ (zb8 j))) σ H (.tup (ds.take t)):=
 zhs (lo:=none) (hi:=some (t:Int)) h (λ_ _ h=>zbi h) (λ_ _ h=>zf2 ht h) λvs hl=>⟨0,t,by rw[zbw,List.drop_zero],by rw[List.drop_zero]⟩
theorem zlD{n:Nat}(h:Dsp te σ H (.tup ds)):Dsp (tSl (ze3 K) te zal (zcQ (tC (.int (n:Int))))) σ H (.tup (ds.take n)):=
 zhs (lo:=none) (hi:=some (n:Int)) h (λ_ _ h=>zbi h) (λ_ _ h=>ziM h) λvs hl=>⟨0,n,by rw[zbw,List.drop_zero],by rw[List.drop_zero]⟩
theorem zfY{j t:Nat}(h:Dsp te σ H (.tup ds))(ht:σ[j]?=some (some (.int (t:Int)))):Dsp (tSl (ze3 K) te (zcQ (tOp (rI0 λi j=> .int (i+j)) (zb8 j) (tC (.int 1)))) zal) σ H (.tup (ds.drop (t+1))):=
 zhs (lo:=some ((t:Int)+1)) (hi:=none) h (λ_ _ h=>zij ht h) (λ_ _ h=>zbi h) λvs hl=>⟨t+1,vs.length,by rw[show(t:Int)+1=((t+1:Nat):Int) by push_cast;rfl,za3];exact(List.take_of_length_le (by rw[ζr];omega)).symm,(List.take_of_length_le (by rw[ζr];omega)).symm⟩
theorem zoS{j t:Nat}(h:Dsp te σ H (.tup ds))(ht:σ[j]?=some (some (.int (t:Int))))(hd:ds[t]?=some d):Dsp (tOp (zj7 K) te (zb8 j)) σ H d:=λH1 Q s q=>
 h H1 _ s λv H2 s2 r=>by
  obtain⟨p,vs,rfl,hp,r1,b⟩:=r.ofT
  have hlt:t<vs.length:=by
   rw[r1.1]
   rcases ξa t ds.length with z|z
   ·exact z
   ·rw[ζi z] at hd;cases hd
  exact⟨_,ht,p,_,_,vs[t],rfl,rfl, .inl (.inl hp),zz (by simp[hlt]),q _ H2 s2 (r1.2 t _ d (by simp[hlt]) hd)⟩
end
noncomputable def putAt(ds:List D)(j:Nat)(d:D):List D:=ds.take j ++ [d]++ds.drop (j+1)
theorem zhd{ds:List D}{j:Nat}{d:D}(h:j<ds.length):(putAt ds j d).length=ds.length:=by
 unfold putAt
 rw[ζe,ζe,ζm,ξd,ζr];omega
theorem zfp{ds:List D}{j:Nat}{d e:D}(h:e∈putAt ds j d):e=d\/e∈ds:=by
 unfold putAt at h
 rw[List.mem_append,List.mem_append] at h
 rcases h with(h|h)|h
 ·exact .inr (List.mem_of_mem_take h)
 ·exact .inl (List.mem_singleton.mp h)
 ·exact .inr (List.mem_of_mem_drop h)
theorem zm2{ds:List D}(h:ds.length<=90)(h2:∀d∈ds,zbj d=true):zbE (.tup ds)=true:=by
 show(decide (ds.length<=90)&&ds.all zbj)=true
 rw[ζf h,List.all_eq_true.mpr h2];rfl
end RW
namespace L2
open PySem PySem.Spec PyProof.Rows
section
variable{X:Cx}{pos:Pos}{pins:List (Addr×Obj)}{σ:St}{H:Hp}{s:Shared}
end
section
variable{X:Cx}{K:PySem.W.Frag}
end
section
variable{X:Cx}{pos:Pos}
end
end L2
namespace HT
open PySem PySem.Spec PyProof.Rows
theorem slicePick_rev(xs:Array Value):slicePick xs none none (some (-1))=xs.toList.reverse.toArray:=by
 unfold slicePick
 have hb:sliceBounds none none (some (-1)) xs.size=((xs.size:Int) -1,-1,-1):=rfl
 rw[hb]
 show((sliceRange ((xs.size:Int) -1) (-1) (-1)).filterMap _).toArray=_
 have hr:sliceRange ((xs.size:Int) -1) (-1) (-1)=(List.range xs.size).map λ(m:Nat)=>((xs.size:Int) -1+(m:Int)* -1).toNat:=by
  unfold sliceRange
  have hc:(if(-1:Int)>0 then(if(xs.size:Int) -1< -1 then(-1 -((xs.size:Int) -1)+ -1 -1)/ -1 else 0)else(if(xs.size:Int) -1> -1 then((xs.size:Int) -1 - -1 - -1 -1)/(- -1)else 0)).toNat=xs.size:=by
   rw[if_neg (by decide),show(- -1:Int)=1 by decide,Int.ediv_one]
   split<;>omega
  show(List.range (if(-1:Int)>0 then(if(xs.size:Int) -1< -1 then(-1 -((xs.size:Int) -1)+ -1 -1)/ -1 else 0)else(if(xs.size:Int) -1> -1 then((xs.size:Int) -1 - -1 - -1 -1)/(- -1)else 0)).toNat).map (λ(k:Nat)=>((xs.size:Int) -1+ -1*(k:Int)).toNat)=_
  rw[hc]
  refine List.map_congr_left λm _=>?_
  congr 1
  omega
 rw[hr,List.filterMap_map]
 exact ziQ xs
end HT
namespace L2
open PySem PySem.Spec PyProof.Rows
section
variable{X:Cx}{e i o:Expr}{te td ty:TE}{p1 p2 p3 pos:Pos}{tk:Tok}
noncomputable def zqR(K:PySem.W.Frag)(te:TE):TE:=λσ H Q=>te σ H λx H1=>∃a xs,x= .ref a/\SqL K H1 a xs/\∀p,H1 p=none->Q (.ref p) (upd H1 p (.lst xs.reverse))
theorem zpT{st:Expr}(he:QE X e te)(hst:QE X st (tUn (rU λi=> .int (-i)) (tC (.int 1)))):QE X (.Subscript e (.Slice none none (some st) p2) pos) (zqR X.K te):=⟨by
 intro pins s σ H Q I h
 refine Subscript_ (thn (he.o pins s σ H _ I h) λv s1 ⟨x,H1,I1,r1,q1⟩=>?_)
 refine wpAny_Slice ?_
 rw[evalPart_none,evalPart_some]
 refine ζs (ζs ?_)
 refine thn (hst.o pins s1 σ H1 (λy H2=>y= .int (-1)/\H2=H1) I1 ⟨1,rfl,rfl,rfl⟩) λvst s3 ⟨y,H3,I3,r3,ey,eh⟩=>?_
 subst ey eh
 obtain⟨tk,rfl⟩:=r3
 obtain⟨a,xs,rfl,hx,q⟩:=q1
 cases r1
 have I4:Inv X pins σ _ {s3 with heap:=s3.heap.push {cls:= .type "slice",data:= .fields #[.none, .none, .int (-1) tk]}}:=I3.kept (t':=s3.toks) λb ob q=>ζc _ q
 obtain⟨its,r,ht,hz⟩:=I4.list hx
 have hlen:its.toArray.size=xs.length:=by rw[ζv];exact r.length.symm
 show wpAny (model X.prog X.w) X.A (subscriptTail e (.Slice none none (some st) p2) (.ref a) (.ref s3.heap.objs.size)) (EP X pins σ Q) X.xe {s3 with heap:=s3.heap.push {cls:= .type "slice",data:= .fields #[.none, .none, .int (-1) tk]}}
 refine tail_any (ops:=[.ref a, .ref s3.heap.objs.size]) ht.isList.typeIs slot_list_getitem.lookup ?_ (by with_unfolding_all rfl)
 refine wpAny_getItem_list_slice (st:=some (-1)) ht.isList (Heap.IsSliceOf.new ..) .none .none (.int (-1) tk) (by simp) ?_ (by rw[hlen];exact hz)
 rw[HT.slicePick_rev]
 refine⟨.ref _,_,I4.laid (t':=s3.toks) (o:= .lst xs.reverse) (λb ob q=>ζc _ q) (ζu _) ?_,rfl,q _ (I4.hok.fresh (ζu _))⟩
 exact⟨by rw[List.length_reverse];exact hz,its.reverse,0,r.rev,ζj _ rfl⟩⟩
end
end L2
namespace RW
open PySem PySem.Spec PyProof.Rows L2
mutual
theorem zoP:∀d:D,(pyD d).eqv (pyD d)=true
 | .non=>by rw[pyD,PyData.eqv]
 | .bl b=>by rw[pyD,PyData.eqv];simp
 | .int i=>by rw[pyD,PyData.eqv];simp
 | .str x=>by rw[pyD,PyData.eqv];simp
 | .tup ds=>by rw[pyD,PyData.eqv];exact zky ds
 | .oth=>by rw[pyD,PyData.eqv]
theorem zky:∀ds:List D,PyData.eqvAll (pyL ds) (pyL ds)=true
 |[]=>by rw[pyL,PyData.eqvAll]
 |d::ds=>by rw[pyL,PyData.eqvAll,zoP d,zky ds];rfl
end
end RW
namespace HT
open PySem PySem.Spec PyProof.Rows L2
section
variable{prog:Program}{w:World}{A:Around}{E:Value->Shared->Prop}{s:Shared}
theorem zip_itemD{z TI TO i1 i2 l1 l2:Addr}{n1 n2 k:Nat}{P1 P2:Nat->Value->Prop}{S1 S2:Nat->Heap->Prop}{a b:Value}{Q:Value->Shared->Prop}(D:ZipApart z TI TO i1 i2 l1 l2)
 (D1:Draws prog w A i1 [i1,l1] n1 P1 S1) (D2:Draws prog w A i2 [i2,l2] n2 P2 S2)
 (hz:IsZip s.heap z TI TO .none) (hTI:IsPair s.heap TI (.ref i1) (.ref i2)) (hTO:IsPair s.heap TO a b) (h1:S1 k s.heap) (h2:S2 k s.heap) (k1:k<n1) (k2:k<n2)
 (hQ:∀x y h' tk,P1 k x->P2 k y->IsZip h' z TI TO (rawInt s.heap.objs.size)->IsPair h' TO x y->S1 (k+1) h'->S2 (k+1) h'->IsPair h' s.heap.objs.size x y->h'.objs.size=s.heap.objs.size+1->
   (∀c o,c≠z->c≠TO->c≠i1->c≠i2->s.heap.get? c=some o->h'.get? c=some o)->Q (.ref s.heap.objs.size) {s with heap:=h',toks:=tk}):
 wpAny (model prog w) A (Builtin.«zip.__next__» ⟨[.ref z],[]⟩) (λfin s'=>∃v,fin= .done (.ret v)/\Q v s') E s:=by
 show wpAny _ _ (field (.ref z) 2>>=_) _ _ _
 refine ζb (wpAny_field hz rfl (x:= .bool false) rfl ?_)
 show wpAny _ _ (field (.ref z) 3>>=_) _ _ _
 refine ζb (wpAny_field hz rfl (x:= .ref TI) rfl ?_)
 refine ζb (wpAny_seqItems hTI rfl ?_)
 show wpAny _ _ (Builtin.SmallTypes.ownedTupleIsFree (.ref z)>>=_) _ _ _
 refine ζb ?_
 unfold Builtin.SmallTypes.ownedTupleIsFree
 refine ζb (wpAny_field hz rfl (x:= .none) rfl (ζs ?_))
 simp only[if_true]
 refine ζb (wpAny_rule ?_)
 refine ζb (wpAny_field hz rfl (x:= .ref TO) rfl ?_)
 refine ζb (wpAny_setField_rec hz (by simp) λh₁ hz₁ hs₁=>?_)
 replace hz₁:IsZip h₁ z TI TO .ellipsis:=hz₁
 refine ζb ?_
 simp only[List.zipIdx_cons,List.zipIdx_nil,List.forIn_cons,List.forIn_nil]
 refine ζb (ζb (wpAny_onRaise ?_))
 show wpAny _ _ (Builtin.SmallTypes.nextOf (.ref i1)>>=_) _ _ _
 have f1:∀{i:Nat} {h h':Heap},S1 i h->(∀c o,c≠z->c≠TO->c≠i2->h.get? c=some o->h'.get? c=some o)->S1 i h':=λst kk=>D1.frame _ _ _ st λc hc o e=>by
  rcases List.mem_cons.mp hc with rfl|hc
  ·exact kk c o D.i1z D.TOi1.symm D.i12 e
  ·have:c=l1:=by simpa using hc
   subst this
   exact kk c o D.l1z D.l1TO D.l1i2 e
 have f2:∀{i:Nat} {h h':Heap},S2 i h->(∀c o,c≠z->c≠TO->c≠i1->h.get? c=some o->h'.get? c=some o)->S2 i h':=λst kk=>D2.frame _ _ _ st λc hc o e=>by
  rcases List.mem_cons.mp hc with rfl|hc
  ·exact kk c o D.i2z D.TOi2.symm D.i12.symm e
  ·have:c=l2:=by simpa using hc
   subst this
   exact kk c o D.l2z D.l2TO D.l2i1 e
 refine ζb (D1.item k _ _ _ k1 (f1 h1 λc o c1 _ _ e=>hs₁.extBut _ _ c1 e) λx h₂ tk2 hx h1₂ hs₂=>ζs ?_)
 have hTO₂:IsPair h₂ TO a b:=hs₂.extBut _ _ D.TOi1 (hs₁.extBut _ _ D.TOz hTO)
 refine ζb (wpAny_seqItems hTO₂ rfl ?_)
 refine ζb (wpAny_updateSeq_pair hTO₂ λh₃ hTO₃ hs₃=>?_)
 replace hTO₃:IsPair h₃ TO x b:=hTO₃
 refine ζb (wpAny_letGo (ζs ?_))
 refine ζb (ζb (wpAny_onRaise ?_))
 show wpAny _ _ (Builtin.SmallTypes.nextOf (.ref i2)>>=_) _ _ _
 refine ζb (D2.item k _ _ _ k2 (f2 h2 λc o c1 c2 c3 e=>hs₃.extBut _ _ c2 (hs₂.extBut _ _ c3 (hs₁.extBut _ _ c1 e))) λy h₄ tk4 hy h2₄ hs₄=>ζs ?_)
 have hTO₄:IsPair h₄ TO x b:=hs₄.extBut _ _ D.TOi2 hTO₃
 refine ζb (wpAny_seqItems hTO₄ rfl ?_)
 refine ζb (wpAny_updateSeq_pair hTO₄ λh₅ hTO₅ hs₅=>?_)
 replace hTO₅:IsPair h₅ TO x y:=hTO₅
 refine ζb (wpAny_letGo (ζs (ζs ?_)))
 refine ζb (wpAny_seqItems hTO₅ rfl ?_)
 refine ζb (wpAny_newTuple ?_)
 have hsz:h₅.objs.size=s.heap.objs.size:=by rw[hs₅.1,hs₄.1,hs₃.1,hs₂.1,hs₁.1]
 have hz₅:IsZip h₅ z TI TO .ellipsis:=hs₅.extBut _ _ D.TOz.symm (hs₄.extBut _ _ D.i2z.symm (hs₃.extBut _ _ D.TOz.symm (hs₂.extBut _ _ D.i1z.symm hz₁)))
 have hk₅:∀c o,c≠z->c≠TO->c≠i1->c≠i2->s.heap.get? c=some o->h₅.get? c=some o:=λc o c1 c2 c3 c4 e=>
  hs₅.extBut _ _ c2 (hs₄.extBut _ _ c4 (hs₃.extBut _ _ c2 (hs₂.extBut _ _ c3 (hs₁.extBut _ _ c1 e))))
 have h1₅:S1 (k+1) h₅:=f1 h1₂ λc o c1 c2 c3 e=>hs₅.extBut _ _ c2 (hs₄.extBut _ _ c3 (hs₃.extBut _ _ c2 e))
 have h2₅:S2 (k+1) h₅:=f2 h2₄ λc o c1 c2 c3 e=>hs₅.extBut _ _ c2 e
 have hzlt:z<h₅.objs.size:=ζn hz₅
 have hTOlt:TO<h₅.objs.size:=ζn hTO₅
 show wpAny _ _ (Builtin.SmallTypes.ownedTupleHandOut (.ref z) (.ref h₅.objs.size)>>=_) _ _ _
 refine ζb ?_
 unfold Builtin.SmallTypes.ownedTupleHandOut
 have hz₆:IsZip (h₅.push {cls:= .type "tuple",data:= .seq #[x,y]}) z TI TO .ellipsis:=ζc _ hz₅
 refine ζb (wpAny_setField_rec hz₆ (by simp) λh₇ hz₇ hs₇=>?_)
 replace hz₇:IsZip h₇ z TI TO (rawInt h₅.objs.size):=hz₇
 refine wpAny_setField_rec hz₇ (by simp) λh₈ hz₈ hs₈=>?_
 replace hz₈:IsZip h₈ z TI TO (rawInt h₅.objs.size):=hz₈
 have up:∀c o,c≠z->h₅.get? c=some o->h₈.get? c=some o:=λc o c1 e=>hs₈.extBut _ _ c1 (hs₇.extBut _ _ c1 (ζc _ e))
 have hT₈:IsPair h₈ h₅.objs.size x y:=hs₈.extBut _ _ (Nat.ne_of_gt hzlt) (hs₇.extBut _ _ (Nat.ne_of_gt hzlt) (ζj _ rfl))
 have hz8:h₈.objs.size=h₅.objs.size+1:=by rw[hs₈.1,hs₇.1,Heap.size_push]
 rw[hsz] at hz₈ hT₈ hz8
 refine ζs ⟨_,rfl,?_⟩
 show Q (.ref h₅.objs.size) _
 rw[hsz]
 exact hQ x y h₈ _ hx hy hz₈ (up _ _ D.TOz hTO₅) (f1 h1₅ λc o c1 _ _ e=>up c o c1 e) (f2 h2₅ λc o c1 _ _ e=>up c o c1 e) hT₈ hz8 λc o c1 c2 c3 c4 e=>up c o c1 (hk₅ c o c1 c2 c3 c4 e)
theorem zip_endD{z TI TO i1 i2 l1 l2:Addr}{n1 n2 k:Nat}{P1 P2:Nat->Value->Prop}{S1 S2:Nat->Heap->Prop}{a b:Value}{Q:Fin->Shared->Prop}(D:ZipApart z TI TO i1 i2 l1 l2)
 (D1:Draws prog w A i1 [i1,l1] n1 P1 S1) (D2:Draws prog w A i2 [i2,l2] n2 P2 S2)
 (hz:IsZip s.heap z TI TO .none) (hTI:IsPair s.heap TI (.ref i1) (.ref i2)) (hTO:IsPair s.heap TO a b) (h1:S1 k s.heap) (h2:S2 k s.heap) (hend:k=n1\/(k<n1/\k=n2))
 (hE:∀h' tk e,(∀c o,c≠z->c≠TO->c≠i1->c≠i2->s.heap.get? c=some o->h'.get? c=some o)->(∃o,h'.get? e=some o/\o.cls= .type "StopIteration")->E (.ref e) {s with heap:=h',toks:=tk}):
 wpAny (model prog w) A (Builtin.«zip.__next__» ⟨[.ref z],[]⟩) Q E s:=by
 show wpAny _ _ (field (.ref z) 2>>=_) _ _ _
 refine ζb (wpAny_field hz rfl (x:= .bool false) rfl ?_)
 show wpAny _ _ (field (.ref z) 3>>=_) _ _ _
 refine ζb (wpAny_field hz rfl (x:= .ref TI) rfl ?_)
 refine ζb (wpAny_seqItems hTI rfl ?_)
 show wpAny _ _ (Builtin.SmallTypes.ownedTupleIsFree (.ref z)>>=_) _ _ _
 refine ζb ?_
 unfold Builtin.SmallTypes.ownedTupleIsFree
 refine ζb (wpAny_field hz rfl (x:= .none) rfl (ζs ?_))
 simp only[if_true]
 refine ζb (wpAny_rule ?_)
 refine ζb (wpAny_field hz rfl (x:= .ref TO) rfl ?_)
 refine ζb (wpAny_setField_rec hz (by simp) λh₁ hz₁ hs₁=>?_)
 replace hz₁:IsZip h₁ z TI TO .ellipsis:=hz₁
 refine ζb ?_
 simp only[List.zipIdx_cons,List.zipIdx_nil,List.forIn_cons,List.forIn_nil]
 refine ζb (ζb (wpAny_onRaise ?_))
 show wpAny _ _ (Builtin.SmallTypes.nextOf (.ref i1)>>=_) _ _ _
 have f1:∀{i:Nat} {h h':Heap},S1 i h->(∀c o,c≠z->c≠TO->c≠i2->h.get? c=some o->h'.get? c=some o)->S1 i h':=λst kk=>D1.frame _ _ _ st λc hc o e=>by
  rcases List.mem_cons.mp hc with rfl|hc
  ·exact kk c o D.i1z D.TOi1.symm D.i12 e
  ·have:c=l1:=by simpa using hc
   subst this
   exact kk c o D.l1z D.l1TO D.l1i2 e
 have f2:∀{i:Nat} {h h':Heap},S2 i h->(∀c o,c≠z->c≠TO->c≠i1->h.get? c=some o->h'.get? c=some o)->S2 i h':=λst kk=>D2.frame _ _ _ st λc hc o e=>by
  rcases List.mem_cons.mp hc with rfl|hc
  ·exact kk c o D.i2z D.TOi2.symm D.i12.symm e
  ·have:c=l2:=by simpa using hc
   subst this
   exact kk c o D.l2z D.l2TO D.l2i1 e
 rcases hend with rfl|⟨k1,rfl⟩
 ·refine ζb (D1.done _ _ _ (f1 h1 λc o c1 _ _ e=>hs₁.extBut _ _ c1 e) λh₂ e hs₂ he=>?_)
  obtain⟨oe,hoe,hce⟩:=he
  have hz₂:IsZip h₂ z TI TO .ellipsis:=hs₂ _ _ D.i1z.symm hz₁
  have hez:e≠z:=λx=>by subst x;rw[hz₂] at hoe;cases hoe;simp at hce
  refine wpAny_setField_rec hz₂ (by simp) λh₃ _ hs₃=>hE h₃ s.toks e (λc o c1 _ c3 _ x=>hs₃.extBut _ _ c1 (hs₂ _ _ c3 (hs₁.extBut _ _ c1 x))) ⟨oe,hs₃.extBut _ _ hez hoe,hce⟩
 ·refine ζb (D1.item k _ _ _ k1 (f1 h1 λc o c1 _ _ e=>hs₁.extBut _ _ c1 e) λx h₂ tk2 hx h1₂ hs₂=>ζs ?_)
  have hTO₂:IsPair h₂ TO a b:=hs₂.extBut _ _ D.TOi1 (hs₁.extBut _ _ D.TOz hTO)
  refine ζb (wpAny_seqItems hTO₂ rfl ?_)
  refine ζb (wpAny_updateSeq_pair hTO₂ λh₃ hTO₃ hs₃=>?_)
  refine ζb (wpAny_letGo (ζs ?_))
  refine ζb (ζb (wpAny_onRaise ?_))
  show wpAny _ _ (Builtin.SmallTypes.nextOf (.ref i2)>>=_) _ _ _
  refine ζb (D2.done _ _ _ (f2 h2 λc o c1 c2 c3 e=>hs₃.extBut _ _ c2 (hs₂.extBut _ _ c3 (hs₁.extBut _ _ c1 e))) λh₄ e hs₄ he=>?_)
  obtain⟨oe,hoe,hce⟩:=he
  have hz₄:IsZip h₄ z TI TO .ellipsis:=hs₄ _ _ D.i2z.symm (hs₃.extBut _ _ D.TOz.symm (hs₂.extBut _ _ D.i1z.symm hz₁))
  have hez:e≠z:=λx=>by subst x;rw[hz₄] at hoe;cases hoe;simp at hce
  refine wpAny_setField_rec hz₄ (by simp) λh₅ _ hs₅=>hE h₅ _ e (λc o c1 c2 c3 c4 x=>hs₅.extBut _ _ c1 (hs₄ _ _ c4 (hs₃.extBut _ _ c2 (hs₂.extBut _ _ c3 (hs₁.extBut _ _ c1 x))))) ⟨oe,hs₅.extBut _ _ hez hoe,hce⟩
def SqH(t:Bool)(h:Heap)(a:Addr)(items:Array Value):Prop:=if t then h.IsTuple a items else h.IsList a items
def ItH(t:Bool)(h:Heap)(it a:Addr)(i:Nat):Prop:=if t then h.IsTupleIter it a i else h.IsListIter it a i
noncomputable def itO(t:Bool)(a:Addr):Obj:={cls:= .type (if t then"tuple_iterator"else "list_iterator"),data:= .fields #[.ref a, .int 0 0]}
theorem ItH.at{t:Bool}{h h':Heap}{it a:Addr}{i:Nat}(x:ItH t h it a i)(e:∀o,h.get? it=some o->h'.get? it=some o):ItH t h' it a i:=by
 cases t<;>(obtain⟨o,ho,r⟩:=x;exact⟨o,e _ ho,r⟩)
theorem ItH.obj{t:Bool}{h:Heap}{it a:Addr}{i:Nat}(x:ItH t h it a i):∃o,h.get? it=some o/\(∀v,o.data≠ .cell v)/\o.cls≠ .type "tuple"/\o.cls≠ .type "list":=by
 cases t
 ·obtain ⟨o,ho,c,d⟩:=x
  exact⟨o,ho,(λv z=>by rw[d] at z;cases z),(λz=>by rw[c] at z;injection z with z;exact absurd z (by decide)),(λz=>by rw[c] at z;injection z with z;exact absurd z (by decide))⟩
 ·obtain ⟨o,ho,c,d⟩:=x
  exact⟨o,ho,(λv z=>by rw[d] at z;cases z),(λz=>by rw[c] at z;injection z with z;exact absurd z (by decide)),(λz=>by rw[c] at z;injection z with z;exact absurd z (by decide))⟩
theorem drawsH(t:Bool)(hh:A.handled=none)(it l:Addr)(hne:l≠it)(items:Array Value):Draws prog w A it [it,l] items.size (λi v=>items[i]?=some v) (λi h=>ItH t h it l i/\SqH t h l items):=by
 cases t
 ·exact Draws.list hh it l hne items
 ·exact draws_tuple hh it l hne items
noncomputable abbrev zoU(h:Heap)(t1:Bool)(l1:Addr):Heap:=h.push (itO t1 l1)
noncomputable abbrev zoW(h:Heap)(t1 t2:Bool)(l1 l2:Addr):Heap:=(zoU h t1 l1).push (itO t2 l2)
noncomputable abbrev znW(h:Heap)(t1 t2:Bool)(l1 l2:Addr):Heap:=(zoW h t1 t2 l1 l2).push {cls:= .type "tuple",data:= .seq #[.ref h.objs.size, .ref (zoU h t1 l1).objs.size]}
noncomputable abbrev zoO(h:Heap)(t1 t2:Bool)(l1 l2:Addr):Heap:=(znW h t1 t2 l1 l2).push {cls:= .type "tuple",data:= .seq #[.none, .none]}
noncomputable abbrev zjm(h:Heap)(t1 t2:Bool)(l1 l2:Addr):Heap:=(zoO h t1 t2 l1 l2).push {cls:= .type "zip",data:= .fields #[.none, .bool false, .bool false, .ref (zoW h t1 t2 l1 l2).objs.size, .ref (znW h t1 t2 l1 l2).objs.size]}
theorem zmA(t1 t2:Bool)(l1 l2:Addr)(xs ys:Array Value):
 Meets (Builtin.«zip.__new__» ⟨[.type "zip", .ref l1, .ref l2],[]⟩) (λ_ R s=>SqH t1 s.heap l1 xs/\SqH t2 s.heap l2 ys/\
  R (.ok (.ret (.ref (zoO s.heap t1 t2 l1 l2).objs.size))) {s with heap:=zjm s.heap t1 t2 l1 l2}):=
 .of_wp λprog w A R s h=>by
  obtain⟨hp,g,d,tk,os⟩:=s;obtain⟨hl1,hl2,h⟩:=h
  have hsub:=sub_zip
  cases t1<;>cases t2
  ·have hL1:Heap.IsList (Shared.heap ⟨hp,g,d,tk,os⟩) l1 xs:=hl1
   have hL2:Heap.IsList (Shared.heap ⟨hp.push {cls:= .type "list_iterator",data:= .fields #[.ref l1, .int 0 0]},g,d,tk,os⟩) l2 ys:=Heap.IsList.push hl2 _
   wp_walk using wpAny_pyIter_list hL1,wpAny_pyIter_list hL2
   exact⟨_,rfl,h⟩
  ·have hL1:Heap.IsList (Shared.heap ⟨hp,g,d,tk,os⟩) l1 xs:=hl1
   have hL2:Heap.IsTuple (Shared.heap ⟨hp.push {cls:= .type "list_iterator",data:= .fields #[.ref l1, .int 0 0]},g,d,tk,os⟩) l2 ys:=(show Heap.IsTuple _ l2 ys from hl2).at λo e=>ζc _ e
   wp_walk using wpAny_pyIter_list hL1,wpAny_pyIter_tuple hL2
   exact⟨_,rfl,h⟩
  ·have hL1:Heap.IsTuple (Shared.heap ⟨hp,g,d,tk,os⟩) l1 xs:=hl1
   have hL2:Heap.IsList (Shared.heap ⟨hp.push {cls:= .type "tuple_iterator",data:= .fields #[.ref l1, .int 0 0]},g,d,tk,os⟩) l2 ys:=Heap.IsList.push hl2 _
   wp_walk using wpAny_pyIter_tuple hL1,wpAny_pyIter_list hL2
   exact⟨_,rfl,h⟩
  ·have hL1:Heap.IsTuple (Shared.heap ⟨hp,g,d,tk,os⟩) l1 xs:=hl1
   have hL2:Heap.IsTuple (Shared.heap ⟨hp.push {cls:= .type "tuple_iterator",data:= .fields #[.ref l1, .int 0 0]},g,d,tk,os⟩) l2 ys:=(show Heap.IsTuple _ l2 ys from hl2).at λo e=>ζc _ e
   wp_walk using wpAny_pyIter_tuple hL1,wpAny_pyIter_tuple hL2
   exact⟨_,rfl,h⟩
theorem ItH.new{t:Bool}{h:Heap}{it a:Addr}(e:h.get? it=some (itO t a)):ItH t h it a 0:=by
 cases t
 ·exact ⟨_,e,rfl,rfl⟩
 ·exact ⟨_,e,rfl,rfl⟩
theorem call_zp{t1 t2:Bool}{l1 l2:Addr}{xs ys:Array Value}{Q:Value->Shared->Prop}(hl1:SqH t1 s.heap l1 xs)(hl2:SqH t2 s.heap l2 ys)
 (h:∀h',IsZip h' (s.heap.objs.size+4) (s.heap.objs.size+2) (s.heap.objs.size+3) .none->IsPair h' (s.heap.objs.size+2) (.ref s.heap.objs.size) (.ref (s.heap.objs.size+1))->
   IsPair h' (s.heap.objs.size+3) .none .none->ItH t1 h' s.heap.objs.size l1 0->ItH t2 h' (s.heap.objs.size+1) l2 0->h'.objs.size=s.heap.objs.size+5->
   (∀c o,s.heap.get? c=some o->h'.get? c=some o)->Q (.ref (s.heap.objs.size+4)) {s with heap:=h'}):
 wpAny (model prog w) A (call (.type "zip") [.ref l1, .ref l2]) Q E s:=by
 refine callType_new PySem.F.called_zip (by decide) (PySem.F.typeCall_zip_2 _ _) (PySem.F.newCall_zip_2 _ _) (λobj=>PySem.F.args_object_init_3 obj _ _) PySem.F.entry_zip_new
  (zmA t1 t2 l1 l2 xs ys) ⟨hl1,hl2,?_⟩
 have z1:(zoU s.heap t1 l1).objs.size=s.heap.objs.size+1:=Heap.size_push ..
 have z2:(zoW s.heap t1 t2 l1 l2).objs.size=s.heap.objs.size+2:=by rw[Heap.size_push,z1]
 have z3:(znW s.heap t1 t2 l1 l2).objs.size=s.heap.objs.size+3:=by rw[Heap.size_push,z2]
 have z4:(zoO s.heap t1 t2 l1 l2).objs.size=s.heap.objs.size+4:=by rw[Heap.size_push,z3]
 have z5:(zjm s.heap t1 t2 l1 l2).objs.size=s.heap.objs.size+5:=by rw[Heap.size_push,z4]
 have g5:(zjm s.heap t1 t2 l1 l2).get? (zoO s.heap t1 t2 l1 l2).objs.size=some _:=ζj _ rfl
 have g4:(zjm s.heap t1 t2 l1 l2).get? (znW s.heap t1 t2 l1 l2).objs.size=some _:=ζc _ (ζj _ rfl)
 have g3:(zjm s.heap t1 t2 l1 l2).get? (zoW s.heap t1 t2 l1 l2).objs.size=some _:=ζc _ (ζc _ (ζj _ rfl))
 have g2:(zjm s.heap t1 t2 l1 l2).get? (zoU s.heap t1 l1).objs.size=some _:=ζc _ (ζc _ (ζc _ (ζj _ rfl)))
 have g1:(zjm s.heap t1 t2 l1 l2).get? s.heap.objs.size=some _:=ζc _ (ζc _ (ζc _ (ζc _ (ζj _ rfl))))
 show _/\_
 rw[z2,z3,z4] at g5
 rw[z1,z2] at g3
 rw[z3] at g4
 rw[z1] at g2
 rw[z4]
 exact⟨⟨_,g5,rfl⟩,h _ g5 g3 g4 (ItH.new g1) (ItH.new g2) z5 λc o x=>
  ζc _ (ζc _ (ζc _ (ζc _ (ζc _ x))))⟩
end
end HT
namespace L2
open PySem PySem.Spec PyProof.Rows
section
variable{X:Cx}{K:PySem.W.Frag}
def SqZ(t:Bool)(H:Hp)(a:Addr)(xs:List V):Prop:=if t then H a=some (.tup xs)else H a=some (.lst xs)
theorem SqZ.some{t:Bool}{H:Hp}{a:Addr}{xs:List V}(h:SqZ t H a xs):∃o,H a=some o:=by cases t<;>exact ⟨_,h⟩
theorem SqZ.inj{t:Bool}{H:Hp}{a:Addr}{xs ys:List V}(h:SqZ t H a xs)(g:SqZ t H a ys):xs=ys:=by
 cases t
 ·have e:=(show H a=Option.some (.lst xs)from h).symm.trans (show H a=Option.some (.lst ys)from g);cases e;rfl
 ·have e:=(show H a=Option.some (.tup xs)from h).symm.trans (show H a=Option.some (.tup ys)from g);cases e;rfl
theorem zfg{pins:List (Addr×Obj)}{σ:St}{H:Hp}{s:Shared}{t:Bool}{a:Addr}{xs:List V}(I:Inv X pins σ H s)(h:SqZ t H a xs):∃its:List Value,Vals xs its/\HT.SqH t s.heap a its.toArray:=by
 cases t
 ·obtain ⟨its,rv,p,_⟩:=I.list (SqL.of (show H a=Option.some (.lst xs)from h));exact⟨its,rv,p.isList⟩
 ·obtain ⟨its,rv,p,_⟩:=I.tuple (show SqT X.K H a xs from .inl (.inl (show H a=Option.some (.tup xs)from h)));exact⟨its,rv,p⟩
noncomputable def Itz(t1 t2:Bool)(a b:Addr)(n:Nat):It:=
 ⟨λi H=>∃xs ys x y,SqZ t1 H a xs/\SqZ t2 H b ys/\min xs.length ys.length=n/\xs[i]?=some x/\ys[i]?=some y,
  λi H x H'=>∃T xs ys u v,SqZ t1 H a xs/\SqZ t2 H b ys/\x= .ref T/\H T=none/\xs[i]?=some u/\ys[i]?=some v/\H'=upd H T (.tup [u,v]),
  λi H=>∃xs ys,SqZ t1 H a xs/\SqZ t2 H b ys/\min xs.length ys.length=n/\n<=i⟩
structure ZpA(z TI TO i1 i2:Addr):Prop where
 TIz:TI≠z
 TOz:TO≠z
 i1z:i1≠z
 i2z:i2≠z
 TITO:TI≠TO
 TIi1:TI≠i1
 TIi2:TI≠i2
 TOi1:TO≠i1
 TOi2:TO≠i2
 i12:i1≠i2
theorem ZpA.apart{z TI TO i1 i2 l1 l2:Addr}(Z:ZpA z TI TO i1 i2){H:Hp}(hf:∀b∈ [z,TI,TO,i1,i2],H b=none)(h1:∃o,H l1=some o)(h2:∃o,H l2=some o):ZipApart z TI TO i1 i2 l1 l2:=by
 have n1:∀b∈ [z,TI,TO,i1,i2],l1≠b:=λb hb e=>by obtain⟨o,h⟩:=h1;rw[e,hf b hb] at h;cases h
 have n2:∀b∈ [z,TI,TO,i1,i2],l2≠b:=λb hb e=>by obtain⟨o,h⟩:=h2;rw[e,hf b hb] at h;cases h
 exact⟨Z.TIz,Z.TOz,Z.i1z,Z.i2z,Z.TITO,Z.TIi1,Z.TIi2,Z.TOi1,Z.TOi2,Z.i12,n1 _ (by simp),n1 _ (by simp),n1 _ (by simp),n1 _ (by simp),n2 _ (by simp),n2 _ (by simp),n2 _ (by simp),n2 _ (by simp)⟩
theorem Inv.stepF{pins:List (Addr×Obj)}{σ:St}{H:Hp}{s:Shared}{fp:List Addr}{h2:Heap}{tk:Nat}(I:Inv X pins σ H s)(hf:∀b∈fp,ze2 X pins H b)(kk:∀b o,b∉fp->s.heap.get? b=some o->h2.get? b=some o):
 Inv X pins σ H {s with heap:=h2,toks:=tk}:=by
 refine Inv.step (s:=s) (h':=h2) (t':=tk) (g':=s.gens) (d':=s.drawn) (ch:=fp) I (λb hb=>?_) (λb o _ _ hc e' _=>kk b o hc e') (λb o _ _ hc e' _=>⟨o.slots,kk b o hc e'⟩) (λ_ _ _ _ z=>z) (λb o hc e'=>⟨o,kk b o hc e'⟩) (λ_ _ z=>z) (λ_ _ _ z=>z) (λb ps z=>⟨#[],by rw[z];simp⟩) (λm hm=>?_) (λb u' z=>?_) I.bare
 ·obtain ⟨f0,f1,f2,f3,f4,f5⟩:=hf b hb
  exact⟨f3,f1,f4,f5⟩
 ·obtain ⟨o,es,ep,ho,r⟩:=hm
  exact⟨o,es,ep,kk _ o (λz=>(hf _ z).2.1 rfl) ho,r⟩
 ·refine (I.hok b u' z).stay (λc v hc q=>kk c v (λy=>?_) q) (λc q=>q) λc xs q=>q
  have:∃u2,H c=some u2:=by
   rcases hc with rfl|hc
   ·exact ⟨_,z⟩
   ·exact ⟨_,hc⟩
  obtain⟨u2,hu2⟩:=this
  rw[(hf c y).1] at hu2;cases hu2
theorem znL{P:Program}{w:World}{K:PySem.W.Frag}{elts:List Expr}{k:Nat}{pos:Pos}{t1 t2:Bool}(a b z TI TO i1 i2:Addr)(n:Nat)(Z:ZpA z TI TO i1 i2):
 Turn P w K (.Tuple elts k pos) (Itz t1 t2 a b n) [z,TI,TO,i1,i2] z (λi h=>i<=n/\IsZip h z TI TO .none/\IsPair h TI (.ref i1) (.ref i2)/\(∃x y,IsPair h TO x y)/\HT.ItH t1 h i1 a i/\HT.ItH t2 h i2 b i) where
 mem:=by simp
 obj:=λi h st c hc=>by
  obtain⟨_,hz,hTI,⟨x,y,hTO⟩,h1,h2⟩:=st
  simp only[List.mem_cons,List.not_mem_nil,or_false] at hc
  rcases hc with rfl|rfl|rfl|rfl|rfl
  ·exact ⟨_,hz,λv e=>by cases e⟩
  ·exact ⟨_,hTI,λv e=>by cases e⟩
  ·exact ⟨_,hTO,λv e=>by cases e⟩
  ·obtain ⟨o,ho,d,_⟩:=h1.obj;exact⟨o,ho,d⟩
  ·obtain ⟨o,ho,d,_⟩:=h2.obj;exact⟨o,ho,d⟩
 keep:=λi h h' st kk=>by
  obtain⟨l,hz,hTI,⟨x,y,hTO⟩,h1,h2⟩:=st
  exact⟨l,kk _ (by simp) _ hz,kk _ (by simp) _ hTI,⟨x,y,kk _ (by simp) _ hTO⟩,h1.at λo e=>kk _ (by simp) o e,h2.at λo e=>kk _ (by simp) o e⟩
 item:=by
  intro X hP hw hK hc i pins s σ H E I hf st hg
  subst hP hw hK
  obtain⟨xs,ys,x,y,hq1,hq2,hn,hx,hy⟩:=hg
  obtain⟨it1,rv1,p1⟩:=zfg I hq1
  obtain⟨it2,rv2,p2⟩:=zfg I hq2
  obtain⟨u1,hu1,ru1⟩:=rv1.get hx
  obtain⟨u2,hu2,ru2⟩:=rv2.get hy
  have hf0:∀c∈ [z,TI,TO,i1,i2],H c=none:=λc hc=>(hf c hc).1
  have D:=Z.apart hf0 hq1.some hq2.some
  obtain⟨hin,hz,hTI,⟨x0,y0,hTO⟩,h1,h2⟩:=st
  have L1:i<it1.toArray.size:=by
   rcases ξa i it1.length with q|q
   ·simpa using q
   ·rw[ζi q] at hu1;cases hu1
  have L2':i<it2.toArray.size:=by
   rcases ξa i it2.length with q|q
   ·simpa using q
   ·rw[ζi q] at hu2;cases hu2
  have hT:s.TypeIs (.ref z) "zip":=⟨_,hz,rfl⟩
  unfold pyNext
  refine ζb (wpAny_attempt (wpAny_callSpecial?_slot (name:=Str.ofString "__next__") hT PySem.F.slot_zip_next (wpAny_call_entry PySem.F.slot_zip_next hT PySem.F.entry_zip_next
   (HT.zip_itemD D (HT.drawsH (A:=X.A.in1) t1 (I.ok.hd hc) i1 a D.l1i1 it1.toArray) (HT.drawsH (A:=X.A.in1) t2 (I.ok.hd hc) i2 b D.l2i2 it2.toArray) hz hTI hTO ⟨h1,p1⟩ ⟨h2,p2⟩ L1 L2' λx' y' h' tk hx' hy' az ao a1 a2 aT asz hk=>?_) (PySem.F.args_zip_next_1 _))))
  refine ζs ?_
  obtain⟨T,hTT⟩:∃T,T=s.heap.objs.size:=⟨_,rfl⟩
  rw[←hTT] at az aT⊢
  have e1:x'=u1:=by
   have:it1.toArray[i]?=some u1:=by simpa using hu1
   rw[this] at hx';exact(ξj hx').symm
  have e2:y'=u2:=by
   have:it2.toArray[i]?=some u2:=by simpa using hu2
   rw[this] at hy';exact(ξj hy').symm
  subst e1 e2
  refine⟨_,rfl,wpAny_letOwnedTupleGo_zip az λh2' hz2 hs2=>?_⟩
  have ltT:∀{c o},s.heap.get? c=some o->c≠T:=λq e=>by
   have:=ζn q
   rw[e,hTT] at this
   exact absurd this (Nat.lt_irrefl _)
  have nTz:T≠z:=Ne.symm (ltT hz)
  have hT2:h2'.get? T=some {cls:= .type "tuple",data:= .seq #[x',y']}:=hs2.extBut _ _ nTz aT
  have fT:H T=none:=I.hok.fresh (Nat.le_of_eq hTT.symm)
  have kk:∀c o,c∉ [z,TI,TO,i1,i2]->s.heap.get? c=some o->h2'.get? c=some o:=λc o hc e=>hs2.extBut _ _ (λq=>hc (by simp[q])) (hk c o (λq=>hc (by simp[q])) (λq=>hc (by simp[q])) (λq=>hc (by simp[q])) (λq=>hc (by simp[q])) e)
  have nT:T∉ [z,TI,TO,i1,i2]:=λq=>by
   simp only[List.mem_cons,List.not_mem_nil,or_false] at q
   rcases q with q|q|q|q|q
   ·exact nTz q
   ·exact ltT hTI q.symm
   ·exact ltT hTO q.symm
   ·obtain ⟨o,ho,_⟩:=h1.obj;exact ltT ho q.symm
   ·obtain ⟨o,ho,_⟩:=h2.obj;exact ltT ho q.symm
  have neT:∀{c u'},H c=some u'->c≠T:=λq e=>by rw[e,fT] at q;cases q
  refine⟨.ref T,upd H T (.tup [x,y]),?_,rfl,⟨T,xs,ys,x,y,hq1,hq2,rfl,fT,hx,hy,rfl⟩,⟨?_,hz2,hs2.extBut _ _ Z.TIz (hk _ _ Z.TIz Z.TITO Z.TIi1 Z.TIi2 hTI),⟨_,_,hs2.extBut _ _ Z.TOz ao⟩,a1.1.at λo e=>hs2.extBut _ _ Z.i1z e,a2.1.at λo e=>hs2.extBut _ _ Z.i2z e⟩,λc hc=>?_⟩
  ·show Inv X pins σ _ {s with heap:=h2',gens:=s.gens,drawn:=s.drawn,toks:=tk}
   refine Inv.step (s:=s) (h':=h2') (t':=tk) (g':=s.gens) (d':=s.drawn) (ch:=[z,TI,TO,i1,i2]) I (λc hc=>?_) (λc o _ _ hc e' _=>kk c o hc e') (λc o _ _ hc e' _=>⟨o.slots,kk c o hc e'⟩) (λc o _ e' q=>by rw[zr (ltT e')];exact q) (λc o hc e'=>⟨o,kk c o hc e'⟩) (λc xs q=>by rw[zr (neT q)];exact q) (λc o u' q=>by rw[zr (neT q)];exact q) (λc ps q=>⟨#[],by rw[zr (neT q),q];simp⟩) (λm hm=>?_) (λc u' q=>?_) I.bare
   ·obtain ⟨f0,f1,f2,f3,f4,f5⟩:=hf c hc
    exact⟨f3,f1,f4,f5⟩
   ·obtain ⟨o,es,ep,ho,r⟩:=hm
    exact⟨o,es,ep,kk _ o (λq=>(hf _ q).2.1 rfl) ho,r⟩
   ·by_cases hb:c=T
    ·subst hb
     rw[zd] at q
     cases q
     exact⟨few rfl,[x',y'], .cons ru1 (.cons ru2 .nil),⟨_,hT2,rfl,_,rfl⟩,λo q=>by rw[hT2] at q;cases q;rfl⟩
    ·rw[zr hb] at q
     refine(I.hok c u' q).stay (λd v hd q'=>kk d v (λy'=>?_) q') (λd q'=>by rw[zr (neT q')];exact q') λd xs q'=>by rw[zr (neT q')];exact q'
     have:∃u2,H d=some u2:=by
      rcases hd with rfl|hd
      ·exact ⟨_,q⟩
      ·exact ⟨_,hd⟩
     obtain⟨u2,hu2⟩:=this
     rw[hf0 d y'] at hu2;cases hu2
  ·have m1:i<xs.length:=by
    rcases ξa i xs.length with q|q
    ·exact q
    ·rw[ζi q] at hx;cases hx
   have m2:i<ys.length:=by
    rcases ξa i ys.length with q|q
    ·exact q
    ·rw[ζi q] at hy;cases hy
   rw[←hn]
   exact Nat.lt_min.mpr ⟨m1,m2⟩
  ·have:c≠T:=λq=>nT (by rw[←q];exact hc)
   rw[zr this]
   exact(hf c hc).1
 done:=by
   intro X hP hw hK hc i pins s σ H E I hf st hg
   subst hP hw hK
   obtain⟨xs,ys,hq1,hq2,hn,hle⟩:=hg
   obtain⟨it1,rv1,p1⟩:=zfg I hq1
   obtain⟨it2,rv2,p2⟩:=zfg I hq2
   have hf0:∀c∈ [z,TI,TO,i1,i2],H c=none:=λc hc=>(hf c hc).1
   have D:=Z.apart hf0 hq1.some hq2.some
   obtain⟨hin,hz,hTI,⟨x0,y0,hTO⟩,h1,h2⟩:=st
   have ei:i=min xs.length ys.length:=by omega
   have l1:=rv1.length
   have l2:=rv2.length
   have hend:i=it1.toArray.size\/(i<it1.toArray.size/\i=it2.toArray.size):=by
    simp only[ζv]
    rcases ξa ys.length xs.length with q|q
    ·exact .inr ⟨by omega,by omega⟩
    ·exact .inl (by omega)
   have hT:s.TypeIs (.ref z) "zip":=⟨_,hz,rfl⟩
   unfold pyNext
   refine ζb (wpAny_attempt (wpAny_callSpecial?_slot (name:=Str.ofString "__next__") hT PySem.F.slot_zip_next (wpAny_call_entry PySem.F.slot_zip_next hT PySem.F.entry_zip_next
    (HT.zip_endD D (HT.drawsH (A:=X.A.in1) t1 (I.ok.hd hc) i1 a D.l1i1 it1.toArray) (HT.drawsH (A:=X.A.in1) t2 (I.ok.hd hc) i2 b D.l2i2 it2.toArray) hz hTI hTO ⟨h1,p1⟩ ⟨h2,p2⟩ hend λh' tk e hk he=>?_) (PySem.F.args_zip_next_1 _))))
   obtain⟨o,ho,hce⟩:=he
   refine ζb (wpAny_isInstance (T:="StopIteration") (b:=true) ⟨o,ho,hce⟩ isSubtype_stop ?_)
   refine ζs ⟨rfl,I.stepF (fp:=[z,TI,TO,i1,i2]) hf λc o hc e=>hk c o (λq=>hc (by simp[q])) (λq=>hc (by simp[q])) (λq=>hc (by simp[q])) (λq=>hc (by simp[q])) e⟩
 self:=λA i s Q E st h=>wpAny_pyIter_zip st.2.1 h
noncomputable def zrq(ta:TA):TI:=λσ H R=>ta σ H λvs H1=>∃a b t1 t2 xs ys,vs=[.ref a, .ref b]/\SqZ t1 H1 a xs/\SqZ t2 H1 b ys/\R (Itz t1 t2 a b (min xs.length ys.length)) H1
theorem zmX:bootBuiltins "zip"=some (.type "zip"):=by kernel_rfl
theorem zq9{elts:List Expr}{k:Nat}{pos2:Pos}{a b:Expr}{ta:TA}{p pos:Pos}(hm:X.mg "zip"=none)(ha:QA X [a,b] ta)(hg:Gl X "zip":=by rfl)(hs:starEach [a,b] X.env=[(false,eval a X.env),(false,eval b X.env)]:=by rfl)(hs2:starEach [b] X.env=[(false,eval b X.env)]:=by rfl):QI X (.Tuple elts k pos2) (.Call (.Name "zip" p) [a,b] [] pos) (zrq ta):=⟨by
 intro pins s σ H R I h
 refine Call_ (zdY I hg hm zmX (PyProof.Rows.callWith_type1 (thn (ha.o pos pins s σ H _ I h) λus s1 ⟨vs,H1,I1,r1,q1⟩=>?_) (by rw[hs,hs2]) (by rw[hs2];rfl)))
 obtain⟨l1,l2,t1,t2,xs,ys,rfl,hq1,hq2,q⟩:=q1
 obtain⟨u,v,rfl,ru,rv⟩:=zgT r1
 cases ru
 cases rv
 obtain⟨it1,rv1,p1⟩:=zfg I1 hq1
 obtain⟨it2,rv2,p2⟩:=zfg I1 hq2
 refine HT.call_zp p1 p2 λh' hz hTI hTO hi1 hi2 hsz kk=>?_
 have Z:ZpA (s1.heap.objs.size+4) (s1.heap.objs.size+2) (s1.heap.objs.size+3) s1.heap.objs.size (s1.heap.objs.size+1):=by constructor<;>(intro e;have e':(_:Nat)=_:=e;omega)
 refine wpAny_pyIter_zip hz ?_
 refine⟨s1.heap.objs.size+4,[s1.heap.objs.size+4,s1.heap.objs.size+2,s1.heap.objs.size+3,s1.heap.objs.size,s1.heap.objs.size+1],_,_,H1,rfl,I1.kept (t':=s1.toks) kk,znL l1 l2 _ _ _ _ _ (min xs.length ys.length) Z,⟨ξk _,hz,hTI,⟨_,_,hTO⟩,hi1,hi2⟩,λc hc=>?_,q⟩
 have hb':s1.heap.objs.size<=c:=by
  simp only[List.mem_cons,List.not_mem_nil,or_false] at hc
  rcases hc with e|e|e|e|e<;>(have e':(c:Nat)=_:=e;rw[e'];first|exact ζu _|exact Nat.le_add_right _ _)
 exact I1.fpOk hb' (I1.hok.fresh hb')⟩
theorem zoT{J:It}{n:Nat}{g:TG}{tb:TS}{D:Ends}{σ:St}{H:Hp}(Pv:Nat->St->Hp->Prop)(h0:Pv 0 σ H)(hgo:∀i σ H,i<n->Pv i σ H->J.go i H)(hst:∀σ H,Pv n σ H->J.stop n H)
 (hs:∀i x σ H H1,i<n->Pv i σ H->J.yld i H x H1->g x σ H1 λσ2 H2=>tb {D with nx:=Pv (i+1),ct:=Pv (i+1),bk:=D.nx} σ2 H2) (hd:∀σ H,Pv n σ H->D.nx σ H):zmv g tb D σ J H:=by
 refine⟨λi m σ H=>m=n -i/\i<=n/\Pv i σ H,⟨n,by simp,ξk _,h0⟩,?_⟩
 rintro i m σ H ⟨rfl,hi,p⟩
 by_cases hlt:i<n
 ·exact .inr ⟨hgo i σ H hlt p,Pv (i+1),λσ' H' q=>⟨n -(i+1),by omega,rfl,hlt,q⟩,λx H' y=>hs i x σ H H' hlt p y⟩
 ·have e:i=n:=by omega
  subst e
  exact .inl ⟨hst σ H p,hd σ H p⟩
theorem zne{J:It}{n:Nat}{g:TG}{tc:TT}{te:TE}{src:List (Option Nat)}{σ:St}{H1:Hp}{Q:VK}(Pv:Addr->Nat->List V->St->Hp->Prop)
 (h0:∀l,H1 l=none->Pv l 0 [] (zel src σ) (upd H1 l (.lst []))) (hgo:∀l i ys σ H,H1 l=none->i<n->Pv l i ys σ H->J.go i H) (hst:∀l ys σ H,H1 l=none->Pv l n ys σ H->J.stop n H)
 (hs:∀l i x ys σ H H2,H1 l=none->i<n->Pv l i ys σ H->H l=some (.lst ys)->J.yld i H x H2->g x σ H2 λσ2 H3=>tc σ2 H3 λb H4=>
   if b=true then te σ2 H4 λy H5=>H5 l=some (.lst ys)/\ys.length<sizeLine/\Pv l (i+1) (ys ++ [y]) σ2 (upd H5 l (.lst (ys ++ [y])))else H4 l=some (.lst ys)/\Pv l (i+1) ys σ2 H4)
 (hd:∀l ys σ H,H1 l=none->Pv l n ys σ H->H l=some (.lst ys)->Q (.ref l) H):zcN g tc te src σ Q J H1:=by
 intro l hl
 refine⟨λi m ys σ H=>m=n -i/\i<=n/\Pv l i ys σ H,⟨n,by simp,ξk _,h0 l hl⟩,?_⟩
 rintro i m ys σ' H' ⟨rfl,hi,p⟩ hl'
 by_cases hlt:i<n
 ·exact .inr ⟨hgo l i ys σ' H' hl hlt p,Pv l (i+1),λzs σ2 H2 q=>⟨n -(i+1),by omega,rfl,hlt,q⟩,λx H2 y=>hs l i x ys σ' H' H2 hl hlt p hl' y⟩
 ·have e:i=n:=by omega
  subst e
  exact .inl ⟨hst l ys σ' H' hl p,hd l ys σ' H' hl p hl'⟩
end
section
variable{prog:Program}{w:World}{A:Around}{R:Result->Shared->Prop}{s:Shared}{elt t1 i1 t2 i2:Expr}{f1 f2:List Expr}{scope:Scope}{pos:Pos}{it acc:Value}{env:Env}
end
section
variable{X:Cx}{elt tg iter tg2 iter2:Expr}{ifs ifs2:List Expr}{scope osc:Scope}{pos:Pos}{N':List Str}{src:List (Option Nat)}{wi wi2:TI}{g g2:TG}{tc tc2:TT}{te:TE}
end
def zqW(v:V)(y:Str):Prop:=v= .str y\/∃i:Int,v= .int i/\y=(toString i:String)/\i.natAbs.log2<1920
section
variable{X:Cx}{e:Expr}{te:TE}{pos:Pos}{es:List Expr}{ts:List TE}
structure QP1(X:Cx)(e:Expr)(te:TE):Prop where
 o:∀(pins:List (Addr×Obj)) (s:Shared) (σ:St) (H:Hp) (Q:Str->Hp->Prop),Inv X pins σ H s->(te σ H λv H1=>∃y,zqW v y/\y.length<=sizeLine/\Q y H1)->
  wpAny (model X.prog X.w) X.A (eval e X.env) (λu s1=>∃y t H1,u= .str y t/\Inv X pins σ H1 s1/\Q y H1) X.xe s
inductive QJ(X:Cx):List Expr->List TE->Prop
 |nil:QJ X [] []
 |cons {e:Expr} {t:TE} {es:List Expr} {ts:List TE} (h:QP1 X e t) (r:QJ X es ts):QJ X (e::es) (t::ts)
end
section
variable{prog:Program}{w:World}{A:Around}{E:Value->Shared->Prop}{s:Shared}
end
section
variable{X:Cx}
end
end L2
namespace RW
open PySem PySem.Spec PyProof.Rows L2
end RW
namespace L2
open PySem PySem.Spec PyProof.Rows
section
variable{X:Cx}{K:PySem.W.Frag}
end
end L2
namespace RW
open PySem PySem.Spec PyProof.Rows L2
end RW
namespace HT
open PySem PySem.Spec PyProof.Rows L2
section
variable{prog:Program}{w:World}{A:Around}{E:Value->Shared->Prop}{s:Shared}
end
section
variable{prog:Program}{w:World}{A:Around}{E:Value->Shared->Prop}{s:Shared}{K:Type}[DecidableEq K]{knd:KeyKind prog w K}
structure DzAt(h:Heap)(knd:KeyKind prog w K)(t1 t2:Bool)(z TI i1 i2 l1 l2 d:Addr)(xs ys:Array Value)(kvs:List (K×Value))(i:Nat):Prop where
 TI:IsPair h TI (.ref i1) (.ref i2)
 p1:ItH t1 h i1 l1 i
 p2:ItH t2 h i2 l2 i
 q1:SqH t1 h l1 xs
 q2:SqH t2 h l2 ys
 dd:h.DictOf knd d kvs
structure DzD(z TI TO i1 i2 l1 l2 d:Addr):Prop extends ZipApart z TI TO i1 i2 l1 l2 where
 dz:d≠z
 dTI:d≠TI
 di1:d≠i1
 di2:d≠i2
 dl1:d≠l1
 dl2:d≠l2
 TIl1:True
end
end HT
namespace L2
open PySem PySem.Spec PyProof.Rows
section
variable{X:Cx}
end
end L2
namespace RW
open PySem PySem.Spec PyProof.Rows L2
section
variable{X:Cx}
end
end RW
namespace RW
open PySem PySem.W PyProof.Rows L2
section
variable{N:Nat}{lt:Nat->Nat->Bool}
end
end RW
namespace L2
open PySem PySem.Spec PySem.W PyProof.Rows
def zd9(H:Hp)(vs:List V)(ps:List (List Str)):Prop:=vs.length=ps.length/\∀(i:Nat) (v:V) (p:List Str),vs[i]?=some v->ps[i]?=some p->∃b,v= .ref b/\H b=some (.tup (p.map V.str))
section
variable{prog:Program}{w:World}{A:Around}{E:Value->Shared->Prop}{s:Shared}
end
section
variable{X:Cx}{K:PySem.W.Frag}
end
end L2
namespace L2
open PySem PySem.Spec PyProof.Rows
section
variable{X:Cx}{K:PySem.W.Frag}{o:Expr}{to:TE}{name:Str}{apos cpos:Pos}{T id:String}{r:V->List V->Hp->VK->Prop}
end
section
variable{X:Cx}{K:PySem.W.Frag}
end
end L2
namespace RW
open PySem PySem.Spec PyProof.Rows L2
noncomputable def tD(xs:List Str):D:= .tup (xs.map D.str)
noncomputable def znZ:List Str->Bool
 |[a,b,w]=>zi a&&zi b&&(if w="equal"then ltS a b else decide (w="over")&&!decide (a=b))
 |_=>false
theorem zeM(xs:List Str):zfr (tD xs)=xs:=strs_map xs
noncomputable def zjD(r:List Str):List Str:=srt (r.take 2)
structure KinOk(rs:List (List Str)):Prop where
 row:∀r∈rs,znZ r=true
 rise:rs.Pairwise (λa b=>ltL a b=true)
 ties:(rs.map zjD).Nodup
noncomputable def pr(a b:Str):List Str:=srt [a,b]
noncomputable abbrev at_(xs:List Str)(i:Nat):Str:=xs.getD i ""
structure KD62(xs:List Str)(ps:List (Nat×Nat))(k:Nat)(rs:List (List Str)):Prop where
 row:∀r∈rs,znZ r=true
 nd:(rs.map zjD).Nodup
 few:rs.length<=k
 old:∀r∈rs,∃q∈ps.take k,q.1<q.2/\zjD r=pr (at_ xs q.1) (at_ xs q.2)
section
variable{te tf:TE}{ta:TA}{σ:L2.St}{H:Hp}{P P':D->Prop}{d:D}{ds:List D}{n:Nat}{K:PySem.W.Frag}
end
end RW
namespace HT
open PySem PySem.Spec PyProof.Rows L2
section
variable{prog:Program}{w:World}{A:Around}{E:Value->Shared->Prop}{s:Shared}
end
end HT
namespace L2
open PySem PySem.Spec PyProof.Rows
noncomputable def zoN(n:Nat):It:=⟨λi _=>i<n,λi H x H'=>H'=H/\x= .int ((n:Int) -1 -i),λi _=>n<=i⟩
theorem zkz{n:Nat}:Wk (zoN n) n (λi x=>x= .int ((n:Int) -1 -i)) (λ_=>True) where
 stop:=λi H h l=>l
 go:=λi H h l=>l
 yld:=λi H x H' h l y=>y
theorem zlL{P:Program}{w:World}{K:PySem.W.Frag}{tg:Expr}(it:Addr)(n:Nat):Turn P w K tg (zoN n) [it] it (λi h=>IsRangeIter h it ((n:Int) -1+(i:Nat)*(-1)) ((n:Int) -(i:Nat)) (-1)) where
 mem:=by simp
 obj:=λi h st b hb=>by
  have e:b=it:=by simpa using hb
  subst e
  exact⟨_,st,λv z=>by
   have z':Data.fields _=Data.cell v:=z
   cases z'⟩
 keep:=λi h h' st k=>k it (by simp) _ st
 item:=by
  intro X hP hw hK hc i pins s σ H E I hf st hg
  subst hP hw hK
  obtain⟨f0,f1,f2,f3,f4,f5⟩:=hf it (by simp)
  have W:=Walks.range (prog:=X.prog) (w:=X.w) (I.ok.hd hc) it ((n:Int) -1) (-1) n
  refine W.item i s _ _ hg st λv h' tk hv st' kk=>?_
  obtain⟨t,rfl⟩:=hv
  have I1:Inv X pins σ H {s with heap:=h',toks:=tk}:=I.turned (λb o hb e=>kk b o (by simpa using hb) e) f0 f1 f3 f4 f5
  refine⟨_,rfl,zhg (s:={s with heap:=h',toks:=tk}) (n:="range_iterator") st' rfl rfl (by decide) ⟨.int ((n:Int) -1 -i),H,I1,⟨t,?_⟩,⟨rfl,rfl⟩,st',λb hb=>(hf b hb).1⟩⟩
  congr 1
  omega
 done:=by
   intro X hP hw hK hc i pins s σ H E I hf st hg
   subst hP hw hK
   obtain⟨f0,f1,f2,f3,f4,f5⟩:=hf it (by simp)
   exact wpAny_pyNext_range_end (I.ok.hd hc) st (by have:n<=i:=hg;omega) λh' eb=>⟨rfl,I.turned (t':=s.toks) (λb o hb e=>eb b o hb e) f0 f1 f3 f4 f5⟩
 self:=λ_ _ _ _ _ st h=>wpAny_pyIter_rangeiter st h
section
variable{X:Cx}{tg:Expr}
end
section
variable{X:Cx}
theorem zqq{tg e:Expr}{te:TE}(h:QE X e te):QI X tg e (λσ H R=>zqs X.K te σ H R\/znk X.K te σ H R):=⟨λpins s σ H R I q=>by
 rcases q with q|q
 ·exact (zbZ h).o pins s σ H R I q
 ·exact (zdt h).o pins s σ H R I q⟩
end
end L2
namespace RW
open PySem PySem.Spec PyProof.Rows L2
noncomputable def zrC:D->List D| .tup rs=>rs|_=> []
noncomputable def zaa:List Str->List D->Str->List D
 |h::hs,d::ds,x=>if h=x then zrC d else zaa hs ds x
 |_,_,_=> []
theorem zfV{x:Str}{rs:List D}:∀{hs:List Str} {ds:List D} {j:Nat},hs.Nodup->hs[j]?=some x->ds[j]?=some (.tup rs)->zaa hs ds x=rs
 |[],_,j,_,h1,_=>by simp at h1
 |h::hs,[],j,_,_,h2=>by simp at h2
 |h::hs,d::ds,0,_,h1,h2=>by
  simp at h1 h2
  subst h1 h2
  rw[zaa,if_pos rfl];rfl
 |h::hs,d::ds,j+1,nd,h1,h2=>by
  simp only[List.getElem?_cons_succ] at h1 h2
  rw[List.nodup_cons] at nd
  have hne:¬h=x:=λe=>nd.1 (e▸ζl h1)
  rw[zaa,if_neg hne]
  exact zfV nd.2 h1 h2
noncomputable def zaw:D->Bool| .non=>true|_=>false
theorem zdm{H:Hp}{u:V}{d:D}(r:Rep H u d):decide (u=V.non)=zaw d:=by
 cases r<;>first|rfl|exact ζo (λz=>by cases z)
noncomputable def zmT(hs:List Str)(lks hds:List D)(y:Str)(w ms:List Str):Option (List Str):=
 match zA w (some y) (zaa hs hds (w.headD "")) ms with
 |none=>none
 |some t=>if zaw (zS (y::w) t (zaa hs lks y))=true then none else some t
noncomputable def zcM(hs:List Str)(lks hds:List D):List Str->Option (List Str)
 |[]=>some []
 |[_]=>some []
 |y::x::ws=>match zcM hs lks hds (x::ws)with
  |none=>none
  |some t=>zmT hs lks hds y (x::ws) t
structure Mr(O t:List Str):Prop extends Mk O t where
 rise:t.Pairwise (λa b=>ltS a b=true)
theorem Mr.next{O t:List Str}{w m:Str}(h:Mr O t)(hm:m∈O):Mr O (ze1 t w m):=⟨h.toMk.next hm,zmp (zg0 h.nd)⟩
theorem Mr.nil{O:List Str}:Mr O []:=⟨⟨List.nodup_nil,λ_ h=>nomatch h⟩,List.Pairwise.nil⟩
theorem zdC{O:List Str}{ws:List Str}{to:Option Str}:∀{rs:List D} {ms t:List Str},(∀r∈rs,∃cs x,r= .tup [.tup cs,x]/\(∀c∈cs,zN c=true)/\(x= .tup [.str "keep"]\/∃w m,x= .tup [.str w, .str m]/\(w="put"\/w="strike")/\m∈O))->Mr O ms->zA ws to rs ms=some t->Mr O t
 |[],ms,t,_,h,e=>by rw[zA] at e;cases e;exact h
 |r::rs,ms,t,hr,h,e=>by
  obtain⟨cs,x,rfl,_,hx⟩:=hr r ζp
  have hr':=λr h=>hr r (ξe _ h)
  rw[zA] at e
  split at e
  ·rcases hx with rfl|⟨w,m,rfl,_,hm⟩
   ·cases e
   ·exact zdC hr' (h.next hm) e
  ·exact zdC hr' h e
end RW
namespace L2
section
variable{α:Type}{P:List α->Prop}
theorem of1(h:∀a,P [a]):∀us:List α,us.length=1->P us
 |[a],_=>h a
theorem of2(h:∀a b,P [a,b]):∀us:List α,us.length=2->P us
 |[a,b],_=>h a b
theorem of3(h:∀a b c,P [a,b,c]):∀us:List α,us.length=3->P us
 |[a,b,c],_=>h a b c
theorem of4(h:∀a b c d,P [a,b,c,d]):∀us:List α,us.length=4->P us
 |[a,b,c,d],_=>h a b c d
end
end L2
namespace HT
open PySem PySem.Spec PyProof.Rows L2
section
variable{prog:Program}{w:World}{A:Around}{R:Result->Shared->Prop}{I:Addr}{fp wr:List Addr}{n:Nat}{P:Nat->Value->Prop}{St:Nat->Heap->Prop}
end
section
variable{prog:Program}{w:World}{A:Around}{E:Value->Shared->Prop}{s:Shared}
end
end HT
namespace L2
open PySem PySem.Spec PyProof.Rows
section
variable{X:Cx}
end
section
variable{X:Cx}
end
end L2
namespace L2
open PySem PySem.W PySem.Spec PyProof.Rows PyProof.V
section
variable{X:Cx}
end
end L2
namespace HT
open PySem PySem.Spec PyProof.Rows L2
section
variable{prog:Program}{w:World}{A:Around}{R:Result->Shared->Prop}{I:Addr}{fp wr:List Addr}{n:Nat}{P:Nat->Value->Prop}{St:Nat->Heap->Prop}
end
section
variable{prog:Program}{w:World}{A:Around}{E:Value->Shared->Prop}{s:Shared}
end
section
variable{prog:Program}{w:World}{A:Around}{E:Value->Shared->Prop}{s:Shared}
end
end HT
namespace L2
open PySem PySem.W PySem.Spec PyProof.Rows PyProof.V
section
variable{X:Cx}
noncomputable def StO(P:Program)(w:World)(a:Addr)(n:Nat):HO:= .ext λh=>∃f:Key->Bool,h.SetOf (zaA P w) a f n
theorem zlg:CallR X (.builtin "len") (λxs H Q=>∃(p:Addr) (n:Nat),xs=[.ref p]/\H p=some (StO X.prog X.w p n)/\n<=1000/\Q (.int (n:Int)) H):=by
 intro pins s σ H xs us Q I r h
 obtain⟨p,n,rfl,hH,h9,q⟩:=h
 obtain⟨u,rfl,ru⟩:=zdg r
 cases ru
 obtain⟨⟨f,o,es,ep,t,e,hx,hd,_,_,_,hf,en⟩,_⟩:=I.hok p _ hH
 refine call_len_set e hx hd hf (by rw[en];omega) ⟨.int n,H,I.tok _,⟨_,by rw[en]⟩,q⟩
end
end L2
namespace L2
open PySem PySem.Spec PyProof.Rows
section
variable{prog:Program}{w:World}{A:Around}{R:Result->Shared->Prop}{s:Shared}{kx vx t1 i1 t2 i2:Expr}{f1 f2:List Expr}{scope:Scope}{pos:Pos}{it acc:Value}{env:Env}{d:Addr}
end
section
variable{X:Cx}{kx vx tg iter tg2 iter2:Expr}{ifs ifs2:List Expr}{scope osc:Scope}{pos:Pos}{N':List Str}{src:List (Option Nat)}{wi wi2:TI}{g g2:TG}{tc tc2:TT}{tk tv:TE}{y:Str}{py spos:Pos}{k:Nat}
end
section
variable{X:Cx}{pos:Pos}{pins:List (Addr×Obj)}{σ:St}{H:Hp}{s:Shared}
theorem zpx:bootBuiltins "set"=some (.type "set"):=by kernel_rfl
end
end L2
namespace RW
open PySem PySem.Spec PyProof.Rows L2
structure RingG(G:Str->List Str)(xs:List Str):Prop where
 two:2<=xs.length
 ends:xs[0]?=xs[xs.length -1]?
 nd:(xs.drop 1).Nodup
 nxt:∀i a b,xs[i]?=some a->xs[i+1]?=some b->a∈G b
structure Led(H:Hp)(kvs:List (Key×V))(ks:List Str)(G:Str->List Str):Prop where
 keys:kvs.map (·.1)=ks.map Sum.inr
 nd:ks.Nodup
 at_:∀x∈ks,∃l,zeN kvs (Sum.inr x)=some (.ref l)/\H l=some (.lst ((G x).map V.str))
 sub:∀x∈ks,∀y∈G x,y∈ks
 short:∀x∈ks,x.length<=1000
 few:ks.length<=60/\∀x∈ks,(G x).length<=60
noncomputable def tol(tk:List (Key×V))(x:Str):Bool:=(zeN tk (Sum.inr x)).isSome
structure Tld63(tk:List (Key×V))(ks:List Str)(G:Str->List Str):Prop where
 opn:∀x∈ks,tol tk x=false->∃y∈G x,tol tk y=false
 sure:∀W:Str->Prop,(∀b,W b->∃a∈G b,W a)->∀b,W b->tol tk b=false
structure Peel(rs R:List (List Str)):Prop where
 sub:∀r∈R,r∈rs/\at_ r 2=("over":Str)
 out:∀W:Str->Prop,(∀b,W b->∃a,[a,b,"over"]∈rs/\W a)->∀a b,W a->W b->[a,b,"over"]∈rs->[a,b,"over"]∈R
structure LR(ks:List Str)(G:Str->List Str)(tk:List (Key×V))(ws:List Str):Prop where
 sub:∀x∈ws,x∈ks
 cov:∀x∈ks,x∈ws\/tol tk x=true
 sure:∀W:Str->Prop,(∀b,W b->∃a∈G b,W a)->∀b,W b->tol tk b=false
 inv:∀x v,zeN tk (Sum.inr x)=some v->∃n,v=V.int n
 len:tk.length+ws.length<=ks.length
structure LRi(ks:List Str)(G:Str->List Str)(tk:List (Key×V))(ws ys:List Str)(i:Nat)(fr:Bool):Prop where
 sub:∀x∈ys,x∈ks
 cov:∀x∈ks,x∈ys\/x∈ws.drop i\/tol tk x=true
 sure:∀W:Str->Prop,(∀b,W b->∃a∈G b,W a)->∀b,W b->tol tk b=false
 inv:∀x v,zeN tk (Sum.inr x)=some v->∃n,v=V.int n
 len:tk.length+ys.length+(ws.length -i)<=ks.length
 le:ys.length<=i
 lt:fr=true->ys.length<i
 opn:fr=false->∀x∈ys,∃y∈G x,tol tk y=false
structure Wlk(ks:List Str)(G:Str->List Str)(tk:List (Key×V))(row:List Str)(x:Str):Prop where
 nd:row.Nodup
 sub:∀y∈row,y∈ks
 ch:∀i a b,row[i]?=some a->row[i+1]?=some b->b∈G a
 nx:∀a,row[row.length -1]?=some a->x∈G a
 xk:x∈ks
 xu:tol tk x=false
end RW
namespace L2
open PySem PySem.Spec PyProof.Rows
end L2
namespace RW
open PySem PySem.Spec PyProof.Rows L2
structure EL(H H':Hp)(kvs:List (Key×V))(ks:List Str)(G:Str->List Str):Prop where
 keys:kvs.map (·.1)=ks.map Sum.inr
 nd:ks.Nodup
 at_:∀x∈ks,∃l,zeN kvs (Sum.inr x)=some (.ref l)/\H' l=some (.lst ((G x).map V.str))/\H l=none
 apart:∀x∈ks,∀y∈ks,∀l,zeN kvs (Sum.inr x)=some (.ref l)->zeN kvs (Sum.inr y)=some (.ref l)->x=y
noncomputable def kOf(t:List Str):List Key:=t.map Sum.inr
structure RT(H:Hp)(kvs:List (List Key×V))(rs:List (List Str)):Prop where
 len:kvs.length=rs.length
 at_:∀(j:Nat) (kv:List Key×V) (r:List Str),kvs[j]?=some kv->rs[j]?=some r->∃b,kv.1=kOf (zjD r)/\kv.2= .ref b/\H b=some (.tup (r.map V.str))
 row:∀r∈rs,znZ r=true
 nd:(rs.map zjD).Nodup
structure RG(xs:List Str)(m:Nat)(rs:List (List Str)):Prop where
 row:∀r∈rs,znZ r=true
 nd:(rs.map zjD).Nodup
 old:∀r∈rs,∃i j,i<m/\j<m/\zjD r=pr (at_ xs i) (at_ xs j)
structure MAt(K:PySem.W.Frag)(C:Addr)(x qual:Str)(st:Stmt)(ps:List Str)(f:Addr)(fd:FuncData):Prop where
 fn:Fun K x qual st f fd
 b:Binds K fd ps []
 m:Meth K C x f
end RW
namespace L2
open PySem PySem.Spec PyProof.Rows
section
variable{X:Cx}{o e value:Expr}{f m:Str}{pos pos' tpos apos:Pos}{ta tv:TE}{K:PySem.W.Frag}{es:List Expr}{t:TA}{C fa:Addr}{fd:FuncData}{CX:CXT}{k:Nat}{ps:List Str}{sp:Sp}{dvs:List V}{ds:List Value}{E:XK}
end
end L2
namespace RW
open PySem PySem.Spec PyProof.Rows L2
inductive TrC(K:PySem.W.Frag)(H:Hp):V->PyData->Prop
 |non:TrC K H .non .none
 |bl (b:Bool):TrC K H (.bl b) (.bool b)
 |int (i:Int):TrC K H (.int i) (.int i)
 |str (x:Str) (h:PyData.strOk x=true):TrC K H (.str x) (.str x)
 |tup {p:Addr} {vs:List V} {ds:List PyData} (e:SqT K H p vs) (hl:vs.length=ds.length) (h:∀(i:Nat) (v:V) (d:PyData),vs[i]?=some v->ds[i]?=some d->TrC K H v d):TrC K H (.ref p) (.tuple ds)
section
variable{X:Cx}
end
end RW
namespace L2
open PySem PySem.Spec PyProof.Rows
section
variable{X:Cx}{kx vx tg iter:Expr}{ifs:List Expr}{scope osc:Scope}{pos:Pos}{N':List Str}{src:List (Option Nat)}{wi:TI}{g:TG}{tc:TT}{tk tv:TE}
end
end L2
namespace HT
open PySem PySem.Spec PyProof.Rows L2
section
variable{prog:Program}{w:World}{A:Around}{E:Value->Shared->Prop}{s:Shared}{it d:Addr}{i ep:Nat}{ps:List (Value×Value)}
end
end HT
namespace L2
open PySem PySem.Spec PyProof.Rows
end L2
namespace HT
open PySem PySem.Spec PyProof.Rows L2
section
variable{prog:Program}{w:World}{A:Around}{E:Value->Shared->Prop}{s:Shared}
end
section
variable{prog:Program}{w:World}{A:Around}{E:Value->Shared->Prop}{s:Shared}{K:Type}[DecidableEq K]{knd:KeyKind prog w K}
end
end HT
namespace L2
open PySem PySem.Spec PyProof.Rows
section
variable{X:Cx}
inductive TwosAt(H:Hp):List Addr->List Str->List V->Prop
 |nil:TwosAt H [] [] []
 |cons {t:Addr} {x:Str} {y:V} {ts:List Addr} {hs:List Str} {ys:List V}:H t=some (.tup [.str x,y])->TwosAt H ts hs ys->TwosAt H (t::ts) (x::hs) (y::ys)
end
end L2
namespace L2
open PySem PySem.Spec PySem.W PyProof.Rows
section
variable{X:Cx}{K:PySem.W.Frag}
end
end L2
namespace L2
open PySem PySem.W PySem.Spec PyProof.Rows RW
noncomputable abbrev Ky:=Int×Int×List Str
noncomputable def zrc(k:Ky):PyData:= .tuple [.int k.1, .int k.2.1, .tuple (zaJ k.2.2)]
structure RawK(h:Heap)(b:Addr)(k:Ky):Prop where
 at_:∃p ti tn jts,IsTup h b #[.int k.1 ti, .int k.2.1 tn, .ref p]/\Vals (k.2.2.map V.str) jts/\IsTup h p jts.toArray/\(∃as,Reads h (.ref p) (.tuple (zaJ k.2.2)) as)/\(PyData.tuple (zaJ k.2.2)).canLay0=true
 rd:∃as,Reads h (.ref b) (zrc k) as
 can:(zrc k).canLay0=true
section
variable{prog:Program}{w:World}{A:Around}{E:Value->Shared->Prop}{s:Shared}
end
section
variable{X:Cx}{K:PySem.W.Frag}
end
section
variable{X:Cx}{K:PySem.W.Frag}
end
end L2
namespace L2
open PySem PySem.Spec PyProof.Rows
section
variable{X:Cx}
end
end L2
namespace RW
open PySem PySem.Spec PyProof.Rows L2
section
variable{α:Type}[DecidableEq α]{mm:α->α->α×α}
structure MM(mm:α->α->α×α):Prop where
 two:∀a b,mm a b=(a,b)\/mm a b=(b,a)
 sym:∀a b,mm a b=mm b a
noncomputable def ed(mm:α->α->α×α):List α->List (α×α)
 |a::b::r=>mm a b::ed mm (b::r)
 |_=> []
end
noncomputable def mmS(x y:Str):Str×Str:=(if ltS y x=true then y else x,if ltS x y=true then y else x)
structure SW(g:Str)(ps:List (Str×Str))(w:List Str):Prop where
 nd:w.Nodup
 last:w.getLast?=some g
 ties:∀p∈ed mmS w,p∈ps
structure WOk(hs w:List Str):Prop where
 ne:1<=w.length
 nd:w.Nodup
 mem:∀y∈w,y∈hs
structure Bf(g:Str)(hs:List Str)(ps:List (Str×Str))(ws:List (List Str))(n:Nat):Prop where
 nd:ws.Nodup
 sw:∀w∈ws,SW g ps w
 root:[g]∈ws
 src:∀y r,y::r∈ws->r≠ []->r∈ws.take n
 cl:∀y x r,x::r∈ws.take n->y∈hs->mmS y x∈ps->y∉x::r->y::x::r∈ws
structure Df(g:Str)(ps:List (Str×Str))(M:List Str->Option (List Str))(L F:List (List Str)):Prop where
 nd:L.Nodup
 fnd:F.Nodup
 fsub:∀w∈F,w∈L
 sw:∀w∈L,SW g ps w/\M w≠none
 root:[g]∈L
 src:∀y r,y::r∈L->r≠ []->r∈L/\r∉F
 cl:∀y x r,x::r∈L->x::r∉F->mmS y x∈ps->y∉x::r->M (y::x::r)≠none->y::x::r∈L
structure DfW(g:Str)(ps:List (Str×Str))(M:List Str->Option (List Str))(x:Str)(r ds:List Str)(L F:List (List Str)):Prop where
 nd:L.Nodup
 fnd:F.Nodup
 fsub:∀w∈F,w∈L
 sw:∀w∈L,SW g ps w/\M w≠none
 root:[g]∈L
 src:∀y q,y::q∈L->q≠ []->q∈L/\q∉F
 me:x::r∈L/\x::r∉F
 kids:∀y,y::x::r∈L->y∈ds
 cl:∀y a q,a::q∈L->a::q∉F->a::q≠x::r->mmS y a∈ps->y∉a::q->M (y::a::q)≠none->y::a::q∈L
 clw:∀y∈ds,y∉x::r->M (y::x::r)≠none->y::x::r∈L
section
variable{g x:Str}{ps:List (Str×Str)}{M:List Str->Option (List Str)}{r ds:List Str}{L F:List (List Str)}
end
end RW
namespace L2
open PySem PySem.Spec PyProof.Rows
section
variable{X:Cx}{pos:Pos}{pins:List (Addr×Obj)}{σ:St}{H:Hp}{s:Shared}
variable{K:PySem.W.Frag}
end
end L2
namespace RW
open PySem PySem.Spec PyProof.Rows L2
section
variable{X:Cx}
inductive ChAt(H:Hp):List (Key×V)->List (Str×Option (List Str))->Prop
 |nil:ChAt H [] []
 |cons {x:Str} {v:V} {o:Option (List Str)} {kvs:List (Key×V)} {cs:List (Str×Option (List Str))}:zpJ H v o->ChAt H kvs cs->ChAt H ((Sum.inr x,v)::kvs) ((x,o)::cs)
end
end RW
namespace HT
open PySem PySem.Spec PyProof.Rows L2
section
variable{prog:Program}{w:World}{A:Around}{E:Value->Shared->Prop}{s:Shared}
end
section
variable{prog:Program}{w:World}{A:Around}{E:Value->Shared->Prop}{s:Shared}
end
end HT
namespace L2
open PySem PySem.Spec PyProof.Rows
section
variable{X:Cx}{K:PySem.W.Frag}
end
end L2
namespace HT
open PySem PySem.Spec PyProof.Rows L2
structure Zp3(z TI TO i1 i2 i3:Addr):Prop where
 TIz:TI≠z
 TOz:TO≠z
 i1z:i1≠z
 i2z:i2≠z
 i3z:i3≠z
 TITO:TI≠TO
 TIi1:TI≠i1
 TIi2:TI≠i2
 TIi3:TI≠i3
 TOi1:TO≠i1
 TOi2:TO≠i2
 TOi3:TO≠i3
 i12:i1≠i2
 i13:i1≠i3
 i23:i2≠i3
section
variable{prog:Program}{w:World}{A:Around}{E:Value->Shared->Prop}{s:Shared}
end
section
variable{prog:Program}{w:World}{A:Around}{E:Value->Shared->Prop}{s:Shared}
end
end HT
namespace L2
open PySem PySem.Spec PyProof.Rows
section
variable{X:Cx}{K:PySem.W.Frag}
end
section
variable{X:Cx}{tg:Expr}
theorem zgU{n:Nat}:Builtin.Range.rangeSize ((n:Int) -1) (-1) (-1)=(n:Int):=by
 unfold Builtin.Range.rangeSize
 rw[if_neg (by decide)]
 split<;>first|omega|(rw[show((n:Int) -1 -(-1) -1)=(n:Int) -1 by omega];simp<;>omega)
theorem znO{pins:List (Addr×Obj)}{σ:St}{H:Hp}{s:Shared}{R:It->Hp->Prop}{E:Value->Shared->Prop}{n:Nat}{t u v:Tok}{tk:Nat}(I:Inv X pins σ H s)(hn:n<=1000)(q:R (zoN n) H):
 wpAny (model X.prog X.w) X.A (pyIter (.ref s.heap.objs.size)) (PIE X pins σ tg R) E {s with heap:=s.heap.push {cls:= .type "range",data:= .fields #[.int ((n:Int) -1) t, .int (-1) u, .int (-1) v]},toks:=tk}:=by
 have ft:∀i:Int,-(2^63)<=i->i<2^63->Builtin.Range.rangeFitsLong i=true:=λi h1 h2=>by
  unfold Builtin.Range.rangeFitsLong
  rw[ζf h1,ζf h2];rfl
 refine wpAny_pyIter_range (IsRange.new ..) ?_ ?_
 ·unfold Builtin.Range.small
  rw[zgU,ft ((n:Int) -1) (by omega) (by omega),ft (-1) (by decide) (by decide),ft (n:Int) (by omega) (by omega)]
  first|rfl|(simp[ft];done)|decide
 have I1:Inv X pins σ H {s with heap:=s.heap.push {cls:= .type "range",data:= .fields #[.int ((n:Int) -1) t, .int (-1) u, .int (-1) v]},toks:=tk}:=I.kept λb o e=>ζc _ e
 refine⟨(s.heap.push {cls:= .type "range",data:= .fields #[.int ((n:Int) -1) t, .int (-1) u, .int (-1) v]}).objs.size,[(s.heap.push {cls:= .type "range",data:= .fields #[.int ((n:Int) -1) t, .int (-1) u, .int (-1) v]}).objs.size],_,_,H,rfl,
  I1.kept (t':=tk) λb o e=>ζc _ e,zlL _ n,?_,λb hb=>?_,q⟩
 ·have e1:(n:Int) -1+((0:Nat):Int)*(-1)=(n:Int) -1:=by omega
  have e2:(n:Int) -((0:Nat):Int)=(n:Int):=by omega
  show IsRangeIter _ _ ((n:Int) -1+((0:Nat):Int)*(-1)) ((n:Int) -((0:Nat):Int)) (-1)
  rw[e1,e2,zgU]
  exact ζj _ rfl
 ·have e:b=(s.heap.push {cls:= .type "range",data:= .fields #[.int ((n:Int) -1) t, .int (-1) u, .int (-1) v]}).objs.size:=by simpa using hb
  subst e
  exact I1.fpOk (ζu _) (I1.hok.fresh (ζu _))
noncomputable def zqI(ta:TA):TI:=λσ H R=>ta σ H λvs H1=>∃n:Nat,vs=[.int ((n:Int) -1), .int (-1), .int (-1)]/\n<=1000/\R (zoN n) H1
theorem zme{a b c:Expr}{ta:TA}{p pos:Pos}(hm:X.mg "range"=none)(ha:QA X [a,b,c] ta)(hg:Gl X "range":=by rfl)(hs:starEach [a,b,c] X.env=(false,eval a X.env)::starEach [b,c] X.env:=by rfl)(hs2:(backTo pos (starEach [b,c] X.env)).any (·.1)=false:=by rfl):
 QI X tg (.Call (.Name "range" p) [a,b,c] [] pos) (zqI ta):=⟨by
 intro pins s σ H R I h
 refine Call_ (zdY I hg hm boot_range (PyProof.Rows.callWith_type1 (thn (ha.o pos pins s σ H _ I h) λus s1 ⟨vs,H1,I1,r1,q1⟩=>?_) hs hs2))
 obtain⟨n,e,hn,q⟩:=q1
 subst e
 cases r1 with
 |cons r rr=>
  cases rr with
  |cons r' rr=>
   cases rr with
   |cons r'' rr=>
    cases rr
    obtain⟨t,rfl⟩:=r
    obtain⟨t',rfl⟩:=r'
    obtain⟨t'',rfl⟩:=r''
    exact call_range_3 (by decide) (znO I1 hn q) (Or.inl (PyProof.noPylong_small (by omega)))⟩
end
end L2
namespace RW
open PySem PySem.Spec PyProof.Rows L2
noncomputable def zam(d:D)(lo hi:Int):Bool:=zaW d lo hi&&zjv zaB d
noncomputable def znJ:D->Bool| .int i=>!decide (i<1)|_=>false
noncomputable def zgR(ps:List (Str×Str)):D->D->Bool| .str a, .str b=>decide (b∈zan ps a)|_,_=>false
noncomputable def zhL:D->Bool| .tup []=>true|_=>false
noncomputable def zU(hs:List Str)(ps:List (Str×Str)):D->Bool
 | .tup [a,b,n,w,m]=>(zL hs a&&(zL hs b&&zgR ps a b))&&((zeA n&&(znJ n&&zam m 0 90))&&(if zaw w=true then zhL m else zam w 1 10))
 |_=>false
noncomputable def zbg(hs:List Str)(ps:List (Str×Str)):D->Bool
 | .tup [p, .tup qs]=>zU hs ps p&&(decide (qs.length<=10)&&qs.all (zU hs ps))
 |_=>false
structure Pp where
 one:Str
 to:Str
 nr:Int
 way:Option (List Str)
 marks:List Str
noncomputable def wyD:Option (List Str)->D|none=> .non|some w=>tD w
noncomputable def ppD(p:Pp):D:= .tup [.str p.one, .str p.to, .int p.nr,wyD p.way,tD p.marks]
noncomputable def zcf(f:Pp)(qs:List Pp):D:= .tup [ppD f, .tup (qs.map ppD)]
structure PpOk(hs:List Str)(ps:List (Str×Str))(p:Pp):Prop where
 one:p.one∈hs
 to:p.to∈hs
 tied:p.to∈zan ps p.one
 nr:1<=p.nr
 mnm:∀x∈p.marks,zi x=true
 ml:p.marks.length<=90
 non:p.way=none->p.marks=[]
 way:∀w,p.way=some w->1<=w.length/\w.length<=10/\∀x∈w,zi x=true
theorem zcw{hs:List Str}{d:D}(h:zL hs d=true):∃x,d= .str x/\x∈hs:=by
 obtain⟨ws,e,hw⟩:=zd6 (hs:=hs) (ds:=[d]) (by rw[List.all_cons,h];rfl)
 match ws,e with
 |[x],e=>exact ⟨x,by simpa using e,hw x ζp⟩
theorem zew{d:D}{lo hi:Int}(h:zam d lo hi=true):∃xs,d=tD xs/\lo<=(xs.length:Int)/\(xs.length:Int)<=hi/\∀x∈xs,zi x=true:=by
 unfold zam at h
 rw[ζt] at h
 cases d with
 |tup ds=>
  obtain⟨xs,rfl,hx⟩:=zga (show ds.all zaB=true from h.2)
  have h1:(decide (lo<=((xs.map D.str).length:Int))&&decide (((xs.map D.str).length:Int)<=hi))=true:=h.1
  rw[ζt,ζa,ζg,ζg] at h1
  exact⟨xs,rfl,h1.1,h1.2,hx⟩
 |_=>exact nomatch h.1
theorem ziD{xs:List Str}{lo hi:Int}(h1:lo<=(xs.length:Int))(h2:(xs.length:Int)<=hi)(h:∀x∈xs,zi x=true):zam (tD xs) lo hi=true:=by
 show((decide (lo<=((xs.map D.str).length:Int))&&decide (((xs.map D.str).length:Int)<=hi))&&(xs.map D.str).all zaB)=true
 rw[ζa,ζf h1,ζf h2,List.all_map,List.all_eq_true.mpr]
 ·rfl
 ·exact λx hx=>by show zaB (.str x)=true;rw[zc7];exact h x hx
theorem zez{hs:List Str}{ps:List (Str×Str)}{d:D}(h:zU hs ps d=true):∃p,d=ppD p/\PpOk hs ps p:=by
 unfold zU at h
 split at h
 ·rename_i a b n w m
  rw[ζt,ζt,ζt,ζt,ζt,ζt] at h
  obtain⟨⟨ha,hb,ht⟩,⟨hn,hp,hm⟩,hw⟩:=h
  obtain⟨x,rfl,hx⟩:=zcw ha
  obtain⟨y,rfl,hy⟩:=zcw hb
  obtain⟨ms,rfl,m1,m2,m3⟩:=zew hm
  have ht:y∈zan ps x:=ζh ht
  obtain⟨i,rfl,hi⟩:∃i,n= .int i/\1<=i:=by
   cases n with
   |int i=>exact ⟨i,rfl,by have:(!decide (i<1))=true:=hp;simpa using this⟩
   |_=>cases hp
  by_cases e:zaw w=true
  ·rw[if_pos e] at hw
   have ew:w= .non:=by cases w<;>first|rfl|cases e
   subst ew
   have em:ms=[]:=by
    cases ms with
    |nil=>rfl
    |cons z zs=>cases hw
   subst em
   exact⟨⟨x,y,i,none,[]⟩,rfl,⟨hx,hy,ht,hi,(λ_ z=>nomatch z),ξk _,(λ_=>rfl),(λ_ z=>nomatch z)⟩⟩
  ·rw[if_neg e] at hw
   obtain⟨ws,rfl,w1,w2,w3⟩:=zew hw
   exact⟨⟨x,y,i,some ws,ms⟩,rfl,⟨hx,hy,ht,hi,m3,by show ms.length<=90;omega,(λz=>nomatch z),λw z=>by cases z;exact⟨by omega,by omega,w3⟩⟩⟩
 ·cases h
theorem ziA{hs:List Str}{ps:List (Str×Str)}(hn:∀x∈hs,zi x=true){p:Pp}(h:PpOk hs ps p):zU hs ps (ppD p)=true:=by
 show((zL hs (.str p.one)&&(zL hs (.str p.to)&&zgR ps (.str p.one) (.str p.to)))&&((zeA (.int p.nr)&&(znJ (.int p.nr)&&zam (tD p.marks) 0 90))&&(if zaw (wyD p.way)=true then zhL (tD p.marks)else zam (wyD p.way) 1 10)))=true
 have ml:=h.ml
 have hnr:=h.nr
 rw[zgb h.one (hn _ h.one),zgb h.to (hn _ h.to),show zgR ps (.str p.one) (.str p.to)=true from ζf h.tied,show zeA (.int p.nr)=true from rfl,show znJ (.int p.nr)=true by show(!decide (p.nr<1))=true;simp;omega,ziD (by omega) (by omega) h.mnm]
 cases e:p.way with
 |none=>
  have em:=h.non e
  rw[em];rfl
 |some w=>
  obtain⟨w1,w2,w3⟩:=h.way w e
  show(true&&(true&&true)&&(true&&(true&&true)&&(if zaw (tD w)=true then _ else zam (tD w) 1 10)))=true
  rw[ziD (by omega) (by omega) w3];rfl
theorem zfE{hs:List Str}{ps:List (Str×Str)}:∀{ds:List D},ds.all (zU hs ps)=true->∃qs:List Pp,ds=qs.map ppD/\∀q∈qs,PpOk hs ps q
 |[],_=>⟨[],rfl,λ_ z=>nomatch z⟩
 |d::ds,h=>by
  rw[List.all_cons,ζt] at h
  obtain⟨q,rfl,hq⟩:=zez h.1
  obtain⟨qs,rfl,hqs⟩:=zfE h.2
  exact⟨q::qs,rfl,λx hx=>(List.mem_cons.mp hx).elim (λe=>by rw[e];exact hq) (hqs x)⟩
theorem zfv{hs:List Str}{ps:List (Str×Str)}{d:D}(h:zbg hs ps d=true):∃f qs,d=zcf f qs/\PpOk hs ps f/\(∀q∈qs,PpOk hs ps q)/\qs.length<=10:=by
 unfold zbg at h
 split at h
 ·rename_i p qs
  rw[ζt,ζt] at h
  obtain⟨f,rfl,hf⟩:=zez h.1
  obtain⟨qs',rfl,hqs⟩:=zfE h.2.2
  have hl:=ζh h.2.1
  rw[ζa] at hl
  exact⟨f,qs',rfl,hf,hqs,hl⟩
 ·cases h
theorem zlW{hs:List Str}{ps:List (Str×Str)}(hn:∀x∈hs,zi x=true){f:Pp}{qs:List Pp}(hf:PpOk hs ps f)(hq:∀q∈qs,PpOk hs ps q)(hl:qs.length<=10):zbg hs ps (zcf f qs)=true:=by
 show(zU hs ps (ppD f)&&(decide ((qs.map ppD).length<=10)&&(qs.map ppD).all (zU hs ps)))=true
 rw[ziA hn hf,ζa,ζf hl,List.all_map,List.all_eq_true.mpr]
 ·rfl
 ·exact λq h=>ziA hn (hq q h)
theorem znQ:∀{a b:Option (List Str)},wyD a=wyD b->a=b
 |none,none,_=>rfl
 |none,some _,h=>nomatch h
 |some _,none,h=>nomatch h
 |some a,some b,h=>by
  have:=congrArg zfr (show tD a=tD b from h)
  rw[zeM,zeM] at this
  rw[this]
theorem zmc{p q:Pp}(h:ppD p=ppD q):p=q:=by
 obtain⟨a,b,c,d,e⟩:=p
 obtain⟨a',b',c',d',e'⟩:=q
 have h:D.tup [.str a, .str b, .int c,wyD d,tD e]=D.tup [.str a', .str b', .int c',wyD d',tD e']:=h
 injection h with h
 injection h with h1 h
 injection h with h2 h
 injection h with h3 h
 injection h with h4 h
 injection h with h5 _
 cases h1;cases h2;cases h3
 have:=congrArg zfr h5
 rw[zeM,zeM] at this
 rw[znQ h4,this]
theorem zk4:∀{ps qs:List Pp},ps.map ppD=qs.map ppD->ps=qs
 |[],[],_=>rfl
 |[],_::_,h=>nomatch h
 |_::_,[],h=>nomatch h
 |p::ps,q::qs,h=>by
  rw[List.map_cons,List.map_cons] at h
  injection h with h1 h2
  rw[zmc h1,zk4 h2]
theorem zh9{f f':Pp}{qs qs':List Pp}(h:zcf f qs=zcf f' qs'):f=f'/\qs=qs':=by
 have h:D.tup [ppD f, .tup (qs.map ppD)]=D.tup [ppD f', .tup (qs'.map ppD)]:=h
 injection h with h
 injection h with h1 h
 injection h with h2 _
 injection h2 with h2
 exact⟨zmc h1,zk4 h2⟩
noncomputable def zfh(w:List Str)(q:Pp)(k:Nat):Bool:=decide (q.one=w.getD (k+1) ""/\q.to=w.getD k "")&&decide (q.way=some (w.drop (k+1)))
noncomputable def zdR(w:List Str)(qs:List Pp)(n:Nat):Bool:=(List.range n).all λk=>match qs[k]? with|some q=>zfh w q k|none=>true
noncomputable def soB(hs:List Str)(lks hds:List D)(p:Pp)(ms:List Str):Bool:=match p.way with
 |none=>false
 |some w=>!(decide (1<w.length)&&zaw (zS w ms (zaa hs lks (w.headD ""))))&&decide (zA w (some p.to) (zaa hs hds (w.headD "")) ms=some p.marks)
noncomputable def zaS(qs:List Pp):List (List Str):=qs.map (·.marks)++ [[]]
noncomputable def zgX(hs:List Str)(lks hds:List D)(f:Pp)(qs:List Pp):Bool:=((f::qs).zip (zaS qs)).all λz=>soB hs lks hds z.1 z.2
noncomputable def zeE(g:Str)(hs:List Str)(ps:List (Str×Str))(lks hds:List D)(f:Pp)(qs:List Pp):Bool:=match f.way with
 |none=>qs.isEmpty
 |some w=>zbF g hs ps (tD w)&&decide (w.headD ""=f.one)&&decide (qs.length+1=w.length)&&zdR w qs qs.length&&zgX hs lks hds f qs
theorem WayOk.tail{g:Str}{hs:List Str}{ps:List (Str×Str)}{y x:Str}{ws:List Str}(W:WayOk g hs ps (y::x::ws)):WayOk g hs ps (x::ws) where
 nd:=(List.nodup_cons.mp W.nd).2
 mem:=λz hz=>W.mem z (ξe _ hz)
 last:=by
  obtain⟨w0,e⟩:=W.last
  cases w0 with
  |nil=>cases e
  |cons a w0=>exact ⟨w0,by rw[List.cons_append] at e;injection e⟩
 tied:=λi a b h1 h2=>W.tied (i+1) a b h1 h2
theorem WayOk.step{g:Str}{hs:List Str}{ps:List (Str×Str)}{y x:Str}{ws:List Str}(W:WayOk g hs ps (y::x::ws)):y∈zan ps x:=by
 have:=mem_nbrs.mp (W.tied 0 y x rfl rfl)
 exact mem_nbrs.mpr this.symm
inductive Ch(hs:List Str)(lks hds:List D):Str->List Str->List Pp->Prop
 |one {to g:Str} {nr:Int} {m:List Str} (h1:1<=nr) (h2:zA [g] (some to) (zaa hs hds g) []=some m):Ch hs lks hds to [g] [⟨g,to,nr,some [g],m⟩]
 |more {to y x:Str} {ws:List Str} {nr:Int} {m:List Str} {q:Pp} {P:List Pp} (h:Ch hs lks hds y (x::ws) (q::P)) (h0:zaw (zS (y::x::ws) q.marks (zaa hs lks y))=false) (h1:1<=nr)
   (h2:zA (y::x::ws) (some to) (zaa hs hds y) q.marks=some m):Ch hs lks hds to (y::x::ws) (⟨y,to,nr,some (y::x::ws),m⟩::q::P)
section
variable{hs:List Str}{lks hds:List D}{to:Str}{w:List Str}{P:List Pp}
theorem Ch.head(c:Ch hs lks hds to w P):∃f qs,P=f::qs/\f.one=w.headD ""/\f.to=to/\f.way=some w/\1<=f.nr/\P.length=w.length:=by
 induction c with
 |one h1 h2=>exact ⟨_,_,rfl,rfl,rfl,rfl,h1,rfl⟩
 |more h h0 h1 h2 ih=>
  obtain⟨_,_,_,_,_,_,_,l⟩:=ih
  exact⟨_,_,rfl,rfl,rfl,rfl,h1,by rw[ζw,l];rfl⟩
theorem Ch.marks{O:List Str}(hk:∀x∈w,zdI O (zaa hs hds x))(c:Ch hs lks hds to w P):∀p∈P,Mr O p.marks:=by
 induction c with
 |one h1 h2=>
  intro p hp
  rw[List.mem_singleton.mp hp]
  exact zdC (hk _ ζp).2 Mr.nil h2
 |more h h0 h1 h2 ih=>
  have ih:=ih λx hx=>hk x (ξe _ hx)
  intro p hp
  rcases List.mem_cons.mp hp with rfl|hp
  ·exact zdC (hk _ ζp).2 (ih _ ζp) h2
  ·exact ih p hp
theorem Ch.pp{g:Str}{ps:List (Str×Str)}{O:List Str}(hn:∀x∈hs,zi x=true)(ten:hs.length<=10)(O14:O.length<=14)(On:∀x∈O,zi x=true)(c:Ch hs lks hds to w P):WayOk g hs ps w->to∈hs->to∈zan ps (w.headD "")->(∀p∈P,Mr O p.marks)->∀p∈P,PpOk hs ps p:=by
 have mn:∀{m:List Str},Mr O m->(∀x∈m,zi x=true)/\m.length<=90:=λ{m} M=>⟨λx hx=>On x (M.mem x hx),ξb (M.toMk.len O14) (by decide)⟩
 induction c with
 |one h1 h2=>
  intro W ht hb M p hp
  rw[List.mem_singleton.mp hp]
  have m0:=mn (M _ ζp)
  exact⟨W.mem _ ζp,ht,hb,h1,m0.1,m0.2,(λz=>nomatch z),λw z=>by cases z;exact⟨(by decide:1<=1),(by decide:1<=10),λx hx=>hn x (W.mem x hx)⟩⟩
 |more h h0 h1 h2 ih=>
  intro W ht hb M p hp
  have ih:=ih W.tail (W.mem _ ζp) W.step (λp hp=>M p (ξe _ hp))
  rcases List.mem_cons.mp hp with rfl|hp
  ·have m0:=mn (M _ ζp)
   have wl:=W.len
   exact⟨W.mem _ ζp,ht,hb,h1,m0.1,m0.2,(λz=>nomatch z),λw z=>by cases z;exact⟨wl.1,by omega,λx hx=>hn x (W.mem x hx)⟩⟩
  ·exact ih p hp
end
noncomputable def cmM(hs:List Str)(lks hds:List D)(to:Str)(w:List Str):Option (List Str):=match zcM hs lks hds w with
 |none=>none
 |some t=>zA w (some to) (zaa hs hds (w.headD "")) t
theorem zdU{hs:List Str}{lks hds:List D}:∀{w:List Str} {k:Nat},k<w.length->zcM hs lks hds (w.drop k)=none->zcM hs lks hds w=none
 |w,0,_,e=>by rw[List.drop_zero] at e;exact e
 |[],k+1,h,_=>by simp at h
 |[y],k+1,h,_=>by simp at h
 |y::x::ws,k+1,h,e=>by
  have:=zdU (w:=x::ws) (k:=k) (by simpa using h) e
  rw[zcM,this]
theorem zd1{hs:List Str}{lks hds:List D}{y x:Str}{ws:List Str}:zcM hs lks hds (y::x::ws)=match cmM hs lks hds y (x::ws)with
 |none=>none
 |some t=>if zaw (zS (y::x::ws) t (zaa hs lks y))=true then none else some t:=by
 rw[zcM]
 unfold cmM zmT
 cases zcM hs lks hds (x::ws)with
 |none=>rfl
 |some t=>
  show(match zA (x::ws) (some y) (zaa hs hds x) t with|none=>none|some t=>_)=(match zA (x::ws) (some y) (zaa hs hds x) t with|none=>none|some t=>_)
  cases zA (x::ws) (some y) (zaa hs hds x) t<;>rfl
theorem zop{hs:List Str}{lks hds:List D}{to:Str}{w:List Str}:∀{k:Nat},k<w.length->cmM hs lks hds ((to::w).getD k "") (w.drop k)=none->cmM hs lks hds to w=none
 |0,_,e=>by rw[List.drop_zero] at e;exact e
 |k+1,h,e=>by
  have e1:w.drop k=w.getD k ""::w.drop (k+1):=by
   rw[List.drop_eq_getElem_cons (by omega)]
   simp[List.getD,show k<w.length by omega]
  obtain⟨x,ws,e2⟩:∃x ws,w.drop (k+1)=x::ws:=by
   rw[List.drop_eq_getElem_cons h];exact⟨_,_,rfl⟩
  have e3:(to::w).getD (k+1) ""=w.getD k "":=rfl
  rw[e3,e2] at e
  have:zcM hs lks hds (w.drop k)=none:=by rw[e1,e2,zd1,e]
  have:=zdU (show k<w.length by omega) this
  unfold cmM
  rw[this]
end RW
namespace HT
open PySem PySem.Spec PyProof.Rows L2
noncomputable def metS(val:Nat->Str):Nat->List Str
 |0=> []
 |i+1=>if val i∈metS val i then metS val i else metS val i ++ [val i]
theorem metS_nd(val:Nat->Str):∀i,(metS val i).Nodup
 |0=>List.nodup_nil
 |i+1=>by
  rw[metS]
  split
  ·exact metS_nd val i
  ·rename_i h
   exact List.nodup_append.mpr ⟨metS_nd val i,by simp,λa ha b hb e=>h (by rw[List.mem_singleton.mp hb] at e;rw[←e];exact ha)⟩
theorem metS_mem(val:Nat->Str):∀i x,x∈metS val i↔∃j,j<i/\x=val j
 |0,x=>⟨(λh=>nomatch h),(λ⟨j,hj,_⟩=>absurd hj (Nat.not_lt_zero _))⟩
 |i+1,x=>by
  have ih:=metS_mem val i x
  rw[metS]
  split
  ·rename_i h
   rw[ih]
   constructor
   ·rintro ⟨j,hj,e⟩;exact⟨j,by omega,e⟩
   ·rintro ⟨j,hj,e⟩
    by_cases ej:j=i
    ·subst ej;rw[e];exact(metS_mem val j (val j)).mp h
    ·exact ⟨j,by omega,e⟩
  ·rw[List.mem_append,ih,List.mem_singleton]
   constructor
   ·rintro (⟨j,hj,e⟩|e)
    ·exact ⟨j,by omega,e⟩
    ·exact ⟨i,by omega,e⟩
   ·rintro ⟨j,hj,e⟩
    by_cases ej:j=i
    ·subst ej;exact .inr e
    ·exact .inl ⟨j,by omega,e⟩
theorem ziJ(val:Nat->Str):∀i,(metS val i).length<=i
 |0=>ζu _
 |i+1=>by
  have:=ziJ val i
  rw[metS]
  split
  ·omega
  ·rw[ζe,ξd];omega
section
variable{prog:Program}{w:World}{A:Around}{R:Result->Shared->Prop}{I:Addr}{fp wr:List Addr}{n:Nat}{P:Nat->Value->Prop}{St:Nat->Heap->Prop}
def zgc(h:Heap)(prog:Program)(w:World)(S:Addr)(val:Nat->Str)(i:Nat):Prop:=∃f:Key->Bool,h.SetOf (zaA prog w) S f (metS val i).length/\∀k,f k=true↔∃x∈metS val i,k=Sum.inr x
theorem zmo(W:Walks prog w A.in1 I fp wr n P St)(S:Addr)(hSf:S∉fp)(val:Nat->Str)(hval:∀i v,P i v->∃t,v= .str (val i) t)(hb:n+1<scanBound):
 ∀(k i:Nat) (s:Shared),n -i=k->i<=n->St i s.heap->zgc s.heap prog w S val i->
  (∀h' tk,h'.objs.size=h'.objs.size->(∀b o,b∉wr->b≠S->s.heap.get? b=some o->h'.get? b=some o)->zgc h' prog w S val n->R (.ok (.ret .none)) {s with heap:=h',toks:=tk})->
  codeAny (model prog w) A (.builtin "set.update.loop" ⟨[.ref S, .ref I],[]⟩) R s:=by
 have hSw:S∉wr:=λh=>hSf (W.sub _ h)
 intro k
 induction k with
 |zero=>
  intro i s hk hi hst hS hR
  have ei:i=n:=by omega
  subst ei
  refine codeAny_builtin F.entry_set_update_loop ?_
  rw[Around.under_plainId F.plain_set_update_loop _]
  show wpAny _ A.in1 (pyNext (.ref I)>>=_) _ _ s
  refine ζb (W.done s _ _ hst λh' tk hk'=>?_)
  refine ζs (hR h' tk rfl (λb o b1 _ e=>hk' b o b1 e) ?_)
  obtain⟨f,⟨o,es,ep,t,ho,rest⟩,hf⟩:=hS
  exact⟨f,⟨o,es,ep,t,hk' S _ hSw ho,rest⟩,hf⟩
 |succ k ih=>
  intro i s hk hi hst hS hR
  have hlt:i<n:=by omega
  refine codeAny_builtin F.entry_set_update_loop ?_
  rw[Around.under_plainId F.plain_set_update_loop _]
  show wpAny _ A.in1 (pyNext (.ref I)>>=_) _ _ s
  refine ζb (W.item i s _ _ hlt hst λv h1 tk1 hP hst' hk'=>?_)
  obtain⟨t,rfl⟩:=hval i v hP
  obtain⟨f,hSet,hf⟩:=hS
  have hS':h1.SetOf (zaA prog w) S f (metS val i).length:=by
   obtain⟨o,es,ep,tb,ho,rest⟩:=hSet
   exact⟨o,es,ep,tb,hk' S _ hSw ho,rest⟩
  have ml:=ziJ val i
  show wpAny _ A.in1 (holding [Value.str (val i) t] (setAdd S (.str (val i) t))>>=_) _ _ _
  refine ζb (wpAny_holding ?_)
  unfold setAdd
  refine wpAny_holding (ζb ((zaA prog w).pyHash (k:=Sum.inr (val i)) (zd7 _ _ _ _) ?_))
  refine wpAny_setAddHashed_of (knd:=zaA prog w) (s:={s with heap:=h1,toks:=tk1+1}) (zd7 _ _ _ _) rfl hS' (by omega) λh2 hsb hS2=>?_
  have key:zgc h2 prog w S val (i+1):=by
   refine⟨λk'=>f k'||decide (k'=Sum.inr (val i)),?_,λk'=>?_⟩
   ·have e:(if f (Sum.inr (val i))then(metS val i).length else(metS val i).length+1)=(metS val (i+1)).length:=by
     rw[metS]
     by_cases hm:val i∈metS val i
     ·rw[if_pos hm,if_pos ((hf _).mpr ⟨_,hm,rfl⟩)]
     ·rw[if_neg hm,if_neg (λz=>by obtain⟨x,hx,e⟩:=(hf _).mp z;exact hm (by rw[Sum.inr.inj e];exact hx)),ζe];rfl
    rw[e] at hS2
    exact hS2
   ·show (f k'||decide (k'=Sum.inr (val i)))=true↔_
    rw[Bool.or_eq_true,hf k',ζg]
    have mm:=λx=>metS_mem val (i+1) x
    have mi:=λx=>metS_mem val i x
    constructor
    ·rintro (⟨x,hx,e⟩|e)
     ·obtain ⟨j,hj,ej⟩:=(mi x).mp hx
      exact⟨x,(mm x).mpr ⟨j,by omega,ej⟩,e⟩
     ·exact ⟨val i,(mm _).mpr ⟨i,by omega,rfl⟩,e⟩
    ·rintro ⟨x,hx,e⟩
     obtain⟨j,hj,ej⟩:=(mm x).mp hx
     by_cases e2:j=i
     ·subst e2;subst ej;exact .inr e
     ·exact .inl ⟨x,(mi x).mpr ⟨j,by omega,ej⟩,e⟩
  refine ζs ⟨plainId_quiet F.plain_set_update_loop _,ih (i+1) {s with heap:=h2,toks:=tk1+1} (by omega) hlt (W.frame _ _ _ hst' λb hb o e=>?_) key λh3 tk3 e3 k3 st3=>?_⟩
  ·rw[hsb.2 b (λh:b=S=>hSf (by rw[←h];exact hb))];exact e
  ·exact hR h3 tk3 rfl (λb o b1 b2 e=>k3 b o b1 b2 (by show h2.get? b=some o;rw[hsb.2 b b2];exact hk' b o b1 e)) st3
end
section
variable{prog:Program}{w:World}{A:Around}{E:Value->Shared->Prop}{s:Shared}
theorem znF{l S:Addr}{items:Array Value}{val:Nat->Str}{led:Bool}{R:Value->Shared->Prop}(hh:A.handled=none)(hS:s.heap.get? S=some {cls:= .type "set",dict:=none,data:= .set #[] 0 (.fresh 0 0 led)})(hl:s.heap.IsTuple l items)(hlS:l≠S)
 (hval:∀(i:Nat) v,items[i]?=some v->∃t,v= .str (val i) t) (hb:items.size+1<scanBound)
 (hR:∀h' tk,zgc h' prog w S val items.size->(∀b o,b≠S->s.heap.get? b=some o->h'.get? b=some o)->R .none {s with heap:=h',toks:=tk}):
 wpAny (model prog w) A (Builtin.«set.__init__» ⟨[.ref S, .ref l],[]⟩) (λfin s'=>∃v,fin= .done (.ret v)/\R v s') E s:=by
 have hT:s.TypeIs (.ref S) "set":=⟨_,hS,rfl⟩
 have hTt:s.TypeIs (.ref l) "tuple":=hl.typeIs
 obtain⟨ol,hol,hcl,nl,hdl⟩:=hl
 have hl1:s.heap.IsTuple l items:=⟨ol,hol,hcl,nl,hdl⟩
 have hslf:isSubtype (.type "tuple") (.type "frozenset")=pure false:=by rw[isSubtype_type];kernel_rfl
 have hsls:isSubtype (.type "tuple") (.type "set")=pure false:=by rw[isSubtype_type];kernel_rfl
 have hne:(Value.type "tuple"==Value.type "dict")=false:=by decide
 obtain⟨hp,g,d,tk,os⟩:=s
 unfold Builtin.«set.__init__» noKeywords Builtin.Frozenset.updateFrom
 generalize hPI:pyIter=PI
 wp_walk
 subst hPI
 refine wpAny_pyIter_tuple hl1 ?_
 refine ζb (wpAny_runValue ?_)
 have llt:l<hp.objs.size:=ζn hol
 have Slt:S<hp.objs.size:=ζn hS
 refine zmo (Walks.tuple (A:=A.in1) (show A.in1.handled=none from hh) hp.objs.size l (ξl llt) items) S ?_ val hval hb _ 0 _ rfl (ξk _) ⟨⟨_,ζj _ rfl,rfl,rfl⟩,hl1.push _⟩ ⟨λ_=>false,⟨_, #[],0,_,ζc _ hS,⟨rfl,rfl,rfl⟩,rfl,λe he=>by simp at he,λk=>by simp,Nat.lt_of_le_of_lt (ξk _) hb,rfl,rfl⟩,λk=>⟨λh=>(by cases h),λ⟨_,h,_⟩=>nomatch h⟩⟩ λh' tk' _ k st=>ζs (ζs ⟨_,rfl,hR h' tk' st λb o b1 e=>k b o ?_ b1 (ζc _ e)⟩)
 ·simp only[List.mem_cons,List.not_mem_nil,or_false,not_or]
  exact⟨ξl Slt,λz=>hlS z.symm⟩
 ·intro z
  have:b=hp.objs.size:=by simpa using z
  exact absurd (ζn e) (by rw[this];exact Nat.lt_irrefl _)
theorem call_set_texts{l:Addr}{items:Array Value}{val:Nat->Str}{Q:Value->Shared->Prop}
 (hh:A.handled=none) (hl:s.heap.IsTuple l items) (hval:∀(i:Nat) v,items[i]?=some v->∃t,v= .str (val i) t) (hb:items.size+1<scanBound)
 (h:∀(h':Heap) (tk:Nat),zgc h' prog w s.heap.objs.size val items.size->(∀b o,s.heap.get? b=some o->h'.get? b=some o)->Q (.ref s.heap.objs.size) {s with heap:=h',toks:=tk}):
 wpAny (model prog w) A (call (.type "set") [.ref l]) Q E s:=by
 obtain⟨c,tl,hmro⟩:=F.called_set.mro
 have hmade:=F.called_set.made
 have hsub:=F.called_set.sub
 refine wpAny_call (codeAny_of_tree ?_)
 show wpAny _ _ (callAny (.type "set") _) _ _ _
 refine ζs ⟨Code.quiet_builtin _ (by decide +kernel),codeAny_builtin F.entry_type_call ?_⟩
 rw[Around.under_plain (weight_type_call_type "set" [.ref l] []) rfl]
 have h1:=F.called_set.notType
 have h2:=F.called_set.canCreate
 have hct:=F.typeCall_set_1 (.ref l)
 repeat (any_goals (first|assumption|wp_step))
 refine codeAny_mono (code_set_new_1 (.ref l) (E:=E) (Q₁:=λobj s₁=>∃led:Bool,obj= .ref s.heap.objs.size/\s₁={s with heap:=s.heap.push {cls:= .type "set",dict:=none,data:= .set #[] 0 (.fresh 0 0 led)}}) λled=>⟨led,rfl,rfl⟩) λr s₁ hr=>?_
 cases r with
 |error e=>exact hr
 |ok fl=>
  cases fl with
  |ret obj=>
   obtain⟨led,rfl,rfl⟩:=hr
   have hS:(s.heap.push {cls:= .type "set",dict:=none,data:= .set #[] 0 (.fresh 0 0 led)}).get? s.heap.objs.size=some {cls:= .type "set",dict:=none,data:= .set #[] 0 (.fresh 0 0 led)}:=ζj _ rfl
   have hT:Shared.TypeIs {s with heap:=s.heap.push {cls:= .type "set",dict:=none,data:= .set #[] 0 (.fresh 0 0 led)}} (.ref s.heap.objs.size) "set":=⟨_,hS,rfl⟩
   have hli:=F.called_set.init.lookup
   have hbi:=F.called_set.init.bind (.ref s.heap.objs.size)
   repeat (any_goals (first|assumption|wp_step))
   refine codeAny_mono (codeAny_call_builtin (R:=wants (λr s₂=>r= .none/\∃h' tk,s₂={s with heap:=h',toks:=tk}/\zgc h' prog w s.heap.objs.size val items.size/\
    (∀b o,s.heap.get? b=some o->h'.get? b=some o)) E) F.called_set.init.plain F.entry_set_init (check_set_init_1 hT ?_)) λr₂ s₂ hr₂=>?_
   ·have llt:l<s.heap.objs.size:=by obtain⟨ol,hol,_⟩:=hl;exact ζn hol
    have go:=znF (prog:=prog) (w:=w) (A:=A.in1.in1) (E:=E) (s:={s with heap:=s.heap.push {cls:= .type "set",dict:=none,data:= .set #[] 0 (.fresh 0 0 led)}}) (val:=val) (led:=led) (l:=l) (items:=items)
     (R:=λr s₂=>r= .none/\∃h' tk,s₂={s with heap:=h',toks:=tk}/\zgc h' prog w s.heap.objs.size val items.size/\(∀b o,s.heap.get? b=some o->h'.get? b=some o))
     (by simp[hh]) hS (hl.push _) (ξl llt) hval hb λh' tk st kk=>⟨rfl,h',tk,rfl,st,λb o e=>kk b o (ξl (ζn e)) (ζc _ e)⟩
    refine wpAny_mono go (λfin s' hq=>?_) λ_ _ z=>z
    obtain⟨v,rfl,hq⟩:=hq
    exact hq
   ·cases r₂ with
    |error e=>exact hr₂
    |ok fl₂=>
     cases fl₂ with
     |ret r=>
      obtain⟨rfl,h',tk,rfl,hS',hk'⟩:=hr₂
      repeat (any_goals (first|assumption|wp_step))
      exact h _ _ hS' hk'
     |_=>exact hr₂.elim
  |_=>exact hr.elim
end
end HT
namespace L2
open PySem PySem.W PySem.Spec PyProof.Rows PyProof.V
section
variable{X:Cx}
theorem zlQ(hc:X.calm=true):CallR X (.type "set") (λxs H Q=>∃(l:Addr) (hs:List Str),xs=[.ref l]/\H l=some (.tup (hs.map V.str))/\hs.length<=1000/\∀ys:List Str,ys.Nodup->(∀x,x∈ys↔x∈hs)->∀p,H p=none->Q (.ref p) (upd H p (StO X.prog X.w p ys.length))):=by
 intro pins s σ H xs us Q I r h
 obtain⟨l,hs,rfl,hH,h9,q⟩:=h
 obtain⟨u,rfl,ru⟩:=zdg r
 cases ru
 obtain⟨its,rv,ht,_⟩:=I.tuple (SqT.of hH)
 have el:its.toArray.size=hs.length:=by have:=rv.length;rw[ζa] at this;simp[←this]
 have hb:its.toArray.size+1<scanBound:=by rw[el];exact Nat.lt_of_le_of_lt (Nat.add_le_add_right h9 1) (by unfold scanBound;decide)
 refine HT.call_set_texts (val:=λk=>hs.getD k "") (I.ok.hd hc) ht ?_ hb λh' tk st kk=>?_
 ·intro k x ex
  rw[List.getElem?_toArray] at ex
  have hk:k<hs.length:=by
   rcases ξa k its.length with z|z
   ·have:=rv.length;rw[ζa] at this;omega
   ·rw[ζi z] at ex;cases ex
  obtain⟨u,hu,ru⟩:=rv.get (i:=k) (x:= .str hs[k]) (by rw[ζq,ζd hk];rfl)
  rw[ex] at hu
  cases hu
  obtain⟨t,rfl⟩:=ru
  exact⟨t,by simp[List.getD,hk]⟩
 ·rw[el] at st
  obtain⟨f,st,_⟩:=st
  refine⟨.ref s.heap.objs.size,_,I.laid (a:=s.heap.objs.size) (o:=StO X.prog X.w s.heap.objs.size (HT.metS (λk=>hs.getD k "") hs.length).length) (t':=tk) kk (ζu _) ⟨⟨f,st⟩,?_,?_⟩,rfl,q _ (HT.metS_nd _ _) (λx=>?_) _ (I.hok.fresh (ζu _))⟩
  ·obtain ⟨o,_,_,_,e,_⟩:=st;exact⟨o,e⟩
  ·rintro h1 h2 ⟨f,o,es,ep,t,e,r⟩ k
   exact⟨f,o,es,ep,t,k o e,r⟩
  ·rw[HT.metS_mem]
   constructor
   ·rintro ⟨j,hj,rfl⟩
    simp only[List.getD,ζd hj,Option.getD_some]
    exact List.getElem_mem hj
   ·intro hx
    obtain⟨j,hj,e⟩:=List.getElem_of_mem hx
    exact⟨j,hj,by simp only[List.getD,ζd hj,Option.getD_some,e]⟩
end
end L2
namespace RW
open PySem PySem.Spec PyProof.Rows L2
theorem zmV{a b:Str}(h1:leS a b=true)(h2:leS b a=true):a=b:=by
 unfold leS at *
 rw[Bool.not_eq_true'] at *
 by_cases e:a=b
 ·exact e
 ·rw[zdM e h2] at h1;cases h1
theorem zhi:∀{ts:List Str},sortedS ts=true->ts.Pairwise (λa b=>leS a b=true)
 |[],_=> .nil
 |[a],_=>List.pairwise_singleton _ _
 |a::b::ts,h=>by
  have h':(!ltCps b.cps.toList a.cps.toList&&risingS b ts)=true:=h
  rw[ζt] at h'
  have hr:sortedS (b::ts)=true:=h'.2
  have hab:leS a b=true:=by
   have h1:ltS b a=false:=by
    have:=h'.1
    rw[ltCps_eq] at this
    simpa using this
   unfold leS
   rw[h1];rfl
  have ih:=zhi hr
  refine List.pairwise_cons.mpr ⟨λz hz=>?_,ih⟩
  rcases List.mem_cons.mp hz with rfl|hz
  ·exact hab
  ·exact zjF a b z hab ((List.pairwise_cons.mp ih).1 z hz)
theorem zke{ts l:List Str}(hp:ts.Perm l)(hs:sortedS ts=true):ts=srt l:=
 (hp.trans (zdu l).symm).eq_of_pairwise (λa b _ _ h1 h2=>zmV h1 h2) (zhi hs) (List.pairwise_mergeSort zjF zkX l)
noncomputable def zhf:Sp:=λvs H Q _=>∃(pm:Addr) (v:V) (t:List Str) (w m:Str),vs=[.ref pm,v]/\H pm=some (.tup (t.map V.str))/\Rep H v (.tup [.str w, .str m])/\(∀x∈t,zi x=true)/\zi m=true/\t.length<=60/\∀(p:Addr) (H':Hp),H' p=some (.tup ((ze1 t w m).map V.str))->Same H H'->Q (.ref p) H'
def zgk(rs:List D):Prop:=rs.length<=90/\∀r∈rs,∃cs x,r= .tup [.tup cs,x]/\(∀c∈cs,zN c=true)/\(x= .tup [.str "keep"]\/∃w m,x= .tup [.str w, .str m]/\(w="put"\/w="strike")/\zi m=true)
theorem zgA{d:D}(h:zbE d=true):∃rs,d= .tup rs/\zgk rs:=by
 cases d with
 |tup rs=>
  have h:(decide (rs.length<=90)&&rs.all zbj)=true:=h
  rw[ζt] at h
  refine⟨rs,rfl,ζh h.1,λr hr=>?_⟩
  obtain⟨cs,x,rfl,h4,hc,hx⟩:=zkn (List.all_eq_true.mp h.2 r hr)
  exact⟨cs,x,rfl,hc,znG hx⟩
 |_=>cases h
structure Mst(rs:List D)(Pr:Nat->List Str->Prop):Prop where
 skip:∀i t,Pr i t->Pr (i+1) t
 next:∀i t w m cs,Pr i t->rs[i]?=some (.tup [.tup cs, .tup [.str w, .str m]])->Pr (i+1) (ze1 t w m)
 ok:∀i t,i<=rs.length->Pr i t->(∀y∈t,zi y=true)/\t.length<=60
noncomputable def zcZ:Sp:=λvs H Q _=>∃(v:V) (pw pm:Addr) (vt:V) (x:Str) (ws ms:List Str) (to:Option Str) (g:Str) (hs:List Str) (ps:List (Str×Str)) (lks hds:List D) (j:Nat) (rs:List D) (Pr:Nat->List Str->Prop),vs=[v, .ref pw, .ref pm,vt]/\Rep H v (za5 g hs ps lks hds)/\TownOk g hs ps lks hds/\hs[j]?=some x/\hds[j]?=some (.tup rs)/\zgk rs/\Mst rs Pr/\Pr 0 ms/\H pw=some (.tup ((x::ws).map V.str))/\H pm=some (.tup (ms.map V.str))/\TO vt to/\(∀y∈x::ws,zi y=true)/\ws.length<=90/\∀(u:V) (H':Hp),zpJ H' u (zA (x::ws) to rs ms)->Same H H'->Q u H'
theorem zma{O:List Str}{rs:List D}(h:zdI O rs)(hn:∀x∈O,zi x=true):zgk rs:=⟨h.1,λr hr=>by
 obtain⟨cs,x,e,hc,hx⟩:=h.2 r hr
 exact⟨cs,x,e,hc,hx.imp id λ⟨w,m,e1,hw,hm⟩=>⟨w,m,e1,hw,hn m hm⟩⟩⟩
theorem zpC{O:List Str}{rs:List D}(h:zdI O rs)(hO:O.length<=14)(hn:∀x∈O,zi x=true):Mst rs (λ_ t=>Mk O t) where
 skip:=λ_ _ h=>h
 next:=λi t w m cs M e=>by
  obtain⟨cs',x,e1,_,hx⟩:=h.2 _ (ζl e)
  cases e1
  rcases hx with z|⟨w',m',e2,_,hm⟩
  ·cases z
  ·cases e2;exact M.next hm
 ok:=λi t _ M=>⟨λy hy=>hn y (M.mem y hy),ξb (M.len hO) (by decide)⟩
theorem zjC{vs:List V}{H:Hp}{Q:VK}{E:XK}(h:zgj vs H Q E):zcZ vs H Q E:=by
 obtain⟨v,pw,pm,vt,x,ws,ms,to,g,hs,ps,lks,hds,j,rs,O,e,hv,T,hj,hdj,hk,O14,On,M,r⟩:=h
 exact⟨v,pw,pm,vt,x,ws,ms,to,g,hs,ps,lks,hds,j,rs,_,e,hv,T,hj,hdj,zma hk On,zpC hk O14 On,M,r⟩
theorem zmO{t:List Str}{w m:Str}:(ze1 t w m).length<=t.length+1:=by
 unfold ze1
 rw[(zdu _).length_eq]
 unfold zaU
 rw[ζe]
 have:=List.length_filter_le (λx=>!decide (x=m)) t
 split<;>simp<;>omega
theorem zif{t:List Str}{w m y:Str}(h:y∈ze1 t w m):y∈t\/y=m:=by
 unfold ze1 at h
 rw[(zdu _).mem_iff] at h
 unfold zaU at h
 rcases List.mem_append.mp h with h|h
 ·exact .inl (List.mem_filter.mp h).1
 ·split at h
  ·exact .inr (List.mem_singleton.mp h)
  ·cases h
def Mn(c i:Nat)(t:List Str):Prop:=(∀y∈t,zi y=true)/\t.length<=c+i
theorem zm1{rs:List D}{c:Nat}(h:zgk rs)(hc:c+rs.length<=60):Mst rs (Mn c) where
 skip:=λi t h=>⟨h.1,by have:=h.2;omega⟩
 next:=λi t w m cs M e=>by
  obtain⟨cs',x,e1,_,hx⟩:=h.2 _ (ζl e)
  cases e1
  rcases hx with z|⟨w',m',e2,_,hm⟩
  ·cases z
  ·cases e2
   refine⟨λy hy=>?_,by have:=zmO (t:=t) (w:=w) (m:=m);have:=M.2;omega⟩
   rcases zif hy with h|h
   ·exact M.1 y h
   ·rw[h];exact hm
 ok:=λi t hi M=>⟨M.1,by have:=M.2;omega⟩
theorem zcT{ws:List Str}{to:Option Str}:∀{rs:List D} {ms t:List Str},(∀r∈rs,∃cs x,r= .tup [.tup cs,x]/\(∀c∈cs,zN c=true)/\(x= .tup [.str "keep"]\/∃w m,x= .tup [.str w, .str m]/\(w="put"\/w="strike")/\zi m=true))->(∀y∈ms,zi y=true)->zA ws to rs ms=some t->∀y∈t,zi y=true
 |[],ms,t,_,h,e=>by rw[zA] at e;cases e;exact h
 |r::rs,ms,t,hr,h,e=>by
  obtain⟨cs,x,rfl,_,hx⟩:=hr r ζp
  have hr':=λr h=>hr r (ξe _ h)
  rw[zA] at e
  split at e
  ·rcases hx with rfl|⟨w,m,rfl,_,hm⟩
   ·cases e
   ·exact zcT hr' (λy hy=>(zif hy).elim (h y) λz=>by rw[z];exact hm) e
  ·exact zcT hr' h e
section
variable{g:Str}{hs:List Str}{ps:List (Str×Str)}{lks hds:List D}
noncomputable def zdl(f:Pp)(w:List Str)(k:Nat):Str:=(f.to::w).getD k ""
noncomputable def lr1(hs:List Str)(f:Pp)(w:List Str)(p:Pp)(k:Nat):Bool:=decide (w.getD k ""∈hs)&&(decide (p.one=w.getD k ""/\p.to=zdl f w k)&&decide (p.way=some (w.drop k)))
noncomputable def lr2(hs:List Str)(ps:List (Str×Str))(lks:List D)(f:Pp)(w:List Str)(ms:List Str)(k:Nat):Bool:=!(decide (0<k)&&!decide (zdl f w k∈zan ps (w.getD k "")))&&!(decide (k+1<w.length)&&zaw (zS (w.drop k) ms (zaa hs lks (w.getD k ""))))
noncomputable def lr3(hs:List Str)(hds:List D)(f:Pp)(w:List Str)(p:Pp)(ms:List Str)(k:Nat):Bool:=decide (zA (w.drop k) (some (zdl f w k)) (zaa hs hds (w.getD k "")) ms=some p.marks)
noncomputable def lrC(hs:List Str)(ps:List (Str×Str))(lks hds:List D)(f:Pp)(qs:List Pp)(w:List Str)(k:Nat):Bool:=lr1 hs f w ((f::qs).getD k f) k&&(lr2 hs ps lks f w ((zaS qs).getD k []) k&&lr3 hs hds f w ((f::qs).getD k f) ((zaS qs).getD k []) k)
noncomputable def ziw(g:Str)(f:Pp)(qs:List Pp)(w:List Str):Bool:=decide (w.headD ""=f.one)&&(decide (w.getLast?=some g)&&(decide (qs.length+1=w.length)&&decide w.Nodup))
noncomputable def lrB(g:Str)(hs:List Str)(ps:List (Str×Str))(lks hds:List D)(f:Pp)(qs:List Pp):Bool:=match f.way with
 |none=>qs.isEmpty
 |some w=>ziw g f qs w&&(List.range w.length).all (lrC hs ps lks hds f qs w)
theorem ziG{qs:List Pp}:(zaS qs).length=qs.length+1:=by unfold zaS;rw[ζe,ζa];rfl
theorem all_so_iff{f:Pp}{qs:List Pp}:zgX hs lks hds f qs=true↔∀k,k<qs.length+1->soB hs lks hds ((f::qs).getD k f) ((zaS qs).getD k [])=true:=by
 unfold zgX
 rw[List.all_eq_true]
 have lz:((f::qs).zip (zaS qs)).length=qs.length+1:=by
  rw[List.length_zip,ziG,ζw,Nat.min_self]
 have at_:∀k (hk:k<qs.length+1),((f::qs).zip (zaS qs))[k]?=some ((f::qs).getD k f,(zaS qs).getD k []):=λk hk=>by
  have h1:k<(f::qs).length:=hk
  have h2:k<(zaS qs).length:=by rw[ziG];exact hk
  rw[List.getElem?_zip_eq_some]
  constructor
  ·simp only[List.getD,ζd h1,Option.getD_some]
  ·simp only[List.getD,ζd h2,Option.getD_some]
 constructor
 ·intro h k hk
  exact h _ (ζl (at_ k hk))
 ·intro h z hz
  obtain⟨k,hk,e⟩:=List.getElem_of_mem hz
  have hk':k<qs.length+1:=by rw[←lz];exact hk
  have e2:=at_ k hk'
  rw[ζd hk,e] at e2
  cases e2
  exact h k hk'
theorem zg1{w:List Str}{k:Nat}(h:k<w.length):w.drop k=w.getD k ""::w.drop (k+1):=by
 rw[List.drop_eq_getElem_cons h]
 simp only[List.getD,ζd h,Option.getD_some]
theorem zpo{f p:Pp}{w ms:List Str}{k:Nat}(hk:k<w.length)(e1:p.to=zdl f w k)(e2:p.way=some (w.drop k)):soB hs lks hds p ms=(!(decide (k+1<w.length)&&zaw (zS (w.drop k) ms (zaa hs lks (w.getD k ""))))&&lr3 hs hds f w p ms k):=by
 unfold soB lr3
 rw[e2]
 have hd:(w.drop k).headD ""=w.getD k "":=by rw[zg1 hk];rfl
 have hl:decide (1<(w.drop k).length)=decide (k+1<w.length):=by
  rw[ζr,ξf,ζg,ζg];omega
 show(!(decide (1<(w.drop k).length)&&zaw (zS (w.drop k) ms (zaa hs lks ((w.drop k).headD ""))))&&decide (zA (w.drop k) (some p.to) (zaa hs hds ((w.drop k).headD "")) ms=some p.marks))=_
 rw[hd,hl,e1]
theorem fits_iff{w:List Str}{qs:List Pp}:zdR w qs qs.length=true↔∀k q,qs[k]?=some q->(q.one=w.getD (k+1) ""/\q.to=w.getD k "")/\q.way=some (w.drop (k+1)):=by
 unfold zdR
 rw[List.all_eq_true]
 have key:∀k q,zfh w q k=true↔(q.one=w.getD (k+1) ""/\q.to=w.getD k "")/\q.way=some (w.drop (k+1)):=λk q=>by
  unfold zfh
  rw[ζt,ζg,ζg]
 constructor
 ·intro h k q e
  have hk:k<qs.length:=by
   rcases ξa k qs.length with z|z
   ·exact z
   ·rw[ζi z] at e;cases e
  have:=h k (List.mem_range.mpr hk)
  rw[e] at this
  exact(key k q).mp this
 ·intro h k _
  cases e:qs[k]? with
  |none=>rfl
  |some q=>exact (key k q).mpr (h k q e)
theorem zko{f:Pp}{qs:List Pp}{k:Nat}{q:Pp}(e:qs[k]?=some q):(f::qs).getD (k+1) f=q:=by
 show(qs[k]?).getD f=q
 rw[e];rfl
theorem zlo{w:List Str}(h:w.getLast?=some g):∃w0,w=w0 ++ [g]:=by
 cases e:w with
 |nil=>rw[e] at h;cases h
 |cons a t=>
  refine⟨(a::t).dropLast,?_⟩
  rw[e] at h
  have hl:=List.getLast?_eq_some_getLast (l:=a::t) (by simp)
  rw[hl] at h
  have hg:=ξj h
  conv=>lhs;rw[←List.dropLast_concat_getLast (l:=a::t) (by simp)]
  rw[hg]
theorem zqJ(hn:∀x∈hs,zi x=true){f:Pp}{qs:List Pp}(hw:∀w,f.way=some w->1<=w.length):lrB g hs ps lks hds f qs=zeE g hs ps lks hds f qs:=by
 unfold lrB zeE
 cases ew:f.way with
 |none=>rfl
 |some w=>
 have w1:=hw w ew
 show(ziw g f qs w&&(List.range w.length).all (lrC hs ps lks hds f qs w))=(zbF g hs ps (tD w)&&decide (w.headD ""=f.one)&&decide (qs.length+1=w.length)&&zdR w qs qs.length&&zgX hs lks hds f qs)
 rw[ξf]
 unfold ziw
 simp only[ζt,ζg,List.all_eq_true,List.mem_range]
 constructor
 ·rintro ⟨⟨h1,h2,h3,h4⟩,hC⟩
  have C:∀k,k<w.length->lr1 hs f w ((f::qs).getD k f) k=true/\lr2 hs ps lks f w ((zaS qs).getD k []) k=true/\lr3 hs hds f w ((f::qs).getD k f) ((zaS qs).getD k []) k=true:=λk hk=>by
   have:=hC k hk
   unfold lrC at this
   rw[ζt,ζt] at this
   exact this
  have C1:∀k,k<w.length->w.getD k ""∈hs/\(((f::qs).getD k f).one=w.getD k ""/\((f::qs).getD k f).to=zdl f w k)/\((f::qs).getD k f).way=some (w.drop k):=λk hk=>by
   have:=(C k hk).1
   unfold lr1 at this
   rw[ζt,ζt,ζg,ζg,ζg] at this
   exact this
  have W:WayOk g hs ps w:={
   nd:=h4
   mem:=λx hx=>by
    obtain⟨k,hk,e⟩:=List.getElem_of_mem hx
    have:=(C1 k hk).1
    simp only[List.getD,ζd hk,Option.getD_some,e] at this
    exact this
   last:=zlo h2
   tied:=λi a b ha hb=>by
    have hi:i+1<w.length:=by
     rcases ξa (i+1) w.length with z|z
     ·exact z
     ·rw[ζi z] at hb;cases hb
    have:=(C (i+1) hi).2.1
    unfold lr2 at this
    rw[ζt] at this
    have h:=this.1
    rw[ζf (Nat.succ_pos i),Bool.true_and,Bool.not_not,ζg] at h
    have e1:zdl f w (i+1)=a:=by show(w[i]?).getD ""=a;rw[ha];rfl
    have e2:w.getD (i+1) ""=b:=by show(w[i+1]?).getD ""=b;rw[hb];rfl
    rw[e1,e2] at h
    exact mem_nbrs.mpr (mem_nbrs.mp h).symm}
  refine⟨⟨⟨⟨W.ok hn,h1⟩,h3⟩,fits_iff.mpr λk q e=>?_⟩,all_so_iff.mpr λk hk=>?_⟩
  ·have hk:k<qs.length:=by
    rcases ξa k qs.length with z|z
    ·exact z
    ·rw[ζi z] at e;cases e
   have:=C1 (k+1) (by omega)
   rw[zko e] at this
   exact⟨this.2.1,this.2.2⟩
  ·have hk':k<w.length:=by omega
   obtain⟨_,⟨_,b2⟩,b3⟩:=C1 k hk'
   rw[zpo hk' b2 b3,(C k hk').2.2,Bool.and_true]
   have:=(C k hk').2.1
   unfold lr2 at this
   rw[ζt] at this
   exact this.2
 ·rintro ⟨⟨⟨⟨hW,h1⟩,h3⟩,hf⟩,hS⟩
  have hf:=fits_iff.mp hf
  have hS:=all_so_iff.mp hS
  unfold zbF at hW
  rw[ζt,ζt] at hW
  obtain⟨⟨_,hh⟩,hw'⟩:=hW
  rw[show zfr (tD w)=w from zeM w] at hw'
  unfold zoM at hw'
  rw[ζt,ζt,ζg,ζg,List.all_eq_true] at hw'
  obtain⟨⟨a1,a2⟩,a3⟩:=hw'
  have mem:∀x∈w,x∈hs:=λx hx=>by
   have hb:=List.all_eq_true.mp (show(w.map D.str).all (zL hs)=true from hh) (.str x) (List.mem_map.mpr ⟨x,hx,rfl⟩)
   obtain⟨y,ey,hy⟩:=zcw hb
   cases ey
   exact hy
  refine⟨⟨h1,a1,h3,a2⟩,λk hk=>?_⟩
  have at_:(((f::qs).getD k f).one=w.getD k ""/\((f::qs).getD k f).to=zdl f w k)/\((f::qs).getD k f).way=some (w.drop k):=by
   cases k with
   |zero=>
    refine⟨⟨?_,rfl⟩,ew⟩
    show f.one=w.getD 0 ""
    rw[←h1]
    cases w<;>rfl
   |succ k=>
    have hk':k<qs.length:=by omega
    have e:=ζd hk'
    rw[zko e]
    obtain⟨⟨b1,b2⟩,b3⟩:=hf k _ e
    exact⟨⟨b1,b2⟩,b3⟩
  have hso:=hS k (by omega)
  rw[zpo hk at_.1.2 at_.2,ζt] at hso
  unfold lrC lr1 lr2
  have hm:w.getD k ""∈hs:=by
   refine mem _ ?_
   simp only[List.getD,ζd hk,Option.getD_some]
   exact List.getElem_mem hk
  rw[ζf hm,ζf at_.1,ζf at_.2,hso.1,hso.2]
  cases k with
  |zero=>rfl
  |succ k=>
   have ht:=a3 k (List.mem_range.mpr (by omega))
   have ht:w.getD (k+1) ""∈zan ps (w.getD k ""):=ζh ht
   have ht2:zdl f w (k+1)∈zan ps (w.getD (k+1) ""):=mem_nbrs.mpr (mem_nbrs.mp ht).symm
   rw[ζf ht2,Bool.not_true,Bool.and_false];rfl
end
theorem ziH:∀{l ys:List Str},ys.Nodup->(∀x∈ys,x∈l)->¬l.Nodup->ys.length<l.length
 |[],_,_,_,h=>absurd List.nodup_nil h
 |a::t,ys,hy,hs,h=>by
  by_cases ha:a∈t
  ·have:ys.length<=t.length:=zb0 hy λx hx=>by
    rcases List.mem_cons.mp (hs x hx)with e|e
    ·rw[e];exact ha
    ·exact e
   rw[ζw];omega
  ·have ht:¬t.Nodup:=λz=>h (List.nodup_cons.mpr ⟨ha,z⟩)
   have:=ziH (l:=t) (ys:=ys.erase a) (hy.erase a) (λx hx=>by
    have hxy:=List.mem_of_mem_erase hx
    rcases List.mem_cons.mp (hs x hxy)with e|e
    ·subst e
     exact absurd hx (λz=>by have:=(List.Nodup.mem_erase_iff hy).mp z;exact this.1 rfl)
    ·exact e) ht
   have l2:=List.length_erase (a:=a) (l:=ys)
   rw[ζw]
   split at l2<;>omega
theorem zqu{l ys:List Str}(hy:ys.Nodup)(hm:∀x,x∈ys↔x∈l):decide ((ys.length:Int)<(l.length:Int))=!decide l.Nodup:=by
 by_cases h:l.Nodup
 ·have:l.length<=ys.length:=zb0 h λx hx=>(hm x).mpr hx
  rw[ζf h,ζo (by omega)];rfl
 ·have:=ziH hy (λx hx=>(hm x).mp hx) h
  rw[ζo h,ζf (by omega)];rfl
theorem vr{α:Type}{A Q:α->Prop}{v:α}(h:A v)(q:Q v):∃v,A v/\Q v:=⟨v,h,q⟩
theorem ixT{K:PySem.W.Frag}{p:Addr}{xs:List V}{i:Int}{v:V}{H:Hp}{Q:V->Prop}(h:H p=some (.tup xs))(e:atI xs i=some v)(q:Q v):∃p' xs' i' v',V.ref p= .ref p'/\V.int i= .int i'/\SqT K H p' xs'/\atI xs' i'=some v'/\Q v':=⟨p,xs,i,v,rfl,rfl, .inl (.inl h),e,q⟩
theorem ixL{K:PySem.W.Frag}{p:Addr}{xs:List V}{i:Int}{v:V}{H:Hp}{Q:V->Prop}(h:H p=some (.lst xs))(e:atI xs i=some v)(q:Q v):∃p' xs' i' v',V.ref p= .ref p'/\V.int i= .int i'/\SqL K H p' xs'/\atI xs' i'=some v'/\Q v':=⟨p,xs,i,v,rfl,rfl,SqL.of h,e,q⟩
theorem zd5{sa sb:TS}{N B C:L2.St->Hp->Prop}{R:VK}{σ:L2.St}{H:Hp}(k:∀n:L2.St->Hp->Prop,(∀σ' H',sb ⟨N,R,B,C⟩ σ' H'->n σ' H')->sa ⟨n,R,B,C⟩ σ H):zlu sa sb ⟨N,R,B,C⟩ σ H:=k _ λ_ _ h=>h
section
variable{α β γ δ ε ζ η θ:Type}
theorem ex2{p:α->β->Prop}(a:α)(b:β)(h:p a b):∃a b,p a b:=⟨a,b,h⟩
theorem ex3{p:α->β->γ->Prop}(a:α)(b:β)(c:γ)(h:p a b c):∃a b c,p a b c:=⟨a,b,c,h⟩
theorem ex4{p:α->β->γ->δ->Prop}(a:α)(b:β)(c:γ)(d:δ)(h:p a b c d):∃a b c d,p a b c d:=⟨a,b,c,d,h⟩
theorem ex8{p:α->β->γ->δ->ε->ζ->η->θ->Prop}(a:α)(b:β)(c:γ)(d:δ)(e:ε)(f:ζ)(g:η)(i:θ)(h:p a b c d e f g i):∃a b c d e f g i,p a b c d e f g i:=⟨a,b,c,d,e,f,g,i,h⟩
end
end RW
namespace K71
open PySem PySem.Spec PyProof.Rows L2
noncomputable def top(i:Nat):Stmt:=PySem.Challenge.pw_restways_k71_letters_that_are_not_right.main.body.getD i (.Pass ⟨0,0,0,0⟩)
noncomputable abbrev zcx:Stmt:=top 3
noncomputable abbrev zg2:List Str:=["thing"]
noncomputable abbrev zc0:List Str:=["thing"]
theorem zll:FnScope zg2 zc0 (zg zcx):=⟨rfl,rfl,rfl,by decide +kernel,rfl,by decide +kernel,by decide +kernel⟩
noncomputable def ziY:Scope:={kind:= .function,names:=[(".0", .local),("sign", .local)],isGenerator:=false,isCoroutine:=false,more:=[]}
theorem o_is_name_1:CompOk zg2 (zg zcx) ["sign"] [none] ziY:=⟨rfl,by decide +kernel,by decide +kernel,by decide +kernel,by decide +kernel,rfl,by decide +kernel⟩
noncomputable abbrev zb3:Stmt:=top 5
noncomputable abbrev zit:List Str:=["thing"]
noncomputable abbrev zcE:List Str:=["thing"]
theorem zic:FnScope zit zcE (zg zb3):=⟨rfl,rfl,rfl,by decide +kernel,rfl,by decide +kernel,by decide +kernel⟩
noncomputable abbrev zdD:Stmt:=top 6
noncomputable abbrev znh:List Str:=["thing","fewest","most"]
noncomputable abbrev zcL:List Str:=["thing","fewest","most"]
theorem znb:FnScope znh zcL (zg zdD):=⟨rfl,rfl,rfl,by decide +kernel,rfl,by decide +kernel,by decide +kernel⟩
noncomputable abbrev zbo:Stmt:=top 7
noncomputable abbrev zfI:List Str:=["things"]
noncomputable abbrev zcA:List Str:=["things"]
theorem zia:FnScope zfI zcA (zg zbo):=⟨rfl,rfl,rfl,by decide +kernel,rfl,by decide +kernel,by decide +kernel⟩
noncomputable def zgD:Scope:={kind:= .function,names:=[(".0", .local),("k", .local),("things", .free)],isGenerator:=false,isCoroutine:=false,more:=[]}
theorem o_is_rising_1:CompOk zfI (zg zbo) ["k","things"] [none,some 0] zgD:=⟨rfl,by decide +kernel,by decide +kernel,by decide +kernel,by decide +kernel,rfl,by decide +kernel⟩
noncomputable abbrev zed:Stmt:=top 9
noncomputable abbrev zoY:List Str:=["cond","way","marks","to","word","about"]
noncomputable abbrev zcW:List Str:=["cond","way","marks","to"]
theorem c_holds:FnScope zoY zcW (zg zed):=⟨rfl,rfl,rfl,by decide +kernel,rfl,by decide +kernel,by decide +kernel⟩
noncomputable abbrev zct:Stmt:=top 10
noncomputable abbrev zjU:List Str:=["conds","way","marks","to","cond"]
noncomputable abbrev zbQ:List Str:=["conds","way","marks","to"]
theorem c_all_hold:FnScope zjU zbQ (zg zct):=⟨rfl,rfl,rfl,by decide +kernel,rfl,by decide +kernel,by decide +kernel⟩
noncomputable abbrev zcu:Stmt:=top 12
noncomputable abbrev zj1:List Str:=["houses","thing"]
noncomputable abbrev zcp:List Str:=["houses","thing"]
theorem zju:FnScope zj1 zcp (zg zcu):=⟨rfl,rfl,rfl,by decide +kernel,rfl,by decide +kernel,by decide +kernel⟩
noncomputable abbrev zbz:Stmt:=top 13
noncomputable abbrev zhH:List Str:=["town","house"]
noncomputable abbrev zch:List Str:=["town","house"]
theorem zhM:FnScope zhH zch (zg zbz):=⟨rfl,rfl,rfl,by decide +kernel,rfl,by decide +kernel,by decide +kernel⟩
noncomputable abbrev zcq:Stmt:=top 14
noncomputable abbrev zj9:List Str:=["town","house"]
noncomputable abbrev zde:List Str:=["town","house"]
theorem zjL:FnScope zj9 zde (zg zcq):=⟨rfl,rfl,rfl,by decide +kernel,rfl,by decide +kernel,by decide +kernel⟩
noncomputable abbrev zd0:Stmt:=top 15
noncomputable abbrev zjo:List Str:=["town","house","ties"]
noncomputable abbrev zfj:List Str:=["town","house"]
theorem c_tied:FnScope zjo zfj (zg zd0):=⟨rfl,rfl,rfl,by decide +kernel,rfl,by decide +kernel,by decide +kernel⟩
noncomputable def zmN:Scope:={kind:= .function,names:=[(".0", .local),("a", .local),("b", .local),("house", .free)],isGenerator:=false,isCoroutine:=false,more:=[]}
theorem o_tied_1:CompOk zjo (zg zd0) ["a","b","house"] [none,none,some 1] zmN:=⟨rfl,by decide +kernel,by decide +kernel,by decide +kernel,by decide +kernel,rfl,by decide +kernel⟩
noncomputable def zm7:Scope:={kind:= .function,names:=[(".0", .local),("a", .local),("b", .local),("house", .free)],isGenerator:=false,isCoroutine:=false,more:=[]}
theorem o_tied_2:CompOk zjo (zg zd0) ["a","b","house"] [none,none,some 1] zm7:=⟨rfl,by decide +kernel,by decide +kernel,by decide +kernel,by decide +kernel,rfl,by decide +kernel⟩
noncomputable abbrev zcF:Stmt:=top 16
noncomputable abbrev zgf:List Str:=["town","thing","goal","houses"]
noncomputable abbrev zec:List Str:=["town","thing"]
theorem c_is_way:FnScope zgf zec (zg zcF):=⟨rfl,rfl,rfl,by decide +kernel,rfl,by decide +kernel,by decide +kernel⟩
noncomputable def zkd:Scope:={kind:= .function,names:=[(".0", .local),("house", .local),("is_house", .globalImplicit),("houses", .free)],isGenerator:=false,isCoroutine:=false,more:=[]}
theorem o_is_way_1:CompOk zgf (zg zcF) ["house","houses"] [none,some 3] zkd:=⟨rfl,by decide +kernel,by decide +kernel,by decide +kernel,by decide +kernel,rfl,by decide +kernel⟩
noncomputable def zjW:Scope:={kind:= .function,names:=[(".0", .local),("k", .local),("tied", .globalImplicit),("thing", .free),("town", .free)],isGenerator:=false,isCoroutine:=false,more:=[]}
theorem o_is_way_2:CompOk zgf (zg zcF) ["k","thing","town"] [none,some 1,some 0] zjW:=⟨rfl,by decide +kernel,by decide +kernel,by decide +kernel,by decide +kernel,rfl,by decide +kernel⟩
noncomputable abbrev zaH:Stmt:=top 18
noncomputable abbrev zdX:List Str:=["marks","act","word","mark","others"]
noncomputable abbrev zbm:List Str:=["marks","act"]
theorem c_marks_behind:FnScope zdX zbm (zg zaH):=⟨rfl,rfl,rfl,by decide +kernel,rfl,by decide +kernel,by decide +kernel⟩
noncomputable def zfi:Scope:={kind:= .function,names:=[(".0", .local),("one", .local),("mark", .free)],isGenerator:=false,isCoroutine:=false,more:=[]}
theorem o_marks_behind_1:CompOk zdX (zg zaH) ["one","mark"] [none,some 3] zfi:=⟨rfl,by decide +kernel,by decide +kernel,by decide +kernel,by decide +kernel,rfl,by decide +kernel⟩
noncomputable abbrev zdB:Stmt:=top 19
noncomputable abbrev zmL:List Str:=["town","way","marks","to","told","conds","act"]
noncomputable abbrev zd8:List Str:=["town","way","marks","to"]
theorem c_handed:FnScope zmL zd8 (zg zdB):=⟨rfl,rfl,rfl,by decide +kernel,rfl,by decide +kernel,by decide +kernel⟩
noncomputable abbrev zei:Stmt:=top 21
noncomputable abbrev zn4:List Str:=["town","way","marks","conds","told"]
noncomputable abbrev zeL:List Str:=["town","way","marks"]
theorem c_worth:FnScope zn4 zeL (zg zei):=⟨rfl,rfl,rfl,by decide +kernel,rfl,by decide +kernel,by decide +kernel⟩
noncomputable abbrev zbt:Stmt:=top 26
noncomputable abbrev zfC:List Str:=["thing","fewest","most"]
noncomputable abbrev zcD:List Str:=["thing","fewest","most"]
theorem zix:FnScope zfC zcD (zg zbt):=⟨rfl,rfl,rfl,by decide +kernel,rfl,by decide +kernel,by decide +kernel⟩
noncomputable def zgE:Scope:={kind:= .function,names:=[(".0", .local),("name", .local),("is_name", .globalImplicit)],isGenerator:=false,isCoroutine:=false,more:=[]}
theorem o_are_names_1:CompOk zfC (zg zbt) ["name"] [none] zgE:=⟨rfl,by decide +kernel,by decide +kernel,by decide +kernel,by decide +kernel,rfl,by decide +kernel⟩
noncomputable abbrev zcl:Stmt:=top 27
noncomputable abbrev zj4:List Str:=["town","thing","one","to","nr","way","marks"]
noncomputable abbrev zc3:List Str:=["town","thing"]
theorem c_is_paper:FnScope zj4 zc3 (zg zcl):=⟨rfl,rfl,rfl,by decide +kernel,rfl,by decide +kernel,by decide +kernel⟩
noncomputable abbrev zbl:Stmt:=top 28
noncomputable abbrev zfG:List Str:=["town","thing"]
noncomputable abbrev zcI:List Str:=["town","thing"]
theorem zim:FnScope zfG zcI (zg zbl):=⟨rfl,rfl,rfl,by decide +kernel,rfl,by decide +kernel,by decide +kernel⟩
noncomputable def zgC:Scope:={kind:= .function,names:=[(".0", .local),("paper", .local),("is_paper", .globalImplicit),("town", .free)],isGenerator:=false,isCoroutine:=false,more:=[]}
theorem o_is_sealed_1:CompOk zfG (zg zbl) ["paper","town"] [none,some 0] zgC:=⟨rfl,by decide +kernel,by decide +kernel,by decide +kernel,by decide +kernel,rfl,by decide +kernel⟩
noncomputable abbrev zaL:Stmt:=top 29
noncomputable abbrev zfN:List Str:=["town","paper","marks","one","to","nr","way","told"]
noncomputable abbrev zbd:List Str:=["town","paper","marks"]
theorem c_was_handed_so:FnScope zfN zbd (zg zaL):=⟨rfl,rfl,rfl,by decide +kernel,rfl,by decide +kernel,by decide +kernel⟩
noncomputable abbrev zbn:Stmt:=top 30
noncomputable abbrev zeB:List Str:=["town","thing","first","papers","way","k","paper","came"]
noncomputable abbrev zdd:List Str:=["town","thing"]
theorem c_is_right:FnScope zeB zdd (zg zbn):=⟨rfl,rfl,rfl,by decide +kernel,rfl,by decide +kernel,by decide +kernel⟩
noncomputable def zhC:Scope:={kind:= .function,names:=[(".0", .local),("paper", .local)],isGenerator:=false,isCoroutine:=false,more:=[]}
theorem o_is_right_1:CompOk zeB (zg zbn) ["paper"] [none] zhC:=⟨rfl,by decide +kernel,by decide +kernel,by decide +kernel,by decide +kernel,rfl,by decide +kernel⟩
noncomputable def zh2:Scope:={kind:= .function,names:=[(".0", .local),("paper", .local),("marks", .local),("was_handed_so", .globalImplicit),("town", .free)],isGenerator:=false,isCoroutine:=false,more:=[]}
theorem o_is_right_2:CompOk zeB (zg zbn) ["paper","marks","town"] [none,none,some 0] zh2:=⟨rfl,by decide +kernel,by decide +kernel,by decide +kernel,by decide +kernel,rfl,by decide +kernel⟩
noncomputable abbrev zbY:Stmt:=top 32
noncomputable abbrev zil:List Str:=["_law_script","_law_k","_law_cell"]
noncomputable abbrev zcG:List Str:=["_law_script","_law_k"]
theorem c__law_hand:FnScope zil zcG (zg zbY):=⟨rfl,rfl,rfl,by decide +kernel,rfl,by decide +kernel,by decide +kernel⟩
noncomputable abbrev zb2:Stmt:=top 33
noncomputable abbrev zid:List Str:=["_law_hand_here","_law_many","_law_digit","_law_turn","_law_mixed","_law_rest_here"]
noncomputable abbrev zaf:List Str:=["_law_hand_here","_law_many"]
theorem c__law_take:FnScope zid zaf (zg zb2):=⟨rfl,rfl,rfl,by decide +kernel,rfl,by decide +kernel,by decide +kernel⟩
noncomputable abbrev zb4:Stmt:=top 34
noncomputable abbrev zi3:List Str:=["_law_hand_here","_law_some"]
noncomputable abbrev zag:List Str:=["_law_hand_here","_law_some"]
theorem zfB:FnScope zi3 zag (zg zb4):=⟨rfl,rfl,rfl,by decide +kernel,rfl,by decide +kernel,by decide +kernel⟩
noncomputable abbrev zba:Stmt:=top 35
noncomputable abbrev zeZ:List Str:=["_law_hand_here","_law_many","_law_letters","_law_first","_law_step","_law_names_here","_law_kept","_law_spot","_law_k"]
noncomputable abbrev zcg:List Str:=["_law_hand_here","_law_many"]
theorem c__law_names:FnScope zeZ zcg (zg zba):=⟨rfl,rfl,rfl,by decide +kernel,rfl,by decide +kernel,by decide +kernel⟩
noncomputable def zgh:Scope:={kind:= .function,names:=[(".0", .local),("_law_k", .local),("_law_first", .free),("_law_letters", .free),("_law_step", .free)],isGenerator:=false,isCoroutine:=false,more:=[]}
theorem o__law_names_1:CompOk zeZ (zg zba) ["_law_k","_law_first","_law_letters","_law_step"] [none,some 3,some 2,some 4] zgh:=⟨rfl,by decide +kernel,by decide +kernel,by decide +kernel,by decide +kernel,rfl,by decide +kernel⟩
noncomputable abbrev zb1:Stmt:=top 36
noncomputable abbrev ziC:List Str:=["_law_hand_here","_law_houses","_law_marks","_law_to","_law_way","_law_cond_here"]
noncomputable abbrev zcK:List Str:=["_law_hand_here","_law_houses","_law_marks","_law_to"]
theorem c__law_cond:FnScope ziC zcK (zg zb1):=⟨rfl,rfl,rfl,by decide +kernel,rfl,by decide +kernel,by decide +kernel⟩
noncomputable abbrev za8:Stmt:=top 37
noncomputable abbrev ze8:List Str:=["_law_hand_here","_law_houses","_law_marks","_law_to","_law_many"]
noncomputable abbrev zce:List Str:=["_law_hand_here","_law_houses","_law_marks","_law_to"]
theorem c__law_conds:FnScope ze8 zce (zg za8):=⟨rfl,rfl,rfl,by decide +kernel,rfl,by decide +kernel,by decide +kernel⟩
noncomputable def zgi:Scope:={kind:= .function,names:=[(".0", .local),("_law_k", .local),("_law_cond", .globalImplicit),("_law_hand_here", .free),("_law_houses", .free),("_law_marks", .free),("_law_to", .free)],isGenerator:=false,isCoroutine:=false,more:=[]}
theorem o__law_conds_1:CompOk ze8 (zg za8) ["_law_k","_law_hand_here","_law_houses","_law_marks","_law_to"] [none,some 0,some 1,some 2,some 3] zgi:=⟨rfl,by decide +kernel,by decide +kernel,by decide +kernel,by decide +kernel,rfl,by decide +kernel⟩
noncomputable abbrev zbR:Stmt:=top 38
noncomputable abbrev ziR:List Str:=["_law_hand_here","_law_houses","_law_more","_law_ties_here","_law_k","_law_a","_law_b"]
noncomputable abbrev zcH:List Str:=["_law_hand_here","_law_houses","_law_more"]
theorem c__law_ties:FnScope ziR zcH (zg zbR):=⟨rfl,rfl,rfl,by decide +kernel,rfl,by decide +kernel,by decide +kernel⟩
noncomputable abbrev zah:Stmt:=top 39
noncomputable abbrev zcm:List Str:=["_law_hand_here","_law_many","_law_names_here","_law_houses","_law_marks","_law_ties_here_here","_law_likings","_law_hands","_law_house","_law_worths","_law_some","_law_acts"]
noncomputable abbrev za1:List Str:=["_law_hand_here"]
theorem c__law_mild_town:FnScope zcm za1 (zg zah):=⟨rfl,rfl,rfl,by decide +kernel,rfl,by decide +kernel,by decide +kernel⟩
noncomputable def zeC:Scope:={kind:= .function,names:=[(".0", .local),("_law_k", .local),("_law_conds", .globalImplicit),("_law_pick", .globalImplicit),("_law_hand_here", .free),("_law_marks", .free),("_law_names_here", .free),("_law_worths", .free)],isGenerator:=false,isCoroutine:=false,more:=[]}
theorem o__law_mild_town_1:CompOk zcm (zg zah) ["_law_k","_law_hand_here","_law_marks","_law_names_here","_law_worths"] [none,some 0,some 4,some 2,some 9] zeC:=⟨rfl,by decide +kernel,by decide +kernel,by decide +kernel,by decide +kernel,rfl,by decide +kernel⟩
noncomputable def zeF:Scope:={kind:= .function,names:=[(".0", .local),("_law_k", .local),("_law_conds", .globalImplicit),("_law_pick", .globalImplicit),("_law_acts", .free),("_law_hand_here", .free),("_law_marks", .free),("_law_names_here", .free)],isGenerator:=false,isCoroutine:=false,more:=[]}
theorem o__law_mild_town_2:CompOk zcm (zg zah) ["_law_k","_law_acts","_law_hand_here","_law_marks","_law_names_here"] [none,some 11,some 0,some 4,some 2] zeF:=⟨rfl,by decide +kernel,by decide +kernel,by decide +kernel,by decide +kernel,rfl,by decide +kernel⟩
noncomputable abbrev zac:Stmt:=top 40
noncomputable abbrev zbM:List Str:=["_law_hand_here","_law_town","_law_way","_law_k","_law_others"]
noncomputable abbrev zbc:List Str:=["_law_hand_here","_law_town"]
theorem c__law_some_way:FnScope zbM zbc (zg zac):=⟨rfl,rfl,rfl,by decide +kernel,rfl,by decide +kernel,by decide +kernel⟩
noncomputable def ze0:Scope:={kind:= .function,names:=[(".0", .local),("_law_pair", .local),("_law_way", .free)],isGenerator:=false,isCoroutine:=false,more:=[]}
theorem o__law_some_way_1:CompOk zbM (zg zac) ["_law_pair","_law_way"] [none,some 2] ze0:=⟨rfl,by decide +kernel,by decide +kernel,by decide +kernel,by decide +kernel,rfl,by decide +kernel⟩
noncomputable def zeJ:Scope:={kind:= .function,names:=[(".0", .local),("_law_pair", .local),("_law_way", .free)],isGenerator:=false,isCoroutine:=false,more:=[]}
theorem o__law_some_way_2:CompOk zbM (zg zac) ["_law_pair","_law_way"] [none,some 2] zeJ:=⟨rfl,by decide +kernel,by decide +kernel,by decide +kernel,by decide +kernel,rfl,by decide +kernel⟩
noncomputable def ze9:Scope:={kind:= .function,names:=[(".0", .local),("_law_house", .local),("_law_way", .free)],isGenerator:=false,isCoroutine:=false,more:=[]}
theorem o__law_some_way_3:CompOk zbM (zg zac) ["_law_house","_law_way"] [none,some 2] ze9:=⟨rfl,by decide +kernel,by decide +kernel,by decide +kernel,by decide +kernel,rfl,by decide +kernel⟩
noncomputable abbrev zX:Stmt:=top 41
noncomputable abbrev zcb:List Str:=["_law_cond_here","_law_way","_law_marks","_law_to"]
noncomputable abbrev zY:List Str:=["_law_cond_here","_law_way","_law_marks","_law_to"]
theorem zdk:FnScope zcb zY (zg zX):=⟨rfl,rfl,rfl,by decide +kernel,rfl,by decide +kernel,by decide +kernel⟩
noncomputable def zen:Scope:={kind:= .function,names:=[(".0", .local),("_law_house", .local),("_law_cond_here", .free)],isGenerator:=false,isCoroutine:=false,more:=[]}
theorem o__law_cond_holds_1:CompOk zcb (zg zX) ["_law_house","_law_cond_here"] [none,some 0] zen:=⟨rfl,by decide +kernel,by decide +kernel,by decide +kernel,by decide +kernel,rfl,by decide +kernel⟩
noncomputable def zem:Scope:={kind:= .function,names:=[(".0", .local),("_law_mark", .local),("_law_cond_here", .free)],isGenerator:=false,isCoroutine:=false,more:=[]}
theorem o__law_cond_holds_2:CompOk zcb (zg zX) ["_law_mark","_law_cond_here"] [none,some 0] zem:=⟨rfl,by decide +kernel,by decide +kernel,by decide +kernel,by decide +kernel,rfl,by decide +kernel⟩
noncomputable abbrev zaO:Stmt:=top 42
noncomputable abbrev zfK:List Str:=["_law_conds_here","_law_way","_law_marks","_law_to","_law_cond_here"]
noncomputable abbrev zaN:List Str:=["_law_conds_here","_law_way","_law_marks","_law_to"]
theorem c__law_all_hold:FnScope zfK zaN (zg zaO):=⟨rfl,rfl,rfl,by decide +kernel,rfl,by decide +kernel,by decide +kernel⟩
noncomputable abbrev zaR:Stmt:=top 43
noncomputable abbrev zdG:List Str:=["_law_town","_law_way","_law_marks","_law_at","_law_held"]
noncomputable abbrev zbD:List Str:=["_law_town","_law_way","_law_marks"]
theorem c__law_worth:FnScope zdG zbD (zg zaR):=⟨rfl,rfl,rfl,by decide +kernel,rfl,by decide +kernel,by decide +kernel⟩
noncomputable def zgB:Scope:={kind:= .function,names:=[(".0", .local),("_law_k", .local),("_law_house", .local),("_law_way", .free)],isGenerator:=false,isCoroutine:=false,more:=[]}
theorem o__law_worth_1:CompOk zdG (zg zaR) ["_law_k","_law_house","_law_way"] [none,none,some 1] zgB:=⟨rfl,by decide +kernel,by decide +kernel,by decide +kernel,by decide +kernel,rfl,by decide +kernel⟩
noncomputable def zgu:Scope:={kind:= .function,names:=[(".0", .local),("_law_conds_here", .local),("_law_number", .local),("_law_all_hold", .globalImplicit),("_law_marks", .free),("_law_way", .free)],isGenerator:=false,isCoroutine:=false,more:=[]}
theorem o__law_worth_2:CompOk zdG (zg zaR) ["_law_conds_here","_law_number","_law_marks","_law_way"] [none,none,some 2,some 1] zgu:=⟨rfl,by decide +kernel,by decide +kernel,by decide +kernel,by decide +kernel,rfl,by decide +kernel⟩
noncomputable abbrev zaC:Stmt:=top 44
noncomputable abbrev zds:List Str:=["_law_town","_law_way","_law_marks","_law_to","_law_at","_law_now","_law_conds_here","_law_act"]
noncomputable abbrev zaV:List Str:=["_law_town","_law_way","_law_marks","_law_to"]
theorem c__law_handed:FnScope zds zaV (zg zaC):=⟨rfl,rfl,rfl,by decide +kernel,rfl,by decide +kernel,by decide +kernel⟩
noncomputable def zfS:Scope:={kind:= .function,names:=[(".0", .local),("_law_k", .local),("_law_house", .local),("_law_way", .free)],isGenerator:=false,isCoroutine:=false,more:=[]}
theorem o__law_handed_1:CompOk zds (zg zaC) ["_law_k","_law_house","_law_way"] [none,none,some 1] zfS:=⟨rfl,by decide +kernel,by decide +kernel,by decide +kernel,by decide +kernel,rfl,by decide +kernel⟩
noncomputable def zfQ:Scope:={kind:= .function,names:=[(".0", .local),("_law_mark", .local),("_law_act", .free)],isGenerator:=false,isCoroutine:=false,more:=[]}
theorem o__law_handed_2:CompOk zds (zg zaC) ["_law_mark","_law_act"] [none,some 7] zfQ:=⟨rfl,by decide +kernel,by decide +kernel,by decide +kernel,by decide +kernel,rfl,by decide +kernel⟩
noncomputable abbrev zbT:Stmt:=top 45
noncomputable abbrev zi9:List Str:=["_law_town","_law_one","_law_other"]
noncomputable abbrev zbS:List Str:=["_law_town","_law_one","_law_other"]
theorem ziq:FnScope zi9 zbS (zg zbT):=⟨rfl,rfl,rfl,by decide +kernel,rfl,by decide +kernel,by decide +kernel⟩
noncomputable abbrev zbq:Stmt:=top 46
noncomputable abbrev zfy:List Str:=["_law_town","_law_house"]
noncomputable abbrev zb6:List Str:=["_law_town","_law_house"]
theorem zi1:FnScope zfy zb6 (zg zbq):=⟨rfl,rfl,rfl,by decide +kernel,rfl,by decide +kernel,by decide +kernel⟩
noncomputable def zgG:Scope:={kind:= .function,names:=[(".0", .local),("_law_other", .local),("_law_tied", .globalImplicit),("_law_house", .free),("_law_town", .free)],isGenerator:=false,isCoroutine:=false,more:=[]}
theorem o__law_near_1:CompOk zfy (zg zbq) ["_law_other","_law_house","_law_town"] [none,some 1,some 0] zgG:=⟨rfl,by decide +kernel,by decide +kernel,by decide +kernel,by decide +kernel,rfl,by decide +kernel⟩
noncomputable abbrev zbh:Stmt:=top 47
noncomputable abbrev zgN:List Str:=["_law_hand_here","_law_town","_law_way","_law_to","_law_marks","_law_papers_here","_law_k","_law_piece","_law_whom"]
noncomputable abbrev zbJ:List Str:=["_law_hand_here","_law_town","_law_way","_law_to"]
theorem c__law_papers:FnScope zgN zbJ (zg zbh):=⟨rfl,rfl,rfl,by decide +kernel,rfl,by decide +kernel,by decide +kernel⟩
noncomputable abbrev zaP:Stmt:=top 48
noncomputable abbrev zfO:List Str:=["_law_town","_law_sealed","_law_first","_law_papers_here","_law_way","_law_told","_law_marks","_law_k","_law_whom"]
noncomputable abbrev zbb:List Str:=["_law_town","_law_sealed"]
theorem c__law_is_right:FnScope zfO zbb (zg zaP):=⟨rfl,rfl,rfl,by decide +kernel,rfl,by decide +kernel,by decide +kernel⟩
noncomputable abbrev zcr:Stmt:=top 49
noncomputable abbrev zjY:List Str:=["_law_sealed","_law_at","_law_paper","_law_told"]
noncomputable abbrev zdb:List Str:=["_law_sealed","_law_at","_law_paper"]
theorem c__law_put:FnScope zjY zdb (zg zcr):=⟨rfl,rfl,rfl,by decide +kernel,rfl,by decide +kernel,by decide +kernel⟩
noncomputable abbrev zJ:Stmt:=top 50
noncomputable abbrev zaT:List Str:=["_law_hand_here","_law_town","_law_sealed","_law_told","_law_at","_law_one","_law_to","_law_nr","_law_way","_law_marks","_law_near_here","_law_names_here","_law_some"]
noncomputable abbrev zar:List Str:=["_law_hand_here","_law_town","_law_sealed"]
theorem c__law_papers_turned:FnScope zaT zar (zg zJ):=⟨rfl,rfl,rfl,by decide +kernel,rfl,by decide +kernel,by decide +kernel⟩
noncomputable def zdF:Scope:={kind:= .function,names:=[(".0", .local),("_law_mark", .local),("_law_marks", .free)],isGenerator:=false,isCoroutine:=false,more:=[]}
theorem o__law_papers_turned_1:CompOk zaT (zg zJ) ["_law_mark","_law_marks"] [none,some 9] zdF:=⟨rfl,by decide +kernel,by decide +kernel,by decide +kernel,by decide +kernel,rfl,by decide +kernel⟩
noncomputable def zdK:Scope:={kind:= .function,names:=[(".0", .local),("_law_mark", .local),("tuple", .globalImplicit),("sorted", .globalImplicit),("_law_marks", .free),("_law_nr", .free),("_law_one", .free),("_law_to", .free),("_law_way", .free)],isGenerator:=false,isCoroutine:=false,more:=[]}
theorem o__law_papers_turned_2:CompOk zaT (zg zJ) ["_law_mark","_law_marks","_law_nr","_law_one","_law_to","_law_way"] [none,some 9,some 7,some 5,some 6,some 8] zdK:=⟨rfl,by decide +kernel,by decide +kernel,by decide +kernel,by decide +kernel,rfl,by decide +kernel⟩
noncomputable def zdH:Scope:={kind:= .function,names:=[(".0", .local),("_law_paper", .local),("_law_put", .globalImplicit),("_law_at", .free),("_law_sealed", .free)],isGenerator:=false,isCoroutine:=false,more:=[]}
theorem o__law_papers_turned_3:CompOk zaT (zg zJ) ["_law_paper","_law_at","_law_sealed"] [none,some 4,some 2] zdH:=⟨rfl,by decide +kernel,by decide +kernel,by decide +kernel,by decide +kernel,rfl,by decide +kernel⟩
noncomputable abbrev zaX:Stmt:=top 51
noncomputable abbrev zeu:List Str:=["_law_hand_here","_law_town","_law_sealed","_law_first","_law_papers_here","_law_at","_law_found"]
noncomputable abbrev zbI:List Str:=["_law_hand_here","_law_town","_law_sealed"]
theorem c__law_turned:FnScope zeu zbI (zg zaX):=⟨rfl,rfl,rfl,by decide +kernel,rfl,by decide +kernel,by decide +kernel⟩
noncomputable def zfR:Scope:={kind:= .function,names:=[(".0", .local),("_law_one", .local),("len", .globalImplicit)],isGenerator:=false,isCoroutine:=false,more:=[]}
theorem o__law_turned_1:CompOk zeu (zg zaX) ["_law_one"] [none] zfR:=⟨rfl,by decide +kernel,by decide +kernel,by decide +kernel,by decide +kernel,rfl,by decide +kernel⟩
noncomputable abbrev zap:Stmt:=top 52
noncomputable abbrev zey:List Str:=["_law_hand_here","_law_town","_law_way","_law_at","_law_never","_law_keep","_law_more","_law_found","_law_hands"]
noncomputable abbrev zaG:List Str:=["_law_hand_here","_law_town","_law_way"]
theorem c__law_other_towns:FnScope zey zaG (zg zap):=⟨rfl,rfl,rfl,by decide +kernel,rfl,by decide +kernel,by decide +kernel⟩
noncomputable abbrev zb7:Stmt:=top 53
noncomputable abbrev zjd:List Str:=["_law_town","_law_sealed","_law_found"]
noncomputable abbrev zcB:List Str:=["_law_town","_law_sealed"]
theorem c__law_same:FnScope zjd zcB (zg zb7):=⟨rfl,rfl,rfl,by decide +kernel,rfl,by decide +kernel,by decide +kernel⟩
noncomputable abbrev zdQ:Stmt:=top 54
noncomputable abbrev zmn:List Str:=["_law_script","_law_k","_law_hand_here","_law_town","_law_turn","_law_way","_law_to","_law_sealed","_law_some"]
noncomputable abbrev zkA:List Str:=["_law_script"]
theorem c_law:FnScope zmn zkA (zg zdQ):=⟨rfl,rfl,rfl,by decide +kernel,rfl,by decide +kernel,by decide +kernel⟩
noncomputable def zoZ:Scope:={kind:= .function,names:=[(".0", .local),("_law_one", .local),("_law_same", .globalImplicit),("_law_town", .free)],isGenerator:=false,isCoroutine:=false,more:=[]}
theorem o_law_1:CompOk zmn (zg zdQ) ["_law_one","_law_town"] [none,some 3] zoZ:=⟨rfl,by decide +kernel,by decide +kernel,by decide +kernel,by decide +kernel,rfl,by decide +kernel⟩
noncomputable def zn9:Scope:={kind:= .function,names:=[(".0", .local),("_law_other", .local),("_law_same", .globalImplicit),("_law_sealed", .free)],isGenerator:=false,isCoroutine:=false,more:=[]}
theorem o_law_2:CompOk zmn (zg zdQ) ["_law_other","_law_sealed"] [none,some 7] zn9:=⟨rfl,by decide +kernel,by decide +kernel,by decide +kernel,by decide +kernel,rfl,by decide +kernel⟩
set_option genInjectivity false in
set_option genSizeOfSpec false in
set_option genSizeOf false in
structure Ev(K:PySem.W.Frag)(mg:Str->Option Value) where
 a_is_name:Addr
 d_is_name:FuncData
 is_name:RW.At K mg "is_name" zcx zc0 a_is_name d_is_name
 a_is_number:Addr
 d_is_number:FuncData
 is_number:RW.At K mg "is_number" zb3 zcE a_is_number d_is_number
 a_is_row:Addr
 d_is_row:FuncData
 is_row:RW.At K mg "is_row" zdD zcL a_is_row d_is_row
 a_is_rising:Addr
 d_is_rising:FuncData
 is_rising:RW.At K mg "is_rising" zbo zcA a_is_rising d_is_rising
 a_holds:Addr
 d_holds:FuncData
 holds:RW.AtD K mg "holds" zed zcW a_holds d_holds
 a_all_hold:Addr
 d_all_hold:FuncData
 all_hold:RW.AtD K mg "all_hold" zct zbQ a_all_hold d_all_hold
 a_is_house:Addr
 d_is_house:FuncData
 is_house:RW.At K mg "is_house" zcu zcp a_is_house d_is_house
 a_likings_of:Addr
 d_likings_of:FuncData
 likings_of:RW.At K mg "likings_of" zbz zch a_likings_of d_likings_of
 a_hands_of:Addr
 d_hands_of:FuncData
 hands_of:RW.At K mg "hands_of" zcq zde a_hands_of d_hands_of
 a_tied:Addr
 d_tied:FuncData
 tied:RW.At K mg "tied" zd0 zfj a_tied d_tied
 a_is_way:Addr
 d_is_way:FuncData
 is_way:RW.At K mg "is_way" zcF zec a_is_way d_is_way
 a_marks_behind:Addr
 d_marks_behind:FuncData
 marks_behind:RW.At K mg "marks_behind" zaH zbm a_marks_behind d_marks_behind
 a_handed:Addr
 d_handed:FuncData
 handed:RW.At K mg "handed" zdB zd8 a_handed d_handed
 a_worth:Addr
 d_worth:FuncData
 worth:RW.At K mg "worth" zei zeL a_worth d_worth
 a_are_names:Addr
 d_are_names:FuncData
 are_names:RW.At K mg "are_names" zbt zcD a_are_names d_are_names
 a_is_paper:Addr
 d_is_paper:FuncData
 is_paper:RW.At K mg "is_paper" zcl zc3 a_is_paper d_is_paper
 a_is_sealed:Addr
 d_is_sealed:FuncData
 is_sealed:RW.At K mg "is_sealed" zbl zcI a_is_sealed d_is_sealed
 a_was_handed_so:Addr
 d_was_handed_so:FuncData
 was_handed_so:RW.At K mg "was_handed_so" zaL zbd a_was_handed_so d_was_handed_so
 a_is_right:Addr
 d_is_right:FuncData
 is_right:RW.At K mg "is_right" zbn zdd a_is_right d_is_right
 a__law_hand:Addr
 d__law_hand:FuncData
 _law_hand:RW.At K mg "_law_hand" zbY zcG a__law_hand d__law_hand
 a__law_take:Addr
 d__law_take:FuncData
 _law_take:RW.At K mg "_law_take" zb2 zaf a__law_take d__law_take
 a__law_pick:Addr
 d__law_pick:FuncData
 _law_pick:RW.At K mg "_law_pick" zb4 zag a__law_pick d__law_pick
 a__law_names:Addr
 d__law_names:FuncData
 _law_names:RW.At K mg "_law_names" zba zcg a__law_names d__law_names
 a__law_cond:Addr
 d__law_cond:FuncData
 _law_cond:RW.At K mg "_law_cond" zb1 zcK a__law_cond d__law_cond
 a__law_conds:Addr
 d__law_conds:FuncData
 _law_conds:RW.At K mg "_law_conds" za8 zce a__law_conds d__law_conds
 a__law_ties:Addr
 d__law_ties:FuncData
 _law_ties:RW.At K mg "_law_ties" zbR zcH a__law_ties d__law_ties
 a__law_mild_town:Addr
 d__law_mild_town:FuncData
 _law_mild_town:RW.At K mg "_law_mild_town" zah za1 a__law_mild_town d__law_mild_town
 a__law_some_way:Addr
 d__law_some_way:FuncData
 _law_some_way:RW.At K mg "_law_some_way" zac zbc a__law_some_way d__law_some_way
 a__law_cond_holds:Addr
 d__law_cond_holds:FuncData
 _law_cond_holds:RW.At K mg "_law_cond_holds" zX zY a__law_cond_holds d__law_cond_holds
 a__law_all_hold:Addr
 d__law_all_hold:FuncData
 _law_all_hold:RW.At K mg "_law_all_hold" zaO zaN a__law_all_hold d__law_all_hold
 a__law_worth:Addr
 d__law_worth:FuncData
 _law_worth:RW.At K mg "_law_worth" zaR zbD a__law_worth d__law_worth
 a__law_handed:Addr
 d__law_handed:FuncData
 _law_handed:RW.At K mg "_law_handed" zaC zaV a__law_handed d__law_handed
 a__law_tied:Addr
 d__law_tied:FuncData
 _law_tied:RW.At K mg "_law_tied" zbT zbS a__law_tied d__law_tied
 a__law_near:Addr
 d__law_near:FuncData
 _law_near:RW.At K mg "_law_near" zbq zb6 a__law_near d__law_near
 a__law_papers:Addr
 d__law_papers:FuncData
 _law_papers:RW.At K mg "_law_papers" zbh zbJ a__law_papers d__law_papers
 a__law_is_right:Addr
 d__law_is_right:FuncData
 _law_is_right:RW.At K mg "_law_is_right" zaP zbb a__law_is_right d__law_is_right
 a__law_put:Addr
 d__law_put:FuncData
 _law_put:RW.At K mg "_law_put" zcr zdb a__law_put d__law_put
 a__law_papers_turned:Addr
 d__law_papers_turned:FuncData
 _law_papers_turned:RW.At K mg "_law_papers_turned" zJ zar a__law_papers_turned d__law_papers_turned
 a__law_turned:Addr
 d__law_turned:FuncData
 _law_turned:RW.At K mg "_law_turned" zaX zbI a__law_turned d__law_turned
 a__law_other_towns:Addr
 d__law_other_towns:FuncData
 _law_other_towns:RW.At K mg "_law_other_towns" zap zaG a__law_other_towns d__law_other_towns
 a__law_same:Addr
 d__law_same:FuncData
 _law_same:RW.At K mg "_law_same" zb7 zcB a__law_same d__law_same
 a_law:Addr
 d_law:FuncData
 law:RW.At K mg "law" zdQ zkA a_law d_law
 v_LONGEST:Value
 m_LONGEST:mg "LONGEST"=some v_LONGEST
 r_LONGEST:RelV (.int 8) v_LONGEST
 v_LONGEST_WAY:Value
 m_LONGEST_WAY:mg "LONGEST_WAY"=some v_LONGEST_WAY
 r_LONGEST_WAY:RelV (.int 10) v_LONGEST_WAY
 v_MOST_MARKS:Value
 m_MOST_MARKS:mg "MOST_MARKS"=some v_MOST_MARKS
 r_MOST_MARKS:RelV (.int 90) v_MOST_MARKS
 v_MOST_PAPERS:Value
 m_MOST_PAPERS:mg "MOST_PAPERS"=some v_MOST_PAPERS
 r_MOST_PAPERS:RelV (.int 10) v_MOST_PAPERS
 a_TAKEN:Addr
 m_TAKEN:mg "TAKEN"=some (.ref a_TAKEN)
 t_TAKEN:∀H,SqT K H a_TAKEN [.str "if", .str "and", .str "not", .str "never"]
 isinstance:mg "isinstance"=none
 str:mg "str"=none
 len:mg "len"=none
 all:mg "all"=none
 int:mg "int"=none
 bool:mg "bool"=none
 tuple:mg "tuple"=none
 range:mg "range"=none
 max:mg "max"=none
 min:mg "min"=none
 sorted:mg "sorted"=none
 enumerate:mg "enumerate"=none
 zip:mg "zip"=none
 list:mg "list"=none
 set:mg "set"=none
end K71
namespace K71
open PySem PySem.Spec PyProof.Rows L2 RW
local macro_rules | `(tactic|walk_at "cond")=> `(tactic|first|assumption|decide|omega|exact few rfl|exact .inl ⟨by decide,by decide⟩|exact .inr ⟨by decide,by decide⟩|exact .inl ⟨by omega,by omega⟩|exact .inr ⟨by omega,by omega⟩|exact⟨by omega,by omega⟩|exact⟨by assumption,by assumption⟩|exact⟨by decide,by decide,by decide⟩|exact .inr ⟨by split<;>decide,by split<;>decide⟩)
local macro_rules | `(tactic|walk_at "rd")=> `(tactic|first|with_reducible_and_instances refine⟨_,rfl,?_⟩|refine⟨_,rfl,?_⟩|refine⟨_,_,rfl,rfl,?_⟩|refine⟨_,_,_,_,rfl,rfl,SqL.of (by assumption),rfl,?_⟩|refine⟨_,_,_,_,rfl,rfl,(by assumption),rfl,?_⟩|refine .inl ⟨_,rfl,?_⟩|refine .inr ⟨_,rfl,?_⟩|refine .inl ⟨_,_,rfl, .inl (by assumption),?_⟩|refine⟨(by walk_at "cond"),?_⟩)
local macro_rules | `(tactic|walk_at "dsp")=> `(tactic|repeat' (first|exact zfT (by decide)|exact dsp_int|exact dsp_bl|exact zhm|exact dsp_neg|exact zF|exact dsp_dnew|exact dsp_disp rfl|exact za9 rfl (by assumption)|refine zl ?_ ?_|refine zM ?_ ?_|refine dsp_lst' ?_|refine n_cons ?_ ?_|exact n_nil|exact v_c|exact v_var rfl|refine v_tup ?_|refine dspl_lst ?_ ?_|refine dspl_cat ?_ ?_ ?_|exact dspl_var rfl (by assumption) (by assumption)|exact ζk rfl))
local macro_rules | `(tactic|walk_at "each")=> `(tactic|repeat' (first|exact forall_nil|refine List.forall_mem_append.mpr ⟨?_,?_⟩|refine List.forall_mem_cons.mpr ⟨?_,?_⟩))
section
variable{P:Program}{w:World}{K:PySem.W.Frag}{mg:Str->Option Value}{base:Heap}
noncomputable def ziO:Sp:=λvs H Q _=>∃v d lo hi,vs=[v, .int lo, .int hi]/\Rep H v d/\∀H',Same H H'->Q (.bl (zaW d lo hi)) H'
theorem zee(Y:Ev K mg):FnOk P w K mg base CX0 1 Y.a_is_row Y.d_is_row zcL ziO:=by
 refine Y.is_row.fn.okQ znb (λvs H Q E h=>?_) (λcdv A outer s H vs Q E hr h=>?_)
 ·obtain ⟨v,d,lo,hi,rfl,_⟩:=h;rfl
 ·obtain ⟨v,d,lo,hi,rfl,hd,q⟩:=h
  have q:=q H (Same.refl H)
  obtain⟨t,ht,h1,h2,h3,h4⟩:=hd.isi (K:=K)
  refine⟨_,(zn (zy (ze5 (zq zea Y.isinstance zbK (zc (qv 0) (zc (zmE Y.tuple zbf) ze))) (zd2 (zk0 zh8 zh8 (qv 1) (zq zE Y.len zaj (zc (qv 0) ze)) (qv 2)))))),?_⟩
  refine vr rfl (ex4 _ _ _ _ ⟨rfl,ht,h1,vr rfl (zcc (λe=>?_) (λe=>?_))⟩)
  ·cases hd with
   | @tup p vs ds hp l b r=>
     refine vr rfl (vr rfl (.inl (ex2 p vs ⟨rfl, .inr (.inl (.inl hp)),ex2 _ _ ⟨rfl,rfl,vr rfl (zcc (λe1=>?_) (λe1=>?_))⟩⟩)))
     ·refine vr rfl (ex2 _ _ ⟨rfl,rfl,?_⟩)
      have:zaW (.tup ds) lo hi=decide ((vs.length:Int)<=hi):=by show(decide (lo<=(ds.length:Int))&&decide ((ds.length:Int)<=hi))=_;rw[←l,e1];rfl
      rw[this] at q;exact q
     ·have:zaW (.tup ds) lo hi=false:=by show(decide (lo<=(ds.length:Int))&&decide ((ds.length:Int)<=hi))=_;rw[←l,tru e1];rfl
      rw[this] at q;exact q
   |_=>cases e
  ·have:zaW d lo hi=false:=by cases d<;>first|rfl|exact absurd rfl e
   rw[this] at q;exact q
end
section
variable{P:Program}{w:World}{K:PySem.W.Frag}{mg:Str->Option Value}{base:Heap}
theorem zgz(Y:Ev K mg):FnOk P w K mg base CX0 1 Y.a_is_name Y.d_is_name zc0 (ziS zaB):=by
 refine Y.is_name.fn.okQ zll (λvs H Q E h=>?_) (λcdv A outer s H vs Q E hr h=>?_)
 ·obtain ⟨v,d,rfl,_⟩:=h;rfl
 ·obtain ⟨v,d,rfl,hd,q⟩:=h
  refine⟨_,(zj (zau (t_w (zdT (zbX (zbp (zq zea Y.isinstance zbK (zc (qv 0) (zc (zmE Y.str zpM) ze))))) (zdS (zbX (zoh zh8 zh8 zh (zq zE Y.len zaj (zc (qv 0) ze)) (zfZ Y.m_LONGEST Y.r_LONGEST)))))) (zn (zy zco)) zO)
   (zn (zy (ze5 (zq (zbA rfl) Y.all zdJ (zc (zaI (src:=[none]) o_is_name_1 rfl rfl (zq5 (qv 0)) (λ_ _ _ _ _=>(zo 0 o_is_name_1.nd)) (λ_ _ _ _ _=>zcR) (λ_ _ _ _ _=>(zk0 zg9 zg9 zaz (qv 0) zaz))) ze)) (zd2 (za2 zcV (qv 0) (zfZ (v:= .ref Y.a_TAKEN) Y.m_TAKEN rfl))))))),?_⟩
  obtain⟨t,ht,_,_,_,h4⟩:=hd.isi (K:=K)
  refine vr rfl (ex4 _ _ _ _ ⟨rfl,ht,h4,vr rfl ?_⟩)
  cases hd with
  |str x hx=>
   have hz:x.length<=sizeLine:=ξi (zm hx)
   refine vr rfl (.inr ⟨x,rfl,hz,ex2 _ _ ⟨rfl,rfl,vr rfl ?_⟩⟩)
   refine zcc (λh1=>?_) (λh1=>?_)
   ·have h1':1<=x.length:=by
     have:=ζh h1
     omega
    refine ex2 _ _ ⟨rfl,rfl,vr rfl ?_⟩
    cases h8:decide ((x.length:Int)<=8)with
    |false=>
     have e:zi x=false:=by
      have h8':=of_decide_eq_false h8
      have:decide (x.length<=8)=false:=ζo (by omega)
      unfold zi
      rw[this]
      simp
     have q:=q H (Same.refl H)
     rw[zc7] at q
     rw[e] at q
     exact q
    |true=>
     have h8':x.length<=8:=by
      have:=ζh h8
      omega
     refine vr rfl ⟨x,rfl,?_⟩
     refine zby zqz (λl i ys σ' H'=>(∃o,σ'=[o])/\ys=(x.cps.toList.take i).map (λc=>V.bl (za7 c))/\H'=upd H l (.lst ys)) ?_ (λ_ _ _ _ _ _ _=>trivial) ?_ ?_
     ·exact λl hl=>⟨⟨_,rfl⟩,rfl,rfl⟩
     ·rintro l i y ys σ' H' hl hi ⟨c,hc,rfl⟩ ⟨⟨o,rfl⟩,rfl,rfl⟩ hl'
      repeat walk_at "rd"
      have hc':x.cps.toList[i]?=some c:=by simpa using hc
      have tk:(x.cps.toList.take i).map (λc=>V.bl (za7 c))++ [V.bl (za7 c)]=(x.cps.toList.take (i+1)).map (λc=>V.bl (za7 c)):=by
       rw[List.take_add_one,hc']
       simp
      have ll:((x.cps.toList.take i).map (λc=>V.bl (za7 c))).length<sizeLine:=Nat.lt_of_le_of_lt (by rw[ζa,ζm];omega) (zm (n:=8) (by decide))
      rw[zrw]
      refine zcc (λha=>(ex2 _ _ ⟨rfl,rfl,hl',ll,⟨_,rfl⟩,?_,zkN⟩)) (λha=>⟨hl',ll,⟨_,rfl⟩,?_,zkN⟩)
      ·rw[zrs,←tk]
       congr 2
       unfold za7
       have ha':¬c<97:=by simpa using ha
       by_cases hq:122<c
       ·rw[ζf hq,ζo (show¬c<=122 by omega)];simp
       ·rw[ζo hq,ζf (show c<=122 by omega),ζf (show 97<=c by omega)];rfl
      ·rw[←tk]
       congr 2
       unfold za7
       have ha':c<97:=by simpa using ha
       rw[ζo (show¬97<=c by omega)];rfl
     ·rintro l ys σ' H' hl ⟨⟨o,rfl⟩,rfl,rfl⟩ hl'
      have tk:(x.cps.toList.take x.length).map (λc=>V.bl (za7 c))=(x.cps.toList.map za7).map V.bl:=by
       rw[List.take_of_length_le (by simp[Str.length]),List.map_map]
       rfl
      rw[tk] at hl'
      rw[tk]
      refine ex2 l _ ⟨rfl,SqL.of hl',vr rfl ?_⟩
      have sm:Same H (upd H l (.lst ((x.cps.toList.map za7).map V.bl))):=Same.new hl
      have ea:(x.cps.toList.map za7).all id=x.cps.toList.all za7:=by rw[List.all_map];rfl
      rw[ea]
      refine zcc (λhA=>?_) (λhA=>?_)
      ·refine vr rfl (ex2 Y.a_TAKEN _ ⟨rfl, .inr (Y.t_TAKEN _),rfl,rfl,?_⟩)
       have e:zi x=!inV (.str x) (takenL.map V.str):=by
        unfold zi inV
        rw[hA,ζf h1',ζf h8',List.any_map]
        simp only[Bool.true_and]
        congr 2
       have q:=q _ sm
       rw[zc7] at q
       rw[e] at q
       exact q
      ·have e:zi x=false:=by
        unfold zi
        have:x.cps.toList.all za7=false:=by simpa using hA
        rw[this]
        simp
       have q:=q _ sm
       rw[zc7] at q
       rw[e] at q
       exact q
   ·have e:zi x=false:=by
     have h1':¬(1:Int)<=(x.length:Int):=λz=>h1 (ζf z)
     have:decide (1<=x.length)=false:=ζo (by omega)
     unfold zi
     rw[this]
     simp
    have q:=q H (Same.refl H)
    rw[zc7] at q
    rw[e] at q
    exact vr rfl q
  |_=>exact q H (Same.refl H)
end
section
variable{P:Program}{w:World}{K:PySem.W.Frag}{mg:Str->Option Value}{base:Heap}
theorem zhR(Y:Ev K mg):FnOk P w K mg base CX0 1 Y.a_is_number Y.d_is_number zcE (ziS zeA):=by
 refine Y.is_number.fn.okQ zic (λvs H Q E h=>?_) (λcdv A outer s H vs Q E hr h=>?_)
 ·obtain ⟨v,d,rfl,_⟩:=h;rfl
 ·obtain ⟨v,d,rfl,hd,q⟩:=h
  obtain⟨t,ht,h1,h2,h3,h4⟩:=hd.isi (K:=K)
  have q:=q H (Same.refl H)
  refine⟨_,(zn (zy (ze5 (zq zea Y.isinstance zbK (zc (qv 0) (zc (zmE Y.int zfc) ze))) (zd2 (zng (zq zea Y.isinstance zbK (zc (qv 0) (zc (zmE Y.bool zk3) ze)))))))),?_⟩
  refine vr rfl (ex4 _ _ _ _ ⟨rfl,ht,h2,vr rfl ?_⟩)
  refine zcc (λe=>?_) (λe=>?_)
  ·refine vr rfl (ex4 _ _ _ _ ⟨rfl,ht,h3,vr rfl ?_⟩)
   cases d<;>first|exact q|cases e
  ·cases d<;>first|exact q|exact absurd rfl e
end
section
variable{P:Program}{w:World}{K:PySem.W.Frag}{mg:Str->Option Value}{base:Heap}
noncomputable def zhn:Sp:=λvs H Q _=>∃u v d hs,vs=[u,v]/\HsAt H u hs/\Rep H v d/\∀H',Same H H'->Q (.bl (zL hs d)) H'
theorem zfu(Y:Ev K mg):FnOk P w K mg base CX0 2 Y.a_is_house Y.d_is_house zcp zhn:=by
 have G_is_name:FnOk P w K mg base CX0 1 Y.a_is_name Y.d_is_name zc0 (ziS zaB):=zgz Y
 refine Y.is_house.fn.okQ zju (λvs H Q E h=>?_) (λcdv A outer s H vs Q E hr h=>?_)
 ·obtain ⟨u,v,d,hs,rfl,_⟩:=h;rfl
 ·obtain ⟨u,v,d,hs,rfl,⟨p,rfl,hp,hl,hn⟩,hd,q⟩:=h
  refine⟨_,(zn (zy (ze5 (zk G_is_name (hr.mono (by decide)) Y.is_name.mg Y.is_name.kp Y.is_name.b .nil zp (zc (qv 1) ze)) (zd2 (za2 zef (qv 1) (qv 0)))))),?_⟩
  refine vr rfl (ex2 v d ⟨rfl,hd,λH1 s1=>(vr rfl (zcc (λe=>?_) (λe=>?_)))⟩)
  ·cases d with
   |str x=>
    cases hd
    refine vr rfl (vr rfl (ex2 p _ ⟨rfl, .inr (.inl (.inl (s1 _ _ hp))),rfl,zbW,?_⟩))
    have q:=q H1 s1
    have ea:zL hs (.str x)=inV (.str x) (hs.map V.str):=by
     show(zi x&&hs.any λy=>decide (y=x))=_
     rw[zdh,show zi x=true from e];rfl
    rw[ea] at q
    exact q
   |_=>cases e
  ·have q:=q H1 s1
   have ea:zL hs d=false:=by
    show(zaB d&&inD hs d)=false
    rw[tru e];rfl
   rw[ea] at q
   exact q
end
section
variable{P:Program}{w:World}{K:PySem.W.Frag}{mg:Str->Option Value}{base:Heap}
noncomputable def zka:Sp:=λvs H Q _=>∃(v:V) (x:Str) (g:Str) (hs:List Str) (ps:List (Str×Str)) (lks hds:List D),vs=[v, .str x]/\Rep H v (za5 g hs ps lks hds)/\TownOk g hs ps lks hds/\∀(l:Addr) (ts:List Str) (H':Hp),H l=none->H' l=some (.lst (ts.map V.str))->ts.Perm (zan ps x)->sortedS ts=true->Same H H'->Q (.ref l) H'
theorem zkl(Y:Ev K mg):FnOk P w K mg base CX0 1 Y.a_tied Y.d_tied zfj zka:=by
 refine Y.tied.fn.okQ c_tied (λvs H Q E h=>?_) (λcdv A outer s H vs Q E hr h=>?_)
 ·obtain ⟨v,x,g,hs,ps,lks,hds,rfl,_⟩:=h;rfl
 ·obtain ⟨v,x,g,hs,ps,lks,hds,rfl,hv,T,q⟩:=h
  obtain⟨p,pr,pt,pl,pa,vt,vl,va,rfl,hp,hpr,hpt,rt,hpl,rl,hpa,ra⟩:=zbN hv
  have TP:=T.lp
  refine⟨_,(zj (zI 2 c_tied.nd (zt ix_tup (qv 0) zh))
   (zn (zy (zq zb9 Y.sorted zcn (zc (zG zcd (zaI (src:=[none,none,some 1]) o_tied_1 rfl rfl (zbZ (qv 2)) (λ_ _ _ _ _=>(zfa (K:=K) 2 rfl rfl (zx (zo 0 o_tied_1.nd) (zx (zo 1 o_tied_1.nd) za4)))) (λ_ _ _ _ _=>(zc6 (zH zay (qv 1) (qc 2)))) (λ_ _ _ _ _=>(qv 0))) (zaI (src:=[none,none,some 1]) o_tied_2 rfl rfl (zbZ (qv 2)) (λ_ _ _ _ _=>(zfa (K:=K) 2 rfl rfl (zx (zo 0 o_tied_2.nd) (zx (zo 1 o_tied_2.nd) za4)))) (λ_ _ _ _ _=>(zc6 (zH zay (qv 0) (qc 2)))) (λ_ _ _ _ _=>(qv 1)))) ze))))),?_⟩
  refine vr rfl (ixT hp (zz (j:=2) rfl) ?_)
  refine vr rfl ⟨pt,rfl,⟨_, .inl (.inl hpt)⟩,?_⟩
  refine ze6 (ps:=ps) (sel:=λp=>decide (p.2=x)) (f:=(·.1)) (λσ'=>∃o1 o2,σ'=[o1,o2,some (.str x)]) (za0 (K:=K)) (λH' s'=> .inl (.inl (s' _ _ hpt))) rt (by omega) (ex2 _ _ rfl) ?_ λl1 H1 s1 hl1 e1=>?_
  ·rintro q p σ' H1 A B ⟨o1,o2,rfl⟩ s1 hq hp1 k
   refine ex2 q _ ⟨rfl, .inl (.inl hq),rfl,ex2 _ _ ⟨rfl,ex2 _ _ ⟨rfl,rfl,vr rfl (vr rfl ⟨rfl,vr rfl ?_⟩)⟩⟩⟩
   have k:=k [some (.str p.1),some (.str p.2),some (.str x)] ⟨_,_,rfl⟩
   rw[zZ]
   cases e:decide (p.2=x)with
   |false=>rw[e] at k;exact k
   |true=>rw[e] at k;exact⟨_,rfl,k⟩
  refine vr rfl ⟨pt,rfl,⟨_, .inl (.inl (s1 _ _ hpt))⟩,?_⟩
  refine ze6 (ps:=ps) (sel:=λp=>decide (p.1=x)) (f:=(·.2)) (λσ'=>∃o1 o2,σ'=[o1,o2,some (.str x)]) (za0 (K:=K)) (λH' s'=> .inl (.inl (s' _ _ (s1 _ _ hpt)))) (rt.mono (.of s1)) (by omega) (ex2 _ _ rfl) ?_ λl2 H2 s2 hl2 e2=>?_
  ·rintro q p σ' H1 A B ⟨o1,o2,rfl⟩ s1 hq hp1 k
   refine ex2 q _ ⟨rfl, .inl (.inl hq),rfl,ex2 _ _ ⟨rfl,ex2 _ _ ⟨rfl,rfl,vr rfl (vr rfl ⟨rfl,vr rfl ?_⟩)⟩⟩⟩
   have k:=k [some (.str p.1),some (.str p.2),some (.str x)] ⟨_,_,rfl⟩
   rw[zZ]
   cases e:decide (p.1=x)with
   |false=>rw[e] at k;exact k
   |true=>rw[e] at k;exact⟨_,rfl,k⟩
  have nl:=zmd T x
  have nl':((ps.filter λp=>decide (p.2=x)).map (·.1)).length+((ps.filter λp=>decide (p.1=x)).map (·.2)).length<=10:=by rw[←ζe];exact nl
  refine ex4 l1 l2 _ _ ⟨rfl,rfl,s2 _ _ e1,e2,ξi (zm (by simp only[ζa] at nl'⊢;omega)),λl3 hl3=>?_⟩
  rw[←ξc]
  have S3:=Same.new (o:= .lst ((zan ps x).map V.str)) hl3
  refine⟨l3,zan ps x,rfl, .inl (SqL.of zd),by omega,λts l4 hp4 hs4 hl4=>q l4 ts _ ?_ zd hp4 hs4 (((s1.trans s2).trans S3).trans (Same.new hl4))⟩
  exact zcj ((s1.trans s2).trans S3) hl4
end
section
variable{P:Program}{w:World}{K:PySem.W.Frag}{mg:Str->Option Value}{base:Heap}
noncomputable def zkQ:Sp:=λvs H Q _=>∃(l:Addr) (ws:List Str),vs=[.ref l]/\H l=some (.lst (ws.map V.str))/\ws.length<=64/\∀H',Same H H'->Q (.bl (zcz (ws.map D.str))) H'
theorem zio(Y:Ev K mg):FnOk P w K mg base CX0 1 Y.a_is_rising Y.d_is_rising zcA zkQ:=by
 refine Y.is_rising.fn.okQ zia (λvs H Q E h=>?_) (λcdv A outer s H vs Q E hr h=>?_)
 ·obtain ⟨v,ds,rfl,_⟩:=h;rfl
 ·obtain ⟨p,ws,rfl,hp,hl,q⟩:=h
  refine⟨_,(zn (zy (zq (zbA rfl) Y.all zdJ (zc (zaI (src:=[none,some 0]) o_is_rising_1 rfl rfl (zdf Y.range (zc (zG zdP (zq zE Y.len zaj (zc (qc 0) ze)) zh) ze)) (λ_ _ _ _ _=>(zo 0 o_is_rising_1.nd)) (λ_ _ _ _ _=>zcR) (λ_ _ _ _ _=>(za2 (zpG hr.units0) (zt (zkV (K:=K) rfl) (qc 1) (qv 0)) (zt (zkV (K:=K) rfl) (qc 1) (zG zat (qv 0) zh))))) ze)))),?_⟩
  refine vr rfl (.inl (ex2 p _ ⟨rfl, .inl (SqL.of hp),ex2 _ _ ⟨rfl,rfl,vr rfl ⟨?_,?_,?_⟩⟩⟩))
  ·rw[ζa];omega
  ·rw[ζa];omega
  have e:(((ws.map V.str).length:Int) -1).toNat=ws.length -1:=by rw[ζa];omega
  rw[e]
  refine zby zdo (λl i ys σ' H'=>(∃o,σ'=[o,some (.ref p)])/\ys=((List.range i).map λk=>ltD ((ws.map D.str).getD k .non) ((ws.map D.str).getD (k+1) .non)).map V.bl/\Same H H') ?_ (λ_ _ _ _ _ _ _=>trivial) ?_ ?_
  ·exact λl hl=>⟨⟨_,rfl⟩,rfl,Same.new hl⟩
  ·rintro l i y ys σ' H1 hl' hi rfl ⟨⟨o,rfl⟩,rfl,s1⟩ hl1
   have hi0:i<ws.length:=by omega
   have hi1:i+1<ws.length:=by omega
   have hp1:=s1 _ _ hp
   have e0:atI (ws.map V.str) (0+(i:Int))=some (.str ws[i]):=by rw[Int.zero_add];exact zz (by simp[hi0])
   have e1:atI (ws.map V.str) (0+(i:Int)+1)=some (.str ws[i+1]):=by rw[Int.zero_add];exact zz (j:=i+1) (by simp[hi1])
   have g0:(ws.map D.str).getD i .non= .str ws[i]:=by simp[List.getD,hi0]
   have g1:(ws.map D.str).getD (i+1) .non= .str ws[i+1]:=by simp[List.getD,hi1]
   refine vr rfl (vr rfl (.inl (ixL hp1 e0 (vr rfl (vr rfl (ex2 _ _ ⟨rfl,rfl, .inl (ixL hp1 e1 (.inl (ex2 _ _ ⟨rfl,rfl,?_⟩)))⟩))))))
   refine⟨hl1,?_,⟨_,rfl⟩,?_,?_⟩
   ·rw[ζa,ζa,List.length_range]
    exact zm (by omega)
   ·rw[List.range_succ,ξc,ξc,List.map_cons,g0,g1];rfl
   ·exact λc o e=>by
     rw[zr (zB e hl')]
     exact s1 _ _ e
  ·rintro l ys σ' H1 hl' ⟨⟨o,rfl⟩,rfl,s1⟩ hl1
   refine ex2 l _ ⟨rfl,SqL.of hl1,?_⟩
   have q:=q H1 s1
   unfold zcz at q
   rw[ζa] at q
   rw[zbO]
   exact q
noncomputable def zo6:Sp:=λvs H Q _=>∃(u v:V) (d:D) (g:Str) (hs:List Str) (ps:List (Str×Str)) (lks hds:List D),vs=[u,v]/\Rep H u (za5 g hs ps lks hds)/\TownOk g hs ps lks hds/\Rep H v d/\∀H',Same H H'->Q (.bl (zbF g hs ps d)) H'
theorem zlm(Y:Ev K mg):FnOk P w K mg base CX0 3 Y.a_is_way Y.d_is_way zec zo6:=by
 have G_is_row:FnOk P w K mg base CX0 1 Y.a_is_row Y.d_is_row zcL ziO:=zee Y
 have G_is_house:FnOk P w K mg base CX0 2 Y.a_is_house Y.d_is_house zcp zhn:=zfu Y
 have G_is_rising:FnOk P w K mg base CX0 1 Y.a_is_rising Y.d_is_rising zcA zkQ:=zio Y
 have G_tied:FnOk P w K mg base CX0 1 Y.a_tied Y.d_tied zfj zka:=zkl Y
 refine Y.is_way.fn.okQ c_is_way (λvs H Q E h=>?_) (λcdv A outer s H vs Q E hr h=>?_)
 ·obtain ⟨u,v,d,g,hs,ps,lks,hds,rfl,_⟩:=h;rfl
 ·obtain ⟨u,v,d,g,hs,ps,lks,hds,rfl,hv,T,hd,q⟩:=h
  obtain⟨p,pr,pt,pl,pa,vt,vl,va,rfl,hp,hpr,hpt,rt,hpl,rl,hpa,ra⟩:=zbN hv
  have T10:=T.ten
  refine⟨_,(zj (zdA (zbL zR (qc 0) zae (zV zh)) (zc5 2 rfl (zx (zo 2 c_is_way.nd) (zx (zcX 3 c_is_way.nd) za4))))
   (zj (zau (t_w (zdT (zbX (zbp (zk G_is_row (hr.mono (by decide)) Y.is_row.mg Y.is_row.kp Y.is_row.b .nil zp (zc (qc 1) (zc zh (zc (zq zE Y.len zaj (zc (qc 3) ze)) ze)))))) (zdS (zbX (zbp (zq (zbA rfl) Y.all zdJ (zc (zaI (src:=[none,some 3]) o_is_way_1 rfl rfl (zbZ (qc 1)) (λ_ _ _ _ _=>(zo 0 o_is_way_1.nd)) (λ_ _ _ _ _=>zcR) (λ_ _ _ _ _=>(zk G_is_house (hr.mono (by decide)) Y.is_house.mg Y.is_house.kp Y.is_house.b .nil zp (zc (qc 1) (zc (qv 0) ze))))) ze))))))) (zn (zy zco)) zO)
   (zj (zau (t_w (zdT (zH zeP (zt ix_tup (qc 1) (zeo zbH zh)) (qv 2)) (zdS (zbX (zbp (zk G_is_rising (hr.mono (by decide)) Y.is_rising.mg Y.is_rising.kp Y.is_rising.b .nil zp (zc (zq zb9 Y.sorted zcn (zc (qc 1) ze)) ze))))))) (zn (zy zco)) zO)
   (zn (zy (zq (zbA rfl) Y.all zdJ (zc (zaI (src:=[none,some 1,some 0]) o_is_way_2 rfl rfl (zdf Y.range (zc (zG zdP (zq zE Y.len zaj (zc (qc 1) ze)) zh) ze)) (λ_ _ _ _ _=>(zo 0 o_is_way_2.nd)) (λ_ _ _ _ _=>zcR) (λ_ _ _ _ _=>(za2 (zjx (K:=K) rfl) (zt (za6 (K:=K) rfl) (qc 1) (zG zat (qv 0) zh)) (zk G_tied (hr.mono (by decide)) Y.tied.mg Y.tied.kp Y.tied.b .nil zp (zc (qc 2) (zc (zt (za6 (K:=K) rfl) (qc 1) (qv 0)) ze)))))) ze))))))),?_⟩
  refine vr rfl ⟨2,rfl,ex2 p _ ⟨rfl, .inl (.inl hp),λz=>?_,λp2 hp2=>?_⟩⟩
  ·have:=congrArg List.length z
   cases this
  have S2:=Same.new (o:= .tup [.str g, .ref pr]) hp2
  refine ex2 p2 [.str g, .ref pr] ⟨rfl, .inl (.inl zd),rfl,ex2 _ _ ⟨rfl,ex2 _ _ ⟨rfl,rfl,?_⟩⟩⟩
  show zlu _ _ _ _ (upd H p2 (.tup [.str g, .ref pr]))
  have hv2:=hv.same S2
  have hpr2:=S2 _ _ hpr
  have hd2:=hd.same S2
  generalize (upd H p2 (HO.tup [.str g, .ref pr]))=H2 at *
  refine vr rfl (vr rfl (.inl (ex2 pr _ ⟨rfl, .inr (.inl (.inl hpr2)),ex4 v d 1 _ ⟨rfl,hd2,λH3 s3=>(vr rfl ?_)⟩⟩)))
  rw[ζa]
  cases hrow:zaW d 1 hs.length with
  |false=>
   have q:=q H3 (S2.trans s3)
   rw[znR hrow] at q
   exact q
  |true=>
   refine zW rfl ?_
   obtain⟨ds,rfl,n1,nh⟩:=zno hrow
   have hd3:=hd2.same s3
   obtain⟨pv,us,rfl,hpv,ru,_⟩:=hd3.ofT
   have hpr3:=s3 _ _ hpr2
   have HsA:HsAt H3 (.ref pr) hs:=⟨pr,rfl,hpr3,T10,T.names⟩
   refine vr rfl ⟨pv,rfl,⟨_, .inl (.inl hpv)⟩,?_⟩
   refine zcS (g:=zL hs) (σr:=[some (.ref pr)]) (za0 (K:=K)) (λH' s=> .inl (.inl (s _ _ hpv))) ru (by omega) rfl (λx d HA Q1 sA rx hd q1=>(vr rfl (vr rfl (ex4 _ x d hs ⟨rfl,HsA.same sA,rx,q1⟩)))) (λl4 H4 s4 _ hl4=>?_)
   refine ex2 l4 _ ⟨rfl,SqL.of hl4,vr rfl ?_⟩
   rw[zbO]
   cases hall:ds.all (zL hs)with
   |false=>
    have q:=q H4 ((S2.trans s3).trans s4)
    rw[zoq (show zjv (zL hs) (.tup ds)=false from hall)] at q
    exact q
   |true=>
    refine zW rfl ?_
    obtain⟨ws,rfl,hw⟩:=zd6 hall
    obtain⟨p',e',hpw⟩:=zax hd3
    cases e'
    rw[ζa] at n1 nh
    obtain⟨w0,z,rfl⟩:∃w0 z,ws=w0 ++ [z]:=⟨ws.dropLast,ws.getLast (λz=>by rw[z] at n1;simp at n1),(List.dropLast_concat_getLast _).symm⟩
    have hpw4:=s4 _ _ hpw
    have hat:atI ((w0 ++ [z]).map V.str) (-1)=some (.str z):=by rw[ξc];exact zeX _ _
    have weq:=zp4 (g:=g) (ps:=ps) hrow hall
    dsimp only[zaE]
    refine vr rfl ⟨1,rfl,ixT hpw4 hat (vr rfl ⟨rfl,vr rfl ?_⟩)⟩
    rw[zZ]
    cases hz:decide (z=g)with
    |false=>
     have q:=q H4 ((S2.trans s3).trans s4)
     rw[weq,hz] at q
     exact q
    |true=>
     refine zW rfl ?_
     refine vr rfl ⟨pv,w0 ++ [z],rfl, .inr (.inl (.inl hpw4)),by omega,λss l5 hp5 hs5 hl5=>?_⟩
     have S5:=Same.new (o:= .lst (ss.map V.str)) hl5
     refine ex2 l5 ss ⟨rfl,zd,by rw[hp5.length_eq];omega,λH6 s6=>(vr rfl ?_)⟩
     rw[zjK hp5 hs5]
     have S6:=S5.trans s6
     have sAll:=((S2.trans s3).trans s4).trans S6
     cases hnd:decide (w0 ++ [z]).Nodup with
     |false=>
      have q:=q H6 sAll
      rw[weq,hz,hnd] at q
      exact q
     |true=>
      refine zW rfl ?_
      have hpw6:=S6 _ _ hpw4
      have hv6:=hv2.same ((s3.trans s4).trans S6)
      refine vr rfl (.inl (ex2 pv _ ⟨rfl, .inr (.inl (.inl hpw6)),ex2 _ _ ⟨rfl,rfl,vr rfl ⟨?_,?_,?_⟩⟩⟩))
      ·rw[ζa];omega
      ·rw[ζa];omega
      have e:((((w0 ++ [z]).map V.str).length:Int) -1).toNat=(w0 ++ [z]).length -1:=by rw[ζa];omega
      rw[e]
      refine zby zdo (λl i ys σ' H'=>(∃o,σ'=[o,some (.ref pv),some (.ref p)])/\ys=((List.range i).map λk=>decide ((w0 ++ [z]).getD (k+1) ""∈zan ps ((w0 ++ [z]).getD k ""))).map V.bl/\Same H6 H') ?_ (λ_ _ _ _ _ _ _=>trivial) ?_ ?_
      ·exact λl hl=>⟨⟨_,rfl⟩,rfl,Same.new hl⟩
      ·rintro l i y ys σ' H7 hl' hi rfl ⟨⟨o,rfl⟩,rfl,s7⟩ hl7
       have hi0:i<(w0 ++ [z]).length:=by omega
       have hi1:i+1<(w0 ++ [z]).length:=by omega
       have e0:atI ((w0 ++ [z]).map V.str) (0+(i:Int))=some (.str (w0 ++ [z])[i]):=by rw[Int.zero_add];exact zz (by simp only[ζq,ζd hi0];rfl)
       have e1:atI ((w0 ++ [z]).map V.str) (0+(i:Int)+1)=some (.str (w0 ++ [z])[i+1]):=by rw[Int.zero_add];exact zz (j:=i+1) (by simp only[ζq,ζd hi1];rfl)
       have g0:(w0 ++ [z]).getD i ""=(w0 ++ [z])[i]:=by simp only[List.getD,ζd hi0,Option.getD_some]
       have g1:(w0 ++ [z]).getD (i+1) ""=(w0 ++ [z])[i+1]:=by simp only[List.getD,ζd hi1,Option.getD_some]
       have hpw7:=s7 _ _ hpw6
       refine vr rfl (vr rfl (ex2 _ _ ⟨rfl,rfl,ixT hpw7 e1 (vr rfl (vr rfl (vr rfl (ixT hpw7 e0 (ex4 _ _ g hs (ex3 ps lks hds ⟨rfl,hv6.same s7,T,λl8 ts H8 hl8 e8 hp8 hs8 s8=>?_⟩))))))⟩))
       refine ex2 l8 _ ⟨rfl, .inl (SqL.of e8),rfl,zbW,?_⟩
       refine⟨s8 _ _ hl7,?_,⟨_,rfl⟩,?_,?_⟩
       ·rw[ζa,ζa,List.length_range]
        exact zm (by omega)
       ·rw[List.range_succ,ξc,ξc,List.map_cons,g0,g1]
        have hin:(if false=true then !inV (V.str (w0 ++ [z])[i+1]) (ts.map V.str)else inV (V.str (w0 ++ [z])[i+1]) (ts.map V.str))=decide ((w0 ++ [z])[i+1]∈zan ps (w0 ++ [z])[i]):=by
         rw[if_neg (by decide),zdh,ξf,ζg,←hp8.mem_iff,List.any_eq_true]
         exact⟨λ⟨y,hy,e⟩=>by rw[←ζh e];exact hy,λh=>⟨_,h,ζf rfl⟩⟩
        rw[hin];rfl
       ·exact λc o e=>by
         rw[zr (zB e hl')]
         exact s8 _ _ (s7 _ _ e)
      ·rintro l ys σ' H7 hl' ⟨⟨o,rfl⟩,rfl,s7⟩ hl7
       refine ex2 l _ ⟨rfl,SqL.of hl7,?_⟩
       have q:=q H7 (sAll.trans s7)
       rw[weq,hz,hnd] at q
       rw[zbO]
       exact q
end
section
variable{P:Program}{w:World}{K:PySem.W.Frag}{mg:Str->Option Value}{base:Heap}
noncomputable def zdp:Sp:=λvs H Q _=>∃(a:Addr) (k n:Int),vs=[.ref a, .int k]/\Hand H a n/\n<2^40/\0<k/\k<1073741824/\∀d H',0<=d->d<k->Hand H' a (n+1)->Keep a H H'->Q (.int d) H'
theorem zcU(Y:Ev K mg):FnOk P w K mg base CX0 1 Y.a__law_take Y.d__law_take zaf zdp:=by
 refine Y._law_take.fn.okQ c__law_take (λvs H Q E h=>?_) (λcdv A outer s H vs Q E hr h=>?_)
 ·obtain ⟨a,k,n,rfl,_⟩:=h
  rfl
 ·obtain ⟨a,k,n,rfl,⟨x,m,t,hH,m0,m1,t0,t1⟩,hn,k0,k1,q⟩:=h
  refine⟨_,(zj (zau (zH zes (zt ix_list (qv 0) zh) zh) (zj (zI 2 c__law_take.nd (zG zdO (zt ix_list (qv 0) zh) (qv 1)))
   (zj (zdA (zG zhZ (zt ix_list (qv 0) zh) (qv 1)) (znj (qv 0) zh zf1))
   (zn (zy (qv 2))))) zO)
   (zj (zdA (zG zat (zt ix_list (qv 0) zh) zh) (znj (qv 0) zh zf1))
   (zj (zI 3 c__law_take.nd (zt ix_list (qv 0) zh))
   (zj (zI 4 c__law_take.nd (zG zdO (zG zdc (zt ix_list (qv 0) zh) (zG zat (zG zat zh (zG zdc (zG zdc zh (qv 3)) (qv 3))) (zG zdc zh (qv 3)))) zh))
   (zj (zI 5 c__law_take.nd (zG zat (zG zat (zG zdO (qv 4) zh) (zG zdc (qv 3) zh)) zh))
   (zj (zI 4 c__law_take.nd (zG zdO (zG zdc (qv 4) (qv 5)) zh))
   (zn (zy (zG zdO (zG zat (zG zhZ (qv 4) zh) (zG zhZ (qv 4) zh)) (qv 1)))))))))),?_⟩
  repeat walk_at "rd"
  refine zcc (λhx=>?_) (λhx=>?_)
  ·repeat walk_at "rd"
   exact q _ _ (Int.emod_nonneg _ (by omega)) (Int.emod_lt_of_pos _ k0) ⟨_,m,t,zd,m0,m1,t0,by omega⟩ (Keep.upd _ _ _)
  ·refine vr rfl (ixL hH rfl (ex2 _ _ ⟨rfl,rfl,vr rfl (ex4 a _ _ _ ⟨rfl,rfl,hH,rfl,?_⟩)⟩))
   have h2:upd H a (.lst [.int x, .int m, .int (t+1)]) a=some (.lst [.int x, .int m, .int (t+1)]):=zd
   repeat walk_at "rd"
   exact q _ _ (Int.emod_nonneg _ (by omega)) (Int.emod_lt_of_pos _ k0) ⟨_,m,_,zd,m0,m1,by omega,by omega⟩ (Keep.upd _ _ _)
noncomputable def zcO(K:PySem.W.Frag):Sp:=λvs H Q _=>∃(a:Addr) (n:Int),Hand H a n/\n<2^40/\
 ((∃(b:Addr) (xs:List V),vs=[.ref a, .ref b]/\b≠a/\SqL K H b xs/\0<xs.length/\xs.length<1000/\∀v H',v∈xs->Hand H' a (n+1)->Keep a H H'->Q v H')\/
  (∃z:Str,vs=[.ref a, .str z]/\0<z.length/\z.length<1000/\∀c H',c∈z.cps.toList->Hand H' a (n+1)->Keep a H H'->Q (.str (one c)) H'))
theorem zdN(Y:Ev K mg):FnOk P w K mg base CX0 2 Y.a__law_pick Y.d__law_pick zag (zcO K):=by
 have G__law_take:FnOk P w K mg base CX0 1 Y.a__law_take Y.d__law_take zaf zdp:=zcU Y
 refine Y._law_pick.fn.okQ zfB (λvs H Q E h=>?_) (λcdv A outer s H vs Q E hr h=>?_)
 ·obtain ⟨a,n,_,_,⟨b,xs,rfl,_⟩|⟨z,rfl,_⟩⟩:=h<;>rfl
 ·obtain ⟨a,n,hH,hn,h⟩:=h
  have hl:∀m:Nat,m<1000->m<=sizeLine:=λm h=>ξi (zm (ξi h))
  rcases h with⟨b,xs,rfl,hb,hS,x0,x1,q⟩|⟨z,rfl,z0,z1,q⟩
  ·refine ⟨_,(zn (zy (zt zhq (qv 1) (zk G__law_take (hr.mono (by decide)) Y._law_take.mg Y._law_take.kp Y._law_take.b .nil zp (zc (qv 0) (zc (zq zE Y.len zaj (zc (qv 1) ze)) ze)))))),?_⟩
   refine vr rfl (vr rfl (vr rfl (.inl (ex2 b xs ⟨rfl, .inl hS,ex3 a _ n ⟨rfl,hH,hn,by omega,by omega,λd H' h0 h1 hH' kp=>?_⟩⟩))))
   obtain⟨v,e,hv⟩:=zeh h0 h1
   exact .inl (ex4 b xs d v ⟨rfl,rfl,kp.sqL hb hS,e,q v H' hv hH' kp⟩)
  ·refine ⟨_,(zn (zy (zt zhq (qv 1) (zk G__law_take (hr.mono (by decide)) Y._law_take.mg Y._law_take.kp Y._law_take.b .nil zp (zc (qv 0) (zc (zq zE Y.len zaj (zc (qv 1) ze)) ze)))))),?_⟩
   refine vr rfl (vr rfl (vr rfl (.inr ⟨z,rfl,hl _ z1,ex3 a _ n ⟨rfl,hH,hn,by omega,by omega,λd H' h0 h1 hH' kp=>?_⟩⟩)))
   obtain⟨c,e,hc⟩:=zeh (xs:=z.cps.toList) h0 (by simpa[Str.length] using h1)
   exact .inr (.inr (ex3 z d c ⟨rfl,rfl,hl _ z1,e,q c H' hc hH' kp⟩))
noncomputable def znp(K:PySem.W.Frag):Sp:=λvs H Q _=>∃(b:Addr) (ns:List Int) (k:Int),vs=[.ref b, .int k]/\SqL K H b (ns.map V.int)/\0<=k/\k<1000/\∀a H',H a=none->Hand H' a 0->Same H H'->Q (.ref a) H'
theorem zon(Y:Ev K mg):FnOk P w K mg base CX0 1 Y.a__law_hand Y.d__law_hand zcG (znp K):=by
 refine Y._law_hand.fn.okQ c__law_hand (λvs H Q E h=>?_) (λcdv A outer s H vs Q E hr h=>?_)
 ·obtain ⟨a,k,n,rfl,_⟩:=h
  rfl
 ·obtain ⟨b,ns,k,rfl,hS,k0,k1,q⟩:=h
  refine⟨_,(zj (zI 2 c__law_hand.nd zh)
   (zj (zau (zH ziz (qv 1) (zq zE Y.len zaj (zc (qv 0) ze))) (zn (zI 2 c__law_hand.nd (zt ix_list (qv 0) (qv 1)))) zO)
   (zn (zy (zbs (zc (zG zdc (qv 2) (zao zdz Y.int zfc (zc (za2 zpa (qv 2) (zG zpy zh zh)) ze))) (zc (zG zat (zG zat (zG zdO (qv 2) zh) (zG zdc zh (qv 1))) zh) (zc zh ze)))))))),?_⟩
  refine vr rfl (vr rfl (.inl (ex2 b _ ⟨rfl, .inl hS,ex2 _ _ ⟨rfl,rfl,vr rfl ?_⟩⟩)))
  refine zcc (λhx=>?_) (λhx=>?_)
  ·have hx':k<((ns.map V.int).length:Int):=ζh hx
   obtain⟨v,e,hv⟩:=zeh k0 hx'
   obtain⟨c,_,rfl⟩:=List.mem_map.mp hv
   refine vr rfl (vr rfl (ex4 b _ k _ ⟨rfl,rfl,hS,e,?_⟩))
   repeat walk_at "rd"
   intro p hp
   exact q p _ hp ⟨_,_,_,zd,by omega,by omega,by decide,by decide⟩ (λb' o hb'=>by rw[zr (zB hb' hp)];exact hb')
  ·repeat walk_at "rd"
   intro p hp
   exact q p _ hp ⟨_,_,_,zd,by omega,by omega,by decide,by decide⟩ (λb' o hb'=>by rw[zr (zB hb' hp)];exact hb')
end
section
variable{P:Program}{w:World}{K:PySem.W.Frag}{mg:Str->Option Value}{base:Heap}
noncomputable def zi7:Sp:=λvs H Q _=>∃(a:Addr) (n:Int) (m:Nat),vs=[.ref a, .int m]/\Hand H a n/\n<2^39/\4<=m/\m<=13/\∀(l:Addr) (xs:List Str) (H':Hp),H l=none->H' l=some (.lst (xs.map V.str))->xs.length=m->(∀x∈xs,zi x=true)->xs.Nodup->(∀x∈xs,x≠"nowhere")->Hand H' a (n+4)->Keep a H H'->Q (.ref l) H'
theorem zlB(Y:Ev K mg):FnOk P w K mg base CX0 3 Y.a__law_names Y.d__law_names zcg zi7:=by
 have G__law_take:FnOk P w K mg base CX0 1 Y.a__law_take Y.d__law_take zaf zdp:=zcU Y
 have G__law_pick:FnOk P w K mg base CX0 2 Y.a__law_pick Y.d__law_pick zag (zcO K):=zdN Y
 refine Y._law_names.fn.okQ c__law_names (λvs H Q E h=>?_) (λcdv A outer s H vs Q E hr h=>?_)
 ·obtain ⟨a,n,m,rfl,_⟩:=h;rfl
 ·obtain ⟨a,n,m,rfl,hH,hn,m4,m13,q⟩:=h
  refine⟨_,(zj (zc2 2 c__law_names.nd zaz)
   (zj (zc2 3 c__law_names.nd (zk G__law_take (hr.mono (by decide)) Y._law_take.mg Y._law_take.kp Y._law_take.b .nil zp (zc (qv 0) (zc zh ze))))
   (zj (zc2 4 c__law_names.nd (zk G__law_pick (hr.mono (by decide)) Y._law_pick.mg Y._law_pick.kp Y._law_pick.b .nil zp (zc (qv 0) (zc (zfs [V.int 1,V.int 3,V.int 5,V.int 7,V.int 9,V.int 11] (by decide +kernel)) ze))))
   (zj (zbU 5 (src:=[none,some 3,some 2,some 4]) o__law_names_1 rfl rfl c__law_names.nd (zdf Y.range (zc (qv 1) ze)) (λ_ _ _ _ _=>(zo 0 o__law_names_1.nd)) (λ_ _ _ _ _=>zcR) (λ_ _ _ _ _=>(zG ziU (zt zmZ (qc 2) (zG zdO (zG zat (qc 1) (zG zdc (qc 3) (qv 0))) zh)) (zG zat zh (zG zdO (zG zat (zG zdc (qv 0) (qv 0)) (qc 1)) zh)))))
   (zb5 (zau (zH zay (zk G__law_take (hr.mono (by decide)) Y._law_take.mg Y._law_take.kp Y._law_take.b .nil zp (zc (qv 0) (zc zh ze))) zh) (zj (zI 6 c__law_names.nd (zfs [V.str "goal",V.str "to",V.str "by",V.str "houses",V.str "tie",V.str "like",V.str "hand",V.str "keep",V.str "put",V.str "mark",V.str "long",V.str "from",V.str "strike"] (by decide +kernel)))
   (zj (zI 7 c__law_names.nd (zk G__law_take (hr.mono (by decide)) Y._law_take.mg Y._law_take.kp Y._law_take.b .nil zp (zc (qv 0) (zc zh ze))))
   (zn (zcJ PassesOwn.never rfl (zdf Y.range (zc (zq (zgS rfl) Y.min zhO (zc (qv 1) (zc zh ze))) ze)) (zo 8 c__law_names.nd) (zn (zdA (zt ix_list (qv 6) (zG zdO (zG zat (qv 7) (zG zdc zh (qv 8))) zh)) (znj (qv 5) (qv 8) zf1))))))) zO)
   (zn (zy (qv 5)))))))),?_⟩
  refine vr rfl (ex3 a 26 n ⟨rfl,hH,by omega,by decide,by decide,λf' H1 f0 f26 hH1 k1=>?_⟩)
  obtain⟨f,rfl⟩:∃f:Nat,f'=(f:Int):=⟨f'.toNat,by omega⟩
  refine vr rfl ⟨by decide,λpl hpl=>⟨a,n+1,hH1.new hpl,by omega, .inl (ex2 pl _ ⟨rfl,hH1.ne hpl,SqL.of zd,by decide,by decide,λv H2 hv hH2 k2=>?_⟩)⟩⟩
  obtain⟨st,rfl,st0,st11⟩:∃st:Nat,v= .int (st:Int)/\st∈znx/\st<=11:=by
   simp only[List.mem_cons,List.not_mem_nil,or_false] at hv
   rcases hv with rfl|rfl|rfl|rfl|rfl|rfl
   ·exact ⟨1,rfl,by decide,by decide⟩
   ·exact ⟨3,rfl,by decide,by decide⟩
   ·exact ⟨5,rfl,by decide,by decide⟩
   ·exact ⟨7,rfl,by decide,by decide⟩
   ·exact ⟨9,rfl,by decide,by decide⟩
   ·exact ⟨11,rfl,by decide,by decide⟩
  have kp2:Keep a H H2:=k1.trans ((Keep.new hpl).trans k2)
  refine vr rfl ⟨m,rfl,by omega,by omega,?_⟩
  refine zby zdo (λl i ys σ' H'=>(∃o,σ'=[o,some (.int (f:Int)),some (.str lettersS),some (.int (st:Int))])/\ys=((List.range i).map (nmS f st)).map V.str/\Hand H' a (n+1+1)/\Keep a H2 H') ?_ (λ_ _ _ _ _ _ _=>trivial) ?_ ?_
  ·exact λl hl=>⟨⟨_,rfl⟩,rfl,hH2.new hl,Keep.new hl⟩
  ·rintro l i y ys σ' H' hl hi rfl ⟨⟨o,rfl⟩,rfl,hH',k'⟩ hl'
   have hi13:i<13:=by have:i<m:=by omega
                      omega
   have hr26:(f+st*i)%26<26:=Nat.mod_lt _ (by decide)
   have ei:((f:Int)+(st:Int)*(0+(i:Int)))%26=(((f+st*i)%26:Nat):Int):=by rw[Int.zero_add];push_cast;rfl
   have ec:atI lettersS.cps.toList (((f:Int)+(st:Int)*(0+(i:Int)))%26)=some (97+(f+st*i)%26):=by
    rw[ei];exact zz (zgm _ (List.mem_range.mpr hr26))
   have en:(1+((0+(i:Int))*(0+(i:Int))+(f:Int))%8)=((1+(i*i+f)%8:Nat):Int):=by rw[Int.zero_add];push_cast;rfl
   have g8:(i*i+f)%8<8:=Nat.mod_lt _ (by decide)
   refine⟨_,rfl,_,rfl,_,rfl,_,rfl,_,_,rfl,rfl, .inl ⟨by omega,by omega⟩,_,_,rfl,rfl,_,_,rfl,rfl,(by decide:(0:Int)<26),lettersS,_,_,rfl,rfl,by rw[zig];decide,ec,_,rfl,_,rfl,_,_,rfl,rfl, .inl ⟨by omega,by omega⟩,_,rfl,_,_,rfl,rfl,_,_,rfl,rfl,(by decide:(0:Int)<8),_,_,rfl,rfl,one (97+(f+st*i)%26),_,rfl,rfl,by rw[en];omega,by rw[en];omega,by rw[zkw];decide,by rw[zkw];decide,?_⟩
   have nl:=hH2.ne hl
   refine⟨hl',?_,⟨_,rfl⟩,?_,hH'.updNe nl,k'.updNew hl⟩
   ·rw[ζa,ζa,List.length_range];exact zm (by omega)
   ·rw[en,Int.toNat_natCast,List.range_succ,ξc,ξc];rfl
  ·rintro l ys σ' H3 hl ⟨⟨o,rfl⟩,rfl,hH3,k3⟩ hl'
   have nl:=hH2.ne hl
   rw[Int.toNat_natCast] at hl'
   have e0:(List.range m).map (nmS f st)=(List.range m).map (zci f st 0 0):=by
    apply List.map_congr_left
    intro k _
    unfold zci
    rw[if_neg (by omega)]
   have hln:H l=none:=by
    cases e:H l with
    |none=>rfl
    |some o=>exact absurd (kp2 l o nl e) (by rw[hl];exact λz=>nomatch z)
   refine⟨λσ' H'=>(∃o6 o7 o8,σ'=[some (.ref a),some (.int m),some (.str lettersS),some (.int (f:Int)),some (.int (st:Int)),some (.ref l),o6,o7,o8])/\(∃sp j:Nat,H' l=some (.lst (((List.range m).map (zci f st sp j)).map V.str))/\sp<13/\j<=4)/\Hand H' a (n+4)/\Keep a H H',?_,?_⟩
   ·refine vr rfl ⟨a,6,n+1+1,rfl,hH3,by omega,by decide,by decide,λd H4 d0 d6 hH4 k4=>⟨rfl,vr rfl (zcc (λ_=>?_) (λ_=>?_))⟩⟩
    ·have hl4:=k4 _ _ nl hl'
     have kp4:Keep a H H4:=(kp2.trans k3).trans k4
     refine⟨by decide,λpk hpk=>?_⟩
     have npl:pk≠l:=λz=>by rw[z,hl4] at hpk;cases hpk
     have npa:=hH4.ne hpk
     refine vr rfl ⟨a,13,n+1+1+1,rfl,hH4.new hpk,by omega,by decide,by decide,λsp' H5 sp0 sp13 hH5 k5=>?_⟩
     obtain⟨sp,rfl⟩:∃f:Nat,sp'=(f:Int):=⟨sp'.toNat,by omega⟩
     refine vr rfl (ex2 _ _ ⟨rfl,vr rfl ⟨?_,?_,?_⟩⟩)
     ·split<;>omega
     ·split<;>omega
     have e4:(if(4:Int)<(m:Int)then(4:Int)else(m:Int)).toNat=4:=by split<;>omega
     rw[e4]
     refine zbG zdo (λi σ' H'=>(∃o8,σ'=[some (.ref a),some (.int m),some (.str lettersS),some (.int (f:Int)),some (.int (st:Int)),some (.ref l),some (.ref pk),some (.int (sp:Int)),o8])/\H' l=some (.lst (((List.range m).map (zci f st sp i)).map V.str))/\Hand H' a (n+4)/\Keep a H H'/\H' pk=some (.lst (keptL.map V.str))) ?_ (λ_ _ _ _=>trivial) ?_ ?_
     ·refine ⟨⟨_,rfl⟩,?_,hH5.mono (by omega),kp4.trans ((Keep.new hpk).trans k5),k5 _ _ npa zd⟩
      have e0':(List.range m).map (nmS f st)=(List.range m).map (zci f st sp 0):=by
       apply List.map_congr_left
       intro k _
       unfold zci
       rw[if_neg (by omega)]
      rw[←e0']
      exact k5 _ _ nl (by rw[zr (Ne.symm npl)];exact hl4)
     ·rintro i y σ' H6 hi4 rfl ⟨⟨o8,rfl⟩,hz,hH6,k6,hp6⟩
      have ek:((sp:Int)+3*(0+(i:Int)))%13=(((sp+3*i)%13:Nat):Int):=by rw[Int.zero_add];push_cast;rfl
      have ev:atI (keptL.map V.str) (((sp:Int)+3*(0+(i:Int)))%13)=some (.str (kwS sp i)):=by
       rw[ek];exact zz (by rw[ζq,zob];rfl)
      have hix:ixN (((List.range m).map (zci f st sp i)).map V.str).length (0+(i:Int))=some i:=by
       unfold ixN
       rw[if_pos (by omega),if_pos (by rw[ζa,ζa,List.length_range];omega)]
       congr 1
       omega
      refine vr rfl (vr rfl (vr rfl (ex2 _ _ ⟨rfl,rfl, .inl ⟨by decide,by decide⟩,ex2 _ _ ⟨rfl,rfl,ex2 _ _ ⟨rfl,rfl,(by decide:(0:Int)<13),ixL hp6 ev (vr rfl (vr rfl (ex4 l _ _ i ⟨rfl,rfl,hz,hix,?_⟩)))⟩⟩⟩)))
      refine⟨⟨_,rfl⟩,?_,hH6.updNe nl,k6.updNew hln,by rw[zr npl];exact hp6⟩
      rw[zd,←List.map_set,znE (by omega)]
     ·rintro σ' H6 ⟨⟨o8,rfl⟩,hz,hH6,k6,_⟩
      exact⟨(ex3 _ _ _ rfl),⟨sp,4,hz,by omega,by decide⟩,hH6,k6⟩
    ·rw[e0] at hl'
     exact⟨(ex3 _ _ _ rfl),⟨0,0,k4 _ _ nl hl',by decide,by decide⟩,hH4.mono (by omega),(kp2.trans k3).trans k4⟩
   ·rintro σ' H' ⟨⟨o6,o7,o8,rfl⟩,⟨sp,j,hz,hsp,hj⟩,hH',k'⟩
    refine vr rfl (q l _ H' hln hz (by rw[ζa,List.length_range]) (λx hx=>?_) (ziy (by omega) st0 hsp hj m13) (λx hx=>?_) hH' k')
    ·obtain ⟨k,_,rfl⟩:=List.mem_map.mp hx
     exact zoV _ _ _ _ _
    ·obtain ⟨k,_,rfl⟩:=List.mem_map.mp hx
     exact zlq _ _ _ _ _
end
section
variable{P:Program}{w:World}{K:PySem.W.Frag}{mg:Str->Option Value}{base:Heap}
def NL(O:List Str)(H:Hp)(l:Addr):Prop:=∃xs:List Str,H l=some (.lst (xs.map V.str))/\0<xs.length/\xs.length<=100/\∀x∈xs,zi x=true/\x∈O
theorem NL.keep{O:List Str}{H H':Hp}{a l:Addr}(h:NL O H l)(k:Keep a H H')(n:l≠a):NL O H' l:=let⟨xs,e,r⟩:=h;⟨xs,k _ _ n e,r⟩
theorem NL.same{O:List Str}{H H':Hp}{l:Addr}(h:NL O H l)(k:Same H H'):NL O H' l:=let⟨xs,e,r⟩:=h;⟨xs,k _ _ e,r⟩
theorem zc1{O:List Str}{H:Hp}{a l:Addr}{n:Int}{Q:VK}(hH:Hand H a n)(hn:n<2^40)(hl:NL O H l)(hla:l≠a)(q:∀x H',(zi x=true/\x∈O)->Hand H' a (n+1)->Keep a H H'->Q (.str x) H'):zcO K [.ref a, .ref l] H Q E0:=by
 obtain⟨xs,e,x0,x1,hx⟩:=hl
 refine⟨a,n,hH,hn, .inl (ex2 l _ ⟨rfl,hla,SqL.of e,by rw[ζa];exact x0,by rw[ζa];omega,λv H' hv hH' k'=>?_⟩)⟩
 obtain⟨x,hxx,rfl⟩:=List.mem_map.mp hv
 exact q x H' (hx x hxx) hH' k'
theorem zC{x:Str}(h:zi x=true):x.length<=1000:=by
 unfold zi at h
 simp only[ζt,decide_eq_true_eq] at h
 omega
theorem zeD{y x:Str}(hy:y∈namingL)(hx:zi x=true):zP (.tup [.str y, .str x])=true:=by
 have h1:¬y="long":=by
  intro z
  subst z
  revert hy
  decide +kernel
 have h2:(namingL.any λz=>decide (z=y))=true:=List.any_eq_true.mpr ⟨y,hy,ζf rfl⟩
 rw[ze7,if_neg h1,h2,zc7,hx];rfl
theorem zjz{d:D}(h:zP d=true):zN d=true:=by
 obtain⟨x,e,rfl⟩:=zc4 d h
 by_cases hx:x="not"
 ·subst hx;rw[zdE] at h;cases h
 ·rw[zej,if_neg hx];exact h
theorem zjw{d:D}(h:zP d=true)(ha:zfJ d=false):zeO d=false:=by
 obtain⟨x,e,rfl⟩:=zc4 d h
 by_cases hx:x="not"
 ·subst hx;rw[zdE] at h;cases h
 ·show (if x="not"then zfJ e else decide (x="to"))=false
  rw[if_neg hx];exact ha
noncomputable def zmY:Sp:=λvs H Q _=>∃(a h m:Addr) (n:Int) (to:Bool) (O:List Str),vs=[.ref a, .ref h, .ref m, .bl to]/\Hand H a n/\n<2^39/\NL O H h/\NL O H m/\h≠a/\m≠a/\∀v d H',Rep H' v d->(zN d=true/\zcv O d=true)->(to=false->zeO d=false)->Hand H' a (n+4)->Keep a H H'->Q v H'
theorem zoj(Y:Ev K mg):FnOk P w K mg base CX0 3 Y.a__law_cond Y.d__law_cond zcK zmY:=by
 have G__law_take:FnOk P w K mg base CX0 1 Y.a__law_take Y.d__law_take zaf zdp:=zcU Y
 have G__law_pick:FnOk P w K mg base CX0 2 Y.a__law_pick Y.d__law_pick zag (zcO K):=zdN Y
 refine Y._law_cond.fn.okQ c__law_cond (λvs H Q E h=>?_) (λcdv A outer s H vs Q E hr h=>?_)
 ·obtain ⟨a,h,m,n,to,O,rfl,_⟩:=h;rfl
 ·obtain ⟨a,h,m,n,to,O,rfl,hH,hn,hh,hm,nh,nm,q⟩:=h
  refine⟨_,(zj (zI 4 c__law_cond.nd (zk G__law_take (hr.mono (by decide)) Y._law_take.mg Y._law_take.kp Y._law_take.b .nil zp (zc (qv 0) (zc (zG zat zh (zao zdz Y.int zfc (zc (qv 3) ze))) ze))))
   (zj (zI 5 c__law_cond.nd (zv (zc zaz (zc (zk G__law_pick (hr.mono (by decide)) Y._law_pick.mg Y._law_pick.kp Y._law_pick.b .nil zp (zc (qv 0) (zc (qv 1) ze))) ze))))
   (zb5 (zau (t_w (zdT (zH zay (qv 4) zh) (zdS (zH zay (qv 4) zh)))) (zn (zI 5 c__law_cond.nd (zv (zc zaz (zc (zk G__law_pick (hr.mono (by decide)) Y._law_pick.mg Y._law_pick.kp Y._law_pick.b .nil zp (zc (qv 0) (zc (qv 1) ze))) ze))))) (zn (zau (zH zay (qv 4) zh) (zn (zI 5 c__law_cond.nd (zv (zc zaz (zc (zk G__law_pick (hr.mono (by decide)) Y._law_pick.mg Y._law_pick.kp Y._law_pick.b .nil zp (zc (qv 0) (zc (zfs [V.int 0,V.int 1,V.int 2,V.int 3,V.int 4,V.int 6,V.int 9,V.int 99] (by decide +kernel)) ze))) ze))))) (zn (zau (zH zay (qv 4) zh) (zn (zI 5 c__law_cond.nd (zv (zc zaz (zc (zk G__law_pick (hr.mono (by decide)) Y._law_pick.mg Y._law_pick.kp Y._law_pick.b .nil zp (zc (qv 0) (zc (qv 2) ze))) ze))))) (zn (zau (zH zay (qv 4) zh) (zn (zI 5 c__law_cond.nd (zv (zc zaz (zc (zk G__law_pick (hr.mono (by decide)) Y._law_pick.mg Y._law_pick.kp Y._law_pick.b .nil zp (zc (qv 0) (zc (qv 1) ze))) ze))))) zO)))))))
   (zb5 (zau (zH zay (zk G__law_take (hr.mono (by decide)) Y._law_take.mg Y._law_take.kp Y._law_take.b .nil zp (zc (qv 0) (zc zh ze))) zh) (zn (zI 5 c__law_cond.nd (zv (zc zaz (zc (qv 5) ze))))) zO)
   (zn (zy (qv 5))))))),?_⟩
  refine vr rfl (vr rfl (.inr ⟨to,rfl,ex2 _ _ ⟨rfl,rfl,ex3 a _ n ⟨rfl,hH,by omega,by split<;>omega,by split<;>omega,λt H1 t0 t5 hH1 k1=>?_⟩⟩⟩))
  refine vr rfl (vr rfl (zc1 hH1 (by omega) (hh.keep k1 nh) nh λx H2 hx hH2 k2=>⟨few rfl,λp2 hp2=>?_⟩))
  have mk2:∀{H0:Hp} {p:Addr} {y x:Str},y.length<=1000->(zi x=true/\x∈O)->Rep (upd H0 p (.tup [.str y, .str x])) (.ref p) (.tup [.str y, .str x]):=λhy hx=> .mk2 zd (.str _ hy) (.str _ (zC hx.1))
  have hh2:NL O (upd H2 p2 (.tup [.str "by", .str x])) h:=((hh.keep k1 nh).keep k2 nh).same (Same.new hp2)
  have hm2:NL O (upd H2 p2 (.tup [.str "by", .str x])) m:=((hm.keep k1 nm).keep k2 nm).same (Same.new hp2)
  have hH2':=hH2.new (o:= .tup [.str "by", .str x]) hp2
  have kp2:Keep a H (upd H2 p2 (.tup [.str "by", .str x])):=(k1.trans k2).trans (Keep.new hp2)
  refine⟨λσ' H'=>∃v d,σ'=[some (.ref a),some (.ref h),some (.ref m),some (.bl to),some (.int t),some v]/\Rep H' v d/\(zP d=true/\zaq O d=true)/\(to=false->zfJ d=false)/\Hand H' a (n+3)/\Keep a H H',?_,?_⟩
  ·have ap:∀{y x:Str},¬y="to"->zfJ (.tup [.str y, .str x])=false:=λh=>ζo h
   have br:∀{y:Str},y.length<=1000->y∈namingL->¬y="to"->∀(l:Addr),l≠a->NL O (upd H2 p2 (.tup [.str "by", .str x])) l->∀R:V->Hp->Prop,(∀v d H',Rep H' v d->(zP d=true/\zaq O d=true)->(to=false->zfJ d=false)->Hand H' a (n+3)->Keep a H H'->R v H')->
    zcO K [.ref a, .ref l] (upd H2 p2 (.tup [.str "by", .str x])) (λv H3=> [V.str y,v].length<=sizeLine/\∀p,H3 p=none->R (.ref p) (upd H3 p (.tup [V.str y,v]))) E0:=by
    intro y hy hyn hyt l nl hl R hR
    refine zc1 hH2' (by omega) hl nl λx3 H3 hx3 hH3 k3=>⟨few rfl,λp3 hp3=>?_⟩
    exact hR _ _ _ (mk2 hy hx3) ⟨zeD hyn hx3.1,zbu hx3.2⟩ (λ_=>ap hyt) ((hH3.new hp3).mono (by omega)) ((kp2.trans k3).trans (Keep.new hp3))
   have fin:∀v d H',Rep H' v d->(zP d=true/\zaq O d=true)->(to=false->zfJ d=false)->Hand H' a (n+3)->Keep a H H'->(λ(v:V) (H':Hp)=>∃v0 d,[some (V.ref a),some (.ref h),some (.ref m),some (.bl to),some (.int t),some v]=[some (.ref a),some (.ref h),some (.ref m),some (.bl to),some (.int t),some v0]/\Rep H' v0 d/\(zP d=true/\zaq O d=true)/\(to=false->zfJ d=false)/\Hand H' a (n+3)/\Keep a H H') v H':=
    λv d H' h1 h2 h3 h4 h5=>⟨v,d,rfl,h1,h2,h3,h4,h5⟩
   refine vr rfl ⟨rfl,vr rfl (zcc (λ_=>?_) (λ_=>(vr rfl ⟨rfl,vr rfl (zcc (λ_=>?_) (λ_=>?_))⟩)))⟩
   ·exact vr rfl (vr rfl (br (by decide) (by decide) (by decide +kernel) h nh hh2 _ fin))
   ·exact vr rfl (vr rfl (br (by decide) (by decide) (by decide +kernel) h nh hh2 _ fin))
   refine vr rfl ⟨rfl,vr rfl (zcc (λ_=>?_) (λ_=>(vr rfl ⟨rfl,vr rfl (zcc (λ_=>?_) (λ_=>(vr rfl ⟨rfl,vr rfl (zcc (λh5=>?_) (λ_=>?_))⟩)))⟩)))⟩
   ·refine vr rfl ⟨by decide,λpl hpl=>⟨a,n+2,(hH2'.mono (by omega)).new hpl,by omega, .inl (ex2 pl _ ⟨rfl,hH2'.ne hpl,SqL.of zd,by decide,by decide,λv H3 hv hH3 k3=>⟨few rfl,λp3 hp3=>?_⟩⟩)⟩⟩
    have hk:∃j:Int,v= .int j/\0<=j/\j<=99:=by
     simp only[List.mem_cons,List.not_mem_nil,or_false] at hv
     rcases hv with rfl|rfl|rfl|rfl|rfl|rfl|rfl|rfl<;>exact ⟨_,rfl,by decide,by decide⟩
    obtain⟨j,rfl,j0,j9⟩:=hk
    refine fin _ (.tup [.str "long", .int j]) _ (.mk2 zd (.str _ (by decide)) (.int _)) ?_ (λ_=>(by decide +kernel:decide (("long":Str)="to")=false)) ((hH3.new hp3).mono (by omega)) ((kp2.trans ((Keep.new hpl).trans k3)).trans (Keep.new hp3))
    refine⟨?_,rfl⟩
    rw[ze7,if_pos rfl]
    show(decide (0<=j)&&decide (j<=99))=true
    rw[ζf j0,ζf j9];rfl
   ·exact vr rfl (vr rfl (br (by decide) (by decide) (by decide +kernel) m nm hm2 _ fin))
   ·refine vr rfl (vr rfl (zc1 hH2' (by omega) hh2 nh λx3 H3 hx3 hH3 k3=>⟨few rfl,λp3 hp3=>?_⟩))
    refine fin _ _ _ (mk2 (by decide) hx3) ⟨zeD (by decide) hx3.1,zbu hx3.2⟩ (λz=>?_) ((hH3.new hp3).mono (by omega)) ((kp2.trans k3).trans (Keep.new hp3))
    subst z
    have e5:t=5:=V.int.inj (ζh h5)
    simp at t5
    omega
   ·exact fin _ _ _ (mk2 (by decide) hx) ⟨zeD (by decide) hx.1,zbu hx.2⟩ (λ_=>ap (by decide +kernel)) (hH2'.mono (by omega)) kp2
  ·rintro σ' H3 ⟨v,d,rfl,hv,hd,hto,hH3,k3⟩
   refine⟨λσ' H'=>∃v d,σ'=[some (.ref a),some (.ref h),some (.ref m),some (.bl to),some (.int t),some v]/\Rep H' v d/\(zN d=true/\zcv O d=true)/\(to=false->zeO d=false)/\Hand H' a (n+4)/\Keep a H H',?_,?_⟩
   ·refine vr rfl (ex3 a 4 (n+3) ⟨rfl,hH3,by omega,by decide,by decide,λd4 H4 _ _ hH4 k4=>⟨rfl,vr rfl (zcc (λ_=>?_) (λ_=>?_))⟩⟩)
    ·have hv4:=hv.mono (Mono.keep k4 hH3 hH4)
     refine vr rfl ⟨few rfl,λp5 hp5=>⟨_, .tup [.str "not",d],rfl, .mk2 zd (.str _ (by decide)) (hv4.mono (.new hp5)),?_,?_,(hH4.new hp5).mono (by omega),(k3.trans k4).trans (Keep.new hp5)⟩⟩
     ·exact ⟨by rw[zej,if_pos rfl];exact hd.1,zjy hd.2⟩
     ·exact λz=>hto z
    ·refine ex2 _ d ⟨rfl,hv.mono (Mono.keep k4 hH3 hH4),⟨zjz hd.1,zlG hd.1 hd.2⟩,λz=>zjw hd.1 (hto z),hH4.mono (by omega),k3.trans k4⟩
   ·rintro σ' H4 ⟨v,d,rfl,hv,hd,hto,hH4,k4⟩
    exact vr rfl (q v d H4 hv hd hto hH4 k4)
end
section
variable{P:Program}{w:World}{K:PySem.W.Frag}{mg:Str->Option Value}{base:Heap}
theorem zik{ds:List D}(hl:ds.length<=4)(h:∀d∈ds,zN d=true):zbx (.tup ds)=true:=by
 rw[zie,ζf hl,List.all_eq_true.mpr h];rfl
theorem zf3{α:Type}{P:α->Prop}{ds:List α}(h:∀(i:Nat) (d:α),ds[i]?=some d->P d):∀d∈ds,P d:=λd hd=>by
 obtain⟨i,hi,e⟩:=List.getElem_of_mem hd
 exact h i d (by rw[ζd hi,e])
noncomputable def zk6:Sp:=λvs H Q _=>∃(a h m:Addr) (n:Int) (to:Bool) (O:List Str),vs=[.ref a, .ref h, .ref m, .bl to]/\Hand H a n/\n<2^38/\NL O H h/\NL O H m/\h≠a/\m≠a/\∀v ds H',Rep H' v (.tup ds)->ds.length<=4->(∀d∈ds,zN d=true)->(∀d∈ds,zcv O d=true)->(to=false->∀d∈ds,zeO d=false)->Hand H' a (n+17)->Keep a H H'->Q v H'
theorem zmC(Y:Ev K mg):FnOk P w K mg base CX0 4 Y.a__law_conds Y.d__law_conds zce zk6:=by
 have G__law_pick:FnOk P w K mg base CX0 2 Y.a__law_pick Y.d__law_pick zag (zcO K):=zdN Y
 have G__law_cond:FnOk P w K mg base CX0 3 Y.a__law_cond Y.d__law_cond zcK zmY:=zoj Y
 refine Y._law_conds.fn.okQ c__law_conds (λvs H Q E h=>?_) (λcdv A outer s H vs Q E hr h=>?_)
 ·obtain ⟨a,h,m,n,to,O,rfl,_⟩:=h;rfl
 ·obtain ⟨a,h,m,n,to,O,rfl,hH,hn,hh,hm,nh,nm,q⟩:=h
  refine⟨_,(zj (zI 4 c__law_conds.nd (zk G__law_pick (hr.mono (by decide)) Y._law_pick.mg Y._law_pick.kp Y._law_pick.b .nil zp (zc (qc 0) (zc (zfs [V.int 1,V.int 1,V.int 1,V.int 2,V.int 0,V.int 4] (by decide +kernel)) ze))))
   (zn (zy (zao zab Y.tuple zbf (zc (zaI (src:=[none,some 0,some 1,some 2,some 3]) o__law_conds_1 rfl rfl (zdf Y.range (zc (qv 4) ze)) (λ_ _ _ _ _=>(zo 0 o__law_conds_1.nd)) (λ_ _ _ _ _=>zcR) (λ_ _ _ _ _=>(zk G__law_cond (hr.mono (by decide)) Y._law_cond.mg Y._law_cond.kp Y._law_cond.b .nil zp (zc (qc 1) (zc (qc 2) (zc (qc 3) (zc (qc 4) ze))))))) ze))))),?_⟩
  refine vr rfl ⟨by decide,λpl hpl=>⟨a,n,hH.new hpl,by omega, .inl (ex2 pl _ ⟨rfl,hH.ne hpl,SqL.of zd,by decide,by decide,λv H1 hv hH1 k1=>?_⟩)⟩⟩
  obtain⟨c,rfl,c4⟩:∃c:Nat,v= .int (c:Int)/\c<=4:=by
   simp only[List.mem_cons,List.not_mem_nil,or_false] at hv
   rcases hv with rfl|rfl|rfl|rfl|rfl|rfl
   ·exact ⟨1,rfl,by decide⟩
   ·exact ⟨1,rfl,by decide⟩
   ·exact ⟨1,rfl,by decide⟩
   ·exact ⟨2,rfl,by decide⟩
   ·exact ⟨0,rfl,by decide⟩
   ·exact ⟨4,rfl,by decide⟩
  have kp1:Keep a H H1:=(Keep.new hpl).trans k1
  have hh1:=(hh.same (Same.new (o:= .lst [V.int 1,V.int 1,V.int 1,V.int 2,V.int 0,V.int 4]) hpl)).keep k1 nh
  have hm1:=(hm.same (Same.new (o:= .lst [V.int 1,V.int 1,V.int 1,V.int 2,V.int 0,V.int 4]) hpl)).keep k1 nm
  refine vr rfl ⟨c,rfl,by omega,by omega,?_⟩
  rw[Int.toNat_natCast]
  refine zev (a:=a) (m:=n+1) (c:=4) (Pd:=λ_ d=>(zN d=true/\zcv O d=true)/\(to=false->zeO d=false)) (σr:=[some (.ref a),some (.ref h),some (.ref m),some (.bl to)]) rfl hH1 (by omega) (by decide) (λj H2 Q1 hj hH2 k2 q1=>?_) (λl vs ds H2 hl hl2 r2 hds pd hH2 k2=>?_)
  ·exact vr rfl (vr rfl (vr rfl (vr rfl (ex4 a h m _ (ex2 to O ⟨rfl,hH2,by omega,hh1.keep k2 nh,hm1.keep k2 nm,nh,nm,λv d H3 rv hc ht hH3 k3=>q1 v d H3 rv ⟨hc,ht⟩ hH3 k3⟩)))))
  ·refine ex2 l vs ⟨rfl, .inl ⟨SqL.of hl2,λp hp=>?_⟩⟩
   have pd':=zf3 (P:=λd=>(zN d=true/\zcv O d=true)/\(to=false->zeO d=false)) pd
   exact q _ ds _ (.mkL zd (by omega) (r2.mono (.new hp))) (by omega) (λd hd=>(pd' d hd).1.1) (λd hd=>(pd' d hd).1.2) (λz d hd=>(pd' d hd).2 z) ((hH2.new hp).mono (by omega)) ((kp1.trans k2).trans (Keep.new hp))
theorem zk9{ds:List D}{x:D}(hl:ds.length<=4)(h:∀d∈ds,zN d=true)(ha:∀d∈ds,zeO d=false)(hx:zdx x=true):zaF (.tup [.tup ds,x])=true:=by
 rw[zle,zik hl h,hx]
 have:zfW (.tup ds)=false:=by
  show ds.any zeO=false
  rw[List.any_eq_false]
  exact λd hd z=>by rw[ha d hd] at z;cases z
 rw[this];rfl
end
section
variable{P:Program}{w:World}{K:PySem.W.Frag}{mg:Str->Option Value}{base:Heap}
theorem zov{ds:List D}{x:D}(hl:ds.length<=4)(h:∀d∈ds,zN d=true)(hx:zc9 x=true):zbj (.tup [.tup ds,x])=true:=by
 rw[zog,zik hl h,hx];rfl
theorem zhS{y x:Str}(hx:zi x=true)(hy:y="put"\/y="strike"):zc9 (.tup [.str y, .str x])=true:=by
 rw[zpQ,zc7,hx]
 rcases hy with rfl|rfl<;>decide +kernel
def TD(H:Hp)(d:Addr)(xs:List Str)(c:Nat):Prop:=∃(kvs:List (List Key×V)) (ps:List (Str×Str)),H d=some (.dT kvs)/\kvs.map (·.1)=ps.map zgL/\ps.length<=c/\∀p∈ps,p.1∈xs/\p.2∈xs/\ltS p.1 p.2=true
theorem zlt{kvs:List (List Key×V)}{k:List Key}{v:V}:(zeI kvs k v).map (·.1)=kvs.map (·.1)\/(zeI kvs k v).map (·.1)=kvs.map (·.1)++ [k]:=by
 unfold zeI
 by_cases h:(kvs.any λkv=>decide (kv.1=k))=true
 ·rw[if_pos h]
  refine .inl ?_
  rw[List.map_map]
  apply List.map_congr_left
  intro x _
  show(if x.1=k then(x.1,v)else x).1=x.1
  split<;>rfl
 ·rw[if_neg h,ξc]
  exact .inr rfl
theorem TD.put{H:Hp}{d:Addr}{xs:List Str}{c:Nat}{p:Str×Str}{v:V}{kvs:List (List Key×V)}{ps:List (Str×Str)}(h1:kvs.map (·.1)=ps.map zgL)(h2:ps.length<=c)(h3:∀p∈ps,p.1∈xs/\p.2∈xs/\ltS p.1 p.2=true)(hp:p.1∈xs/\p.2∈xs/\ltS p.1 p.2=true):
 TD (upd H d (.dT (zeI kvs (zgL p) v))) d xs (c+1):=by
 rcases zlt (kvs:=kvs) (k:=zgL p) (v:=v)with e|e
 ·exact ⟨_,ps,zd,e.trans h1,by omega,h3⟩
 ·refine ⟨_,ps ++ [p],zd,by rw[e,h1,ξc];rfl,by rw[ζe];show ps.length+1<=_;omega,λq hq=>?_⟩
  rcases List.mem_append.mp hq with hq|hq
  ·exact h3 q hq
  ·rw[List.mem_singleton.mp hq];exact hp
theorem TD.keep{H H':Hp}{a d:Addr}{xs:List Str}{c:Nat}(h:TD H d xs c)(k:Keep a H H')(n:d≠a):TD H' d xs c:=let⟨kvs,ps,e,r⟩:=h;⟨kvs,ps,k _ _ n e,r⟩
theorem TD.mono{H:Hp}{d:Addr}{xs:List Str}{c c':Nat}(h:TD H d xs c)(l:c<=c'):TD H d xs c':=let⟨kvs,ps,e,f,g,r⟩:=h;⟨kvs,ps,e,f,ξb g l,r⟩
theorem znD{x y:Str}(h:x≠y):ltS (if ltS y x=true then y else x) (if ltS x y=true then y else x)=true:=by
 cases e:ltS x y with
 |true=>rw[zh6 e];simp only[Bool.false_eq_true,if_false,if_true];exact e
 |false=>
  have:=zdM h e
  rw[this];simp only[Bool.false_eq_true,if_false,if_true];exact this
noncomputable def zkv:Sp:=λvs H Q _=>∃(a h:Addr) (n:Int) (more:Nat) (xs:List Str),vs=[.ref a, .ref h, .int more]/\Hand H a n/\n<2^38/\H h=some (.lst (xs.map V.str))/\h≠a/\1<=xs.length/\xs.length<=10/\xs.Nodup/\(∀x∈xs,zi x=true)/\more<=30/\
 ∀(v:V) (ps:List (Str×Str)) (H':Hp),Rep H' v (.tup (ps.map pairD))->ps.Pairwise (λa b=>ltP a b=true)->(∀p∈ps,p.1∈xs/\p.2∈xs/\ltS p.1 p.2=true)->Hand H' a (n+100)->Keep a H H'->Q v H'
theorem znY(Y:Ev K mg):FnOk P w K mg base CX0 3 Y.a__law_ties Y.d__law_ties zcH zkv:=by
 have G__law_take:FnOk P w K mg base CX0 1 Y.a__law_take Y.d__law_take zaf zdp:=zcU Y
 have G__law_pick:FnOk P w K mg base CX0 2 Y.a__law_pick Y.d__law_pick zag (zcO K):=zdN Y
 refine Y._law_ties.fn.okQ c__law_ties (λvs H Q E h=>?_) (λcdv A outer s H vs Q E hr h=>?_)
 ·obtain ⟨a,h,n,more,xs,rfl,_⟩:=h;rfl
 ·obtain ⟨a,h,n,more,xs,rfl,hH,hn,hh,nh,x1,x10,hnd,hxn,hmore,q⟩:=h
  refine⟨_,(zj (zI 3 c__law_ties.nd zoL)
   (zj (zcJ PassesOwn.never rfl (zqm Y.range (zc zh (zc (zq zE Y.len zaj (zc (qv 1) ze)) ze))) (zo 4 c__law_ties.nd) (zj (zpc 5 6 c__law_ties.nd (zc (zt ix_list (qv 1) (qv 4)) (zc (zt ix_list (qv 1) (zk G__law_take (hr.mono (by decide)) Y._law_take.mg Y._law_take.kp Y._law_take.b .nil zp (zc (qv 0) (zc (qv 4) ze)))) ze)))
   (zn (zau (zH zes (zk G__law_take (hr.mono (by decide)) Y._law_take.mg Y._law_take.kp Y._law_take.b .nil zp (zc (qv 0) (zc zh ze))) zh) (zn (zmt (hu1 hr) (qv 3) (zv (zc (zq (zgl rfl) Y.min zhO (zc (qv 5) (zc (qv 6) ze))) (zc (zq (zf6 rfl) Y.max zjJ (zc (qv 5) (zc (qv 6) ze))) ze))) zco)) zO))))
   (zj (zcJ PassesOwn.never rfl (zdf Y.range (zc (qv 2) ze)) (zo 4 c__law_ties.nd) (zj (zpc 5 6 c__law_ties.nd (zc (zk G__law_pick (hr.mono (by decide)) Y._law_pick.mg Y._law_pick.kp Y._law_pick.b .nil zp (zc (qv 0) (zc (qv 1) ze))) (zc (zk G__law_pick (hr.mono (by decide)) Y._law_pick.mg Y._law_pick.kp Y._law_pick.b .nil zp (zc (qv 0) (zc (qv 1) ze))) ze)))
   (zn (zau (zH zeP (qv 5) (qv 6)) (zn (zmt (hu1 hr) (qv 3) (zv (zc (zq (zgl rfl) Y.min zhO (zc (qv 5) (zc (qv 6) ze))) (zc (zq (zf6 rfl) Y.max zjJ (zc (qv 5) (zc (qv 6) ze))) ze))) zco)) zO))))
   (zn (zy (zao zab Y.tuple zbf (zc (zq (zhp rfl) Y.sorted zcn (zc (qv 3) ze)) ze))))))),?_⟩
  intro d hd
  have nd:=hH.ne hd
  have ndh:d≠h:=λz=>by rw[z,hh] at hd;cases hd
  have hh0:upd H d (.dT []) h=some (.lst (xs.map V.str)):=by rw[zr (Ne.symm ndh)];exact hh
  refine vr rfl (.inl (ex2 h _ ⟨rfl, .inl (SqL.of hh0),ex2 1 _ ⟨rfl,⟨by decide,by decide,by omega,by rw[ζa];omega⟩,?_⟩⟩))
  have hN:(((xs.map V.str).length:Int) -1).toNat=xs.length -1:=by rw[ζa];omega
  rw[hN]
  refine zbG zdo (λi σ' H'=>(∃o1 o2 o3,σ'=[some (.ref a),some (.ref h),some (.int more),some (.ref d),o1,o2,o3])/\TD H' d xs i/\Hand H' a (n+2*i)/\Keep a H H') ?_ (λ_ _ _ _=>trivial) ?_ ?_
  ·exact ⟨(ex3 _ _ _ rfl),⟨[],[],zd,rfl,ζu _,λ_ z=>nomatch z⟩,(hH.new hd).mono (by omega),Keep.new hd⟩
  ·rintro i y σ' H1 hi rfl ⟨⟨o1,o2,o3,rfl⟩,td,hH1,k1⟩
   have hh1:=k1 _ _ nh hh
   have g1:atI (xs.map V.str) (1+(i:Int))=some (.str (xs.getD (i+1) "")):=by
    have hi1:i+1<xs.length:=by omega
    rw[Int.add_comm]
    exact zz (j:=i+1) (by simp[hi1,List.getD])
   refine vr rfl (vr rfl (ixL hh1 g1 (vr rfl (vr rfl (vr rfl (ex3 a _ _ ⟨rfl,hH1,by omega,by omega,by omega,λt' H2 t0 t1 hH2 k2=>?_⟩))))))
   obtain⟨t,rfl⟩:∃t:Nat,t'=(t:Int):=⟨t'.toNat,by omega⟩
   have hh2:=k2 _ _ nh hh1
   have ht:t<xs.length:=by omega
   have g2:atI (xs.map V.str) (t:Int)=some (.str (xs.getD t "")):=zz (by simp[ht,List.getD])
   have hne:xs.getD (i+1) ""≠xs.getD t "":=by
    have hi1:i+1<xs.length:=by omega
    have:=zmg hnd hi1 ht (by omega)
    simpa[List.getD,hi1,ht] using this
   have mx1:xs.getD (i+1) ""∈xs:=by have hi1:i+1<xs.length:=by omega
                                    simp[List.getD,hi1]
   have mx2:xs.getD t ""∈xs:=by simp[List.getD,ht]
   generalize xs.getD (i+1) ""=x at *
   generalize xs.getD t ""=y at *
   refine ixL hh2 g2 (ex2 _ _ ⟨rfl,?_⟩)
   have td2:=td.keep k2 nd
   refine vr rfl (ex3 a 9 _ ⟨rfl,hH2,by omega,by decide,by decide,λu H3 u0 u9 hH3 k3=>(ex2 _ _ ⟨rfl,rfl,vr rfl (zcc (λ_=>?_) (λ_=>?_))⟩)⟩)
   ·obtain ⟨kvs,ps,hkv,hkk,hpl,hpg⟩:=td2.keep k3 nd
    refine vr rfl (vr rfl (vr rfl (ex2 x y ⟨rfl,vr rfl (vr rfl (ex2 x y ⟨rfl,few rfl,λp hp=>?_⟩))⟩)))
    have hkv4:upd H3 p (.tup [.str (if ltS y x=true then y else x), .str (if ltS x y=true then y else x)]) d=some (.dT kvs):=by rw[zr (zB hkv hp)];exact hkv
    have hlk:kvs.length=ps.length:=by have:=congrArg List.length hkk;simpa using this
    refine ex2 d _ ⟨rfl,DPut.t (k:=zgL (if ltS y x=true then y else x,if ltS x y=true then y else x)) hkv4 zd (zm (by omega)),(ex3 _ _ _ rfl),TD.put hkk hpl hpg ⟨?_,?_,znD hne⟩,?_,?_⟩
    ·dsimp only;split<;>assumption
    ·dsimp only;split<;>assumption
    ·exact ((hH3.new hp).updNe nd).mono (by rw[show((i+1:Nat):Int)=(i:Int)+1 by omega];omega)
    ·exact Keep.updNew (((k1.trans k2).trans k3).trans (Keep.new hp)) hd
   ·exact ⟨(ex3 _ _ _ rfl),(td2.keep k3 nd).mono (by omega),hH3.mono (by rw[show((i+1:Nat):Int)=(i:Int)+1 by omega];omega),(k1.trans k2).trans k3⟩
  ·rintro σ' H1 ⟨⟨o1,o2,o3,rfl⟩,td,hH1,k1⟩
   refine vr rfl ⟨more,rfl,by omega,by omega,?_⟩
   rw[Int.toNat_natCast]
   refine zbG zdo (λi σ' H'=>(∃o1 o2 o3,σ'=[some (.ref a),some (.ref h),some (.int more),some (.ref d),o1,o2,o3])/\TD H' d xs (9+i)/\Hand H' a (n+20+2*i)/\Keep a H H') ?_ (λ_ _ _ _=>trivial) ?_ ?_
   ·exact ⟨(ex3 _ _ _ rfl),td.mono (by omega),hH1.mono (by omega),k1⟩
   ·rintro i y σ' H2 hi rfl ⟨⟨o1,o2,o3,rfl⟩,td2,hH2,k2⟩
    have pk:∀{H0:Hp} {n0:Int} {R:VK},Hand H0 a n0->n0<2^40->H0 h=some (.lst (xs.map V.str))->(∀x H',x∈xs->Hand H' a (n0+1)->Keep a H0 H'->R (.str x) H')->zcO K [.ref a, .ref h] H0 R E0:=λhH0 hn0 e0 qq=>
     ⟨a,_,hH0,hn0, .inl ⟨h,_,rfl,nh,SqL.of e0,by rw[ζa];omega,by rw[ζa];omega,λv H' hv hH' k'=>by
       obtain⟨x,hx,rfl⟩:=List.mem_map.mp hv
       exact qq x H' hx hH' k'⟩⟩
    have hh2:=k2 _ _ nh hh
    refine vr rfl (vr rfl (pk hH2 (by omega) hh2 λx H3 hx hH3 k3=>(vr rfl (vr rfl (pk hH3 (by omega) (k3 _ _ nh hh2) λy H4 hy hH4 k4=>(ex2 _ _ ⟨rfl,vr rfl (vr rfl ⟨rfl,vr rfl (zcc (λhc=>?_) (λ_=>?_))⟩)⟩))))))
    ·have hne:x≠y:=λz=>by rw[z] at hc;simp at hc
     obtain⟨kvs,ps,hkv,hkk,hpl,hpg⟩:=(td2.keep k3 nd).keep k4 nd
     refine vr rfl (vr rfl (vr rfl (ex2 x y ⟨rfl,vr rfl (vr rfl (ex2 x y ⟨rfl,few rfl,λp hp=>?_⟩))⟩)))
     have hkv4:upd H4 p (.tup [.str (if ltS y x=true then y else x), .str (if ltS x y=true then y else x)]) d=some (.dT kvs):=by rw[zr (zB hkv hp)];exact hkv
     have hlk:kvs.length=ps.length:=by have:=congrArg List.length hkk;simpa using this
     refine ex2 d _ ⟨rfl,DPut.t (k:=zgL (if ltS y x=true then y else x,if ltS x y=true then y else x)) hkv4 zd (zm (by omega)),(ex3 _ _ _ rfl),TD.put hkk hpl hpg ⟨?_,?_,znD hne⟩,?_,?_⟩
     ·dsimp only;split<;>assumption
     ·dsimp only;split<;>assumption
     ·exact ((hH4.new hp).updNe nd).mono (by rw[show((i+1:Nat):Int)=(i:Int)+1 by omega];omega)
     ·exact Keep.updNew (((k2.trans k3).trans k4).trans (Keep.new hp)) hd
    ·exact ⟨(ex3 _ _ _ rfl),((td2.keep k3 nd).keep k4 nd).mono (by omega),hH4.mono (by rw[show((i+1:Nat):Int)=(i:Int)+1 by omega];omega),(k2.trans k3).trans k4⟩
   ·rintro σ' H2 ⟨⟨o1,o2,o3,rfl⟩,⟨kvs,ps,hkv,hkk,hpl,hpg⟩,hH2,k2⟩
    refine vr rfl (ex3 d kvs ps ⟨rfl,hkv,hkk,by omega,λps' vs l hperm hpw hpa hl=>(ex2 l vs ⟨rfl, .inl ⟨SqL.of zd,λp hp=>?_⟩⟩)⟩)
    have S:Same H2 (upd (upd H2 l (.lst vs)) p (.tup vs)):=(Same.new hl).trans (Same.new hp)
    refine q _ ps' _ (.mkL zd (by rw[ζa,hperm.length_eq];omega) ⟨by rw[ζa];exact hpa.1,λi v dd e1 e2=>?_⟩) hpw (λp hp=>hpg p (hperm.mem_iff.mp hp)) ((hH2.same S).mono (by omega)) (k2.trans (Keep.of S))
    rw[ζq] at e2
    cases e3:ps'[i]? with
    |none=>rw[e3] at e2;cases e2
    |some pr=>
     rw[e3] at e2
     cases e2
     obtain⟨b,rfl,hb⟩:=hpa.2 i v pr e1 e3
     have hpr:=hpg pr (hperm.mem_iff.mp (ζl e3))
     exact .mk2 (S _ _ hb) (.str _ (zC (hxn _ hpr.1))) (.str _ (zC (hxn _ hpr.2.1)))
end
section
variable{P:Program}{w:World}{K:PySem.W.Frag}{mg:Str->Option Value}{base:Heap}
theorem zkY{H:Hp}{a l:Addr}{n:Int}{vs:List V}{ds:List D}{Q:VK}(hH:Hand H a n)(hn:n<2^40)(e:H l=some (.lst vs))(r:RepL H vs ds)
 (q:∀v d H',d∈ds->Rep H' v d->Hand H' a (n+1)->Keep a H H'->Q v H') (hb:(Nat.ble 1 ds.length&&Nat.ble ds.length 900&&!(Nat.beq ds.length 3))=true:=by rfl):zcO K [.ref a, .ref l] H Q E0:=by
 have hl:=r.1
 simp only[ζt] at hb
 have h0:=ζk hb.1.1
 have h9:=ζk hb.1.2
 have h3:ds.length≠3:=λz=>by rw[z] at hb;exact absurd hb.2 (by decide)
 refine⟨a,n,hH,hn, .inl (ex2 l _ ⟨rfl,zjZ hH e r h3,SqL.of e,by omega,by omega,λv H' hv hH' k'=>?_⟩)⟩
 obtain⟨i,hi,ei⟩:=List.getElem_of_mem hv
 obtain⟨d,hd,rd⟩:=r.get (i:=i) (v:=v) (by rw[ζd hi,ei])
 exact q v d H' (ζl hd) (rd.mono (.keep k' hH hH')) hH' k'
end
section
variable{P:Program}{w:World}{K:PySem.W.Frag}{mg:Str->Option Value}{base:Heap}
noncomputable def zhD:D->Bool| .tup ds=>decide (ds.length<=3)|_=>false
noncomputable def zhP(d:D):Bool:=zbE d&&zhD d
noncomputable def zmG:Sp:=λvs H Q _=>∃(a:Addr) (n:Int),vs=[.ref a]/\Hand H a n/\n<2^36/\∀(v:V) (g:Str) (hs:List Str) (ps:List (Str×Str)) (lks hds:List D) (H':Hp),Rep H' v (za5 g hs ps lks hds)->TownOk g hs ps lks hds->(∀x∈hs,x≠"nowhere")->(∃O,Pool hs lks hds O/\O.length<=13)->(∀d∈hds,zhD d=true)->Hand H' a (n+9000)->Keep a H H'->Q v H'
theorem zgO{d:D}{ds:List D}(e:d= .tup ds)(h:ds.length<=12){O:List Str}(h2:∀d∈ds,zjq O d=true):zbV d=true/\zdi O d=true:=by
 subst e
 refine⟨?_,List.all_eq_true.mpr λd hd=>((ζt _ _).mp (h2 d hd)).2⟩
 show(decide (ds.length<=90)&&ds.all zaF)=true
 rw[ζf (by omega),List.all_eq_true.mpr λd hd=>((ζt _ _).mp (h2 d hd)).1];rfl
theorem zib{d:D}{ds:List D}(e:d= .tup ds)(h:ds.length<=3){O:List Str}(h2:∀d∈ds,zjV O d=true):zhP d=true/\zdi O d=true:=by
 subst e
 refine⟨?_,List.all_eq_true.mpr λd hd=>((ζt _ _).mp (h2 d hd)).2⟩
 show((decide (ds.length<=90)&&ds.all zbj)&&decide (ds.length<=3))=true
 rw[ζf (by omega),ζf h,List.all_eq_true.mpr λd hd=>((ζt _ _).mp (h2 d hd)).1];rfl
def Rows(g:D->Bool)(O:List Str)(H':Hp)(ls:Addr)(i:Nat):Prop:=∃(zs:List V) (ds:List D),H' ls=some (.lst zs)/\RepL H' zs ds/\ds.length=i/\∀d∈ds,g d=true/\zdi O d=true
theorem Rows.keep{g:D->Bool}{O:List Str}{H H':Hp}{a ls:Addr}{i:Nat}{n m:Int}(h:Rows g O H ls i)(k:Keep a H H')(hl:ls≠a)(h1:Hand H a n)(h2:Hand H' a m):Rows g O H' ls i:=let⟨zs,ds,e,r,l,q⟩:=h;⟨zs,ds,k _ _ hl e,r.mono (.keep k h1 h2),l,q⟩
theorem Rows.put{g:D->Bool}{O:List Str}{H:Hp}{ls:Addr}{i:Nat}{zs:List V}{ds:List D}{v:V}{d:D}(e:H ls=some (.lst zs))(r:RepL H zs ds)(l:ds.length=i)(q:∀d∈ds,g d=true/\zdi O d=true)(rv:Rep H v d)(hd:g d=true/\zdi O d=true):Rows g O (upd H ls (.lst (zs ++ [v]))) ls (i+1):=
 ⟨_,ds ++ [d],zd,(r.append (.cons rv .nil)).mono (.lset e),by rw[ζe,l];rfl,λx hx=>(List.mem_append.mp hx).elim (q x) λz=>by rw[List.mem_singleton.mp z];exact hd⟩
theorem zoX(Y:Ev K mg):FnOk P w K mg base CX0 5 Y.a__law_mild_town Y.d__law_mild_town za1 zmG:=by
 have G__law_take:FnOk P w K mg base CX0 1 Y.a__law_take Y.d__law_take zaf zdp:=zcU Y
 have G__law_pick:FnOk P w K mg base CX0 2 Y.a__law_pick Y.d__law_pick zag (zcO K):=zdN Y
 have G__law_names:FnOk P w K mg base CX0 3 Y.a__law_names Y.d__law_names zcg zi7:=zlB Y
 have G__law_ties:FnOk P w K mg base CX0 3 Y.a__law_ties Y.d__law_ties zcH zkv:=znY Y
 have G__law_conds:FnOk P w K mg base CX0 4 Y.a__law_conds Y.d__law_conds zce zk6:=zmC Y
 refine Y._law_mild_town.fn.okQ c__law_mild_town (λvs H Q E h=>?_) (λcdv A outer s H vs Q E hr h=>?_)
 ·obtain ⟨a,n,rfl,_⟩:=h;rfl
 ·obtain ⟨a,n,rfl,hH,hn,q⟩:=h
  refine⟨_,(zj (zI 1 c__law_mild_town.nd (zt ix_list (zbs (zc zh (zc zh (zc zh (zc zh (zc zh (zc zh (zc zh (zc (zG zat zh (zk G__law_take (hr.mono (by decide)) Y._law_take.mg Y._law_take.kp Y._law_take.b .nil zp (zc (qc 0) (zc zh ze)))) ze))))))))) (zk G__law_take (hr.mono (by decide)) Y._law_take.mg Y._law_take.kp Y._law_take.b .nil zp (zc (qc 0) (zc zh ze)))))
   (zj (zc2 2 c__law_mild_town.nd (zk G__law_names (hr.mono (by decide)) Y._law_names.mg Y._law_names.kp Y._law_names.b .nil zp (zc (qc 0) (zc (zG zat (qv 1) zh) ze))))
   (zj (zdA (zv (zc (zbL zfU (qc 2) zae (zV (qv 1))) (zc (zbL zfU (qc 2) (zV (qv 1)) zae) ze))) (zc5 2 rfl (zx (zo 3 c__law_mild_town.nd) (zx (zcX 4 c__law_mild_town.nd) za4))))
   (zj (zI 5 c__law_mild_town.nd (zk G__law_ties (hr.mono (by decide)) Y._law_ties.mg Y._law_ties.kp Y._law_ties.b .nil zp (zc (qc 0) (zc (qv 3) (zc (zt ix_list (zfs [V.int 1,V.int 2,V.int 3,V.int 4] (by decide +kernel)) (zk G__law_take (hr.mono (by decide)) Y._law_take.mg Y._law_take.kp Y._law_take.b .nil zp (zc (qc 0) (zc zh ze)))) ze)))))
   (zj (zI 6 c__law_mild_town.nd (zbs ze))
   (zj (zI 7 c__law_mild_town.nd (zbs ze))
   (zj (zcJ PassesOwn.never rfl (zdt (qv 3)) (zo 8 c__law_mild_town.nd) (zj (zc2 9 c__law_mild_town.nd (zbs (zc zh (zc zh (zc zh (zc (zeo zbH zh) (zc zh (zc (zt ix_list (zbs (zc zck (zc zh ze))) (zao zdz Y.int zfc (zc (za2 zes (zk G__law_take (hr.mono (by decide)) Y._law_take.mg Y._law_take.kp Y._law_take.b .nil zp (zc (qc 0) (zc zh ze))) zh) ze))) ze))))))))
   (zj (zbU 10 (src:=[none,some 0,some 4,some 2,some 9]) o__law_mild_town_1 rfl rfl c__law_mild_town.nd (zdf Y.range (zc (zk G__law_take (hr.mono (by decide)) Y._law_take.mg Y._law_take.kp Y._law_take.b .nil zp (zc (qc 0) (zc zh ze))) ze)) (λ_ _ _ _ _=>(zo 0 o__law_mild_town_1.nd)) (λ_ _ _ _ _=>zcR) (λ_ _ _ _ _=>(zv (zc (zk G__law_conds (hr.mono (by decide)) Y._law_conds.mg Y._law_conds.kp Y._law_conds.b .nil zp (zc (qc 1) (zc (qc 3) (zc (qc 2) (zc zco ze))))) (zc (zk G__law_pick (hr.mono (by decide)) Y._law_pick.mg Y._law_pick.kp Y._law_pick.b .nil zp (zc (qc 1) (zc (qc 4) ze))) ze)))))
   (zj (zdq (zfq PySem.F.plainAttrs_list PySem.F.slot_list_append PySem.F.type_list_append zaM (qv 6) (zc (zao zab Y.tuple zbf (zc (qv 10) ze)) ze)))
   (zj (zc2 11 c__law_mild_town.nd (zbs (zc (zv (zc zaz (zc (zk G__law_pick (hr.mono (by decide)) Y._law_pick.mg Y._law_pick.kp Y._law_pick.b .nil zp (zc (qc 0) (zc (qc 4) ze))) ze))) (zc (zv (zc zaz (zc (zk G__law_pick (hr.mono (by decide)) Y._law_pick.mg Y._law_pick.kp Y._law_pick.b .nil zp (zc (qc 0) (zc (qc 4) ze))) ze))) (zc (zv (zc zaz (zc (zk G__law_pick (hr.mono (by decide)) Y._law_pick.mg Y._law_pick.kp Y._law_pick.b .nil zp (zc (qc 0) (zc (qc 4) ze))) ze))) ze)))))
   (zj (zdq (zfq PySem.F.plainAttrs_list PySem.F.slot_list_append PySem.F.type_list_append zaM (qc 11) (zc (zt ix_list (zbs (zc (zv (zc zaz ze)) (zc (zv (zc zaz (zc (zt ix_list (qc 4) zh) ze))) ze))) (zao zdz Y.int zfc (zc (za2 zes (zk G__law_take (hr.mono (by decide)) Y._law_take.mg Y._law_take.kp Y._law_take.b .nil zp (zc (qc 0) (zc zh ze))) zh) ze))) ze)))
   (zj (zbU 10 (src:=[none,some 11,some 0,some 4,some 2]) o__law_mild_town_2 rfl rfl c__law_mild_town.nd (zdf Y.range (zc (zk G__law_take (hr.mono (by decide)) Y._law_take.mg Y._law_take.kp Y._law_take.b .nil zp (zc (qc 0) (zc zh ze))) ze)) (λ_ _ _ _ _=>(zo 0 o__law_mild_town_2.nd)) (λ_ _ _ _ _=>zcR) (λ_ _ _ _ _=>(zv (zc (zk G__law_conds (hr.mono (by decide)) Y._law_conds.mg Y._law_conds.kp Y._law_conds.b .nil zp (zc (qc 2) (zc (qc 4) (zc (qc 3) (zc zco ze))))) (zc (zk G__law_pick (hr.mono (by decide)) Y._law_pick.mg Y._law_pick.kp Y._law_pick.b .nil zp (zc (qc 2) (zc (qc 1) ze))) ze)))))
   (zn (zdq (zfq PySem.F.plainAttrs_list PySem.F.slot_list_append PySem.F.type_list_append zaM (qv 7) (zc (zao zab Y.tuple zbf (zc (qv 10) ze)) ze)))))))))))
   (zn (zy (zv (zc (zk G__law_pick (hr.mono (by decide)) Y._law_pick.mg Y._law_pick.kp Y._law_pick.b .nil zp (zc (qc 0) (zc (qv 3) ze))) (zc (zao zab Y.tuple zbf (zc (zq zhY Y.sorted zcn (zc (qv 3) ze)) ze)) (zc (qv 5) (zc (zao zab Y.tuple zbf (zc (qv 6) ze)) (zc (zao zab Y.tuple zbf (zc (qv 7) ze)) ze))))))))))))))),?_⟩
  refine zd5 λe e1=>?_
  refine vr rfl (ex3 a 4 n ⟨rfl,hH,by omega,by decide,by decide,λt H1 t0 t5 hH1 k1=>(ex2 _ _ ⟨rfl,rfl,few rfl,λpl hpl=>(vr rfl (ex3 a 8 (n+1) ⟨rfl,hH1.new hpl,by omega,by decide,by decide,λu H2 u0 u8 hH2 k2=>?_⟩))⟩)⟩)
  have hpl2:=k2 _ _ (hH1.ne hpl) (zd (o:= .lst [V.int 3,V.int 4,V.int 5,V.int 6,V.int 4,V.int 3,V.int 2,V.int (7+t)]))
  obtain⟨v,ev,hv⟩:=zeh (xs:=[V.int 3,V.int 4,V.int 5,V.int 6,V.int 4,V.int 3,V.int 2,V.int (7+t)]) u0 u8
  obtain⟨m,rfl,m1,m10⟩:∃m:Nat,v= .int (m:Int)/\1<=m/\m<=10:=by
   simp only[List.mem_cons,List.not_mem_nil,or_false] at hv
   rcases hv with rfl|rfl|rfl|rfl|rfl|rfl|rfl|rfl
   ·exact ⟨3,rfl,by decide,by decide⟩
   ·exact ⟨4,rfl,by decide,by decide⟩
   ·exact ⟨5,rfl,by decide,by decide⟩
   ·exact ⟨6,rfl,by decide,by decide⟩
   ·exact ⟨4,rfl,by decide,by decide⟩
   ·exact ⟨3,rfl,by decide,by decide⟩
   ·exact ⟨2,rfl,by decide,by decide⟩
   ·exact ⟨(7+t).toNat,by congr 1;omega,by omega,by omega⟩
  have kp2:Keep a H H2:=(k1.trans (Keep.new hpl)).trans k2
  refine ixL hpl2 ev ?_
  refine e1 _ _ (zd5 λe e2=>?_)
  refine vr rfl (vr rfl (ex2 _ _ ⟨rfl,rfl,a,n+1+1,m+3,by push_cast;rfl,hH2,by omega,by omega,by omega,λln xs H3 hln hl3 hlen hxn hxd hxw hH3 k3=>?_⟩))
  refine e2 _ _ (zd5 λe e3=>?_)
  have nln:ln≠a:=hH2.ne hln
  refine vr rfl (vr rfl (vr rfl (ex2 ln _ ⟨rfl,SqL.of hl3,λp1 hp1=>?_⟩)))
  have S1:Same H3 (upd H3 p1 (.lst (zaY (xs.map V.str) none (some (m:Int))))):=Same.new hp1
  refine vr rfl (vr rfl (vr rfl (ex2 ln _ ⟨rfl,SqL.of (S1 _ _ hl3),λp2 hp2=>⟨few rfl,λp3 hp3=>?_⟩⟩)))
  have S2:=Same.new (o:= .lst (zaY (xs.map V.str) (some (m:Int)) none)) hp2
  have S3:=Same.new (o:= .tup [V.ref p1,V.ref p2]) hp3
  have S13:=(S1.trans S2).trans S3
  have hp1':=S3 _ _ (S2 _ _ (zd (H:=H3) (a:=p1) (o:= .lst (zaY (xs.map V.str) none (some (m:Int))))))
  have hp2':=S3 _ _ (zd (H:=upd H3 p1 (.lst (zaY (xs.map V.str) none (some (m:Int))))) (a:=p2) (o:= .lst (zaY (xs.map V.str) (some (m:Int)) none)))
  refine ex2 p3 _ ⟨rfl, .inl (.inl zd),rfl,ex2 _ _ ⟨rfl,ex2 _ _ ⟨rfl,rfl,?_⟩⟩⟩
  refine e3 _ _ (zd5 λe e4=>?_)
  have hl4:=S13 _ _ hl3
  have hH4:=hH3.same S13
  have np1:p1≠a:=hH3.ne hp1
  have np2:p2≠a:=(hH3.same S1).ne hp2
  have kp4:=(kp2.trans k3).trans (Keep.of S13)
  generalize (upd (upd (upd H3 p1 (HO.lst (zaY (xs.map V.str) none (some (m:Int))))) p2 (HO.lst (zaY (xs.map V.str) (some (m:Int)) none))) p3 (HO.tup [V.ref p1,V.ref p2]))=H4 at *
  rw[zbw,←List.map_take] at hp1'
  rw[za3,←List.map_drop] at hp2'
  have hth:(xs.take m).length=m:=by rw[ζm];omega
  have htn:∀x∈xs.take m,zi x=true:=λx hx=>hxn x (List.mem_of_mem_take hx)
  have htw:∀x∈xs.take m,x≠"nowhere":=λx hx=>hxw x (List.mem_of_mem_take hx)
  have htd:(xs.take m).Nodup:=hxd.sublist (List.take_sublist m xs)
  have hdn:∀x∈xs.drop m,zi x=true:=λx hx=>hxn x (List.mem_of_mem_drop hx)
  have hdl:(xs.drop m).length=3:=by rw[ζr];omega
  have hto:∀x∈xs.take m,x∈xs:=λx hx=>List.mem_of_mem_take hx
  have hdo:∀x∈xs.drop m,x∈xs:=λx hx=>List.mem_of_mem_drop hx
  generalize xs.take m=hs at *
  generalize xs.drop m=ms at *
  have NLn:NL xs H4 ln:=⟨xs,hl4,by omega,by omega,λx hx=>⟨hxn x hx,hx⟩⟩
  have NLm:NL xs H4 p2:=⟨ms,hp2',by omega,by omega,λx hx=>⟨hdn x hx,hdo x hx⟩⟩
  refine vr rfl (vr rfl ⟨few rfl,λpk hpk=>(vr rfl (ex3 a 4 _ ⟨rfl,hH4.new hpk,by omega,by decide,by decide,λu4 H5 u40 u44 hH5 k5=>?_⟩))⟩)
  have hpk5:=k5 _ _ (hH4.ne hpk) zd
  obtain⟨v4,ev4,hv4⟩:=zeh (xs:=[V.int 1,V.int 2,V.int 3,V.int 4]) u40 u44
  obtain⟨mo,rfl,mo30⟩:∃mo:Nat,v4= .int (mo:Int)/\mo<=30:=by
   simp only[List.mem_cons,List.not_mem_nil,or_false] at hv4
   rcases hv4 with rfl|rfl|rfl|rfl
   ·exact ⟨1,rfl,by decide⟩
   ·exact ⟨2,rfl,by decide⟩
   ·exact ⟨3,rfl,by decide⟩
   ·exact ⟨4,rfl,by decide⟩
  have k45:Keep a H4 H5:=(Keep.new hpk).trans k5
  have hp15:=k45 _ _ np1 hp1'
  refine ixL hpk5 ev4 ?_
  refine ex4 a p1 _ mo ⟨hs,rfl,hH5,by omega,hp15,np1,by omega,by omega,htd,htn,mo30,λvt ps H6 rt hpw hpg hH6 k6=>?_⟩
  refine e4 _ _ (zd5 λe e5=>?_)
  have hp16:=k6 _ _ np1 hp15
  refine⟨few rfl,λl6 hl6=>?_⟩
  refine e5 _ _ (zd5 λe e6=>?_)
  refine⟨few rfl,λl7 hl7=>?_⟩
  refine e6 _ _ (zd5 λe e7=>?_)
  have n6:l6≠a:=hH6.ne hl6
  have n7:l7≠a:=(hH6.new hl6).ne hl7
  have n67:l7≠l6:=λz=>by rw[z,zd] at hl7;cases hl7
  have hl76:H6 l7=none:=by rw[zr n67] at hl7;exact hl7
  have S8:Same H6 (upd (upd H6 l6 (.lst [])) l7 (.lst [])):=(Same.new hl6).trans (Same.new hl7)
  have e68:(upd (upd H6 l6 (.lst [])) l7 (.lst [])) l6=some (.lst []):=by rw[zr (Ne.symm n67)];exact zd
  have e78:(upd (upd H6 l6 (.lst [])) l7 (.lst [])) l7=some (.lst []):=zd
  have hH8:=hH6.same S8
  generalize (upd (upd H6 l6 (HO.lst [])) l7 (HO.lst []))=H8 at *
  have k46:Keep a H4 H6:=k45.trans k6
  refine vr rfl ⟨p1,rfl,⟨_,SqL.of (S8 _ _ hp16)⟩,?_⟩
  refine zbG (zcy (K:=K) (xs:=hs.map V.str)) (λi σ' H'=>(∃o8 o9 o10 o11,σ'=[some (.ref a),some (.int (m:Int)),some (.ref ln),some (.ref p1),some (.ref p2),some vt,some (.ref l6),some (.ref l7),o8,o9,o10,o11])/\Rows zbV xs H' l6 i/\Rows zhP xs H' l7 i/\Hand H' a (n+300+130*i)/\Keep a H6 H') ?_ ?_ ?_ ?_
  ·exact ⟨⟨_,_,_,_,rfl⟩,⟨[],[],e68,RepL.nil,rfl,λ_ z=>nomatch z⟩,⟨[],[],e78,RepL.nil,rfl,λ_ z=>nomatch z⟩,hH8.mono (by omega),Keep.of S8⟩
  ·exact λi σ' H' z=>SqL.of (z.2.2.2.2 _ _ np1 hp16)
  ·rintro i y σ' H9 hi hy ⟨⟨o8,o9,o10,o11,rfl⟩,R6,R7,hH9,k9⟩
   refine zd5 λe c1=>?_
   rw[ζa] at hi
   have NLn9:=(NLn.keep k46 nln).keep k9 nln
   have NLm9:=(NLm.keep k46 np2).keep k9 np2
   refine⟨3,rfl,few rfl,λpq hpq=>(vr rfl (ex3 a 3 _ ⟨rfl,hH9.new hpq,by omega,by decide,by decide,λt HA t0 t3 hHA kA=>(ex2 _ _ ⟨rfl,rfl,?_⟩)⟩))⟩
   have pqA:=kA _ _ (hH9.ne hpq) zd
   obtain⟨vx,dx,evx,hvx,hwx,hpx⟩:∃(vx:V) (dx:D),atI [V.non,V.int 2] (if decide (t>0)=true then(1:Int)else 0)=some vx/\(∀H:Hp,Rep H vx dx)/\zdx dx=true/\zaq xs dx=true:=by
    by_cases h:t>0
    ·exact ⟨_, .int 2,by rw[if_pos (ζf h)];exact at1,λH=> .int 2,by decide,rfl⟩
    ·exact ⟨_, .non,by rw[if_neg (by simpa using h)];exact at0,λH=> .non,by decide,rfl⟩
   refine .inr (vr rfl (ixL pqA evx ⟨few rfl,λpw hpw=>?_⟩))
   have k9A:Keep a H9 (upd HA pw (.lst [V.int 5,V.int 1,V.int 5,V.int (-3),V.int 9,vx])):=((Keep.new hpq).trans kA).trans (Keep.new hpw)
   have hHB:=hHA.new (o:= .lst [V.int 5,V.int 1,V.int 5,V.int (-3),V.int 9,vx]) hpw
   have npw:pw≠a:=hHA.ne hpw
   have eB:(upd HA pw (.lst [V.int 5,V.int 1,V.int 5,V.int (-3),V.int 9,vx])) pw=some (.lst [V.int 5,V.int 1,V.int 5,V.int (-3),V.int 9,vx]):=zd
   refine c1 _ _ (zd5 λe c2=>?_)
   generalize (upd HA pw (HO.lst [V.int 5,V.int 1,V.int 5,V.int (-3),V.int 9,vx]))=HB at *
   refine vr rfl (ex3 a 4 _ ⟨rfl,hHB,by omega,by decide,by decide,λt2 HC t20 t24 hHC kC=>(vr rfl ⟨by omega,by omega,?_⟩)⟩)
   have hN:t2.toNat<=3:=by omega
   generalize t2.toNat=N at *
   have k9C:=k9A.trans kC
   have NLnC:=NLn9.keep k9C nln
   have NLmC:=NLm9.keep k9C np2
   have eC:=kC _ _ npw eB
   refine zev (a:=a) (m:=n+300+130*i+1+1) (c:=18) (Pd:=λ_ d=>zjq xs d=true) (σr:=[some (.ref a),some (.ref p2),some (.ref ln),some (.ref pw)]) rfl hHC (by omega) (by decide) (λj HD Q1 hj hHD kD q1=>?_) (λls vs ds HD hls hlsD rls hds pd hHD kD=>?_)
   ·refine vr rfl (vr rfl (vr rfl (ex4 a ln p2 _ (ex2 false xs ⟨rfl,hHD,by omega,NLnC.keep kD nln,NLmC.keep kD np2,nln,np2,λvc dc HE rc lc hc hco hto hHE kE=>?_⟩))))
    have eE:=kE _ _ npw (kD _ _ npw eC)
    have rE:RepL HE [V.int 5,V.int 1,V.int 5,V.int (-3),V.int 9,vx] [.int 5, .int 1, .int 5, .int (-3), .int 9,dx]:= .cons (.int 5) (.cons (.int 1) (.cons (.int 5) (.cons (.int (-3)) (.cons (.int 9) (.cons (hvx HE) .nil)))))
    refine vr rfl (vr rfl (zkY hHE (by omega) eE rE λv d HF hd rv hHF kF=>⟨few rfl,λp7 hp7=>?_⟩))
    have hw:zdx d=true/\zaq xs d=true:=by
     simp only[List.mem_cons,List.not_mem_nil,or_false] at hd
     rcases hd with rfl|rfl|rfl|rfl|rfl|rfl
     ·exact ⟨by decide,rfl⟩
     ·exact ⟨by decide,rfl⟩
     ·exact ⟨by decide,rfl⟩
     ·exact ⟨by decide,rfl⟩
     ·exact ⟨by decide,rfl⟩
     ·exact ⟨hwx,hpx⟩
    refine q1 _ (.tup [.tup dc,d]) _ (.mk2 zd ((rc.mono (.keep kF hHE hHF)).mono (.new hp7)) (rv.mono (.new hp7))) ?_ ((hHF.new hp7).mono (by omega)) ((kE.trans kF).trans (Keep.new hp7))
    exact ζt _ _▸⟨zk9 lc hc (hto rfl) hw.1,zg7 hco hw.2⟩
   dsimp only[zaE]
   refine c2 _ _ (zd5 λe c3=>?_)
   have pd':=zf3 (P:=λd=>zjq xs d=true) pd
   have k9D:=k9C.trans kD
   obtain⟨z6,d6,h6,r6,c6,q6⟩:=R6.keep k9D n6 hH9 hHD
   have R7D:=R7.keep k9D n7 hH9 hHD
   refine vr rfl ⟨.inl ⟨rfl,_,SqL.of h6⟩,vr rfl (ex2 ls vs ⟨rfl, .inl ⟨SqL.of hlsD,λpt hpt=>?_⟩⟩)⟩
   have ST:=Same.new (o:= .tup vs) hpt
   have h6T:=ST _ _ h6
   have RT:Rep (upd HD pt (.tup vs)) (.ref pt) (.tup ds):= .mkL zd (by omega) (rls.mono (.new hpt))
   have hz6:=r6.1
   refine ex3 l6 _ _ ⟨rfl,rfl,h6T,zm (by omega),?_⟩
   have R6U:Rows zbV xs (upd (upd HD pt (.tup vs)) l6 (.lst (z6 ++ [.ref pt]))) l6 (i+1):=Rows.put h6T (r6.mono (.of ST)) c6 q6 RT (zgO rfl (by omega) pd')
   have hHT:=hHD.new (o:= .tup vs) hpt
   have hHU:=hHT.updNe (o:= .lst (z6 ++ [V.ref pt])) n6
   have kU:Keep a H6 (upd (upd HD pt (.tup vs)) l6 (.lst (z6 ++ [.ref pt]))):=Keep.updNew ((k9.trans k9D).trans (Keep.of ST)) hl6
   have R7U:Rows zhP xs (upd (upd HD pt (.tup vs)) l6 (.lst (z6 ++ [.ref pt]))) l7 i:=by
    obtain⟨z7,d7,h7,r7,c7,q7⟩:=R7D
    exact⟨z7,d7,by rw[zr n67];exact ST _ _ h7,(r7.mono (.of ST)).mono (.lset h6T),c7,q7⟩
   refine c3 _ _ (zd5 λe c4=>?_)
   generalize (upd (upd HD pt (HO.tup vs)) l6 (HO.lst (z6 ++ [V.ref pt])))=HU at *
   have k4U:=k46.trans kU
   have NLmU:=NLm.keep k4U np2
   have NLnU:=NLn.keep k4U nln
   obtain⟨z7,d7,h7,r7,c7,q7⟩:=R7U
   refine vr rfl (vr rfl (zc1 hHU (by omega) NLmU np2 λx1 H11 hx1 hH11 k11=>⟨few rfl,λq1 hq1=>?_⟩))
   have NLm1:=(NLmU.keep k11 np2).same (Same.new (o:= .tup [V.str "put",V.str x1]) hq1)
   refine vr rfl (vr rfl (zc1 (hH11.new hq1) (by omega) NLm1 np2 λx2 H12 hx2 hH12 k12=>⟨few rfl,λq2 hq2=>?_⟩))
   have NLm2:=(NLm1.keep k12 np2).same (Same.new (o:= .tup [V.str "strike",V.str x2]) hq2)
   refine vr rfl (vr rfl (zc1 (hH12.new hq2) (by omega) NLm2 np2 λx3 H13 hx3 hH13 k13=>⟨few rfl,λq3 hq3=>⟨few rfl,λql hql=>?_⟩⟩))
   have M12:=Mono.keep k12 (hH11.new hq1) hH12
   have M13:=Mono.keep k13 (hH12.new hq2) hH13
   have S3:=Same.new (o:= .tup [V.str "put",V.str x3]) hq3
   have Sl:=Same.new (o:= .lst [V.ref q1,V.ref q2,V.ref q3]) hql
   have hH14:=(hH13.same S3).same Sl
   have kUe:Keep a HU (upd (upd H13 q3 (.tup [V.str "put",V.str x3])) ql (.lst [V.ref q1,V.ref q2,V.ref q3])):=((((k11.trans (Keep.new hq1)).trans k12).trans (Keep.new hq2)).trans k13).trans ((Keep.of S3).trans (Keep.of Sl))
   have r14:RepL (upd (upd H13 q3 (.tup [V.str "put",V.str x3])) ql (.lst [V.ref q1,V.ref q2,V.ref q3])) [V.ref q1,V.ref q2,V.ref q3] [.tup [.str "put", .str x1], .tup [.str "strike", .str x2], .tup [.str "put", .str x3]]:=
    .cons (Rep.mono (.mk2 zd (.str _ (by decide)) (.str _ (zC hx1.1))) (((M12.trans (.new hq2)).trans M13).trans ((Mono.of S3).trans (.of Sl)))) (.cons (Rep.mono (.mk2 zd (.str _ (by decide)) (.str _ (zC hx2.1))) (M13.trans ((Mono.of S3).trans (.of Sl)))) (.cons (Rep.mono (.mk2 zd (.str _ (by decide)) (.str _ (zC hx3.1))) (.of Sl)) .nil))
   have e14:(upd (upd H13 q3 (.tup [V.str "put",V.str x3])) ql (.lst [V.ref q1,V.ref q2,V.ref q3])) ql=some (.lst [V.ref q1,V.ref q2,V.ref q3]):=zd
   have nql:ql≠a:=(hH13.same S3).ne hql
   have hqlU:HU ql=none:=by
    cases e:HU ql with
    |none=>rfl
    |some o=>exact absurd (S3 _ _ (((((k11.trans (Keep.new hq1)).trans k12).trans (Keep.new hq2)).trans k13) ql o nql e)) (by rw[hql];exact λz=>nomatch z)
   refine c4 _ _ (zd5 λe c5=>?_)
   generalize (upd (upd H13 q3 (HO.tup [V.str "put",V.str x3])) ql (HO.lst [V.ref q1,V.ref q2,V.ref q3]))=HV at *
   obtain⟨m0,mr,emr⟩:∃m0 mr,ms=m0::mr:=by
    match ms,hdl with
    |m0::mr,_=>exact ⟨m0,mr,rfl⟩
   have hp2V:=kUe _ _ np2 (k4U _ _ np2 hp2')
   have hm0:m0∈ms:=by rw[emr];exact ζp
   rw[emr] at hp2V
   refine vr rfl ⟨.inl ⟨rfl,_,SqL.of e14⟩,few rfl,λb1 hb1=>?_⟩
   have T1:=Same.new (o:= .tup [V.str "keep"]) hb1
   refine vr rfl (ixL (T1 _ _ hp2V) at0 ⟨few rfl,λb2 hb2=>⟨few rfl,λb3 hb3=>?_⟩⟩)
   have T2:=Same.new (o:= .tup [V.str "put",V.str m0]) hb2
   have T3:=Same.new (o:= .lst [V.ref b1,V.ref b2]) hb3
   have T13:=(T1.trans T2).trans T3
   have ra1:=Rep.mono (H':=upd (upd (upd HV b1 (.tup [V.str "keep"])) b2 (.tup [V.str "put",V.str m0])) b3 (.lst [V.ref b1,V.ref b2])) (Rep.mk1 (zd (H:=HV) (a:=b1) (o:= .tup [V.str "keep"])) (.str "keep" (by decide))) (.of (T2.trans T3))
   have ra2:=Rep.mono (H':=upd (upd (upd HV b1 (.tup [V.str "keep"])) b2 (.tup [V.str "put",V.str m0])) b3 (.lst [V.ref b1,V.ref b2])) (Rep.mk2 (zd (H:=upd HV b1 (.tup [V.str "keep"])) (a:=b2) (o:= .tup [V.str "put",V.str m0])) (.str "put" (by decide)) (.str m0 (zC (hdn m0 hm0)))) (.of T3)
   have e3:=zd (H:=upd (upd HV b1 (.tup [V.str "keep"])) b2 (.tup [V.str "put",V.str m0])) (a:=b3) (o:= .lst [V.ref b1,V.ref b2])
   have nb3:b3≠a:=((hH14.same T1).same T2).ne hb3
   have hH15:=hH14.same T13
   generalize (upd (upd (upd HV b1 (HO.tup [V.str "keep"])) b2 (HO.tup [V.str "put",V.str m0])) b3 (HO.lst [V.ref b1,V.ref b2]))=HW at *
   refine vr rfl (ex3 a 3 _ ⟨rfl,hH15,by omega,by decide,by decide,λt5 HX t50 t53 hHX kX=>(ex2 _ _ ⟨rfl,rfl,?_⟩)⟩)
   obtain⟨vy,dy,evy,hvy,hay,hpy⟩:∃(vy:V) (dy:D),atI [V.ref b1,V.ref b2] (if decide (t5>0)=true then(1:Int)else 0)=some vy/\Rep HX vy dy/\zc9 dy=true/\zaq xs dy=true:=by
    have MX:=Mono.keep kX hH15 hHX
    by_cases h:t5>0
    ·exact ⟨_,_,by rw[if_pos (ζf h)];exact at1,ra2.mono MX,zhS (hdn m0 hm0) (.inl rfl),zbu (hdo m0 hm0)⟩
    ·exact ⟨_,_,by rw[if_neg (by simpa using h)];exact at0,ra1.mono MX,by decide +kernel,rfl⟩
   have e14X:=kX _ _ nql (T13 _ _ e14)
   have kVX:Keep a HV HX:=(Keep.of T13).trans kX
   have r14X:=r14.mono (.keep kVX hH14 hHX)
   refine .inr (vr rfl (ixL (kX _ _ nb3 e3) evy ?_))
   refine ex3 ql _ _ ⟨rfl,rfl,e14X,zm (by decide:3<=1000),?_⟩
   have eY:(upd HX ql (.lst ([V.ref q1,V.ref q2,V.ref q3]++ [vy]))) ql=some (.lst ([V.ref q1,V.ref q2,V.ref q3]++ [vy])):=zd
   have rY:RepL (upd HX ql (.lst ([V.ref q1,V.ref q2,V.ref q3]++ [vy]))) ([V.ref q1,V.ref q2,V.ref q3]++ [vy]) [.tup [.str "put", .str x1], .tup [.str "strike", .str x2], .tup [.str "put", .str x3],dy]:=(r14X.append (.cons hvy .nil)).mono (.lset e14X)
   have hHY:=hHX.updNe (o:= .lst ([V.ref q1,V.ref q2,V.ref q3]++ [vy])) nql
   have kUY:Keep a HU (upd HX ql (.lst ([V.ref q1,V.ref q2,V.ref q3]++ [vy]))):=Keep.updNew (kUe.trans kVX) hqlU
   refine c5 _ _ (zd5 λe c6=>?_)
   generalize (upd HX ql (HO.lst ([V.ref q1,V.ref q2,V.ref q3]++ [vy])))=HY at *
   refine vr rfl (ex3 a 4 _ ⟨rfl,hHY,by omega,by decide,by decide,λt6 HZ t60 t64 hHZ kZ=>(vr rfl ⟨by omega,by omega,?_⟩)⟩)
   have hN6:t6.toNat<=3:=by omega
   generalize t6.toNat=N6 at *
   have kUZ:=kUY.trans kZ
   have NLnZ:=NLnU.keep kUZ nln
   have NLmZ:=NLmU.keep kUZ np2
   have eZ:=kZ _ _ nql eY
   have rZ:=rY.mono (.keep kZ hHY hHZ)
   refine zev (a:=a) (m:=n+300+130*i+1+1+18*(N:Int)+1+1+1+1+1) (c:=18) (Pd:=λ_ d=>zjV xs d=true) (σr:=[some (.ref ql),some (.ref a),some (.ref p2),some (.ref ln)]) rfl hHZ (by omega) (by decide) (λj HE Q1 hj hHE kE q1=>?_) (λls2 vs2 ds2 HE hls2 hlsE rls2 hds2 pd2 hHE kE=>?_)
   ·refine vr rfl (vr rfl (vr rfl (ex4 a ln p2 _ (ex2 true xs ⟨rfl,hHE,by omega,NLnZ.keep kE nln,NLmZ.keep kE np2,nln,np2,λvc dc HF rc lc hc hco hto hHF kF=>?_⟩))))
    have eF:=kF _ _ nql (kE _ _ nql eZ)
    have rF:=(rZ.mono (.keep kE hHZ hHE)).mono (.keep kF hHE hHF)
    refine vr rfl (vr rfl (zkY hHF (by omega) eF rF λv d HG hd rv hHG kG=>⟨few rfl,λp7 hp7=>?_⟩))
    have hw:zc9 d=true/\zaq xs d=true:=by
     simp only[List.mem_cons,List.not_mem_nil,or_false] at hd
     rcases hd with rfl|rfl|rfl|rfl
     ·exact ⟨zhS hx1.1 (.inl rfl),zbu hx1.2⟩
     ·exact ⟨zhS hx2.1 (.inr rfl),zbu hx2.2⟩
     ·exact ⟨zhS hx3.1 (.inl rfl),zbu hx3.2⟩
     ·exact ⟨hay,hpy⟩
    refine q1 _ (.tup [.tup dc,d]) _ (.mk2 zd ((rc.mono (.keep kG hHF hHG)).mono (.new hp7)) (rv.mono (.new hp7))) ?_ ((hHG.new hp7).mono (by omega)) ((kF.trans kG).trans (Keep.new hp7))
    exact ζt _ _▸⟨zov lc hc hw.1,zg7 hco hw.2⟩
   dsimp only[zaE]
   refine c6 _ _ ?_
   have pd2':=zf3 (P:=λd=>zjV xs d=true) pd2
   have kUE:=kUZ.trans kE
   have R7E:Rows zhP xs HE l7 i:=Rows.keep ⟨z7,d7,h7,r7,c7,q7⟩ kUE n7 hHU hHE
   have R6E:=R6U.keep kUE n6 hHU hHE
   obtain⟨z8,d8,h8,r8,c8,q8⟩:=R7E
   have hz8:=r8.1
   refine vr rfl ⟨.inl ⟨rfl,_,SqL.of h8⟩,vr rfl (ex2 ls2 vs2 ⟨rfl, .inl ⟨SqL.of hlsE,λpt2 hpt2=>?_⟩⟩)⟩
   have ST2:=Same.new (o:= .tup vs2) hpt2
   have h8T:=ST2 _ _ h8
   have RT2:Rep (upd HE pt2 (.tup vs2)) (.ref pt2) (.tup ds2):= .mkL zd (by omega) (rls2.mono (.new hpt2))
   refine ex3 l7 _ _ ⟨rfl,rfl,h8T,zm (by omega),(ex4 _ _ _ _ rfl),?_,Rows.put h8T (r8.mono (.of ST2)) c8 q8 RT2 (zib rfl (by omega) pd2'),?_,?_⟩
   ·obtain ⟨z9,d9,h9,r9,c9,q9⟩:=R6E
    exact⟨z9,d9,by rw[zr (Ne.symm n67)];exact ST2 _ _ h9,(r9.mono (.of ST2)).mono (.lset h8T),c9,q9⟩
   ·exact ((hHE.new hpt2).updNe n7).mono (by push_cast;omega)
   ·exact Keep.updNew ((kU.trans kUE).trans (Keep.of ST2)) hl76
  ·rintro σ' H9 ⟨⟨o8,o9,o10,o11,rfl⟩,R6,R7,hH9,k9⟩
   refine e7 _ _ ?_
   rw[ζa] at R6 R7 hH9
   have hp19:=k9 _ _ np1 hp16
   refine vr rfl (vr rfl ⟨a,_,hH9,by omega, .inl (ex2 p1 _ ⟨rfl,np1,SqL.of hp19,by rw[ζa];omega,by rw[ζa];omega,λvg HA hvg hHA kA=>?_⟩)⟩)
   obtain⟨g,hg,rfl⟩:=List.mem_map.mp hvg
   have hp1A:=kA _ _ np1 hp19
   have R6A:=R6.keep kA n6 hH9 hHA
   have R7A:=R7.keep kA n7 hH9 hHA
   have rtA:=rt.mono (.keep (k9.trans kA) hH6 hHA)
   refine vr rfl (ex2 p1 hs ⟨rfl,SqL.of hp1A,by omega,htd,λhs' l hperm hrise hl=>(ex2 l _ ⟨rfl, .inl ⟨SqL.of zd,λpr hpr=>?_⟩⟩)⟩)
   have SB:Same HA (upd (upd HA l (.lst (hs'.map V.str))) pr (.tup (hs'.map V.str))):=(Same.new hl).trans (Same.new hpr)
   have hprB:(upd (upd HA l (.lst (hs'.map V.str))) pr (.tup (hs'.map V.str))) pr=some (.tup (hs'.map V.str)):=zd
   have hHB:=hHA.same SB
   generalize (upd (upd HA l (HO.lst (hs'.map V.str))) pr (HO.tup (hs'.map V.str)))=HB at *
   obtain⟨z6,lks,h6,r6,c6,q6⟩:=R6A
   obtain⟨z7,hds,h7,r7,c7,q7⟩:=R7A
   refine vr rfl (vr rfl (ex2 l6 z6 ⟨rfl, .inl ⟨SqL.of (SB _ _ h6),λpA hpA=>?_⟩⟩))
   have SA:=Same.new (o:= .tup z6) hpA
   have hH10:=hHB.same SA
   have rlA:Rep (upd HB pA (.tup z6)) (.ref pA) (.tup lks):= .mkL zd (by omega) ((r6.mono (.of SB)).mono (.new hpA))
   refine vr rfl (ex2 l7 z7 ⟨rfl, .inl ⟨SqL.of (SA _ _ (SB _ _ h7)),λpB hpB=>⟨few rfl,λpT hpT=>?_⟩⟩⟩)
   have SC:=Same.new (o:= .tup z7) hpB
   have rhA:Rep (upd (upd HB pA (.tup z6)) pB (.tup z7)) (.ref pB) (.tup hds):= .mkL zd (by omega) (((r7.mono (.of SB)).mono (.of SA)).mono (.new hpB))
   have rlB:=rlA.same SC
   have hprC:=SC _ _ (SA _ _ hprB)
   have rtC:=((rtA.same SB).same SA).same SC
   have hHC:=hH10.same SC
   have hlen':hs'.length=m:=by rw[hperm.length_eq];exact hth
   have SBC:Same HA (upd (upd HB pA (.tup z6)) pB (.tup z7)):=(SB.trans SA).trans SC
   generalize (upd (upd HB pA (HO.tup z6)) pB (HO.tup z7))=HC at *
   have rr:Rep HC (.ref pr) (.tup (hs'.map D.str)):= .mkL hprC (by rw[ζa];omega) (zbe λx hx=>zC (htn x (hperm.mem_iff.mp hx)))
   have ST:=Mono.new (o:= .tup [.str g, .ref pr,vt, .ref pA, .ref pB]) hpT
   have rtown:=Rep.mkL (H:=upd HC pT (.tup [.str g, .ref pr,vt, .ref pA, .ref pB])) (p:=pT) (vs:=[.str g, .ref pr,vt, .ref pA, .ref pB]) (ds:=[.str g, .tup (hs'.map D.str), .tup (ps.map pairD), .tup lks, .tup hds]) zd (ζk rfl) (.cons (.str g (zC (htn g hg))) (.cons (rr.mono ST) (.cons (rtC.mono ST) (.cons (rlB.mono ST) (.cons (rhA.mono ST) .nil)))))
   refine q _ g hs' ps lks hds _ rtown ⟨hrise,by omega,by omega,λx hx=>htn x (hperm.mem_iff.mp hx),hperm.mem_iff.mpr hg,hpw,λp hp=>?_,by omega,by omega,λd hd=>(q6 d hd).1,λd hd=>((ζt _ _).mp (q7 d hd).1).1⟩ (λx hx=>htw x (hperm.mem_iff.mp hx)) ⟨xs,⟨by omega,hxn,λx hx=>hto x (hperm.mem_iff.mp hx),λd hd=>(q6 d hd).2,λd hd=>(q7 d hd).2⟩,by omega⟩ (λd hd=>((ζt _ _).mp (q7 d hd).1).2) ((hHC.new hpT).mono (by omega)) (((kp4.trans k46).trans (k9.trans kA)).trans ((Keep.of SBC).trans (Keep.new hpT)))
   obtain⟨h1,h2,h3⟩:=hpg p hp
   exact⟨hperm.mem_iff.mpr h1,hperm.mem_iff.mpr h2,h3⟩
end
section
variable{P:Program}{w:World}{K:PySem.W.Frag}{mg:Str->Option Value}{base:Heap}
noncomputable def zhe:Sp:=λvs H Q _=>∃(a:Addr) (n:Int) (v:V) (g:Str) (hs:List Str) (ps:List (Str×Str)) (lks hds:List D),vs=[.ref a,v]/\Hand H a n/\n<2^37/\Rep H v (za5 g hs ps lks hds)/\TownOk g hs ps lks hds/\∀(v':V) (ws:List Str) (H':Hp),Rep H' v' (.tup (ws.map D.str))->WayOk g hs ps ws->Hand H' a (n+10)->Keep a H H'->Q v' H'
theorem ziT(Y:Ev K mg):FnOk P w K mg base CX0 3 Y.a__law_some_way Y.d__law_some_way zbc zhe:=by
 have G__law_pick:FnOk P w K mg base CX0 2 Y.a__law_pick Y.d__law_pick zag (zcO K):=zdN Y
 refine Y._law_some_way.fn.okQ c__law_some_way (λvs H Q E h=>?_) (λcdv A outer s H vs Q E hr h=>?_)
 ·obtain ⟨a,n,v,g,hs,ps,lks,hds,rfl,_⟩:=h;rfl
 ·obtain ⟨a,n,v,g,hs,ps,lks,hds,rfl,hH,hn,hv,T,q⟩:=h
  obtain⟨p,pr,pt,pl,pa,vt,vl,va,rfl,hp,hpr,hpt,rt,hpl,rl,hpa,ra⟩:=zbN hv
  have TP:=T.lp
  have T10:=T.ten
  have gn:zi g=true:=T.names g T.goal
  have npa:∀{b o},H b=some (.tup o)->b≠a:=λ{b o} e z=>by obtain⟨_,_,_,e',_⟩:=hH;rw[z,e'] at e;cases e
  refine⟨_,(zj (zc2 2 c__law_some_way.nd (zv (zc (zt ix_tup (qv 1) zh) ze)))
   (zj (zcJ PassesOwn.never rfl (zdf Y.range (zc (zk G__law_pick (hr.mono (by decide)) Y._law_pick.mg Y._law_pick.kp Y._law_pick.b .nil zp (zc (qv 0) (zc (zfs [V.int 0,V.int 1,V.int 2,V.int 3,V.int 9,V.int 9] (by decide +kernel)) ze))) ze)) (zo 3 c__law_some_way.nd) (zj (zI 4 c__law_some_way.nd (zG zcd (zaI (src:=[none,some 2]) o__law_some_way_1 rfl rfl (zbZ (zt ix_tup (qv 1) zh)) (λ_ _ _ _ _=>(zo 0 o__law_some_way_1.nd)) (λ_ _ _ _ _=>(zc6 (zH zay (zt (za6 (K:=K) rfl) (qv 0) zh) (zt (za6 (K:=K) rfl) (qc 1) zh)))) (λ_ _ _ _ _=>(zt (za6 (K:=K) rfl) (qv 0) zh))) (zaI (src:=[none,some 2]) o__law_some_way_2 rfl rfl (zbZ (zt ix_tup (qv 1) zh)) (λ_ _ _ _ _=>(zo 0 o__law_some_way_2.nd)) (λ_ _ _ _ _=>(zc6 (zH zay (zt (za6 (K:=K) rfl) (qv 0) zh) (zt (za6 (K:=K) rfl) (qc 1) zh)))) (λ_ _ _ _ _=>(zt (za6 (K:=K) rfl) (qv 0) zh)))))
   (zj (zbU 4 (src:=[none,some 2]) o__law_some_way_3 rfl rfl c__law_some_way.nd (zdt (qv 4)) (λ_ _ _ _ _=>(zo 0 o__law_some_way_3.nd)) (λ_ _ _ _ _=>(zc6 (zH (zeq (K:=K) rfl) (qv 0) (qc 1)))) (λ_ _ _ _ _=>(qv 0)))
   (zj (zau (zH (zfn (zeR hr)) (qv 4) (zbs ze)) (zn (zy (qc 2))) zO)
   (zn (zc2 2 c__law_some_way.nd (zG zad (zv (zc (zk G__law_pick (hr.mono (by decide)) Y._law_pick.mg Y._law_pick.kp Y._law_pick.b .nil zp (zc (qv 0) (zc (qv 4) ze))) ze)) (qc 2))))))))
   (zn (zy (qc 2))))),?_⟩
  refine vr rfl (ixT hp at0 ⟨few rfl,λpw hpw=>?_⟩)
  have S1:=Same.new (o:= .tup [.str g]) hpw
  have rw1:Rep (upd H pw (.tup [.str g])) (.ref pw) (.tup ([g].map D.str)):= .mk1 zd (.str g (zC gn))
  have hH1:=hH.same S1
  generalize (upd H pw (HO.tup [V.str g]))=H1 at *
  refine vr rfl ⟨by decide,λpk hpk=>⟨a,_,hH1.new hpk,by omega, .inl (ex2 pk _ ⟨rfl,hH1.ne hpk,SqL.of zd,by decide,by decide,λv H2 hv2 hH2 k2=>?_⟩)⟩⟩
  obtain⟨m,rfl,m9⟩:∃m:Nat,v= .int (m:Int)/\m<=9:=by
   simp only[List.mem_cons,List.not_mem_nil,or_false] at hv2
   rcases hv2 with rfl|rfl|rfl|rfl|rfl|rfl
   ·exact ⟨0,rfl,by decide⟩
   ·exact ⟨1,rfl,by decide⟩
   ·exact ⟨2,rfl,by decide⟩
   ·exact ⟨3,rfl,by decide⟩
   ·exact ⟨9,rfl,by decide⟩
   ·exact ⟨9,rfl,by decide⟩
  have k12:Keep a H1 H2:=(Keep.new hpk).trans k2
  have k02:Keep a H H2:=(Keep.of S1).trans k12
  have m12:Mono H1 H2:= .keep k12 hH1 hH2
  refine vr rfl ⟨by omega,by omega,?_⟩
  have em:((m:Int)).toNat=m:=by omega
  rw[em]
  refine zbG zdo (λi σ' H'=>(∃vw ws o3 o4,σ'=[some (.ref a),some (.ref p),some vw,o3,o4]/\Rep H' vw (.tup (ws.map D.str))/\WayOk g hs ps ws)/\Hand H' a (n+1+i)/\Keep a H H') ⟨(ex4 _ [g] _ _ ⟨rfl,rw1.mono m12, .one T.goal⟩),hH2.mono (by omega),k02⟩ (λ_ _ _ _=>trivial) ?_ ?_
  ·rintro i y σ' H3 hi rfl ⟨⟨vw,ws,o3,o4,rfl,rw3,W⟩,hH3,k3⟩
   obtain⟨w0,wr,rfl⟩:∃w0 wr,ws=w0::wr:=by
    match ws,W.len.1 with
    |w0::wr,_=>exact ⟨w0,wr,rfl⟩
   obtain⟨pw,rfl,hpw3⟩:=zax rw3
   have hp3:=k3 _ _ (npa hp) hp
   have hpt3:=k3 _ _ (npa hpt) hpt
   have m03:Mono H H3:= .keep k3 hH hH3
   have rt3:=rt.mono m03
   have wl:=W.len
   have wn:∀x∈w0::wr,zi x=true:=λx hx=>T.names x (W.mem x hx)
   refine vr rfl (ixT hp3 (zz (j:=2) rfl) ⟨pt,rfl,⟨_, .inl (.inl hpt3)⟩,?_⟩)
   refine ze6 (ps:=ps) (sel:=λp=>decide (p.1=w0)) (f:=(·.2)) (λσ'=>∃o1,σ'=[o1,some (.ref pw)]) (za0 (K:=K)) (λH' s'=> .inl (.inl (s' _ _ hpt3))) rt3 (by omega) ⟨_,rfl⟩ ?_ λl4 H4 s4 hl4 e4=>?_
   ·rintro q p σ' HA A B ⟨o1,rfl⟩ sA hq hpA k
    refine vr rfl (ixT hq at0 (vr rfl (ixT (sA _ _ hpw3) at0 ⟨rfl,vr rfl ?_⟩)))
    have k:=k [some (.ref q),some (.ref pw)] ⟨_,rfl⟩
    rw[zZ]
    cases e:decide (p.1=w0)with
    |false=>rw[e] at k;exact k
    |true=>rw[e] at k;exact⟨_,rfl,q,_,1,_,rfl,rfl, .inl (.inl hq),at1,k⟩
   refine vr rfl (ixT (s4 _ _ hp3) (zz (j:=2) rfl) ⟨pt,rfl,⟨_, .inl (.inl (s4 _ _ hpt3))⟩,?_⟩)
   refine ze6 (ps:=ps) (sel:=λp=>decide (p.2=w0)) (f:=(·.1)) (λσ'=>∃o1,σ'=[o1,some (.ref pw)]) (za0 (K:=K)) (λH' s'=> .inl (.inl (s' _ _ (s4 _ _ hpt3)))) (rt3.mono (.of s4)) (by omega) ⟨_,rfl⟩ ?_ λl5 H5 s5 hl5 e5=>?_
   ·rintro q p σ' HA A B ⟨o1,rfl⟩ sA hq hpA k
    refine vr rfl (ixT hq at1 (vr rfl (ixT (sA _ _ (s4 _ _ hpw3)) at0 ⟨rfl,vr rfl ?_⟩)))
    have k:=k [some (.ref q),some (.ref pw)] ⟨_,rfl⟩
    rw[zZ]
    cases e:decide (p.2=w0)with
    |false=>rw[e] at k;exact k
    |true=>rw[e] at k;exact⟨_,rfl,q,_,0,_,rfl,rfl, .inl (.inl hq),at0,k⟩
   have ol:=zmW ps w0
   have ol':(((ps.filter λp=>decide (p.1=w0)).map (·.2)).map V.str).length+(((ps.filter λp=>decide (p.2=w0)).map (·.1)).map V.str).length<=200:=by
    unfold zeb at ol
    rw[ζe] at ol
    simp only[ζa] at ol⊢
    omega
   refine ex4 l4 l5 _ _ ⟨rfl,rfl,s5 _ _ e4,e5,ξi (zm (by omega)),λl6 hl6=>?_⟩
   rw[←ξc]
   have S6:=Same.new (o:= .lst ((zeb ps w0).map V.str)) hl6
   have e6:(upd H5 l6 (.lst ((zeb ps w0).map V.str))) l6=some (.lst ((zeb ps w0).map V.str)):=zd
   have s36:=(s4.trans s5).trans S6
   show zlu _ _ _ _ (upd H5 l6 (.lst ((zeb ps w0).map V.str)))
   generalize (upd H5 l6 (HO.lst ((zeb ps w0).map V.str)))=H6 at *
   have on:∀y∈zeb ps w0,y∈hs/\w0∈zan ps y:=λy hy=>by
    rcases zmu hy with h|h
    ·exact ⟨(T.ties _ h).2.1,mem_nbrs.mpr (.inl h)⟩
    ·exact ⟨(T.ties _ h).1,mem_nbrs.mpr (.inr h)⟩
   have r6:RepL H6 ((zeb ps w0).map V.str) ((zeb ps w0).map D.str):=zbe λx hx=>zC (T.names x (on x hx).1)
   have hpw6:=s36 _ _ hpw3
   refine vr rfl ⟨l6,rfl,⟨_,SqL.of e6⟩,?_⟩
   refine zdj (g:=zkb (w0::wr)) (f:=λd=>d) (σr:=[some (.ref pw)]) (zcy (K:=K)) (λH' s'=>SqL.of (s' _ _ e6)) r6 (by rw[ζa];omega) rfl ?_ (λx d HA sA rx hd=>by walk_at "dsp") λl7 us H7 s7 hl7 e7 r7=>?_
   ·intro x d HA Q1 sA rx hd q1
    obtain⟨b,_,rfl⟩:=List.mem_map.mp hd
    cases rx with|str _ _=>
    refine⟨_,rfl,_,rfl,pw,_,rfl, .inr (.inl (.inl (sA _ _ hpw6))),rfl,zbW,_,rfl,?_⟩
    rw[if_pos rfl,zdh]
    exact q1 HA (Same.refl _)
   rw[List.map_id',zfD] at r7
   have eus:=zek r7
   subst eus
   have s37:=s36.trans s7
   have hx7:∀y∈(zeb ps w0).filter (λx=>!((w0::wr).any λy=>decide (y=x))),y∈hs/\w0∈zan ps y/\y∉w0::wr:=λy hy=>by
    obtain⟨h1,h2⟩:=List.mem_filter.mp hy
    refine⟨(on y h1).1,(on y h1).2,λz=>?_⟩
    rw[List.any_eq_true.mpr ⟨y,z,ζf rfl⟩] at h2
    cases h2
   have nl7:l7≠a:=(hH3.same s36).ne hl7
   have hlen7:((zeb ps w0).filter (λx=>!((w0::wr).any λy=>decide (y=x)))).length<=200:=by
    have:=List.length_filter_le (λx=>!((w0::wr).any λy=>decide (y=x))) (zeb ps w0)
    omega
   generalize ((zeb ps w0).filter (λx=>!((w0::wr).any λy=>decide (y=x))))=ys at *
   have hH7:=hH3.same s37
   have hpw7:=s37 _ _ hpw3
   have rw7:=rw3.same s37
   refine vr rfl ⟨few rfl,λpe hpe=>?_⟩
   have se:=Same.new (o:= .lst []) hpe
   refine⟨_,_,znV (se _ _ e7) (λx hx=>zD (T.names x (hx7 x hx).1)),zp2 zd,ξb (Nat.min_le_right _ _) (by decide),vr rfl ?_⟩
   have k38:Keep a H3 (upd H7 pe (.lst [])):=(Keep.of s37).trans (Keep.of se)
   have hH8:=hH7.same se
   have rw8:=rw7.same se
   have hpw8:=se _ _ hpw7
   have e8:=se _ _ e7
   generalize (upd H7 pe (HO.lst []))=H8 at *
   cases ys with
   |nil=>
    refine zQ (by unfold zaJ;rfl) ?_
    exact vr rfl (q _ _ H8 rw8 W (hH8.mono (by omega)) (k3.trans k38))
   |cons y0 yr=>
    refine zW (by unfold zaJ;rw[List.map_cons,PyData.eqv];rfl) ?_
    refine vr rfl (vr rfl ⟨a,_,hH8,by omega, .inl (ex2 l7 _ ⟨rfl,nl7,SqL.of e8,by rw[ζa];simp,by rw[ζa];omega,λv9 H9 hv9 hH9 k9=>⟨few rfl,λp9 hp9=>?_⟩⟩)⟩)
    obtain⟨x,hx,rfl⟩:=List.mem_map.mp hv9
    obtain⟨x1,x2,x3⟩:=hx7 x hx
    have m89:Mono H8 H9:= .keep k9 hH8 hH9
    have S9:=Same.new (o:= .tup [V.str x]) hp9
    have hpw9:(upd H9 p9 (.tup [V.str x])) pw=some (.tup ((w0::wr).map V.str)):=S9 _ _ (m89.tup _ _ hpw8)
    refine vr rfl (ex4 p9 pw [.str x] _ ⟨rfl,rfl, .inl (.inl zd), .inl (.inl hpw9),ξi (zm (by rw[ζa];show 1+_<=_;omega)),(λz=>by cases z),(λ_ z=>by cases z),λ_ _ pX hpX=>?_⟩)
    have SX:=Same.new (o:= .tup ([V.str x]++(w0::wr).map V.str)) hpX
    refine⟨⟨_,x::w0::wr,ex2 _ _ ⟨rfl,?_,W.more x1 x3 x2⟩⟩,?_,?_⟩
    ·refine .mkL (vs:=(x::w0::wr).map V.str) zd (by rw[ζa,ζw];omega) (zbe λz hz=>?_)
     rcases List.mem_cons.mp hz with rfl|hz
     ·exact zC (T.names _ x1)
     ·exact zC (wn z hz)
    ·exact ((hH9.new hp9).new hpX).mono (by push_cast;omega)
    ·exact ((k3.trans k38).trans k9).trans ((Keep.of S9).trans (Keep.of SX))
  ·rintro σ' H3 ⟨⟨vw,ws,o3,o4,rfl,rw3,W⟩,hH3,k3⟩
   exact vr rfl (q _ ws H3 rw3 W (hH3.mono (by omega)) k3)
end
section
variable{P:Program}{w:World}{K:PySem.W.Frag}{mg:Str->Option Value}{base:Heap}
theorem zep{k:Nat}{c:D->Bool}{g:List Str->List Str->Option Str->D->Bool}(Y:Ev K mg)(G_holds:FnOk P w K mg base CX0 k Y.a_holds Y.d_holds zcW (zeQ c g))(c':D->Bool)(g':List Str->List Str->Option Str->D->Bool)
 (hc:∀d,c' d=true->∃x e,d= .tup [.str x,e]) (h1:∀ws ms to x e,c' (.tup [.str x,e])=true->x="not"->c e=true/\(!g ws ms to e)=g' ws ms to (.tup [.str x,e]))
 (h2:∀x e,c' (.tup [.str x,e])=true->¬x="not"->zP (.tup [.str x,e])=true/\∀ws ms to,phB ws ms to x e=g' ws ms to (.tup [.str x,e])):
 FnOk P w K mg base CX0 (k+1) Y.a_holds Y.d_holds zcW (zeQ c' g'):=by
 refine Y.holds.fn.okQ c_holds (λvs H Q E h=>?_) (λcdv A outer s H vs Q E hr h=>?_)
 ·obtain ⟨v,d,pw,pm,vt,ws,ms,to,rfl,_⟩:=h;rfl
 ·obtain ⟨v,d,pw,pm,vt,ws,ms,to,rfl,hd,hcd,hpw,hpm,hto,nw,nm,w1,lw,lm,q⟩:=h
  obtain⟨x,e,rfl⟩:=hc d hcd
  obtain⟨p,v0,v1,rfl,hp,r0,r1⟩:=hd.of2
  cases r0 with
  |str _ hx=>
  refine⟨_,(zj (zdA (qv 0) (zc5 2 rfl (zx (zo 4 c_holds.nd) (zx (zo 5 c_holds.nd) za4))))
   (zj (zau (zH zay (qv 4) zaz) (zn (zy (zng (zk G_holds hr Y.holds.mg Y.holds.kp Y.holds.b .nil zp (zc (qv 5) (zc (qv 1) (zc (qv 2) (zc (qv 3) ze)))))))) zO)
   (zj (zau (zH zay (qv 4) zaz) (zn (zy (za2 zef (qv 5) (qv 1)))) zO)
   (zj (zau (zH zay (qv 4) zaz) (zn (zy (ze5 (za2 zes (zq zE Y.len zaj (zc (qv 1) ze)) zh) (zd2 (za2 zay (zt ix_tup (qv 1) zh) (qv 5)))))) zO)
   (zj (zau (zH zay (qv 4) zaz) (zn (zy (za2 zay (qv 3) (qv 5)))) zO)
   (zj (zau (zH zay (qv 4) zaz) (zn (zy (za2 zef (qv 5) (qv 2)))) zO)
   (zn (zy (za2 zpa (zG zdP (zq zE Y.len zaj (zc (qv 1) ze)) zh) (qv 5)))))))))),?_⟩
  refine vr rfl (ex2 p _ ⟨rfl, .inl (.inl hp),rfl,ex2 _ _ ⟨rfl,ex2 _ _ ⟨rfl,rfl,?_⟩⟩⟩)
  refine vr rfl ⟨rfl,vr rfl (zcc (λel=>?_) (λel=>?_))⟩
  ·obtain ⟨ce,ge⟩:=h1 ws ms to x e hcd (V.str.inj (ζh el))
   refine vr rfl (vr rfl (vr rfl (vr rfl (ex8 v1 e pw pm vt ws ms to ⟨rfl,r1,ce,hpw,hpm,hto,nw,nm,w1,lw,lm,λH' s'=>(vr rfl ?_)⟩))))
   have q:=q H' s'
   rw[←ge] at q
   exact q
  have q:=q H (Same.refl H)
  obtain⟨hpl,ge⟩:=h2 x e hcd λz=>el (ζf (by rw[z]))
  rw[←ge ws ms to] at q
  have bad:∀{y z:Str},y=z->¬decide (V.str y=V.str z)=true->False:=λe h=>h (by rw[e];exact ζf rfl)
  refine vr rfl ⟨rfl,vr rfl (zcc (λe1=>?_) (λe1=>?_))⟩
  ·have e1:=V.str.inj (ζh e1)
   subst e1
   rcases zaD hpl with⟨z,_⟩|⟨_,y,rfl,ny⟩
   ·exact absurd z (by decide +kernel)
   cases r1 with|str _ _=>
   rw[zpq,←zdh] at q
   exact vr rfl (vr rfl (ex2 pw _ ⟨rfl, .inr (.inl (.inl hpw)),rfl,zbW,q⟩))
  refine vr rfl ⟨rfl,vr rfl (zcc (λe2=>?_) (λe2=>?_))⟩
  ·have e2:=V.str.inj (ζh e2)
   subst e2
   rcases zaD hpl with⟨z,_⟩|⟨_,y,rfl,ny⟩
   ·exact absurd z (by decide +kernel)
   cases r1 with|str _ _=>
   rw[zkq] at q
   refine vr rfl (.inl (ex2 pw _ ⟨rfl, .inr (.inl (.inl hpw)),ex2 _ _ ⟨rfl,rfl,vr rfl ?_⟩⟩))
   match ws,hpw,q with
   |[],hpw,q=>exact zW rfl q
   |[a],hpw,q=>exact zW rfl q
   |a::b::r,hpw,q=>
    refine zQ (ζf (by rw[ζa,ζw,ζw];omega)) ?_
    refine vr rfl (ixT hpw at1 (vr rfl ⟨rfl,?_⟩))
    rw[zZ]
    have eb:decide ((a::b::r)[1]?=some y)=decide (b=y):=by
     rw[ξf,ζg,ζg];simp
    rw[eb] at q
    exact q
  refine vr rfl ⟨rfl,vr rfl (zcc (λe3=>?_) (λe3=>?_))⟩
  ·have e3:=V.str.inj (ζh e3)
   subst e3
   rcases zaD hpl with⟨z,_⟩|⟨_,y,rfl,ny⟩
   ·exact absurd z (by decide +kernel)
   cases r1 with|str _ _=>
   obtain⟨hsc,hde⟩:=hto.eq (y:=y)
   rw[zo7,←hde] at q
   exact vr rfl (vr rfl ⟨hsc,q⟩)
  refine vr rfl ⟨rfl,vr rfl (zcc (λe4=>?_) (λe4=>?_))⟩
  ·have e4:=V.str.inj (ζh e4)
   subst e4
   rcases zaD hpl with⟨z,_⟩|⟨_,y,rfl,ny⟩
   ·exact absurd z (by decide +kernel)
   cases r1 with|str _ _=>
   rw[zhw,←zdh] at q
   exact vr rfl (vr rfl (ex2 pm _ ⟨rfl, .inr (.inl (.inl hpm)),rfl,zbW,q⟩))
  rcases zaD hpl with⟨rfl,i,rfl,i0,i9⟩|⟨hn,y,rfl,ny⟩
  ·cases r1 with|int _=>
   rw[zk1] at q
   refine vr rfl (.inl (ex2 pw _ ⟨rfl, .inr (.inl (.inl hpw)),ex2 _ _ ⟨rfl,rfl,vr rfl (ex2 _ _ ⟨rfl,rfl,?_⟩)⟩⟩))
   have eb:decide (i<=((ws.map V.str).length:Int) -1)=decide (i<(ws.length:Int)):=by
    rw[ξf,ζg,ζg,ζa];omega
   rw[←eb] at q
   exact q
  ·rcases zeV hn with z|z|z|z
   ·exact (bad z e1).elim
   ·exact (bad z e2).elim
   ·exact (bad z e3).elim
   ·exact (bad z e4).elim
theorem zlj(Y:Ev K mg):FnOk P w K mg base CX0 1 Y.a_holds Y.d_holds zcW (zeQ (λ_=>false) (λ_ _ _ _=>false)):=by
 refine Y.holds.fn.okQ c_holds (λvs H Q E h=>?_) (λcdv A outer s H vs Q E hr h=>?_)
 ·obtain ⟨v,d,_,_,_,_,_,_,rfl,_,z,_⟩:=h;cases z
 ·obtain ⟨v,d,_,_,_,_,_,_,rfl,_,z,_⟩:=h;cases z
theorem zms(Y:Ev K mg):FnOk P w K mg base CX0 3 Y.a_holds Y.d_holds zcW (zeQ zN zbv):=by
 refine zep (c:=zP) (g:=zc8) Y ?_ zN zbv zhk ?_ ?_
 ·refine zep Y (zlj Y) zP zc8 zc4 ?_ ?_
  ·intro ws ms to x e h z
   subst z
   exact absurd h (by rw[zdE];exact ξg)
  ·exact λx e h _=>⟨h,λ_ _ _=>rfl⟩
 ·intro ws ms to x e h z
  subst z
  rw[zej,if_pos rfl] at h
  exact⟨h,by show(!zc8 ws ms to e)=(if("not":Str)="not"then !zc8 ws ms to e else phB ws ms to "not" e);rw[if_pos rfl]⟩
 ·intro x e h z
  rw[zej,if_neg z] at h
  exact⟨h,λws ms to=>by show phB ws ms to x e=(if x="not"then !zc8 ws ms to e else phB ws ms to x e);rw[if_neg z]⟩
end
section
variable{P:Program}{w:World}{K:PySem.W.Frag}{mg:Str->Option Value}{base:Heap}
theorem zft(Y:Ev K mg):FnOk P w K mg base CX0 4 Y.a_all_hold Y.d_all_hold zbQ zj0:=by
 have G_holds:FnOk P w K mg base CX0 3 Y.a_holds Y.d_holds zcW (zeQ zN zbv):=zms Y
 refine Y.all_hold.fn.okQ c_all_hold (λvs H Q E h=>?_) (λcdv A outer s H vs Q E hr h=>?_)
 ·obtain ⟨v,cs,pw,pm,vt,ws,ms,to,rfl,_⟩:=h;rfl
 ·obtain ⟨v,cs,pw,pm,vt,ws,ms,to,rfl,hd,hcs,hpw,hpm,hto,nw,nm,w1,lw,lm,q⟩:=h
  obtain⟨pc,uc,rfl,hpc,rc,_⟩:=hd.ofT
  refine⟨_,(zj (zcJ PassesOwn.never rfl (zbZ (qv 0)) (zo 4 c_all_hold.nd) (zn (zau (zbX (zbp (zk G_holds (hr.mono (by decide)) Y.holds.mg Y.holds.kp Y.holds.b .nil zp (zc (qv 4) (zc (qv 1) (zc (qv 2) (zc (qv 3) ze))))))) (zn (zy zco)) zO)))
   (zn (zy zco))),?_⟩
  refine vr rfl ⟨pc,rfl,⟨_, .inl (.inl hpc)⟩,?_⟩
  refine zbG (za0 (K:=K) (xs:=uc)) (λi σ' H'=>(∃o4,σ'=[some (.ref pc),some (.ref pw),some (.ref pm),some vt,o4])/\(cs.take i).all (zbv ws ms to)=true/\Same H H') ⟨⟨_,rfl⟩,rfl,Same.refl _⟩ (λi σ' H' z=> .inl (.inl (z.2.2 _ _ hpc))) ?_ ?_
  ·rintro i y σ' H1 hi hy ⟨⟨o4,rfl⟩,ha,s1⟩
   obtain⟨c,hc,rcc⟩:=rc.get hy
   have hcm:=ζl hc
   have tk:(cs.take (i+1)).all (zbv ws ms to)=((cs.take i).all (zbv ws ms to)&&zbv ws ms to c):=by
    rw[List.take_add_one,hc,List.all_append];simp
   refine vr rfl (vr rfl (vr rfl (vr rfl (ex8 y c pw pm vt ws ms to ⟨rfl,rcc.same s1,hcs c hcm,s1 _ _ hpw,s1 _ _ hpm,hto,nw,nm,w1,lw,lm,λH2 s2=>(vr rfl ?_)⟩))))
   cases hb:zbv ws ms to c with
   |false=>
    have e:zcP ws ms to cs=false:=List.all_eq_false.mpr ⟨c,hcm,by rw[hb];decide⟩
    have q:=q H2 (s1.trans s2)
    rw[e] at q
    exact zQ rfl q
   |true=>exact zW rfl ⟨⟨_,rfl⟩,by rw[tk,ha,hb];rfl,s1.trans s2⟩
  ·rintro σ' H1 ⟨⟨o4,rfl⟩,ha,s1⟩
   rw[rc.1,List.take_length] at ha
   have q:=q H1 s1
   have e:zcP ws ms to cs=true:=ha
   rw[e] at q
   exact q
theorem zgM(Y:Ev K mg):FnOk P w K mg base CX0 1 Y.a_likings_of Y.d_likings_of zch zqN:=by
 refine Y.likings_of.fn.okQ zhM (λvs H Q E h=>?_) (λcdv A outer s H vs Q E hr h=>?_)
 ·obtain ⟨v,x,g,hs,ps,lks,hds,j,rfl,_⟩:=h;rfl
 ·obtain ⟨v,x,g,hs,ps,lks,hds,j,rfl,hv,T,hj,q⟩:=h
  obtain⟨p,pr,pt,pl,pa,vt,vl,va,rfl,hp,hpr,hpt,rt,hpl,rl,hpa,ra⟩:=zbN hv
  have hjl:j<hs.length:=by
   rcases ξa j hs.length with y|y
   ·exact y
   ·rw[ζi y] at hj;cases hj
  have hjk:j<lks.length:=by rw[T.ll];exact hjl
  have hjv:j<vl.length:=by rw[rl.1];exact hjk
  refine⟨_,(zn (zy (zt ix_tup (zt ix_tup (qv 0) zh) (zfq PySem.F.plainAttrs_tuple PySem.F.slot_tuple_index PySem.F.type_tuple_index zfl (zt ix_tup (qv 0) zh) (zc (qv 1) ze))))),?_⟩
  refine vr rfl (ixT hp (zz (j:=3) rfl) ?_)
  refine vr rfl (ixT hp (zz (j:=1) rfl) ?_)
  refine⟨.inr (.inr (.inr (.inr ⟨rfl,_,hpr⟩))),vr rfl (ex4 pr hs x j ⟨rfl,rfl, .inl (.inl hpr),hj,zgg T.hs_nd hj,?_⟩)⟩
  exact⟨pl,_,_,vl[j],rfl,rfl, .inl (.inl hpl),zz (by simp[hjv]),q _ lks[j] (ζd hjk) (rl.2 j _ _ (ζd hjv) (ζd hjk))⟩
theorem zmf(Y:Ev K mg):FnOk P w K mg base CX0 5 Y.a_worth Y.d_worth zeL zeU:=by
 have G_all_hold:FnOk P w K mg base CX0 4 Y.a_all_hold Y.d_all_hold zbQ zj0:=zft Y
 have G_likings_of:FnOk P w K mg base CX0 1 Y.a_likings_of Y.d_likings_of zch zqN:=zgM Y
 refine Y.worth.fn.okQ c_worth (λvs H Q E h=>?_) (λcdv A outer s H vs Q E hr h=>?_)
 ·obtain ⟨v,pw,pm,x,ws,ms,g,hs,ps,lks,hds,j,rs,rfl,_⟩:=h;rfl
 ·obtain ⟨v,pw,pm,x,ws,ms,g,hs,ps,lks,hds,j,rs,rfl,hv,T,hj,hlj,hpw,hpm,nw,nm,lw,lm,q⟩:=h
  have hlk:rs.length<=90/\∀r∈rs,zaF r=true:=by
   have h:=T.likes _ (ζl hlj)
   have h:(decide (rs.length<=90)&&rs.all zaF)=true:=h
   rw[ζt] at h
   exact⟨ζh h.1,List.all_eq_true.mp h.2⟩
  refine⟨_,(zj (zcJ PassesOwn.never rfl (zbZ (zk G_likings_of (hr.mono (by decide)) Y.likings_of.mg Y.likings_of.kp Y.likings_of.b .nil zp (zc (qv 0) (zc (zt ix_tup (qv 1) zh) ze)))) (zc5 2 rfl (zx (zo 3 c_worth.nd) (zx (zo 4 c_worth.nd) za4))) (zn (zau (zbp (zk G_all_hold (hr.mono (by decide)) Y.all_hold.mg Y.all_hold.kp Y.all_hold.bd (.cons (a:=V.non) rfl .nil) zp (zc (qv 3) (zc (qv 1) (zc (qv 2) ze))))) (zn (zy (qv 4))) zO)))
   (zn (zy zh))),?_⟩
  refine vr rfl (vr rfl (ixT hpw at0 (ex8 v x g hs ps lks hds j ⟨rfl,hv,T,hj,λvr d hd rd=>?_⟩)))
  rw[hlj] at hd
  cases hd
  obtain⟨pq,us,rfl,hpq,ru,_⟩:=rd.ofT
  refine⟨pq,rfl,⟨_, .inl (.inl hpq)⟩,?_⟩
  refine zbG (za0 (K:=K) (xs:=us)) (λi σ' H'=>(∃o3 o4,σ'=[some v,some (.ref pw),some (.ref pm),o3,o4])/\zS (x::ws) ms rs=zS (x::ws) ms (rs.drop i)/\Same H H') ⟨(ex2 _ _ rfl),rfl,Same.refl _⟩ (λi σ' H' z=> .inl (.inl (z.2.2 _ _ hpq))) ?_ ?_
  ·rintro i y σ' H1 hi hy ⟨⟨o3,o4,rfl⟩,hw,s1⟩
   obtain⟨r,hr',rr⟩:=ru.get hy
   obtain⟨cs,t,rfl,c4,hcs,ht⟩:=zfe (hlk.2 r (ζl hr'))
   obtain⟨q0,v0,v1,rfl,hq0,r0,r1⟩:=(rr.same s1).of2
   refine ex2 q0 _ ⟨rfl, .inl (.inl hq0),rfl,ex2 _ _ ⟨rfl,ex2 _ _ ⟨rfl,rfl,?_⟩⟩⟩
   refine vr rfl (vr rfl (vr rfl (ex8 v0 cs pw pm (.non) (x::ws) ms none ⟨rfl,r0,hcs,s1 _ _ hpw,s1 _ _ hpm, .inl ⟨rfl,rfl⟩,nw,nm,by simp,by simp;omega,lm,λH2 s2=>(vr rfl ?_)⟩)))
   rw[zhr hr',zS] at hw
   have er:zcP (x::ws) ms none (zdw (.tup [.tup cs,t]))=zcP (x::ws) ms none cs:=rfl
   rw[er] at hw
   cases hb:zcP (x::ws) ms none cs with
   |true=>
    rw[hb,if_pos rfl] at hw
    exact zQ rfl (vr rfl (q _ H2 (by rw[hw];exact r1.same s2) (s1.trans s2)))
   |false=>
    rw[hb,if_neg (by decide)] at hw
    exact zW rfl ⟨(ex2 _ _ rfl),hw,s1.trans s2⟩
  ·rintro σ' H1 ⟨⟨o3,o4,rfl⟩,hw,s1⟩
   rw[ru.1,List.drop_length,zS] at hw
   exact q _ H1 (by rw[hw];exact .int 0) s1
theorem zje(Y:Ev K mg):FnOk P w K mg base CX0 1 Y.a_hands_of Y.d_hands_of zde zqV:=by
 refine Y.hands_of.fn.okQ zjL (λvs H Q E h=>?_) (λcdv A outer s H vs Q E hr h=>?_)
 ·obtain ⟨v,x,g,hs,ps,lks,hds,j,rfl,_⟩:=h;rfl
 ·obtain ⟨v,x,g,hs,ps,lks,hds,j,rfl,hv,T,hj,q⟩:=h
  obtain⟨p,pr,pt,pl,pa,vt,vl,va,rfl,hp,hpr,hpt,rt,hpl,rl,hpa,ra⟩:=zbN hv
  have hjl:j<hs.length:=by
   rcases ξa j hs.length with y|y
   ·exact y
   ·rw[ζi y] at hj;cases hj
  have hjk:j<hds.length:=by rw[T.lh];exact hjl
  have hjv:j<va.length:=by rw[ra.1];exact hjk
  refine⟨_,(zn (zy (zt ix_tup (zt ix_tup (qv 0) zh) (zfq PySem.F.plainAttrs_tuple PySem.F.slot_tuple_index PySem.F.type_tuple_index zfl (zt ix_tup (qv 0) zh) (zc (qv 1) ze))))),?_⟩
  refine vr rfl (ixT hp (zz (j:=4) rfl) ?_)
  refine vr rfl (ixT hp (zz (j:=1) rfl) ?_)
  refine⟨.inr (.inr (.inr (.inr ⟨rfl,_,hpr⟩))),vr rfl (ex4 pr hs x j ⟨rfl,rfl, .inl (.inl hpr),hj,zgg T.hs_nd hj,?_⟩)⟩
  exact⟨pa,_,_,va[j],rfl,rfl, .inl (.inl hpa),zz (by simp[hjv]),q _ hds[j] (ζd hjk) (ra.2 j _ _ (ζd hjv) (ζd hjk))⟩
theorem zfM(Y:Ev K mg):FnOk P w K mg base CX0 1 Y.a_marks_behind Y.d_marks_behind zbm zhf:=by
 refine Y.marks_behind.fn.okQ c_marks_behind (λvs H Q E h=>?_) (λcdv A outer s H vs Q E hr h=>?_)
 ·obtain ⟨pm,v,t,w',m,rfl,_⟩:=h;rfl
 ·obtain ⟨pm,v,t,w',m,rfl,hpm,hv,tn,mn,l13,q⟩:=h
  obtain⟨pa,v0,v1,rfl,hpa,r0,r1⟩:=hv.of2
  cases r0 with|str _ _=>
  cases r1 with|str _ _=>
  refine⟨_,(zj (zdA (qv 1) (zc5 2 rfl (zx (zo 2 c_marks_behind.nd) (zx (zcX 3 c_marks_behind.nd) za4))))
   (zj (zbU 4 (src:=[none,some 3]) o_marks_behind_1 rfl rfl c_marks_behind.nd (zbZ (qv 0)) (λ_ _ _ _ _=>(zo 0 o_marks_behind_1.nd)) (λ_ _ _ _ _=>(zc6 (zH zeP (qv 0) (qc 1)))) (λ_ _ _ _ _=>(qv 0)))
   (zj (zau (zH zay (qv 2) zaz) (zn (zdq (zfq PySem.F.plainAttrs_list PySem.F.slot_list_append PySem.F.type_list_append zaM (qv 4) (zc (qc 3) ze)))) zO)
   (zn (zy (zao zab Y.tuple zbf (zc (zq zb9 Y.sorted zcn (zc (qv 4) ze)) ze))))))),?_⟩
  refine vr rfl (ex2 pa _ ⟨rfl, .inl (.inl hpa),rfl,ex2 _ _ ⟨rfl,ex2 _ _ ⟨rfl,rfl,?_⟩⟩⟩)
  refine vr rfl ⟨pm,rfl,⟨_, .inl (.inl hpm)⟩,?_⟩
  refine zdj (g:=neD m) (f:=λd=>d) (σr:=[some (.str m)]) (za0 (K:=K)) (λH' s'=> .inl (.inl (s' _ _ hpm))) (zbe λy hy=>zC (tn y hy)) (by rw[ζa];omega) rfl ?_ (λx d HA sA rx hd=>by walk_at "dsp") λl1 us H1 s1 hl1 e1 r1=>?_
  ·intro z d HA Q1 sA rz hd q1
   obtain⟨b,_,rfl⟩:=List.mem_map.mp hd
   cases rz with|str _ _=>
   refine vr rfl (vr rfl ⟨rfl,vr rfl ?_⟩)
   rw[zZ]
   exact q1 HA (Same.refl _)
  rw[znv] at r1
  have eus:=zek r1
  subst eus
  have lf:=List.length_filter_le (λx=>!decide (x=m)) t
  dsimp only[zaE]
  have fin:∀(H2:Hp),H2 l1=some (.lst ((zaU t w' m).map V.str))->Same H H2->∀(ss:List Str) (l2:Addr),ss.Perm (zaU t w' m)->sortedS ss=true->H2 l2=none->∃p ys,[V.ref l2]=[.ref p]/\((SqL K (upd H2 l2 (.lst (ss.map V.str))) p ys/\∀l,upd H2 l2 (.lst (ss.map V.str)) l=none->Q (.ref l) (upd (upd H2 l2 (.lst (ss.map V.str))) l (.tup ys)))\/(SqT K (upd H2 l2 (.lst (ss.map V.str))) p ys/\Q (.ref p) (upd H2 l2 (.lst (ss.map V.str))))):=λH2 e2 s2 ss l2 hp2 hs2 hl2=>⟨l2,_,rfl, .inl ⟨SqL.of zd,λp hp=>by
   have es:=zke hp2 hs2
   subst es
   exact q p _ zd ((s2.trans (Same.new hl2)).trans (Same.new hp))⟩⟩
  refine vr rfl ⟨rfl,vr rfl (zcc (λe=>?_) (λe=>?_))⟩
  ·have ew:=V.str.inj (ζh e)
   have eb:zaU t w' m=t.filter (λx=>!decide (x=m))++ [m]:=by unfold zaU;rw[if_pos ew]
   refine vr rfl ⟨.inl ⟨rfl,_,SqL.of e1⟩,vr rfl (ex3 l1 _ _ ⟨rfl,rfl,e1,zm (by rw[ζa];omega),?_⟩)⟩
   have e2:(upd H1 l1 (.lst ((t.filter λx=>!decide (x=m)).map V.str ++ [V.str m]))) l1=some (.lst ((zaU t w' m).map V.str)):=by rw[zd,eb,ξc];rfl
   have s2:Same H (upd H1 l1 (.lst ((t.filter λx=>!decide (x=m)).map V.str ++ [V.str m]))):=λc o z=>by rw[zr (zB z hl1)];exact s1 _ _ z
   generalize (upd H1 l1 (HO.lst ((t.filter λx=>!decide (x=m)).map V.str ++ [V.str m])))=H2 at *
   exact vr rfl ⟨l1,zaU t w' m,rfl, .inl (SqL.of e2),by rw[eb,ζe,ξd];omega,fin H2 e2 s2⟩
  ·have ew:¬w'="put":=λz=>e (ζf (by rw[z]))
   have eb:zaU t w' m=t.filter (λx=>!decide (x=m)):=by unfold zaU;rw[if_neg ew,List.append_nil]
   have e2:H1 l1=some (.lst ((zaU t w' m).map V.str)):=by rw[eb];exact e1
   exact vr rfl ⟨l1,zaU t w' m,rfl, .inl (SqL.of e2),by rw[eb];omega,fin H1 e2 s1⟩
theorem zj3(Y:Ev K mg):FnOk P w K mg base CX0 5 Y.a_handed Y.d_handed zd8 zcZ:=by
 have G_all_hold:FnOk P w K mg base CX0 4 Y.a_all_hold Y.d_all_hold zbQ zj0:=zft Y
 have G_hands_of:FnOk P w K mg base CX0 1 Y.a_hands_of Y.d_hands_of zde zqV:=zje Y
 have G_marks_behind:FnOk P w K mg base CX0 1 Y.a_marks_behind Y.d_marks_behind zbm zhf:=zfM Y
 refine Y.handed.fn.okQ c_handed (λvs H Q E h=>?_) (λcdv A outer s H vs Q E hr h=>?_)
 ·obtain ⟨v,pw,pm,vt,x,ws,ms,to,g,hs,ps,lks,hds,j,rs,Pr,rfl,_⟩:=h;rfl
 ·obtain ⟨v,pw,pm,vt,x,ws,ms,to,g,hs,ps,lks,hds,j,rs,Pr,rfl,hv,T,hj,hdj,HO',MS,M0,hpw,hpm,hto,nw,lw,q⟩:=h
  refine⟨_,(zj (zI 4 c_handed.nd (qv 2))
   (zj (zcJ PassesOwn.never rfl (zbZ (zk G_hands_of (hr.mono (by decide)) Y.hands_of.mg Y.hands_of.kp Y.hands_of.b .nil zp (zc (qv 0) (zc (zt ix_tup (qv 1) zh) ze)))) (zc5 2 rfl (zx (zo 5 c_handed.nd) (zx (zo 6 c_handed.nd) za4))) (zj (zau (zbX (zbp (zk G_all_hold (hr.mono (by decide)) Y.all_hold.mg Y.all_hold.kp Y.all_hold.b .nil zp (zc (qv 5) (zc (qv 1) (zc (qv 4) (zc (qv 3) ze))))))) (zn zqc) zO)
   (zj (zau (zH zay (zt ix_tup (qv 6) zh) zaz) (zn (zy zck)) zO)
   (zn (zI 4 c_handed.nd (zk G_marks_behind (hr.mono (by decide)) Y.marks_behind.mg Y.marks_behind.kp Y.marks_behind.b .nil zp (zc (qv 4) (zc (qv 6) ze))))))))
   (zn (zy (qv 4))))),?_⟩
  refine vr rfl ?_
  refine vr rfl (vr rfl (ixT hpw at0 (ex8 v x g hs ps lks hds j ⟨rfl,hv,T,hj,λvr d hd rd=>?_⟩)))
  rw[hdj] at hd
  cases hd
  obtain⟨pq,us,rfl,hpq,ru,_⟩:=rd.ofT
  refine⟨pq,rfl,⟨_, .inl (.inl hpq)⟩,?_⟩
  refine zbG (za0 (K:=K) (xs:=us)) (λi σ' H'=>(∃pt t o5 o6,σ'=[some v,some (.ref pw),some (.ref pm),some vt,some (.ref pt),o5,o6]/\H' pt=some (.tup (t.map V.str))/\Pr i t/\zA (x::ws) to rs ms=zA (x::ws) to (rs.drop i) t)/\Same H H') ⟨(ex4 pm ms _ _ ⟨rfl,hpm,M0,rfl⟩),Same.refl _⟩ (λi σ' H' z=> .inl (.inl (z.2 _ _ hpq))) ?_ ?_
  ·rintro i y σ' H1 hi hy ⟨⟨pt,t,o5,o6,rfl,hpt,Mt,he⟩,s1⟩
   obtain⟨r,hr',rr⟩:=ru.get hy
   obtain⟨cs,xa,rfl,hcs,hx⟩:=HO'.2 r (ζl hr')
   obtain⟨q0,v0,v1,rfl,hq0,r0,r1⟩:=(rr.same s1).of2
   have lu:=ru.1
   obtain⟨tn,tl⟩:=MS.ok i t (by omega) Mt
   refine ex2 q0 _ ⟨rfl, .inl (.inl hq0),rfl,ex2 _ _ ⟨rfl,ex2 _ _ ⟨rfl,rfl,?_⟩⟩⟩
   refine vr rfl (vr rfl (vr rfl (vr rfl (ex8 v0 cs pw pt vt (x::ws) t to ⟨rfl,r0,hcs,s1 _ _ hpw,hpt,hto,nw,tn,by simp,by simp;omega,ξb tl (by decide),λH2 s2=>(vr rfl ?_)⟩))))
   rw[zhr hr',zA] at he
   have er:zcP (x::ws) t to (zdw (.tup [.tup cs,xa]))=zcP (x::ws) t to cs:=rfl
   have et:zcC (.tup [.tup cs,xa])=xa:=rfl
   rw[er,et] at he
   cases hb:zcP (x::ws) t to cs with
   |false=>
    rw[hb,if_neg (by decide)] at he
    exact zQ rfl ⟨(ex4 pt t _ _ ⟨rfl,s2 _ _ hpt,MS.skip i t Mt,he⟩),s1.trans s2⟩
   |true=>
    rw[hb,if_pos rfl] at he
    refine zW rfl ?_
    rcases hx with rfl|⟨w1,m1,rfl,hw1,hm1⟩
    ·obtain ⟨pa,ua,rfl,hpa,ra',_⟩:=(r1.same s2).ofT
     have la:ua.length=1:=ra'.1
     obtain⟨u0,rfl⟩:∃u0,ua=[u0]:=by
      match ua,la with
      |[u0],_=>exact ⟨u0,rfl⟩
     have h0:=ra'.head.1
     cases h0 with|str _ _=>
     refine vr rfl (ixT hpa at0 ⟨rfl,vr rfl (zQ (by rw[ζf rfl]) ?_)⟩)
     exact q .non H2 (by rw[he];rfl) (s1.trans s2)
    ·obtain ⟨pa,z0,z1,rfl,hpa,rz0,rz1⟩:=(r1.same s2).of2
     cases rz0 with|str _ _=>
     have nk:decide (V.str w1=V.str "keep")=false:=by
      rw[zZ]
      rcases hw1 with rfl|rfl<;>decide +kernel
     refine vr rfl (ixT hpa at0 ⟨rfl,vr rfl (zW nk ?_)⟩)
     refine vr rfl (vr rfl (ex4 pt (.ref pa) t w1 ⟨m1,rfl,s2 _ _ hpt,r1.same s2,tn,hm1,tl,λp3 H3 e3 s3=>?_⟩))
     exact⟨(ex4 p3 _ _ _ ⟨rfl,e3,MS.next i t w1 m1 cs Mt hr',he⟩),(s1.trans s2).trans s3⟩
  ·rintro σ' H1 ⟨⟨pt,t,o5,o6,rfl,hpt,Mt,he⟩,s1⟩
   rw[ru.1,List.drop_length,zA] at he
   exact vr rfl (q _ H1 (by rw[he];exact⟨pt,rfl,hpt⟩) s1)
end
section
variable{P:Program}{w:World}{K:PySem.W.Frag}{mg:Str->Option Value}{base:Heap}
def MsAt(H:Hp)(pm:Addr)(ms:List Str):Prop:=H pm=some (.tup (ms.map V.str))\/H pm=some (.lst (ms.map V.str))
theorem MsAt.same{H H':Hp}{pm:Addr}{ms:List Str}(h:MsAt H pm ms)(s:Same H H'):MsAt H' pm ms:=h.imp (s _ _) (s _ _)
noncomputable def zdV(c:D->Bool)(g:List Str->List Str->Option Str->D->Bool):Sp:=λvs H Q _=>∃(v:V) (d:D) (pw pm:Addr) (vt:V) (ws ms:List Str) (to:Option Str),vs=[v, .ref pw, .ref pm,vt]/\Rep H v d/\c d=true/\H pw=some (.tup (ws.map V.str))/\MsAt H pm ms/\TO vt to/\(∀x∈ws,zi x=true)/\(∀x∈ms,zi x=true)/\1<=ws.length/\ws.length<=100/\ms.length<=100/\∀H',Same H H'->Q (.bl (g ws ms to d)) H'
noncomputable def zhE:Sp:=λvs H Q _=>∃(v:V) (cs:List D) (pw pm:Addr) (vt:V) (ws ms:List Str) (to:Option Str),vs=[v, .ref pw, .ref pm,vt]/\Rep H v (.tup cs)/\(∀c∈cs,zN c=true)/\H pw=some (.tup (ws.map V.str))/\MsAt H pm ms/\TO vt to/\(∀x∈ws,zi x=true)/\(∀x∈ms,zi x=true)/\1<=ws.length/\ws.length<=100/\ms.length<=100/\∀H',Same H H'->Q (.bl (zcP ws ms to cs)) H'
theorem zdW{k:Nat}{c:D->Bool}{g:List Str->List Str->Option Str->D->Bool}(Y:Ev K mg)(G__law_cond_holds:FnOk P w K mg base CX0 k Y.a__law_cond_holds Y.d__law_cond_holds zY (zdV c g))(c':D->Bool)(g':List Str->List Str->Option Str->D->Bool)
 (hc:∀d,c' d=true->∃x e,d= .tup [.str x,e]) (h1:∀ws ms to x e,c' (.tup [.str x,e])=true->x="not"->c e=true/\(!g ws ms to e)=g' ws ms to (.tup [.str x,e]))
 (h2:∀x e,c' (.tup [.str x,e])=true->¬x="not"->zP (.tup [.str x,e])=true/\∀ws ms to,phB ws ms to x e=g' ws ms to (.tup [.str x,e])):
 FnOk P w K mg base CX0 (k+1) Y.a__law_cond_holds Y.d__law_cond_holds zY (zdV c' g'):=by
 refine Y._law_cond_holds.fn.okQ zdk (λvs H Q E h=>?_) (λcdv A outer s H vs Q E hr h=>?_)
 ·obtain ⟨v,d,pw,pm,vt,ws,ms,to,rfl,_⟩:=h;rfl
 ·obtain ⟨v,d,pw,pm,vt,ws,ms,to,rfl,hd,hcd,hpw,hpm,hto,nw,nm,w1,lw,lm,q⟩:=h
  obtain⟨x,e,rfl⟩:=hc d hcd
  obtain⟨p,v0,v1,rfl,hp,r0,r1⟩:=hd.of2
  cases r0 with
  |str _ hx=>
  refine⟨_,(zj (zau (zH zay (zt ix_tup (qc 0) zh) zaz) (zn (zy (zng (zk G__law_cond_holds hr Y._law_cond_holds.mg Y._law_cond_holds.kp Y._law_cond_holds.b .nil zp (zc (zt ix_tup (qc 0) zh) (zc (qv 1) (zc (qv 2) (zc (qv 3) ze)))))))) zO)
   (zj (zau (zH zay (zt ix_tup (qc 0) zh) zaz) (zn (zy (za2 zes (zq zE Y.len zaj (zc (zaI (src:=[none,some 0]) o__law_cond_holds_1 rfl rfl (zbZ (qv 1)) (λ_ _ _ _ _=>(zo 0 o__law_cond_holds_1.nd)) (λ_ _ _ _ _=>(zc6 (zH zay (qv 0) (zt (za6 (K:=K) rfl) (qc 1) zh)))) (λ_ _ _ _ _=>(qv 0))) ze)) zh))) zO)
   (zj (zau (zH zay (zt ix_tup (qc 0) zh) zaz) (zn (zy (za2 (zfn (zeR hr)) (zbL zR (qv 1) (zV zh) (zV zh)) (zv (zc (zt ix_tup (qc 0) zh) ze))))) zO)
   (zj (zau (zH zay (zt ix_tup (qc 0) zh) zaz) (zn (zy (ze5 (za2 zkp (qv 3) zck) (zd2 (za2 zay (qv 3) (zt ix_tup (qc 0) zh)))))) zO)
   (zj (zau (zH zay (zt ix_tup (qc 0) zh) zaz) (zn (zy (za2 zes (zq zE Y.len zaj (zc (zaI (src:=[none,some 0]) o__law_cond_holds_2 rfl rfl (zqq (qv 2)) (λ_ _ _ _ _=>(zo 0 o__law_cond_holds_2.nd)) (λ_ _ _ _ _=>(zc6 (zH zay (qv 0) (zt (za6 (K:=K) rfl) (qc 1) zh)))) (λ_ _ _ _ _=>(qv 0))) ze)) zh))) zO)
   (zn (zy (za2 zes (zq zE Y.len zaj (zc (qv 1) ze)) (zt ix_tup (qc 0) zh))))))))),?_⟩
  refine vr rfl (ixT hp at0 ⟨rfl,vr rfl (zcc (λel=>?_) (λel=>?_))⟩)
  ·obtain ⟨ce,ge⟩:=h1 ws ms to x e hcd (V.str.inj (ζh el))
   refine vr rfl (ixT hp at1 (vr rfl (vr rfl (vr rfl (ex8 v1 e pw pm vt ws ms to ⟨rfl,r1,ce,hpw,hpm,hto,nw,nm,w1,lw,lm,λH' s'=>(vr rfl ?_)⟩)))))
   have q:=q H' s'
   rw[←ge] at q
   exact q
  obtain⟨hpl,ge⟩:=h2 x e hcd λz=>el (ζf (by rw[z]))
  rw[←ge ws ms to] at q
  have bad:∀{y z:Str},y=z->¬decide (V.str y=V.str z)=true->False:=λe h=>h (by rw[e];exact ζf rfl)
  refine vr rfl (ixT hp at0 ⟨rfl,vr rfl (zcc (λe1=>?_) (λe1=>?_))⟩)
  ·have e1:=V.str.inj (ζh e1)
   subst e1
   rcases zaD hpl with⟨z,_⟩|⟨_,y,rfl,ny⟩
   ·exact absurd z (by decide +kernel)
   cases r1 with|str _ _=>
   refine vr rfl ⟨pw,rfl,⟨_, .inl (.inl hpw)⟩,?_⟩
   refine zdj (g:=eqD y) (f:=λd=>d) (σr:=[some (.ref p)]) (za0 (K:=K)) (λH' s'=> .inl (.inl (s' _ _ hpw))) (zbe λy hy=>zC (nw y hy)) (by rw[ζa];omega) rfl ?_ (λx d HA sA rx hd=>by walk_at "dsp") λl7 us H7 s7 hl7 e7 r7=>?_
   ·intro z d HA Q1 sA rz hd q1
    obtain⟨b,_,rfl⟩:=List.mem_map.mp hd
    cases rz with|str _ _=>
    refine vr rfl (vr rfl (ixT (sA _ _ hp) at1 ⟨rfl,vr rfl ?_⟩))
    rw[zZ]
    exact q1 HA (Same.refl _)
   refine .inl (ex2 l7 _ ⟨rfl, .inl (SqL.of e7),ex2 _ _ ⟨rfl,rfl,?_⟩⟩)
   have q:=q H7 s7
   rw[zpq,←zhG r7] at q
   exact q
  refine vr rfl (ixT hp at0 ⟨rfl,vr rfl (zcc (λe2=>?_) (λe2=>?_))⟩)
  ·have e2:=V.str.inj (ζh e2)
   subst e2
   rcases zaD hpl with⟨z,_⟩|⟨_,y,rfl,ny⟩
   ·exact absurd z (by decide +kernel)
   cases r1 with|str _ _=>
   refine vr rfl ⟨1,rfl,2,rfl,ex2 pw _ ⟨rfl, .inl (.inl hpw),λz=>?_,λp2 hp2=>?_⟩⟩
   ·rw[zmM (by rw[ζa];exact w1)] at z
    have:=congrArg List.length z
    rw[ζm,ζr,ζa] at this
    omega
   rw[zmM (by rw[ζa];exact w1),←List.map_drop,←List.map_take]
   have S2:=Same.new (o:= .tup (((ws.drop 1).take 1).map V.str)) hp2
   refine vr rfl (ixT (S2 _ _ hp) at1 ⟨few rfl,λp3 hp3=>?_⟩)
   have S3:=Same.new (o:= .tup [V.str y]) hp3
   refine⟨_,_,zaK (xs:=(ws.drop 1).take 1) (S3 _ _ zd) (λx hx=>zD (nw x (List.mem_of_mem_drop (List.mem_of_mem_take hx)))),zaK (xs:=[y]) zd (λx hx=>by rw[List.mem_singleton.mp hx];exact zD ny),ξb (Nat.min_le_left _ _) zai,?_⟩
   have q:=q _ (S2.trans S3)
   rw[zkq,←zlE,←zbB] at q
   exact q
  refine vr rfl (ixT hp at0 ⟨rfl,vr rfl (zcc (λe3=>?_) (λe3=>?_))⟩)
  ·have e3:=V.str.inj (ζh e3)
   subst e3
   rcases zaD hpl with⟨z,_⟩|⟨_,y,rfl,ny⟩
   ·exact absurd z (by decide +kernel)
   cases r1 with|str _ _=>
   have q:=q H (Same.refl H)
   rw[zo7] at q
   rcases hto.notN with⟨rfl,rfl⟩|⟨x,rfl,rfl⟩
   ·exact vr rfl ⟨rfl,vr rfl (zW rfl q)⟩
   ·refine vr rfl ⟨rfl,vr rfl (zQ rfl (vr rfl (vr rfl (ixT hp at1 ⟨rfl,?_⟩))))⟩
    have eb:decide (some x=some y)=decide (x=y):=by rw[ξf,ζg,ζg,Option.some.injEq]
    rw[eb,←zZ] at q
    exact q
  refine vr rfl (ixT hp at0 ⟨rfl,vr rfl (zcc (λe4=>?_) (λe4=>?_))⟩)
  ·have e4:=V.str.inj (ζh e4)
   subst e4
   rcases zaD hpl with⟨z,_⟩|⟨_,y,rfl,ny⟩
   ·exact absurd z (by decide +kernel)
   cases r1 with|str _ _=>
   rcases hpm with hpm|hpm
   ·refine .inl (vr rfl ⟨pm,rfl,⟨_, .inl (.inl hpm)⟩,?_⟩)
    refine zdj (g:=eqD y) (f:=λd=>d) (σr:=[some (.ref p)]) (za0 (K:=K)) (λH' s'=> .inl (.inl (s' _ _ hpm))) (zbe λy hy=>zC (nm y hy)) (by rw[ζa];omega) rfl ?_ (λx d HA sA rx hd=>by walk_at "dsp") λl7 us H7 s7 hl7 e7 r7=>?_
    ·intro z d HA Q1 sA rz hd q1
     obtain⟨b,_,rfl⟩:=List.mem_map.mp hd
     cases rz with|str _ _=>
     refine vr rfl (vr rfl (ixT (sA _ _ hp) at1 ⟨rfl,vr rfl ?_⟩))
     rw[zZ]
     exact q1 HA (Same.refl _)
    refine .inl (ex2 l7 _ ⟨rfl, .inl (SqL.of e7),ex2 _ _ ⟨rfl,rfl,?_⟩⟩)
    have q:=q H7 s7
    rw[zhw,←zhG r7] at q
    exact q
   ·refine .inr (vr rfl ⟨pm,rfl,⟨_,SqL.of hpm⟩,?_⟩)
    refine zdj (g:=eqD y) (f:=λd=>d) (σr:=[some (.ref p)]) (zcy (K:=K)) (λH' s'=>SqL.of (s' _ _ hpm)) (zbe λy hy=>zC (nm y hy)) (by rw[ζa];omega) rfl ?_ (λx d HA sA rx hd=>by walk_at "dsp") λl7 us H7 s7 hl7 e7 r7=>?_
    ·intro z d HA Q1 sA rz hd q1
     obtain⟨b,_,rfl⟩:=List.mem_map.mp hd
     cases rz with|str _ _=>
     refine vr rfl (vr rfl (ixT (sA _ _ hp) at1 ⟨rfl,vr rfl ?_⟩))
     rw[zZ]
     exact q1 HA (Same.refl _)
    refine .inl (ex2 l7 _ ⟨rfl, .inl (SqL.of e7),ex2 _ _ ⟨rfl,rfl,?_⟩⟩)
    have q:=q H7 s7
    rw[zhw,←zhG r7] at q
    exact q
  rcases zaD hpl with⟨rfl,i,rfl,i0,i9⟩|⟨hn,y,rfl,ny⟩
  ·cases r1 with|int _=>
   have q:=q H (Same.refl H)
   rw[zk1] at q
   refine vr rfl (.inl (ex2 pw _ ⟨rfl, .inr (.inl (.inl hpw)),vr rfl (ixT hp at1 (ex2 _ _ ⟨rfl,rfl,?_⟩))⟩))
   rw[ζa]
   exact q
  ·rcases zeV hn with z|z|z|z
   ·exact (bad z e1).elim
   ·exact (bad z e2).elim
   ·exact (bad z e3).elim
   ·exact (bad z e4).elim
theorem zjE(Y:Ev K mg):FnOk P w K mg base CX0 1 Y.a__law_cond_holds Y.d__law_cond_holds zY (zdV (λ_=>false) (λ_ _ _ _=>false)):=by
 refine Y._law_cond_holds.fn.okQ zdk (λvs H Q E h=>?_) (λcdv A outer s H vs Q E hr h=>?_)
 ·obtain ⟨v,d,_,_,_,_,_,_,rfl,_,z,_⟩:=h;cases z
 ·obtain ⟨v,d,_,_,_,_,_,_,rfl,_,z,_⟩:=h;cases z
theorem zlN(Y:Ev K mg):FnOk P w K mg base CX0 3 Y.a__law_cond_holds Y.d__law_cond_holds zY (zdV zN zbv):=by
 refine zdW (c:=zP) (g:=zc8) Y ?_ zN zbv zhk ?_ ?_
 ·refine zdW Y (zjE Y) zP zc8 zc4 ?_ ?_
  ·intro ws ms to x e h z
   subst z
   exact absurd h (by rw[zdE];exact ξg)
  ·exact λx e h _=>⟨h,λ_ _ _=>rfl⟩
 ·intro ws ms to x e h z
  subst z
  rw[zej,if_pos rfl] at h
  exact⟨h,by show(!zc8 ws ms to e)=(if("not":Str)="not"then !zc8 ws ms to e else phB ws ms to "not" e);rw[if_pos rfl]⟩
 ·intro x e h z
  rw[zej,if_neg z] at h
  exact⟨h,λws ms to=>by show phB ws ms to x e=(if x="not"then !zc8 ws ms to e else phB ws ms to x e);rw[if_neg z]⟩
theorem zeT(Y:Ev K mg):FnOk P w K mg base CX0 4 Y.a__law_all_hold Y.d__law_all_hold zaN zhE:=by
 have G__law_cond_holds:FnOk P w K mg base CX0 3 Y.a__law_cond_holds Y.d__law_cond_holds zY (zdV zN zbv):=zlN Y
 refine Y._law_all_hold.fn.okQ c__law_all_hold (λvs H Q E h=>?_) (λcdv A outer s H vs Q E hr h=>?_)
 ·obtain ⟨v,cs,pw,pm,vt,ws,ms,to,rfl,_⟩:=h;rfl
 ·obtain ⟨v,cs,pw,pm,vt,ws,ms,to,rfl,hd,hcs,hpw,hpm,hto,nw,nm,w1,lw,lm,q⟩:=h
  obtain⟨pc,uc,rfl,hpc,rc,_⟩:=hd.ofT
  refine⟨_,(zj (zcJ PassesOwn.never rfl (zbZ (qv 0)) (zo 4 c__law_all_hold.nd) (zn (zau (zbX (zbp (zk G__law_cond_holds (hr.mono (by decide)) Y._law_cond_holds.mg Y._law_cond_holds.kp Y._law_cond_holds.b .nil zp (zc (qv 4) (zc (qv 1) (zc (qv 2) (zc (qv 3) ze))))))) (zn (zy zco)) zO)))
   (zn (zy zco))),?_⟩
  refine vr rfl ⟨pc,rfl,⟨_, .inl (.inl hpc)⟩,?_⟩
  refine zbG (za0 (K:=K) (xs:=uc)) (λi σ' H'=>(∃o4,σ'=[some (.ref pc),some (.ref pw),some (.ref pm),some vt,o4])/\(cs.take i).all (zbv ws ms to)=true/\Same H H') ⟨⟨_,rfl⟩,rfl,Same.refl _⟩ (λi σ' H' z=> .inl (.inl (z.2.2 _ _ hpc))) ?_ ?_
  ·rintro i y σ' H1 hi hy ⟨⟨o4,rfl⟩,ha,s1⟩
   obtain⟨c,hc,rcc⟩:=rc.get hy
   have hcm:=ζl hc
   have tk:(cs.take (i+1)).all (zbv ws ms to)=((cs.take i).all (zbv ws ms to)&&zbv ws ms to c):=by
    rw[List.take_add_one,hc,List.all_append];simp
   refine vr rfl (vr rfl (vr rfl (vr rfl (ex8 y c pw pm vt ws ms to ⟨rfl,rcc.same s1,hcs c hcm,s1 _ _ hpw,hpm.same s1,hto,nw,nm,w1,lw,lm,λH2 s2=>(vr rfl ?_)⟩))))
   cases hb:zbv ws ms to c with
   |false=>
    have e:zcP ws ms to cs=false:=List.all_eq_false.mpr ⟨c,hcm,by rw[hb];decide⟩
    have q:=q H2 (s1.trans s2)
    rw[e] at q
    exact zQ rfl q
   |true=>exact zW rfl ⟨⟨_,rfl⟩,by rw[tk,ha,hb];rfl,s1.trans s2⟩
  ·rintro σ' H1 ⟨⟨o4,rfl⟩,ha,s1⟩
   rw[rc.1,List.take_length] at ha
   have q:=q H1 s1
   have e:zcP ws ms to cs=true:=ha
   rw[e] at q
   exact q
theorem zfF(Y:Ev K mg):FnOk P w K mg base CX0 5 Y.a__law_handed Y.d__law_handed zaV zcZ:=by
 have G__law_all_hold:FnOk P w K mg base CX0 4 Y.a__law_all_hold Y.d__law_all_hold zaN zhE:=zeT Y
 refine Y._law_handed.fn.okQ c__law_handed (λvs H Q E h=>?_) (λcdv A outer s H vs Q E hr h=>?_)
 ·obtain ⟨v,pw,pm,vt,x,ws,ms,to,g,hs,ps,lks,hds,j,rs,Pr,rfl,_⟩:=h;rfl
 ·obtain ⟨v,pw,pm,vt,x,ws,ms,to,g,hs,ps,lks,hds,j,rs,Pr,rfl,hv,T,hj,hdj,HO',MS,M0,hpw,hpm,hto,nw,lw,q⟩:=h
  obtain⟨p,pr,pt,pl,pa,vtt,vl,va,rfl,hp,hpr,hpt,rt,hpl,rl,hpa,ra⟩:=zbN hv
  have T10:=T.ten
  have hjl:j<hs.length:=by
   rcases ξa j hs.length with y|y
   ·exact y
   ·rw[ζi y] at hj;cases hj
  have hjk:j<hds.length:=by rw[T.lh];exact hjl
  have hjv:j<va.length:=by rw[ra.1];exact hjk
  refine⟨_,(zj (zI 4 c__law_handed.nd (zt ix_list (zaI (src:=[none,none,some 1]) o__law_handed_1 rfl rfl (zjX Y.enumerate (zc (zt ix_tup (qv 0) zh) ze)) (λ_ _ _ _ _=>(zfa (K:=K) 2 rfl rfl (zx (zo 0 o__law_handed_1.nd) (zx (zo 1 o__law_handed_1.nd) za4)))) (λ_ _ _ _ _=>(zc6 (zH zay (qv 1) (zt (za6 (K:=K) rfl) (qc 2) zh)))) (λ_ _ _ _ _=>(qv 0))) zh))
   (zj (zI 5 c__law_handed.nd (zao zhA Y.list zoa (zc (qv 2) ze)))
   (zj (zcJ PassesOwn.never rfl (zbZ (zt ix_tup (zt ix_tup (qv 0) zh) (qv 4))) (zc5 2 rfl (zx (zo 6 c__law_handed.nd) (zx (zcX 7 c__law_handed.nd) za4))) (zn (zau (zbp (zk G__law_all_hold (hr.mono (by decide)) Y._law_all_hold.mg Y._law_all_hold.kp Y._law_all_hold.b .nil zp (zc (qv 6) (zc (qc 1) (zc (qv 5) (zc (qv 3) ze)))))) (zj (zau (zH zay (zt ix_tup (qc 7) zh) zaz) (zn (zy zck)) zO)
   (zn (zI 5 c__law_handed.nd (zq zb9 Y.sorted zcn (zc (zG zcd (zaI (src:=[none,some 7]) o__law_handed_2 rfl rfl (zdt (qv 5)) (λ_ _ _ _ _=>(zo 0 o__law_handed_2.nd)) (λ_ _ _ _ _=>(zc6 (zH zeP (qv 0) (zt (za6 (K:=K) rfl) (qc 1) zh)))) (λ_ _ _ _ _=>(qv 0))) (zG zpB (zbs (zc (zt ix_tup (qc 7) zh) ze)) (zao zdz Y.int zfc (zc (za2 zay (zt ix_tup (qc 7) zh) zaz) ze)))) ze))))) zO)))
   (zn (zy (zao zab Y.tuple zbf (zc (qv 5) ze))))))),?_⟩
  refine vr rfl (ixT hp (zz (j:=1) rfl) (ex2 pr _ ⟨rfl, .inl (.inl hpr),?_⟩))
  refine zh7 (K:=K) (x:=x) (λσ'=>∃o0 o1,σ'=[o0,o1,some (.ref pw)]) (λH' s'=> .inl (.inl (s' _ _ hpr))) (by omega) (ex2 _ _ rfl) ?_ λl1 H1 s1 hl1 e1=>?_
  ·rintro T0 i y σ' HA A B ⟨o0,o1,rfl⟩ sA hT0 k
   refine ex2 T0 _ ⟨rfl, .inl (.inl hT0),rfl,ex2 _ _ ⟨rfl,ex2 _ _ ⟨rfl,rfl,vr rfl (vr rfl (ixT (sA _ _ hpw) at0 ⟨rfl,vr rfl ?_⟩))⟩⟩⟩
   have k:=k [some (.int (i:Int)),some (.str y),some (.ref pw)] ⟨_,_,rfl⟩
   rw[zZ]
   cases e:decide (y=x)with
   |false=>rw[e] at k;exact k
   |true=>rw[e] at k;exact⟨_,rfl,k⟩
  rw[ziP T.hs_nd hj _ hjl] at e1
  refine ixL e1 at0 ?_
  refine vr rfl (ex2 pm _ ⟨rfl, .inr (.inl (.inl (s1 _ _ hpm))),λl2 hl2=>?_⟩)
  have S2:=Same.new (o:= .lst (ms.map V.str)) hl2
  have e2:=zd (H:=H1) (a:=l2) (o:= .lst (ms.map V.str))
  have s02:=s1.trans S2
  generalize (upd H1 l2 (HO.lst (ms.map V.str)))=H2 at *
  have hp2:=s02 _ _ hp
  have hpa2:=s02 _ _ hpa
  have rj:=(ra.2 j _ _ (ζd hjv) hdj).same s02
  obtain⟨pq,us,epq,hpq,ru,_⟩:=rj.ofT
  refine vr rfl (ixT hp2 (zz (j:=4) rfl) (vr rfl (ixT hpa2 (by rw[←epq];exact zz (by simp[hjv])) ⟨pq,rfl,⟨_, .inl (.inl hpq)⟩,?_⟩)))
  refine zbG (za0 (K:=K) (xs:=us)) (λi σ' H'=>(∃ln t o6 o7,σ'=[some (.ref p),some (.ref pw),some (.ref pm),some vt,some (.int (j:Int)),some (.ref ln),o6,o7]/\H' ln=some (.lst (t.map V.str))/\Pr i t/\zA (x::ws) to rs ms=zA (x::ws) to (rs.drop i) t)/\Same H2 H') ⟨⟨l2,ms,_,_,rfl,e2,M0,rfl⟩,Same.refl _⟩ (λi σ' H' z=> .inl (.inl (z.2 _ _ hpq))) ?_ ?_
  ·rintro i y σ' H3 hi hy ⟨⟨ln,t,o6,o7,rfl,hln,Mt,he⟩,s3⟩
   obtain⟨r,hr',rr⟩:=ru.get hy
   obtain⟨cs,xa,rfl,hcs,hx⟩:=HO'.2 r (ζl hr')
   obtain⟨q0,v0,v1,rfl,hq0,r0,r1⟩:=(rr.same s3).of2
   have lu:=ru.1
   obtain⟨tn,tl⟩:=MS.ok i t (by omega) Mt
   refine ex2 q0 _ ⟨rfl, .inl (.inl hq0),rfl,ex2 _ _ ⟨rfl,ex2 _ _ ⟨rfl,rfl,?_⟩⟩⟩
   refine vr rfl (vr rfl (vr rfl (vr rfl (ex8 v0 cs pw ln vt (x::ws) t to ⟨rfl,r0,hcs,s3 _ _ (s02 _ _ hpw), .inr hln,hto,nw,tn,by simp,by simp;omega,ξb tl (by decide),λH4 s4=>(vr rfl ?_)⟩))))
   rw[zhr hr',zA] at he
   have er:zcP (x::ws) t to (zdw (.tup [.tup cs,xa]))=zcP (x::ws) t to cs:=rfl
   have et:zcC (.tup [.tup cs,xa])=xa:=rfl
   rw[er,et] at he
   cases hb:zcP (x::ws) t to cs with
   |false=>
    rw[hb,if_neg (by decide)] at he
    exact zW rfl ⟨(ex4 ln t _ _ ⟨rfl,s4 _ _ hln,MS.skip i t Mt,he⟩),s3.trans s4⟩
   |true=>
    rw[hb,if_pos rfl] at he
    refine zQ rfl ?_
    rcases hx with rfl|⟨w1,m1,rfl,hw1,hm1⟩
    ·obtain ⟨pac,ua,rfl,hpac,ra',_⟩:=(r1.same s4).ofT
     have la:ua.length=1:=ra'.1
     obtain⟨u0,rfl⟩:∃u0,ua=[u0]:=by
      match ua,la with
      |[u0],_=>exact ⟨u0,rfl⟩
     have h0:=ra'.head.1
     cases h0 with|str _ _=>
     refine vr rfl (ixT hpac at0 ⟨rfl,vr rfl (zQ (by rw[ζf rfl]) ?_)⟩)
     exact q .non H4 (by rw[he];rfl) ((s02.trans s3).trans s4)
    ·obtain ⟨pac,z0,z1,rfl,hpac,rz0,rz1⟩:=(r1.same s4).of2
     cases rz0 with|str _ _=>
     cases rz1 with|str _ _=>
     have nk:decide (V.str w1=V.str "keep")=false:=by
      rw[zZ]
      rcases hw1 with rfl|rfl<;>decide +kernel
     refine vr rfl (ixT hpac at0 ⟨rfl,vr rfl (zW nk ?_)⟩)
     have hln4:=s4 _ _ hln
     refine vr rfl ⟨ln,rfl,⟨_,SqL.of hln4⟩,?_⟩
     refine zdj (g:=neD m1) (f:=λd=>d) (σr:=[some (.ref pac)]) (zcy (K:=K)) (λH' s'=>SqL.of (s' _ _ hln4)) (zbe λy hy=>zC (tn y hy)) (by rw[ζa];omega) rfl ?_ (λx d HA sA rx hd=>by walk_at "dsp") λl5 us5 H5 s5 hl5 e5 r5=>?_
     ·intro z d HA Q1 sA rz hd q1
      obtain⟨b,_,rfl⟩:=List.mem_map.mp hd
      cases rz with|str _ _=>
      refine vr rfl (vr rfl (ixT (sA _ _ hpac) at1 ⟨rfl,vr rfl ?_⟩))
      rw[zZ]
      exact q1 HA (Same.refl _)
     rw[znv] at r5
     have eus:=zek r5
     subst eus
     have lf:=List.length_filter_le (λx=>!decide (x=m1)) t
     have hpac5:=s5 _ _ hpac
     refine vr rfl (ixT hpac5 at1 ⟨few rfl,λp6 hp6=>?_⟩)
     have S6:=Same.new (o:= .lst [V.str m1]) hp6
     refine vr rfl (ixT (S6 _ _ hpac5) at0 ⟨rfl, .inr (vr rfl (ex3 p6 _ _ ⟨rfl,rfl,zd,?_,?_,?_,λp7 hp7=>?_⟩))⟩)
     ·split<;>decide
     ·split<;>decide
     ·refine ξb (Nat.mul_le_mul_left _ (show _<=1 by split<;>decide)) (by show 1*1<=sizeLine;decide)
     have S7:=Same.new (o:= .lst (List.replicate (if decide (V.str w1=V.str "put")=true then(1:Int)else 0).toNat [V.str m1]).flatten) hp7
     have e7:=zd (H:=upd H5 p6 (.lst [V.str m1])) (a:=p7) (o:= .lst (List.replicate (if decide (V.str w1=V.str "put")=true then(1:Int)else 0).toNat [V.str m1]).flatten)
     have eb:(t.filter λx=>!decide (x=m1)).map V.str ++(List.replicate (if decide (V.str w1=V.str "put")=true then(1:Int)else 0).toNat [V.str m1]).flatten=(zaU t w1 m1).map V.str:=by
      unfold zaU
      rw[ξc,zZ]
      by_cases z:w1="put"
      ·rw[ζf z,if_pos rfl,if_pos z];rfl
      ·rw[ζo z,if_neg (by decide),if_neg z];rfl
     have lb:(List.replicate (if decide (V.str w1=V.str "put")=true then(1:Int)else 0).toNat [V.str m1]).flatten.length<=1:=by split<;>exact ζk rfl
     have S57:=S6.trans S7
     have e57:=S57 _ _ e5
     generalize (upd (upd H5 p6 (HO.lst [V.str m1])) p7 (HO.lst (List.replicate (if decide (V.str w1=V.str "put")=true then(1:Int)else 0).toNat [V.str m1]).flatten))=H7 at *
     refine ex4 l5 p7 _ _ ⟨rfl,rfl,e57,e7,ξi (zm (by rw[ζa];omega)),λp8 hp8=>?_⟩
     have S8:=Same.new (o:= .lst ((t.filter λx=>!decide (x=m1)).map V.str ++(List.replicate (if decide (V.str w1=V.str "put")=true then(1:Int)else 0).toNat [V.str m1]).flatten)) hp8
     have lbb:(zaU t w1 m1).length<64:=by
      have:=congrArg List.length eb
      rw[ζe,ζa,ζa] at this
      omega
     refine⟨p8,zaU t w1 m1,rfl, .inl (SqL.of (by rw[zd,eb])),lbb,λss l9 hp9 hs9 hl9=>?_⟩
     have es:=zke hp9 hs9
     refine⟨(ex4 l9 ss _ _ ⟨rfl,zd,by rw[es];exact MS.next i t w1 m1 cs Mt hr',by rw[es];exact he⟩),((((s3.trans s4).trans s5).trans S57).trans S8).trans (Same.new hl9)⟩
  ·rintro σ' H3 ⟨⟨ln,t,o6,o7,rfl,hln,Mt,he⟩,s3⟩
   rw[ru.1,List.drop_length,zA] at he
   exact vr rfl (ex2 ln _ ⟨rfl, .inl ⟨SqL.of hln,λp9 hp9=>q _ _ (by rw[he];exact⟨p9,rfl,zd⟩) ((s02.trans s3).trans (Same.new hp9))⟩⟩)
theorem zjn(Y:Ev K mg):FnOk P w K mg base CX0 5 Y.a__law_handed Y.d__law_handed zaV zgj:=(zfF Y).imp λ_ _ _ _ h=>zjC h
theorem zha(Y:Ev K mg):FnOk P w K mg base CX0 5 Y.a__law_worth Y.d__law_worth zbD zeU:=by
 have G__law_all_hold:FnOk P w K mg base CX0 4 Y.a__law_all_hold Y.d__law_all_hold zaN zhE:=zeT Y
 refine Y._law_worth.fn.okQ c__law_worth (λvs H Q E h=>?_) (λcdv A outer s H vs Q E hr h=>?_)
 ·obtain ⟨v,pw,pm,x,ws,ms,g,hs,ps,lks,hds,j,rs,rfl,_⟩:=h;rfl
 ·obtain ⟨v,pw,pm,x,ws,ms,g,hs,ps,lks,hds,j,rs,rfl,hv,T,hj,hlj,hpw,hpm,nw,nm,lw,lm,q⟩:=h
  obtain⟨p,pr,pt,pl,pa,vt,vl,va,rfl,hp,hpr,hpt,rt,hpl,rl,hpa,ra⟩:=zbN hv
  have T10:=T.ten
  have hlk:rs.length<=90/\∀r∈rs,zaF r=true:=by
   have h:=T.likes _ (ζl hlj)
   have h:(decide (rs.length<=90)&&rs.all zaF)=true:=h
   rw[ζt] at h
   exact⟨ζh h.1,List.all_eq_true.mp h.2⟩
  have hjl:j<hs.length:=by
   rcases ξa j hs.length with y|y
   ·exact y
   ·rw[ζi y] at hj;cases hj
  have hjk:j<lks.length:=by rw[T.ll];exact hjl
  have hjv:j<vl.length:=by rw[rl.1];exact hjk
  refine⟨_,(zj (zI 3 c__law_worth.nd (zt ix_list (zaI (src:=[none,none,some 1]) o__law_worth_1 rfl rfl (zjX Y.enumerate (zc (zt ix_tup (qv 0) zh) ze)) (λ_ _ _ _ _=>(zfa (K:=K) 2 rfl rfl (zx (zo 0 o__law_worth_1.nd) (zx (zo 1 o__law_worth_1.nd) za4)))) (λ_ _ _ _ _=>(zc6 (zH zay (qv 1) (zt (za6 (K:=K) rfl) (qc 2) zh)))) (λ_ _ _ _ _=>(qv 0))) zh))
   (zj (zbU 4 (src:=[none,none,some 2,some 1]) o__law_worth_2 rfl rfl c__law_worth.nd (zbZ (zt ix_tup (zt ix_tup (qv 0) zh) (qv 3))) (λ_ _ _ _ _=>(zfa (K:=K) 2 rfl rfl (zx (zo 0 o__law_worth_2.nd) (zx (zo 1 o__law_worth_2.nd) za4)))) (λ_ _ _ _ _=>(zc6 (zbp (zk G__law_all_hold (hr.mono (by decide)) Y._law_all_hold.mg Y._law_all_hold.kp Y._law_all_hold.b .nil zp (zc (qv 0) (zc (qc 3) (zc (qc 2) (zc zck ze)))))))) (λ_ _ _ _ _=>(qv 1)))
   (zn (zy (zt ix_list (zG zcd (qv 4) (zbs (zc zh ze))) zh))))),?_⟩
  refine vr rfl (ixT hp (zz (j:=1) rfl) (ex2 pr _ ⟨rfl, .inl (.inl hpr),?_⟩))
  refine zh7 (K:=K) (x:=x) (λσ'=>∃o0 o1,σ'=[o0,o1,some (.ref pw)]) (λH' s'=> .inl (.inl (s' _ _ hpr))) (by omega) (ex2 _ _ rfl) ?_ λl1 H1 s1 hl1 e1=>?_
  ·rintro T0 i y σ' HA A B ⟨o0,o1,rfl⟩ sA hT0 k
   refine ex2 T0 _ ⟨rfl, .inl (.inl hT0),rfl,ex2 _ _ ⟨rfl,ex2 _ _ ⟨rfl,rfl,vr rfl (vr rfl (ixT (sA _ _ hpw) at0 ⟨rfl,vr rfl ?_⟩))⟩⟩⟩
   have k:=k [some (.int (i:Int)),some (.str y),some (.ref pw)] ⟨_,_,rfl⟩
   rw[zZ]
   cases e:decide (y=x)with
   |false=>rw[e] at k;exact k
   |true=>rw[e] at k;exact⟨_,rfl,k⟩
  rw[ziP T.hs_nd hj _ hjl] at e1
  refine ixL e1 at0 ?_
  have hp1:=s1 _ _ hp
  have hpl1:=s1 _ _ hpl
  have rj:=(rl.2 j _ _ (ζd hjv) hlj).same s1
  obtain⟨pq,us,epq,hpq,ru,_⟩:=rj.ofT
  refine vr rfl (ixT hp1 (zz (j:=3) rfl) (vr rfl (ixT hpl1 (by rw[←epq];exact zz (by simp[hjv])) ⟨pq,rfl,⟨_, .inl (.inl hpq)⟩,?_⟩)))
  refine zjT (rs:=rs) (sel:=λr=>zcP (x::ws) ms none (zdw r)) (λσ'=>∃o0 o1,σ'=[o0,o1,some (.ref pm),some (.ref pw)]) (za0 (K:=K) (xs:=us)) (λH' s'=> .inl (.inl (s' _ _ hpq))) ru (by omega) (ex2 _ _ rfl) (λd hd=>by obtain⟨cs,t,e,_⟩:=zfe (hlk.2 d hd);exact⟨cs,t,e⟩) ?_ λl2 us2 H2 s2 hl2 e2 r2=>?_
  ·rintro q0 d v0 v1 σ' HA A B ⟨o0,o1,rfl⟩ sA hd hq0 r0 r1 k
   obtain⟨cs,t,rfl,c4,hcs,ht⟩:=zfe (hlk.2 d hd)
   refine ex2 q0 _ ⟨rfl, .inl (.inl hq0),rfl,ex2 _ _ ⟨rfl,ex2 _ _ ⟨rfl,rfl,?_⟩⟩⟩
   refine vr rfl (vr rfl (vr rfl (ex8 v0 cs pw pm (.non) (x::ws) ms none ⟨rfl,r0,hcs,sA _ _ (s1 _ _ hpw), .inl (sA _ _ (s1 _ _ hpm)), .inl ⟨rfl,rfl⟩,nw,nm,by simp,by simp;omega,lm,λHB sB=>(vr rfl ?_)⟩)))
   have k:=k [some v0,some v1,some (.ref pm),some (.ref pw)] HB ⟨_,_,rfl⟩ sB
   cases e:zcP (x::ws) ms none cs with
   |false=>
    have e':zcP (x::ws) ms none (zdw (.tup [.tup cs,t]))=false:=e
    rw[e'] at k
    exact k
   |true=>
    have e':zcP (x::ws) ms none (zdw (.tup [.tup cs,t]))=true:=e
    rw[e'] at k
    exact vr rfl k
  dsimp only[zaE]
  refine vr rfl ⟨few rfl,λpz hpz=>?_⟩
  have Sz:=Same.new (o:= .lst [V.int 0]) hpz
  have l2':=r2.1
  have lf:=List.length_filter_le (λr=>zcP (x::ws) ms none (zdw r)) rs
  rw[ζa] at l2'
  refine ex4 l2 pz _ _ ⟨rfl,rfl,Sz _ _ e2,zd,ξi (zm (by show _+1<=_;omega)),λpx hpx=>?_⟩
  have rA:RepL (upd (upd H2 pz (.lst [V.int 0])) px (.lst (us2 ++ [V.int 0]))) (us2 ++ [V.int 0]) ((rs.filter λr=>zcP (x::ws) ms none (zdw r)).map zcC ++ [.int 0]):=((r2.mono ((Mono.new hpz).trans (.new hpx))).append (.cons (.int 0) .nil))
  obtain⟨es,ees⟩:=zgv (ws:=x::ws) (ms:=ms) (rs:=rs)
  rw[ees] at rA
  obtain⟨u0,ur,eu⟩:∃u0 ur,us2 ++ [V.int 0]=u0::ur:=by
   cases us2 with
   |nil=>exact ⟨_,_,rfl⟩
   |cons a b=>exact ⟨_,_,rfl⟩
  rw[eu] at rA⊢
  refine ixL zd at0 ?_
  have S:=((s1.trans s2).trans Sz).trans (Same.new (o:= .lst (u0::ur)) hpx)
  exact q u0 _ rA.head.1 S
end
section
variable{P:Program}{w:World}{K:PySem.W.Frag}{mg:Str->Option Value}{base:Heap}
noncomputable def zpi:Sp:=λvs H Q _=>∃v d lo hi,vs=[v, .int lo, .int hi]/\Rep H v d/\∀H',Same H H'->Q (.bl (zam d lo hi)) H'
theorem zhy(Y:Ev K mg):FnOk P w K mg base CX0 2 Y.a_are_names Y.d_are_names zcD zpi:=by
 have G_is_row:FnOk P w K mg base CX0 1 Y.a_is_row Y.d_is_row zcL ziO:=zee Y
 have G_is_name:FnOk P w K mg base CX0 1 Y.a_is_name Y.d_is_name zc0 (ziS zaB):=zgz Y
 refine Y.are_names.fn.okQ zix (λvs H Q E h=>?_) (λcdv A outer s H vs Q E hr h=>?_)
 ·obtain ⟨v,d,lo,hi,rfl,_⟩:=h;rfl
 ·obtain ⟨v,d,lo,hi,rfl,hd,q⟩:=h
  refine⟨_,(zn (zy (ze5 (zk G_is_row (hr.mono (by decide)) Y.is_row.mg Y.is_row.kp Y.is_row.b .nil zp (zc (qv 0) (zc (qv 1) (zc (qv 2) ze)))) (zd2 (zq (zbA rfl) Y.all zdJ (zc (zaI (src:=[none]) o_are_names_1 rfl rfl (zbZ (qv 0)) (λ_ _ _ _ _=>(zo 0 o_are_names_1.nd)) (λ_ _ _ _ _=>zcR) (λ_ _ _ _ _=>(zk G_is_name (hr.mono (by decide)) Y.is_name.mg Y.is_name.kp Y.is_name.b .nil zp (zc (qv 0) ze)))) ze)))))),?_⟩
  refine vr rfl (vr rfl (vr rfl ⟨v,d,lo,hi,rfl,hd,λH1 s1=>(vr rfl ?_)⟩))
  cases e:zaW d lo hi with
  |false=>
   have q:=q H1 s1
   rw[show zam d lo hi=false by unfold zam;rw[e];rfl] at q
   exact zW (by decide) q
  |true=>
   cases d with
   |tup ds=>
    obtain⟨p,vs,rfl,hp,r,b⟩:=(hd.same s1).ofT
    refine zQ rfl (vr rfl ⟨p,rfl,⟨vs, .inl (.inl hp)⟩,?_⟩)
    refine zjh (g:=zaB) (ok:=λH=>SqT K H p vs) za0 (λH' s=> .inl (.inl (s _ _ hp))) r b rfl (λx d H2 Q1 s2 rx _ q1=>(vr rfl (ex2 x d ⟨rfl,rx,q1⟩))) (λl H2 s2 _ hl=>?_)
    refine ex2 l _ ⟨rfl,SqL.of hl,?_⟩
    rw[zbO]
    have q:=q H2 (s1.trans s2)
    rw[show zam (.tup ds) lo hi=ds.all zaB by unfold zam;rw[e];rfl] at q
    exact q
   |_=>cases e
noncomputable def zk5:Sp:=λvs H Q _=>∃(u v:V) (d:D) (g:Str) (hs:List Str) (ps:List (Str×Str)) (lks hds:List D),vs=[u,v]/\Rep H u (za5 g hs ps lks hds)/\TownOk g hs ps lks hds/\Rep H v d/\∀H',Same H H'->Q (.bl (zU hs ps d)) H'
theorem zld{hs:List Str}{ps:List (Str×Str)}{d:D}(h:zaW d 5 5=false):zU hs ps d=false:=by
 cases e:zU hs ps d with
 |false=>rfl
 |true=>obtain ⟨p,rfl,_⟩:=zez e;cases h
theorem zry{d:D}(h:zaW d 5 5=true):∃a b c e f,d= .tup [a,b,c,e,f]:=by
 cases d with
 |tup ds=>
  have h:(decide ((5:Int)<=(ds.length:Int))&&decide ((ds.length:Int)<=5))=true:=h
  rw[ζt,ζg,ζg] at h
  have hl:ds.length=5:=by omega
  match ds,hl with
  |[a,b,c,e,f],_=>exact ⟨a,b,c,e,f,rfl⟩
 |_=>cases h
theorem zm6{ms:List Str}:zhL (tD ms)=decide (ms=[]):=by cases ms<;>rfl
theorem ziN(Y:Ev K mg):FnOk P w K mg base CX0 3 Y.a_is_paper Y.d_is_paper zc3 zk5:=by
 have G_is_row:FnOk P w K mg base CX0 1 Y.a_is_row Y.d_is_row zcL ziO:=zee Y
 have G_is_house:FnOk P w K mg base CX0 2 Y.a_is_house Y.d_is_house zcp zhn:=zfu Y
 have G_tied:FnOk P w K mg base CX0 1 Y.a_tied Y.d_tied zfj zka:=zkl Y
 have G_is_number:FnOk P w K mg base CX0 1 Y.a_is_number Y.d_is_number zcE (ziS zeA):=zhR Y
 have G_are_names:FnOk P w K mg base CX0 2 Y.a_are_names Y.d_are_names zcD zpi:=zhy Y
 refine Y.is_paper.fn.okQ c_is_paper (λvs H Q E h=>?_) (λcdv A outer s H vs Q E hr h=>?_)
 ·obtain ⟨u,v,d,g,hs,ps,lks,hds,rfl,_⟩:=h;rfl
 ·obtain ⟨u,v,d,g,hs,ps,lks,hds,rfl,hu,T,hd,q⟩:=h
  obtain⟨p,pr,pt,pl,pa,vt,vl,va,rfl,hp,hpr,hpt,rt,hpl,rl,hpa,ra⟩:=zbN hu
  refine⟨_,(zj (zau (zbX (zbp (zk G_is_row (hr.mono (by decide)) Y.is_row.mg Y.is_row.kp Y.is_row.b .nil zp (zc (qv 1) (zc zh (zc zh ze)))))) (zn (zy zco)) zO)
   (zj (zdA (qv 1) (zc5 5 rfl (zx (zo 2 c_is_paper.nd) (zx (zo 3 c_is_paper.nd) (zx (zo 4 c_is_paper.nd) (zx (zo 5 c_is_paper.nd) (zx (zo 6 c_is_paper.nd) za4)))))))
   (zj (zau (t_w (zdT (zbX (zbp (zk G_is_house (hr.mono (by decide)) Y.is_house.mg Y.is_house.kp Y.is_house.b .nil zp (zc (zt ix_tup (qv 0) zh) (zc (qv 2) ze))))) (zdT (zbX (zbp (zk G_is_house (hr.mono (by decide)) Y.is_house.mg Y.is_house.kp Y.is_house.b .nil zp (zc (zt ix_tup (qv 0) zh) (zc (qv 3) ze))))) (zdS (zH zcV (qv 3) (zk G_tied (hr.mono (by decide)) Y.tied.mg Y.tied.kp Y.tied.b .nil zp (zc (qv 0) (zc (qv 2) ze)))))))) (zn (zy zco)) zO)
   (zj (zau (t_w (zdT (zbX (zbp (zk G_is_number (hr.mono (by decide)) Y.is_number.mg Y.is_number.kp Y.is_number.b .nil zp (zc (qv 4) ze)))) (zdT (zH ziz (qv 4) zh) (zdS (zbX (zbp (zk G_are_names (hr.mono (by decide)) Y.are_names.mg Y.are_names.kp Y.are_names.b .nil zp (zc (qv 6) (zc zh (zc (zfZ Y.m_MOST_MARKS Y.r_MOST_MARKS) ze)))))))))) (zn (zy zco)) zO)
   (zn (zy (zrz (zH zeH (qv 5) zck) (za2 (zfn (zeR hr)) (qv 6) (zv ze)) (zk G_are_names (hr.mono (by decide)) Y.are_names.mg Y.are_names.kp Y.are_names.b .nil zp (zc (qv 5) (zc zh (zc (zfZ Y.m_LONGEST_WAY Y.r_LONGEST_WAY) ze))))))))))),?_⟩
  refine vr rfl (ex4 v d 5 5 ⟨rfl,hd,λH1 s1=>(vr rfl ?_)⟩)
  cases e5:zaW d 5 5 with
  |false=>
   have q:=q H1 s1
   rw[zld e5] at q
   exact zQ rfl q
  |true=>
   obtain⟨d1,d2,d3,d4,d5,rfl⟩:=zry e5
   obtain⟨pd,x1,x2,x3,x4,x5,rfl,hpd,r1,r2,r3,r4,r5⟩:=zf9 (hd.same s1)
   refine zW rfl (vr rfl (ex2 pd _ ⟨rfl, .inl (.inl hpd),rfl,ex2 _ _ ⟨rfl,ex2 _ _ ⟨rfl,ex2 _ _ ⟨rfl,ex2 _ _ ⟨rfl,ex2 _ _ ⟨rfl,rfl,?_⟩⟩⟩⟩⟩⟩))
   have hp1:=s1 _ _ hp
   have HsA:HsAt H1 (.ref pr) hs:=⟨pr,rfl,s1 _ _ hpr,T.ten,T.names⟩
   have eq0:zU hs ps (.tup [d1,d2,d3,d4,d5])=((zL hs d1&&(zL hs d2&&zgR ps d1 d2))&&((zeA d3&&(znJ d3&&zam d5 0 90))&&(if zaw d4=true then zhL d5 else zam d4 1 10))):=rfl
   rw[eq0] at q
   refine vr rfl (ixT hp1 (zz (j:=1) rfl) (vr rfl (ex4 _ x1 d1 hs ⟨rfl,HsA,r1,λH2 s2=>(vr rfl ?_)⟩)))
   cases e1:zL hs d1 with
   |false=>
    have q:=q H2 (s1.trans s2)
    rw[e1] at q
    exact zQ rfl (zQ rfl q)
   |true=>
   rw[e1] at q
   obtain⟨y1,rfl,hy1⟩:=zcw e1
   cases r1 with|str _ _=>
   refine zW rfl (vr rfl (ixT (s2 _ _ hp1) (zz (j:=1) rfl) (vr rfl (ex4 _ x2 d2 hs ⟨rfl,HsA.same s2,r2.same s2,λH3 s3=>(vr rfl ?_)⟩))))
   have s03:=(s1.trans s2).trans s3
   have s13:=s2.trans s3
   cases e2:zL hs d2 with
   |false=>
    have q:=q H3 s03
    rw[e2] at q
    exact zQ rfl (zQ rfl q)
   |true=>
   rw[e2] at q
   obtain⟨y2,rfl,hy2⟩:=zcw e2
   cases r2 with|str _ _=>
   refine zW rfl (vr rfl (vr rfl (vr rfl (ex4 _ _ g hs (ex3 ps lks hds ⟨rfl,hu.same s03,T,λl8 ts H8 hl8 e8 hp8 hs8 s8=>?_⟩)))))
   refine⟨l8,_,rfl, .inl (SqL.of e8),rfl,zbW,_,rfl,?_⟩
   have s08:=s03.trans s8
   have s18:=s13.trans s8
   have hin:(if true=true then !inV (V.str y2) (ts.map V.str)else inV (V.str y2) (ts.map V.str))=!zgR ps (.str y1) (.str y2):=by
    rw[if_pos rfl,zdh]
    congr 1
    show _=decide (y2∈zan ps y1)
    rw[ξf,ζg,←hp8.mem_iff,List.any_eq_true]
    exact⟨λ⟨y,hy,e⟩=>by rw[←ζh e];exact hy,λh=>⟨_,h,ζf rfl⟩⟩
   rw[hin]
   cases e3:zgR ps (.str y1) (.str y2)with
   |false=>
    have q:=q H8 s08
    rw[e3] at q
    exact zQ rfl q
   |true=>
   rw[e3] at q
   refine zW rfl ?_
   have r38:=r3.same s18
   refine vr rfl (ex2 _ d3 ⟨rfl,r38,λH9 s9=>(vr rfl ?_)⟩)
   have s09:=s08.trans s9
   have s19:=s18.trans s9
   cases e4:zeA d3 with
   |false=>
    have q:=q H9 s09
    rw[e4] at q
    exact zQ rfl (zQ rfl q)
   |true=>
   rw[e4] at q
   cases d3 with
   |int i=>
    cases r3 with|int _=>
    refine zW rfl (vr rfl (ex2 _ _ ⟨rfl,rfl,vr rfl ?_⟩))
    have ep:znJ (.int i)=!decide (i<1):=rfl
    cases e6:decide (i<1)with
    |true=>
     have q:=q H9 s09
     rw[ep,e6] at q
     exact zQ rfl (zQ rfl q)
    |false=>
    rw[ep,e6] at q
    refine zW (by decide) (vr rfl (ex4 _ d5 0 90 ⟨rfl,r5.same s19,λHA sA=>(vr rfl ?_)⟩))
    have s0A:=s09.trans sA
    have s1A:=s19.trans sA
    cases e7:zam d5 0 90 with
    |false=>
     have q:=q HA s0A
     rw[e7] at q
     exact zQ rfl q
    |true=>
    rw[e7] at q
    refine zW rfl (vr rfl ⟨rfl,vr rfl ?_⟩)
    have r4A:=r4.same s1A
    rw[zdm r4A]
    cases e8':zaw d4 with
    |true=>
     rw[e8',if_pos rfl] at q
     obtain⟨ms,rfl,m1,m2,m3⟩:=zew e7
     obtain⟨p5,rfl,hp5⟩:=zax r5
     refine zQ rfl (vr rfl ⟨few rfl,λpe hpe=>?_⟩)
     have Se:=Same.new (o:= .tup []) hpe
     refine⟨_,_,zaK (xs:=ms) (Se _ _ (s1A _ _ hp5)) (λx hx=>zD (m3 x hx)),zaK (xs:=[]) zd (λ_ z=>nomatch z),ξb (Nat.min_le_left _ _) zai,?_⟩
     rw[zbB,←zm6]
     exact q _ (s0A.trans Se)
    |false=>
     rw[e8',if_neg (by decide)] at q
     exact zW (by decide) (vr rfl (ex4 _ d4 1 10 ⟨rfl,r4A,λHB sB=>q HB (s0A.trans sB)⟩))
   |_=>cases e4
noncomputable def zjg:Sp:=λvs H Q _=>∃(u v:V) (d:D) (g:Str) (hs:List Str) (ps:List (Str×Str)) (lks hds:List D),vs=[u,v]/\Rep H u (za5 g hs ps lks hds)/\TownOk g hs ps lks hds/\Rep H v d/\∀H',Same H H'->Q (.bl (zbg hs ps d)) H'
theorem zlO{hs:List Str}{ps:List (Str×Str)}{p x:D}:zbg hs ps (.tup [p,x])=(zU hs ps p&&(zaW x 0 10&&zjv (zU hs ps) x)):=by
 cases x with
 |tup qs=>
  show(zU hs ps p&&(decide (qs.length<=10)&&qs.all (zU hs ps)))=(zU hs ps p&&((decide ((0:Int)<=(qs.length:Int))&&decide ((qs.length:Int)<=10))&&qs.all (zU hs ps)))
  rw[ζf (show(0:Int)<=(qs.length:Int) by omega),Bool.true_and]
  congr 2
  rw[ξf,ζg,ζg]
  omega
 |_=>show false=(zU hs ps p&&_);cases zU hs ps p<;>rfl
theorem zjs{hs:List Str}{ps:List (Str×Str)}{d:D}(h:zaW d 2 2=false):zbg hs ps d=false:=by
 cases e:zbg hs ps d with
 |false=>rfl
 |true=>obtain ⟨f,qs,rfl,_⟩:=zfv e;cases h
theorem zrD{d:D}(h:zaW d 2 2=true):∃a b,d= .tup [a,b]:=by
 cases d with
 |tup ds=>
  have h:(decide ((2:Int)<=(ds.length:Int))&&decide ((ds.length:Int)<=2))=true:=h
  rw[ζt,ζg,ζg] at h
  have hl:ds.length=2:=by omega
  match ds,hl with
  |[a,b],_=>exact ⟨a,b,rfl⟩
 |_=>cases h
theorem zhx(Y:Ev K mg):FnOk P w K mg base CX0 4 Y.a_is_sealed Y.d_is_sealed zcI zjg:=by
 have G_is_row:FnOk P w K mg base CX0 1 Y.a_is_row Y.d_is_row zcL ziO:=zee Y
 have G_is_paper:FnOk P w K mg base CX0 3 Y.a_is_paper Y.d_is_paper zc3 zk5:=ziN Y
 refine Y.is_sealed.fn.okQ zim (λvs H Q E h=>?_) (λcdv A outer s H vs Q E hr h=>?_)
 ·obtain ⟨u,v,d,g,hs,ps,lks,hds,rfl,_⟩:=h;rfl
 ·obtain ⟨u,v,d,g,hs,ps,lks,hds,rfl,hu,T,hd,q⟩:=h
  refine⟨_,(zj (zau (t_w (zdT (zbX (zbp (zk G_is_row (hr.mono (by decide)) Y.is_row.mg Y.is_row.kp Y.is_row.b .nil zp (zc (qv 1) (zc zh (zc zh ze)))))) (zdS (zbX (zbp (zk G_is_paper (hr.mono (by decide)) Y.is_paper.mg Y.is_paper.kp Y.is_paper.b .nil zp (zc (qc 0) (zc (zt ix_tup (qv 1) zh) ze)))))))) (zn (zy zco)) zO)
   (zn (zy (ze5 (zk G_is_row (hr.mono (by decide)) Y.is_row.mg Y.is_row.kp Y.is_row.b .nil zp (zc (zt ix_tup (qv 1) zh) (zc zh (zc (zfZ Y.m_MOST_PAPERS Y.r_MOST_PAPERS) ze)))) (zd2 (zq (zbA rfl) Y.all zdJ (zc (zaI (src:=[none,some 0]) o_is_sealed_1 rfl rfl (zbZ (zt ix_tup (qv 1) zh)) (λ_ _ _ _ _=>(zo 0 o_is_sealed_1.nd)) (λ_ _ _ _ _=>zcR) (λ_ _ _ _ _=>(zk G_is_paper (hr.mono (by decide)) Y.is_paper.mg Y.is_paper.kp Y.is_paper.b .nil zp (zc (qc 1) (zc (qv 0) ze))))) ze))))))),?_⟩
  refine vr rfl (ex4 v d 2 2 ⟨rfl,hd,λH1 s1=>(vr rfl ?_)⟩)
  cases e2:zaW d 2 2 with
  |false=>
   have q:=q H1 s1
   rw[zjs e2] at q
   exact zQ rfl (zQ rfl q)
  |true=>
  obtain⟨d1,d2,rfl⟩:=zrD e2
  rw[zlO] at q
  obtain⟨pd,x1,x2,rfl,hpd,r1,r2⟩:=(hd.same s1).of2
  refine zW rfl (vr rfl (vr rfl (ixT hpd at0 (ex8 u x1 d1 g hs ps lks hds ⟨rfl,hu.same s1,T,r1,λH2 s2=>(vr rfl ?_)⟩))))
  cases e3:zU hs ps d1 with
  |false=>
   have q:=q H2 (s1.trans s2)
   rw[e3] at q
   exact zQ rfl q
  |true=>
  rw[e3] at q
  refine zW rfl (vr rfl (ixT (s2 _ _ hpd) at1 (ex4 x2 d2 0 10 ⟨rfl,r2.same s2,λH3 s3=>(vr rfl ?_)⟩)))
  have s03:=(s1.trans s2).trans s3
  cases e4:zaW d2 0 10 with
  |false=>
   have q:=q H3 s03
   rw[e4] at q
   exact zW (by decide) q
  |true=>
  rw[e4] at q
  cases d2 with
  |tup ds=>
   obtain⟨p2,vs,rfl,hp2,r,b⟩:=((r2.same s2).same s3).ofT
   refine zQ rfl (vr rfl (ixT (s3 _ _ (s2 _ _ hpd)) at1 ⟨p2,rfl,⟨vs, .inl (.inl hp2)⟩,?_⟩))
   refine zcS (g:=zU hs ps) (σr:=[some u]) (za0 (K:=K)) (λH' s=> .inl (.inl (s _ _ hp2))) r b rfl (λx d HA Q1 sA rx hd q1=>(vr rfl (vr rfl (ex8 u x d g hs ps lks hds ⟨rfl,hu.same (s03.trans sA),T,rx,q1⟩)))) (λl4 H4 s4 _ hl4=>?_)
   refine ex2 l4 _ ⟨rfl,SqL.of hl4,?_⟩
   rw[zbO]
   exact q H4 (s03.trans s4)
  |_=>cases e4
end
section
variable{P:Program}{w:World}{K:PySem.W.Frag}{mg:Str->Option Value}{base:Heap}
theorem zav{K:PySem.W.Frag}{a:Addr}{xs:List V}{lo hi:Option Int}{H:Hp}{Q:VK}(h:H a=some (.tup xs))(k:∀p H',H' p=some (.tup (zaY xs lo hi))->Same H H'->Q (.ref p) H'):ze3 K (.ref a) lo hi H Q:=
 ⟨a,xs,rfl, .inl (.inl h),λz=>k a H (by rw[z];exact h) (Same.refl _),λp hp=>k p _ zd (Same.new hp)⟩
theorem zak{K:PySem.W.Frag}{a b:Addr}{xs ys:List V}{H:Hp}{Q:VK}(ha:H a=some (.tup xs))(hb:H b=some (.tup ys))(hl:xs.length+ys.length<=1000)(k:∀p H',H' p=some (.tup (xs ++ys))->Same H H'->Q (.ref p) H'):zkW K (.ref a) (.ref b) H Q:=
 ⟨a,b,xs,ys,rfl,rfl, .inl (.inl ha), .inl (.inl hb),ξi (zm hl),λz=>k b H (by rw[z];exact hb) (Same.refl _),λ_ z=>k a H (by rw[z,List.append_nil];exact ha) (Same.refl _),λ_ _ p hp=>k p _ zd (Same.new hp)⟩
noncomputable def zgI:D->Bool| .tup ds=>decide (ds.length<=12)|_=>false
theorem zm3{d:D}(h:zhD d=true):zgI d=true:=by
 cases d with
 |tup ds=>exact ζf (ξb (ζh (show decide (ds.length<=3)=true from h)) (by decide))
 |_=>cases h
theorem zo5{g:Str}{hs:List Str}{ps:List (Str×Str)}{lks hds:List D}(T:TownOk g hs ps lks hds)(hf:∀d∈hds,zgI d=true){x:Str}(h:x∈hs):∃(j:Nat) (rs:List D),hs[j]?=some x/\hds[j]?=some (.tup rs)/\zaa hs hds x=rs/\zgk rs/\rs.length<=12:=by
 obtain⟨j,d,e1,e2,hm⟩:=znd T h
 obtain⟨rs,rfl,hk⟩:=zgA (T.hands d hm)
 exact⟨j,rs,e1,e2,zfV T.hs_nd e1 e2,hk,ζh (show decide (rs.length<=12)=true from hf _ hm)⟩
noncomputable def zqY:Sp:=λvs H Q _=>∃(u v:V) (pm:Addr) (p:Pp) (x:Str) (ws ms:List Str) (g:Str) (hs:List Str) (ps:List (Str×Str)) (lks hds:List D),vs=[u,v, .ref pm]/\Rep H u (za5 g hs ps lks hds)/\TownOk g hs ps lks hds/\(∀d∈hds,zgI d=true)/\Rep H v (ppD p)/\p.way=some (x::ws)/\(∀y∈x::ws,y∈hs)/\ws.length<=9/\p.to∈hs/\(∀y∈p.marks,zi y=true)/\H pm=some (.tup (ms.map V.str))/\(∀y∈ms,zi y=true)/\ms.length<=40/\∀H',Same H H'->Q (.bl (soB hs lks hds p ms)) H'
theorem zmq{g:Str}{hs:List Str}{ps:List (Str×Str)}{lks hds:List D}(T:TownOk g hs ps lks hds){x:Str}(h:x∈hs):∃(j:Nat) (rs:List D),hs[j]?=some x/\lks[j]?=some (.tup rs)/\zaa hs lks x=rs:=by
 obtain⟨j,rs,e1,e2,_⟩:=zpO T h
 exact⟨j,rs,e1,e2,zfV T.hs_nd e1 e2⟩
theorem zo9{g:Str}{hs:List Str}{ps:List (Str×Str)}{lks hds:List D}{O:List Str}(T:TownOk g hs ps lks hds)(PO:Pool hs lks hds O){x:Str}(h:x∈hs):∃(j:Nat) (rs:List D),hs[j]?=some x/\hds[j]?=some (.tup rs)/\zaa hs hds x=rs/\zdI O rs:=by
 obtain⟨j,d,e1,e2,hm⟩:=znd T h
 obtain⟨rs,rfl,hk⟩:=zlp (T.hands d hm) (PO.hd d hm)
 exact⟨j,rs,e1,e2,zfV T.hs_nd e1 e2,hk⟩
theorem zfk(Y:Ev K mg):FnOk P w K mg base CX0 6 Y.a_was_handed_so Y.d_was_handed_so zbd zqY:=by
 have G_worth:FnOk P w K mg base CX0 5 Y.a_worth Y.d_worth zeL zeU:=zmf Y
 have G_handed:FnOk P w K mg base CX0 5 Y.a_handed Y.d_handed zd8 zcZ:=zj3 Y
 refine Y.was_handed_so.fn.okQ c_was_handed_so (λvs H Q E h=>?_) (λcdv A outer s H vs Q E hr h=>?_)
 ·obtain ⟨u,v,pm,p,x,ws,ms,g,hs,ps,lks,hds,rfl,_⟩:=h;rfl
 ·obtain ⟨u,v,pm,p,x,ws,ms,g,hs,ps,lks,hds,rfl,hu,T,hf12,hv,ew,hw,lw,hto,hmk,hpm,Mn0,l40,q⟩:=h
  obtain⟨pd,x1,x2,x3,x4,x5,rfl,hpd,r1,r2,r3,r4,r5⟩:=zf9 hv
  cases r1 with|str _ _=>
  cases r2 with|str _ _=>
  rw[ew] at r4
  obtain⟨pw,rfl,hpw⟩:=zax r4
  obtain⟨p5,rfl,hp5⟩:=zax r5
  obtain⟨j,rs,hj,hdj,er,hk,rs12⟩:=zo5 T hf12 (hw x ζp)
  obtain⟨j2,rs2,hj2,hlj2,er2⟩:=zmq T (hw x ζp)
  have hn:∀y∈x::ws,zi y=true:=λy hy=>T.names y (hw y hy)
  have eq0:soB hs lks hds p ms=(!(decide (1<(x::ws).length)&&zaw (zS (x::ws) ms rs2))&&decide (zA (x::ws) (some p.to) rs ms=some p.marks)):=by
   unfold soB
   rw[ew]
   show(!(decide (1<(x::ws).length)&&zaw (zS (x::ws) ms (zaa hs lks x)))&&decide (zA (x::ws) (some p.to) (zaa hs hds x) ms=some p.marks))=_
   rw[er,er2]
  rw[eq0] at q
  have last:∀(H1:Hp),Same H H1->(!(decide (1<(x::ws).length)&&zaw (zS (x::ws) ms rs2)))=true->zpP (tOp zqO (zmD zcZ [] E0 (zfA (zb8 0) (zfA (zb8 6) (zfA (zb8 2) (zfA (zb8 4) zmw))))) (zb8 7)) {nx:=λ_ H'=>Q .non H',rt:=Q} [some u,some (.ref pd),some (.ref pm),some (.str p.one),some (.str p.to),some x3,some (.ref pw),some (.ref p5)] H1:=by
   intro H1 s1 hb
   rw[hb] at q
   refine vr rfl (vr rfl (vr rfl (vr rfl (ex8 u pw pm (.str p.to) x ws ms (some p.to) (ex8 g hs ps lks hds j rs (Mn 40) ⟨rfl,hu.same s1,T,hj,hdj,hk,zm1 hk (by omega),⟨Mn0,l40⟩,s1 _ _ hpw,s1 _ _ hpm, .inr (vr rfl ⟨rfl,T.names _ hto⟩),hn,by omega,λv2 H2 tv s2=>?_⟩)))))
   have hp52:=(s1.trans s2) _ _ hp5
   have q:=q H2 (s1.trans s2)
   cases e:zA (x::ws) (some p.to) rs ms with
   |none=>
    rw[e] at tv q
    cases(show v2= .non from tv)
    refine vr rfl ⟨_,_,Tr.non,zaK (xs:=p.marks) hp52 (λy hy=>zD (hmk y hy)),ξb (Nat.min_le_right _ _) zai,?_⟩
    exact q
   |some t=>
    rw[e] at tv q
    obtain⟨pt,rfl,hpt⟩:=tv
    have hm:∀y∈t,zi y=true:=zcT hk.2 Mn0 e
    refine vr rfl ⟨_,_,zaK (xs:=t) hpt (λy hy=>zD (hm y hy)),zaK (xs:=p.marks) hp52 (λy hy=>zD (hmk y hy)),ξb (Nat.min_le_right _ _) zai,?_⟩
    rw[zbB]
    have eb:decide (some t=some p.marks)=decide (t=p.marks):=by rw[ξf,ζg,ζg,Option.some.injEq]
    rw[eb] at q
    exact q
  refine⟨_,(zj (zdA (qv 1) (zc5 5 rfl (zx (zo 3 c_was_handed_so.nd) (zx (zo 4 c_was_handed_so.nd) (zx (zo 5 c_was_handed_so.nd) (zx (zo 6 c_was_handed_so.nd) (zx (zo 7 c_was_handed_so.nd) za4)))))))
   (zj (zau (t_w (zkH (zH zes (zq zE Y.len zaj (zc (qv 6) ze)) zh) (zh5 (zH zeH (zk G_worth (hr.mono (by decide)) Y.worth.mg Y.worth.kp Y.worth.b .nil zp (zc (qv 0) (zc (qv 6) (zc (qv 2) ze)))) zck)))) (zn (zy zco)) zO)
   (zn (zy (za2 (zfn (zeR hr)) (zk G_handed (hr.mono (by decide)) Y.handed.mg Y.handed.kp Y.handed.b .nil zp (zc (qv 0) (zc (qv 6) (zc (qv 2) (zc (qv 4) ze))))) (qv 7)))))),?_⟩
  refine vr rfl (ex2 pd _ ⟨rfl, .inl (.inl hpd),rfl,ex2 _ _ ⟨rfl,ex2 _ _ ⟨rfl,ex2 _ _ ⟨rfl,ex2 _ _ ⟨rfl,ex2 _ _ ⟨rfl,rfl,?_⟩⟩⟩⟩⟩⟩)
  refine vr rfl (.inl (ex2 pw _ ⟨rfl, .inr (.inl (.inl hpw)),ex2 _ _ ⟨rfl,rfl,vr rfl ?_⟩⟩))
  rw[ζa]
  by_cases h1:1<(x::ws).length
  ·refine zQ (ζf (by omega)) (vr rfl (vr rfl (vr rfl (ex8 u pw pm x ws ms g hs (ex4 ps lks hds j2 ⟨rs2,rfl,hu,T,hj2,hlj2,hpw,hpm,hn,Mn0,by omega,ξb l40 (by decide),λv2 H2 rv s2=>⟨rfl,vr rfl ?_⟩⟩)))))
   rw[zdm rv]
   cases eb:zaw (zS (x::ws) ms rs2)with
   |true=>
    have q:=q H2 s2
    rw[ζf h1,eb] at q
    exact zQ rfl q
   |false=>exact zW (by decide) (last H2 s2 (by rw[eb,Bool.and_false];rfl))
  ·exact zW (by rw[ζo (by omega)]) (zW (by decide) (last H (Same.refl H) (by rw[ζo h1];rfl)))
end
section
variable{P:Program}{w:World}{K:PySem.W.Frag}{mg:Str->Option Value}{base:Heap}
theorem zeg{w:List Str}{i:Nat}(h:i<w.length):atI (w.map V.str) (i:Int)=some (.str (w.getD i "")):=zz (by rw[ζq,ζd h];simp only[List.getD,ζd h];rfl)
theorem zpV{g:Str}{hs:List Str}{ps:List (Str×Str)}{w:List Str}(h:zbF g hs ps (tD w)=true):(∀x∈w,x∈hs)/\1<=w.length/\w.length<=hs.length:=by
 unfold zbF at h
 rw[ζt,ζt] at h
 obtain⟨ds,e,l1,l2⟩:=zno h.1.1
 have e:D.tup (w.map D.str)= .tup ds:=e
 cases e
 rw[ζa] at l1 l2
 refine⟨λx hx=>?_,l1,l2⟩
 have hb:=List.all_eq_true.mp (show(w.map D.str).all (zL hs)=true from h.1.2) (.str x) (List.mem_map.mpr ⟨x,hx,rfl⟩)
 obtain⟨y,ey,hy⟩:=zcw hb
 cases ey
 exact hy
theorem ziF{xs:List Str}(h:∀x∈xs,zi x=true):okD (tD xs)=true:=by
 show okD (.tup (xs.map D.str))=true
 rw[okD]
 refine zgs λd hd=>?_
 obtain⟨x,hx,rfl⟩:=List.mem_map.mp hd
 rw[okD]
 exact zD (h x hx)
theorem zj8{hs:List Str}{ps:List (Str×Str)}(hn:∀x∈hs,zi x=true){p:Pp}(h:PpOk hs ps p):okD (ppD p)=true:=by
 show okD (.tup [.str p.one, .str p.to, .int p.nr,wyD p.way,tD p.marks])=true
 rw[okD,okL,okL,okL,okL,okL,okL,okD,okD,okD,ziF h.mnm,zD (hn _ h.one),zD (hn _ h.to)]
 have:okD (wyD p.way)=true:=by
  cases e:p.way with
  |none=>show okD .non=true;rw[okD]
  |some w=>exact ziF (h.way w e).2.2
 rw[this];rfl
theorem zmb{w:List Str}{qs:List Pp}{n:Nat}{q:Pp}(h:qs[n]?=some q):zdR w qs (n+1)=(zdR w qs n&&zfh w q n):=by
 unfold zdR
 rw[List.range_succ,List.all_append]
 simp[h]
theorem zmz{w:List Str}{qs:List Pp}{n:Nat}{q:Pp}(h:qs[n]?=some q)(e:zfh w q n=false):zdR w qs qs.length=false:=by
 have hn:n<qs.length:=by
  rcases ξa n qs.length with z|z
  ·exact z
  ·rw[ζi z] at h;cases h
 unfold zdR
 rw[List.all_eq_false]
 exact⟨n,List.mem_range.mpr hn,by rw[h];show¬zfh w q n=true;rw[e];decide⟩
theorem zo2{w:List Str}{qs:List Pp}(h:zdR w qs qs.length=true){n:Nat}{q:Pp}(e:qs[n]?=some q):q.way=some (w.drop (n+1)):=by
 have hn:n<qs.length:=by
  rcases ξa n qs.length with z|z
  ·exact z
  ·rw[ζi z] at e;cases e
 have h:=List.all_eq_true.mp h n (List.mem_range.mpr hn)
 rw[e] at h
 have h:zfh w q n=true:=h
 unfold zfh at h
 rw[ζt] at h
 exact ζh h.2
theorem ziK{α β:Type}{f:α->β}{l:List α}{i:Nat}{x:α}(h:l[i]?=some x):((l.take (i+1)).map f)=((l.take i).map f)++ [f x]:=by
 rw[List.take_add_one,h,ξc];rfl
theorem znq{H:Hp}{ys:List V}{ls:List (List Str)}{l p:Addr}{m:List Str}(T:zd9 H ys ls)(hl:H l=some (.lst ys))(hp:H p=some (.tup (m.map V.str))):zd9 (upd H l (.lst (ys ++ [.ref p]))) (ys ++ [.ref p]) (ls ++ [m]):=by
 refine⟨by rw[ζe,ζe,T.1];rfl,λj v q e1 e2=>?_⟩
 have upl:∀{b o},H b=some (.tup o)->(upd H l (.lst (ys ++ [.ref p]))) b=some (.tup o):=λ{b o} h=>by rw[zr (λz=>by rw[z,hl] at h;cases h)];exact h
 rcases ξa j ys.length with hj|hj
 ·rw[List.getElem?_append_left hj] at e1
  rw[List.getElem?_append_left (by rw[←T.1];exact hj)] at e2
  obtain⟨b,rfl,hb⟩:=T.2 j v q e1 e2
  exact⟨b,rfl,upl hb⟩
 ·have ej:j=ys.length:=by
   rcases ξa j (ys ++ [V.ref p]).length with z|z
   ·rw[ζe,ξd] at z;omega
   ·rw[ζi z] at e1;cases e1
  subst ej
  rw[List.getElem?_append_right (ζu _),Nat.sub_self] at e1
  rw[List.getElem?_append_right (by rw[T.1];exact ζu _),T.1,Nat.sub_self] at e2
  cases e1
  cases e2
  exact⟨p,rfl,upl hp⟩
theorem zgx{H H':Hp}{vs:List V}{ls:List (List Str)}(t:zd9 H vs ls)(s:Same H H'):zd9 H' vs ls:=⟨t.1,λi v q e1 e2=>let ⟨b,e,hb⟩:=t.2 i v q e1 e2;⟨b,e,s _ _ hb⟩⟩
theorem zlR{H:Hp}{ys:List V}{ls:List (List Str)}{p:Addr}{m:List Str}(T:zd9 H ys ls)(hp:H p=some (.tup (m.map V.str))):zd9 H (ys ++ [.ref p]) (ls ++ [m]):=by
 refine⟨by rw[ζe,ζe,T.1];rfl,λj v q e1 e2=>?_⟩
 rcases ξa j ys.length with hj|hj
 ·rw[List.getElem?_append_left hj] at e1
  rw[List.getElem?_append_left (by rw[←T.1];exact hj)] at e2
  exact T.2 j v q e1 e2
 ·have ej:j=ys.length:=by
   rcases ξa j (ys ++ [V.ref p]).length with z|z
   ·rw[ζe,ξd] at z;omega
   ·rw[ζi z] at e1;cases e1
  subst ej
  rw[List.getElem?_append_right (ζu _),Nat.sub_self] at e1
  rw[List.getElem?_append_right (by rw[T.1];exact ζu _),T.1,Nat.sub_self] at e2
  cases e1
  cases e2
  exact⟨p,rfl,hp⟩
noncomputable def zkL:Sp:=λvs H Q _=>∃(u v:V) (d:D) (g:Str) (hs:List Str) (ps:List (Str×Str)) (lks hds:List D),vs=[u,v]/\Rep H u (za5 g hs ps lks hds)/\TownOk g hs ps lks hds/\(∀d∈hds,zgI d=true)/\Rep H v d/\(∀f qs,d=zcf f qs->∀p∈f::qs,p.marks.length<=40)/\
 ∀(b:Bool) (H':Hp),(zbg hs ps d=false->b=false)->(∀f qs,d=zcf f qs->zbg hs ps d=true->b=zeE g hs ps lks hds f qs)->Same H H'->Q (.bl b) H'
theorem zih(Y:Ev K mg):FnOk P w K mg base CX0 7 Y.a_is_right Y.d_is_right zdd zkL:=by
 have G_is_sealed:FnOk P w K mg base CX0 4 Y.a_is_sealed Y.d_is_sealed zcI zjg:=zhx Y
 have G_is_way:FnOk P w K mg base CX0 3 Y.a_is_way Y.d_is_way zec zo6:=zlm Y
 have G_was_handed_so:FnOk P w K mg base CX0 6 Y.a_was_handed_so Y.d_was_handed_so zbd zqY:=zfk Y
 refine Y.is_right.fn.okQ c_is_right (λvs H Q E h=>?_) (λcdv A outer s H vs Q E hr h=>?_)
 ·obtain ⟨u,v,d,g,hs,ps,lks,hds,rfl,_⟩:=h;rfl
 ·obtain ⟨u,v,d,g,hs,ps,lks,hds,rfl,hu,T,hf12,hd,hmk,q⟩:=h
  have T10:=T.ten
  refine⟨_,(zj (zau (zbX (zbp (zk G_is_sealed (hr.mono (by decide)) Y.is_sealed.mg Y.is_sealed.kp Y.is_sealed.b .nil zp (zc (qc 0) (zc (qv 1) ze))))) (zn (zy zco)) zO)
   (zj (zdA (qv 1) (zc5 2 rfl (zx (zo 2 c_is_right.nd) (zx (zo 3 c_is_right.nd) za4))))
   (zj (zI 4 c_is_right.nd (zt ix_tup (qv 2) zh))
   (zj (zau (zH zeH (qv 4) zck) (zn (zy (za2 (zfn (zeR hr)) (qv 3) (zv ze)))) zO)
   (zj (zau (t_w (zdT (zbX (zbp (zk G_is_way (hr.mono (by decide)) Y.is_way.mg Y.is_way.kp Y.is_way.b .nil zp (zc (qc 0) (zc (qv 4) ze))))) (zdT (zH zeP (zt ix_tup (qv 4) zh) (zt ix_tup (qv 2) zh)) (zdS (zH zeP (zq zE Y.len zaj (zc (qv 3) ze)) (zG zdP (zq zE Y.len zaj (zc (qv 4) ze)) zh)))))) (zn (zy zco)) zO)
   (zj (zcJ PassesOwn.never rfl (zjX Y.enumerate (zc (qv 3) ze)) (zc5 2 rfl (zx (zo 5 c_is_right.nd) (zx (zo 6 c_is_right.nd) za4))) (zn (zau (t_w (zdT (zH (zfd (zeR hr)) (zbL zR (qv 6) zae (zV zh)) (zv (zc (zt ix_tup (qv 4) (zG zat (qv 5) zh)) (zc (zt ix_tup (qv 4) (qv 5)) ze)))) (zdS (zH (zfd (zeR hr)) (zt ix_tup (qv 6) zh) (zbL zR (qv 4) (zV (zG zat (qv 5) zh)) zae))))) (zn (zy zco)) zO)))
   (zj (zI 7 c_is_right.nd (zG zcd (zaI (src:=[none]) o_is_right_1 rfl rfl (zbZ (qv 3)) (λ_ _ _ _ _=>(zo 0 o_is_right_1.nd)) (λ_ _ _ _ _=>zcR) (λ_ _ _ _ _=>(zt (za6 (K:=K) rfl) (qv 0) zh))) (zbs (zc (zv ze) ze))))
   (zn (zy (zq (zbA rfl) Y.all zdJ (zc (zaI (src:=[none,none,some 0]) o_is_right_2 rfl rfl (zq9 Y.zip (zc (zG zad (zv (zc (qv 2) ze)) (qv 3)) (zc (qv 7) ze))) (λ_ _ _ _ _=>(zfa (K:=K) 2 rfl rfl (zx (zo 0 o_is_right_2.nd) (zx (zo 1 o_is_right_2.nd) za4)))) (λ_ _ _ _ _=>zcR) (λ_ _ _ _ _=>(zk G_was_handed_so (hr.mono (by decide)) Y.was_handed_so.mg Y.was_handed_so.kp Y.was_handed_so.b .nil zp (zc (qc 2) (zc (qv 0) (zc (qv 1) ze)))))) ze))))))))))),?_⟩
  refine vr rfl (vr rfl (ex8 u v d g hs ps lks hds ⟨rfl,hu,T,hd,λH1 s1=>(vr rfl ?_)⟩))
  cases eS:zbg hs ps d with
  |false=>exact zQ rfl (q false H1 (λ_=>rfl) (λf qs _ z=>by rw[eS] at z;cases z) s1)
  |true=>
  obtain⟨f,qs,rfl,hf,hq,lq⟩:=zfv eS
  have hmk:=hmk f qs rfl
  have q:∀(H':Hp),Same H H'->Q (.bl (zeE g hs ps lks hds f qs)) H':=λH' s'=>q _ H' (λz=>by rw[eS] at z;cases z) (λf' qs' e _=>by obtain⟨rfl,rfl⟩:=zh9 e;rfl) s'
  obtain⟨pd,xf,xq,rfl,hpd,rf,rq⟩:=(hd.same s1).of2
  obtain⟨pf,y1,y2,y3,y4,y5,rfl,hpf,r1,r2,r3,r4,r5⟩:=zf9 rf
  obtain⟨pq,us,rfl,hpq,ru,_⟩:=rq.ofT
  cases r1 with|str _ _=>
  cases r2 with|str _ _=>
  refine zW rfl (vr rfl (ex2 pd _ ⟨rfl, .inl (.inl hpd),rfl,ex2 _ _ ⟨rfl,ex2 _ _ ⟨rfl,rfl,?_⟩⟩⟩))
  refine vr rfl (ixT hpf (zz (j:=3) rfl) ?_)
  refine vr rfl ⟨rfl,vr rfl ?_⟩
  rw[zdm r4]
  have lu:=ru.1
  rw[ζa] at lu
  cases ew:f.way with
  |none=>
   refine zQ (by rfl) (vr rfl ⟨few rfl,λpe hpe=>?_⟩)
   have Se:=Same.new (o:= .tup []) hpe
   have trq:=zmP (rq.same Se) (by rw[okD];exact zgs λd hd=>by obtain⟨p,hp,rfl⟩:=List.mem_map.mp hd;exact zj8 T.names (hq p hp))
   rw[pyD] at trq
   refine⟨_,_,trq,zhX zd,ξb (Nat.min_le_right _ _) zjR,?_⟩
   rw[zgo]
   have q:=q _ (s1.trans Se)
   unfold zeE at q
   rw[ew] at q
   have e:qs.isEmpty=decide (qs.map ppD=[]):=by cases qs<;>rfl
   have q:Q (.bl qs.isEmpty) _:=q
   rw[e] at q
   exact q
  |some w=>
  rw[ew] at r4
  obtain⟨pw,rfl,hpw⟩:=zax r4
  have eR:zeE g hs ps lks hds f qs=(zbF g hs ps (tD w)&&decide (w.headD ""=f.one)&&decide (qs.length+1=w.length)&&zdR w qs qs.length&&zgX hs lks hds f qs):=by
   unfold zeE;rw[ew]
  rw[eR] at q
  refine zW rfl (vr rfl (vr rfl ⟨u,_,tD w,ex4 g hs ps lks ⟨hds,rfl,hu.same s1,T,r4,λH2 s2=>(vr rfl ?_)⟩⟩))
  have s02:=s1.trans s2
  cases eW:zbF g hs ps (tD w)with
  |false=>
   have q:=q H2 s02
   rw[eW] at q
   exact zQ rfl (zQ rfl q)
  |true=>
  rw[eW] at q
  obtain⟨hw,w1,w10⟩:=zpV eW
  have hpw2:=s2 _ _ hpw
  have hpf2:=s2 _ _ hpf
  have hpq2:=s2 _ _ hpq
  obtain⟨x,ws,rfl⟩:∃x ws,w=x::ws:=by
   match w,w1 with
   |x::ws,_=>exact ⟨x,ws,rfl⟩
  refine zW rfl (vr rfl (ixT hpw2 at0 (vr rfl (ixT hpf2 at0 ⟨rfl,vr rfl ?_⟩))))
  rw[zZ]
  have eH:decide ((x::ws).headD ""=f.one)=decide (x=f.one):=rfl
  rw[eH] at q
  cases eh:decide (x=f.one)with
  |false=>
   have q:=q H2 s02
   rw[eh] at q
   exact zQ rfl (zQ rfl q)
  |true=>
  rw[eh] at q
  refine zW rfl (vr rfl (.inl (ex2 pq _ ⟨rfl, .inr (.inl (.inl hpq2)),vr rfl (.inl (ex2 pw _ ⟨rfl, .inr (.inl (.inl hpw2)),ex2 _ _ ⟨rfl,rfl,rfl,vr rfl ?_⟩⟩))⟩)))
  have eL:decide (V.int (us.length:Int)=V.int ((((x::ws).map V.str).length:Int) -1))=decide (qs.length+1=(x::ws).length):=by
   rw[ξf,ζg,ζg,V.int.injEq,ζa]
   omega
  show(if(!decide (V.int (us.length:Int)=V.int ((((x::ws).map V.str).length:Int) -1)))=true then _ else _)
  rw[eL]
  cases el:decide (qs.length+1=(x::ws).length)with
  |false=>
   have q:=q H2 s02
   rw[el] at q
   exact zQ rfl q
  |true=>
  rw[el] at q
  have el':=ζh el
  have wn:∀y∈x::ws,zi y=true:=λy hy=>T.names y (hw y hy)
  have ru2:=ru.mono (.of s2)
  refine zW rfl (vr rfl (ex2 pq us ⟨rfl, .inl (.inl hpq2),?_⟩))
  refine zoT (n:=us.length) (λi σ' H'=>(∃o5 o6 o7,σ'=[some u,some (.ref pd),some (.ref pf),some (.ref pq),some (.ref pw),o5,o6,o7])/\zdR (x::ws) qs i=true/\Same H2 H') ⟨(ex3 _ _ _ rfl),rfl,Same.refl _⟩ (λi σ' H' hi z=>⟨us,us[i], .inl (.inl (z.2.2 _ _ hpq2)),rfl,ζd hi⟩) (λσ' H' z=>⟨us, .inl (.inl (z.2.2 _ _ hpq2)),rfl,ζu _⟩) ?_ ?_
  ·rintro i z σ' H3 H4 hi ⟨⟨o5,o6,o7,rfl⟩,hfit,s3⟩ ⟨T0,y,rfl,hT0,hy,rfl⟩
   have hy:=hy us (.inl (.inl (s3 _ _ hpq2)))
   obtain⟨d0,hd0,rd0⟩:=ru2.get hy
   rw[ζq] at hd0
   cases hqi:qs[i]? with
   |none=>rw[hqi] at hd0;cases hd0
   |some p0=>
   rw[hqi] at hd0
   cases hd0
   have hp0:=hq p0 (ζl hqi)
   have S4:=Same.new (o:= .tup [V.int (i:Int),y]) hT0
   have s24:=s3.trans S4
   obtain⟨pp,z1,z2,z3,z4,z5,rfl,hpp,t1,t2,t3,t4,t5⟩:=zf9 (rd0.same s24)
   cases t1 with|str _ _=>
   cases t2 with|str _ _=>
   refine ex2 T0 _ ⟨rfl, .inl (.inl zd),rfl,ex2 _ _ ⟨rfl,ex2 _ _ ⟨rfl,rfl,?_⟩⟩⟩
   show zpK _ _ _ _ _ (upd H3 T0 (.tup [V.int (i:Int), .ref pp]))
   have hpw4:=s24 _ _ hpw2
   generalize (upd H3 T0 (HO.tup [V.int (i:Int),V.ref pp]))=H4 at *
   have hi1:i+1<(x::ws).length:=by omega
   have a0:=zeg (w:=x::ws) (i:=i) (by omega)
   have a1:atI ((x::ws).map V.str) ((i:Int)+1)=some (.str ((x::ws).getD (i+1) "")):=zeg (w:=x::ws) (i:=i+1) hi1
   have ec:zaY [V.str p0.one,V.str p0.to,z3,z4,z5] none (some 2)=[p0.one,p0.to].map V.str:=zbw (n:=2)
   refine vr rfl (vr rfl (ex2 pp _ ⟨rfl, .inl (.inl hpp),λhlen=>?_,λp2 hp2=>?_⟩))
   ·rw[ec] at hlen
    exact absurd (congrArg List.length hlen) (by simp)
   rw[ec]
   have S5:=Same.new (o:= .tup ([p0.one,p0.to].map V.str)) hp2
   refine vr rfl (vr rfl (ex2 _ _ ⟨rfl,rfl,ixT (S5 _ _ hpw4) a1 (vr rfl (vr rfl (ixT (S5 _ _ hpw4) a0 ⟨few rfl,λp3 hp3=>?_⟩)))⟩))
   have S6:=Same.new (o:= .tup [V.str ((x::ws).getD (i+1) ""),V.str ((x::ws).getD i "")]) hp3
   have wi:∀k,k<(x::ws).length->zi ((x::ws).getD k "")=true:=λk hk=>wn _ (by simp only[List.getD,ζd hk,Option.getD_some];exact List.getElem_mem hk)
   refine⟨_,_,zaK (xs:=[p0.one,p0.to]) (S6 _ _ zd) (λy hy=>?_),zaK (xs:=[(x::ws).getD (i+1) "",(x::ws).getD i ""]) zd (λy hy=>?_),ξb (Nat.min_le_left _ _) zai,vr rfl ?_⟩
   ·simp only[List.mem_cons,List.not_mem_nil,or_false] at hy
    rcases hy with rfl|rfl
    ·exact zD (T.names _ hp0.one)
    ·exact zD (T.names _ hp0.to)
   ·simp only[List.mem_cons,List.not_mem_nil,or_false] at hy
    rcases hy with rfl|rfl
    ·exact zD (wi _ hi1)
    ·exact zD (wi _ (by omega))
   have s06:Same H (upd (upd H4 p2 (.tup ([p0.one,p0.to].map V.str))) p3 (.tup [V.str ((x::ws).getD (i+1) ""),V.str ((x::ws).getD i "")])):=((s02.trans s24).trans S5).trans S6
   have s26:=(s24.trans S5).trans S6
   have hpp6:=S6 _ _ (S5 _ _ hpp)
   have hpw6:=S6 _ _ (S5 _ _ hpw4)
   have t46:=(t4.same S5).same S6
   have eqv:decide ([p0.one,p0.to]=[(x::ws).getD (i+1) "",(x::ws).getD i ""])=decide (p0.one=(x::ws).getD (i+1) ""/\p0.to=(x::ws).getD i ""):=by
    rw[ξf,ζg,ζg]
    simp
   rw[zbB,eqv]
   generalize (upd (upd H4 p2 (HO.tup ([p0.one,p0.to].map V.str))) p3 (HO.tup [V.str ((x::ws).getD (i+1) ""),V.str ((x::ws).getD i "")]))=H6 at *
   have bad:zfh (x::ws) p0 i=false->∀H',Same H H'->Q (.bl false) H':=λe H' s'=>by
    have q:=q H' s'
    rw[zmz hqi e] at q
    exact q
   cases ea:decide (p0.one=(x::ws).getD (i+1) ""/\p0.to=(x::ws).getD i "")with
   |false=>exact zQ rfl (zQ rfl (bad (by unfold zfh;rw[ea];rfl) H6 s06))
   |true=>
   refine zW rfl (vr rfl (ixT hpp6 (zz (j:=3) rfl) (vr rfl (vr rfl (ex2 _ _ ⟨rfl,rfl,vr rfl (ex2 pw _ ⟨rfl, .inl (.inl hpw6),λhlen=>?_,λp4 hp4=>?_⟩)⟩)))))
   ·have e1:((i:Int)+1)=((i+1:Nat):Int):=by omega
    rw[e1,za3] at hlen
    have:=congrArg List.length hlen
    rw[ζr,ζa] at this
    omega
   have ec2:zaY ((x::ws).map V.str) (some ((i:Int)+1)) none=((x::ws).drop (i+1)).map V.str:=by
    rw[show((i:Int)+1)=((i+1:Nat):Int) by omega,za3,List.map_drop]
   rw[ec2]
   have S7:=Same.new (o:= .tup (((x::ws).drop (i+1)).map V.str)) hp4
   have hp47:(upd H6 p4 (.tup (((x::ws).drop (i+1)).map V.str))) p4=some (.tup (((x::ws).drop (i+1)).map V.str)):=zd
   have t47:=t46.same S7
   have s07:=s06.trans S7
   have s27:=s26.trans S7
   have td:∀y∈(x::ws).drop (i+1),PyData.strOk y=true:=λy hy=>zD (wn y (List.mem_of_mem_drop hy))
   generalize (upd H6 p4 (HO.tup (((x::ws).drop (i+1)).map V.str)))=H7 at *
   cases ey:p0.way with
   |none=>
    rw[ey] at t47
    have ez:z4= .non:=by cases t47;rfl
    subst ez
    refine⟨_,_,Tr.non,zaK hp47 td,ξb (Nat.min_le_right _ _) zai,vr rfl (zQ rfl ?_)⟩
    exact bad (by unfold zfh;rw[ey,show decide (none=some ((x::ws).drop (i+1)))=false from rfl,Bool.and_false]) H7 s07
   |some w2=>
    rw[ey] at t47
    obtain⟨p5,rfl,hp5⟩:=zax t47
    refine⟨_,_,zaK hp5 (λy hy=>zD ((hp0.way w2 ey).2.2 y hy)),zaK hp47 td,ξb (Nat.min_le_right _ _) zai,vr rfl ?_⟩
    rw[zbB]
    have e5:decide (p0.way=some ((x::ws).drop (i+1)))=decide (w2=(x::ws).drop (i+1)):=by
     rw[ey,ξf,ζg,ζg,Option.some.injEq]
    cases eb:decide (w2=(x::ws).drop (i+1))with
    |false=>exact zQ rfl (bad (by unfold zfh;rw[e5,eb,Bool.and_false]) H7 s07)
    |true=>
     refine zW rfl ⟨(ex3 _ _ _ rfl),?_,s27⟩
     rw[zmb hqi,hfit]
     unfold zfh
     rw[ea,e5,eb];rfl
  ·rintro σ' H3 ⟨⟨o5,o6,o7,rfl⟩,hfit,s3⟩
   rw[lu] at hfit
   rw[hfit] at q
   have hpq3:=s3 _ _ hpq2
   have ru3:=ru2.mono (.of s3)
   refine vr rfl ⟨pq,rfl,⟨us, .inl (.inl hpq3)⟩,?_⟩
   refine zby (za0 (K:=K) (a:=pq) (xs:=us)) (λl i ys σ' H'=>(∃o,σ'=[o])/\zd9 H' ys ((qs.take i).map (·.marks))/\Same H3 H') ?_ ?_ ?_ ?_
   ·exact λl hl=>⟨⟨_,rfl⟩,⟨rfl,λi v q e=>by cases e⟩,Same.new hl⟩
   ·exact λl i ys σ' H' _ z=> .inl (.inl (z.2.2 _ _ hpq3))
   ·rintro l i y ys σ' H4 hl' hi hy ⟨⟨o,rfl⟩,T4,s4⟩ hl4
    obtain⟨d0,hd0,rd0⟩:=ru3.get hy
    rw[ζq] at hd0
    cases hqi:qs[i]? with
    |none=>rw[hqi] at hd0;cases hd0
    |some p0=>
    rw[hqi] at hd0
    cases hd0
    obtain⟨pp,z1,z2,z3,z4,z5,rfl,hpp,t1,t2,t3,t4,t5⟩:=zf9 (rd0.same s4)
    obtain⟨p5,rfl,hp5⟩:=zax t5
    refine vr rfl (ixT hpp (zz (j:=4) rfl) ⟨hl4,?_,⟨_,rfl⟩,?_,?_⟩)
    ·have:=T4.1
     rw[ζa,ζm] at this
     exact zm (by omega)
    ·have tk:(qs.take (i+1)).map (·.marks)=(qs.take i).map (·.marks)++ [p0.marks]:=ziK hqi
     rw[tk]
     exact znq T4 hl4 hp5
    ·exact λc o e=>by
      rw[zr (zB e hl')]
      exact s4 _ _ e
   rintro l ys σ' H4 hl' ⟨_,T4,s4⟩ hl4
   rw[lu,List.take_length] at T4
   have ly:=T4.1
   rw[ζa] at ly
   refine⟨few rfl,λp0 hp0=>⟨few rfl,λpl hpl=>?_⟩⟩
   have S5:=Same.new (o:= .tup []) hp0
   have S6:=Same.new (o:= .lst [V.ref p0]) hpl
   have hp06:=S6 _ _ (zd (H:=H4) (a:=p0) (o:= .tup []))
   refine ex4 l pl _ _ ⟨rfl,rfl,S6 _ _ (S5 _ _ hl4),zd,ξi (zm (by show _+1<=_;omega)),λlc hlc=>?_⟩
   have S7:=Same.new (o:= .lst (ys ++ [V.ref p0])) hlc
   have s47:=(S5.trans S6).trans S7
   have T7:zd9 (upd (upd (upd H4 p0 (.tup [])) pl (.lst [V.ref p0])) lc (.lst (ys ++ [V.ref p0]))) (ys ++ [V.ref p0]) (zaS qs):=zlR (zgx T4 s47) (S7 _ _ hp06)
   have hlc7:(upd (upd (upd H4 p0 (.tup [])) pl (.lst [V.ref p0])) lc (.lst (ys ++ [V.ref p0]))) lc=some (.lst (ys ++ [V.ref p0])):=zd
   have s37:=s4.trans s47
   dsimp only[zaE]
   generalize (upd (upd (upd H4 p0 (HO.tup [])) pl (HO.lst [V.ref p0])) lc (HO.lst (ys ++ [V.ref p0])))=H7 at *
   have s27:=s3.trans s37
   have s07:=s02.trans s27
   have hpq7:=s27 _ _ hpq2
   refine vr rfl ⟨few rfl,λq1 hq1=>(vr rfl (zak (xs:=[V.ref pf]) (ys:=us) zd (Same.new hq1 _ _ hpq7) (by show 1+_<=_;omega) λq2 H9 hq29 S9=>?_))⟩
   have S8:=Same.new (o:= .tup [V.ref pf]) hq1
   have s79:=S8.trans S9
   have hq29:H9 q2=some (.tup (.ref pf::us)):=hq29
   have hlc9:=s79 _ _ hlc7
   have s29:=s27.trans s79
   have s19:=s2.trans s29
   have s09:=s1.trans s19
   have T9:=zgx T7 s79
   have rP:RepL H9 (.ref pf::us) ((f::qs).map ppD):= .cons (rf.same s19) (ru.mono (.of s19))
   have lc1:(ys ++ [V.ref p0]).length=qs.length+1:=by rw[ζe,ly];rfl
   have lp1:(V.ref pf::us).length=qs.length+1:=by rw[ζw,lu]
   refine vr rfl (ex4 q2 lc true false (ex2 _ _ ⟨rfl,hq29,hlc9,?_⟩))
   rw[lc1,lp1,Nat.min_self]
   have lz:((f::qs).zip (zaS qs)).length=qs.length+1:=by
    unfold zaS
    rw[List.length_zip,ζe,ζa,ζw]
    exact Nat.min_self _
   have hP:∀(i:Nat) (p:Pp),(f::qs)[i]?=some p->p.way=some ((x::ws).drop i)/\PpOk hs ps p:=λi p e=>by
    cases i with
    |zero=>cases e;exact⟨ew,hf⟩
    |succ i=>exact ⟨zo2 hfit e,hq p (ζl e)⟩
   have hM:∀(i:Nat) (m:List Str),(zaS qs)[i]?=some m->(∀y∈m,zi y=true)/\m.length<=40:=λi m e=>by
    have:=ζl e
    unfold zaS at this
    rcases List.mem_append.mp this with h|h
    ·obtain ⟨p,hp,rfl⟩:=List.mem_map.mp h
     exact⟨(hq p hp).mnm,hmk p (ξe _ hp)⟩
    ·rw[List.mem_singleton.mp h]
     exact⟨(λ_ z=>nomatch z),ξk _⟩
   refine zne (n:=qs.length+1) (λl i ys σ' H'=>(∃o0 o1,σ'=[o0,o1,some u])/\ys=((((f::qs).zip (zaS qs)).take i).map λz=>soB hs lks hds z.1 z.2).map V.bl/\Same H9 H') ?_ ?_ ?_ ?_ ?_
   ·exact λl hl=>⟨(ex2 _ _ rfl),rfl,Same.new hl⟩
   ·intro l i zs σ' H' hl hi z
    exact⟨_,_,_,_,z.2.2 _ _ hq29,z.2.2 _ _ hlc9,by rw[lc1,lp1,Nat.min_self],ζd (by rw[lp1];exact hi),ζd (by rw[lc1];exact hi)⟩
   ·intro l zs σ' H' hl z
    exact⟨_,_,z.2.2 _ _ hq29,z.2.2 _ _ hlc9,by rw[lc1,lp1,Nat.min_self],ζu _⟩
   ·rintro l i z zs σ' HA HB hl hi ⟨⟨o0,o1,rfl⟩,rfl,sA⟩ hl' ⟨T0,xs',ys',vx,vy,hx',hy',rfl,hT0,ex,ey,rfl⟩
    have e1:xs'= .ref pf::us:=SqZ.inj (t:=true) hx' (sA _ _ hq29)
    have e2:ys'=ys ++ [V.ref p0]:=SqZ.inj (t:=false) hy' (sA _ _ hlc9)
    subst e1 e2
    have SB:=Same.new (o:= .tup [vx,vy]) hT0
    obtain⟨d0,hd0,rd0⟩:=rP.get ex
    rw[ζq] at hd0
    cases hpi:(f::qs)[i]? with
    |none=>rw[hpi] at hd0;cases hd0
    |some p1=>
    rw[hpi] at hd0
    cases hd0
    have hci:i<(zaS qs).length:=by unfold zaS;rw[ζe,ζa];exact hi
    have hmi:=ζd hci
    generalize (zaS qs)[i]=m1 at hmi
    obtain⟨b1,rfl,hb1⟩:=T9.2 i vy m1 ey hmi
    obtain⟨hw1,ok1⟩:=hP i p1 hpi
    have hiw:i<(x::ws).length:=by omega
    obtain⟨x1,w1',ew1⟩:∃x1 w1',(x::ws).drop i=x1::w1':=by rw[List.drop_eq_getElem_cons hiw];exact⟨_,_,rfl⟩
    rw[ew1] at hw1
    have lw1:w1'.length<=9:=by
     have:=congrArg List.length ew1
     have w10':ws.length+1<=hs.length:=w10
     simp only[ζr,ζw] at this
     omega
    have hm1:∀y∈x1::w1',y∈hs:=λy hy=>hw y (List.mem_of_mem_drop (by rw[ew1];exact hy))
    have sAB:=sA.trans SB
    have hzi:((f::qs).zip (zaS qs))[i]?=some (p1,m1):=by
     rw[List.getElem?_zip_eq_some]
     exact⟨hpi,hmi⟩
    refine ex2 T0 _ ⟨rfl, .inl (.inl zd),rfl,ex2 _ _ ⟨rfl,ex2 _ _ ⟨rfl,rfl,?_⟩⟩⟩
    refine vr rfl (vr rfl (vr rfl (ex8 u vx b1 p1 x1 w1' m1 g (ex4 hs ps lks hds ⟨rfl,hu.same (s09.trans sAB),T,hf12,rd0.same sAB,hw1,hm1,lw1,ok1.to,ok1.mnm,sAB _ _ hb1,(hM i m1 hmi).1,(hM i m1 hmi).2,λHC sC=>?_⟩))))
    have hlB:=SB _ _ hl'
    refine⟨sC _ _ hlB,?_,(ex2 _ _ rfl),?_,?_⟩
    ·rw[ζa,ζa,ζm]
     exact zm (by omega)
    ·rw[ziK hzi,ξc];rfl
    ·exact λc o e=>by
      rw[zr (zB e hl)]
      exact sC _ _ (sAB _ _ e)
   ·rintro l zs σ' HA hl ⟨_,rfl,sA⟩ hlA
    refine ex2 l _ ⟨rfl,SqL.of hlA,?_⟩
    rw[←lz,List.take_length]
    have q:=q HA (s09.trans sA)
    have e:(((f::qs).zip (zaS qs)).map λz=>soB hs lks hds z.1 z.2).all id=zgX hs lks hds f qs:=by rw[List.all_map];rfl
    rw[e]
    exact q
end
section
variable{P:Program}{w:World}{K:PySem.W.Frag}{mg:Str->Option Value}{base:Heap}
theorem zkE{J:It}{N:Nat}{Pw:Nat->V->Prop}{ok:Hp->Prop}{Pd:Nat->D->Prop}{H:Hp}{te:TE}{src:List (Option Nat)}{σ σr:L2.St}{Q:VK}(wk:Wk J N Pw ok)(hok:∀H',Same H H'->ok H')(hs:zel src σ=none::σr)(hN:N<=900)
 (he:∀(i:Nat) (x:V) (H1:Hp) (Q1:VK),i<N->Pw i x->Same H H1->(∀v d H2,Rep H2 v d->Pd i d->Same H1 H2->Q1 v H2)->te (some x::σr) H1 Q1)
 (q:∀l vs ds H',H l=none->H' l=some (.lst vs)->RepL H' vs ds->ds.length=N->(∀i d,ds[i]?=some d->Pd i d)->Same H H'->Q (.ref l) H'):zcN (zaE 0) zlZ te src σ Q J H:=by
 refine zby wk (λl i ys σ' H'=>(∃o,σ'=o::σr)/\(∃ds:List D,RepL H' ys ds/\ds.length=i/\∀j d,ds[j]?=some d->Pd j d)/\Same H H') ?_ (λ_ _ _ _ _ _ p=>hok _ p.2.2) ?_ ?_
 ·exact λl hl=>⟨⟨_,hs⟩,⟨[],RepL.nil,rfl,λj d z=>by simp at z⟩,Same.new hl⟩
 ·rintro l i y ys σ' H1 hl hi hy ⟨⟨o,rfl⟩,⟨ds,hr,hl2,hp⟩,k1⟩ hl'
  refine he i y H1 _ hi hy k1 λv d H2 rv pd k2=>?_
  have hl2':H2 l=some (.lst ys):=k2 _ _ hl'
  have m3:Mono H2 (upd H2 l (.lst (ys ++ [v]))):=Mono.lset hl2'
  refine⟨hl2',?_,⟨_,rfl⟩,⟨ds ++ [d],((hr.mono (.of k2)).append (.cons rv .nil)).mono m3,?_,?_⟩,?_⟩
  ·have:=hr.1
   exact zm (by omega)
  ·rw[ζe,hl2];rfl
  ·intro j e he
   by_cases hj:j<ds.length
   ·rw[List.getElem?_append_left hj] at he
    exact hp j e he
   ·rw[List.getElem?_append_right (by omega)] at he
    have hj2:j=ds.length:=by
     rcases ξa ds.length j with z|z
     ·rw[ζi (by simp;omega)] at he;cases he
     ·omega
    subst hj2
    simp at he
    subst he
    rw[hl2];exact pd
  ·exact λc o e=>by
    rw[zr (zB e hl)]
    exact k2 _ _ (k1 _ _ e)
 ·rintro l ys σ' H1 hl ⟨⟨o,rfl⟩,⟨ds,hr,hl2,hp⟩,k1⟩ hl'
  exact q l ys ds H1 hl hl' hr hl2 hp k1
theorem zny{xs:List V}{x:V}:zaY (xs ++ [x]) none (some (-1))=xs:=by
 unfold zaY
 have e1:HT.sIx (xs ++ [x]).length 0 none=0:=rfl
 have e2:HT.sIx (xs ++ [x]).length (xs ++ [x]).length (some (-1))=xs.length:=by
  unfold HT.sIx
  simp only[ζe,ξd]
  rw[if_pos (by decide)]
  omega
 rw[e1,e2,List.drop_zero,Nat.sub_zero,List.take_left']
 rfl
noncomputable def zhz:Sp:=λvs H Q _=>∃(v:V) (a b:Str) (g:Str) (hs:List Str) (ps:List (Str×Str)) (lks hds:List D),vs=[v, .str a, .str b]/\Rep H v (za5 g hs ps lks hds)/\TownOk g hs ps lks hds/\zi a=true/\zi b=true/\∀H',Same H H'->Q (.bl (decide (b∈zan ps a))) H'
theorem ziv(Y:Ev K mg):FnOk P w K mg base CX0 1 Y.a__law_tied Y.d__law_tied zbS zhz:=by
 refine Y._law_tied.fn.okQ ziq (λvs H Q E h=>?_) (λcdv A outer s H vs Q E hr h=>?_)
 ·obtain ⟨v,a,b,g,hs,ps,lks,hds,rfl,_⟩:=h;rfl
 ·obtain ⟨v,a,b,g,hs,ps,lks,hds,rfl,hv,T,na,nb,q⟩:=h
  obtain⟨p,pr,pt,pl,pa,vt,vl,va,rfl,hp,hpr,hpt,rt,hpl,rl,hpa,ra⟩:=zbN hv
  have TP:Rep H (.ref pt) (.tup (ps.map pairD)):= .mkL hpt (by have:=T.lp;rw[ζa];omega) rt
  refine⟨_,(zn (zy (zrx (za2 (zm8 (zeR hr)) (zv (zc (qv 1) (zc (qv 2) ze))) (zt ix_tup (qv 0) zh)) (zd2 (za2 (zm8 (zeR hr)) (zv (zc (qv 2) (zc (qv 1) ze))) (zt ix_tup (qv 0) zh)))))),?_⟩
  refine vr rfl (vr rfl ⟨few rfl,λp1 hp1=>?_⟩)
  have S1:=Same.new (o:= .tup [V.str a,V.str b]) hp1
  refine vr rfl (ixT (S1 _ _ hp) (zz (j:=2) rfl) ⟨_,_,zmR zd na nb, .inr (ziZ (TP.same S1) T.tn),zgp _,vr rfl ?_⟩)
  rw[ziI]
  cases e1:decide ((a,b)∈ps)with
  |true=>
   have q:=q _ S1
   rw[ζf (mem_nbrs.mpr (.inr (ζh e1)))] at q
   exact zQ rfl q
  |false=>
   refine zW (by decide) (vr rfl (vr rfl ⟨few rfl,λp2 hp2=>?_⟩))
   have S2:=Same.new (o:= .tup [V.str b,V.str a]) hp2
   have S12:=S1.trans S2
   refine vr rfl (ixT (S12 _ _ hp) (zz (j:=2) rfl) ⟨_,_,zmR zd nb na, .inr (ziZ (TP.same S12) T.tn),zgp _,?_⟩)
   rw[ziI]
   have q:=q _ S12
   have e2:decide (b∈zan ps a)=decide ((b,a)∈ps):=by
    rw[ξf,ζg,ζg,mem_nbrs]
    exact⟨λh=>h.resolve_right (of_decide_eq_false e1), .inl⟩
   rw[e2] at q
   exact q
noncomputable def zj2:Sp:=λvs H Q _=>∃(v:V) (x:Str) (g:Str) (hs:List Str) (ps:List (Str×Str)) (lks hds:List D),vs=[v, .str x]/\Rep H v (za5 g hs ps lks hds)/\TownOk g hs ps lks hds/\x∈hs/\∀(l:Addr) (H':Hp),H l=none->H' l=some (.lst ((hs.filter λy=>decide (y∈zan ps x)).map V.str))->Same H H'->Q (.ref l) H'
theorem zkU(Y:Ev K mg):FnOk P w K mg base CX0 2 Y.a__law_near Y.d__law_near zb6 zj2:=by
 have G__law_tied:FnOk P w K mg base CX0 1 Y.a__law_tied Y.d__law_tied zbS zhz:=ziv Y
 refine Y._law_near.fn.okQ zi1 (λvs H Q E h=>?_) (λcdv A outer s H vs Q E hr h=>?_)
 ·obtain ⟨v,x,g,hs,ps,lks,hds,rfl,_⟩:=h;rfl
 ·obtain ⟨v,x,g,hs,ps,lks,hds,rfl,hv,T,hx,q⟩:=h
  have T10:=T.ten
  obtain⟨p,pr,pt,pl,pa,vt,vl,va,rfl,hp,hpr,hpt,rt,hpl,rl,hpa,ra⟩:=zbN hv
  refine⟨_,(zn (zy (zaI (src:=[none,some 1,some 0]) o__law_near_1 rfl rfl (zbZ (zt ix_tup (qc 0) zh)) (λ_ _ _ _ _=>(zo 0 o__law_near_1.nd)) (λ_ _ _ _ _=>(zc6 (zbp (zk G__law_tied (hr.mono (by decide)) Y._law_tied.mg Y._law_tied.kp Y._law_tied.b .nil zp (zc (qc 2) (zc (qc 1) (zc (qv 0) ze))))))) (λ_ _ _ _ _=>(qv 0))))),?_⟩
  refine vr rfl (ixT hp (zz (j:=1) rfl) ⟨pr,rfl,⟨_, .inl (.inl hpr)⟩,?_⟩)
  refine zby (za0 (K:=K) (xs:=hs.map V.str)) (λl i ys σ' H'=>(∃o,σ'=[o,some (.str x),some (.ref p)])/\ys=((hs.take i).filter λy=>decide (y∈zan ps x)).map V.str/\Same H H') ?_ (λl i ys σ' H' hl z=> .inl (.inl (z.2.2 _ _ hpr))) ?_ ?_
  ·exact λl hl=>⟨⟨_,rfl⟩,rfl,Same.new hl⟩
  ·rintro l i y0 ys σ' H1 hl' hi hy ⟨⟨o,rfl⟩,rfl,s1⟩ hl1
   rw[ζa] at hi
   rw[ζq] at hy
   obtain⟨y,ey,rfl⟩:∃y,hs[i]?=some y/\y0= .str y:=by
    cases e:hs[i]? with
    |none=>rw[e] at hy;cases hy
    |some y=>rw[e] at hy;cases hy;exact⟨y,rfl,rfl⟩
   have hym:=ζl ey
   refine vr rfl (vr rfl (vr rfl (ex8 _ x y g hs ps lks hds ⟨rfl,hv.same s1,T,T.names x hx,T.names y hym,λH2 s2=>(vr rfl ?_)⟩)))
   have tk:(hs.take (i+1)).filter (λy=>decide (y∈zan ps x))=(hs.take i).filter (λy=>decide (y∈zan ps x))++ [y].filter (λy=>decide (y∈zan ps x)):=by rw[List.take_add_one,ey,List.filter_append];rfl
   cases e:decide (y∈zan ps x)with
   |false=>exact zW (by decide) ⟨s2 _ _ hl1,⟨_,rfl⟩,by rw[tk];simp[e],s1.trans s2⟩
   |true=>
    refine zQ rfl (vr rfl ⟨s2 _ _ hl1,?_,⟨_,rfl⟩,by rw[tk];simp[e],?_⟩)
    ·rw[ζa]
     have:=List.length_filter_le (λy=>decide (y∈zan ps x)) (hs.take i)
     rw[ζm] at this
     exact zm (by omega)
    ·exact λc o e=>by
      rw[zr (zB e hl')]
      exact s2 _ _ (s1 _ _ e)
  ·rintro l ys σ' H1 hl' ⟨_,rfl,s1⟩ hl1
   rw[show hs.take (hs.map V.str).length=hs by rw[ζa];exact List.take_length] at hl1
   exact q l H1 hl' hl1 s1
end
section
variable{P:Program}{w:World}{K:PySem.W.Frag}{mg:Str->Option Value}{base:Heap}
noncomputable def zi0:Sp:=λvs H Q _=>∃(a pw:Addr) (n:Int) (v:V) (to:Str) (w:List Str) (g:Str) (hs:List Str) (ps:List (Str×Str)) (lks hds:List D) (O:List Str),vs=[.ref a,v, .ref pw, .str to]/\Hand H a n/\n<2^37/\Rep H v (za5 g hs ps lks hds)/\TownOk g hs ps lks hds/\Pool hs lks hds O/\H pw=some (.tup (w.map V.str))/\WayOk g hs ps w/\to∈hs/\
 (cmM hs lks hds to w=none->∀H',Hand H' a (n+10)->Keep a H H'->Q .non H')/\(∀(v':V) (f:Pp) (qs:List Pp) (H':Hp),Ch hs lks hds to w (f::qs)->Rep H' v' (zcf f qs)->Hand H' a (n+10)->Keep a H H'->Q v' H')
theorem zpS{H:Hp}{p:Addr}{x y:Str}{nr:Int}{pw pm:Addr}{w m:List Str}(e:H p=some (.tup [.str x, .str y, .int nr, .ref pw, .ref pm]))(hx:zi x=true)(hy:zi y=true)(hw:H pw=some (.tup (w.map V.str)))(hm:H pm=some (.tup (m.map V.str)))(nw:∀z∈w,zi z=true)(nm:∀z∈m,zi z=true)(lw:w.length<=1000)(lm:m.length<=1000):Rep H (.ref p) (ppD ⟨x,y,nr,some w,m⟩):=
 .mkL (vs:=[.str x, .str y, .int nr, .ref pw, .ref pm]) e (ζk rfl) (.cons (.str _ (zC hx)) (.cons (.str _ (zC hy)) (.cons (.int nr) (.cons (.mkL hw (by rw[ζa];exact lw) (zbe λz hz=>zC (nw z hz))) (.cons (.mkL hm (by rw[ζa];exact lm) (zbe λz hz=>zC (nm z hz))) .nil)))))
theorem zlx{H:Hp}{vs:List V}{ds:List D}{d:D}(r:RepL H vs (ds ++ [d])):∃va v,vs=va ++ [v]/\RepL H va ds/\Rep H v d:=by
 have l:=r.1
 rw[ζe,ξd] at l
 obtain⟨va,v,rfl⟩:∃va v,vs=va ++ [v]:=⟨vs.dropLast,vs.getLast (λz=>by rw[z] at l;simp at l),(List.dropLast_concat_getLast _).symm⟩
 have la:va.length=ds.length:=by rw[ζe,ξd] at l;omega
 refine ex2 va v ⟨rfl,⟨la,λi x e h1 h2=>?_⟩,?_⟩
 ·have hi:i<va.length:=by
   rcases ξa i va.length with z|z
   ·exact z
   ·rw[ζi z] at h1;cases h1
  exact r.2 i x e (by rw[List.getElem?_append_left hi];exact h1) (by rw[List.getElem?_append_left (by omega)];exact h2)
 ·exact r.2 va.length v d (by rw[List.getElem?_append_right (ζu _),Nat.sub_self];rfl) (by rw[la,List.getElem?_append_right (ζu _),Nat.sub_self];rfl)
theorem ziL{H:Hp}:∀{vs:List V} {ds:List D},RepL H vs ds->RepL H vs.reverse ds.reverse
 |[],[],_=> .nil
 |[],_::_,r=>absurd r.1 (by simp)
 |_::_,[],r=>absurd r.1 (by simp)
 |v::vs,d::ds,r=>by
  rw[List.reverse_cons,List.reverse_cons]
  exact(ziL r.head.2).append (.cons r.head.1 .nil)
def Pg(hs:List Str)(lks hds:List D)(to:Str)(w:List Str)(O:List Str)(i:Nat)(ms:List Str)(P:List Pp):Prop:=
 (i=0/\ms=[]/\P=[])\/(∃f qs,P=f::qs/\f.marks=ms/\Ch hs lks hds ((to::w).getD (w.length -i) "") (w.drop (w.length -i)) P/\cmM hs lks hds ((to::w).getD (w.length -i) "") (w.drop (w.length -i))=some ms/\Mr O ms/\0<i)
theorem zlK(Y:Ev K mg):FnOk P w K mg base CX0 6 Y.a__law_papers Y.d__law_papers zbJ zi0:=by
 have G__law_take:FnOk P w K mg base CX0 1 Y.a__law_take Y.d__law_take zaf zdp:=zcU Y
 have G__law_worth:FnOk P w K mg base CX0 5 Y.a__law_worth Y.d__law_worth zbD zeU:=zha Y
 have G__law_handed:FnOk P w K mg base CX0 5 Y.a__law_handed Y.d__law_handed zaV zgj:=zjn Y
 refine Y._law_papers.fn.okQ c__law_papers (λvs H Q E h=>?_) (λcdv A outer s H vs Q E hr h=>?_)
 ·obtain ⟨a,pw,n,v,to,w,g,hs,ps,lks,hds,O,rfl,_⟩:=h;rfl
 ·obtain ⟨a,pw,n,v,to,w,g,hs,ps,lks,hds,O,rfl,hH,hn,hv,T,PO,hpw,W,hto,qN,qS⟩:=h
  obtain⟨wl1,wlh⟩:=W.len
  have T10:=T.ten
  have wn:∀y∈w,zi y=true:=λy hy=>T.names y (W.mem y hy)
  have npa:∀{b o},H b=some (.tup o)->b≠a:=λ{b o} e z=>by obtain⟨_,_,_,e',_⟩:=hH;rw[z,e'] at e;cases e
  refine⟨_,(zj (zI 4 c__law_papers.nd (zv ze))
   (zj (zI 5 c__law_papers.nd (zbs ze))
   (zj (zcJ PassesOwn.never rfl (zme Y.range (zc (zG zdP (zq zE Y.len zaj (zc (qv 2) ze)) zh) (zc (zeo zbH zh) (zc (zeo zbH zh) ze)))) (zo 6 c__law_papers.nd) (zj (zI 7 c__law_papers.nd (zbL zR (qv 2) (zV (qv 6)) zae))
   (zb5 (zau (t_w (zkH (zH ziz (qv 6) (zG zdP (zq zE Y.len zaj (zc (qv 2) ze)) zh)) (zh5 (zH zeH (zk G__law_worth (hr.mono (by decide)) Y._law_worth.mg Y._law_worth.kp Y._law_worth.b .nil zp (zc (qv 1) (zc (qv 7) (zc (qv 4) ze)))) zck)))) (zn (zy zck)) zO)
   (zj (zI 8 c__law_papers.nd (zG zad (zv (zc (qv 3) ze)) (qv 2)))
   (zj (zI 4 c__law_papers.nd (zk G__law_handed (hr.mono (by decide)) Y._law_handed.mg Y._law_handed.kp Y._law_handed.b .nil zp (zc (qv 1) (zc (qv 7) (zc (qv 4) (zc (zt ix_tup (qv 8) (qv 6)) ze))))))
   (zj (zau (zH zeH (qv 4) zck) (zn (zy zck)) zO)
   (zn (zdq (zfq PySem.F.plainAttrs_list PySem.F.slot_list_append PySem.F.type_list_append zaM (qv 5) (zc (zv (zc (zt ix_tup (qv 2) (qv 6)) (zc (zt ix_tup (qv 8) (qv 6)) (zc (zG zat zh (zk G__law_take (hr.mono (by decide)) Y._law_take.mg Y._law_take.kp Y._law_take.b .nil zp (zc (qv 0) (zc zh ze)))) (zc (qv 7) (zc (qv 4) ze)))))) ze))))))))))
   (zn (zy (zv (zc (zt ix_list (qv 5) (zeo zbH zh)) (zc (zao zab Y.tuple zbf (zc (zpT (zbL zfU (qv 5) zae (zV (zeo zbH zh))) (zeo zbH zh)) ze)) ze)))))))),?_⟩
  refine⟨few rfl,λp0 hp0=>?_⟩
  refine⟨few rfl,λlp hlp=>?_⟩
  have S0:=Same.new (o:= .tup []) hp0
  have S1:=Same.new (o:= .lst []) hlp
  have hlpH:H lp=none:=zcj S0 hlp
  have S01:=S0.trans S1
  have hp01:=S1 _ _ (zd (H:=H) (a:=p0) (o:= .tup []))
  have hlp1:(upd (upd H p0 (.tup [])) lp (.lst [])) lp=some (.lst []):=zd
  have hH1:=hH.same S01
  have nlp:lp≠a:=(hH.same S0).ne hlp
  generalize (upd (upd H p0 (HO.tup [])) lp (HO.lst []))=H1 at *
  have npw:pw≠a:=npa hpw
  refine vr rfl (.inl (ex2 pw _ ⟨rfl, .inr (.inl (.inl (S01 _ _ hpw))),ex2 _ _ ⟨rfl,rfl,1,rfl,1,rfl,w.length,by rw[ζa],by omega,?_⟩⟩))
  refine zbG zkz (λi σ' H'=>(∃pm ms P zs o6 o7 o8,σ'=[some (.ref a),some v,some (.ref pw),some (.str to),some (.ref pm),some (.ref lp),o6,o7,o8]/\H' pm=some (.tup (ms.map V.str))/\Pg hs lks hds to w O i ms P/\H' lp=some (.lst zs)/\RepL H' zs (P.reverse.map ppD)/\P.length=i)/\Hand H' a (n+i)/\Keep a H H') ?_ (λ_ _ _ _=>trivial) ?_ ?_
  ·exact ⟨(ex4 p0 [] [] [] (ex3 _ _ _ ⟨rfl,hp01, .inl ⟨rfl,rfl,rfl⟩,hlp1, .nil,rfl⟩)),hH1.mono (by omega),Keep.of S01⟩
  ·rintro i y σ' H2 hi rfl ⟨⟨pm,ms,P,zs,o6,o7,o8,rfl,hpm,hPg,hzs,rz,lP⟩,hH2,k2⟩
   obtain⟨k,hk⟩:∃k:Nat,k=w.length -1 -i:=⟨_,rfl⟩
   have ek:((w.length:Int) -1 -(i:Int))=(k:Int):=by omega
   rw[ek]
   have hkl:k<w.length:=by omega
   have hpw2:=k2 _ _ npw hpw
   have hv2:=hv.mono (.keep k2 hH hH2)
   have gd:zaY (w.map V.str) (some (k:Int)) none=(w.drop k).map V.str:=by rw[za3,List.map_drop]
   refine vr rfl (vr rfl (vr rfl ?_))
   dsimp only[zal]
   refine zav hpw2 λpp H3 hpp s3=>?_
   rw[gd] at hpp
   dsimp only[zaE]
   obtain⟨x,ws,ew⟩:∃x ws,w.drop k=x::ws:=by rw[List.drop_eq_getElem_cons hkl];exact⟨_,_,rfl⟩
   have ex:x=w.getD k "":=by
    rw[List.drop_eq_getElem_cons hkl] at ew
    injection ew with e1 _
    rw[←e1]
    simp[List.getD,hkl]
   rw[ew] at hpp
   have hxm:∀z∈x::ws,z∈hs:=λz hz=>W.mem z (List.mem_of_mem_drop (by rw[ew];exact hz))
   have hxn:∀z∈x::ws,zi z=true:=λz hz=>T.names z (hxm z hz)
   have lws:ws.length+1+k=w.length:=by
    have:=congrArg List.length ew
    rw[ζr,ζw] at this
    omega
   have hH3:=hH2.same s3
   have k3:=k2.trans (Keep.of s3)
   have hv3:=hv2.same s3
   have hpm3:=s3 _ _ hpm
   have Mm:Mr O ms:=by
    rcases hPg with⟨_,rfl,_⟩|⟨_,_,_,_,_,_,M,_⟩
    ·exact Mr.nil
    ·exact M
   obtain⟨j2,rs2,hj2,hlj2,er2⟩:=zmq T (hxm x ζp)
   obtain⟨j,rs,hj,hdj,er,hk'⟩:=zo9 T PO (hxm x ζp)
   have wm:(0<i->zaw (zS (x::ws) ms rs2)=false)->zcM hs lks hds (w.drop k)=some ms:=λhb=>by
    rcases hPg with⟨rfl,rfl,_⟩|⟨f,qs,_,_,c,hc,_,i0⟩
    ·have:ws=[]:=List.eq_nil_of_length_eq_zero (by omega)
     rw[ew,this,zcM]
    ·have ei:w.length -i=k+1:=by omega
     rw[ei] at hc
     obtain⟨x',ws',e'⟩:∃x' ws',ws=x'::ws':=by
      match ws,lws with
      |[],l=>exact absurd l (by simp only[List.length_nil];omega)
      |x'::ws',_=>exact ⟨_,_,rfl⟩
     have ed:w.drop (k+1)=ws:=by
      have:=congrArg (List.drop 1) ew
      rw[List.drop_drop] at this
      simpa[Nat.add_comm] using this
     have et:(to::w).getD (k+1) ""=x:=ex.symm
     rw[et,ed] at hc
     rw[ew,e',zd1,←e',hc]
     show(if zaw (zS (x::ws) ms (zaa hs lks x))=true then none else some ms)=some ms
     rw[er2,hb i0,if_neg (by decide)]
   refine⟨λσ' H4=>σ'=[some (.ref a),some v,some (.ref pw),some (.str to),some (.ref pm),some (.ref lp),some (.int (k:Int)),some (.ref pp),o8]/\Same H3 H4/\(0<i->zaw (zS (x::ws) ms rs2)=false),?_,?_⟩
   ·refine vr rfl (vr rfl (.inl (ex2 pw _ ⟨rfl, .inr (.inl (.inl (s3 _ _ hpw2))),ex2 _ _ ⟨rfl,rfl,ex2 _ _ ⟨rfl,rfl,vr rfl ?_⟩⟩⟩)))
    rw[ζa]
    by_cases h0:0<i
    ·refine zQ (ζf (by omega)) (vr rfl (vr rfl (vr rfl (ex8 v pp pm x ws ms g hs (ex4 ps lks hds j2 ⟨rs2,rfl,hv3,T,hj2,hlj2,hpp,hpm3,hxn,λy hy=>PO.nm y (Mm.mem y hy),by omega,ξb (Mm.toMk.len PO.few) (by decide),λv2 H4 rv s4=>⟨rfl,vr rfl ?_⟩⟩)))))
     rw[zdm rv]
     cases eb:zaw (zS (x::ws) ms rs2)with
     |false=>exact zW (by decide) ⟨rfl,s4,λ_=>rfl⟩
     |true=>
      refine zQ rfl (qN ?_ H4 ((hH3.same s4).mono (by omega)) (k3.trans (Keep.of s4)))
      rcases hPg with⟨z,_⟩|⟨f,qs,_,_,c,hc,_,i0⟩
      ·omega
      ·have ei:w.length -i=k+1:=by omega
       rw[ei] at hc
       obtain⟨x',ws',e'⟩:∃x' ws',ws=x'::ws':=by
        match ws,lws with
        |[],l=>exact absurd l (by simp only[List.length_nil];omega)
        |x'::ws',_=>exact ⟨_,_,rfl⟩
       have ed:w.drop (k+1)=ws:=by
        have:=congrArg (List.drop 1) ew
        rw[List.drop_drop] at this
        simpa[Nat.add_comm] using this
       have et:(to::w).getD (k+1) ""=x:=ex.symm
       rw[et,ed] at hc
       have hm:zcM hs lks hds (w.drop k)=none:=by
        rw[ew,e',zd1,←e',hc]
        show(if zaw (zS (x::ws) ms (zaa hs lks x))=true then none else some ms)=none
        rw[er2,eb,if_pos rfl]
       unfold cmM
       rw[zdU hkl hm]
    ·exact zW (by rw[ζo (by omega)]) (zW (by decide) ⟨rfl,Same.refl _,λz=>absurd z h0⟩)
   rintro σ' H4 ⟨rfl,s4,hb⟩
   have hmw:=wm hb
   have hH4:=hH3.same s4
   have k4:=k3.trans (Keep.of s4)
   have s34:=s4
   have hv4:=hv3.same s4
   have hpw4:=s4 _ _ (s3 _ _ hpw2)
   have hpp4:=s4 _ _ hpp
   have hpm4:=s4 _ _ hpm3
   have hzs4:=s4 _ _ (s3 _ _ hzs)
   have rz4:=(rz.mono (.of s3)).mono (.of s4)
   refine vr rfl ⟨few rfl,λq1 hq1=>?_⟩
   have T1:=Same.new (o:= .tup [V.str to]) hq1
   refine vr rfl (zak (xs:=[V.str to]) (ys:=w.map V.str) zd (T1 _ _ hpw4) (by rw[ζa];show 1+_<=_;omega) λq2 H5 hq2 s5=>?_)
   have s45:=T1.trans s5
   have hq2:H5 q2=some (.tup ((to::w).map V.str)):=hq2
   have aw:=zeg (w:=to::w) (i:=k) (by simp only[ζw];omega)
   generalize eto:(to::w).getD k ""=wh at *
   have hwh:wh∈hs:=by
    rw[←eto]
    have:(to::w).getD k ""∈to::w:=by
     have hk1:k<(to::w).length:=by simp only[ζw];omega
     simp only[List.getD,ζd hk1,Option.getD_some]
     exact List.getElem_mem hk1
    rcases List.mem_cons.mp this with h|h
    ·rw[h];exact hto
    ·exact W.mem _ h
   dsimp only[zaE]
   refine vr rfl (vr rfl (vr rfl (vr rfl (vr rfl (ixT hq2 aw (ex8 v pp pm (.str wh) x ws ms (some wh) (ex8 g hs ps lks hds j rs O ⟨rfl,hv4.same s45,T,hj,hdj,hk',PO.few,PO.nm,Mm.toMk,s45 _ _ hpp4,s45 _ _ hpm4, .inr (vr rfl ⟨rfl,T.names _ hwh⟩),hxn,by omega,λu H6 tu s6=>?_⟩)))))))
   have s46:=s45.trans s6
   have k6:=k4.trans (Keep.of s46)
   have hH6:=hH4.same s46
   have ecm:cmM hs lks hds wh (w.drop k)=zA (x::ws) (some wh) rs ms:=by
    unfold cmM
    rw[hmw]
    show zA (w.drop k) (some wh) (zaa hs hds ((w.drop k).headD "")) ms=_
    rw[ew]
    show zA (x::ws) (some wh) (zaa hs hds x) ms=_
    rw[er]
   cases eh:zA (x::ws) (some wh) rs ms with
   |none=>
    rw[eh] at tu
    cases(show u= .non from tu)
    refine vr rfl ⟨rfl,vr rfl (zQ rfl (qN ?_ H6 (hH6.mono (by omega)) k6))⟩
    exact zop (k:=k) hkl (by rw[eto,ecm,eh])
   |some t=>
   rw[eh] at tu
   obtain⟨pt,rfl,hpt⟩:=tu
   have Mt:=zdC hk'.2 Mm eh
   have hpw6:=s46 _ _ hpw4
   have hq26:=s6 _ _ hq2
   have hpp6:=s46 _ _ hpp4
   have hzs6:=s46 _ _ hzs4
   have a0:=zeg (w:=w) (i:=k) hkl
   rw[←ex] at a0
   refine vr rfl ⟨rfl,vr rfl (zW rfl (vr rfl ⟨.inl ⟨rfl,_,SqL.of hzs6⟩,vr rfl (vr rfl (ixT hpw6 a0 (vr rfl (vr rfl (ixT hq26 aw ?_)))))⟩))⟩
   refine vr rfl (ex3 a 9 _ ⟨rfl,hH6,by omega,by decide,by decide,λt9 H7 t90 t99 hH7 k7=>(ex2 _ _ ⟨rfl,rfl,vr rfl (vr rfl ⟨few rfl,λpn hpn=>?_⟩)⟩)⟩)
   have M67:=Mono.keep k7 hH6 hH7
   have hzs7:=k7 _ _ nlp hzs6
   have Sn:=Same.new (o:= .tup [V.str x,V.str wh,V.int (1+t9),V.ref pp,V.ref pt]) hpn
   have rn:Rep (upd H7 pn (.tup [V.str x,V.str wh,V.int (1+t9),V.ref pp,V.ref pt])) (.ref pn) (ppD ⟨x,wh,1+t9,some (x::ws),t⟩):=zpS zd (hxn x ζp) (T.names _ hwh) (Sn _ _ (M67.tup _ _ hpp6)) (Sn _ _ (M67.tup _ _ hpt)) hxn (λz hz=>PO.nm z (Mt.mem z hz)) (by simp only[ζw];omega) (ξb (Mt.toMk.len PO.few) (by decide))
   have rz8:=((rz4.mono (.of s46)).mono M67).mono (.of Sn)
   have hzs8:=Sn _ _ hzs7
   have lz:=rz.1
   rw[ζa,List.length_reverse] at lz
   have ei1:w.length -(i+1)=k:=by omega
   refine ex3 lp _ _ ⟨rfl,rfl,hzs8,zm (by omega),⟨pt,t,⟨x,wh,1+t9,some (x::ws),t⟩::P,ex4 _ _ _ _ ⟨rfl,?_, .inr (ex2 _ _ ⟨rfl,rfl,?_,?_,Mt,by omega⟩),zd,?_,by rw[ζw,lP]⟩⟩,?_,?_⟩
   ·have hpt8:=Sn _ _ (M67.tup _ _ hpt)
    have ne:pt≠lp:=λz=>by
     subst z
     rw[hpt8] at hzs8
     cases hzs8
    rw[zr ne]
    exact hpt8
   ·rw[ei1,ew,eto]
    rcases hPg with⟨rfl,rfl,rfl⟩|⟨f,qs,rfl,hfm,c,hc,_,i0⟩
    ·have:ws=[]:=List.eq_nil_of_length_eq_zero (by omega)
     subst this
     exact .one (by omega) (by rw[er];exact eh)
    ·have ei:w.length -i=k+1:=by omega
     rw[ei] at c
     obtain⟨x',ws',e'⟩:∃x' ws',ws=x'::ws':=by
      match ws,lws with
      |[],l=>exact absurd l (by simp only[List.length_nil];omega)
      |x'::ws',_=>exact ⟨_,_,rfl⟩
     have ed:w.drop (k+1)=ws:=by
      have:=congrArg (List.drop 1) ew
      rw[List.drop_drop] at this
      simpa[Nat.add_comm] using this
     have et:(to::w).getD (k+1) ""=x:=ex.symm
     rw[et,ed,e'] at c
     subst e'
     exact .more c (by rw[hfm,er2];exact hb i0) (by omega) (by rw[hfm,er];exact eh)
   ·rw[ei1,eto,ecm,eh]
   ·rw[List.reverse_cons,ξc]
    exact RepL.mono (rz8.append (.cons rn .nil)) (.lset hzs8)
   ·exact ((hH7.new hpn).updNe nlp).mono (by push_cast;omega)
   ·exact Keep.updNew ((k6.trans k7).trans (Keep.new hpn)) hlpH
  ·rintro σ' H2 ⟨⟨pm,ms,P,zs,o6,o7,o8,rfl,hpm,hPg,hzs,rz,lP⟩,hH2,k2⟩
   rcases hPg with⟨z,_⟩|⟨f,qs,rfl,hfm,c,hc,_,i0⟩
   ·omega
   rw[Nat.sub_self,List.drop_zero] at c
   have c:Ch hs lks hds to w (f::qs):=c
   rw[List.reverse_cons,ξc] at rz
   obtain⟨za,zf,rfl,ra,rf⟩:=zlx rz
   have lq:qs.length+1=w.length:=lP
   refine vr rfl ⟨1,rfl,ixL hzs (zeX _ _) (vr rfl ⟨1,rfl,vr rfl (ex2 lp _ ⟨rfl,SqL.of hzs,λp1 hp1=>(ex2 p1 _ ⟨rfl,SqL.of zd,λp2 hp2=>(ex2 p2 _ ⟨rfl, .inl ⟨SqL.of zd,λp3 hp3=>⟨few rfl,λp4 hp4=>?_⟩⟩⟩)⟩)⟩)⟩)⟩
   have ec:zaY (za ++ [zf]) none (some (-1))=za:=zny
   rw[ec] at hp2 hp3 hp4⊢
   have S1:=Same.new (o:= .lst za) hp1
   have S2:=Same.new (o:= .lst za.reverse) hp2
   have S3:=Same.new (o:= .tup za.reverse) hp3
   have S4:=Same.new (o:= .tup [zf, .ref p3]) hp4
   have s14:=((S1.trans S2).trans S3).trans S4
   refine qS _ f qs _ c ?_ ((hH2.same s14).mono (by omega)) (k2.trans (Keep.of s14))
   have ra4:=(ziL ra).mono (.of s14)
   rw[←List.map_reverse,List.reverse_reverse] at ra4
   exact .mk2 zd (rf.same s14) (.mkL (S4 _ _ zd) (by rw[ζa];omega) ra4)
end
section
variable{P:Program}{w:World}{K:PySem.W.Frag}{mg:Str->Option Value}{base:Heap}
noncomputable def zir:Sp:=λvs H Q _=>∃(u v:V) (f:Pp) (qs:List Pp) (g:Str) (hs:List Str) (ps:List (Str×Str)) (lks hds:List D),vs=[u,v]/\Rep H u (za5 g hs ps lks hds)/\TownOk g hs ps lks hds/\(∀d∈hds,zgI d=true)/\Rep H v (zcf f qs)/\(∀p∈f::qs,PpOk hs ps p/\p.marks.length<=40)/\qs.length<=10/\∀H',Same H H'->Q (.bl (lrB g hs ps lks hds f qs)) H'
theorem zl6(Y:Ev K mg):FnOk P w K mg base CX0 6 Y.a__law_is_right Y.d__law_is_right zbb zir:=by
 have G__law_tied:FnOk P w K mg base CX0 1 Y.a__law_tied Y.d__law_tied zbS zhz:=ziv Y
 have G__law_worth:FnOk P w K mg base CX0 5 Y.a__law_worth Y.d__law_worth zbD zeU:=zha Y
 have G__law_handed:FnOk P w K mg base CX0 5 Y.a__law_handed Y.d__law_handed zaV zcZ:=zfF Y
 refine Y._law_is_right.fn.okQ c__law_is_right (λvs H Q E h=>?_) (λcdv A outer s H vs Q E hr h=>?_)
 ·obtain ⟨u,v,f,qs,g,hs,ps,lks,hds,rfl,_⟩:=h;rfl
 ·obtain ⟨u,v,f,qs,g,hs,ps,lks,hds,rfl,hu,T,hf12,hd,hP,lq,q⟩:=h
  obtain⟨p,pr,pt,pl,pa,vt,vl,va,rfl,hp,hpr,hpt,rt,hpl,rl,hpa,ra⟩:=zbN hu
  have hf:=(hP f ζp).1
  obtain⟨pd,xf,xq,rfl,hpd,rf,rq⟩:=hd.of2
  have rq0:=rq
  obtain⟨pf,y1,y2,y3,y4,y5,rfl,hpf,r1,r2,r3,r4,r5⟩:=zf9 rf
  obtain⟨pq,us,rfl,hpq,ru,_⟩:=rq.ofT
  cases r1 with|str _ _=>
  cases r2 with|str _ _=>
  have lu:=ru.1
  rw[ζa] at lu
  refine⟨_,(zj (zdA (qv 1) (zc5 2 rfl (zx (zo 2 c__law_is_right.nd) (zx (zo 3 c__law_is_right.nd) za4))))
   (zj (zI 4 c__law_is_right.nd (zt ix_tup (qv 2) zh))
   (zj (zau (zH zeH (qv 4) zck) (zn (zy (za2 (zfn (zeR hr)) (qv 3) (zv ze)))) zO)
   (zj (zau (t_w (zdT (zH zeP (zt ix_tup (qv 4) zh) (zt ix_tup (qv 2) zh)) (zdT (zH zeP (zt ix_tup (qv 4) (zeo zbH zh)) (zt ix_tup (qv 0) zh)) (zdT (zH zeP (zq zE Y.len zaj (zc (qv 3) ze)) (zG zdP (zq zE Y.len zaj (zc (qv 4) ze)) zh)) (zdS (zH ziz (zq zlg Y.len zaj (zc (zao (zlQ rfl) Y.set zpx (zc (qv 4) ze)) ze)) (zq zE Y.len zaj (zc (qv 4) ze)))))))) (zn (zy zco)) zO)
   (zj (zI 5 c__law_is_right.nd (zG zad (zv (zc (qv 2) ze)) (qv 3)))
   (zj (zI 6 c__law_is_right.nd (zv ze))
   (zj (zcJ PassesOwn.never rfl (zme Y.range (zc (zG zdP (zq zE Y.len zaj (zc (qv 4) ze)) zh) (zc (zeo zbH zh) (zc (zeo zbH zh) ze)))) (zo 7 c__law_is_right.nd) (zj (zI 8 c__law_is_right.nd (zt ix_tup (zG zad (zv (zc (zt ix_tup (qv 2) zh) ze)) (qv 4)) (qv 7)))
   (zj (zau (t_w (zdT (zH zcV (zt ix_tup (qv 4) (qv 7)) (zt ix_tup (qv 0) zh)) (zdT (zH (zfd (zeR hr)) (zbL zR (zt ix_tup (qv 5) (qv 7)) zae (zV zh)) (zv (zc (zt ix_tup (qv 4) (qv 7)) (zc (qv 8) ze)))) (zdS (zH (zfd (zeR hr)) (zt ix_tup (zt ix_tup (qv 5) (qv 7)) zh) (zbL zR (qv 4) (zV (qv 7)) zae)))))) (zn (zy zco)) zO)
   (zb5 (zau (t_w (zdT (t_w (zkH (zH zes (qv 7) zh) (zh5 (zbX (zbp (zk G__law_tied (hr.mono (by decide)) Y._law_tied.mg Y._law_tied.kp Y._law_tied.b .nil zp (zc (qv 0) (zc (zt ix_tup (qv 4) (qv 7)) (zc (qv 8) ze))))))))) (zdS (t_w (zkH (zH ziz (qv 7) (zG zdP (zq zE Y.len zaj (zc (qv 4) ze)) zh)) (zh5 (zH zeH (zk G__law_worth (hr.mono (by decide)) Y._law_worth.mg Y._law_worth.kp Y._law_worth.b .nil zp (zc (qv 0) (zc (zbL zR (qv 4) (zV (qv 7)) zae) (zc (qv 6) ze)))) zck))))))) (zn (zy zco)) zO)
   (zj (zau (zH (zfd (zeR hr)) (zk G__law_handed (hr.mono (by decide)) Y._law_handed.mg Y._law_handed.kp Y._law_handed.b .nil zp (zc (qv 0) (zc (zbL zR (qv 4) (zV (qv 7)) zae) (zc (qv 6) (zc (qv 8) ze))))) (zt ix_tup (zt ix_tup (qv 5) (qv 7)) zh)) (zn (zy zco)) zO)
   (zn (zI 6 c__law_is_right.nd (zt ix_tup (zt ix_tup (qv 5) (qv 7)) zh))))))))
   (zn (zy zco))))))))),?_⟩
  refine vr rfl (ex2 pd _ ⟨rfl, .inl (.inl hpd),rfl,ex2 _ _ ⟨rfl,ex2 _ _ ⟨rfl,rfl,?_⟩⟩⟩)
  refine vr rfl (ixT hpf (zz (j:=3) rfl) ?_)
  dsimp only[zaE]
  refine zd5 λe e1=>?_
  refine vr rfl ⟨rfl,vr rfl ?_⟩
  rw[zdm r4]
  cases ew:f.way with
  |none=>
   refine zQ (by rfl) (vr rfl ⟨few rfl,λpe hpe=>?_⟩)
   have Se:=Same.new (o:= .tup []) hpe
   have trq:=zmP (rq0.same Se) (by rw[okD];exact zgs λd hd=>by obtain⟨p,hp,rfl⟩:=List.mem_map.mp hd;exact zj8 T.names (hP p (ξe _ hp)).1)
   rw[pyD] at trq
   refine⟨_,_,trq,zhX zd,ξb (Nat.min_le_right _ _) zjR,?_⟩
   rw[zgo]
   have q:=q _ Se
   unfold lrB at q
   rw[ew] at q
   have e:qs.isEmpty=decide (qs.map ppD=[]):=by cases qs<;>rfl
   have q:Q (.bl qs.isEmpty) _:=q
   rw[e] at q
   exact q
  |some w=>
  rw[ew] at r4
  obtain⟨pw,rfl,hpw⟩:=zax r4
  obtain⟨w1,w10,wn⟩:=hf.way w ew
  have eR:lrB g hs ps lks hds f qs=(ziw g f qs w&&(List.range w.length).all (lrC hs ps lks hds f qs w)):=by unfold lrB;rw[ew]
  rw[eR] at q
  unfold ziw at q
  obtain⟨x,ws,rfl⟩:∃x ws,w=x::ws:=by
   match w,w1 with
   |x::ws,_=>exact ⟨x,ws,rfl⟩
  refine zW rfl (e1 _ _ (zd5 λe e2=>(vr rfl (ixT hpw at0 (vr rfl (ixT hpf at0 ⟨rfl,vr rfl ?_⟩))))))
  rw[zZ]
  have eH:decide ((x::ws).headD ""=f.one)=decide (x=f.one):=rfl
  rw[eH] at q
  cases eh:decide (x=f.one)with
  |false=>
   have q:=q H (Same.refl H)
   rw[eh] at q
   exact zQ rfl (zQ rfl q)
  |true=>
  rw[eh] at q
  obtain⟨w0,z,ez⟩:∃w0 z,x::ws=w0 ++ [z]:=⟨(x::ws).dropLast,(x::ws).getLast (by simp),(List.dropLast_concat_getLast _).symm⟩
  have hat:atI ((x::ws).map V.str) (-1)=some (.str z):=by rw[ez,ξc];exact zeX _ _
  have eZ:decide ((x::ws).getLast?=some g)=decide (z=g):=by
   rw[ez,List.getLast?_append]
   simp
  rw[eZ] at q
  refine zW rfl (vr rfl ⟨1,rfl,ixT hpw hat (vr rfl (ixT hp at0 ⟨rfl,vr rfl ?_⟩))⟩)
  rw[zZ]
  cases ezz:decide (z=g)with
  |false=>
   have q:=q H (Same.refl H)
   rw[ezz] at q
   exact zQ rfl (zQ rfl q)
  |true=>
  rw[ezz] at q
  refine zW rfl (vr rfl (.inl (ex2 pq _ ⟨rfl, .inr (.inl (.inl hpq)),vr rfl (.inl (ex2 pw _ ⟨rfl, .inr (.inl (.inl hpw)),ex2 _ _ ⟨rfl,rfl,rfl,vr rfl ?_⟩⟩))⟩)))
  have eL:decide (V.int (us.length:Int)=V.int ((((x::ws).map V.str).length:Int) -1))=decide (qs.length+1=(x::ws).length):=by
   rw[ξf,ζg,ζg,V.int.injEq,ζa]
   omega
  show(if(!decide (V.int (us.length:Int)=V.int ((((x::ws).map V.str).length:Int) -1)))=true then _ else _)
  rw[eL]
  cases el:decide (qs.length+1=(x::ws).length)with
  |false=>
   have q:=q H (Same.refl H)
   rw[el] at q
   exact zQ rfl (zQ rfl q)
  |true=>
  rw[el] at q
  have el':=ζh el
  refine zW rfl (vr rfl (ex2 pw (x::ws) ⟨rfl,hpw,by omega,λys hyn hym ps1 hps1=>?_⟩))
  have S1:=Same.new (o:=StO P w ps1 ys.length) hps1
  have ly:ys.length<=(x::ws).length:=zb0 hyn λz hz=>(hym z).mp hz
  refine ex2 ps1 ys.length ⟨rfl,zd,by omega,vr rfl (.inl (ex2 pw _ ⟨rfl, .inr (.inl (.inl (S1 _ _ hpw))),ex2 _ _ ⟨rfl,rfl,vr rfl ?_⟩⟩))⟩
  rw[ζa,zqu hyn hym]
  cases en:decide (x::ws).Nodup with
  |false=>
   have q:=q _ S1
   rw[en] at q
   exact zQ rfl q
  |true=>
  rw[en] at q
  have q:∀H',Same H H'->Q (.bl ((List.range (x::ws).length).all (lrC hs ps lks hds f qs (x::ws)))) H':=q
  refine zW rfl (e2 _ _ ?_)
  have hpq1:=S1 _ _ hpq
  refine vr rfl ⟨few rfl,λq1 hq1=>?_⟩
  have S2:=Same.new (o:= .tup [V.ref pf]) hq1
  refine vr rfl (zak (xs:=[V.ref pf]) (ys:=us) zd (S2 _ _ hpq1) (by show 1+_<=_;omega) λpt2 H2 hpt2 s2=>?_)
  have s02:=(S1.trans S2).trans s2
  have hpt2:H2 pt2=some (.tup (.ref pf::us)):=hpt2
  have rP:RepL H2 (.ref pf::us) ((f::qs).map ppD):= .cons (rf.same s02) (ru.mono (.of s02))
  dsimp only[zaE]
  refine⟨few rfl,λp0 hp0=>?_⟩
  have S3:=Same.new (o:= .tup []) hp0
  have s03:=s02.trans S3
  have hp03:(upd H2 p0 (.tup [])) p0=some (.tup (([]:List Str).map V.str)):=zd
  have rP3:=rP.mono (.of S3)
  have hpt3:=S3 _ _ hpt2
  generalize (upd H2 p0 (HO.tup []))=H3 at *
  refine vr rfl (.inl (ex2 pw _ ⟨rfl, .inr (.inl (.inl (s03 _ _ hpw))),ex2 _ _ ⟨rfl,rfl,1,rfl,1,rfl,(x::ws).length,by rw[ζa],by omega,?_⟩⟩))
  refine zbG zkz (λi σ' H'=>(∃pm ms o7 o8,σ'=[some (.ref p),some (.ref pd),some (.ref pf),some (.ref pq),some (.ref pw),some (.ref pt2),some (.ref pm),o7,o8]/\H' pm=some (.tup (ms.map V.str))/\(i<(x::ws).length->ms=(zaS qs).getD ((x::ws).length -1 -i) []))/\(∀k,(x::ws).length -i<=k->k<(x::ws).length->lrC hs ps lks hds f qs (x::ws) k=true)/\Same H3 H') ?_ (λ_ _ _ _=>trivial) ?_ ?_
  ·refine ⟨(ex4 p0 [] _ _ ⟨rfl,hp03,λ_=>?_⟩),λk h1 h2=>by omega,Same.refl _⟩
   have e:(x::ws).length -1 -0=(qs.map (·.marks)).length:=by rw[ζa];omega
   rw[e]
   unfold zaS
   simp only[List.getD,List.getElem?_append_right (ζu _),Nat.sub_self]
   rfl
  ·rintro i y σ' H4 hi rfl ⟨⟨pm,ms,o7,o8,rfl,hpm,hms⟩,hC,s4⟩
   have hms:=hms hi
   obtain⟨k,hk⟩:∃k:Nat,k=(x::ws).length -1 -i:=⟨_,rfl⟩
   have ek:(((x::ws).length:Int) -1 -(i:Int))=(k:Int):=by omega
   rw[ek]
   rw[←hk] at hms
   have hkl:k<(x::ws).length:=by omega
   have hkq:k<(f::qs).length:=by rw[ζw,el'];exact hkl
   have hku:k<(V.ref pf::us).length:=by rw[ζw,lu,el'];exact hkl
   have s04:=s03.trans s4
   have hpw4:=s04 _ _ hpw
   have hpf4:=s04 _ _ hpf
   have hp4:=s04 _ _ hp
   have hpr4:=s04 _ _ hpr
   have hpt4:=s4 _ _ hpt3
   have hu4:=hu.same s04
   have hpk:(f::qs)[k]?=some ((f::qs).getD k f):=by simp only[List.getD,ζd hkq,Option.getD_some]
   have hpm0:=hP _ (ζl hpk)
   have rk:=(rP3.mono (.of s4)).2 k _ _ (ζd hku) (by rw[ζq,hpk];rfl)
   have atk:atI (V.ref pf::us) (k:Int)=some (V.ref pf::us)[k]:=zz (ζd hku)
   generalize (V.ref pf::us)[k]=vk at *
   have eCk:lrC hs ps lks hds f qs (x::ws) k=(lr1 hs f (x::ws) ((f::qs).getD k f) k&&(lr2 hs ps lks f (x::ws) ms k&&lr3 hs hds f (x::ws) ((f::qs).getD k f) ms k)):=by unfold lrC;rw[←hms]
   have msn:(∀y∈ms,zi y=true)/\ms.length<=40:=by
    rw[hms]
    unfold zaS
    rcases ξa k qs.length with z|z
    ·have:((qs.map λp:Pp=>p.marks)++ [[]]).getD k []=qs[k].marks:=by
      simp only[List.getD]
      rw[List.getElem?_append_left (by rw[ζa];exact z),ζq,ζd z];rfl
     rw[this]
     have:=hP qs[k] (ξe _ (List.getElem_mem z))
     exact⟨this.1.mnm,this.2⟩
    ·have:((qs.map λp:Pp=>p.marks)++ [[]]).getD k []=[]:=by
      simp only[List.getD]
      rw[List.getElem?_append_right (by rw[ζa];exact z),show k -(qs.map λp:Pp=>p.marks).length=0 by rw[ζa,ζw] at *;omega];rfl
     rw[this]
     exact⟨(λ_ z=>nomatch z),ξk _⟩
   generalize (f::qs).getD k f=pk at *
   obtain⟨okk,m40⟩:=hpm0
   obtain⟨pp,z1,z2,z3,z4,z5,rfl,hpp,t1,t2,t3,t4,t5⟩:=zf9 rk
   cases t1 with|str _ _=>
   cases t2 with|str _ _=>
   obtain⟨p5,rfl,hp5⟩:=zax t5
   have bad:lrC hs ps lks hds f qs (x::ws) k=false->∀H',Same H4 H'->Q (.bl false) H':=λe H' s'=>by
    have q:=q H' (s04.trans s')
    rw[show(List.range (x::ws).length).all (lrC hs ps lks hds f qs (x::ws))=false from List.all_eq_false.mpr ⟨k,List.mem_range.mpr hkl,by rw[e];decide⟩] at q
    exact q
   have hwhn:zi (zdl f (x::ws) k)=true:=by
    unfold zdl
    cases k with
    |zero=>exact T.names _ hf.to
    |succ k=>
     refine wn _ ?_
     show(x::ws).getD k ""∈x::ws
     have:k<(x::ws).length:=by omega
     simp only[List.getD,ζd this,Option.getD_some]
     exact List.getElem_mem this
   refine vr rfl (ixT hpf4 at1 ⟨few rfl,λb1 hb1=>?_⟩)
   have B1:=Same.new (o:= .tup [V.str f.to]) hb1
   refine vr rfl (zak (xs:=[V.str f.to]) (ys:=(x::ws).map V.str) zd (B1 _ _ hpw4) (by rw[ζa];show 1+_<=_;omega) λb2 H5 hb2 s5=>?_)
   have s45:=B1.trans s5
   have hb2:H5 b2=some (.tup ((f.to::x::ws).map V.str)):=hb2
   have aw:=zeg (w:=f.to::x::ws) (i:=k) (by simp only[ζw] at hkl⊢;omega)
   have a0:=zeg (w:=x::ws) (i:=k) hkl
   have eW:(f.to::x::ws).getD k ""=zdl f (x::ws) k:=rfl
   rw[eW] at aw
   refine vr rfl (ixT hb2 aw ?_)
   dsimp only[zaE]
   refine zd5 λe c1=>?_
   generalize ewh:zdl f (x::ws) k=wh at *
   have hxk:(x::ws).getD k ""∈x::ws:=by
    simp only[List.getD,ζd hkl,Option.getD_some]
    exact List.getElem_mem hkl
   have nxk:=wn _ hxk
   generalize exk:(x::ws).getD k ""=xk at *
   have hpw5:=s45 _ _ hpw4
   have hp5':=s45 _ _ hp4
   have hpr5:=s45 _ _ hpr4
   have hpt5:=s45 _ _ hpt4
   refine⟨_,rfl,_,rfl,pw,_,_,_,rfl,rfl, .inl (.inl hpw5),a0,_,rfl,p,_,1,_,rfl,rfl, .inl (.inl hp5'),at1,pr,_,rfl, .inr (.inl (.inl hpr5)),rfl,zbW,_,rfl,?_⟩
   have hin:(if true=true then !inV (V.str xk) (hs.map V.str)else inV (V.str xk) (hs.map V.str))=!decide (xk∈hs):=by
    rw[if_pos rfl,zdh]
    congr 1
    rw[ξf,ζg,List.any_eq_true]
    exact⟨λ⟨y,hy,e⟩=>by rw[←ζh e];exact hy,λh=>⟨_,h,ζf rfl⟩⟩
   rw[hin]
   cases e1:decide (xk∈hs)with
   |false=>exact zQ rfl (zQ rfl (bad (by rw[eCk];unfold lr1;rw[exk,e1];rfl) H5 s45))
   |true=>
   have hxh:xk∈hs:=ζh e1
   have hpp5:=s45 _ _ hpp
   have t45:=t4.same s45
   have ec:zaY [V.str pk.one,V.str pk.to,z3,z4,V.ref p5] none (some 2)=[pk.one,pk.to].map V.str:=zbw (n:=2)
   refine zW rfl (vr rfl (vr rfl (ixT hpt5 atk (vr rfl ?_))))
   refine zav hpp5 λb3 H6 hb3 s6=>?_
   rw[ec] at hb3
   refine vr rfl (vr rfl (ixT (s6 _ _ hpw5) a0 (vr rfl ⟨few rfl,λb4 hb4=>?_⟩)))
   have B4:=Same.new (o:= .tup [V.str xk,V.str wh]) hb4
   refine⟨_,_,zaK (xs:=[pk.one,pk.to]) (B4 _ _ hb3) (λy hy=>?_),zaK (xs:=[xk,wh]) zd (λy hy=>?_),ξb (Nat.min_le_left _ _) zai,vr rfl ?_⟩
   ·simp only[List.mem_cons,List.not_mem_nil,or_false] at hy
    rcases hy with rfl|rfl
    ·exact zD (T.names _ okk.one)
    ·exact zD (T.names _ okk.to)
   ·simp only[List.mem_cons,List.not_mem_nil,or_false] at hy
    rcases hy with rfl|rfl
    ·exact zD nxk
    ·exact zD hwhn
   have eqv:decide ([pk.one,pk.to]=[xk,wh])=decide (pk.one=xk/\pk.to=wh):=by
    rw[ξf,ζg,ζg]
    simp
   rw[zbB,eqv]
   have s57:=s6.trans B4
   have s47:=s45.trans s57
   generalize (upd H6 b4 (HO.tup [V.str xk,V.str wh]))=H7 at *
   cases e2:decide (pk.one=xk/\pk.to=wh)with
   |false=>exact zQ rfl (zQ rfl (bad (by rw[eCk];unfold lr1;rw[exk,ewh,e1,e2];rfl) H7 s47))
   |true=>
   have hpw7:=s57 _ _ hpw5
   have gd:zaY ((x::ws).map V.str) (some (k:Int)) none=((x::ws).drop k).map V.str:=by rw[za3,List.map_drop]
   refine zW rfl (vr rfl (vr rfl (ixT (s57 _ _ hpt5) atk (ixT (s57 _ _ hpp5) (zz (j:=3) rfl) (vr rfl (vr rfl (vr rfl ?_)))))))
   dsimp only[zal]
   refine zav hpw7 λb5 H8 hb5 s8=>?_
   rw[gd] at hb5
   have s58:=s57.trans s8
   have s48:=s47.trans s8
   have t48:=t4.same s48
   have td:∀y∈(x::ws).drop k,PyData.strOk y=true:=λy hy=>zD (wn y (List.mem_of_mem_drop hy))
   have hpw8:=s8 _ _ hpw7
   have hpm8:=s48 _ _ hpm
   have hu8:=hu4.same s48
   obtain⟨wk,edk⟩:∃wk,(x::ws).drop k=xk::wk:=by
    rw[←exk];exact⟨_,zg1 hkl⟩
   have wkn:∀y∈xk::wk,zi y=true:=λy hy=>wn y (List.mem_of_mem_drop (by rw[edk];exact hy))
   have lwk:wk.length<=9:=by
    have:=congrArg List.length edk
    rw[ζr,ζw (a:=xk)] at this
    omega
   obtain⟨j2,rs2,hj2,hlj2,er2⟩:=zmq T hxh
   obtain⟨j,rs,hj,hdj,er,hk',rs12⟩:=zo5 T hf12 hxh
   cases e3:decide (pk.way=some ((x::ws).drop k))with
   |false=>
    have fl:lrC hs ps lks hds f qs (x::ws) k=false:=by
     rw[eCk]
     unfold lr1
     rw[e3,Bool.and_false,Bool.and_false];rfl
    cases ey:pk.way with
    |none=>
     rw[ey] at t48
     have ez:z4= .non:=by cases t48;rfl
     subst ez
     exact⟨_,_,Tr.non,zaK hb5 td,ξb (Nat.min_le_right _ _) zai,vr rfl (zQ rfl (bad fl H8 s48))⟩
    |some w2=>
     rw[ey] at t48 e3
     obtain⟨b6,rfl,hb6⟩:=zax t48
     refine⟨_,_,zaK hb6 (λy hy=>zD ((okk.way w2 ey).2.2 y hy)),zaK hb5 td,ξb (Nat.min_le_right _ _) zai,vr rfl ?_⟩
     have e5:decide (w2=(x::ws).drop k)=false:=by
      rw[←e3,ξf,ζg,ζg,Option.some.injEq]
     rw[zbB,e5]
     exact zQ rfl (bad fl H8 s48)
   |true=>
   have l1:lr1 hs f (x::ws) pk k=true:=by
    unfold lr1
    rw[exk,ewh,e1,e2,e3];rfl
   have ey:pk.way=some ((x::ws).drop k):=ζh e3
   rw[ey] at t48
   obtain⟨b6,rfl,hb6⟩:=zax t48
   refine⟨_,_,zaK hb6 td,zaK hb5 td,ξb (Nat.min_le_right _ _) zai,vr rfl ?_⟩
   rw[zbB,ζf rfl]
   refine zW rfl (c1 _ _ ?_)
   refine⟨λσ' H9=>σ'=[some (.ref p),some (.ref pd),some (.ref pf),some (.ref pq),some (.ref pw),some (.ref pt2),some (.ref pm),some (.int (k:Int)),some (.str wh)]/\Same H8 H9/\lr2 hs ps lks f (x::ws) ms k=true,?_,?_⟩
   ·refine vr rfl (ex2 _ _ ⟨rfl,rfl,vr rfl ?_⟩)
    by_cases hk0:0<k
    ·refine zQ (ζf (by omega)) (vr rfl (vr rfl (vr rfl (ixT hpw8 a0 (vr rfl (ex8 (.ref p) xk wh g hs ps lks hds ⟨rfl,hu8,T,nxk,hwhn,λHT sHH=>(vr rfl ?_)⟩))))))
     cases et:decide (wh∈zan ps xk)with
     |false=>
      refine zQ rfl (zQ rfl (bad ?_ HT (s48.trans sHH)))
      rw[eCk]
      unfold lr2
      rw[ζf hk0,exk,ewh,et]
      cases lr1 hs f (x::ws) pk k<;>rfl
     |true=>
     have fst:(!(decide (0<k)&&!decide (zdl f (x::ws) k∈zan ps ((x::ws).getD k ""))))=true:=by rw[ewh,exk,et,Bool.not_true,Bool.and_false];rfl
     refine zW rfl ?_
     refine vr rfl (vr rfl (.inl (ex2 pw _ ⟨rfl, .inr (.inl (.inl (sHH _ _ hpw8))),ex2 _ _ ⟨rfl,rfl,ex2 _ _ ⟨rfl,rfl,vr rfl ?_⟩⟩⟩)))
     rw[ζa]
     by_cases hl1:k+1<(x::ws).length
     ·refine zQ (ζf (by omega)) (vr rfl (vr rfl (vr rfl (vr rfl ?_))))
      dsimp only[zal]
      refine zav (sHH _ _ hpw8) λb3 HB hb3 sB=>?_
      rw[gd,edk] at hb3
      refine vr rfl (ex8 (.ref p) b3 pm xk wk ms g hs (ex4 ps lks hds j2 ⟨rs2,rfl,(hu8.same sHH).same sB,T,hj2,hlj2,hb3,sB _ _ (sHH _ _ hpm8),wkn,msn.1,by omega,ξb msn.2 (by decide),λv2 HC rv sC=>⟨rfl,vr rfl ?_⟩⟩))
      rw[zdm rv]
      cases eb:zaw (zS (xk::wk) ms rs2)with
      |true=>
       refine zQ rfl (bad ?_ HC (((s48.trans sHH).trans sB).trans sC))
       rw[eCk]
       unfold lr2
       rw[ζf hl1,exk,er2,edk,eb,Bool.and_true,Bool.not_true,Bool.and_false,Bool.false_and,Bool.and_false]
      |false=>
       refine zW (by decide) ⟨rfl,(sHH.trans sB).trans sC,?_⟩
       unfold lr2
       rw[fst,Bool.true_and,exk,er2,edk,eb,Bool.and_false];rfl
     ·refine zW (by rw[ζo (by omega)]) (zW (by decide) ⟨rfl,sHH,?_⟩)
      unfold lr2
      rw[fst,Bool.true_and,ζo hl1];rfl
    ·have fst:(!(decide (0<k)&&!decide (zdl f (x::ws) k∈zan ps ((x::ws).getD k ""))))=true:=by rw[ζo hk0];rfl
     have sHH:=Same.refl H8
     refine zW (by rw[ζo (by omega)]) (zW (by decide) ?_)
     refine vr rfl (vr rfl (.inl (ex2 pw _ ⟨rfl, .inr (.inl (.inl (sHH _ _ hpw8))),ex2 _ _ ⟨rfl,rfl,ex2 _ _ ⟨rfl,rfl,vr rfl ?_⟩⟩⟩)))
     rw[ζa]
     by_cases hl1:k+1<(x::ws).length
     ·refine zQ (ζf (by omega)) (vr rfl (vr rfl (vr rfl (vr rfl ?_))))
      dsimp only[zal]
      refine zav (sHH _ _ hpw8) λb3 HB hb3 sB=>?_
      rw[gd,edk] at hb3
      refine vr rfl (ex8 (.ref p) b3 pm xk wk ms g hs (ex4 ps lks hds j2 ⟨rs2,rfl,(hu8.same sHH).same sB,T,hj2,hlj2,hb3,sB _ _ (sHH _ _ hpm8),wkn,msn.1,by omega,ξb msn.2 (by decide),λv2 HC rv sC=>⟨rfl,vr rfl ?_⟩⟩))
      rw[zdm rv]
      cases eb:zaw (zS (xk::wk) ms rs2)with
      |true=>
       refine zQ rfl (bad ?_ HC (((s48.trans sHH).trans sB).trans sC))
       rw[eCk]
       unfold lr2
       rw[ζf hl1,exk,er2,edk,eb,Bool.and_true,Bool.not_true,Bool.and_false,Bool.false_and,Bool.and_false]
      |false=>
       refine zW (by decide) ⟨rfl,(sHH.trans sB).trans sC,?_⟩
       unfold lr2
       rw[fst,Bool.true_and,exk,er2,edk,eb,Bool.and_false];rfl
     ·refine zW (by rw[ζo (by omega)]) (zW (by decide) ⟨rfl,sHH,?_⟩)
      unfold lr2
      rw[fst,Bool.true_and,ζo hl1];rfl
   rintro σ' H9 ⟨rfl,s9,l2⟩
   have s49:=s48.trans s9
   refine zd5 λe c2=>(vr rfl (vr rfl (vr rfl (vr rfl ?_))))
   dsimp only[zal]
   refine zav (s9 _ _ hpw8) λb7 HB hb7 sB=>?_
   rw[gd,edk] at hb7
   have s4B:=s49.trans sB
   refine vr rfl (vr rfl (ex8 (.ref p) b7 pm (.str wh) xk wk ms (some wh) (ex8 g hs ps lks hds j rs (Mn 40) ⟨rfl,hu4.same s4B,T,hj,hdj,hk',zm1 hk' (by omega),⟨msn.1,msn.2⟩,hb7,s4B _ _ hpm, .inr (vr rfl ⟨rfl,hwhn⟩),wkn,by omega,λv2 HC tv sC=>?_⟩)))
   have s4C:=s4B.trans sC
   have el3:lr3 hs hds f (x::ws) pk ms k=decide (zA (xk::wk) (some wh) rs ms=some pk.marks):=by
    unfold lr3
    rw[ewh,exk,er,edk]
   refine vr rfl (vr rfl (ixT (s4C _ _ hpt4) atk (ixT (s4C _ _ hpp) (zz (j:=4) rfl) ?_)))
   have hp5C:=s4C _ _ hp5
   have fin:lr3 hs hds f (x::ws) pk ms k=true->∀k',(x::ws).length -(i+1)<=k'->k'<(x::ws).length->lrC hs ps lks hds f qs (x::ws) k'=true:=λl3 k' h1 h2=>by
    by_cases e:k'=k
    ·rw[e,eCk,l1,l2,l3];rfl
    ·exact hC k' (by omega) h2
   have nxt:i+1<(x::ws).length->pk.marks=(zaS qs).getD ((x::ws).length -1 -(i+1)) []:=λh=>by
    have ek1:(x::ws).length -1 -(i+1)=k -1:=by omega
    rw[ek1]
    obtain⟨k0,rfl⟩:∃k0,k=k0+1:=⟨k -1,by omega⟩
    have hq0:k0<qs.length:=by omega
    have e6:qs[k0]?=some pk:=by rw[List.getElem?_cons_succ] at hpk;exact hpk
    show pk.marks=(zaS qs).getD k0 []
    unfold zaS
    simp only[List.getD]
    rw[List.getElem?_append_left (by rw[ζa];exact hq0),ζq,e6];rfl
   cases eh:zA (xk::wk) (some wh) rs ms with
   |none=>
    rw[eh] at tv el3
    cases(show v2= .non from tv)
    refine⟨_,_,Tr.non,zaK (xs:=pk.marks) hp5C (λy hy=>zD (okk.mnm y hy)),ξb (Nat.min_le_right _ _) zai,vr rfl (zQ rfl (bad ?_ HC s4C))⟩
    rw[eCk,el3,show decide ((none:Option (List Str))=some pk.marks)=false from rfl,Bool.and_false,Bool.and_false]
   |some t=>
    rw[eh] at tv el3
    obtain⟨b8,rfl,hb8⟩:=tv
    have hm:∀y∈t,zi y=true:=zcT hk'.2 msn.1 eh
    refine⟨_,_,zaK (xs:=t) hb8 (λy hy=>zD (hm y hy)),zaK (xs:=pk.marks) hp5C (λy hy=>zD (okk.mnm y hy)),ξb (Nat.min_le_right _ _) zai,vr rfl ?_⟩
    have eb:decide (some t=some pk.marks)=decide (t=pk.marks):=by rw[ξf,ζg,ζg,Option.some.injEq]
    rw[eb] at el3
    rw[zbB]
    cases e9:decide (t=pk.marks)with
    |false=>
     refine zQ rfl (bad ?_ HC s4C)
     rw[eCk,el3,e9,Bool.and_false,Bool.and_false]
    |true=>
     refine zW rfl (c2 _ _ (vr rfl (vr rfl (ixT (s4C _ _ hpt4) atk (ixT (s4C _ _ hpp) (zz (j:=4) rfl) ⟨(ex4 p5 pk.marks _ _ ⟨rfl,hp5C,nxt⟩),fin (by rw[el3,e9]),s4.trans s4C⟩)))))
  ·rintro σ' H4 ⟨⟨pm,ms,o7,o8,rfl,hpm,_⟩,hC,s4⟩
   have q:=q H4 (s03.trans s4)
   rw[show(List.range (x::ws).length).all (lrC hs ps lks hds f qs (x::ws))=true from List.all_eq_true.mpr λk hk=>hC k (by omega) (List.mem_range.mp hk)] at q
   exact q
end
section
variable{P:Program}{w:World}{K:PySem.W.Frag}{mg:Str->Option Value}{base:Heap}
def PpK(hs:List Str)(ps:List (Str×Str))(p:Pp):Prop:=PpOk hs ps p/\p.marks.length<=40
def zja(hs:List Str)(ps:List (Str×Str))(d:D):Prop:=∃f qs,d=zcf f qs/\(∀p∈f::qs,PpK hs ps p)/\qs.length<=10
def LP(hs:List Str)(ps:List (Str×Str))(H:Hp)(l:Addr)(c:Nat):Prop:=∃(vs:List V) (Ps:List Pp),H l=some (.lst vs)/\RepL H vs (Ps.map ppD)/\(∀p∈Ps,PpK hs ps p)/\Ps.length<=c
def LL(hs:List Str)(ps:List (Str×Str))(H:Hp)(l:Addr)(c:Nat):Prop:=∃(vs:List V) (ds:List D),H l=some (.lst vs)/\RepL H vs ds/\(∀d∈ds,zja hs ps d)/\ds.length<=c
theorem zbk{H:Hp}{p:Addr}{x y:Str}{nr:Int}{vw vm:V}{w:Option (List Str)}{m:List Str}(e:H p=some (.tup [.str x, .str y, .int nr,vw,vm]))(hx:zi x=true)(hy:zi y=true)(hw:Rep H vw (wyD w))(hm:Rep H vm (tD m)):Rep H (.ref p) (ppD ⟨x,y,nr,w,m⟩):=
 .mkL (vs:=[.str x, .str y, .int nr,vw,vm]) e (ζk rfl) (.cons (.str _ (zC hx)) (.cons (.str _ (zC hy)) (.cons (.int nr) (.cons hw (.cons hm .nil)))))
theorem zdr{H:Hp}{p:Addr}{m:List Str}(e:H p=some (.tup (m.map V.str)))(h:∀x∈m,zi x=true)(l:m.length<=1000):Rep H (.ref p) (tD m):= .mkL e (by rw[ζa];exact l) (zbe λz hz=>zC (h z hz))
noncomputable def zpn:Sp:=λvs H Q _=>∃(v u:V) (k:Nat) (f p:Pp) (qs:List Pp),vs=[v, .int (k:Int),u]/\Rep H v (zcf f qs)/\Rep H u (ppD p)/\k<qs.length+1/\qs.length<=10/\∀(v':V) (f':Pp) (qs':List Pp) (H':Hp),f'::qs'=(f::qs).take k ++p::(f::qs).drop (k+1)->Rep H' v' (zcf f' qs')->Same H H'->Q v' H'
theorem zpF(Y:Ev K mg):FnOk P w K mg base CX0 1 Y.a__law_put Y.d__law_put zdb zpn:=by
 refine Y._law_put.fn.okQ c__law_put (λvs H Q E h=>?_) (λcdv A outer s H vs Q E hr h=>?_)
 ·obtain ⟨v,u,k,f,p,qs,rfl,_⟩:=h;rfl
 ·obtain ⟨v,u,k,f,p,qs,rfl,hv,hu,hk,lq,q⟩:=h
  obtain⟨pd,xf,xq,rfl,hpd,rf,rq⟩:=hv.of2
  obtain⟨pq,us,rfl,hpq,ru,_⟩:=rq.ofT
  have lu:=ru.1
  rw[ζa] at lu
  refine⟨_,(zj (zI 3 c__law_put.nd (zG zad (zG zad (zbL zR (zG zad (zv (zc (zt ix_tup (qv 0) zh) ze)) (zt ix_tup (qv 0) zh)) zae (zV (qv 1))) (zv (zc (qv 2) ze))) (zbL zR (zG zad (zv (zc (zt ix_tup (qv 0) zh) ze)) (zt ix_tup (qv 0) zh)) (zV (zG zat (qv 1) zh)) zae)))
   (zn (zy (zv (zc (zt ix_tup (qv 3) zh) (zc (zbL zR (qv 3) (zV zh) zae) ze)))))),?_⟩
  refine vr rfl (ixT hpd at0 ⟨few rfl,λb1 hb1=>?_⟩)
  have S1:=Same.new (o:= .tup [xf]) hb1
  refine vr rfl (ixT (S1 _ _ hpd) at1 (zak (xs:=[xf]) (ys:=us) zd (S1 _ _ hpq) (by show 1+_<=_;omega) λb2 H2 hb2 s2=>?_))
  have hb2:H2 b2=some (.tup (xf::us)):=hb2
  have s02:=S1.trans s2
  have lP:(xf::us).length=qs.length+1:=by rw[ζw,lu]
  refine vr rfl (vr rfl ?_)
  refine zav hb2 λb3 H3 hb3 s3=>?_
  rw[zbw] at hb3
  refine vr rfl ⟨few rfl,λb4 hb4=>?_⟩
  have S4:=Same.new (o:= .tup [u]) hb4
  refine zak (S4 _ _ hb3) zd (by rw[ζm];show _+1<=_;omega) λb5 H5 hb5 s5=>?_
  have s05:=((s02.trans s3).trans S4).trans s5
  have hpd5:=s05 _ _ hpd
  refine vr rfl (ixT hpd5 at0 ⟨few rfl,λb6 hb6=>?_⟩)
  have S6:=Same.new (o:= .tup [xf]) hb6
  refine vr rfl (ixT (S6 _ _ hpd5) at1 (zak (xs:=[xf]) (ys:=us) zd (S6 _ _ (s05 _ _ hpq)) (by show 1+_<=_;omega) λb7 H7 hb7 s7=>?_))
  have hb7:H7 b7=some (.tup (xf::us)):=hb7
  have s57:=S6.trans s7
  refine vr rfl (ex2 _ _ ⟨rfl,rfl,vr rfl ?_⟩)
  dsimp only[zal]
  refine zav hb7 λb8 H8 hb8 s8=>?_
  rw[show((k:Int)+1)=((k+1:Nat):Int) by omega,za3] at hb8
  have s58:=s57.trans s8
  refine zak (s58 _ _ hb5) hb8 (by rw[ζe,ζm,ζr];show(_+1)+_<=_;omega) λb9 H9 hb9 s9=>?_
  have s09:=(s05.trans s58).trans s9
  have rP:RepL H9 (xf::us) ((f::qs).map ppD):= .cons (rf.same s09) (ru.mono (.of s09))
  have rN:RepL H9 (((xf::us).take k ++ [u])++(xf::us).drop (k+1)) (((f::qs).take k ++p::(f::qs).drop (k+1)).map ppD):=by
   rw[ξc,List.map_cons,List.map_take,List.map_drop,List.append_assoc]
   exact(rP.take k).append (.cons (hu.same s09) (rP.drop (k+1)))
  obtain⟨f',qs',ef⟩:∃f' qs',(f::qs).take k ++p::(f::qs).drop (k+1)=f'::qs':=by
   cases k with
   |zero=>exact ⟨_,_,rfl⟩
   |succ k=>exact ⟨_,_,rfl⟩
  have lN:qs'.length=qs.length:=by
   have:=congrArg List.length ef
   rw[ζe,ζm,ζw (a:=p),ζr,ζw (a:=f),ζw (a:=f')] at this
   omega
  rw[ef] at rN
  generalize ev:((xf::us).take k ++ [u])++(xf::us).drop (k+1)=vN at *
  obtain⟨u0,ur,rfl⟩:∃u0 ur,vN=u0::ur:=by
   match vN,rN with
   |u0::ur,_=>exact ⟨_,_,rfl⟩
   |[],r=>exact absurd r.1 (by simp)
  dsimp only[zaE]
  refine vr rfl (ixT hb9 at0 (vr rfl (vr rfl ?_)))
  dsimp only[zal]
  refine zav hb9 λbA HA hbA sA=>⟨few rfl,λbB hbB=>?_⟩
  have ec:zaY (u0::ur) (some 1) none=ur:=za3 (m:=1)
  rw[ec] at hbA
  have SB:=Same.new (o:= .tup [u0, .ref bA]) hbB
  have rB:=rN.mono (.of (sA.trans SB))
  exact q _ f' qs' _ ef.symm (.mk2 zd rB.head.1 (.mkL (SB _ _ hbA) (by rw[ζa];omega) rB.head.2)) ((s09.trans sA).trans SB)
end
section
variable{P:Program}{w:World}{K:PySem.W.Frag}{mg:Str->Option Value}{base:Heap}
noncomputable def zrA(K:PySem.W.Frag)(ta tb:TE):TE:=λσ H Q=>ta σ H λx H1=>∃k,zqA K x H1 k/\if k=true then Q x H1 else tb σ H1 Q
theorem zq1{X:Cx}{e1 e2:Expr}{es:List Expr}{pos:Pos}{ta tb:TE}(ha:QE X e1 ta)(hb:QE X (.BoolOp .Or (e2::es) pos) tb):QE X (.BoolOp .Or (e1::e2::es) pos) (zrA X.K ta tb):=⟨by
 intro pins s σ H Q I h
 refine BoolOp_or (thn (ha.o pins s σ H _ I h) λv s1 ⟨x,H1,I1,r1,q1⟩=>?_)
 obtain⟨k,hk,q1⟩:=q1
 refine thn (zqf pins s1 σ H1 x v (λk' H'=>if k'=true then Q x H' else tb σ H' Q) I1 r1 ⟨k,hk,q1⟩) λc s2 ⟨H2,I2,q2⟩=>?_
 cases c with
 |true=>exact ⟨x,H2,I2,r1,q2⟩
 |false=>exact hb.o pins s2 σ H2 Q I2 q2⟩
theorem PpK.to_{hs:List Str}{ps:List (Str×Str)}{p:Pp}(h:PpK hs ps p){y:Str}(h1:y∈hs)(h2:y∈zan ps p.one):PpK hs ps {p with to:=y}:=⟨⟨h.1.one,h1,h2,h.1.nr,h.1.mnm,h.1.ml,h.1.non,h.1.way⟩,h.2⟩
theorem PpK.mk_{hs:List Str}{ps:List (Str×Str)}{p:Pp}(h:PpK hs ps p){w:List Str}(hw:p.way=some w){m:List Str}(h1:∀x∈m,zi x=true)(h2:m.length<=40):PpK hs ps {p with marks:=m}:=⟨⟨h.1.one,h.1.to,h.1.tied,h.1.nr,h1,by show m.length<=90;omega,(λz=>by rw[show p.way=none from z] at hw;cases hw),h.1.way⟩,h2⟩
theorem PpK.wy_{hs:List Str}{ps:List (Str×Str)}{p:Pp}(h:PpK hs ps p){w:List Str}(h1:1<=w.length)(h2:w.length<=10)(h3:∀x∈w,zi x=true):PpK hs ps {p with way:=some w}:=⟨⟨h.1.one,h.1.to,h.1.tied,h.1.nr,h.1.mnm,h.1.ml,(λz=>nomatch z),λw' e=>by cases e;exact⟨h1,h2,h3⟩⟩,h.2⟩
theorem LP.cat{hs:List Str}{ps:List (Str×Str)}{H H':Hp}{l l':Addr}{c:Nat}{vs us:List V}{Ps Qs:List Pp}(r:RepL H vs (Ps.map ppD))(r':RepL H us (Qs.map ppD))(h1:∀p∈Ps,PpK hs ps p)(h2:∀p∈Qs,PpK hs ps p)(s:Same H H')(e:H' l=some (.lst (vs ++us)))(hc:Ps.length+Qs.length<=c):LP hs ps H' l c:=
 ⟨_,Ps ++Qs,e,by rw[ξc];exact(r.mono (.of s)).append (r'.mono (.of s)),λp hp=>(List.mem_append.mp hp).elim (h1 p) (h2 p),by rw[ζe];exact hc⟩
def RT(a:Addr)(u:V)(pd b2 pw pm ln:Addr)(k:Nat)(pk:Pp)(hs:List Str)(ps:List (Str×Str))(H4:Hp)(n:Int)(c:Nat):L2.St->Hp->Prop:=λσ' H'=>∃lX o11,σ'=[some (.ref a),some u,some (.ref pd),some (.ref b2),some (.int (k:Int)),some (.str pk.one),some (.str pk.to),some (.int pk.nr),some (.ref pw),some (.ref pm),some (.ref ln),o11,some (.ref lX)]/\LP hs ps H' lX c/\Hand H' a n/\Keep a H4 H'/\lX≠a/\H4 lX=none
theorem zbC{a l:Addr}{H H':Hp}(k:Keep a H H')(n:l≠a)(h:H' l=none):H l=none:=by
 cases e:H l with
 |none=>rfl
 |some o=>exact absurd (k l o n e) (by rw[h];exact λz=>nomatch z)
noncomputable def zgW:Sp:=λvs H Q _=>∃(a:Addr) (n:Int) (u v:V) (f:Pp) (qs:List Pp) (g:Str) (hs:List Str) (ps:List (Str×Str)) (lks hds:List D),vs=[.ref a,u,v]/\Hand H a n/\n<2^37/\Rep H u (za5 g hs ps lks hds)/\TownOk g hs ps lks hds/\Rep H v (zcf f qs)/\(∀p∈f::qs,PpK hs ps p/\p.marks.length<=14/\∃w,p.way=some w)/\qs.length<=9/\
 ∀(l:Addr) (H':Hp),H l=none->LL hs ps H' l 20->Hand H' a (n+10)->Keep a H H'->Q (.ref l) H'
theorem zjN(Y:Ev K mg):FnOk P w K mg base CX0 3 Y.a__law_papers_turned Y.d__law_papers_turned zar zgW:=by
 have G__law_take:FnOk P w K mg base CX0 1 Y.a__law_take Y.d__law_take zaf zdp:=zcU Y
 have G__law_pick:FnOk P w K mg base CX0 2 Y.a__law_pick Y.d__law_pick zag (zcO K):=zdN Y
 have G__law_near:FnOk P w K mg base CX0 2 Y.a__law_near Y.d__law_near zb6 zj2:=zkU Y
 have G__law_put:FnOk P w K mg base CX0 1 Y.a__law_put Y.d__law_put zdb zpn:=zpF Y
 refine Y._law_papers_turned.fn.okQ c__law_papers_turned (λvs H Q E h=>?_) (λcdv A outer s H vs Q E hr h=>?_)
 ·obtain ⟨a,n,u,v,f,qs,g,hs,ps,lks,hds,rfl,_⟩:=h;rfl
 ·obtain ⟨a,n,u,v,f,qs,g,hs,ps,lks,hds,rfl,hH,hn,hu,T,hv,hP,lq,q⟩:=h
  have T10:=T.ten
  obtain⟨pd,xf,xq,rfl,hpd,rf,rq⟩:=hv.of2
  obtain⟨pq,us,rfl,hpq,ru,_⟩:=rq.ofT
  have lu:=ru.1
  rw[ζa] at lu
  refine⟨_,(zj (zI 3 c__law_papers_turned.nd (zG zad (zv (zc (zt ix_tup (qc 2) zh) ze)) (zt ix_tup (qc 2) zh)))
   (zj (zc2 4 c__law_papers_turned.nd (zk G__law_take (hr.mono (by decide)) Y._law_take.mg Y._law_take.kp Y._law_take.b .nil zp (zc (qv 0) (zc (zq zE Y.len zaj (zc (qv 3) ze)) ze))))
   (zj (zdA (zt ix_tup (qv 3) (qc 4)) (zc5 5 rfl (zx (zcX 5 c__law_papers_turned.nd) (zx (zcX 6 c__law_papers_turned.nd) (zx (zcX 7 c__law_papers_turned.nd) (zx (zcX 8 c__law_papers_turned.nd) (zx (zcX 9 c__law_papers_turned.nd) za4)))))))
   (zb5 (zI 10 c__law_papers_turned.nd (zk G__law_near (hr.mono (by decide)) Y._law_near.mg Y._law_near.kp Y._law_near.b .nil zp (zc (qv 1) (zc (qc 5) ze))))
   (zj (zbU 11 (src:=[none,some 9]) o__law_papers_turned_1 rfl rfl c__law_papers_turned.nd (zbZ (zv (zc zaz (zc (qc 5) (zc zaz ze))))) (λ_ _ _ _ _=>(zo 0 o__law_papers_turned_1.nd)) (λ_ _ _ _ _=>(zc6 (zH (zeq (K:=K) rfl) (qv 0) (qc 1)))) (λ_ _ _ _ _=>(qv 0)))
   (zb5 (zbU 12 (src:=[none,some 9,some 7,some 5,some 6,some 8]) o__law_papers_turned_2 rfl rfl c__law_papers_turned.nd (zdt (qv 11)) (λ_ _ _ _ _=>(zo 0 o__law_papers_turned_2.nd)) (λ_ _ _ _ _=>zcR) (λ_ _ _ _ _=>(zv (zc (qc 3) (zc (qc 4) (zc (qc 2) (zc (qc 5) (zc (zao (zgw (K:=K) rfl) Y.tuple zbf (zc (zq (zgH (K:=K) rfl) Y.sorted zcn (zc (zG (znC (K:=K) rfl) (qc 1) (zv (zc (qv 0) ze))) ze)) ze)) ze))))))))
   (zb5 (zI 12 c__law_papers_turned.nd (zG zcd (qv 12) (zbs (zc (zv (zc (qc 5) (zc (qc 6) (zc (qc 7) (zc (qc 8) (zc (zbL zR (qc 9) (zV zh) zae) ze)))))) (zc (zv (zc (qc 5) (zc (qc 6) (zc (qc 7) (zc (qc 8) (zc (zmy (qc 9) (zeo zbH zh)) ze)))))) (zc (zv (zc (qc 5) (zc (qc 6) (zc (qc 7) (zc (qc 8) (zc (zG zad (qc 9) (qc 9)) ze)))))) ze))))))
   (zb5 (zI 12 c__law_papers_turned.nd (zG zcd (qv 12) (zbs (zc (zv (zc (qc 5) (zc (zk G__law_pick (hr.mono (by decide)) Y._law_pick.mg Y._law_pick.kp Y._law_pick.b .nil zp (zc (qv 0) (zc (qv 10) ze))) (zc (qc 7) (zc (qc 8) (zc (qc 9) ze)))))) (zc (zv (zc (qc 5) (zc (qc 6) (zc (zG zat (qc 7) zh) (zc (qc 8) (zc (qc 9) ze)))))) (zc (zv (zc (qc 5) (zc (qc 6) (zc (qc 7) (zc zck (zc (zv ze) ze)))))) ze))))))
   (zb5 (zI 12 c__law_papers_turned.nd (zG zcd (qv 12) (zbs (zc (zv (zc (zk G__law_pick (hr.mono (by decide)) Y._law_pick.mg Y._law_pick.kp Y._law_pick.b .nil zp (zc (qv 0) (zc (zk G__law_near (hr.mono (by decide)) Y._law_near.mg Y._law_near.kp Y._law_near.b .nil zp (zc (qv 1) (zc (qc 6) ze))) ze))) (zc (qc 6) (zc (qc 7) (zc (qc 8) (zc (qc 9) ze)))))) (zc (zv (zc (qc 6) (zc (qc 5) (zc (qc 7) (zc (qc 8) (zc (qc 9) ze)))))) ze)))))
   (zb5 (zI 12 c__law_papers_turned.nd (zG zcd (qv 12) (zbs (zc (zv (zc (qc 5) (zc (qc 6) (zc (qc 7) (zc (zq1 (zbL zR (qc 8) (zV zh) zae) (zd2 (qc 8))) (zc (qc 9) ze)))))) (zc (zv (zc (qc 5) (zc (qc 6) (zc (qc 7) (zc (zG zad (zv (zc (qc 6) ze)) (zbL zR (qc 8) zae (zV zh))) (zc (qc 9) ze)))))) ze)))))
   (zb5 (zdq (zfq PySem.F.plainAttrs_list PySem.F.slot_list_append PySem.F.type_list_append zaM (qv 12) (zc (zv (zc (qc 5) (zc (qc 6) (zc (qc 7) (zc (zmy (qc 8) (zeo zbH zh)) (zc (qc 9) ze)))))) ze)))
   (zn (zy (zaI (src:=[none,some 4,some 2]) o__law_papers_turned_3 rfl rfl (zdt (qv 12)) (λ_ _ _ _ _=>(zo 0 o__law_papers_turned_3.nd)) (λ_ _ _ _ _=>zcR) (λ_ _ _ _ _=>(zk G__law_put (hr.mono (by decide)) Y._law_put.mg Y._law_put.kp Y._law_put.b .nil zp (zc (qc 2) (zc (qc 1) (zc (qv 0) ze))))))))))))))))))),?_⟩
  refine vr rfl (ixT hpd at0 ⟨few rfl,λb1 hb1=>?_⟩)
  have S1:=Same.new (o:= .tup [xf]) hb1
  refine vr rfl (ixT (S1 _ _ hpd) at1 (zak (xs:=[xf]) (ys:=us) zd (S1 _ _ hpq) (by show 1+_<=_;omega) λb2 H2 hb2 s2=>?_))
  have hb2:H2 b2=some (.tup (xf::us)):=hb2
  have s02:=S1.trans s2
  have lP:(xf::us).length=qs.length+1:=by rw[ζw,lu]
  have hH2:=hH.same s02
  dsimp only[zaE]
  refine vr rfl (vr rfl (.inl (ex2 b2 _ ⟨rfl, .inr (.inl (.inl hb2)),ex3 a _ n ⟨rfl,hH2,by omega,by omega,by omega,λt H3 t0 t1 hH3 k3=>?_⟩⟩)))
  rw[lP] at t1
  obtain⟨k,rfl⟩:∃k:Nat,t=(k:Int):=⟨t.toNat,by omega⟩
  have hkl:k<qs.length+1:=by omega
  have M03:Mono H H3:=(Mono.of s02).trans (.keep k3 hH2 hH3)
  have K03:Keep a H H3:=(Keep.of s02).trans k3
  have hb23:=M03
  have hb2':=(Mono.keep k3 hH2 hH3).tup _ _ hb2
  have hu3:=hu.mono M03
  have hv3:=hv.mono M03
  have rP:RepL H3 (xf::us) ((f::qs).map ppD):= .cons (rf.mono M03) (ru.mono M03)
  have hku:k<(xf::us).length:=by omega
  have hkq:k<(f::qs).length:=hkl
  have hpk:(f::qs)[k]?=some (f::qs)[k]:=ζd hkq
  have rk:=rP.2 k _ _ (ζd hku) (by rw[ζq,hpk];rfl)
  have atk:atI (xf::us) (k:Int)=some (xf::us)[k]:=zz (ζd hku)
  obtain⟨okk,m14,w,ew⟩:=hP _ (List.getElem_mem hkq)
  generalize (f::qs)[k]=pk at *
  generalize (xf::us)[k]=vk at *
  obtain⟨pp,z1,z2,z3,z4,z5,rfl,hpp,t1',t2',t3',t4',t5'⟩:=zf9 rk
  cases t1' with|str _ _=>
  cases t2' with|str _ _=>
  cases t3' with|int _=>
  rw[ew] at t4'
  obtain⟨pw,rfl,hpw⟩:=zax t4'
  obtain⟨pm,rfl,hpm⟩:=zax t5'
  obtain⟨w1,w10,wn⟩:=okk.1.way w ew
  have n1:=T.names _ okk.1.one
  have n2:=T.names _ okk.1.to
  refine vr rfl (vr rfl (ixT hb2' atk (ex2 pp _ ⟨rfl, .inl (.inl hpp),rfl,ex2 _ _ ⟨rfl,ex2 _ _ ⟨rfl,ex2 _ _ ⟨rfl,ex2 _ _ ⟨rfl,ex2 _ _ ⟨rfl,rfl,?_⟩⟩⟩⟩⟩⟩)))
  refine⟨λσ' H'=>∃ln o11 o12,σ'=[some (.ref a),some u,some (.ref pd),some (.ref b2),some (.int (k:Int)),some (.str pk.one),some (.str pk.to),some (.int pk.nr),some (.ref pw),some (.ref pm),some (.ref ln),o11,o12]/\H3 ln=none/\H' ln=some (.lst ((hs.filter λy=>decide (y∈zan ps pk.one)).map V.str))/\Same H3 H',?_,?_⟩
  ·exact vr rfl (vr rfl (ex4 u pk.one g hs (ex3 ps lks hds ⟨rfl,hu3,T,okk.1.one,λln H4 hln eln s4=>(ex3 ln _ _ ⟨rfl,hln,eln,s4⟩)⟩)))
  rintro σ' H4 ⟨ln,o11,o12,rfl,hln,eln,s4⟩
  have hH4:=hH3.same s4
  have nln:ln≠a:=hH3.ne hln
  have t4:=t4'.same s4
  have t5:=t5'.same s4
  have pw4:=s4 _ _ hpw
  have pm4:=s4 _ _ hpm
  have hu4:=hu3.same s4
  have hv4:=hv3.same s4
  have ewy:wyD pk.way=tD w:=by rw[ew];rfl
  refine vr rfl ⟨few rfl,λbt hbt=>?_⟩
  have St:=Same.new (o:= .tup [V.str "aa",V.str pk.one,V.str "zz"]) hbt
  refine⟨bt,rfl,⟨_, .inl (.inl zd)⟩,?_⟩
  have hbt5:(upd H4 bt (.tup [V.str "aa",V.str pk.one,V.str "zz"])) bt=some (.tup ((["aa",pk.one,"zz"]:List Str).map V.str)):=zd
  have s35:=St
  have hH5:=hH4.same St
  have eln5:=St _ _ eln
  generalize (upd H4 bt (HO.tup [V.str "aa",V.str pk.one,V.str "zz"]))=H5 at *
  have nm3:∀x∈(["aa",pk.one,"zz"]:List Str),zi x=true:=λx hx=>by
   simp only[List.mem_cons,List.not_mem_nil,or_false] at hx
   rcases hx with rfl|rfl|rfl
   ·decide +kernel
   ·exact n1
   ·decide +kernel
  have hpm5:=s35 _ _ pm4
  refine zdj (ds:=(["aa",pk.one,"zz"]:List Str).map D.str) (g:=zkb pk.marks) (f:=λd=>d) (σr:=[some (.ref pm)]) (za0 (K:=K) (xs:=(["aa",pk.one,"zz"]:List Str).map V.str)) (λH' s'=> .inl (.inl (s' _ _ hbt5))) (zbe λx hx=>zC (nm3 x hx)) (by rw[ζa];exact ζk rfl) rfl ?_ (λx d HA sA rx hd=>by walk_at "dsp") λl6 us6 H6 s6 hl6 e6 r6=>?_
  ·intro x d HA Q1 sA rx hd q1
   obtain⟨b,_,rfl⟩:=List.mem_map.mp hd
   cases rx with|str _ _=>
   refine⟨_,rfl,_,rfl,pm,_,rfl, .inr (.inl (.inl (sA _ _ hpm5))),rfl,zbW,_,rfl,?_⟩
   rw[if_pos rfl,zdh]
   exact q1 HA (Same.refl _)
  rw[List.map_id',zfD] at r6
  have eus:=zek r6
  subst eus
  have hx6:∀y∈(["aa",pk.one,"zz"]:List Str).filter (λx=>!(pk.marks.any λy=>decide (y=x))),zi y=true:=λy hy=>nm3 y (List.mem_filter.mp hy).1
  have l36:((["aa",pk.one,"zz"]:List Str).filter (λx=>!(pk.marks.any λy=>decide (y=x)))).length<=3:=List.length_filter_le _ _
  generalize ((["aa",pk.one,"zz"]:List Str).filter (λx=>!(pk.marks.any λy=>decide (y=x))))=ns at *
  have s36:=s35.trans s6
  have hH6:=hH4.same s36
  dsimp only[zaE]
  refine⟨RT a u pd b2 pw pm ln k pk hs ps H4 (n+1) 3,?_,?_⟩
  ·refine vr rfl ⟨l6,rfl,⟨_,SqL.of e6⟩,?_⟩
   refine zkE (Pd:=λi d=>∃p,d=ppD p/\PpK hs ps p) (σr:=[some (.ref pm),some (.int pk.nr),some (.str pk.one),some (.str pk.to),some (.ref pw)]) (zcy (K:=K) (xs:=ns.map V.str)) (λH' s'=>SqL.of (s' _ _ e6)) rfl (by rw[ζa];omega) (λi x HA Q1 hi hx sA q1=>?_) (λl7 us7 ds7 H7 hl7 el7 r7 ln7 pd7 s7=>?_)
   ·rw[ζq] at hx
    obtain⟨y,ey,rfl⟩:∃y,ns[i]?=some y/\x= .str y:=by
     cases e:ns[i]? with
     |none=>rw[e] at hx;cases hx
     |some y=>rw[e] at hx;cases hx;exact⟨y,rfl,rfl⟩
    have ny:=hx6 y (ζl ey)
    have s3A:=s36.trans sA
    refine vr rfl (vr rfl (vr rfl (vr rfl (vr rfl (vr rfl ⟨few rfl,λc1 hc1=>?_⟩)))))
    have C1:=Same.new (o:= .tup [V.str y]) hc1
    refine zak (K:=K) (ys:=[V.str y]) (C1 _ _ (s3A _ _ pm4)) zd (by rw[ζa];show _+1<=_;omega) λc2 HB hc2 sB=>?_
    have hc2:HB c2=some (.tup ((pk.marks ++ [y]).map V.str)):=by rw[ξc];exact hc2
    refine⟨c2,pk.marks ++ [y],rfl, .inr (.inl (.inl hc2)),by rw[ζe];show _+1<64;omega,λss c3 hpm3 hss hc3=>(ex2 c3 _ ⟨rfl, .inl ⟨SqL.of zd,λc4 hc4=>⟨few rfl,λc5 hc5=>?_⟩⟩⟩)⟩
    have C3:=Same.new (o:= .lst (ss.map V.str)) hc3
    have C4:=Same.new (o:= .tup (ss.map V.str)) hc4
    have C5:=Same.new (o:= .tup [V.str pk.one,V.str pk.to,V.int pk.nr,V.ref pw,V.ref c4]) hc5
    have sN:=(((C1.trans sB).trans C3).trans C4).trans C5
    have nss:∀x∈ss,zi x=true:=λx hx=>by
     rcases List.mem_append.mp (hpm3.mem_iff.mp hx)with h|h
     ·exact okk.1.mnm x h
     ·rw[List.mem_singleton.mp h];exact ny
    have lss:ss.length<=40:=by rw[hpm3.length_eq,ζe];show _+1<=_;omega
    have rw5:=(t4.same s3A).same sN
    exact q1 _ (ppD {pk with marks:=ss}) _ (zbk zd n1 n2 (by rw[ew];exact rw5) (zdr (C5 _ _ zd) nss (by omega))) (vr rfl (okk.mk_ ew nss lss)) sN
   obtain⟨P7,rfl,hP7⟩:∃P7:List Pp,ds7=P7.map ppD/\∀p∈P7,PpK hs ps p:=by
    have key:∀{ds:List D},(∀(i:Nat) (d:D),ds[i]?=some d->∃p,d=ppD p/\PpK hs ps p)->∃P7:List Pp,ds=P7.map ppD/\∀p∈P7,PpK hs ps p:=by
     intro ds
     induction ds with
     |nil=>exact λ_=>⟨[],rfl,λ_ z=>nomatch z⟩
     |cons d ds ih=>
      intro h
      obtain⟨p,rfl,hp⟩:=h 0 d rfl
      obtain⟨Ps,rfl,hPs⟩:=ih λi d e=>h (i+1) d e
      exact⟨p::Ps,rfl,λx hx=>(List.mem_cons.mp hx).elim (λe=>by rw[e];exact hp) (hPs x)⟩
    exact key pd7
   rw[ζa] at ln7
   rw[ζa] at ln7
   exact ex2 l7 _ ⟨rfl,⟨us7,P7,el7,r7,hP7,by omega⟩,(hH6.same s7).mono (by omega),(Keep.of s36).trans (Keep.of s7),hH6.ne hl7,zcj s36 hl7⟩
  rintro σ' H7 ⟨l7,o11',rfl,⟨us7,P7,el7,r7,hP7,c7⟩,hH7,k47,nl7,hl74⟩
  have M47:=Mono.keep k47 hH4 hH7
  have pm7:=M47.tup _ _ pm4
  have rw7:=t4.mono M47
  have rm7:=t5.mono M47
  refine⟨RT a u pd b2 pw pm ln k pk hs ps H4 (n+1) 6,?_,?_⟩
  ·refine vr rfl (vr rfl (vr rfl (vr rfl (vr rfl (vr rfl (vr rfl ?_))))))
   dsimp only[zal]
   refine zav pm7 λc1 HA hc1 sA=>⟨few rfl,λc2 hc2=>?_⟩
   have em1:zaY (pk.marks.map V.str) (some 1) none=(pk.marks.drop 1).map V.str:=by rw[show(1:Int)=((1:Nat):Int)from rfl,za3,List.map_drop]
   rw[em1] at hc1
   have C2:=Same.new (o:= .tup [V.str pk.one,V.str pk.to,V.int pk.nr,V.ref pw,V.ref c1]) hc2
   have R1:=zbk (H:=upd HA c2 (.tup [V.str pk.one,V.str pk.to,V.int pk.nr,V.ref pw,V.ref c1])) (w:=pk.way) (m:=pk.marks.drop 1) zd n1 n2 (by rw[ewy];exact(rw7.same sA).same C2) (zdr (C2 _ _ hc1) (λx hx=>okk.1.mnm x (List.mem_of_mem_drop hx)) (by rw[ζr];omega))
   have s7B:=sA.trans C2
   generalize (upd HA c2 (HO.tup [V.str pk.one,V.str pk.to,V.int pk.nr,V.ref pw,V.ref c1]))=HB at *
   refine vr rfl (vr rfl (vr rfl (vr rfl (vr rfl (ex2 pm _ ⟨rfl, .inl (.inl (s7B _ _ pm7)),λc3 hc3=>⟨few rfl,λc4 hc4=>?_⟩⟩)))))
   rw[←List.map_reverse] at hc4
   have C3:=Same.new (o:= .tup (pk.marks.reverse.map V.str)) hc3
   have C4:=Same.new (o:= .tup [V.str pk.one,V.str pk.to,V.int pk.nr,V.ref pw,V.ref c3]) hc4
   have C34:=C3.trans C4
   have R2:=zbk (H:=upd (upd HB c3 (.tup (pk.marks.reverse.map V.str))) c4 (.tup [V.str pk.one,V.str pk.to,V.int pk.nr,V.ref pw,V.ref c3])) (w:=pk.way) (m:=pk.marks.reverse) zd n1 n2 (by rw[ewy];exact((rw7.same s7B).same C3).same C4) (zdr (C4 _ _ zd) (λx hx=>okk.1.mnm x (List.mem_reverse.mp hx)) (by rw[List.length_reverse];omega))
   have s7C:=s7B.trans C34
   rw[←List.map_reverse]
   generalize (upd (upd HB c3 (HO.tup (pk.marks.reverse.map V.str))) c4 (HO.tup [V.str pk.one,V.str pk.to,V.int pk.nr,V.ref pw,V.ref c3]))=HC at *
   refine vr rfl (vr rfl (vr rfl (vr rfl (vr rfl (vr rfl (zak (s7C _ _ pm7) (s7C _ _ pm7) (by rw[ζa];omega) λc5 HD hc5 sD=>⟨few rfl,λc6 hc6=>⟨few rfl,λc7 hc7=>?_⟩⟩))))))
   rw[←ξc] at hc5
   have C6:=Same.new (o:= .tup [V.str pk.one,V.str pk.to,V.int pk.nr,V.ref pw,V.ref c5]) hc6
   have R3:=zbk (H:=upd HD c6 (.tup [V.str pk.one,V.str pk.to,V.int pk.nr,V.ref pw,V.ref c5])) (w:=pk.way) (m:=pk.marks ++pk.marks) zd n1 n2 (by rw[ewy];exact((rw7.same s7C).same sD).same C6) (zdr (C6 _ _ hc5) (λx hx=>(List.mem_append.mp hx).elim (okk.1.mnm x) (okk.1.mnm x)) (by rw[ζe];omega))
   have C7:=Same.new (o:= .lst [V.ref c2,V.ref c4,V.ref c6]) hc7
   have s7E:=((s7C.trans sD).trans C6).trans C7
   have rA:RepL (upd (upd HD c6 (.tup [V.str pk.one,V.str pk.to,V.int pk.nr,V.ref pw,V.ref c5])) c7 (.lst [V.ref c2,V.ref c4,V.ref c6])) [V.ref c2,V.ref c4,V.ref c6] (([{pk with marks:=pk.marks.drop 1},{pk with marks:=pk.marks.reverse},{pk with marks:=pk.marks ++pk.marks}]:List Pp).map ppD):=
    .cons (((((R1.same C34).same sD).same C6)).same C7) (.cons (((R2.same sD).same C6).same C7) (.cons (R3.same C7) .nil))
   have eA:(upd (upd HD c6 (.tup [V.str pk.one,V.str pk.to,V.int pk.nr,V.ref pw,V.ref c5])) c7 (.lst [V.ref c2,V.ref c4,V.ref c6])) c7=some (.lst [V.ref c2,V.ref c4,V.ref c6]):=zd
   generalize (upd (upd HD c6 (HO.tup [V.str pk.one,V.str pk.to,V.int pk.nr,V.ref pw,V.ref c5])) c7 (HO.lst [V.ref c2,V.ref c4,V.ref c6]))=HE at *
   have lr7:=r7.1
   rw[ζa] at lr7
   refine ex4 l7 c7 _ _ ⟨rfl,rfl,s7E _ _ el7,eA,ξi (zm (by show _+3<=_;omega)),λl8 hl8=>?_⟩
   have C8:=Same.new (o:= .lst (us7 ++ [V.ref c2,V.ref c4,V.ref c6])) hl8
   have L8:LP hs ps (upd HE l8 (.lst (us7 ++ [V.ref c2,V.ref c4,V.ref c6]))) l8 6:= .cat (l':=l8) (r7.mono (.of s7E)) rA hP7 (λp hp=>by
    simp only[List.mem_cons,List.not_mem_nil,or_false] at hp
    rcases hp with rfl|rfl|rfl
    ·exact okk.mk_ ew (λx hx=>okk.1.mnm x (List.mem_of_mem_drop hx)) (by rw[ζr];omega)
    ·exact okk.mk_ ew (λx hx=>okk.1.mnm x (List.mem_reverse.mp hx)) (by rw[List.length_reverse];omega)
    ·exact okk.mk_ ew (λx hx=>(List.mem_append.mp hx).elim (okk.1.mnm x) (okk.1.mnm x)) (by rw[ζe];omega)) C8 zd (by show P7.length+3<=6;omega)
   exact ex2 l8 _ ⟨rfl,L8,(hH7.same (s7E.trans C8)).mono (by omega),k47.trans (Keep.of (s7E.trans C8)),(hH7.same s7E).ne hl8,zbC (k47.trans (Keep.of s7E)) ((hH7.same s7E).ne hl8) hl8⟩
  rintro σ' H8 ⟨l8,o11',rfl,⟨v8,P8,e8,r8,hP8,c8⟩,hH8,k48,nl8,hl84⟩
  have M48:=Mono.keep k48 hH4 hH8
  have eln8:=k48 _ _ nln eln
  refine⟨RT a u pd b2 pw pm ln k pk hs ps H4 (n+2) 9,?_,?_⟩
  ·have tin:pk.to∈hs.filter (λy=>decide (y∈zan ps pk.one)):=List.mem_filter.mpr ⟨okk.1.to,ζf okk.1.tied⟩
   refine vr rfl (vr rfl (vr rfl (vr rfl ⟨a,_,hH8,by omega, .inl (ex2 ln _ ⟨rfl,nln,SqL.of eln8,by rw[ζa];exact List.length_pos_of_mem tin,by rw[ζa];have:=List.length_filter_le (λy=>decide (y∈zan ps pk.one)) hs;omega,λvt H9 hvt hH9 k9=>?_⟩)⟩)))
   obtain⟨y1,hy1,rfl⟩:=List.mem_map.mp hvt
   obtain⟨hy1h,hy1n⟩:=List.mem_filter.mp hy1
   have hy1n:y1∈zan ps pk.one:=ζh hy1n
   have M89:=Mono.keep k9 hH8 hH9
   have rw9:=(t4.mono M48).mono M89
   have rm9:=(t5.mono M48).mono M89
   refine vr rfl (vr rfl (vr rfl ⟨few rfl,λd1 hd1=>?_⟩))
   have D1:=Same.new (o:= .tup [V.str pk.one,V.str y1,V.int pk.nr,V.ref pw,V.ref pm]) hd1
   have R1:=zbk (H:=upd H9 d1 (.tup [V.str pk.one,V.str y1,V.int pk.nr,V.ref pw,V.ref pm])) (w:=pk.way) (m:=pk.marks) zd n1 (T.names _ hy1h) (by rw[ewy];exact rw9.same D1) (rm9.same D1)
   generalize (upd H9 d1 (HO.tup [V.str pk.one,V.str y1,V.int pk.nr,V.ref pw,V.ref pm]))=HF at *
   refine vr rfl (vr rfl (vr rfl (ex2 _ _ ⟨rfl,rfl,vr rfl (vr rfl ⟨few rfl,λd2 hd2=>?_⟩)⟩)))
   have D2:=Same.new (o:= .tup [V.str pk.one,V.str pk.to,V.int (pk.nr+1),V.ref pw,V.ref pm]) hd2
   have R2:=zbk (H:=upd HF d2 (.tup [V.str pk.one,V.str pk.to,V.int (pk.nr+1),V.ref pw,V.ref pm])) (w:=pk.way) (m:=pk.marks) zd n1 n2 (by rw[ewy];exact(rw9.same D1).same D2) ((rm9.same D1).same D2)
   refine vr rfl (vr rfl (vr rfl ⟨few rfl,λd3 hd3=>⟨few rfl,λd4 hd4=>⟨few rfl,λd5 hd5=>?_⟩⟩⟩))
   have D3:=Same.new (o:= .tup []) hd3
   have D4:=Same.new (o:= .tup [V.str pk.one,V.str pk.to,V.int pk.nr,V.non,V.ref d3]) hd4
   have D5:=Same.new (o:= .lst [V.ref d1,V.ref d2,V.ref d4]) hd5
   have D35:=(D3.trans D4).trans D5
   have R3:=zbk (H:=upd (upd (upd HF d2 (.tup [V.str pk.one,V.str pk.to,V.int (pk.nr+1),V.ref pw,V.ref pm])) d3 (.tup [])) d4 (.tup [V.str pk.one,V.str pk.to,V.int pk.nr,V.non,V.ref d3])) (w:=none) (m:=[]) zd n1 n2 .non (zdr (D4 _ _ zd) (λ_ z=>nomatch z) (ξk _))
   have rB:RepL (upd (upd (upd (upd HF d2 (.tup [V.str pk.one,V.str pk.to,V.int (pk.nr+1),V.ref pw,V.ref pm])) d3 (.tup [])) d4 (.tup [V.str pk.one,V.str pk.to,V.int pk.nr,V.non,V.ref d3])) d5 (.lst [V.ref d1,V.ref d2,V.ref d4])) [V.ref d1,V.ref d2,V.ref d4] (([{pk with to:=y1},{pk with nr:=pk.nr+1},⟨pk.one,pk.to,pk.nr,none,[]⟩]:List Pp).map ppD):=
    .cons ((R1.same D2).same D35) (.cons (R2.same D35) (.cons (R3.same D5) .nil))
   have eB:(upd (upd (upd (upd HF d2 (.tup [V.str pk.one,V.str pk.to,V.int (pk.nr+1),V.ref pw,V.ref pm])) d3 (.tup [])) d4 (.tup [V.str pk.one,V.str pk.to,V.int pk.nr,V.non,V.ref d3])) d5 (.lst [V.ref d1,V.ref d2,V.ref d4])) d5=some (.lst [V.ref d1,V.ref d2,V.ref d4]):=zd
   have s9G:=(D1.trans D2).trans D35
   generalize (upd (upd (upd (upd HF d2 (HO.tup [V.str pk.one,V.str pk.to,V.int (pk.nr+1),V.ref pw,V.ref pm])) d3 (HO.tup [])) d4 (HO.tup [V.str pk.one,V.str pk.to,V.int pk.nr,V.non,V.ref d3])) d5 (HO.lst [V.ref d1,V.ref d2,V.ref d4]))=HG at *
   have lr8:=r8.1
   rw[ζa] at lr8
   have e89:=k9 _ _ nl8 e8
   refine ex4 l8 d5 _ _ ⟨rfl,rfl,s9G _ _ e89,eB,ξi (zm (by show _+3<=_;omega)),λl9 hl9=>?_⟩
   have D9:=Same.new (o:= .lst (v8 ++ [V.ref d1,V.ref d2,V.ref d4])) hl9
   have L9:LP hs ps (upd HG l9 (.lst (v8 ++ [V.ref d1,V.ref d2,V.ref d4]))) l9 9:= .cat (l':=l9) ((r8.mono M89).mono (.of s9G)) rB hP8 (λp hp=>by
    simp only[List.mem_cons,List.not_mem_nil,or_false] at hp
    rcases hp with rfl|rfl|rfl
    ·exact okk.to_ hy1h hy1n
    ·exact ⟨⟨okk.1.one,okk.1.to,okk.1.tied,by show 1<=pk.nr+1;have:=okk.1.nr;omega,okk.1.mnm,okk.1.ml,okk.1.non,okk.1.way⟩,okk.2⟩
    ·exact ⟨⟨okk.1.one,okk.1.to,okk.1.tied,okk.1.nr,(λ_ z=>nomatch z),ξk _,(λ_=>rfl),(λ_ z=>nomatch z)⟩,ξk _⟩) D9 zd (by show P8.length+3<=9;omega)
   exact ex2 l9 _ ⟨rfl,L9,(hH9.same (s9G.trans D9)).mono (by omega),(k48.trans k9).trans (Keep.of (s9G.trans D9)),(hH9.same s9G).ne hl9,zbC ((k48.trans k9).trans (Keep.of s9G)) ((hH9.same s9G).ne hl9) hl9⟩
  rintro σ' HI ⟨l9,o11',rfl,⟨v9,P9,e9,r9,hP9,c9⟩,hHI,k4I,nl9,hl94⟩
  have M4I:=Mono.keep k4I hH4 hHI
  refine⟨RT a u pd b2 pw pm ln k pk hs ps H4 (n+3) 11,?_,?_⟩
  ·have one_n:pk.one∈zan ps pk.to:=mem_nbrs.mpr (mem_nbrs.mp okk.1.tied).symm
   have oin:pk.one∈hs.filter (λy=>decide (y∈zan ps pk.to)):=List.mem_filter.mpr ⟨okk.1.one,ζf one_n⟩
   refine vr rfl (vr rfl (vr rfl (vr rfl (ex4 u pk.to g hs (ex3 ps lks hds ⟨rfl,hu4.mono M4I,T,okk.1.to,λlo HJ hlo elo sJ=>?_⟩)))))
   have hHJ:=hHI.same sJ
   refine⟨a,_,hHJ,by omega, .inl (ex2 lo _ ⟨rfl,hHI.ne hlo,SqL.of elo,by rw[ζa];exact List.length_pos_of_mem oin,by rw[ζa];have:=List.length_filter_le (λy=>decide (y∈zan ps pk.to)) hs;omega,λvt HK hvt hHK kK=>?_⟩)⟩
   obtain⟨y2,hy2,rfl⟩:=List.mem_map.mp hvt
   obtain⟨hy2h,hy2n⟩:=List.mem_filter.mp hy2
   have hy2n:y2∈zan ps pk.to:=ζh hy2n
   have MIK:Mono HI HK:=(Mono.of sJ).trans (.keep kK hHJ hHK)
   have kIK:Keep a HI HK:=(Keep.of sJ).trans kK
   have rwK:=(t4.mono M4I).mono MIK
   have rmK:=(t5.mono M4I).mono MIK
   refine vr rfl (vr rfl (vr rfl (vr rfl ⟨few rfl,λd1 hd1=>?_⟩)))
   have D1:=Same.new (o:= .tup [V.str y2,V.str pk.to,V.int pk.nr,V.ref pw,V.ref pm]) hd1
   have R1:=zbk (H:=upd HK d1 (.tup [V.str y2,V.str pk.to,V.int pk.nr,V.ref pw,V.ref pm])) (w:=pk.way) (m:=pk.marks) zd (T.names _ hy2h) n2 (by rw[ewy];exact rwK.same D1) (rmK.same D1)
   generalize (upd HK d1 (HO.tup [V.str y2,V.str pk.to,V.int pk.nr,V.ref pw,V.ref pm]))=HL at *
   refine vr rfl (vr rfl (vr rfl (vr rfl (vr rfl ⟨few rfl,λd2 hd2=>⟨few rfl,λd3 hd3=>?_⟩⟩))))
   have D2:=Same.new (o:= .tup [V.str pk.to,V.str pk.one,V.int pk.nr,V.ref pw,V.ref pm]) hd2
   have D3:=Same.new (o:= .lst [V.ref d1,V.ref d2]) hd3
   have R2:=zbk (H:=upd HL d2 (.tup [V.str pk.to,V.str pk.one,V.int pk.nr,V.ref pw,V.ref pm])) (w:=pk.way) (m:=pk.marks) zd n2 n1 (by rw[ewy];exact(rwK.same D1).same D2) ((rmK.same D1).same D2)
   have rC:RepL (upd (upd HL d2 (.tup [V.str pk.to,V.str pk.one,V.int pk.nr,V.ref pw,V.ref pm])) d3 (.lst [V.ref d1,V.ref d2])) [V.ref d1,V.ref d2] (([{pk with one:=y2},{pk with one:=pk.to,to:=pk.one}]:List Pp).map ppD):= .cons ((R1.same D2).same D3) (.cons (R2.same D3) .nil)
   have eC:(upd (upd HL d2 (.tup [V.str pk.to,V.str pk.one,V.int pk.nr,V.ref pw,V.ref pm])) d3 (.lst [V.ref d1,V.ref d2])) d3=some (.lst [V.ref d1,V.ref d2]):=zd
   have sKM:=(D1.trans D2).trans D3
   generalize (upd (upd HL d2 (HO.tup [V.str pk.to,V.str pk.one,V.int pk.nr,V.ref pw,V.ref pm])) d3 (HO.lst [V.ref d1,V.ref d2]))=HM at *
   have lr9:=r9.1
   rw[ζa] at lr9
   refine ex4 l9 d3 _ _ ⟨rfl,rfl,sKM _ _ (kIK _ _ nl9 e9),eC,ξi (zm (by show _+2<=_;omega)),λlA hlA=>?_⟩
   have DA:=Same.new (o:= .lst (v9 ++ [V.ref d1,V.ref d2])) hlA
   have LA:LP hs ps (upd HM lA (.lst (v9 ++ [V.ref d1,V.ref d2]))) lA 11:= .cat (l':=lA) ((r9.mono MIK).mono (.of sKM)) rC hP9 (λp hp=>by
    simp only[List.mem_cons,List.not_mem_nil,or_false] at hp
    rcases hp with rfl|rfl
    ·exact ⟨⟨hy2h,okk.1.to,mem_nbrs.mpr (mem_nbrs.mp hy2n).symm,okk.1.nr,okk.1.mnm,okk.1.ml,okk.1.non,okk.1.way⟩,okk.2⟩
    ·exact ⟨⟨okk.1.to,okk.1.one,one_n,okk.1.nr,okk.1.mnm,okk.1.ml,okk.1.non,okk.1.way⟩,okk.2⟩) DA zd (by show P9.length+2<=11;omega)
   exact ex2 lA _ ⟨rfl,LA,(hHK.same (sKM.trans DA)).mono (by omega),(k4I.trans kIK).trans (Keep.of (sKM.trans DA)),(hHK.same sKM).ne hlA,zbC ((k4I.trans kIK).trans (Keep.of sKM)) ((hHK.same sKM).ne hlA) hlA⟩
  rintro σ' HN ⟨lA,o11',rfl,⟨vA,PA,eA',rA',hPA,cA⟩,hHN,k4N,nlA,hlA4⟩
  have M4N:=Mono.keep k4N hH4 hHN
  have pwN:=M4N.tup _ _ pw4
  have rmN:=t5.mono M4N
  refine⟨RT a u pd b2 pw pm ln k pk hs ps H4 (n+3) 13,?_,?_⟩
  ·have ed1:zaY (w.map V.str) (some 1) none=(w.drop 1).map V.str:=by rw[show(1:Int)=((1:Nat):Int)from rfl,za3,List.map_drop]
   refine vr rfl (vr rfl (vr rfl (vr rfl (vr rfl (vr rfl ?_)))))
   dsimp only[zal]
   refine zav pwN λb3 HO1 hb3 sO=>?_
   rw[ed1] at hb3
   by_cases hne:w.drop 1=[]
   ·refine ⟨false, .inr (.inl ⟨_, .inl (.inl hb3),by rw[hne];rfl⟩),?_⟩
    rw[if_neg (by decide)]
    refine vr rfl ?_
    refine vr rfl ⟨few rfl,λd1 hd1=>?_⟩
    have D1:=Same.new (o:= .tup [V.str pk.one,V.str pk.to,V.int pk.nr,V.ref pw,V.ref pm]) hd1
    have R1:=zbk (H:=upd HO1 d1 (.tup [V.str pk.one,V.str pk.to,V.int pk.nr,V.ref pw,V.ref pm])) (w:=some w) (m:=pk.marks) zd n1 n2 (zdr (D1 _ _ (sO _ _ pwN)) wn (by omega)) ((rmN.same sO).same D1)
    have sNP:=sO.trans D1
    generalize (upd HO1 d1 (HO.tup [V.str pk.one,V.str pk.to,V.int pk.nr,V.ref pw,V.ref pm]))=HP at *
    refine vr rfl (vr rfl (vr rfl (vr rfl ⟨few rfl,λd2 hd2=>?_⟩)))
    have D2:=Same.new (o:= .tup [V.str pk.to]) hd2
    refine vr rfl (vr rfl ?_)
    refine zav (D2 _ _ (sNP _ _ pwN)) λd3 HQ hd3 sQ=>?_
    have e9':zaY (w.map V.str) none (some 9)=(w.take 9).map V.str:=by rw[show(9:Int)=((9:Nat):Int)from rfl,zbw,List.map_take]
    rw[e9'] at hd3
    refine zak (xs:=[V.str pk.to]) (sQ _ _ zd) hd3 (by rw[ζa,ζm];show 1+_<=_;omega) λd4 HR hd4 sR=>?_
    have hd4:HR d4=some (.tup ((pk.to::w.take 9).map V.str)):=hd4
    have sPR:=(D2.trans sQ).trans sR
    refine vr rfl ⟨few rfl,λd5 hd5=>⟨few rfl,λd6 hd6=>?_⟩⟩
    have D5:=Same.new (o:= .tup [V.str pk.one,V.str pk.to,V.int pk.nr,V.ref d4,V.ref pm]) hd5
    have D6:=Same.new (o:= .lst [V.ref d1,V.ref d5]) hd6
    have ntk:∀x∈pk.to::w.take 9,zi x=true:=λx hx=>(List.mem_cons.mp hx).elim (λe=>by rw[e];exact n2) λh=>wn x (List.mem_of_mem_take h)
    have ltk:(pk.to::w.take 9).length<=10:=by rw[ζw,ζm];omega
    have R2:=zbk (H:=upd HR d5 (.tup [V.str pk.one,V.str pk.to,V.int pk.nr,V.ref d4,V.ref pm])) (w:=some (pk.to::w.take 9)) (m:=pk.marks) zd n1 n2 (zdr (D5 _ _ hd4) ntk (by omega)) (((rmN.same sNP).same sPR).same D5)
    have rD:RepL (upd (upd HR d5 (.tup [V.str pk.one,V.str pk.to,V.int pk.nr,V.ref d4,V.ref pm])) d6 (.lst [V.ref d1,V.ref d5])) [V.ref d1,V.ref d5] (([{pk with way:=some w},{pk with way:=some (pk.to::w.take 9)}]:List Pp).map ppD):= .cons (((R1.same sPR).same D5).same D6) (.cons (R2.same D6) .nil)
    have eD:(upd (upd HR d5 (.tup [V.str pk.one,V.str pk.to,V.int pk.nr,V.ref d4,V.ref pm])) d6 (.lst [V.ref d1,V.ref d5])) d6=some (.lst [V.ref d1,V.ref d5]):=zd
    have sNS:=((sNP.trans sPR).trans D5).trans D6
    generalize (upd (upd HR d5 (HO.tup [V.str pk.one,V.str pk.to,V.int pk.nr,V.ref d4,V.ref pm])) d6 (HO.lst [V.ref d1,V.ref d5]))=HS at *
    have lrA:=rA'.1
    rw[ζa] at lrA
    refine ex4 lA d6 _ _ ⟨rfl,rfl,sNS _ _ eA',eD,ξi (zm (by show _+2<=_;omega)),λlB hlB=>?_⟩
    have DB:=Same.new (o:= .lst (vA ++ [V.ref d1,V.ref d5])) hlB
    have LB:LP hs ps (upd HS lB (.lst (vA ++ [V.ref d1,V.ref d5]))) lB 13:= .cat (l':=lB) (rA'.mono (.of sNS)) rD hPA (λp hp=>by
     simp only[List.mem_cons,List.not_mem_nil,or_false] at hp
     rcases hp with rfl|rfl
     ·exact okk.wy_ w1 w10 wn
     ·exact okk.wy_ (by simp) ltk ntk) DB zd (by show PA.length+2<=13;omega)
    exact ex2 lB _ ⟨rfl,LB,(hHN.same (sNS.trans DB)).mono (by omega),k4N.trans (Keep.of (sNS.trans DB)),(hHN.same sNS).ne hlB,zbC (k4N.trans (Keep.of sNS)) ((hHN.same sNS).ne hlB) hlB⟩
   ·have l1d:1<=(w.drop 1).length:=List.length_pos_iff.mpr hne
    have l10d:(w.drop 1).length<=10:=by rw[ζr];omega
    have wnd:∀x∈w.drop 1,zi x=true:=λx hx=>wn x (List.mem_of_mem_drop hx)
    refine⟨true, .inr (.inl ⟨_, .inl (.inl hb3),by cases e:w.drop 1 with
     |nil=>exact absurd e hne
     |cons _ _=>rfl⟩),?_⟩
    rw[if_pos rfl]
    refine vr rfl ⟨few rfl,λd1 hd1=>?_⟩
    have D1:=Same.new (o:= .tup [V.str pk.one,V.str pk.to,V.int pk.nr,V.ref b3,V.ref pm]) hd1
    have R1:=zbk (H:=upd HO1 d1 (.tup [V.str pk.one,V.str pk.to,V.int pk.nr,V.ref b3,V.ref pm])) (w:=some (w.drop 1)) (m:=pk.marks) zd n1 n2 (zdr (D1 _ _ hb3) wnd (by omega)) ((rmN.same sO).same D1)
    have sNP:=sO.trans D1
    generalize (upd HO1 d1 (HO.tup [V.str pk.one,V.str pk.to,V.int pk.nr,V.ref b3,V.ref pm]))=HP at *
    refine vr rfl (vr rfl (vr rfl (vr rfl ⟨few rfl,λd2 hd2=>?_⟩)))
    have D2:=Same.new (o:= .tup [V.str pk.to]) hd2
    refine vr rfl (vr rfl ?_)
    refine zav (D2 _ _ (sNP _ _ pwN)) λd3 HQ hd3 sQ=>?_
    have e9':zaY (w.map V.str) none (some 9)=(w.take 9).map V.str:=by rw[show(9:Int)=((9:Nat):Int)from rfl,zbw,List.map_take]
    rw[e9'] at hd3
    refine zak (xs:=[V.str pk.to]) (sQ _ _ zd) hd3 (by rw[ζa,ζm];show 1+_<=_;omega) λd4 HR hd4 sR=>?_
    have hd4:HR d4=some (.tup ((pk.to::w.take 9).map V.str)):=hd4
    have sPR:=(D2.trans sQ).trans sR
    refine vr rfl ⟨few rfl,λd5 hd5=>⟨few rfl,λd6 hd6=>?_⟩⟩
    have D5:=Same.new (o:= .tup [V.str pk.one,V.str pk.to,V.int pk.nr,V.ref d4,V.ref pm]) hd5
    have D6:=Same.new (o:= .lst [V.ref d1,V.ref d5]) hd6
    have ntk:∀x∈pk.to::w.take 9,zi x=true:=λx hx=>(List.mem_cons.mp hx).elim (λe=>by rw[e];exact n2) λh=>wn x (List.mem_of_mem_take h)
    have ltk:(pk.to::w.take 9).length<=10:=by rw[ζw,ζm];omega
    have R2:=zbk (H:=upd HR d5 (.tup [V.str pk.one,V.str pk.to,V.int pk.nr,V.ref d4,V.ref pm])) (w:=some (pk.to::w.take 9)) (m:=pk.marks) zd n1 n2 (zdr (D5 _ _ hd4) ntk (by omega)) (((rmN.same sNP).same sPR).same D5)
    have rD:RepL (upd (upd HR d5 (.tup [V.str pk.one,V.str pk.to,V.int pk.nr,V.ref d4,V.ref pm])) d6 (.lst [V.ref d1,V.ref d5])) [V.ref d1,V.ref d5] (([{pk with way:=some (w.drop 1)},{pk with way:=some (pk.to::w.take 9)}]:List Pp).map ppD):= .cons (((R1.same sPR).same D5).same D6) (.cons (R2.same D6) .nil)
    have eD:(upd (upd HR d5 (.tup [V.str pk.one,V.str pk.to,V.int pk.nr,V.ref d4,V.ref pm])) d6 (.lst [V.ref d1,V.ref d5])) d6=some (.lst [V.ref d1,V.ref d5]):=zd
    have sNS:=((sNP.trans sPR).trans D5).trans D6
    generalize (upd (upd HR d5 (HO.tup [V.str pk.one,V.str pk.to,V.int pk.nr,V.ref d4,V.ref pm])) d6 (HO.lst [V.ref d1,V.ref d5]))=HS at *
    have lrA:=rA'.1
    rw[ζa] at lrA
    refine ex4 lA d6 _ _ ⟨rfl,rfl,sNS _ _ eA',eD,ξi (zm (by show _+2<=_;omega)),λlB hlB=>?_⟩
    have DB:=Same.new (o:= .lst (vA ++ [V.ref d1,V.ref d5])) hlB
    have LB:LP hs ps (upd HS lB (.lst (vA ++ [V.ref d1,V.ref d5]))) lB 13:= .cat (l':=lB) (rA'.mono (.of sNS)) rD hPA (λp hp=>by
     simp only[List.mem_cons,List.not_mem_nil,or_false] at hp
     rcases hp with rfl|rfl
     ·exact okk.wy_ l1d l10d wnd
     ·exact okk.wy_ (by simp) ltk ntk) DB zd (by show PA.length+2<=13;omega)
    exact ex2 lB _ ⟨rfl,LB,(hHN.same (sNS.trans DB)).mono (by omega),k4N.trans (Keep.of (sNS.trans DB)),(hHN.same sNS).ne hlB,zbC (k4N.trans (Keep.of sNS)) ((hHN.same sNS).ne hlB) hlB⟩
  rintro σ' HU ⟨lB,o11',rfl,⟨vB,PB,eB',rB',hPB,cB⟩,hHU,k4U,nlBa,hlB4⟩
  have M4U:=Mono.keep k4U hH4 hHU
  refine⟨RT a u pd b2 pw pm ln k pk hs ps H4 (n+3) 14,?_,?_⟩
  ·have lrB':=rB'.1
   rw[ζa] at lrB'
   refine vr rfl ⟨.inl ⟨rfl,_,SqL.of eB'⟩,vr rfl (vr rfl (vr rfl (vr rfl (ex2 pw _ ⟨rfl, .inl (.inl (M4U.tup _ _ pw4)),λd1 hd1=>(vr rfl ⟨few rfl,λd2 hd2=>?_⟩)⟩))))⟩
   rw[←List.map_reverse] at hd2
   have D1:=Same.new (o:= .tup (w.reverse.map V.str)) hd1
   have D2:=Same.new (o:= .tup [V.str pk.one,V.str pk.to,V.int pk.nr,V.ref d1,V.ref pm]) hd2
   have nrv:∀x∈w.reverse,zi x=true:=λx hx=>wn x (List.mem_reverse.mp hx)
   have R1:=zbk (H:=upd (upd HU d1 (.tup (w.reverse.map V.str))) d2 (.tup [V.str pk.one,V.str pk.to,V.int pk.nr,V.ref d1,V.ref pm])) (w:=some w.reverse) (m:=pk.marks) zd n1 n2 (zdr (D2 _ _ zd) nrv (by rw[List.length_reverse];omega)) (((t5.mono M4U).same D1).same D2)
   have sUV:=D1.trans D2
   rw[←List.map_reverse]
   generalize (upd (upd HU d1 (HO.tup (w.reverse.map V.str))) d2 (HO.tup [V.str pk.one,V.str pk.to,V.int pk.nr,V.ref d1,V.ref pm]))=HV at *
   have eBV:=sUV _ _ eB'
   refine ex3 lB _ _ ⟨rfl,rfl,eBV,zm (by omega),?_⟩
   have RW:RepL (upd HV lB (.lst (vB ++ [V.ref d2]))) (vB ++ [V.ref d2]) ((PB ++ [{pk with way:=some w.reverse}]).map ppD):=by
    rw[ξc]
    exact((rB'.mono (.of sUV)).append (.cons R1 .nil)).mono (.lset eBV)
   exact ex2 lB _ ⟨rfl,⟨_,_,zd,RW,λp hp=>(List.mem_append.mp hp).elim (hPB p) λz=>by rw[List.mem_singleton.mp z];exact okk.wy_ (by rw[List.length_reverse];exact w1) (by rw[List.length_reverse];exact w10) nrv,by rw[ζe];show _+1<=_;omega⟩,((hHU.same sUV).updNe nlBa).mono (by omega),Keep.updNew (k4U.trans (Keep.of sUV)) hlB4,nlBa,hlB4⟩
  rintro σ' HW ⟨lB,o11',rfl,⟨vW,PW,eW,RW,hPW,cW⟩,hHW,k4W,nlBa,hlB4⟩
  have hvW:=hv4.mono (.keep k4W hH4 hHW)
  have K0W:Keep a H HW:=(K03.trans (Keep.of s4)).trans k4W
  refine vr rfl ⟨lB,rfl,⟨_,SqL.of eW⟩,?_⟩
  have lrW:=RW.1
  rw[ζa] at lrW
  refine zkE (Pd:=λi d=>zja hs ps d) (σr:=[some (.int (k:Int)),some (.ref pd)]) (zcy (K:=K) (xs:=vW)) (λH' s'=>SqL.of (s' _ _ eW)) rfl (by omega) (λi x HX Q1 hi hx sX q1=>?_) (λlZ usZ dsZ HZ hlZ elZ rZ lnZ pdZ sZ=>?_)
  ·obtain ⟨d,hd,rd⟩:=RW.get hx
   rw[ζq] at hd
   obtain⟨p1,ep1,rfl⟩:∃p1,PW[i]?=some p1/\d=ppD p1:=by
    cases e:PW[i]? with
    |none=>rw[e] at hd;cases hd
    |some p1=>rw[e] at hd;cases hd;exact⟨p1,rfl,rfl⟩
   have hp1:=hPW p1 (ζl ep1)
   refine vr rfl (vr rfl (vr rfl (ex4 (.ref pd) x k f (ex2 p1 qs ⟨rfl,hvW.same sX,rd.same sX,hkl,by omega,λv' f' qs' HY ef rv sY=>q1 v' _ HY rv (ex2 f' qs' ⟨rfl,λp hp=>?_,?_⟩) sY⟩))))
   ·rw[ef] at hp
    rcases List.mem_append.mp hp with hp|hp
    ·exact (hP p (List.mem_of_mem_take hp)).1
    ·rcases List.mem_cons.mp hp with rfl|hp
     ·exact hp1
     ·exact (hP p (List.mem_of_mem_drop hp)).1
   ·have:=congrArg List.length ef
    rw[ζe,ζm,ζw (a:=p1),ζr,ζw (a:=f),ζw (a:=f')] at this
    omega
  refine q lZ HZ (zbC K0W (hHW.ne hlZ) hlZ) ⟨usZ,dsZ,elZ,rZ,λd hd=>?_,by omega⟩ ((hHW.same sZ).mono (by omega)) (K0W.trans (Keep.of sZ))
  obtain⟨j,hj,ej⟩:=List.getElem_of_mem hd
  exact pdZ j d (by rw[ζd hj,ej])
end
section
variable{P:Program}{w:World}{K:PySem.W.Frag}{mg:Str->Option Value}{base:Heap}
def zoI(hs:List Str)(ps:List (Str×Str))(d:D):Prop:=∃f qs,d=zcf f qs/\(∀p∈f::qs,PpK hs ps p)/\qs.length<=20
def LLK(hs:List Str)(ps:List (Str×Str))(H:Hp)(l:Addr)(c:Nat):Prop:=∃(vs:List V) (ds:List D),H l=some (.lst vs)/\RepL H vs ds/\(∀d∈ds,zoI hs ps d)/\ds.length<=c
def RL(a:Addr)(u v1:V)(pd pq:Addr)(k:Nat)(hs:List Str)(ps:List (Str×Str))(H3:Hp)(n:Int)(c:Nat):L2.St->Hp->Prop:=λσ' H'=>∃lX,σ'=[some (.ref a),some u,some (.ref pd),some v1,some (.ref pq),some (.int (k:Int)),some (.ref lX)]/\LLK hs ps H' lX c/\Hand H' a n/\Keep a H3 H'/\lX≠a/\H3 lX=none
theorem zcY{hs:List Str}{ps:List (Str×Str)}{f:Pp}{qs:List Pp}(hf:PpK hs ps f)(hq:∀p∈qs,PpK hs ps p)(l:qs.length<=20):zoI hs ps (.tup [ppD f, .tup (qs.map ppD)]):=⟨f,qs,rfl,λp hp=>(List.mem_cons.mp hp).elim (λe=>by rw[e];exact hf) (hq p),l⟩
theorem zl9{i:Nat}{v:V}{σ:L2.St}{H:Hp}{ds:List D}{K:PySem.W.Frag}(hv:σ[i]?=some (some v))(r:Rep H v (.tup ds)):Dsp (tSl (ze3 K) (zb8 i) (zcQ (tUn (rU λi=> .int (-i)) (tC (.int 1)))) zal) σ H (.tup (ds.drop (ds.length -1))):=by
 cases e:ds with
 |nil=>
  subst e
  refine zdL (lo:=some (-1)) (hi:=none) hv r (λ_ _ h=>zf0 h) (λ_ _ h=>zbi h) λvs hl=>⟨0,0,?_,rfl⟩
  have:vs=[]:=List.eq_nil_of_length_eq_zero hl
  subst this
  rfl
 |cons x xs=>
  rw[←e]
  obtain⟨d0,d,ed⟩:∃d0 d,ds=d0 ++ [d]:=⟨ds.dropLast,ds.getLast (λz=>by rw[z] at e;cases e),(List.dropLast_concat_getLast _).symm⟩
  rw[ed] at r⊢
  rw[ζe,ξd,Nat.add_sub_cancel,List.drop_left']
  ·exact zlk hv r
  ·rfl
theorem zo8{ta:TA}{σ:L2.St}{H:Hp}{ds:List D}{k:Nat}{De:Ends}(h:zk8 ta σ H ds)(hl:ds.length<=900)(q:∀vs H2 l,Same H H2->RepL H2 vs ds->H2 l=none->De.nx (σ.set k (some (.ref l))) (upd H2 l (.lst vs))):zgK (zol ta) (zaE k) De σ H:=
 h H _ (Same.refl H) λvs H2 s2 r2=>⟨ξi (zm (by rw[r2.1];omega)),λl hl=>q vs H2 l s2 r2 hl⟩
theorem zqC{ta:TA}{σ:L2.St}{H:Hp}{ds:List D}{k i:Nat}{De:Ends}{l0:Addr}{vs0:List V}(hσ:σ[i]?=some (some (.ref l0)))(e:H l0=some (.lst vs0))(h:zk8 ta σ H ds)(hl:vs0.length+ds.length<=900)(q:∀vs H2 l,Same H H2->RepL H2 vs ds->H2 l=none->De.nx (σ.set k (some (.ref l))) (upd H2 l (.lst (vs0 ++vs)))):zgK (tOp zq3 (zb8 i) (zol ta)) (zaE k) De σ H:=
 ⟨_,hσ,h H _ (Same.refl H) λvs H2 s2 r2=>⟨ξi (zm (by rw[r2.1];omega)),λp hp=>⟨l0,p,vs0,vs,rfl,rfl,Same.new hp _ _ (s2 _ _ e),zd,ξi (zm (by rw[r2.1];omega)),λl hl=>q vs _ l (s2.trans (Same.new hp)) (r2.mono (.new hp)) hl⟩⟩⟩
theorem zkO{te:TE}{σ:L2.St}{H:Hp}{d:D}{Q:List V->Hp->Prop}(h:Dsp te σ H d)(q:∀v H2,Same H H2->Rep H2 v d->Q [v] H2):zfA te zmw σ H Q:=h H _ (Same.refl H) q
noncomputable def zg6:Sp:=λvs H Q _=>∃(a:Addr) (n:Int) (u v:V) (f:Pp) (qs:List Pp) (g:Str) (hs:List Str) (ps:List (Str×Str)) (lks hds:List D),vs=[.ref a,u,v]/\Hand H a n/\n<2^36/\Rep H u (za5 g hs ps lks hds)/\TownOk g hs ps lks hds/\Rep H v (zcf f qs)/\(∀p∈f::qs,PpK hs ps p/\p.marks.length<=14/\∃w,p.way=some w)/\qs.length<=9/\
 ∀(l:Addr) (H':Hp),H l=none->LL hs ps H' l 40->Hand H' a (n+20)->Keep a H H'->Q (.ref l) H'
theorem zlY(Y:Ev K mg):FnOk P w K mg base CX0 4 Y.a__law_turned Y.d__law_turned zbI zg6:=by
 have G__law_take:FnOk P w K mg base CX0 1 Y.a__law_take Y.d__law_take zaf zdp:=zcU Y
 have G__law_papers_turned:FnOk P w K mg base CX0 3 Y.a__law_papers_turned Y.d__law_papers_turned zar zgW:=zjN Y
 refine Y._law_turned.fn.okQ c__law_turned (λvs H Q E h=>?_) (λcdv A outer s H vs Q E hr h=>?_)
 ·obtain ⟨a,n,u,v,f,qs,g,hs,ps,lks,hds,rfl,_⟩:=h;rfl
 ·obtain ⟨a,n,u,v,f,qs,g,hs,ps,lks,hds,rfl,hH,hn,hu,T,hv,hP,lq,q⟩:=h
  obtain⟨pd,v1,xq,rfl,hpd,rf,rq⟩:=hv.of2
  have rq0:=rq
  obtain⟨pq,us,rfl,hpq,ru,_⟩:=rq.ofT
  have lu:=ru.1
  rw[ζa] at lu
  have kf:=(hP f ζp).1
  have kq:∀p∈qs,PpK hs ps p:=λp hp=>(hP p (ξe _ hp)).1
  refine⟨_,(zj (zdA (qv 2) (zc5 2 rfl (zx (zo 3 c__law_turned.nd) (zx (zo 4 c__law_turned.nd) za4))))
   (zb5 (zI 5 c__law_turned.nd (zk G__law_take (hr.mono (by decide)) Y._law_take.mg Y._law_take.kp Y._law_take.b .nil zp (zc (qv 0) (zc (zG zat (zq zE Y.len zaj (zc (qv 4) ze)) zh) ze))))
   (zb5 (zI 6 c__law_turned.nd (zbs (zc (zv (zc (qv 3) (zc (zG zad (zbL zR (qv 4) zae (zV (qv 5))) (zbL zR (qv 4) (zV (zG zat (qv 5) zh)) zae)) ze))) (zc (zv (zc (qv 3) (zc (zG zad (zG zad (zbL zR (qv 4) zae (zV (qv 5))) (zv (zc (qv 3) ze))) (zbL zR (qv 4) (zV (qv 5)) zae)) ze))) ze))))
   (zb5 (zI 6 c__law_turned.nd (zG zcd (qv 6) (zbs (zc (zv (zc (qv 3) (zc (zmy (qv 4) (zeo zbH zh)) ze))) (zc (zv (zc (qv 3) (zc (zv ze) ze))) (zc (zv (zc (qv 3) (zc (zG zad (zbL zR (qv 4) zae (zV zh)) (qv 4)) ze))) (zc (zv (zc (qv 3) (zc (zG zad (qv 4) (zbL zR (qv 4) (zV (zeo zbH zh)) zae)) ze))) ze)))))))
   (zb5 (zdq (zfq PySem.F.plainAttrs_list PySem.F.slot_list_append PySem.F.type_list_append zaM (qv 6) (zc (zv (zc (zv (zc (zt ix_tup (qv 3) zh) (zc (zt ix_tup (qv 3) zh) (zc (zt ix_tup (qv 3) zh) (zc zck (zc (zv ze) ze)))))) (zc (qv 4) ze))) ze)))
   (zb5 (zau (zH (zfd (zeR hr)) (qv 4) (zv ze)) (zj (zdq (zfq PySem.F.plainAttrs_list PySem.F.slot_list_append PySem.F.type_list_append zaM (qv 6) (zc (zv (zc (zt ix_tup (qv 4) zh) (zc (qv 4) ze))) ze)))
   (zn (zdq (zfq PySem.F.plainAttrs_list PySem.F.slot_list_append PySem.F.type_list_append zaM (qv 6) (zc (zv (zc (zt ix_tup (qv 4) (zeo zbH zh)) (zc (zG zad (zbL zR (qv 4) zae (zV (zeo zbH zh))) (zv (zc (qv 3) ze))) ze))) ze))))) zO)
   (zn (zy (zG zcd (zaI (src:=[none]) o__law_turned_1 rfl rfl (zdt (qv 6)) (λ_ _ _ _ _=>(zo 0 o__law_turned_1.nd)) (λ_ _ _ _ _=>(zc6 (zH zh8 (zq (zjG (K:=K) rfl) Y.len zaj (zc (zt (za6 (K:=K) rfl) (qv 0) zh) ze)) zh))) (λ_ _ _ _ _=>(qv 0))) (zk G__law_papers_turned (hr.mono (by decide)) Y._law_papers_turned.mg Y._law_papers_turned.kp Y._law_papers_turned.b .nil zp (zc (qv 0) (zc (qv 1) (zc (qv 2) ze))))))))))))),?_⟩
  refine vr rfl (ex2 pd _ ⟨rfl, .inl (.inl hpd),rfl,ex2 _ _ ⟨rfl,ex2 _ _ ⟨rfl,rfl,?_⟩⟩⟩)
  refine⟨λσ' H'=>∃k:Nat,σ'=[some (.ref a),some u,some (.ref pd),some v1,some (.ref pq),some (.int (k:Int)),none]/\k<=qs.length/\Hand H' a (n+1)/\Keep a H H',?_,?_⟩
  ·refine vr rfl (vr rfl (.inl (ex2 pq _ ⟨rfl, .inr (.inl (.inl hpq)),ex2 _ _ ⟨rfl,rfl,ex3 a _ n ⟨rfl,hH,by omega,by omega,by omega,λt H1 t0 t1 hH1 k1=>?_⟩⟩⟩)))
   exact⟨t.toNat,by rw[show((t.toNat:Nat):Int)=t by omega];rfl,by omega,hH1,k1⟩
  rintro σ' H1 ⟨k,rfl,hk,hH1,k1⟩
  have M1:Mono H H1:= .keep k1 hH hH1
  have rf1:=rf.mono M1
  have rq1:=rq0.mono M1
  have hv1:=hv.mono M1
  have hu1:=hu.mono M1
  refine⟨RL a u v1 pd pq k hs ps H1 (n+1) 2,?_,?_⟩
  ·refine zo8 (ds:=[.tup [ppD f, .tup ((qs.take k ++qs.drop (k+1)).map ppD)], .tup [ppD f, .tup (((qs.take k ++ [f])++qs.drop k).map ppD)]]) ?_ (ζk rfl) λvs H2 l s2 r2 hl=>?_
   ·refine zl (zM (zl (za9 rfl rf1) (zl ?_ zF)) (ζk rfl)) (zl (zM (zl (za9 rfl rf1) (zl ?_ zF)) (ζk rfl)) zF)
    ·rw[ξc,List.map_take,List.map_drop]
     exact zbr (zgV rfl rq1 rfl) (zjP rfl rq1 rfl) (by rw[ζm,ζr,ζa];omega)
    ·rw[ξc,ξc,List.map_take,List.map_drop]
     exact zbr (zbr (zgV rfl rq1 rfl) (zM (zl (za9 rfl rf1) zF) (ζk rfl)) (by rw[ζm,ζa];show _+1<=_;omega)) (zlT rfl rq1 rfl) (by rw[ζe,ζm,ζr,ζa];show(_+1)+_<=_;omega)
   have S:=s2.trans (Same.new (o:= .lst vs) hl)
   refine⟨l,rfl,⟨vs,_,zd,r2.mono (.new hl),λd hd=>?_,ζu 2⟩,(hH1.same S),Keep.of S,(hH1.same s2).ne hl,zcj s2 hl⟩
   simp only[List.mem_cons,List.not_mem_nil,or_false] at hd
   rcases hd with rfl|rfl
   ·exact zcY kf (λp hp=>(List.mem_append.mp hp).elim (λh=>kq p (List.mem_of_mem_take h)) λh=>kq p (List.mem_of_mem_drop h)) (by rw[ζe,ζm,ζr];omega)
   ·exact zcY kf (λp hp=>(List.mem_append.mp hp).elim (λh=>(List.mem_append.mp h).elim (λh=>kq p (List.mem_of_mem_take h)) λh=>by rw[List.mem_singleton.mp h];exact kf) λh=>kq p (List.mem_of_mem_drop h)) (by rw[ζe,ζe,ζm,ζr];show(_+1)+_<=_;omega)
  rintro σ' H2 ⟨l2,rfl,⟨vs2,ds2,e2,r2,h2,c2⟩,hH2,k2,n2,z2⟩
  have M2:Mono H1 H2:= .keep k2 hH1 hH2
  have rf2:=rf1.mono M2
  have rq2:=rq1.mono M2
  refine⟨RL a u v1 pd pq k hs ps H1 (n+1) 6,?_,?_⟩
  ·have lr2:=r2.1
   refine zqC (ds:=[.tup [ppD f, .tup (qs.reverse.map ppD)], .tup [ppD f, .tup (([]:List Pp).map ppD)], .tup [ppD f, .tup ((qs.take 1 ++qs).map ppD)], .tup [ppD f, .tup ((qs ++qs.drop (qs.length -1)).map ppD)]]) rfl e2 ?_ (by show _+4<=_;omega) λvs H3 l S3 r3 hl=>?_
   ·refine zl (zM (zl (za9 rfl rf2) (zl ?_ zF)) (ζk rfl)) (zl (zM (zl (za9 rfl rf2) (zl (zM zF (ξk _)) zF)) (ζk rfl)) (zl (zM (zl (za9 rfl rf2) (zl ?_ zF)) (ζk rfl)) (zl (zM (zl (za9 rfl rf2) (zl ?_ zF)) (ζk rfl)) zF)))
    ·rw[List.map_reverse];exact zoz rfl rq2
    ·rw[ξc,List.map_take]
     exact zbr (zlP (n:=1) rfl rq2) (za9 rfl rq2) (by rw[ζm,ζa];omega)
    ·rw[ξc,List.map_drop]
     have:=zl9 (K:=K) (σ:=[some (.ref a),some u,some (.ref pd),some v1,some (.ref pq),some (.int (k:Int)),some (.ref l2)]) (i:=4) rfl rq2
     rw[ζa] at this
     exact zbr (za9 rfl rq2) this (by rw[ζr,ζa];omega)
   have S4:=Same.new (o:= .lst (vs2 ++vs)) hl
   have S:=S3.trans S4
   refine⟨l,rfl,⟨_,ds2 ++_,zd,(r2.mono (.of S)).append (r3.mono (.of S4)),λd hd=>?_,by rw[ζe];show _+4<=6;omega⟩,hH2.same S,k2.trans (Keep.of S),(hH2.same S3).ne hl,zbC (k2.trans (Keep.of S3)) ((hH2.same S3).ne hl) hl⟩
   rcases List.mem_append.mp hd with hd|hd
   ·exact h2 d hd
   simp only[List.mem_cons,List.not_mem_nil,or_false] at hd
   rcases hd with rfl|rfl|rfl|rfl
   ·exact zcY kf (λp hp=>kq p (List.mem_reverse.mp hp)) (by rw[List.length_reverse];omega)
   ·exact zcY kf (λ_ z=>nomatch z) (ξk _)
   ·exact zcY kf (λp hp=>(List.mem_append.mp hp).elim (λh=>kq p (List.mem_of_mem_take h)) (kq p)) (by rw[ζe,ζm];omega)
   ·exact zcY kf (λp hp=>(List.mem_append.mp hp).elim (kq p) λh=>kq p (List.mem_of_mem_drop h)) (by rw[ζe,ζr];omega)
  rintro σ' H3 ⟨l3,rfl,⟨vs3,ds3,e3,r3,h3,c3⟩,hH3,k3,n3,z3⟩
  have M3:Mono H1 H3:= .keep k3 hH1 hH3
  have rf3:=rf1.mono M3
  have rq3:=rq1.mono M3
  have rf3':Rep H3 v1 (.tup [.str f.one, .str f.to, .int f.nr,wyD f.way,tD f.marks]):=rf3
  have app:∀{Hx:Hp} {lx:Addr} {vs:List V} {ds:List D} {p:Addr} {d:D} {c:Nat} {H9:Hp},H9 lx=some (.lst vs)->RepL H9 vs ds->(∀d∈ds,zoI hs ps d)->ds.length<=c->Rep H9 (.ref p) d->zoI hs ps d->LLK hs ps (upd H9 lx (.lst (vs ++ [.ref p]))) lx (c+1):=λ{Hx lx vs ds p d c H9} e r h cc rd hd=>
   ⟨_,ds ++ [d],zd,(r.append (.cons rd .nil)).mono (.lset e),λx hx=>(List.mem_append.mp hx).elim (h x) λz=>by rw[List.mem_singleton.mp z];exact hd,by rw[ζe];show _+1<=_;omega⟩
  refine⟨RL a u v1 pd pq k hs ps H1 (n+1) 7,?_,?_⟩
  ·refine vr rfl ⟨.inl ⟨rfl,_,SqL.of e3⟩,?_⟩
   refine zkO (d:= .tup [ppD ⟨f.one,f.to,f.nr,none,[]⟩, .tup (qs.map ppD)]) (zM (zl (zM (zl (zaZ (n:=0) rfl rf3' rfl) (zl (zaZ (n:=1) rfl rf3' rfl) (zl (zaZ (n:=2) rfl rf3' rfl) (zl zhm (zl (zM zF (ξk _)) zF))))) (ζk rfl)) (zl (za9 rfl rq3) zF)) (ζk rfl)) λv4 H4 s4 r4=>?_
   obtain⟨p4,_,_,rfl,_⟩:=r4.of2
   have lr3:=r3.1
   refine ex3 l3 _ _ ⟨rfl,rfl,s4 _ _ e3,zm (by omega),l3,rfl,app (Hx:=H4) (s4 _ _ e3) (r3.mono (.of s4)) h3 c3 r4 (zcY ⟨⟨kf.1.one,kf.1.to,kf.1.tied,kf.1.nr,(λ_ z=>nomatch z),ξk _,(λ_=>rfl),(λ_ z=>nomatch z)⟩,ξk _⟩ kq (by omega)),(hH3.same s4).updNe n3,Keep.updNew (k3.trans (Keep.of s4)) z3,n3,z3⟩
  rintro σ' H4 ⟨l4,rfl,⟨vs4,ds4,e4,r4,h4,c4⟩,hH4,k4,n4,z4⟩
  have M4:Mono H1 H4:= .keep k4 hH1 hH4
  have rf4:=rf1.mono M4
  have rq4:=rq1.mono M4
  refine⟨RL a u v1 pd pq k hs ps H1 (n+1) 9,?_,?_⟩
  ·refine vr rfl ⟨few rfl,λpe hpe=>?_⟩
   have Se:=Same.new (o:= .tup []) hpe
   have trq:=zmP (rq4.same Se) (by rw[okD];exact zgs λd hd=>by obtain⟨p,hp,rfl⟩:=List.mem_map.mp hd;exact zj8 T.names (kq p hp).1)
   rw[pyD] at trq
   refine⟨_,_,trq,zhX zd,ξb (Nat.min_le_right _ _) zjR,vr rfl ?_⟩
   rw[zgo]
   have e4e:=Se _ _ e4
   have r4e:=r4.mono (.of Se)
   have rf4e:=rf4.same Se
   have rq4e:=rq4.same Se
   have hH4e:=hH4.same Se
   have k4e:=k4.trans (Keep.of Se)
   generalize (upd H4 pe (HO.tup []))=H5 at *
   have lr4:=r4.1
   cases eq0:qs with
   |nil=>
    refine zW rfl ⟨l4,rfl,⟨vs4,ds4,e4e,r4e,h4,by omega⟩,hH4e,k4e,n4,z4⟩
   |cons q0 qr=>
    have hne:decide ((q0::qr).map ppD=[])=false:=rfl
    rw[hne]
    refine zQ rfl ?_
    rw[eq0] at rq4e kq
    have rq5:Rep H5 (.ref pq) (.tup (ppD q0::qr.map ppD)):=rq4e
    obtain⟨qi,ql,eql⟩:∃qi ql,q0::qr=qi ++ [ql]:=⟨(q0::qr).dropLast,(q0::qr).getLast (by simp),(List.dropLast_concat_getLast _).symm⟩
    have lqr:(q0::qr).length<=9:=by rw[←eq0];exact lq
    refine vr rfl ⟨.inl ⟨rfl,_,SqL.of e4e⟩,?_⟩
    refine zkO (d:= .tup [ppD q0, .tup ((q0::qr).map ppD)]) (zM (zl (zo1 rfl rq5) (zl (za9 rfl rq4e) zF)) (ζk rfl)) λv6 H6 s6 r6=>?_
    obtain⟨p6,_,_,rfl,_⟩:=r6.of2
    refine ex3 l4 _ _ ⟨rfl,rfl,s6 _ _ e4e,zm (by omega),?_⟩
    have L7:=app (Hx:=H6) (s6 _ _ e4e) (r4e.mono (.of s6)) h4 c4 r6 (zcY (kq q0 ζp) kq (by omega))
    have hH7:=(hH4e.same s6).updNe (o:= .lst (vs4 ++ [V.ref p6])) n4
    have k7:Keep a H1 (upd H6 l4 (.lst (vs4 ++ [V.ref p6]))):=Keep.updNew (k4e.trans (Keep.of s6)) z4
    have rf7:=rf1.mono (.keep k7 hH1 hH7)
    have rq7:=rq1.mono (.keep k7 hH1 hH7)
    generalize (upd H6 l4 (HO.lst (vs4 ++ [V.ref p6])))=H7 at *
    obtain⟨vs7,ds7,e7,r7,h7,c7⟩:=L7
    have rq8:Rep H7 (.ref pq) (.tup (qi.map ppD ++ [ppD ql])):=by
     have:=rq7
     rw[eq0,eql,ξc] at this
     exact this
    have kq':∀p∈qi ++ [ql],PpK hs ps p:=λp hp=>kq p (by rw[eql];exact hp)
    have lqi:qi.length<=9:=by have:=congrArg List.length eql;rw[ζe,ξd] at this;omega
    refine vr rfl ⟨.inl ⟨rfl,_,SqL.of e7⟩,?_⟩
    refine zkO (d:= .tup [ppD ql, .tup ((qi ++ [f]).map ppD)]) ?_ λv8 H8 s8 r8=>?_
    ·refine zM (zl (zmJ rfl rq8) (zl ?_ zF)) (ζk rfl)
     rw[ξc]
     have hi:=zmx (K:=K) (σ:=[some (.ref a),some u,some (.ref pd),some v1,some (.ref pq),some (.int (k:Int)),some (.ref l4)]) (i:=4) rfl rq8
     rw[ζe,ξd,Nat.add_sub_cancel,List.take_left' rfl] at hi
     exact zbr hi (zM (zl (za9 rfl rf7) zF) (ζk rfl)) (by rw[ζa];show _+1<=_;omega)
    obtain⟨p8,_,_,rfl,_⟩:=r8.of2
    have lr7:=r7.1
    refine ex3 l4 _ _ ⟨rfl,rfl,s8 _ _ e7,zm (by omega),l4,rfl,app (Hx:=H8) (s8 _ _ e7) (r7.mono (.of s8)) h7 c7 r8 (zcY (kq' ql (by simp)) (λp hp=>(List.mem_append.mp hp).elim (λh=>kq' p (List.mem_append_left _ h)) λh=>by rw[List.mem_singleton.mp h];exact kf) (by rw[ζe];show _+1<=_;omega)),(hH7.same s8).updNe n4,Keep.updNew (k7.trans (Keep.of s8)) z4,n4,z4⟩
  rintro σ' H5 ⟨l5,rfl,⟨vs5,ds5,e5,r5,h5,c5⟩,hH5,k5,n5,z5⟩
  have M5:Mono H1 H5:= .keep k5 hH1 hH5
  have lr5:=r5.1
  refine vr rfl ⟨l5,rfl,⟨_,SqL.of e5⟩,?_⟩
  refine zdj (g:=λd=>match d with| .tup [_, .tup b]=>decide (b.length<=10)|_=>false) (f:=λd=>d) (σr:=[]) (zcy (K:=K)) (λH' s'=>SqL.of (s' _ _ e5)) r5 (by omega) rfl ?_ (λx d HA sA rx hd=>by walk_at "dsp") λl6 us6 H6 s6 hl6 e6 r6=>?_
  ·intro x d HA Q1 sA rx hd q1
   obtain⟨f',qs',rfl,_,l20⟩:=h5 d hd
   obtain⟨pz,za,zb,rfl,hpz,ra,rb⟩:=rx.of2
   obtain⟨pb,ub,rfl,hpb,rb',_⟩:=rb.ofT
   refine vr rfl (ixT hpz at1 (.inl (ex2 pb _ ⟨rfl, .inr (.inl (.inl hpb)),ex2 _ _ ⟨rfl,rfl,vr rfl ?_⟩⟩)))
   have e:decide ((ub.length:Int)<=10)=decide ((qs'.map ppD).length<=10):=by rw[rb'.1,ξf,ζg,ζg];omega
   rw[e]
   exact q1 HA (Same.refl _)
  rw[List.map_id'] at r6
  have H5':=hH5.same s6
  refine vr rfl (vr rfl (vr rfl (ex8 a _ u (.ref pd) f qs g hs (ex3 ps lks hds ⟨rfl,H5',by omega,(hu1.mono M5).same s6,T,(hv1.mono M5).same s6,hP,lq,λl7 H7 hl7 L7 hH7 k7=>?_⟩))))
  obtain⟨vs7,ds7,e7,r7,h7,c7⟩:=L7
  have n6:l6≠a:=hH5.ne hl6
  have e67:=k7 _ _ n6 e6
  have r67:=r6.mono (.keep k7 H5' hH7)
  have lf:us6.length<=ds5.length:=by rw[r6.1];exact List.length_filter_le _ _
  have lr6:=r6.1
  have lr7:=r7.1
  refine ex4 l6 l7 _ _ ⟨rfl,rfl,e67,e7,ξi (zm (by omega)),λl8 hl8=>?_⟩
  have S8:=Same.new (o:= .lst (us6 ++vs7)) hl8
  have K08:Keep a H H7:=((k1.trans k5).trans (Keep.of s6)).trans k7
  refine q l8 _ (zbC K08 (hH7.ne hl8) hl8) ⟨_,_,zd,(r67.mono (.of S8)).append (r7.mono (.of S8)),λd hd=>?_,by rw[ζe,←r6.1];omega⟩ ((hH7.same S8).mono (by omega)) (K08.trans (Keep.of S8))
  rcases List.mem_append.mp hd with hd|hd
  ·obtain ⟨hd1,hd2⟩:=List.mem_filter.mp hd
   obtain⟨f',qs',rfl,hh,_⟩:=h5 d hd1
   have hd2:decide ((qs'.map ppD).length<=10)=true:=hd2
   rw[ζa] at hd2
   exact ex2 f' qs' ⟨rfl,hh,ζh hd2⟩
  ·exact h7 d hd
end
section
variable{P:Program}{w:World}{K:PySem.W.Frag}{mg:Str->Option Value}{base:Heap}
noncomputable def zkF:Sp:=λvs H Q _=>∃(a:Addr) (n:Int) (b:Addr) (xs:List V),vs=[.ref a, .ref b]/\Hand H a n/\n<2^40/\H b=some (.tup xs)/\0<xs.length/\xs.length<1000/\∀v H',v∈xs->Hand H' a (n+1)->Keep a H H'->Q v H'
theorem zmU(Y:Ev K mg):FnOk P w K mg base CX0 2 Y.a__law_pick Y.d__law_pick zag zkF:=by
 have G__law_take:FnOk P w K mg base CX0 1 Y.a__law_take Y.d__law_take zaf zdp:=zcU Y
 refine Y._law_pick.fn.okQ zfB (λvs H Q E h=>?_) (λcdv A outer s H vs Q E hr h=>?_)
 ·obtain ⟨a,n,b,xs,rfl,_⟩:=h;rfl
 ·obtain ⟨a,n,b,xs,rfl,hH,hn,hb,x0,x1,q⟩:=h
  refine⟨_,(zn (zy (zt zhq (qv 1) (zk G__law_take (hr.mono (by decide)) Y._law_take.mg Y._law_take.kp Y._law_take.b .nil zp (zc (qv 0) (zc (zq zE Y.len zaj (zc (qv 1) ze)) ze)))))),?_⟩
  refine vr rfl (vr rfl (vr rfl (.inl (ex2 b xs ⟨rfl, .inr (.inl (.inl hb)),ex3 a _ n ⟨rfl,hH,hn,by omega,by omega,λd H' h0 h1 hH' kp=>?_⟩⟩))))
  obtain⟨v,e,hv⟩:=zeh h0 h1
  have nb:b≠a:=λz=>by obtain⟨_,_,_,e',_⟩:=hH;rw[z,e'] at hb;cases hb
  exact .inr (.inl (ex4 b xs d v ⟨rfl,rfl, .inl (.inl (kp _ _ nb hb)),e,q v H' hv hH' kp⟩))
def TwK(hs:List Str)(ps:List (Str×Str))(d:D):Prop:=∃g lks hds,d=za5 g hs ps lks hds/\TownOk g hs ps lks hds/\∀e∈hds,zgI e=true
def TL(hs:List Str)(ps:List (Str×Str))(H:Hp)(l:Addr)(c:Nat):Prop:=∃(vs:List V) (ds:List D),H l=some (.lst vs)/\RepL H vs ds/\(∀d∈ds,TwK hs ps d)/\ds.length<=c
noncomputable def ziW:Sp:=λvs H Q _=>∃(a pw:Addr) (n:Int) (u:V) (w:List Str) (g:Str) (hs:List Str) (ps:List (Str×Str)) (lks hds:List D),vs=[.ref a,u, .ref pw]/\Hand H a n/\n<2^37/\Rep H u (za5 g hs ps lks hds)/\TownOk g hs ps lks hds/\(∀d∈hds,zhD d=true)/\H pw=some (.tup (w.map V.str))/\1<=w.length/\w.length<=10/\(∀x∈w,x∈hs)/\
 ∀(l:Addr) (H':Hp),H l=none->TL hs ps H' l 10->Hand H' a (n+2)->Keep a H H'->Q (.ref l) H'
theorem zlv{g:Str}{hs:List Str}{ps:List (Str×Str)}{lks hds:List D}(T:TownOk g hs ps lks hds){j:Nat}(hj:j<hs.length){L:D}(hL:zbV L=true):TownOk g hs ps (putAt lks j L) hds:=
 ⟨T.rise,T.one,T.ten,T.names,T.goal,T.riseP,T.ties,by rw[zhd (by rw[T.ll];exact hj)];exact T.ll,T.lh,λd hd=>(zfp hd).elim (λe=>by rw[e];exact hL) (T.likes d),T.hands⟩
theorem zk7{g:Str}{hs:List Str}{ps:List (Str×Str)}{lks hds:List D}(T:TownOk g hs ps lks hds){j:Nat}(hj:j<hs.length){L:D}(hL:zbE L=true):TownOk g hs ps lks (putAt hds j L):=
 ⟨T.rise,T.one,T.ten,T.names,T.goal,T.riseP,T.ties,T.ll,by rw[zhd (by rw[T.lh];exact hj)];exact T.lh,T.likes,λd hd=>(zfp hd).elim (λe=>by rw[e];exact hL) (T.hands d)⟩
theorem zlF{g g':Str}{hs:List Str}{ps:List (Str×Str)}{lks hds:List D}(T:TownOk g hs ps lks hds)(h:g'∈hs):TownOk g' hs ps lks hds:=⟨T.rise,T.one,T.ten,T.names,h,T.riseP,T.ties,T.ll,T.lh,T.likes,T.hands⟩
theorem zgq(Y:Ev K mg):FnOk P w K mg base CX0 3 Y.a__law_other_towns Y.d__law_other_towns zaG ziW:=by
 have G__law_pick:FnOk P w K mg base CX0 2 Y.a__law_pick Y.d__law_pick zag zkF:=zmU Y
 refine Y._law_other_towns.fn.okQ c__law_other_towns (λvs H Q E h=>?_) (λcdv A outer s H vs Q E hr h=>?_)
 ·obtain ⟨a,pw,n,u,w,g,hs,ps,lks,hds,rfl,_⟩:=h;rfl
 ·obtain ⟨a,pw,n,u,w,g,hs,ps,lks,hds,rfl,hH,hn,hu,T,hS,hpw,w1,w10,hw,q⟩:=h
  have T10:=T.ten
  have lll:=T.ll
  have llh:=T.lh
  have hu':Rep H u (.tup [.str g, .tup (hs.map D.str), .tup (ps.map RW.pairD), .tup lks, .tup hds]):=hu
  obtain⟨p,pr,pt,pl,pa,vt,vl,va,rfl,hp,hpr,hpt,rt,hpl,rl,hpa,ra⟩:=zbN hu
  refine⟨_,(zb5 (zI 3 c__law_other_towns.nd (zfq PySem.F.plainAttrs_tuple PySem.F.slot_tuple_index PySem.F.type_tuple_index zfl (zt ix_tup (qv 1) zh) (zc (zk G__law_pick (hr.mono (by decide)) Y._law_pick.mg Y._law_pick.kp Y._law_pick.b .nil zp (zc (qv 0) (zc (qv 2) ze))) ze)))
   (zj (zI 4 c__law_other_towns.nd (zv (zc (zv (zc (zv ze) (zc zck ze))) ze)))
   (zj (zI 5 c__law_other_towns.nd (zv (zc (zv (zc (zv ze) (zc (zv (zc zaz ze)) ze))) ze)))
   (zb5 (zI 6 c__law_other_towns.nd (zG zad (zv (zc (zv (zc (zv ze) (zc (zv (zc zaz (zc zaz ze))) ze))) ze)) (zbL zR (zt ix_tup (zt ix_tup (qv 1) zh) (qv 3)) zae (zV zh))))
   (zb5 (zI 7 c__law_other_towns.nd (zbs (zc (zv (zc (zt ix_tup (qv 1) zh) (zc (zt ix_tup (qv 1) zh) (zc (zt ix_tup (qv 1) zh) (zc (zG zad (zG zad (zbL zR (zt ix_tup (qv 1) zh) zae (zV (qv 3))) (zv (zc (qv 4) ze))) (zbL zR (zt ix_tup (qv 1) zh) (zV (zG zat (qv 3) zh)) zae)) (zc (zt ix_tup (qv 1) zh) ze)))))) ze)))
   (zj (zcJ PassesOwn.never rfl (zbZ (zv (zc (qv 5) (zc (qv 6) ze)))) (zo 8 c__law_other_towns.nd) (zn (zdq (zfq PySem.F.plainAttrs_list PySem.F.slot_list_append PySem.F.type_list_append zaM (qv 7) (zc (zv (zc (zt ix_tup (qv 1) zh) (zc (zt ix_tup (qv 1) zh) (zc (zt ix_tup (qv 1) zh) (zc (zt ix_tup (qv 1) zh) (zc (zG zad (zG zad (zbL zR (zt ix_tup (qv 1) zh) zae (zV (qv 3))) (zv (zc (qv 8) ze))) (zbL zR (zt ix_tup (qv 1) zh) (zV (zG zat (qv 3) zh)) zae)) ze)))))) ze)))))
   (zn (zy (zG zcd (qv 7) (zbs (zc (zG zad (zv (zc (zk G__law_pick (hr.mono (by decide)) Y._law_pick.mg Y._law_pick.kp Y._law_pick.b .nil zp (zc (qv 0) (zc (zt ix_tup (qv 1) zh) ze))) ze)) (zbL zR (qv 1) (zV zh) zae)) ze))))))))))),?_⟩
  refine⟨λσ' H'=>∃k:Nat,k<hs.length/\σ'=[some (.ref a),some (.ref p),some (.ref pw),some (.int (k:Int)),none,none,none,none,none]/\Hand H' a (n+1)/\Keep a H H',?_,?_⟩
  ·refine vr rfl (ixT hp (zz (j:=1) rfl) ⟨.inr (.inr (.inr (.inr ⟨rfl,_,hpr⟩))),vr rfl (vr rfl (ex4 a n pw _ ⟨rfl,hH,by omega,hpw,by rw[ζa];omega,by rw[ζa];omega,λvx H1 hvx hH1 k1=>?_⟩))⟩)
   obtain⟨x,hx,rfl⟩:=List.mem_map.mp hvx
   obtain⟨j,hj,ej⟩:=List.getElem_of_mem (hw x hx)
   have hjs:hs[j]?=some x:=by rw[ζd hj,ej]
   have npr:pr≠a:=λz=>by obtain⟨_,_,_,e',_⟩:=hH;rw[z,e'] at hpr;cases hpr
   exact ex4 pr hs x j ⟨rfl,rfl, .inl (.inl (k1 _ _ npr hpr)),hjs,zgg T.hs_nd hjs,j,hj,rfl,hH1,k1⟩
  rintro σ' H1 ⟨k,hk,rfl,hH1,k1⟩
  have M1:Mono H H1:= .keep k1 hH hH1
  have hu1:=hu'.mono M1
  have hkd:k<hds.length:=by omega
  have hdk:hds[k]?=some hds[k]:=ζd hkd
  obtain⟨rs,ers,hF⟩:=zgA (T.hands _ (List.getElem_mem hkd))
  have hsh:=hS _ (List.getElem_mem hkd)
  have hha:=T.hands _ (List.getElem_mem hkd)
  rw[ers] at hsh hdk hha
  have l3:rs.length<=3:=ζh (show decide (rs.length<=3)=true from hsh)
  have all:∀r∈rs,zbj r=true:=by
   have h:(decide (rs.length<=90)&&rs.all zbj)=true:=hha
   rw[ζt] at h
   exact List.all_eq_true.mp h.2
  refine zph (d:= .tup [.tup [.tup [], .non]]) (zM (zl (zM (zl (zM zF (ξk _)) (zl zhm zF)) (ζk rfl)) zF) (ζk rfl)) λvn H2 s2 rn=>?_
  refine zph (d:= .tup [.tup [.tup [], .tup [.str "keep"]]]) (zM (zl (zM (zl (zM zF (ξk _)) (zl (zM (zl (zfT (by decide)) zF) (ζk rfl)) zF)) (ζk rfl)) zF) (ζk rfl)) λvk H3 s3 rk=>?_
  have hu3:=(hu1.same s2).same s3
  refine⟨λσ' H'=>∃vm,σ'=[some (.ref a),some (.ref p),some (.ref pw),some (.int (k:Int)),some vn,some vk,some vm,none,none]/\Rep H' vm (.tup ([.tup [.tup [], .tup [.str "put", .str "zz"]]]++rs.take 80))/\Same H3 H',?_,?_⟩
  ·exact zqb (d:= .tup ([.tup [.tup [], .tup [.str "put", .str "zz"]]]++rs.take 80)) (zbr (zM (zl (zM (zl (zM zF (ξk _)) (zl (zM (zl (zfT (by decide)) (zl (zfT (by decide)) zF)) (ζk rfl)) zF)) (ζk rfl)) zF) (ζk rfl)) (zlD (n:=80) (zoS (zaZ (n:=4) rfl hu3 rfl) rfl hdk)) (by rw[ζm];show 1+_<=_;omega)) λv H' s r=>⟨v,rfl,r,s⟩
  rintro σ' H4 ⟨vm,rfl,rm,s4⟩
  have hu4:=hu3.same s4
  have rn4:=(rn.same s3).same s4
  have rk4:=rk.same s4
  have neverOk:zbV (.tup [.tup [.tup [], .non]])=true:=by decide +kernel
  have keepOk:zbE (.tup [.tup [.tup [], .tup [.str "keep"]]])=true:=by decide +kernel
  have putOk:zbj (.tup [.tup [], .tup [.str "put", .str "zz"]])=true:=by decide +kernel
  have moreOk:zbE (.tup ([.tup [.tup [], .tup [.str "put", .str "zz"]]]++rs.take 80))=true:=zm2 (by rw[ζe,ζm];show 1+_<=_;omega) λd hd=>(List.mem_append.mp hd).elim (λh=>by rw[List.mem_singleton.mp h];exact putOk) λh=>all d (List.mem_of_mem_take h)
  have fw:∀d∈hds,zgI d=true:=λd hd=>zm3 (hS d hd)
  have hH4:=hH1.same ((s2.trans s3).trans s4)
  refine⟨λσ' H'=>∃lX,σ'=[some (.ref a),some (.ref p),some (.ref pw),some (.int (k:Int)),some vn,some vk,some vm,some (.ref lX),none]/\TL hs ps H' lX 1/\Same H4 H'/\H4 lX=none,?_,?_⟩
  ·refine zo8 (ds:=[za5 g hs ps (putAt lks k (.tup [.tup [.tup [], .non]])) hds]) ?_ (ζk rfl) λvs H5 l s5 r5 hl=>⟨l,rfl,⟨vs,_,zd,r5.mono (.new hl),λd hd=>?_,ζu 1⟩,s5.trans (Same.new hl),zcj s5 hl⟩
   ·refine zl (zM (ds:=[.str g, .tup (hs.map D.str), .tup (ps.map RW.pairD), .tup (putAt lks k (.tup [.tup [.tup [], .non]])), .tup hds]) (zl (zaZ (n:=0) rfl hu4 rfl) (zl (zaZ (n:=1) rfl hu4 rfl) (zl (zaZ (n:=2) rfl hu4 rfl) (zl ?_ (zl (zaZ (n:=4) rfl hu4 rfl) zF))))) (ζk rfl)) zF
    exact zbr (zbr (zgQ (zaZ (n:=3) rfl hu4 rfl) rfl) (zM (zl (za9 rfl rn4) zF) (ζk rfl)) (by rw[ζm,ξd];omega)) (zfY (zaZ (n:=3) rfl hu4 rfl) rfl) (by rw[ζe,ζm,ξd,ζr];omega)
   ·rw[List.mem_singleton.mp hd]
    exact ex3 _ _ _ ⟨rfl,zlv T hk neverOk,fw⟩
  rintro σ' H5 ⟨l5,rfl,L5,s5,z5⟩
  have hH5:=hH4.same s5
  have n5:l5≠a:=hH4.ne z5
  refine vr rfl (vr rfl ⟨few rfl,λpz hpz=>?_⟩)
  have Sz:=Same.new (o:= .tup [vk,vm]) hpz
  have hpz6:(upd H5 pz (.tup [vk,vm])) pz=some (.tup [vk,vm]):=zd
  have s46:=s5.trans Sz
  obtain⟨vs5,ds5,e5,r5,h5,c5⟩:=L5
  have e56:=Sz _ _ e5
  have r56:=r5.mono (.of Sz)
  refine⟨pz,rfl,⟨_, .inl (.inl hpz6)⟩,?_⟩
  generalize (upd H5 pz (HO.tup [vk,vm]))=H6 at *
  have hH6:=hH5.same Sz
  refine zbG (za0 (K:=K) (xs:=[vk,vm])) (λi σ' H'=>(∃o8,σ'=[some (.ref a),some (.ref p),some (.ref pw),some (.int (k:Int)),some vn,some vk,some vm,some (.ref l5),o8])/\TL hs ps H' l5 (1+i)/\Hand H' a (n+1)/\Keep a H4 H'/\H' pz=some (.tup [vk,vm])) ?_ ?_ ?_ ?_
  ·exact ⟨⟨_,rfl⟩,⟨vs5,ds5,e56,r56,h5,by omega⟩,hH6,Keep.of s46,hpz6⟩
  ·exact λi σ' H' z=> .inl (.inl z.2.2.2.2)
  ·rintro i y σ' H7 hi hy ⟨⟨o8,rfl⟩,⟨vs7,ds7,e7,r7,h7,c7⟩,hH7,k7,z7⟩
   have M7:Mono H4 H7:= .keep k7 hH4 hH7
   have hu7:=hu4.mono M7
   obtain⟨dd,ry,ok⟩:∃dd,Rep H7 y dd/\zbE dd=true/\zgI dd=true:=by
    have hy':=ζl hy
    simp only[List.mem_cons,List.not_mem_nil,or_false] at hy'
    rcases hy' with rfl|rfl
    ·exact ⟨_,rk4.mono M7,keepOk,rfl⟩
    ·refine ⟨_,rm.mono M7,moreOk,ζf ?_⟩
     rw[ζe,ζm];show 1+_<=12;omega
   have hi2:i<2:=hi
   refine vr rfl ⟨.inl ⟨rfl,_,SqL.of e7⟩,?_⟩
   refine zkO (d:=za5 g hs ps lks (putAt hds k dd)) (zM (ds:=[.str g, .tup (hs.map D.str), .tup (ps.map RW.pairD), .tup lks, .tup (putAt hds k dd)]) (zl (zaZ (n:=0) rfl hu7 rfl) (zl (zaZ (n:=1) rfl hu7 rfl) (zl (zaZ (n:=2) rfl hu7 rfl) (zl (zaZ (n:=3) rfl hu7 rfl) (zl (zbr (zbr (zgQ (zaZ (n:=4) rfl hu7 rfl) rfl) (zM (zl (za9 rfl ry) zF) (ζk rfl)) (by rw[ζm,ξd];omega)) (zfY (zaZ (n:=4) rfl hu7 rfl) rfl) (by rw[ζe,ζm,ξd,ζr];omega)) zF))))) (ζk rfl)) λv8 H8 s8 r8=>?_
   obtain⟨p8,_,_,_,_,_,rfl,_⟩:=zf9 r8
   have lr7:=r7.1
   refine ex3 l5 _ _ ⟨rfl,rfl,s8 _ _ e7,zm (by omega),⟨_,rfl⟩,⟨_,ds7 ++ [_],zd,((r7.mono (.of s8)).append (.cons r8 .nil)).mono (.lset (s8 _ _ e7)),λd hd=>(List.mem_append.mp hd).elim (h7 d) λz=>?_,by rw[ζe];show _+1<=_;omega⟩,(hH7.same s8).updNe n5,Keep.updNew (k7.trans (Keep.of s8)) z5,by rw[zr (λz=>by rw[z,e7] at z7;cases z7)];exact s8 _ _ z7⟩
   rw[List.mem_singleton.mp z]
   exact ex3 _ _ _ ⟨rfl,zk7 T hk ok.1,λe he=>(zfp he).elim (λz=>by rw[z];exact ok.2) (fw e)⟩
  ·rintro σ' H7 ⟨⟨o8,rfl⟩,⟨vs7,ds7,e7,r7,h7,c7⟩,hH7,k7,_⟩
   have c7:ds7.length<=3:=c7
   have M7:Mono H4 H7:= .keep k7 hH4 hH7
   have hu7:=hu4.mono M7
   have npr:pr≠a:=λz=>by obtain⟨_,_,_,e',_⟩:=hH;rw[z,e'] at hpr;cases hpr
   have np:p≠a:=λz=>by obtain⟨_,_,_,e',_⟩:=hH;rw[z,e'] at hp;cases hp
   have K07:Keep a H H7:=((k1.trans (Keep.of s2)).trans (Keep.of s3)).trans ((Keep.of s4).trans k7)
   have hp7:=K07 _ _ np hp
   have hpr7:=K07 _ _ npr hpr
   refine vr rfl (vr rfl (vr rfl (ixT hp7 (zz (j:=1) rfl) (ex4 a _ pr _ ⟨rfl,hH7,by omega,hpr7,by rw[ζa];have:=T.one;omega,by rw[ζa];omega,λvg H8 hvg hH8 k8=>?_⟩))))
   obtain⟨g',hg',rfl⟩:=List.mem_map.mp hvg
   have hu8:=hu7.mono (.keep k8 hH7 hH8)
   obtain⟨p2,vs2,ep2,hp2,ru2,_⟩:=hu8.ofT
   refine⟨few rfl,λb1 hb1=>?_⟩
   have S1:=Same.new (o:= .tup [V.str g']) hb1
   have hp8:=S1 _ _ (k8 _ _ np hp7)
   refine vr rfl (vr rfl ?_)
   dsimp only[zal]
   refine zav hp8 λb2 H9 hb2 s9=>?_
   have ec:zaY [V.str g,V.ref pr,V.ref pt,V.ref pl,V.ref pa] (some 1) none=[V.ref pr,V.ref pt,V.ref pl,V.ref pa]:=za3 (m:=1)
   rw[ec] at hb2
   refine zak (s9 _ _ zd) hb2 (ζk rfl) λb3 HA hb3 sA=>⟨few rfl,λb4 hb4=>?_⟩
   have S4:=Same.new (o:= .lst [V.ref b3]) hb4
   have s8A:=(S1.trans s9).trans sA
   have huA:=(hu8.same s8A).same S4
   obtain⟨p3,y1,y2,y3,y4,y5,ep3,hp3,t1,t2,t3,t4,t5⟩:=zf9 huA
   cases ep3
   have hpA:(upd HA b4 (.lst [V.ref b3])) p=some (.tup [V.str g,V.ref pr,V.ref pt,V.ref pl,V.ref pa]):=S4 _ _ (s8A _ _ (k8 _ _ np hp7))
   rw[hpA] at hp3
   cases hp3
   have rT:Rep (upd HA b4 (.lst [V.ref b3])) (.ref b3) (za5 g' hs ps lks hds):= .mkL (vs:=[.str g',V.ref pr,V.ref pt,V.ref pl,V.ref pa]) (S4 _ _ hb3) (ζk rfl) (.cons (.str _ (zC (T.names g' hg'))) (.cons t2 (.cons t3 (.cons t4 (.cons t5 .nil)))))
   have e8:=k8 _ _ n5 e7
   have r8:=r7.mono (.keep k8 hH7 hH8)
   have s8B:=s8A.trans S4
   have lr7:=r7.1
   refine ex4 l5 b4 _ _ ⟨rfl,rfl,s8B _ _ e8,zd,ξi (zm (by show _+1<=_;omega)),λl9 hl9=>?_⟩
   have S9:=Same.new (o:= .lst (vs7 ++ [V.ref b3])) hl9
   have K0B:Keep a H (upd HA b4 (.lst [V.ref b3])):=(K07.trans k8).trans (Keep.of s8B)
   have hHB:=hH8.same s8B
   refine q l9 _ (zbC K0B (hHB.ne hl9) hl9) ⟨_,ds7 ++ [_],zd,((r8.mono (.of s8B)).append (.cons rT .nil)).mono (.of S9),λd hd=>(List.mem_append.mp hd).elim (h7 d) λz=>?_,by rw[ζe];show _+1<=10;have:ds7.length<=3:=c7;omega⟩ ((hHB.same S9).mono (by omega)) (K0B.trans (Keep.of S9))
   rw[List.mem_singleton.mp z]
   exact ex3 _ _ _ ⟨rfl,zlF T hg',fw⟩
end
section
variable{P:Program}{w:World}{K:PySem.W.Frag}{mg:Str->Option Value}{base:Heap}
theorem zoJ{hs:List Str}{lks hds:List D}{to:Str}{w:List Str}{P:List Pp}(c:Ch hs lks hds to w P):∀p∈P,∃w,p.way=some w:=by
 induction c with
 |one h1 h2=>exact λp hp=>by rw[List.mem_singleton.mp hp];exact⟨_,rfl⟩
 |more h h0 h1 h2 ih=>exact λp hp=>(List.mem_cons.mp hp).elim (λe=>by rw[e];exact⟨_,rfl⟩) (ih p)
noncomputable def zki:Sp:=λvs H Q _=>∃(u v:V) (d:D) (g:Str) (hs:List Str) (ps:List (Str×Str)) (lks hds:List D),vs=[u,v]/\Rep H u (za5 g hs ps lks hds)/\TownOk g hs ps lks hds/\(∀d∈hds,zgI d=true)/\Rep H v d/\zja hs ps d/\∀H',Same H H'->Q (.bl true) H'
theorem znc(Y:Ev K mg):FnOk P w K mg base CX0 8 Y.a__law_same Y.d__law_same zcB zki:=by
 have G_is_right:FnOk P w K mg base CX0 7 Y.a_is_right Y.d_is_right zdd zkL:=zih Y
 have G__law_is_right:FnOk P w K mg base CX0 6 Y.a__law_is_right Y.d__law_is_right zbb zir:=zl6 Y
 refine Y._law_same.fn.okQ c__law_same (λvs H Q E h=>?_) (λcdv A outer s H vs Q E hr h=>?_)
 ·obtain ⟨u,v,d,g,hs,ps,lks,hds,rfl,_⟩:=h;rfl
 ·obtain ⟨u,v,d,g,hs,ps,lks,hds,rfl,hu,T,hf,hv,⟨f,qs,rfl,hP,lq⟩,q⟩:=h
  have hsl:=zlW (hs:=hs) (ps:=ps) T.names (hP f ζp).1 (λp hp=>(hP p (ξe _ hp)).1) lq
  refine⟨_,(zj (zI 2 c__law_same.nd (zk G_is_right (hr.mono (by decide)) Y.is_right.mg Y.is_right.kp Y.is_right.b .nil zp (zc (qv 0) (zc (qv 1) ze))))
   (zn (zy (ze5 (zq zea Y.isinstance zbK (zc (qv 2) (zc (zmE Y.bool zk3) ze))) (zd2 (za2 zay (qv 2) (zk G__law_is_right (hr.mono (by decide)) Y._law_is_right.mg Y._law_is_right.kp Y._law_is_right.b .nil zp (zc (qv 0) (zc (qv 1) ze))))))))),?_⟩
  refine vr rfl (vr rfl (ex8 u v _ g hs ps lks hds ⟨rfl,hu,T,hf,hv,λf2 qs2 e p hp=>?_,λb H1 h1 h2 s1=>?_⟩))
  ·obtain ⟨rfl,rfl⟩:=zh9 e
   exact(hP p hp).2
  have hb:=h2 f qs rfl hsl
  rw[←zqJ T.names λw ew=>((hP f ζp).1.way w ew).1] at hb
  subst hb
  dsimp only[zaE]
  obtain⟨ty,hty,_,_,h3,_⟩:=(Rep.bl (H:=H1) (lrB g hs ps lks hds f qs)).isi (K:=K)
  refine vr rfl (ex4 _ _ _ _ ⟨rfl,hty,h3,vr rfl (zQ rfl (vr rfl (vr rfl (vr rfl (ex8 u v f qs g hs ps lks ⟨hds,rfl,hu.same s1,T,hf,hv.same s1,λp hp=>hP p hp,lq,λH2 s2=>⟨rfl,?_⟩⟩)))))⟩)
  rw[ζf rfl]
  exact q H2 (s1.trans s2)
noncomputable def zkI(K:PySem.W.Frag):Sp:=λvs H Q _=>∃(a:Addr) (ns:List Int),vs=[.ref a]/\SqL K H a (ns.map V.int)/\ns.length<=63/\∀H',Q (.bl true) H'
theorem zlH(Y:Ev K mg){fl:Addr}{fdl:FuncData}(FL:Fun K "law" "law" zdQ fl fdl):FnOk P w K mg base CX0 9 fl fdl zkA (zkI K):=by
 have G__law_hand:FnOk P w K mg base CX0 1 Y.a__law_hand Y.d__law_hand zcG (znp K):=zon Y
 have G__law_mild_town:FnOk P w K mg base CX0 5 Y.a__law_mild_town Y.d__law_mild_town za1 zmG:=zoX Y
 have G__law_some_way:FnOk P w K mg base CX0 3 Y.a__law_some_way Y.d__law_some_way zbc zhe:=ziT Y
 have G__law_near:FnOk P w K mg base CX0 2 Y.a__law_near Y.d__law_near zb6 zj2:=zkU Y
 have G__law_papers:FnOk P w K mg base CX0 6 Y.a__law_papers Y.d__law_papers zbJ zi0:=zlK Y
 have G__law_turned:FnOk P w K mg base CX0 4 Y.a__law_turned Y.d__law_turned zbI zg6:=zlY Y
 have G__law_same:FnOk P w K mg base CX0 8 Y.a__law_same Y.d__law_same zcB zki:=znc Y
 have G__law_other_towns:FnOk P w K mg base CX0 3 Y.a__law_other_towns Y.d__law_other_towns zaG ziW:=zgq Y
 refine FL.okQ c_law (λvs H Q E h=>?_) (λcdv A outer s H vs Q E hr h=>?_)
 ·obtain ⟨a,ns,rfl,_⟩:=h;rfl
 ·obtain ⟨b,ns,rfl,hS,hns,q⟩:=h
  refine⟨_,(zj (zcJ PassesOwn.never rfl (zdf Y.range (zc (zq (zlI rfl) Y.max zjJ (zc zh (zc (zq (zgS rfl) Y.min zhO (zc zh (zc (zq zE Y.len zaj (zc (qv 0) ze)) ze))) ze))) ze)) (zo 1 c_law.nd) (zj (zI 2 c_law.nd (zk G__law_hand (hr.mono (by decide)) Y._law_hand.mg Y._law_hand.kp Y._law_hand.b .nil zp (zc (qv 0) (zc (qv 1) ze))))
   (zj (zc2 3 c_law.nd (zk G__law_mild_town (hr.mono (by decide)) Y._law_mild_town.mg Y._law_mild_town.kp Y._law_mild_town.b .nil zp (zc (qv 2) ze)))
   (zn (zcJ PassesOwn.never rfl (zdf Y.range (zc zh ze)) (zo 4 c_law.nd) (zj (zI 5 c_law.nd (zk G__law_some_way (hr.mono (by decide)) Y._law_some_way.mg Y._law_some_way.kp Y._law_some_way.b .nil zp (zc (qv 2) (zc (qc 3) ze))))
   (zn (zcJ PassesOwn.never rfl (zdt (zbL zfU (zk G__law_near (hr.mono (by decide)) Y._law_near.mg Y._law_near.kp Y._law_near.b .nil zp (zc (qc 3) (zc (zt ix_tup (qv 5) zh) ze))) zae (zV zh))) (zo 6 c_law.nd) (zj (zc2 7 c_law.nd (zk G__law_papers (hr.mono (by decide)) Y._law_papers.mg Y._law_papers.kp Y._law_papers.b .nil zp (zc (qv 2) (zc (qc 3) (zc (qv 5) (zc (qv 6) ze))))))
   (zn (zau (zH zkp (qc 7) zck) (zj (zI 8 c_law.nd (zG zcd (zG zcd (zbs (zc (qc 7) ze)) (zk G__law_turned (hr.mono (by decide)) Y._law_turned.mg Y._law_turned.kp Y._law_turned.b .nil zp (zc (qv 2) (zc (qc 3) (zc (qc 7) ze))))) (zbs (zc (qc 7) ze))))
   (zj (zau (zbX (zbp (zq (zbA rfl) Y.all zdJ (zc (zaI (src:=[none,some 3]) o_law_1 rfl rfl (zdt (qv 8)) (λ_ _ _ _ _=>(zo 0 o_law_1.nd)) (λ_ _ _ _ _=>zcR) (λ_ _ _ _ _=>(zk G__law_same (hr.mono (by decide)) Y._law_same.mg Y._law_same.kp Y._law_same.b .nil zp (zc (qc 1) (zc (qv 0) ze))))) ze)))) (zn (zy zco)) zO)
   (zn (zau (zbX (zbp (zq (zbA rfl) Y.all zdJ (zc (zaI (src:=[none,some 7]) o_law_2 rfl rfl (zdt (zk G__law_other_towns (hr.mono (by decide)) Y._law_other_towns.mg Y._law_other_towns.kp Y._law_other_towns.b .nil zp (zc (qv 2) (zc (qc 3) (zc (qv 5) ze))))) (λ_ _ _ _ _=>(zo 0 o_law_2.nd)) (λ_ _ _ _ _=>zcR) (λ_ _ _ _ _=>(zk G__law_same (hr.mono (by decide)) Y._law_same.mg Y._law_same.kp Y._law_same.b .nil zp (zc (qv 0) (zc (qc 1) ze))))) ze)))) (zn (zy zco)) zO)))) zO)))))))))))
   (zn (zy zco))),?_⟩
  refine vr rfl (.inl (ex2 b _ ⟨rfl, .inl hS,ex2 _ _ ⟨rfl,ex2 _ _ ⟨rfl,vr rfl ⟨?_,?_,?_⟩⟩⟩⟩))
  ·split<;>(try split)<;>omega
  ·rw[ζa]
   split<;>(try split)<;>omega
  refine zbG zdo (λi σ' H'=>(∃o1 o2 o3 o4 o5 o6 o7 o8,σ'=[some (.ref b),o1,o2,o3,o4,o5,o6,o7,o8])/\Same H H') ⟨(ex8 _ _ _ _ _ _ _ _ rfl),Same.refl H⟩ (λ_ _ _ _=>trivial) ?_ ?_
  ·rintro i y σ' H0 hi rfl ⟨⟨o1,o2,o3,o4,o5,o6,o7,o8,rfl⟩,s0⟩
   have hi':i<1000:=by
    refine ξh hi ?_
    rw[ζa]
    split<;>(try split)<;>omega
   refine vr rfl (vr rfl (ex3 b ns _ ⟨rfl,s0.seq hS,by omega,by omega,λa H1 ha hH1 s1=>?_⟩))
   refine vr rfl (ex2 a 0 ⟨rfl,hH1,by decide,λv g hs ps lks hds H2 hv T hw hP hSh hH2 k2=>?_⟩)
   obtain⟨O,PO,O13⟩:=hP
   have T10:=T.ten
   have fw:∀d∈hds,zgI d=true:=λd hd=>zm3 (hSh d hd)
   refine⟨4,rfl,by decide,by decide,?_⟩
   refine zbG zdo (λj σ' H'=>(∃o1 o4 o5 o6 o7 o8,σ'=[some (.ref b),o1,some (.ref a),some v,o4,o5,o6,o7,o8])/\Hand H' a (9000+200*j)/\Keep a H2 H') ⟨(ex4 _ _ _ _ (ex2 _ _ rfl)),hH2.mono (by decide),Keep.refl _ _⟩ (λ_ _ _ _=>trivial) ?_ ?_
   ·rintro j y σ' H5 hj rfl ⟨⟨o1,o4,o5,o6,o7,o8,rfl⟩,hH5,k5⟩
    have hj4:j<4:=hj
    have hv5:=hv.mono (.keep k5 hH2 hH5)
    refine vr rfl (vr rfl (ex8 a _ v g hs ps lks hds ⟨rfl,hH5,by omega,hv5,T,λvw ws H6 rw6 W hH6 k6=>?_⟩))
    have k26:=k5.trans k6
    have hv6:=hv5.mono (.keep k6 hH5 hH6)
    obtain⟨pw,rfl,hpw⟩:=zax rw6
    obtain⟨w1,w2⟩:=W.len
    have wn:∀x∈ws,zi x=true:=λx hx=>T.names x (W.mem x hx)
    obtain⟨x0,wr,rfl⟩:∃x0' wr,ws=x0'::wr:=by
     match ws,w1 with
     |a::b,_=>exact ⟨a,b,rfl⟩
    have hx0:x0∈hs:=W.mem _ ζp
    have lw:wr.length<=9:=by rw[ζw] at w2;omega
    have npw:pw≠a:=λz=>by obtain⟨_,_,_,e',_⟩:=hH6;rw[z,e'] at hpw;cases hpw
    refine vr rfl (vr rfl (ixT hpw at0 (ex4 v x0 g hs (ex3 ps lks hds ⟨rfl,hv6,T,hx0,λl0 H7' hl0 el0 s7'=>?_⟩))))
    refine vr rfl (ex2 l0 _ ⟨rfl,SqL.of el0,λl hl=>⟨l,rfl,⟨_,SqL.of zd⟩,?_⟩⟩)
    have ect:zaY ((hs.filter λy=>decide (y∈zan ps x0)).map V.str) none (some 2)=((hs.filter λy=>decide (y∈zan ps x0)).take 2).map V.str:=by rw[show(2:Int)=((2:Nat):Int)from rfl,zbw,List.map_take]
    rw[ect]
    have el:(upd H7' l (.lst (((hs.filter λy=>decide (y∈zan ps x0)).take 2).map V.str))) l=some (.lst (((hs.filter λy=>decide (y∈zan ps x0)).take 2).map V.str)):=zd
    have s7:=s7'.trans (Same.new (o:= .lst (((hs.filter λy=>decide (y∈zan ps x0)).take 2).map V.str)) hl)
    have nl:l≠a:=(hH6.same s7').ne hl
    generalize (upd H7' l (HO.lst (((hs.filter λy=>decide (y∈zan ps x0)).take 2).map V.str)))=H7 at *
    have hH7:=hH6.same s7
    have hv7:=hv6.same s7
    have hpw7:=s7 _ _ hpw
    have hT:∀to∈(hs.filter (λy=>decide (y∈zan ps x0))).take 2,to∈hs/\to∈zan ps x0:=λto h=>by
     obtain⟨h1,h2⟩:=List.mem_filter.mp (List.mem_of_mem_take h)
     exact⟨h1,ζh h2⟩
    have lT:((hs.filter (λy=>decide (y∈zan ps x0))).take 2).length<=2:=by rw[ζm];omega
    generalize (hs.filter (λy=>decide (y∈zan ps x0))).take 2=ts at *
    refine zbG (zcy (K:=K) (xs:=ts.map V.str)) (λm σ' H'=>(∃o1 o6 o7 o8,σ'=[some (.ref b),o1,some (.ref a),some v,some (.int (0+(j:Int))),some (.ref pw),o6,o7,o8])/\Hand H' a (9000+200*j+10+60*m)/\Keep a H7 H') ⟨(ex4 _ _ _ _ rfl),hH7.mono (by omega),Keep.refl _ _⟩ (λm σ' H' z=>SqL.of (z.2.2 _ _ nl el)) ?_ ?_
    ·rintro m z σ' H8 hm hz ⟨⟨o1,o6,o7,o8,rfl⟩,hH8,k8⟩
     rw[ζa] at hm
     rw[ζq,ζd hm] at hz
     cases hz
     obtain⟨hto,htn⟩:=hT ts[m] (List.getElem_mem hm)
     generalize ts[m]=to at *
     have hv8:=hv7.mono (.keep k8 hH7 hH8)
     have hpw8:=k8 _ _ npw hpw7
     refine vr rfl (vr rfl (vr rfl (vr rfl (ex8 a pw _ v to (x0::wr) g hs (ex4 ps lks hds O ⟨rfl,hH8,by omega,hv8,T,PO,hpw8,W,hto,λhc H9 hH9 k9=>?_,λv' f qs H9 c rv hH9 k9=>?_⟩)))))
     ·exact vr rfl ⟨rfl,vr rfl (zW rfl ⟨(ex4 _ _ _ _ rfl),hH9.mono (by push_cast;omega),k8.trans k9⟩)⟩
     ·have hv9:=hv8.mono (.keep k9 hH8 hH9)
      have hpw9:=k9 _ _ npw hpw8
      have hkx:∀x∈x0::wr,zdI O (zaa hs hds x):=λx hx=>by
       obtain⟨_,rs,_,_,er,hk⟩:=zo9 T PO (W.mem x hx)
       rw[er];exact hk
      have cM:=c.marks hkx
      have cP:=c.pp T.names T10 PO.few PO.nm W hto htn cM
      obtain⟨_,_,eh,_,_,_,_,lc⟩:=c.head
      have lq:qs.length<=9:=by rw[ζw,ζw] at lc;omega
      have cw:=zoJ c
      have cK:∀p∈f::qs,PpK hs ps p/\p.marks.length<=14/\∃w,p.way=some w:=λp hp=>⟨⟨cP p hp,ξb ((cM p hp).toMk.len PO.few) (by decide)⟩,(cM p hp).toMk.len PO.few,cw p hp⟩
      have letOk:zja hs ps (zcf f qs):=⟨f,qs,rfl,λp hp=>(cK p hp).1,by omega⟩
      have nn:decide (v'=V.non)=false:=by rw[zdm rv];rfl
      refine vr rfl ⟨rfl,vr rfl (zQ (by rw[nn];rfl) ?_)⟩
      refine vr rfl ⟨few rfl,λp1 hp1=>?_⟩
      have S1:=Same.new (o:= .lst [v']) hp1
      have n1:p1≠a:=hH9.ne hp1
      refine vr rfl (vr rfl (vr rfl (ex8 a _ v v' f qs g hs (ex3 ps lks hds ⟨rfl,hH9.same S1,by omega,hv9.same S1,T,rv.same S1,cK,lq,λl2 HA hl2 L2 hHA kA=>?_⟩))))
      obtain⟨vs2,ds2,e2,r2,h2,c2⟩:=L2
      have k9A:=(Keep.of S1).trans kA
      have rvA:=rv.mono (.keep k9A hH9 hHA)
      have hvA:=hv9.mono (.keep k9A hH9 hHA)
      have e1A:=kA _ _ n1 (zd (H:=H9) (a:=p1) (o:= .lst [v']))
      have lr2:=r2.1
      refine ex4 p1 l2 _ _ ⟨rfl,rfl,e1A,e2,ξi (zm (by show 1+_<=_;omega)),λl3 hl3=>?_⟩
      have S3:=Same.new (o:= .lst ([v']++vs2)) hl3
      refine vr rfl ⟨few rfl,λp4 hp4=>?_⟩
      have S4:=Same.new (o:= .lst [v']) hp4
      refine ex4 l3 p4 _ _ ⟨rfl,rfl,S4 _ _ zd,zd,ξi (zm (by simp only[ζe,ξd];omega)),λl5 hl5=>?_⟩
      have S5:=Same.new (o:= .lst (([v']++vs2)++ [v'])) hl5
      have sAB:=(S3.trans S4).trans S5
      have eB:(upd (upd (upd HA l3 (.lst ([v']++vs2))) p4 (.lst [v'])) l5 (.lst (([v']++vs2)++ [v']))) l5=some (.lst (([v']++vs2)++ [v'])):=zd
      have rB:RepL (upd (upd (upd HA l3 (.lst ([v']++vs2))) p4 (.lst [v'])) l5 (.lst (([v']++vs2)++ [v']))) (([v']++vs2)++ [v']) (([zcf f qs]++ds2)++ [zcf f qs]):=RepL.mono (((RepL.cons rvA .nil).append r2).append (.cons rvA .nil)) (.of sAB)
      have hB:∀d∈([zcf f qs]++ds2)++ [zcf f qs],zja hs ps d:=λd hd=>by
       rcases List.mem_append.mp hd with hd|hd
       ·rcases List.mem_append.mp hd with hd|hd
        ·rw[List.mem_singleton.mp hd];exact letOk
        ·exact h2 d hd
       ·rw[List.mem_singleton.mp hd];exact letOk
      dsimp only[zaE]
      generalize (upd (upd (upd HA l3 (HO.lst ([v']++vs2))) p4 (HO.lst [v'])) l5 (HO.lst (([v']++vs2)++ [v'])))=HB at *
      have hHB:=hHA.same sAB
      have hvB:=hvA.same sAB
      refine vr rfl ⟨l5,rfl,⟨_,SqL.of eB⟩,?_⟩
      refine zcS (g:=λ_=>true) (σr:=[some v]) (zcy (K:=K)) (λH' s=>SqL.of (s _ _ eB)) rB (by simp only[ζe,ξd];omega) rfl (λx d HC Q1 sC rx hd q1=>(vr rfl (vr rfl (ex8 v x d g hs ps lks hds ⟨rfl,hvB.same sC,T,fw,rx,hB d hd,q1⟩)))) (λl6 HC sC _ hl6=>?_)
      refine ex2 l6 _ ⟨rfl,SqL.of hl6,vr rfl ?_⟩
      rw[zbO]
      have ea:∀ds:List D,ds.all (λ_=>true)=true:=λds=>List.all_eq_true.mpr λ_ _=>rfl
      rw[ea]
      have hHC:=hHB.same sC
      have k9C:=k9A.trans ((Keep.of sAB).trans (Keep.of sC))
      have hvC:=hvB.same sC
      have rvC:=(rvA.same sAB).same sC
      have hpwC:=k9C _ _ npw hpw9
      refine zW rfl (vr rfl (vr rfl (vr rfl (ex8 a pw _ v (x0::wr) g hs ps (ex2 lks hds ⟨rfl,hHC,by omega,hvC,T,hSh,hpwC,by simp,by omega,W.mem,λl7 HD hl7 L7 hHD kD=>?_⟩)))))
      obtain⟨vs7,ds7,e7,r7,h7,c7⟩:=L7
      refine⟨l7,rfl,⟨_,SqL.of e7⟩,?_⟩
      have rvD:=rvC.mono (.keep kD hHC hHD)
      refine zcS (g:=λ_=>true) (σr:=[some v']) (zcy (K:=K)) (λH' s=>SqL.of (s _ _ e7)) r7 (by omega) rfl (λx d HE Q1 sE rx hd q1=>?_) (λl8 HE sE _ hl8=>?_)
      ·obtain ⟨g',lk',hd',rfl,T',fw'⟩:=h7 d hd
       exact vr rfl (vr rfl ⟨x,v',_,g',hs,ps,lk',hd',rfl,rx,T',fw',rvD.same sE,letOk,q1⟩)
      refine ex2 l8 _ ⟨rfl,SqL.of hl8,vr rfl ?_⟩
      rw[zbO,ea]
      exact zW rfl ⟨(ex4 _ _ _ _ rfl),(hHD.same sE).mono (by push_cast;omega),((k8.trans k9).trans (k9C.trans kD)).trans (Keep.of sE)⟩
    ·rintro σ' H8 ⟨⟨o1,o6,o7,o8,rfl⟩,hH8,k8⟩
     rw[ζa] at hH8
     exact⟨(ex4 _ _ _ _ (ex2 _ _ rfl)),hH8.mono (by push_cast;omega),(k26.trans (Keep.of s7)).trans k8⟩
   ·rintro σ' H5 ⟨⟨o1,o4,o5,o6,o7,o8,rfl⟩,hH5,k5⟩
    exact⟨(ex8 _ _ _ _ _ _ _ _ rfl),λc o e=>k5 c o (zB (s0 c o e) ha) (k2 c o (zB (s0 c o e) ha) (s1 c o (s0 c o e)))⟩
  ·rintro σ' H0 ⟨⟨o1,o2,o3,o4,o5,o6,o7,o8,rfl⟩,s0⟩
   exact q H0
end
theorem walk{l:PySem.W.OpenLaw}{q:Program}{loose:List Str}{XP:(Str->Option Value)->Heap->Prop}{YP:World->Heap->Prop}{d:DefRec}{K:Params->PySem.W.Frag}(hn:l.most=some 63)(hdf:d.params.defaults=[])
 (hY:∀(w:World) (h:Heap),YP w h->(K w.params).In h)
 (F:∀(w:World) (mg:Str->Option Value) (fa:Addr) (h:Heap),(K w.params).In h->h.Ns mainGlobals mg->mg d.name=some (.ref fa)->
   ∃fd:FuncData,(∀(s:Shared) (u:Value),BindsTo s fd ⟨[u],[]⟩ [("_law_script",u)])/\∀base:Heap,(K w.params).In base->base.Ns mainGlobals mg->FnOk l.prog w (K w.params) mg base CX0 9 fa fd ["_law_script"] (zkI (K w.params))):
 PySem.W.WalkO q loose XP YP l.row.toRowW d [] (λf vs=>PySem.call f vs):=
 L2.walk_of (n:=63) (k:=9) (x:="_law_script") (CX:=λ_=>CX0) (sp:=λw=>zkI (K w.params)) hn (by decide) hdf ⟨rfl,by decide,by decide,rfl⟩ hY F (λ_ _ a ns hl _ hS=>⟨a,ns,rfl,hS,hl,λ_=>rfl⟩) λ_ _ _ _ _ z=>z
theorem all_mk{l:PySem.W.OpenLaw}{w:World}{K:PySem.W.Frag}{h:Heap}{mg:Str->Option Value}{fa:Addr}(X:K.In h)(G:h.Ns mainGlobals mg)(hfa:mg "law"=some (.ref fa))
 {f1:Addr} {od1 an1:Option Addr} {sl1:Array (Option Value)} {oc1 kV1 dc1 pm1 cd1 ct1:Value}
 (a1:PySem.W.nsIn K mainGlobals "is_name"=some (some (.ref f1))) (l1:K.lookup f1=some ⟨oc1,od1, .func (PySem.W.fnOf "is_name" "is_name" (zw zcx) (zu zcx) (zg zcx) .none kV1 dc1 pm1 an1 cd1 ct1),sl1⟩) (c1:PySem.W.codeIn K cd1 "is_name"=true) (k1:PySem.W.keepIn K (.ref f1)=true)
 {f2:Addr} {od2 an2:Option Addr} {sl2:Array (Option Value)} {oc2 kV2 dc2 pm2 cd2 ct2:Value}
 (a2:PySem.W.nsIn K mainGlobals "is_number"=some (some (.ref f2))) (l2:K.lookup f2=some ⟨oc2,od2, .func (PySem.W.fnOf "is_number" "is_number" (zw zb3) (zu zb3) (zg zb3) .none kV2 dc2 pm2 an2 cd2 ct2),sl2⟩) (c2:PySem.W.codeIn K cd2 "is_number"=true) (k2:PySem.W.keepIn K (.ref f2)=true)
 {f3:Addr} {od3 an3:Option Addr} {sl3:Array (Option Value)} {oc3 kV3 dc3 pm3 cd3 ct3:Value}
 (a3:PySem.W.nsIn K mainGlobals "is_row"=some (some (.ref f3))) (l3:K.lookup f3=some ⟨oc3,od3, .func (PySem.W.fnOf "is_row" "is_row" (zw zdD) (zu zdD) (zg zdD) .none kV3 dc3 pm3 an3 cd3 ct3),sl3⟩) (c3:PySem.W.codeIn K cd3 "is_row"=true) (k3:PySem.W.keepIn K (.ref f3)=true)
 {f4:Addr} {od4 an4:Option Addr} {sl4:Array (Option Value)} {oc4 kV4 dc4 pm4 cd4 ct4:Value}
 (a4:PySem.W.nsIn K mainGlobals "is_rising"=some (some (.ref f4))) (l4:K.lookup f4=some ⟨oc4,od4, .func (PySem.W.fnOf "is_rising" "is_rising" (zw zbo) (zu zbo) (zg zbo) .none kV4 dc4 pm4 an4 cd4 ct4),sl4⟩) (c4:PySem.W.codeIn K cd4 "is_rising"=true) (k4:PySem.W.keepIn K (.ref f4)=true)
 {f5:Addr} {od5 an5:Option Addr} {sl5:Array (Option Value)} {oc5 kV5 dc5 pm5 cd5 ct5:Value}
 {dt5:Addr} {odd5:Option Addr} {nd5:Nat} {sld5:Array (Option Value)}
 (a5:PySem.W.nsIn K mainGlobals "holds"=some (some (.ref f5))) (l5:K.lookup f5=some ⟨oc5,od5, .func (PySem.W.fnOf "holds" "holds" (zw zed) (zu zed) (zg zed) (.ref dt5) kV5 dc5 pm5 an5 cd5 ct5),sl5⟩) (c5:PySem.W.codeIn K cd5 "holds"=true) (k5:PySem.W.keepIn K (.ref f5)=true)
 (ld5:K.lookup dt5=some ⟨.type "tuple",odd5, .seq #[.none] nd5,sld5⟩)
 {f6:Addr} {od6 an6:Option Addr} {sl6:Array (Option Value)} {oc6 kV6 dc6 pm6 cd6 ct6:Value}
 {dt6:Addr} {odd6:Option Addr} {nd6:Nat} {sld6:Array (Option Value)}
 (a6:PySem.W.nsIn K mainGlobals "all_hold"=some (some (.ref f6))) (l6:K.lookup f6=some ⟨oc6,od6, .func (PySem.W.fnOf "all_hold" "all_hold" (zw zct) (zu zct) (zg zct) (.ref dt6) kV6 dc6 pm6 an6 cd6 ct6),sl6⟩) (c6:PySem.W.codeIn K cd6 "all_hold"=true) (k6:PySem.W.keepIn K (.ref f6)=true)
 (ld6:K.lookup dt6=some ⟨.type "tuple",odd6, .seq #[.none] nd6,sld6⟩)
 {f7:Addr} {od7 an7:Option Addr} {sl7:Array (Option Value)} {oc7 kV7 dc7 pm7 cd7 ct7:Value}
 (a7:PySem.W.nsIn K mainGlobals "is_house"=some (some (.ref f7))) (l7:K.lookup f7=some ⟨oc7,od7, .func (PySem.W.fnOf "is_house" "is_house" (zw zcu) (zu zcu) (zg zcu) .none kV7 dc7 pm7 an7 cd7 ct7),sl7⟩) (c7:PySem.W.codeIn K cd7 "is_house"=true) (k7:PySem.W.keepIn K (.ref f7)=true)
 {f8:Addr} {od8 an8:Option Addr} {sl8:Array (Option Value)} {oc8 kV8 dc8 pm8 cd8 ct8:Value}
 (a8:PySem.W.nsIn K mainGlobals "likings_of"=some (some (.ref f8))) (l8:K.lookup f8=some ⟨oc8,od8, .func (PySem.W.fnOf "likings_of" "likings_of" (zw zbz) (zu zbz) (zg zbz) .none kV8 dc8 pm8 an8 cd8 ct8),sl8⟩) (c8:PySem.W.codeIn K cd8 "likings_of"=true) (k8:PySem.W.keepIn K (.ref f8)=true)
 {f9:Addr} {od9 an9:Option Addr} {sl9:Array (Option Value)} {oc9 kV9 dc9 pm9 cd9 ct9:Value}
 (a9:PySem.W.nsIn K mainGlobals "hands_of"=some (some (.ref f9))) (l9:K.lookup f9=some ⟨oc9,od9, .func (PySem.W.fnOf "hands_of" "hands_of" (zw zcq) (zu zcq) (zg zcq) .none kV9 dc9 pm9 an9 cd9 ct9),sl9⟩) (c9:PySem.W.codeIn K cd9 "hands_of"=true) (k9:PySem.W.keepIn K (.ref f9)=true)
 {f10:Addr} {od10 an10:Option Addr} {sl10:Array (Option Value)} {oc10 kV10 dc10 pm10 cd10 ct10:Value}
 (a10:PySem.W.nsIn K mainGlobals "tied"=some (some (.ref f10))) (l10:K.lookup f10=some ⟨oc10,od10, .func (PySem.W.fnOf "tied" "tied" (zw zd0) (zu zd0) (zg zd0) .none kV10 dc10 pm10 an10 cd10 ct10),sl10⟩) (c10:PySem.W.codeIn K cd10 "tied"=true) (k10:PySem.W.keepIn K (.ref f10)=true)
 {f11:Addr} {od11 an11:Option Addr} {sl11:Array (Option Value)} {oc11 kV11 dc11 pm11 cd11 ct11:Value}
 (a11:PySem.W.nsIn K mainGlobals "is_way"=some (some (.ref f11))) (l11:K.lookup f11=some ⟨oc11,od11, .func (PySem.W.fnOf "is_way" "is_way" (zw zcF) (zu zcF) (zg zcF) .none kV11 dc11 pm11 an11 cd11 ct11),sl11⟩) (c11:PySem.W.codeIn K cd11 "is_way"=true) (k11:PySem.W.keepIn K (.ref f11)=true)
 {f12:Addr} {od12 an12:Option Addr} {sl12:Array (Option Value)} {oc12 kV12 dc12 pm12 cd12 ct12:Value}
 (a12:PySem.W.nsIn K mainGlobals "marks_behind"=some (some (.ref f12))) (l12:K.lookup f12=some ⟨oc12,od12, .func (PySem.W.fnOf "marks_behind" "marks_behind" (zw zaH) (zu zaH) (zg zaH) .none kV12 dc12 pm12 an12 cd12 ct12),sl12⟩) (c12:PySem.W.codeIn K cd12 "marks_behind"=true) (k12:PySem.W.keepIn K (.ref f12)=true)
 {f13:Addr} {od13 an13:Option Addr} {sl13:Array (Option Value)} {oc13 kV13 dc13 pm13 cd13 ct13:Value}
 (a13:PySem.W.nsIn K mainGlobals "handed"=some (some (.ref f13))) (l13:K.lookup f13=some ⟨oc13,od13, .func (PySem.W.fnOf "handed" "handed" (zw zdB) (zu zdB) (zg zdB) .none kV13 dc13 pm13 an13 cd13 ct13),sl13⟩) (c13:PySem.W.codeIn K cd13 "handed"=true) (k13:PySem.W.keepIn K (.ref f13)=true)
 {f14:Addr} {od14 an14:Option Addr} {sl14:Array (Option Value)} {oc14 kV14 dc14 pm14 cd14 ct14:Value}
 (a14:PySem.W.nsIn K mainGlobals "worth"=some (some (.ref f14))) (l14:K.lookup f14=some ⟨oc14,od14, .func (PySem.W.fnOf "worth" "worth" (zw zei) (zu zei) (zg zei) .none kV14 dc14 pm14 an14 cd14 ct14),sl14⟩) (c14:PySem.W.codeIn K cd14 "worth"=true) (k14:PySem.W.keepIn K (.ref f14)=true)
 {f15:Addr} {od15 an15:Option Addr} {sl15:Array (Option Value)} {oc15 kV15 dc15 pm15 cd15 ct15:Value}
 (a15:PySem.W.nsIn K mainGlobals "are_names"=some (some (.ref f15))) (l15:K.lookup f15=some ⟨oc15,od15, .func (PySem.W.fnOf "are_names" "are_names" (zw zbt) (zu zbt) (zg zbt) .none kV15 dc15 pm15 an15 cd15 ct15),sl15⟩) (c15:PySem.W.codeIn K cd15 "are_names"=true) (k15:PySem.W.keepIn K (.ref f15)=true)
 {f16:Addr} {od16 an16:Option Addr} {sl16:Array (Option Value)} {oc16 kV16 dc16 pm16 cd16 ct16:Value}
 (a16:PySem.W.nsIn K mainGlobals "is_paper"=some (some (.ref f16))) (l16:K.lookup f16=some ⟨oc16,od16, .func (PySem.W.fnOf "is_paper" "is_paper" (zw zcl) (zu zcl) (zg zcl) .none kV16 dc16 pm16 an16 cd16 ct16),sl16⟩) (c16:PySem.W.codeIn K cd16 "is_paper"=true) (k16:PySem.W.keepIn K (.ref f16)=true)
 {f17:Addr} {od17 an17:Option Addr} {sl17:Array (Option Value)} {oc17 kV17 dc17 pm17 cd17 ct17:Value}
 (a17:PySem.W.nsIn K mainGlobals "is_sealed"=some (some (.ref f17))) (l17:K.lookup f17=some ⟨oc17,od17, .func (PySem.W.fnOf "is_sealed" "is_sealed" (zw zbl) (zu zbl) (zg zbl) .none kV17 dc17 pm17 an17 cd17 ct17),sl17⟩) (c17:PySem.W.codeIn K cd17 "is_sealed"=true) (k17:PySem.W.keepIn K (.ref f17)=true)
 {f18:Addr} {od18 an18:Option Addr} {sl18:Array (Option Value)} {oc18 kV18 dc18 pm18 cd18 ct18:Value}
 (a18:PySem.W.nsIn K mainGlobals "was_handed_so"=some (some (.ref f18))) (l18:K.lookup f18=some ⟨oc18,od18, .func (PySem.W.fnOf "was_handed_so" "was_handed_so" (zw zaL) (zu zaL) (zg zaL) .none kV18 dc18 pm18 an18 cd18 ct18),sl18⟩) (c18:PySem.W.codeIn K cd18 "was_handed_so"=true) (k18:PySem.W.keepIn K (.ref f18)=true)
 {f19:Addr} {od19 an19:Option Addr} {sl19:Array (Option Value)} {oc19 kV19 dc19 pm19 cd19 ct19:Value}
 (a19:PySem.W.nsIn K mainGlobals "is_right"=some (some (.ref f19))) (l19:K.lookup f19=some ⟨oc19,od19, .func (PySem.W.fnOf "is_right" "is_right" (zw zbn) (zu zbn) (zg zbn) .none kV19 dc19 pm19 an19 cd19 ct19),sl19⟩) (c19:PySem.W.codeIn K cd19 "is_right"=true) (k19:PySem.W.keepIn K (.ref f19)=true)
 {f20:Addr} {od20 an20:Option Addr} {sl20:Array (Option Value)} {oc20 kV20 dc20 pm20 cd20 ct20:Value}
 (a20:PySem.W.nsIn K mainGlobals "_law_hand"=some (some (.ref f20))) (l20:K.lookup f20=some ⟨oc20,od20, .func (PySem.W.fnOf "_law_hand" "_law_hand" (zw zbY) (zu zbY) (zg zbY) .none kV20 dc20 pm20 an20 cd20 ct20),sl20⟩) (c20:PySem.W.codeIn K cd20 "_law_hand"=true) (k20:PySem.W.keepIn K (.ref f20)=true)
 {f21:Addr} {od21 an21:Option Addr} {sl21:Array (Option Value)} {oc21 kV21 dc21 pm21 cd21 ct21:Value}
 (a21:PySem.W.nsIn K mainGlobals "_law_take"=some (some (.ref f21))) (l21:K.lookup f21=some ⟨oc21,od21, .func (PySem.W.fnOf "_law_take" "_law_take" (zw zb2) (zu zb2) (zg zb2) .none kV21 dc21 pm21 an21 cd21 ct21),sl21⟩) (c21:PySem.W.codeIn K cd21 "_law_take"=true) (k21:PySem.W.keepIn K (.ref f21)=true)
 {f22:Addr} {od22 an22:Option Addr} {sl22:Array (Option Value)} {oc22 kV22 dc22 pm22 cd22 ct22:Value}
 (a22:PySem.W.nsIn K mainGlobals "_law_pick"=some (some (.ref f22))) (l22:K.lookup f22=some ⟨oc22,od22, .func (PySem.W.fnOf "_law_pick" "_law_pick" (zw zb4) (zu zb4) (zg zb4) .none kV22 dc22 pm22 an22 cd22 ct22),sl22⟩) (c22:PySem.W.codeIn K cd22 "_law_pick"=true) (k22:PySem.W.keepIn K (.ref f22)=true)
 {f23:Addr} {od23 an23:Option Addr} {sl23:Array (Option Value)} {oc23 kV23 dc23 pm23 cd23 ct23:Value}
 (a23:PySem.W.nsIn K mainGlobals "_law_names"=some (some (.ref f23))) (l23:K.lookup f23=some ⟨oc23,od23, .func (PySem.W.fnOf "_law_names" "_law_names" (zw zba) (zu zba) (zg zba) .none kV23 dc23 pm23 an23 cd23 ct23),sl23⟩) (c23:PySem.W.codeIn K cd23 "_law_names"=true) (k23:PySem.W.keepIn K (.ref f23)=true)
 {f24:Addr} {od24 an24:Option Addr} {sl24:Array (Option Value)} {oc24 kV24 dc24 pm24 cd24 ct24:Value}
 (a24:PySem.W.nsIn K mainGlobals "_law_cond"=some (some (.ref f24))) (l24:K.lookup f24=some ⟨oc24,od24, .func (PySem.W.fnOf "_law_cond" "_law_cond" (zw zb1) (zu zb1) (zg zb1) .none kV24 dc24 pm24 an24 cd24 ct24),sl24⟩) (c24:PySem.W.codeIn K cd24 "_law_cond"=true) (k24:PySem.W.keepIn K (.ref f24)=true)
 {f25:Addr} {od25 an25:Option Addr} {sl25:Array (Option Value)} {oc25 kV25 dc25 pm25 cd25 ct25:Value}
 (a25:PySem.W.nsIn K mainGlobals "_law_conds"=some (some (.ref f25))) (l25:K.lookup f25=some ⟨oc25,od25, .func (PySem.W.fnOf "_law_conds" "_law_conds" (zw za8) (zu za8) (zg za8) .none kV25 dc25 pm25 an25 cd25 ct25),sl25⟩) (c25:PySem.W.codeIn K cd25 "_law_conds"=true) (k25:PySem.W.keepIn K (.ref f25)=true)
 {f26:Addr} {od26 an26:Option Addr} {sl26:Array (Option Value)} {oc26 kV26 dc26 pm26 cd26 ct26:Value}
 (a26:PySem.W.nsIn K mainGlobals "_law_ties"=some (some (.ref f26))) (l26:K.lookup f26=some ⟨oc26,od26, .func (PySem.W.fnOf "_law_ties" "_law_ties" (zw zbR) (zu zbR) (zg zbR) .none kV26 dc26 pm26 an26 cd26 ct26),sl26⟩) (c26:PySem.W.codeIn K cd26 "_law_ties"=true) (k26:PySem.W.keepIn K (.ref f26)=true)
 {f27:Addr} {od27 an27:Option Addr} {sl27:Array (Option Value)} {oc27 kV27 dc27 pm27 cd27 ct27:Value}
 (a27:PySem.W.nsIn K mainGlobals "_law_mild_town"=some (some (.ref f27))) (l27:K.lookup f27=some ⟨oc27,od27, .func (PySem.W.fnOf "_law_mild_town" "_law_mild_town" (zw zah) (zu zah) (zg zah) .none kV27 dc27 pm27 an27 cd27 ct27),sl27⟩) (c27:PySem.W.codeIn K cd27 "_law_mild_town"=true) (k27:PySem.W.keepIn K (.ref f27)=true)
 {f28:Addr} {od28 an28:Option Addr} {sl28:Array (Option Value)} {oc28 kV28 dc28 pm28 cd28 ct28:Value}
 (a28:PySem.W.nsIn K mainGlobals "_law_some_way"=some (some (.ref f28))) (l28:K.lookup f28=some ⟨oc28,od28, .func (PySem.W.fnOf "_law_some_way" "_law_some_way" (zw zac) (zu zac) (zg zac) .none kV28 dc28 pm28 an28 cd28 ct28),sl28⟩) (c28:PySem.W.codeIn K cd28 "_law_some_way"=true) (k28:PySem.W.keepIn K (.ref f28)=true)
 {f29:Addr} {od29 an29:Option Addr} {sl29:Array (Option Value)} {oc29 kV29 dc29 pm29 cd29 ct29:Value}
 (a29:PySem.W.nsIn K mainGlobals "_law_cond_holds"=some (some (.ref f29))) (l29:K.lookup f29=some ⟨oc29,od29, .func (PySem.W.fnOf "_law_cond_holds" "_law_cond_holds" (zw zX) (zu zX) (zg zX) .none kV29 dc29 pm29 an29 cd29 ct29),sl29⟩) (c29:PySem.W.codeIn K cd29 "_law_cond_holds"=true) (k29:PySem.W.keepIn K (.ref f29)=true)
 {f30:Addr} {od30 an30:Option Addr} {sl30:Array (Option Value)} {oc30 kV30 dc30 pm30 cd30 ct30:Value}
 (a30:PySem.W.nsIn K mainGlobals "_law_all_hold"=some (some (.ref f30))) (l30:K.lookup f30=some ⟨oc30,od30, .func (PySem.W.fnOf "_law_all_hold" "_law_all_hold" (zw zaO) (zu zaO) (zg zaO) .none kV30 dc30 pm30 an30 cd30 ct30),sl30⟩) (c30:PySem.W.codeIn K cd30 "_law_all_hold"=true) (k30:PySem.W.keepIn K (.ref f30)=true)
 {f31:Addr} {od31 an31:Option Addr} {sl31:Array (Option Value)} {oc31 kV31 dc31 pm31 cd31 ct31:Value}
 (a31:PySem.W.nsIn K mainGlobals "_law_worth"=some (some (.ref f31))) (l31:K.lookup f31=some ⟨oc31,od31, .func (PySem.W.fnOf "_law_worth" "_law_worth" (zw zaR) (zu zaR) (zg zaR) .none kV31 dc31 pm31 an31 cd31 ct31),sl31⟩) (c31:PySem.W.codeIn K cd31 "_law_worth"=true) (k31:PySem.W.keepIn K (.ref f31)=true)
 {f32:Addr} {od32 an32:Option Addr} {sl32:Array (Option Value)} {oc32 kV32 dc32 pm32 cd32 ct32:Value}
 (a32:PySem.W.nsIn K mainGlobals "_law_handed"=some (some (.ref f32))) (l32:K.lookup f32=some ⟨oc32,od32, .func (PySem.W.fnOf "_law_handed" "_law_handed" (zw zaC) (zu zaC) (zg zaC) .none kV32 dc32 pm32 an32 cd32 ct32),sl32⟩) (c32:PySem.W.codeIn K cd32 "_law_handed"=true) (k32:PySem.W.keepIn K (.ref f32)=true)
 {f33:Addr} {od33 an33:Option Addr} {sl33:Array (Option Value)} {oc33 kV33 dc33 pm33 cd33 ct33:Value}
 (a33:PySem.W.nsIn K mainGlobals "_law_tied"=some (some (.ref f33))) (l33:K.lookup f33=some ⟨oc33,od33, .func (PySem.W.fnOf "_law_tied" "_law_tied" (zw zbT) (zu zbT) (zg zbT) .none kV33 dc33 pm33 an33 cd33 ct33),sl33⟩) (c33:PySem.W.codeIn K cd33 "_law_tied"=true) (k33:PySem.W.keepIn K (.ref f33)=true)
 {f34:Addr} {od34 an34:Option Addr} {sl34:Array (Option Value)} {oc34 kV34 dc34 pm34 cd34 ct34:Value}
 (a34:PySem.W.nsIn K mainGlobals "_law_near"=some (some (.ref f34))) (l34:K.lookup f34=some ⟨oc34,od34, .func (PySem.W.fnOf "_law_near" "_law_near" (zw zbq) (zu zbq) (zg zbq) .none kV34 dc34 pm34 an34 cd34 ct34),sl34⟩) (c34:PySem.W.codeIn K cd34 "_law_near"=true) (k34:PySem.W.keepIn K (.ref f34)=true)
 {f35:Addr} {od35 an35:Option Addr} {sl35:Array (Option Value)} {oc35 kV35 dc35 pm35 cd35 ct35:Value}
 (a35:PySem.W.nsIn K mainGlobals "_law_papers"=some (some (.ref f35))) (l35:K.lookup f35=some ⟨oc35,od35, .func (PySem.W.fnOf "_law_papers" "_law_papers" (zw zbh) (zu zbh) (zg zbh) .none kV35 dc35 pm35 an35 cd35 ct35),sl35⟩) (c35:PySem.W.codeIn K cd35 "_law_papers"=true) (k35:PySem.W.keepIn K (.ref f35)=true)
 {f36:Addr} {od36 an36:Option Addr} {sl36:Array (Option Value)} {oc36 kV36 dc36 pm36 cd36 ct36:Value}
 (a36:PySem.W.nsIn K mainGlobals "_law_is_right"=some (some (.ref f36))) (l36:K.lookup f36=some ⟨oc36,od36, .func (PySem.W.fnOf "_law_is_right" "_law_is_right" (zw zaP) (zu zaP) (zg zaP) .none kV36 dc36 pm36 an36 cd36 ct36),sl36⟩) (c36:PySem.W.codeIn K cd36 "_law_is_right"=true) (k36:PySem.W.keepIn K (.ref f36)=true)
 {f37:Addr} {od37 an37:Option Addr} {sl37:Array (Option Value)} {oc37 kV37 dc37 pm37 cd37 ct37:Value}
 (a37:PySem.W.nsIn K mainGlobals "_law_put"=some (some (.ref f37))) (l37:K.lookup f37=some ⟨oc37,od37, .func (PySem.W.fnOf "_law_put" "_law_put" (zw zcr) (zu zcr) (zg zcr) .none kV37 dc37 pm37 an37 cd37 ct37),sl37⟩) (c37:PySem.W.codeIn K cd37 "_law_put"=true) (k37:PySem.W.keepIn K (.ref f37)=true)
 {f38:Addr} {od38 an38:Option Addr} {sl38:Array (Option Value)} {oc38 kV38 dc38 pm38 cd38 ct38:Value}
 (a38:PySem.W.nsIn K mainGlobals "_law_papers_turned"=some (some (.ref f38))) (l38:K.lookup f38=some ⟨oc38,od38, .func (PySem.W.fnOf "_law_papers_turned" "_law_papers_turned" (zw zJ) (zu zJ) (zg zJ) .none kV38 dc38 pm38 an38 cd38 ct38),sl38⟩) (c38:PySem.W.codeIn K cd38 "_law_papers_turned"=true) (k38:PySem.W.keepIn K (.ref f38)=true)
 {f39:Addr} {od39 an39:Option Addr} {sl39:Array (Option Value)} {oc39 kV39 dc39 pm39 cd39 ct39:Value}
 (a39:PySem.W.nsIn K mainGlobals "_law_turned"=some (some (.ref f39))) (l39:K.lookup f39=some ⟨oc39,od39, .func (PySem.W.fnOf "_law_turned" "_law_turned" (zw zaX) (zu zaX) (zg zaX) .none kV39 dc39 pm39 an39 cd39 ct39),sl39⟩) (c39:PySem.W.codeIn K cd39 "_law_turned"=true) (k39:PySem.W.keepIn K (.ref f39)=true)
 {f40:Addr} {od40 an40:Option Addr} {sl40:Array (Option Value)} {oc40 kV40 dc40 pm40 cd40 ct40:Value}
 (a40:PySem.W.nsIn K mainGlobals "_law_other_towns"=some (some (.ref f40))) (l40:K.lookup f40=some ⟨oc40,od40, .func (PySem.W.fnOf "_law_other_towns" "_law_other_towns" (zw zap) (zu zap) (zg zap) .none kV40 dc40 pm40 an40 cd40 ct40),sl40⟩) (c40:PySem.W.codeIn K cd40 "_law_other_towns"=true) (k40:PySem.W.keepIn K (.ref f40)=true)
 {f41:Addr} {od41 an41:Option Addr} {sl41:Array (Option Value)} {oc41 kV41 dc41 pm41 cd41 ct41:Value}
 (a41:PySem.W.nsIn K mainGlobals "_law_same"=some (some (.ref f41))) (l41:K.lookup f41=some ⟨oc41,od41, .func (PySem.W.fnOf "_law_same" "_law_same" (zw zb7) (zu zb7) (zg zb7) .none kV41 dc41 pm41 an41 cd41 ct41),sl41⟩) (c41:PySem.W.codeIn K cd41 "_law_same"=true) (k41:PySem.W.keepIn K (.ref f41)=true)
 {f42:Addr} {od42 an42:Option Addr} {sl42:Array (Option Value)} {oc42 kV42 dc42 pm42 cd42 ct42:Value}
 (a42:PySem.W.nsIn K mainGlobals "law"=some (some (.ref f42))) (l42:K.lookup f42=some ⟨oc42,od42, .func (PySem.W.fnOf "law" "law" (zw zdQ) (zu zdQ) (zg zdQ) .none kV42 dc42 pm42 an42 cd42 ct42),sl42⟩) (c42:PySem.W.codeIn K cd42 "law"=true) (k42:PySem.W.keepIn K (.ref f42)=true)
 {tk_LONGEST:Tok} (g_LONGEST:PySem.W.nsIn K mainGlobals "LONGEST"=some (some (.int 8 tk_LONGEST)))
 {tk_LONGEST_WAY:Tok} (g_LONGEST_WAY:PySem.W.nsIn K mainGlobals "LONGEST_WAY"=some (some (.int 10 tk_LONGEST_WAY)))
 {tk_MOST_MARKS:Tok} (g_MOST_MARKS:PySem.W.nsIn K mainGlobals "MOST_MARKS"=some (some (.int 90 tk_MOST_MARKS)))
 {tk_MOST_PAPERS:Tok} (g_MOST_PAPERS:PySem.W.nsIn K mainGlobals "MOST_PAPERS"=some (some (.int 10 tk_MOST_PAPERS)))
 {aT_TAKEN:Addr} {odT_TAKEN:Option Addr} {slT_TAKEN:Array (Option Value)} {nT_TAKEN:Nat} {t0_TAKEN t1_TAKEN t2_TAKEN t3_TAKEN:Tok} (g_TAKEN:PySem.W.nsIn K mainGlobals "TAKEN"=some (some (.ref aT_TAKEN))) (l_TAKEN:K.lookup aT_TAKEN=some ⟨.type "tuple",odT_TAKEN, .seq #[.str "if" t0_TAKEN, .str "and" t1_TAKEN, .str "not" t2_TAKEN, .str "never" t3_TAKEN] nT_TAKEN,slT_TAKEN⟩)
 (z_isinstance:PySem.W.nsIn K mainGlobals "isinstance"=some none)
 (z_str:PySem.W.nsIn K mainGlobals "str"=some none)
 (z_len:PySem.W.nsIn K mainGlobals "len"=some none)
 (z_all:PySem.W.nsIn K mainGlobals "all"=some none)
 (z_int:PySem.W.nsIn K mainGlobals "int"=some none)
 (z_bool:PySem.W.nsIn K mainGlobals "bool"=some none)
 (z_tuple:PySem.W.nsIn K mainGlobals "tuple"=some none)
 (z_range:PySem.W.nsIn K mainGlobals "range"=some none)
 (z_max:PySem.W.nsIn K mainGlobals "max"=some none)
 (z_min:PySem.W.nsIn K mainGlobals "min"=some none)
 (z_sorted:PySem.W.nsIn K mainGlobals "sorted"=some none)
 (z_enumerate:PySem.W.nsIn K mainGlobals "enumerate"=some none)
 (z_zip:PySem.W.nsIn K mainGlobals "zip"=some none)
 (z_list:PySem.W.nsIn K mainGlobals "list"=some none)
 (z_set:PySem.W.nsIn K mainGlobals "set"=some none)
 :∃fd:FuncData,(∀(s:Shared) (v:Value),BindsTo s fd ⟨[v],[]⟩ [("_law_script",v)])/\∀base:Heap,K.In base->base.Ns mainGlobals mg->FnOk l.prog w K mg base CX0 9 fa fd ["_law_script"] (zkI K):=by
 have e:=hfa.symm.trans (PySem.W.mg_of X G a42)
 cases e
 have F1:=zK (st:=zcx) l1 c1 k1
 have F2:=zK (st:=zb3) l2 c2 k2
 have F3:=zK (st:=zdD) l3 c3 k3
 have F4:=zK (st:=zbo) l4 c4 k4
 have F5:=zkT (st:=zed) l5 ld5 c5 k5
 have F6:=zkT (st:=zct) l6 ld6 c6 k6
 have F7:=zK (st:=zcu) l7 c7 k7
 have F8:=zK (st:=zbz) l8 c8 k8
 have F9:=zK (st:=zcq) l9 c9 k9
 have F10:=zK (st:=zd0) l10 c10 k10
 have F11:=zK (st:=zcF) l11 c11 k11
 have F12:=zK (st:=zaH) l12 c12 k12
 have F13:=zK (st:=zdB) l13 c13 k13
 have F14:=zK (st:=zei) l14 c14 k14
 have F15:=zK (st:=zbt) l15 c15 k15
 have F16:=zK (st:=zcl) l16 c16 k16
 have F17:=zK (st:=zbl) l17 c17 k17
 have F18:=zK (st:=zaL) l18 c18 k18
 have F19:=zK (st:=zbn) l19 c19 k19
 have F20:=zK (st:=zbY) l20 c20 k20
 have F21:=zK (st:=zb2) l21 c21 k21
 have F22:=zK (st:=zb4) l22 c22 k22
 have F23:=zK (st:=zba) l23 c23 k23
 have F24:=zK (st:=zb1) l24 c24 k24
 have F25:=zK (st:=za8) l25 c25 k25
 have F26:=zK (st:=zbR) l26 c26 k26
 have F27:=zK (st:=zah) l27 c27 k27
 have F28:=zK (st:=zac) l28 c28 k28
 have F29:=zK (st:=zX) l29 c29 k29
 have F30:=zK (st:=zaO) l30 c30 k30
 have F31:=zK (st:=zaR) l31 c31 k31
 have F32:=zK (st:=zaC) l32 c32 k32
 have F33:=zK (st:=zbT) l33 c33 k33
 have F34:=zK (st:=zbq) l34 c34 k34
 have F35:=zK (st:=zbh) l35 c35 k35
 have F36:=zK (st:=zaP) l36 c36 k36
 have F37:=zK (st:=zcr) l37 c37 k37
 have F38:=zK (st:=zJ) l38 c38 k38
 have F39:=zK (st:=zaX) l39 c39 k39
 have F40:=zK (st:=zap) l40 c40 k40
 have F41:=zK (st:=zb7) l41 c41 k41
 have F42:=zK (st:=zdQ) l42 c42 k42
 have b1:=F1.binds (ps:=zc0) λ_ _ _ _ _ _=>of1 (λ_=>rfl)
 have b2:=F2.binds (ps:=zcE) λ_ _ _ _ _ _=>of1 (λ_=>rfl)
 have b3:=F3.binds (ps:=zcL) λ_ _ _ _ _ _=>of3 (λ_ _ _=>rfl)
 have b4:=F4.binds (ps:=zcA) λ_ _ _ _ _ _=>of1 (λ_=>rfl)
 have b5:=F5.binds (ps:=zcW) (ds:=[]) 4 rfl λ_ _ _ _ _ _ _=>of4 (λ_ _ _ _=>⟨_,rfl,rfl⟩)
 have e5:=F5.binds (ps:=zcW) (ds:=[.none]) 3 rfl λ_ _ _ _ _ _ _=>of3 (λ_ _ _=>⟨_,rfl,rfl⟩)
 have b6:=F6.binds (ps:=zbQ) (ds:=[]) 4 rfl λ_ _ _ _ _ _ _=>of4 (λ_ _ _ _=>⟨_,rfl,rfl⟩)
 have e6:=F6.binds (ps:=zbQ) (ds:=[.none]) 3 rfl λ_ _ _ _ _ _ _=>of3 (λ_ _ _=>⟨_,rfl,rfl⟩)
 have b7:=F7.binds (ps:=zcp) λ_ _ _ _ _ _=>of2 (λ_ _=>rfl)
 have b8:=F8.binds (ps:=zch) λ_ _ _ _ _ _=>of2 (λ_ _=>rfl)
 have b9:=F9.binds (ps:=zde) λ_ _ _ _ _ _=>of2 (λ_ _=>rfl)
 have b10:=F10.binds (ps:=zfj) λ_ _ _ _ _ _=>of2 (λ_ _=>rfl)
 have b11:=F11.binds (ps:=zec) λ_ _ _ _ _ _=>of2 (λ_ _=>rfl)
 have b12:=F12.binds (ps:=zbm) λ_ _ _ _ _ _=>of2 (λ_ _=>rfl)
 have b13:=F13.binds (ps:=zd8) λ_ _ _ _ _ _=>of4 (λ_ _ _ _=>rfl)
 have b14:=F14.binds (ps:=zeL) λ_ _ _ _ _ _=>of3 (λ_ _ _=>rfl)
 have b15:=F15.binds (ps:=zcD) λ_ _ _ _ _ _=>of3 (λ_ _ _=>rfl)
 have b16:=F16.binds (ps:=zc3) λ_ _ _ _ _ _=>of2 (λ_ _=>rfl)
 have b17:=F17.binds (ps:=zcI) λ_ _ _ _ _ _=>of2 (λ_ _=>rfl)
 have b18:=F18.binds (ps:=zbd) λ_ _ _ _ _ _=>of3 (λ_ _ _=>rfl)
 have b19:=F19.binds (ps:=zdd) λ_ _ _ _ _ _=>of2 (λ_ _=>rfl)
 have b20:=F20.binds (ps:=zcG) λ_ _ _ _ _ _=>of2 (λ_ _=>rfl)
 have b21:=F21.binds (ps:=zaf) λ_ _ _ _ _ _=>of2 (λ_ _=>rfl)
 have b22:=F22.binds (ps:=zag) λ_ _ _ _ _ _=>of2 (λ_ _=>rfl)
 have b23:=F23.binds (ps:=zcg) λ_ _ _ _ _ _=>of2 (λ_ _=>rfl)
 have b24:=F24.binds (ps:=zcK) λ_ _ _ _ _ _=>of4 (λ_ _ _ _=>rfl)
 have b25:=F25.binds (ps:=zce) λ_ _ _ _ _ _=>of4 (λ_ _ _ _=>rfl)
 have b26:=F26.binds (ps:=zcH) λ_ _ _ _ _ _=>of3 (λ_ _ _=>rfl)
 have b27:=F27.binds (ps:=za1) λ_ _ _ _ _ _=>of1 (λ_=>rfl)
 have b28:=F28.binds (ps:=zbc) λ_ _ _ _ _ _=>of2 (λ_ _=>rfl)
 have b29:=F29.binds (ps:=zY) λ_ _ _ _ _ _=>of4 (λ_ _ _ _=>rfl)
 have b30:=F30.binds (ps:=zaN) λ_ _ _ _ _ _=>of4 (λ_ _ _ _=>rfl)
 have b31:=F31.binds (ps:=zbD) λ_ _ _ _ _ _=>of3 (λ_ _ _=>rfl)
 have b32:=F32.binds (ps:=zaV) λ_ _ _ _ _ _=>of4 (λ_ _ _ _=>rfl)
 have b33:=F33.binds (ps:=zbS) λ_ _ _ _ _ _=>of3 (λ_ _ _=>rfl)
 have b34:=F34.binds (ps:=zb6) λ_ _ _ _ _ _=>of2 (λ_ _=>rfl)
 have b35:=F35.binds (ps:=zbJ) λ_ _ _ _ _ _=>of4 (λ_ _ _ _=>rfl)
 have b36:=F36.binds (ps:=zbb) λ_ _ _ _ _ _=>of2 (λ_ _=>rfl)
 have b37:=F37.binds (ps:=zdb) λ_ _ _ _ _ _=>of3 (λ_ _ _=>rfl)
 have b38:=F38.binds (ps:=zar) λ_ _ _ _ _ _=>of3 (λ_ _ _=>rfl)
 have b39:=F39.binds (ps:=zbI) λ_ _ _ _ _ _=>of3 (λ_ _ _=>rfl)
 have b40:=F40.binds (ps:=zaG) λ_ _ _ _ _ _=>of3 (λ_ _ _=>rfl)
 have b41:=F41.binds (ps:=zcB) λ_ _ _ _ _ _=>of2 (λ_ _=>rfl)
 have b42:=F42.binds (ps:=zkA) λ_ _ _ _ _ _=>of1 (λ_=>rfl)
 have Y:Ev K mg:={
  a_is_name:=f1,d_is_name:=_,is_name:=⟨F1,b1,PySem.W.mg_of X G a1,k1⟩,
  a_is_number:=f2,d_is_number:=_,is_number:=⟨F2,b2,PySem.W.mg_of X G a2,k2⟩,
  a_is_row:=f3,d_is_row:=_,is_row:=⟨F3,b3,PySem.W.mg_of X G a3,k3⟩,
  a_is_rising:=f4,d_is_rising:=_,is_rising:=⟨F4,b4,PySem.W.mg_of X G a4,k4⟩,
  a_holds:=f5,d_holds:=_,holds:=⟨F5,b5,e5,PySem.W.mg_of X G a5,k5⟩,
  a_all_hold:=f6,d_all_hold:=_,all_hold:=⟨F6,b6,e6,PySem.W.mg_of X G a6,k6⟩,
  a_is_house:=f7,d_is_house:=_,is_house:=⟨F7,b7,PySem.W.mg_of X G a7,k7⟩,
  a_likings_of:=f8,d_likings_of:=_,likings_of:=⟨F8,b8,PySem.W.mg_of X G a8,k8⟩,
  a_hands_of:=f9,d_hands_of:=_,hands_of:=⟨F9,b9,PySem.W.mg_of X G a9,k9⟩,
  a_tied:=f10,d_tied:=_,tied:=⟨F10,b10,PySem.W.mg_of X G a10,k10⟩,
  a_is_way:=f11,d_is_way:=_,is_way:=⟨F11,b11,PySem.W.mg_of X G a11,k11⟩,
  a_marks_behind:=f12,d_marks_behind:=_,marks_behind:=⟨F12,b12,PySem.W.mg_of X G a12,k12⟩,
  a_handed:=f13,d_handed:=_,handed:=⟨F13,b13,PySem.W.mg_of X G a13,k13⟩,
  a_worth:=f14,d_worth:=_,worth:=⟨F14,b14,PySem.W.mg_of X G a14,k14⟩,
  a_are_names:=f15,d_are_names:=_,are_names:=⟨F15,b15,PySem.W.mg_of X G a15,k15⟩,
  a_is_paper:=f16,d_is_paper:=_,is_paper:=⟨F16,b16,PySem.W.mg_of X G a16,k16⟩,
  a_is_sealed:=f17,d_is_sealed:=_,is_sealed:=⟨F17,b17,PySem.W.mg_of X G a17,k17⟩,
  a_was_handed_so:=f18,d_was_handed_so:=_,was_handed_so:=⟨F18,b18,PySem.W.mg_of X G a18,k18⟩,
  a_is_right:=f19,d_is_right:=_,is_right:=⟨F19,b19,PySem.W.mg_of X G a19,k19⟩,
  a__law_hand:=f20,d__law_hand:=_,_law_hand:=⟨F20,b20,PySem.W.mg_of X G a20,k20⟩,
  a__law_take:=f21,d__law_take:=_,_law_take:=⟨F21,b21,PySem.W.mg_of X G a21,k21⟩,
  a__law_pick:=f22,d__law_pick:=_,_law_pick:=⟨F22,b22,PySem.W.mg_of X G a22,k22⟩,
  a__law_names:=f23,d__law_names:=_,_law_names:=⟨F23,b23,PySem.W.mg_of X G a23,k23⟩,
  a__law_cond:=f24,d__law_cond:=_,_law_cond:=⟨F24,b24,PySem.W.mg_of X G a24,k24⟩,
  a__law_conds:=f25,d__law_conds:=_,_law_conds:=⟨F25,b25,PySem.W.mg_of X G a25,k25⟩,
  a__law_ties:=f26,d__law_ties:=_,_law_ties:=⟨F26,b26,PySem.W.mg_of X G a26,k26⟩,
  a__law_mild_town:=f27,d__law_mild_town:=_,_law_mild_town:=⟨F27,b27,PySem.W.mg_of X G a27,k27⟩,
  a__law_some_way:=f28,d__law_some_way:=_,_law_some_way:=⟨F28,b28,PySem.W.mg_of X G a28,k28⟩,
  a__law_cond_holds:=f29,d__law_cond_holds:=_,_law_cond_holds:=⟨F29,b29,PySem.W.mg_of X G a29,k29⟩,
  a__law_all_hold:=f30,d__law_all_hold:=_,_law_all_hold:=⟨F30,b30,PySem.W.mg_of X G a30,k30⟩,
  a__law_worth:=f31,d__law_worth:=_,_law_worth:=⟨F31,b31,PySem.W.mg_of X G a31,k31⟩,
  a__law_handed:=f32,d__law_handed:=_,_law_handed:=⟨F32,b32,PySem.W.mg_of X G a32,k32⟩,
  a__law_tied:=f33,d__law_tied:=_,_law_tied:=⟨F33,b33,PySem.W.mg_of X G a33,k33⟩,
  a__law_near:=f34,d__law_near:=_,_law_near:=⟨F34,b34,PySem.W.mg_of X G a34,k34⟩,
  a__law_papers:=f35,d__law_papers:=_,_law_papers:=⟨F35,b35,PySem.W.mg_of X G a35,k35⟩,
  a__law_is_right:=f36,d__law_is_right:=_,_law_is_right:=⟨F36,b36,PySem.W.mg_of X G a36,k36⟩,
  a__law_put:=f37,d__law_put:=_,_law_put:=⟨F37,b37,PySem.W.mg_of X G a37,k37⟩,
  a__law_papers_turned:=f38,d__law_papers_turned:=_,_law_papers_turned:=⟨F38,b38,PySem.W.mg_of X G a38,k38⟩,
  a__law_turned:=f39,d__law_turned:=_,_law_turned:=⟨F39,b39,PySem.W.mg_of X G a39,k39⟩,
  a__law_other_towns:=f40,d__law_other_towns:=_,_law_other_towns:=⟨F40,b40,PySem.W.mg_of X G a40,k40⟩,
  a__law_same:=f41,d__law_same:=_,_law_same:=⟨F41,b41,PySem.W.mg_of X G a41,k41⟩,
  a_law:=fa,d_law:=_,law:=⟨F42,b42,PySem.W.mg_of X G a42,k42⟩,
  v_LONGEST:=_,m_LONGEST:=PySem.W.mg_of X G g_LONGEST,r_LONGEST:=⟨tk_LONGEST,rfl⟩,
  v_LONGEST_WAY:=_,m_LONGEST_WAY:=PySem.W.mg_of X G g_LONGEST_WAY,r_LONGEST_WAY:=⟨tk_LONGEST_WAY,rfl⟩,
  v_MOST_MARKS:=_,m_MOST_MARKS:=PySem.W.mg_of X G g_MOST_MARKS,r_MOST_MARKS:=⟨tk_MOST_MARKS,rfl⟩,
  v_MOST_PAPERS:=_,m_MOST_PAPERS:=PySem.W.mg_of X G g_MOST_PAPERS,r_MOST_PAPERS:=⟨tk_MOST_PAPERS,rfl⟩,
  a_TAKEN:=_,m_TAKEN:=PySem.W.mg_of X G g_TAKEN,t_TAKEN:=λH=> .inr ⟨_,_,nT_TAKEN,l_TAKEN,rfl,rfl,by show 4<=sizeLine;decide,(.cons ⟨t0_TAKEN,rfl⟩ (.cons ⟨t1_TAKEN,rfl⟩ (.cons ⟨t2_TAKEN,rfl⟩ (.cons ⟨t3_TAKEN,rfl⟩ .nil))))⟩,
  isinstance:=PySem.W.mg_none_of X G z_isinstance,
  str:=PySem.W.mg_none_of X G z_str,
  len:=PySem.W.mg_none_of X G z_len,
  all:=PySem.W.mg_none_of X G z_all,
  int:=PySem.W.mg_none_of X G z_int,
  bool:=PySem.W.mg_none_of X G z_bool,
  tuple:=PySem.W.mg_none_of X G z_tuple,
  range:=PySem.W.mg_none_of X G z_range,
  max:=PySem.W.mg_none_of X G z_max,
  min:=PySem.W.mg_none_of X G z_min,
  sorted:=PySem.W.mg_none_of X G z_sorted,
  enumerate:=PySem.W.mg_none_of X G z_enumerate,
  zip:=PySem.W.mg_none_of X G z_zip,
  list:=PySem.W.mg_none_of X G z_list,
  set:=PySem.W.mg_none_of X G z_set}
 exact⟨PySem.W.fnOf "law" "law" (zw zdQ) (zu zdQ) (zg zdQ) .none kV42 dc42 pm42 an42 cd42 ct42,λs v=> .of_eq rfl,λbase _ _=>zlH Y F42⟩
noncomputable def vw:Program:={PySem.Challenge.pw_restways_k71_letters_that_are_not_right with main:={PySem.Challenge.pw_restways_k71_letters_that_are_not_right.main with body:=([1,2,3,5,6,7,12,13,14,15,16,18,19,21,23,24,25,26,27,28,29,30,32,33,34,35,36,37,38,39,40,41,42,43,44,45,46,47,48,49,50,51,52,53,54]:List Nat).filterMap λi=>PySem.Challenge.pw_restways_k71_letters_that_are_not_right.main.body[i]?}}
end K71
open PySem PySem.W PyProof.Rows
local macro_rules | `(tactic|o_head $H)=> `(tactic|(
 refine holds_open (N:=2878) (q:=K71.vw) (loose:=[(PySem.Str.ofString "holds"),(PySem.Str.ofString "all_hold")]) (YP:=Hook.says $H) (Ya:=Hook.val $H) (Yf:=Hook.obs $H) (XP:=XL K71.vw [])
  (Xt:=λz=>xlAt K71.vw [] z&&recOk [] z) (λw=>by kernel_rfl) (Hook.of $H) (Hook.keeps $H) (λz e=>xl_of z (Bool.and_eq_true_iff.mp e).1) XL.keeps
  (by rfl) (by rfl) (by rfl) (λz e=>recFacts_of (Bool.and_eq_true_iff.mp e).2) (by rfl) (by first|assumption|decide +kernel) (by decide +kernel)
  ⟨rfl,rfl,rfl,rfl,rfl,by decide +kernel⟩ ?hw ?hc))
set_option maxRecDepth 100000 in
set_option maxHeartbeats 0 in
theorem PySem.Challenge.cw_restways_k71_letters_that_are_not_right_holds : PySem.Challenge.rw_restways_k71_letters_that_are_not_right.Holds := by
 w_on;o_law;k_head;(case hw=>w_witness2)
 k_fill
 refine K71.walk (l:=PySem.Challenge.rw_restways_k71_letters_that_are_not_right) rfl rfl (λw h Y=>PySem.W.kIn_of Y) ?F
 case F=>
  intro w mg fa h KX G hmg
  refine' K71.all_mk KX G hmg ?a1 ?l1 ?c1 ?k1 ?a2 ?l2 ?c2 ?k2 ?a3 ?l3 ?c3 ?k3 ?a4 ?l4 ?c4 ?k4 ?a5 ?l5 ?c5 ?k5 ?ld5 ?a6 ?l6 ?c6 ?k6 ?ld6 ?a7 ?l7 ?c7 ?k7 ?a8 ?l8 ?c8 ?k8 ?a9 ?l9 ?c9 ?k9 ?a10 ?l10 ?c10 ?k10 ?a11 ?l11 ?c11 ?k11 ?a12 ?l12 ?c12 ?k12 ?a13 ?l13 ?c13 ?k13 ?a14 ?l14 ?c14 ?k14 ?a15 ?l15 ?c15 ?k15 ?a16 ?l16 ?c16 ?k16 ?a17 ?l17 ?c17 ?k17 ?a18 ?l18 ?c18 ?k18 ?a19 ?l19 ?c19 ?k19 ?a20 ?l20 ?c20 ?k20 ?a21 ?l21 ?c21 ?k21 ?a22 ?l22 ?c22 ?k22 ?a23 ?l23 ?c23 ?k23 ?a24 ?l24 ?c24 ?k24 ?a25 ?l25 ?c25 ?k25 ?a26 ?l26 ?c26 ?k26 ?a27 ?l27 ?c27 ?k27 ?a28 ?l28 ?c28 ?k28 ?a29 ?l29 ?c29 ?k29 ?a30 ?l30 ?c30 ?k30 ?a31 ?l31 ?c31 ?k31 ?a32 ?l32 ?c32 ?k32 ?a33 ?l33 ?c33 ?k33 ?a34 ?l34 ?c34 ?k34 ?a35 ?l35 ?c35 ?k35 ?a36 ?l36 ?c36 ?k36 ?a37 ?l37 ?c37 ?k37 ?a38 ?l38 ?c38 ?k38 ?a39 ?l39 ?c39 ?k39 ?a40 ?l40 ?c40 ?k40 ?a41 ?l41 ?c41 ?k41 ?a42 ?l42 ?c42 ?k42 ?g_LONGEST ?g_LONGEST_WAY ?g_MOST_MARKS ?g_MOST_PAPERS ?g_TAKEN ?l_TAKEN ?z_isinstance ?z_str ?z_len ?z_all ?z_int ?z_bool ?z_tuple ?z_range ?z_max ?z_min ?z_sorted ?z_enumerate ?z_zip ?z_list ?z_set
  (case a1=>k_is)
  (case l1=>k_is)
  (case c1=>k_is)
  (case k1=>k_is)
  (case a2=>k_is)
  (case l2=>k_is)
  (case c2=>k_is)
  (case k2=>k_is)
  (case a3=>k_is)
  (case l3=>k_is)
  (case c3=>k_is)
  (case k3=>k_is)
  (case a4=>k_is)
  (case l4=>k_is)
  (case c4=>k_is)
  (case k4=>k_is)
  (case a5=>k_is)
  (case l5=>k_is)
  (case c5=>k_is)
  (case k5=>k_is)
  (case ld5=>k_is)
  (case a6=>k_is)
  (case l6=>k_is)
  (case c6=>k_is)
  (case k6=>k_is)
  (case ld6=>k_is)
  (case a7=>k_is)
  (case l7=>k_is)
  (case c7=>k_is)
  (case k7=>k_is)
  (case a8=>k_is)
  (case l8=>k_is)
  (case c8=>k_is)
  (case k8=>k_is)
  (case a9=>k_is)
  (case l9=>k_is)
  (case c9=>k_is)
  (case k9=>k_is)
  (case a10=>k_is)
  (case l10=>k_is)
  (case c10=>k_is)
  (case k10=>k_is)
  (case a11=>k_is)
  (case l11=>k_is)
  (case c11=>k_is)
  (case k11=>k_is)
  (case a12=>k_is)
  (case l12=>k_is)
  (case c12=>k_is)
  (case k12=>k_is)
  (case a13=>k_is)
  (case l13=>k_is)
  (case c13=>k_is)
  (case k13=>k_is)
  (case a14=>k_is)
  (case l14=>k_is)
  (case c14=>k_is)
  (case k14=>k_is)
  (case a15=>k_is)
  (case l15=>k_is)
  (case c15=>k_is)
  (case k15=>k_is)
  (case a16=>k_is)
  (case l16=>k_is)
  (case c16=>k_is)
  (case k16=>k_is)
  (case a17=>k_is)
  (case l17=>k_is)
  (case c17=>k_is)
  (case k17=>k_is)
  (case a18=>k_is)
  (case l18=>k_is)
  (case c18=>k_is)
  (case k18=>k_is)
  (case a19=>k_is)
  (case l19=>k_is)
  (case c19=>k_is)
  (case k19=>k_is)
  (case a20=>k_is)
  (case l20=>k_is)
  (case c20=>k_is)
  (case k20=>k_is)
  (case a21=>k_is)
  (case l21=>k_is)
  (case c21=>k_is)
  (case k21=>k_is)
  (case a22=>k_is)
  (case l22=>k_is)
  (case c22=>k_is)
  (case k22=>k_is)
  (case a23=>k_is)
  (case l23=>k_is)
  (case c23=>k_is)
  (case k23=>k_is)
  (case a24=>k_is)
  (case l24=>k_is)
  (case c24=>k_is)
  (case k24=>k_is)
  (case a25=>k_is)
  (case l25=>k_is)
  (case c25=>k_is)
  (case k25=>k_is)
  (case a26=>k_is)
  (case l26=>k_is)
  (case c26=>k_is)
  (case k26=>k_is)
  (case a27=>k_is)
  (case l27=>k_is)
  (case c27=>k_is)
  (case k27=>k_is)
  (case a28=>k_is)
  (case l28=>k_is)
  (case c28=>k_is)
  (case k28=>k_is)
  (case a29=>k_is)
  (case l29=>k_is)
  (case c29=>k_is)
  (case k29=>k_is)
  (case a30=>k_is)
  (case l30=>k_is)
  (case c30=>k_is)
  (case k30=>k_is)
  (case a31=>k_is)
  (case l31=>k_is)
  (case c31=>k_is)
  (case k31=>k_is)
  (case a32=>k_is)
  (case l32=>k_is)
  (case c32=>k_is)
  (case k32=>k_is)
  (case a33=>k_is)
  (case l33=>k_is)
  (case c33=>k_is)
  (case k33=>k_is)
  (case a34=>k_is)
  (case l34=>k_is)
  (case c34=>k_is)
  (case k34=>k_is)
  (case a35=>k_is)
  (case l35=>k_is)
  (case c35=>k_is)
  (case k35=>k_is)
  (case a36=>k_is)
  (case l36=>k_is)
  (case c36=>k_is)
  (case k36=>k_is)
  (case a37=>k_is)
  (case l37=>k_is)
  (case c37=>k_is)
  (case k37=>k_is)
  (case a38=>k_is)
  (case l38=>k_is)
  (case c38=>k_is)
  (case k38=>k_is)
  (case a39=>k_is)
  (case l39=>k_is)
  (case c39=>k_is)
  (case k39=>k_is)
  (case a40=>k_is)
  (case l40=>k_is)
  (case c40=>k_is)
  (case k40=>k_is)
  (case a41=>k_is)
  (case l41=>k_is)
  (case c41=>k_is)
  (case k41=>k_is)
  (case a42=>k_is)
  (case l42=>k_is)
  (case c42=>k_is)
  (case k42=>k_is)
  (case g_LONGEST=>k_is)
  (case g_LONGEST_WAY=>k_is)
  (case g_MOST_MARKS=>k_is)
  (case g_MOST_PAPERS=>k_is)
  (case g_TAKEN=>k_is)
  (case l_TAKEN=>k_is)
  (case z_isinstance=>k_is)
  (case z_str=>k_is)
  (case z_len=>k_is)
  (case z_all=>k_is)
  (case z_int=>k_is)
  (case z_bool=>k_is)
  (case z_tuple=>k_is)
  (case z_range=>k_is)
  (case z_max=>k_is)
  (case z_min=>k_is)
  (case z_sorted=>k_is)
  (case z_enumerate=>k_is)
  (case z_zip=>k_is)
  (case z_list=>k_is)
  (case z_set=>k_is)
