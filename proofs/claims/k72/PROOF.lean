import PyProof.Rows.All
import Wide.All
import OpenK.AllK
import Wide.FinOn
import Lean
import PyProof.EqAt
import PyProof.EqKinds
import PyProof.TupleCall
import KE.KSortTup
import KE.KDictSum
import PyProof.Rows.SortStr
import PyProof.AutoSeq1
import PyProof.ZipIter
import PyProof.Rows.FStr
import PyProof.Rows.FStrParts
import PyProof.AttrMissHeap
import KE.KDictOf
import PyProof.StrCalls
import KE.KStrOpen
import KE.KRevIter
import PyProof.WalkInts
import KE.KDictList
import PyProof.Rows.SetFrom
import PyProof.SetRoads
import PyProof.DictCompW
import PyProof.DictItems
import KE.KPairComp
import KE.KEqDict
import PyProof.Rows.Range3
import PyProof.WalksMore
import PyProof.SumWalkG
import PyProof.NeKinds
import PySem.Challenge.RW_restways_k72_sealed_of_anything
set_option Elab.async false
set_option linter.all false
set_option maxRecDepth 100000
namespace L2
open PySem PySem.Spec PyProof.Rows
noncomputable abbrev Key:=Sum Int Str
noncomputable def zhi:Key->Value->Bool
 | .inl k,v=>Value.isInt k v
 | .inr x,v=>Value.isStrOf x v
noncomputable def zsy(w:World):Key->Int
 | .inl k=>hashInt k
 | .inr x=>hashStr w x
theorem zaC:∀{k:Key} {v:Value},zhi k v=true->(∃i t,k=Sum.inl i/\v=Value.int i t)\/(∃x t,k=Sum.inr x/\v=Value.str x t)
 | .inl i,v,h=>by
   obtain⟨t,e⟩:=Value.isInt_shape (k:=i) (v:=v) h
   exact .inl ⟨i,t,rfl,e⟩
 | .inr x,v,h=>by
   obtain⟨t,e⟩:=Value.isStrOf_shape (x:=x) (v:=v) h
   exact .inr ⟨x,t,rfl,e⟩
theorem zmu(i:Int)(t:Tok):zhi (.inl i) (.int i t)=true:=by simp[zhi,Value.isInt]
theorem zl7(x:Str)(t:Tok):zhi (.inr x) (.str x t)=true:=by simp[zhi,Value.isStrOf]
theorem zrp(a b:Int):decide ((Sum.inl a:Key)=Sum.inl b)=(a==b):=by
 by_cases e:a=b
 ·subst e;simp
 ·have h:¬(Sum.inl a:Key)=Sum.inl b:=λq=>e (Sum.inl.inj q)
  rw[decide_eq_false h]
  exact(beq_eq_false_iff_ne.mpr e).symm
theorem zri(a b:Str):decide ((Sum.inr a:Key)=Sum.inr b)=decide (a=b):=by
 by_cases e:a=b
 ·subst e;simp
 ·have h:¬(Sum.inr a:Key)=Sum.inr b:=λq=>e (Sum.inr.inj q)
  rw[decide_eq_false h,decide_eq_false e]
theorem zqt(a:Int)(b:Str):decide ((Sum.inl a:Key)=Sum.inr b)=false:=decide_eq_false (λq=>nomatch q)
theorem zq0(a:Str)(b:Int):decide ((Sum.inr a:Key)=Sum.inl b)=false:=decide_eq_false (λq=>nomatch q)
noncomputable def zbn(prog:Program)(w:World):PySem.KeyKind prog w Key where
 is:=zhi
 hash:=zsy w
 inj:=λv a b ha hb=>by
  rcases zaC ha with⟨i,t,rfl,rfl⟩|⟨x,t,rfl,rfl⟩
  ·rcases zaC hb with⟨j,u,rfl,e⟩|⟨y,u,rfl,e⟩
   ·injection e with e1 _;rw[e1]
   ·exact nomatch e
  ·rcases zaC hb with⟨j,u,rfl,e⟩|⟨y,u,rfl,e⟩
   ·exact nomatch e
   ·injection e with e1 _;rw[e1]
 byValue:=λk v h=>by
   rcases zaC h with⟨i,t,rfl,rfl⟩|⟨x,t,rfl,rfl⟩<;>rfl
 pyHash:=λhv h=>by
  rcases zaC hv with⟨i,t,rfl,rfl⟩|⟨x,t,rfl,rfl⟩
  ·exact wpAny_pyHash_int h
  ·exact wpAny_pyHash_str h
 eqBool:=λhu hv h=>by
  rcases zaC hu with⟨i,t,rfl,rfl⟩|⟨x,t,rfl,rfl⟩
  ·rcases zaC hv with⟨j,u,rfl,rfl⟩|⟨y,u,rfl,rfl⟩
   ·rw[zrp] at h;exact wpAny_eqBool_int h
   ·rw[zqt] at h;exact SeqAt.EqAt.int_str i t y u _ _ _ _ h
  ·rcases zaC hv with⟨j,u,rfl,rfl⟩|⟨y,u,rfl,rfl⟩
   ·rw[zq0] at h;exact SeqAt.EqAt.str_int x t j u _ _ _ _ h
   ·rw[zri] at h;exact wpAny_eqBool_str h
 «strs»:=λk x t v h=>by
  rcases zaC h with⟨i,u,rfl,e⟩|⟨y,u,rfl,e⟩
  ·exact nomatch e
  ·injection e with e1 _
   subst e1
   cases v<;>rfl
theorem zjk(prog:Program)(w:World)(i:Int)(t:Tok):(zbn prog w).is (.inl i) (.int i t)=true:=zmu i t
theorem zjH(prog:Program)(w:World)(x:Str)(t:Tok):(zbn prog w).is (.inr x) (.str x t)=true:=zl7 x t
inductive V where
 |non|bl (b:Bool)|int (i:Int)|str (x:Str)|byt (b:Array UInt8)|flt (b:UInt64)|ref (a:Addr)|ty (n:String)
 deriving DecidableEq
def RelV:V->Value->Prop
 | .non,u=>u=Value.none
 | .bl b,u=>u=Value.bool b
 | .int i,u=>∃t,u=Value.int i t
 | .str x,u=>∃t,u=Value.str x t
 | .byt b,u=>∃t,u=Value.bytes b t
 | .flt b,u=>∃t,u=Value.float b t
 | .ref a,u=>u=Value.ref a
 | .ty n,u=>u=Value.type n
abbrev Vals:List V->List Value->Prop:=Paired RelV
theorem Vals.length{xs:List V}{us:List Value}(r:Vals xs us):xs.length=us.length:=Paired.length r
theorem Vals.get:∀{xs:List V} {us:List Value} {i:Nat} {x:V},Vals xs us->xs[i]?=some x->∃u,us[i]?=some u/\RelV x u
 |_,_,_,_, .nil,e=>by simp at e
 |_,_,0,_, .cons r _,e=>by simp at e;subst e;exact⟨_,rfl,r⟩
 |_,_,i+1,x, .cons _ t,e=>by
  obtain⟨u,h1,h2⟩:=Vals.get (i:=i) (x:=x) t (by simpa using e)
  exact⟨u,by simpa using h1,h2⟩
theorem Vals.set{x:V}{u:Value}(r:RelV x u):∀{xs:List V} {us:List Value} (i:Nat),Vals xs us->Vals (xs.set i x) (us.set i u)
 |_,_,_, .nil=> .nil
 |_,_,0, .cons _ t=> .cons r t
 |_,_,i+1, .cons q t=> .cons q (Vals.set r i t)
theorem Vals.append:∀{xs ys:List V} {us ws:List Value},Vals xs us->Vals ys ws->Vals (xs ++ys) (us ++ws)
 |_,_,_,_, .nil,s=>s
 |_,_,_,_, .cons r t,s=> .cons r (Vals.append t s)
theorem Vals.take:∀{xs:List V} {us:List Value} (n:Nat),Vals xs us->Vals (xs.take n) (us.take n)
 |_,_,0,_=> .nil
 |_,_,_+1, .nil=> .nil
 |_,_,n+1, .cons r t=> .cons r (Vals.take n t)
theorem Vals.drop:∀{xs:List V} {us:List Value} (n:Nat),Vals xs us->Vals (xs.drop n) (us.drop n)
 |_,_,0,r=>r
 |_,_,_+1, .nil=> .nil
 |_,_,n+1, .cons _ t=>Vals.drop n t
def RelO:Option V->Option Value->Prop
 |some v,some u=>RelV v u
 |none,none=>True
 |_,_=>False
def KV{κ:Type}:List (κ×V)->List (κ×Value)->Prop:=Paired λ(p:κ×V) (q:κ×Value)=>p.1=q.1/\RelV p.2 q.2
noncomputable def kV:Key->V
 | .inl i=> .int i
 | .inr x=> .str x
inductive HO where
 |lst (xs:List V)
 |tup (xs:List V)
 |dK (kvs:List (Key×V))|dT (kvs:List (List Key×V))
 |set (S:Int->Bool) (n:Nat)
 |ins (C dx:Addr) (fs:List (Str×V))
 |own (x:Addr)
 |xd (fs:List (Str×V))
 |met (f x:Addr)
 |rng (lo hi:Int)
 |frz (o:Obj) (u:HO)
 |tbl (ps:Array Value)
 |ext (φ:Heap->Prop)
noncomputable abbrev Hp:=Addr->Option HO
noncomputable def upd(H:Hp)(a:Addr)(o:HO):Hp:=λb=>if b=a then some o else H b
theorem zd{H:Hp}{a:Addr}{o:HO}:upd H a o a=some o:=by unfold upd;rw[if_pos rfl]
theorem zq{H:Hp}{a b:Addr}{o:HO}(h:b≠a):upd H a o b=H b:=by unfold upd;rw[if_neg h]
theorem zlB{H:Hp}{a:Addr}{o u:HO}:upd (upd H a o) a u=upd H a u:=by
 funext b;unfold upd;split<;>rfl
theorem zr6{H:Hp}{a b:Addr}{o u:HO}(h:H a=some o)(h':H b=some u)(d:o≠u):a≠b:=by
 intro e;subst e;rw[h] at h';exact d (Option.some.inj h')
theorem zy{H:Hp}{a b:Addr}{o:HO}(h:H a=some o)(h':H b=none):a≠b:=by
 intro e;subst e;rw[h] at h';cases h'
section
variable(P:Program)(w:World)
def NoDict(h:Heap)(a:Addr):Prop:=∀o,h.get? a=some o->o.dict=none
theorem NoDict.new{h:Heap}{o:Obj}(e:o.dict=none)(f:(h.push o).get? h.objs.size=some o):NoDict (h.push o) h.objs.size:=λo' z=>by rw[f] at z;cases z;exact e
def ObjOk(H:Hp)(h:Heap)(a:Addr):HO->Prop
 | .lst xs=>xs.length<=sizeLine/\∃(its:List Value) (n:Nat),Vals xs its/\h.get? a=some {cls:= .type "list",data:= .seq its.toArray n}
 | .tup xs=>xs.length<=sizeLine/\∃its:List Value,Vals xs its/\IsTup h a its.toArray/\NoDict h a
 | .dK kvs=>kvs.length<=sizeLine/\(a==sysModules)=false/\∃vs,KV kvs vs/\h.DictOf (zbn P w) a vs
 | .dT kvs=>kvs.length<=sizeLine/\(a==sysModules)=false/\∃xs:List (List Key×Addr×Value),
    Paired (λ(p:List Key×V) (q:List Key×Addr×Value)=>p.1=q.1/\H q.2.1=some (.tup (p.1.map kV))/\RelV p.2 q.2.2) kvs xs/\
    ∃o es ep,h.get? a=some o/\o.ExactDict/\o.data= .dict es ep/\es.toList=xs.map (entryOfKey (tupleKind (zbn P w)))/\(xs.map (·.1)).Nodup
 | .set S n=>h.SetOf (intKind P w) a S n
 | .ins C dx fs=>H dx=some (.own a)/\fs.length<=1000/\dx≠a/\h.get? a=some (PySem.W.instObj C dx)/\
    ∃mA,h.Ns1 dx mA/\(∀f,RelO (fs.lookup f) (mA f))/\PySem.Within mA (fs.map (·.1))
 | .own _=>∃o,h.get? a=some o
 | .xd fs=>∃mA,h.Ns1 a mA/\∀f,RelO (fs.lookup f) (mA f)
 | .rng lo hi=>∃t u v,h.get? a=some {cls:= .type "range",data:= .fields #[.int lo t, .int hi u, .int 1 v]}
 | .frz o u=>h.get? a=some o/\ObjOk H h a u
 | .tbl ps=>h.get? a=some {cls:= .none,data:= .fields ps}
 | .met f x=>h.get? a=some (PySem.W.methodObj (.ref f) (.ref x))
 | .ext φ=>φ h/\(∃o,h.get? a=some o)/\∀h1 h2:Heap,φ h1->(∀o,h1.get? a=some o->h2.get? a=some o)->φ h2
def HOk(H:Hp)(h:Heap):Prop:=∀a o,H a=some o->ObjOk P w H h a o
end
section
variable{P:Program}{w:World}{H H':Hp}{h h':Heap}{a:Addr}{o:HO}
theorem ObjOk.lt(x:ObjOk P w H h a o):a<h.objs.size:=by
 cases o with
 |lst xs=>obtain ⟨_,_,_,_,e⟩:=x;exact Heap.lt_size e
 |tup xs=>obtain ⟨_,_,_,p,_⟩:=x;exact p.lt
 |dK kvs=>obtain ⟨_,_,_,_,o,_,_,e,_⟩:=x;exact Heap.lt_size e
 |dT kvs=>obtain ⟨_,_,_,_,o,_,_,e,_⟩:=x;exact Heap.lt_size e
 |set S n=>obtain ⟨o,_,_,_,e,_⟩:=x;exact Heap.lt_size e
 |ins C dx fs=>obtain ⟨_,_,_,e,_⟩:=x;exact Heap.lt_size e
 |own y=>obtain ⟨_,e⟩:=x;exact Heap.lt_size e
 |xd fs=>obtain ⟨_,⟨_,_,_,e,_⟩,_⟩:=x;exact Heap.lt_size e
 |rng lo hi=>obtain ⟨_,_,_,e⟩:=x;exact Heap.lt_size e
 |frz ob u=>obtain ⟨e,_⟩:=x;exact Heap.lt_size e
 |tbl ps=>exact Heap.lt_size (show h.get? a=some _ from x)
 |met f y=>exact Heap.lt_size (show h.get? a=some _ from x)
 |ext φ=>obtain ⟨_,⟨_,e⟩,_⟩:=x;exact Heap.lt_size e
theorem Paired.mapP{α β:Type}{F G:α->β->Prop}:∀{l₁:List α} {l₂:List β},Paired F l₁ l₂->(∀a b,F a b->G a b)->Paired G l₁ l₂
 |_,_, .nil,_=> .nil
 |_,_, .cons r t,f=> .cons (f _ _ r) (Paired.mapP t f)
theorem ObjOk.stay(x:ObjOk P w H h a o)(k:∀b u,(b=a\/H b=some (.own a))->h.get? b=some u->h'.get? b=some u)
 (ho:∀b,H b=some (.own a)->H' b=some (.own a)) (ht:∀b xs,H b=some (.tup xs)->H' b=some (.tup xs)):ObjOk P w H' h' a o:=by
 induction o with
 |lst xs=>obtain ⟨z,its,n,r,e⟩:=x;exact⟨z,its,n,r,k _ _ (.inl rfl) e⟩
 |tup xs=>obtain ⟨z,its,r,⟨ob,e,c⟩,nd⟩:=x;exact⟨z,its,r,⟨ob,k _ _ (.inl rfl) e,c⟩,λo q=>by rw[k _ _ (.inl rfl) e] at q;cases q;exact nd _ e⟩
 |dK kvs=>obtain ⟨z,y,vs,r,ob,es,ep,e,c⟩:=x;exact⟨z,y,vs,r,ob,es,ep,k _ _ (.inl rfl) e,c⟩
 |dT kvs=>
  obtain⟨z,y,xs,r,ob,es,ep,e,c⟩:=x
  exact⟨z,y,xs,Paired.mapP r λp q z=>⟨z.1,ht _ _ z.2.1,z.2.2⟩,ob,es,ep,k _ _ (.inl rfl) e,c⟩
 |set S n=>obtain ⟨ob,es,ep,t,e,c⟩:=x;exact⟨ob,es,ep,t,k _ _ (.inl rfl) e,c⟩
 |ins C dx fs=>
  obtain⟨d,z,ne,e,mA,⟨od,es,ep,e2,c⟩,r⟩:=x
  exact⟨ho _ d,z,ne,k _ _ (.inl rfl) e,mA,⟨od,es,ep,k _ _ (.inr d) e2,c⟩,r⟩
 |own y=>obtain ⟨ob,e⟩:=x;exact⟨ob,k _ _ (.inl rfl) e⟩
 |xd fs=>obtain ⟨mA,⟨od,es,ep,e,c⟩,r⟩:=x;exact⟨mA,⟨od,es,ep,k _ _ (.inl rfl) e,c⟩,r⟩
 |rng lo hi=>obtain ⟨t,u,v,e⟩:=x;exact⟨t,u,v,k _ _ (.inl rfl) e⟩
 |frz ob u ih=>obtain ⟨e,q⟩:=x;exact⟨k _ _ (.inl rfl) e,ih q⟩
 |tbl ps=>
  have e:h.get? a=some {cls:= .none,data:= .fields ps}:=x
  show h'.get? a=some {cls:= .none,data:= .fields ps}
  exact k a _ (.inl rfl) e
 |met f y=>
  have e:h.get? a=some (PySem.W.methodObj (.ref f) (.ref y)):=x
  show h'.get? a=some (PySem.W.methodObj (.ref f) (.ref y))
  exact k a _ (.inl rfl) e
 |ext φ=>obtain ⟨p,⟨o,e⟩,st⟩:=x;exact⟨st _ _ p λo q=>k _ _ (.inl rfl) q,⟨o,k _ _ (.inl rfl) e⟩,st⟩
theorem HOk.lt(x:HOk P w H h)(e:H a=some o):a<h.objs.size:=(x a o e).lt
theorem HOk.fresh(x:HOk P w H h)(e:h.objs.size<=a):H a=none:=by
 cases q:H a with
 |none=>rfl
 |some u=>exact absurd (Nat.lt_of_lt_of_le (x.lt q) e) (Nat.lt_irrefl _)
theorem HOk.kept(x:HOk P w H h)(k:∀b u,h.get? b=some u->h'.get? b=some u):HOk P w H h':=λa o e=>
 (x a o e).stay (λb u _ q=>k b u q) (λ_ q=>q) λ_ _ q=>q
theorem HOk.laid(x:HOk P w H h)(k:∀b u,h.get? b=some u->h'.get? b=some u)(hp:h.objs.size<=a)(new:ObjOk P w (upd H a o) h' a o):HOk P w (upd H a o) h':=λb u e=>by
 have hn:=x.fresh hp
 by_cases hb:b=a
 ·subst hb;rw[zd] at e;cases e;exact new
 ·rw[zq hb] at e
  exact(x b u e).stay (λc v _ q=>k c v q) (λc q=>by rw[zq (zy q hn)];exact q) λc xs q=>by rw[zq (zy q hn)];exact q
end
def Rd(H:Hp)(a:Addr)(u:HO):Prop:=H a=some u\/∃o,H a=some (.frz o u)
theorem Rd.ok{P:Program}{w:World}{H:Hp}{h:Heap}{a:Addr}{u:HO}(r:Rd H a u)(x:HOk P w H h):ObjOk P w H h a u:=by
 rcases r with r|⟨o,r⟩
 ·exact x a u r
 ·obtain ⟨_,q⟩:=x a _ r
  exact q
def Mut:Option HO->Prop
 |some (.lst _)=>True
 |some (.dK _)=>True
 |some (.dT _)=>True
 |some (.set _ _)=>True
 |some (.ins _ _ _)=>True
 |some (.ext _)=>True
 |_=>False
section
variable{P:Program}{w:World}{H:Hp}{h h':Heap}{x e:Addr}{o':HO}
theorem HOk.write(ok:HOk P w H h)(mu:Mut (H x))(he:e=x\/H e=some (.own x))(k:∀b u,b≠e->h.get? b=some u->h'.get? b=some u)(heo:∃u,h'.get? e=some u)
 (new:ObjOk P w (upd H x o') h' x o'):HOk P w (upd H x o') h':=λb u q=>by
 have nown:∀c y,H c=some (.own y)->c≠x:=λc y r z=>by subst z;rw[r] at mu;exact mu
 have ntup:∀c xs,H c=some (.tup xs)->c≠x:=λc xs r z=>by subst z;rw[r] at mu;exact mu
 by_cases hb:b=x
 ·subst hb;rw[zd] at q;cases q;exact new
 ·rw[zq hb] at q
  by_cases hbe:b=e
  ·have q':H b=some (.own x):=by
    rcases he with z|z
    ·exact absurd (hbe.trans z) hb
    ·rw[hbe];exact z
   rw[q] at q';cases q'
   obtain⟨v,hv⟩:=heo
   exact⟨v,by rw[hbe];exact hv⟩
  ·refine (ok b u q).stay (λc v hc r=>k c v ?_ r) (λc r=>by rw[zq (nown c b r)];exact r) λc xs r=>by rw[zq (ntup c xs r)];exact r
   rcases hc with rfl|hc
   ·exact hbe
   ·rintro rfl
    rcases he with z|z
    ·exact nown c b hc z
    ·rw[hc] at z;cases z;exact hb rfl
end
structure Un(fs ex:List Addr)(H H':Hp)(h h':Heap):Prop where
 keep:∀b o,h.get? b=some o->H b=none->b∉fs->b∉ex->h'.get? b=some o
 slot:∀b o,h.get? b=some o->H b=none->b∈fs->b∉ex->∃sl,h'.get? b=some {o with slots:=sl}
 free:∀b o,h.get? b=some o->H b=none->b∉ex->H' b=none
 there:∀b o,h.get? b=some o->b∉ex->∃o',h'.get? b=some o'
 tups:∀b xs,H b=some (.tup xs)->H' b=some (.tup xs)
 frzs:∀b o u,H b=some (.frz o u)->H' b=some (.frz o u)
 tbls:∀b ps,H b=some (.tbl ps)->∃more,H' b=some (.tbl (ps ++more))
section
variable{fs fs' ex ex':List Addr}{H H1 H2:Hp}{h h1 h2 h':Heap}{a x e:Addr}{o:HO}
theorem Un.any(u:Un fs ex H H1 h h1){b:Addr}{ob:Obj}(q:h.get? b=some ob)(n:H b=none)(hx:b∉ex):∃sl,h1.get? b=some {ob with slots:=sl}:=by
 by_cases hb:b∈fs
 ·exact u.slot b ob q n hb hx
 ·exact ⟨ob.slots,u.keep b ob q n hb hx⟩
theorem Un.kept(k:∀b u,h.get? b=some u->h'.get? b=some u):Un fs ex H H h h':=
 ⟨λb ob q _ _ _=>k b ob q,λb ob q _ _ _=>⟨ob.slots,k b ob q⟩,λ_ _ _ n _=>n,λb ob q _=>⟨ob,k b ob q⟩,λ_ _ q=>q,λ_ _ _ q=>q,λ_ ps q=>⟨#[],by rw[q];simp⟩⟩
theorem Un.refl:Un fs ex H H h h:=Un.kept λ_ _ q=>q
theorem Un.laid(k:∀b u,h.get? b=some u->h'.get? b=some u)(hp:h.objs.size<=a)(hn:H a=none):Un fs ex H (upd H a o) h h' where
 keep:=λb u q _ _ _=>k b u q
 slot:=λb u q _ _ _=>⟨u.slots,k b u q⟩
 free:=λb u q n _=>by rw[zq (Nat.ne_of_lt (Nat.lt_of_lt_of_le (Heap.lt_size q) hp))];exact n
 there:=λb u q _=>⟨u,k b u q⟩
 tups:=λb xs q=>by rw[zq (zy q hn)];exact q
 frzs:=λb u xs q=>by rw[zq (zy q hn)];exact q
 tbls:=λb ps q=>⟨#[],by rw[zq (zy q hn),q];simp⟩
theorem Un.write(mu:Mut (H x))(he:e=x\/H e=some (.own x))(k:∀b u,b≠e->h.get? b=some u->h'.get? b=some u)(heo:∃u,h'.get? e=some u):Un fs ex H (upd H x o) h h':=by
 have hx:∀b,H b=none->b≠x:=λb n z=>by subst z;rw[n] at mu;exact mu
 have hb:∀b,H b=none->b≠e:=λb n z=>by
  subst z
  rcases he with r|r
  ·exact hx b n r
  ·rw[n] at r;cases r
 have hm:∀b u,H b=some u->¬Mut (some u)->b≠x:=λb u q nm z=>by subst z;rw[q] at mu;exact nm mu
 refine⟨λb u q n _ _=>k b u (hb b n) q,λb u q n _ _=>⟨u.slots,k b u (hb b n) q⟩,λb u q n _=>by rw[zq (hx b n)];exact n,λb u q _=>?_,
  λb xs q=>by rw[zq (hm b _ q λz=>z)];exact q,λb u xs q=>by rw[zq (hm b _ q λz=>z)];exact q,λb ps q=>⟨#[],by rw[zq (hm b _ q λz=>z),q];simp⟩⟩
 by_cases hbe:b=e
 ·subst hbe;exact heo
 ·exact ⟨u,k b u hbe q⟩
end
noncomputable def trk(h:Heap)(H:Hp):List Addr:=(List.range h.objs.size).filter λa=>(H a).isSome
noncomputable def ziB(h:Heap)(H:Hp):Heap:=PySem.W.hideAll h (trk h H)
theorem zmx(h:Heap)(H:Hp):(ziB h H).objs.size=h.objs.size:=PySem.W.hideAll_size _ _
theorem zor{h:Heap}{H:Hp}{b:Addr}{o:Obj}(e:h.get? b=some o)(n:H b=none):(ziB h H).get? b=some o:=
 PySem.W.hideAll_get _ e λhm=>by
  have q:(H b).isSome=true:=(List.mem_filter.mp hm).2
  rw[n] at q;simp at q
theorem zoG{h:Heap}{H:Hp}{b:Addr}{o:Obj}(e:(ziB h H).get? b=some o):h.get? b=some o/\H b=none:=by
 have e':h.get? b=some o:=PySem.W.of_hideAll (trk h H) e
 refine⟨e',?_⟩
 cases q:H b with
 |none=>rfl
 |some x=>
  have hm:b∈trk h H:=List.mem_filter.mpr ⟨List.mem_range.mpr (Heap.lt_size e'),by simp[q]⟩
  have z:(ziB h H).get? b=none:=PySem.W.hideAll_none (trk h H) hm
  rw[z] at e;cases e
structure Mod(K:PySem.W.Frag)(mg:Str->Option Value)(base:Heap):Prop where
 kin:K.In base
 glob:base.Ns mainGlobals mg
 blt:∃mb,base.Ns builtinsNs mb/\∀x:Str,x≠"__name__"->mb x=bootBuiltins x
 nolimit:base.NoLimit
structure Cx where
 prog:Program
 w:World
 K:PySem.W.Frag
 mg:Str->Option Value
 base:Heap
 A:Around
 N:List Str
 s₀:Shared
 H₀:Hp
 env:Env
 outer:List Env
 stack:List Env
 ex:List Addr
 fn:Str->Bool
 calm:Bool
 pn:List (Addr×Obj)
 xe:Value->Shared->Prop
noncomputable def frs(l:List Env):List Addr:=l.filterMap (·.frame)
noncomputable abbrev Cx.fs(X:Cx):List Addr:=frs X.outer
def Vis(sc:Scope)(x:Str):Prop:=sc.names.lookup x=some .local\/sc.names.lookup x=some .cell\/sc.names.lookup x=some .free
def Loc(sc:Scope)(x:Str):Prop:=sc.names.lookup x=some .local\/sc.names.lookup x=some .cell
def zsB(env:Env)(h:Heap)(m:Str->Option Value)(x:Str)(u:Value):Prop:=
 (env.kindOf x=some .local/\m x=some u)\/((env.kindOf x=some .cell\/env.kindOf x=some .free)/\∃c,env.cells.lookup x=some c/\h.IsCell c (some u))
structure Cx.Ok(X:Cx):Prop where
 mod:Mod X.K X.mg X.base
 kind:X.env.scope.kind= .function
 glob:X.env.globals=mainGlobals
 blt:X.env.builtins=builtinsNs
 above:X.s₀.heap.objs.size<=X.env.locals
 inj:∀x y c,X.env.cells.lookup x=some c->X.env.cells.lookup y=some c->x=y
 has:∀x,(X.env.kindOf x=some .cell\/X.env.kindOf x=some .free)->∃c,X.env.cells.lookup x=some c
 cab:∀x c,X.fn x=true->X.env.cells.lookup x=some c->X.s₀.heap.objs.size<=c
 hd:X.calm=true->X.A.handled=none
 frames:X.A.frames=some X.stack
 stk:X.stack=X.outer\/(X.stack=X.env::X.outer/\X.env.frame=some X.env.locals)
 exf:∀b∈X.ex,b≠X.env.locals/\∀x c,X.env.cells.lookup x=some c->c≠b
 bs:∀b o,X.base.get? b=some o->X.s₀.heap.get? b=some o/\X.H₀ b=none
 bsz:X.base.objs.size<=X.s₀.heap.objs.size
 noex:∀b o,X.base.get? b=some o->b∉X.ex
 exfs:∀b∈X.ex,b∉X.fs
 funs:X.s₀.heap.FunFrames X.base X.outer
 frf:∀b∈X.fs,X.H₀ b=none
structure Inv(X:Cx)(pins:List (Addr×Obj))(σ:List (Option V))(H:Hp)(s:Shared):Prop where
 ok:X.Ok
 os:s.os=X.s₀.os
 bare:AllBare s.gens
 base:Un X.fs X.ex X.H₀ H X.s₀.heap s.heap
 loc:∃m,s.heap.Ns X.env.locals m/\∀(i:Nat) (x:Str) (v:V),X.N[i]?=some x->σ[i]?=some (some v)->Vis X.env.scope x->∃u,RelV v u/\zsB X.env s.heap m x u
 cell:∀x c,X.env.cells.lookup x=some c->∃v,s.heap.IsCell c v
 free:H X.env.locals=none
 freeC:∀x c,X.env.cells.lookup x=some c->H c=none
 pin:∀p∈X.pn ++pins,s.heap.get? p.1=some p.2/\H p.1=none/\p.1≠X.env.locals/\p.1∉X.fs/\∀v,p.2.data≠ .cell v
 hok:HOk X.prog X.w H s.heap
 len:σ.length=X.N.length
section
variable{X:Cx}{pins:List (Addr×Obj)}{σ:List (Option V)}{H H':Hp}{s:Shared}{h':Heap}
theorem Cx.Ok.nofr(ok:X.Ok){b:Addr}{o:Obj}(e:X.base.get? b=some o):b∉X.fs:=λhb=>by
 have:=(ok.funs.mem hb).1
 rw[e] at this;cases this
theorem Inv.bs(I:Inv X pins σ H s):∀b o,X.base.get? b=some o->s.heap.get? b=some o/\H b=none:=λb o e=>
 ⟨I.base.keep b o (I.ok.bs b o e).1 (I.ok.bs b o e).2 (I.ok.nofr e) (I.ok.noex b o e),I.base.free b o (I.ok.bs b o e).1 (I.ok.bs b o e).2 (I.ok.noex b o e)⟩
theorem Inv.bk(I:Inv X pins σ H s):∀b o,X.base.get? b=some o->s.heap.get? b=some o:=λb o e=>(I.bs b o e).1
theorem Inv.mod(I:Inv X pins σ H s):Mod X.K X.mg X.base:=I.ok.mod
theorem Inv.kIn(I:Inv X pins σ H s):X.K.In s.heap:=I.ok.mod.kin.keeps I.bk
theorem Inv.lt(I:Inv X pins σ H s):X.env.locals<s.heap.objs.size:=let⟨_,hn,_⟩:=I.loc;hn.lt
theorem Inv.sz(I:Inv X pins σ H s):X.s₀.heap.objs.size<=s.heap.objs.size:=Nat.le_trans I.ok.above (Nat.le_of_lt I.lt)
theorem Inv.nofs(I:Inv X pins σ H s){a:Addr}(h:s.heap.objs.size<=a):a∉X.fs:=λhb=>by
 obtain⟨_,o,ho,_⟩:=I.ok.funs.mem hb
 exact absurd (Nat.lt_of_lt_of_le (Heap.lt_size ho) (Nat.le_trans I.sz h)) (Nat.lt_irrefl _)
theorem Inv.cne(I:Inv X pins σ H s):∀x c,X.env.cells.lookup x=some c->c≠X.env.locals:=λx c e z=>by
 obtain⟨v,o,ho,hd⟩:=I.cell x c e
 obtain⟨m,⟨o',es,ep,ho',hd',_⟩,_⟩:=I.loc
 rw[z,ho'] at ho;cases ho;rw[hd'] at hd;cases hd
theorem Inv.funs(I:Inv X pins σ H s):s.heap.FunFrames X.base X.outer:=by
 have all:∀(l:List Env),(∀b∈frs l,b∈X.fs)->X.s₀.heap.FunFrames X.base l->s.heap.FunFrames X.base l:=by
  intro l
  induction l with
  |nil=>intro _ _;trivial
  |cons env r ih=>
   intro hs hl
   obtain⟨hk,⟨L,o,hf,hn,ho,hd⟩,hr⟩:=hl
   have hL:L∈X.fs:=hs L (by unfold frs;rw[List.filterMap_cons,hf];exact List.mem_cons_self)
   obtain⟨sl,e⟩:=I.base.slot L o ho (I.ok.frf L hL) hL λz=>I.ok.exfs L z hL
   exact⟨hk,⟨L,_,hf,hn,e,hd⟩,ih (λb hb=>hs b (by unfold frs;rw[List.filterMap_cons,hf];exact List.mem_cons_of_mem _ hb)) hr⟩
 exact all X.outer (λ_ hb=>hb) I.ok.funs
theorem Inv.stack(I:Inv X pins σ H s):s.heap.FunFrames X.base X.stack:=by
 rcases I.ok.stk with e|⟨e,hf⟩
 ·rw[e];exact I.funs
 ·rw[e]
  obtain⟨m,hn,_⟩:=I.loc
  refine .cons (by rw[I.ok.kind];decide) hf hn ?_ I.funs
  exact Heap.get?_none_of_le (Nat.le_trans I.ok.bsz I.ok.above)
theorem Inv.stkSub(I:Inv X pins σ H s):∀b∈frs X.stack,b∈X.env.locals::X.fs:=λb hb=>by
 rcases I.ok.stk with e|⟨e,hf⟩
 ·rw[e] at hb;exact List.mem_cons_of_mem _ hb
 ·rw[e] at hb
  unfold frs at hb
  rw[List.filterMap_cons,hf] at hb
  exact hb
theorem Inv.stkFree(I:Inv X pins σ H s):∀b∈frs X.stack,H b=none:=λb hb=>by
 rcases List.mem_cons.mp (I.stkSub b hb)with e|hb
 ·rw[e];exact I.free
 ·obtain ⟨_,o,ho,_⟩:=I.ok.funs.mem hb
  exact I.base.free b o ho (I.ok.frf b hb) λz=>I.ok.exfs b z hb
theorem Inv.step{g':Array GenState}{t':Nat}{d':Drawn}{ch:List Addr}(I:Inv X pins σ H s)
 (hch:∀b∈ch,(b∈X.ex\/X.s₀.heap.objs.size<=b)/\b≠X.env.locals/\(∀x c,X.env.cells.lookup x=some c->c≠b)/\∀p∈X.pn ++pins,p.1≠b)
 (keep:∀b o,b≠X.env.locals->b∉X.fs->b∉ch->s.heap.get? b=some o->H b=none->h'.get? b=some o)
 (slot:∀b o,b≠X.env.locals->b∈X.fs->b∉ch->s.heap.get? b=some o->H b=none->∃sl,h'.get? b=some {o with slots:=sl}) (free:∀b o,b∉ch->s.heap.get? b=some o->H b=none->H' b=none)
 (there:∀b o,b∉ch->s.heap.get? b=some o->∃o',h'.get? b=some o')
 (tups:∀b xs,H b=some (.tup xs)->H' b=some (.tup xs)) (frzs:∀b o u,H b=some (.frz o u)->H' b=some (.frz o u)) (tbls:∀b ps,H b=some (.tbl ps)->∃more,H' b=some (.tbl (ps ++more)))
 (ns:∀m,s.heap.Ns X.env.locals m->h'.Ns X.env.locals m) (hok:HOk X.prog X.w H' h') (hg:AllBare g'):
 Inv X pins σ H' {s with heap:=h',gens:=g',drawn:=d',toks:=t'}:=by
 have neL:∀b o,X.s₀.heap.get? b=some o->b≠X.env.locals:=λb o e=>Nat.ne_of_lt (Nat.lt_of_lt_of_le (Heap.lt_size e) I.ok.above)
 have neC:∀b o,X.s₀.heap.get? b=some o->b∉X.ex->b∉ch:=λb o e hx hb=>by
  rcases(hch b hb).1 with z|z
  ·exact hx z
  ·exact absurd (Nat.lt_of_lt_of_le (Heap.lt_size e) z) (Nat.lt_irrefl _)
 have cellK:∀x c,X.env.cells.lookup x=some c->∀v,s.heap.IsCell c v->h'.IsCell c v:=λx c e v ⟨o,ho,hd⟩=>by
  have nch:c∉ch:=λz=>(hch c z).2.2.1 x c e rfl
  by_cases hc:c∈X.fs
  ·obtain ⟨sl,q⟩:=slot c o (I.cne x c e) hc nch ho (I.freeC x c e)
   exact⟨_,q,hd⟩
  ·exact ⟨o,keep c o (I.cne x c e) hc nch ho (I.freeC x c e),hd⟩
 refine⟨I.ok,I.os,hg,⟨λb o e n hb hx=>?_,λb o e n hb hx=>?_,λb o e n hx=>?_,λb o e hx=>?_,λb xs e=>tups b xs (I.base.tups b xs e),λb o xs e=>frzs b o xs (I.base.frzs b o xs e),λb ps e=>?_⟩,?_,λx c e=>?_,?_,λx c e=>?_,λp hp=>?_,hok,I.len⟩
 ·exact keep b o (neL b o e) hb (neC b o e hx) (I.base.keep b o e n hb hx) (I.base.free b o e n hx)
 ·obtain ⟨sl,e1⟩:=I.base.slot b o e n hb hx
  obtain⟨sl',e2⟩:=slot b _ (neL b o e) hb (neC b o e hx) e1 (I.base.free b o e n hx)
  exact⟨sl',e2⟩
 ·obtain ⟨o',e1⟩:=I.base.there b o e hx
  exact free b o' (neC b o e hx) e1 (I.base.free b o e n hx)
 ·obtain ⟨o',e1⟩:=I.base.there b o e hx
  exact there b o' (neC b o e hx) e1
 ·obtain ⟨m1,e1⟩:=I.base.tbls b ps e
  obtain⟨m2,e2⟩:=tbls b _ e1
  exact⟨m1 ++m2,by rw[e2,Array.append_assoc]⟩
 ·obtain ⟨m,hn,hl⟩:=I.loc
  refine⟨m,ns m hn,λi x v e1 e2 e3=>?_⟩
  obtain⟨u,r,l⟩:=hl i x v e1 e2 e3
  refine⟨u,r,?_⟩
  rcases l with l|⟨k,c,e,z⟩
  ·exact .inl l
  ·exact .inr ⟨k,c,e,cellK x c e _ z⟩
 ·obtain ⟨v,z⟩:=I.cell x c e
  exact⟨v,cellK x c e v z⟩
 ·obtain ⟨m,⟨o,_,_,ho,_⟩,_⟩:=I.loc
  exact free _ o (λz=>(hch _ z).2.1 rfl) ho I.free
 ·obtain ⟨v,o,ho,hd⟩:=I.cell x c e
  exact free c o (λz=>(hch c z).2.2.1 x c e rfl) ho (I.freeC x c e)
 ·obtain ⟨e,n,ne,nf,d⟩:=I.pin p hp
  have nch:p.1∉ch:=λz=>(hch p.1 z).2.2.2 p hp rfl
  exact⟨keep p.1 p.2 ne nf nch e n,free p.1 p.2 nch e n,ne,nf,d⟩
theorem Inv.un{t':Nat}(I:Inv X pins σ H s)(u:Un X.fs [] H H' s.heap h')(hok:HOk X.prog X.w H' h'):Inv X pins σ H' {s with heap:=h',toks:=t'}:=by
 obtain⟨m,⟨o,es,ep,ho,r⟩,_⟩:=id I.loc
 obtain⟨sl,hL⟩:=u.any ho I.free (by simp)
 exact I.step (g':=s.gens) (d':=s.drawn) (ch:=[]) (λ_ z=>nomatch z) (λb o _ hb _ e n=>u.keep b o e n hb (by simp)) (λb o _ hb _ e n=>u.slot b o e n hb (by simp)) (λb o _ e n=>u.free b o e n (by simp)) (λb o _ e=>u.there b o e (by simp)) u.tups u.frzs u.tbls (λm' hm=>by
  obtain⟨o',es',ep',ho',r'⟩:=hm
  rw[ho] at ho';cases ho'
  exact⟨_,es',ep',hL,r'⟩) hok I.bare
theorem Inv.call{g':Array GenState}{t':Nat}{d':Drawn}{ch:List Addr}(I:Inv X pins σ H s)(u:Un (frs X.stack) ch H H' s.heap h')(hok:HOk X.prog X.w H' h')(hg:AllBare g')
 (hch:∀b∈ch,(b∈X.ex\/X.s₀.heap.objs.size<=b)/\b≠X.env.locals/\(∀x c,X.env.cells.lookup x=some c->c≠b)/\∀p∈X.pn ++pins,p.1≠b):
 Inv X pins σ H' {s with heap:=h',gens:=g',drawn:=d',toks:=t'}:=by
 obtain⟨m,⟨o,es,ep,ho,r⟩,_⟩:=id I.loc
 obtain⟨sl,hL⟩:=u.any ho I.free λz=>(hch _ z).2.1 rfl
 exact I.step (ch:=ch) hch (λb o hL hb hc e n=>u.keep b o e n (λz=>(List.mem_cons.mp (I.stkSub b z)).elim hL hb) hc) (λb o _ _ hc e n=>u.any e n hc) (λb o hc e n=>u.free b o e n hc) (λb o hc e=>u.there b o e hc) u.tups u.frzs u.tbls (λm' hm=>by
  obtain⟨o',es',ep',ho',r'⟩:=hm
  rw[ho] at ho';cases ho'
  exact⟨_,es',ep',hL,r'⟩) hok hg
theorem Inv.turned{t':Nat}{it:Addr}(I:Inv X pins σ H s)(k:∀b o,b≠it->s.heap.get? b=some o->h'.get? b=some o)(hn:H it=none)(hL:it≠X.env.locals)
 (h1:it∈X.ex\/X.s₀.heap.objs.size<=it) (h2:∀x c,X.env.cells.lookup x=some c->c≠it) (h3:∀p∈X.pn ++pins,p.1≠it):Inv X pins σ H {s with heap:=h',toks:=t'}:=by
 have nit:∀b u,H b=some u->b≠it:=λb u e z=>by rw[z,hn] at e;cases e
 refine I.step (g':=s.gens) (d':=s.drawn) (ch:=[it]) (λb hb=>?_) (λb o _ _ hc e _=>k b o (λz=>hc (by simp[z])) e) (λb o _ _ hc e _=>⟨o.slots,k b o (λz=>hc (by simp[z])) e⟩) (λ_ _ _ _ n=>n)
  (λb o hc e=>⟨o,k b o (λz=>hc (by simp[z])) e⟩) (λ_ _ e=>e) (λ_ _ _ e=>e) (λb ps e=>⟨#[],by rw[e];simp⟩) (λm hm=>?_) (λb u e=>?_) I.bare
 ·have e:b=it:=by simpa using hb
  subst e
  exact⟨h1,hL,h2,h3⟩
 ·obtain ⟨o,es,ep,ho,r⟩:=hm
  exact⟨o,es,ep,k _ o (Ne.symm hL) ho,r⟩
 ·refine (I.hok b u e).stay (λc v hc q=>k c v ?_ q) (λ_ q=>q) λ_ _ q=>q
  rcases hc with z|z
  ·rw[z];exact nit b u e
  ·exact nit c _ z
theorem Inv.tok(I:Inv X pins σ H s)(t:Nat):Inv X pins σ H {s with toks:=t}:=I.un (h':=s.heap) (t':=t) Un.refl I.hok
theorem Inv.kept{t':Nat}(I:Inv X pins σ H s)(k:∀b u,s.heap.get? b=some u->h'.get? b=some u):Inv X pins σ H {s with heap:=h',toks:=t'}:=I.un (Un.kept k) (I.hok.kept k)
theorem Inv.laid{a:Addr}{o:HO}{t':Nat}(I:Inv X pins σ H s)(k:∀b u,s.heap.get? b=some u->h'.get? b=some u)(hp:s.heap.objs.size<=a)(new:ObjOk X.prog X.w (upd H a o) h' a o):
 Inv X pins σ (upd H a o) {s with heap:=h',toks:=t'}:=I.un (Un.laid k hp (I.hok.fresh hp)) (I.hok.laid k hp new)
theorem Inv.write{x e:Addr}{o:HO}{t':Nat}(I:Inv X pins σ H s)(mu:Mut (H x))(he:e=x\/H e=some (.own x))(k:∀b u,b≠e->s.heap.get? b=some u->h'.get? b=some u)(heo:∃u,h'.get? e=some u)
 (new:ObjOk X.prog X.w (upd H x o) h' x o):Inv X pins σ (upd H x o) {s with heap:=h',toks:=t'}:=I.un (Un.write mu he k heo) (I.hok.write mu he k heo new)
theorem Inv.pins_of{pins':List (Addr×Obj)}(I:Inv X pins σ H s)(h:∀p∈pins',s.heap.get? p.1=some p.2/\H p.1=none/\p.1≠X.env.locals/\p.1∉X.fs/\∀v,p.2.data≠ .cell v):Inv X pins' σ H s:=
 ⟨I.ok,I.os,I.bare,I.base,I.loc,I.cell,I.free,I.freeC,λp hp=>(List.mem_append.mp hp).elim (λz=>I.pin p (List.mem_append_left _ z)) (h p),I.hok,I.len⟩
theorem zja{N:List Str}(hN:N.Nodup){i j:Nat}{x:Str}(a:N[i]?=some x)(b:N[j]?=some x):i=j:=by
 obtain⟨h1,e1⟩:=List.getElem?_eq_some_iff.mp a
 obtain⟨h2,e2⟩:=List.getElem?_eq_some_iff.mp b
 exact(List.getElem_inj hN).mp (e1.trans e2.symm)
theorem zmG{M:Model}{A:Around}{E:Value->Shared->Prop}{i:Nat}{x:Str}{v:V}{u:Value}{Q:Unit->Shared->Prop}(I:Inv X pins σ H s)(hN:X.N.Nodup)(hi:X.N[i]?=some x)(hx:Loc X.env.scope x)(r:RelV v u)
 (h:∀s',Inv X pins (σ.set i (some v)) H s'->(∃a,Heap.SameBut a s.heap s'.heap/\(a=X.env.locals\/X.env.cells.lookup x=some a))->Q () s') (hf:X.fn x=true\/X.env.scope.names.lookup x=some .local:=by first|exact .inl rfl|exact .inr rfl|assumption):wpAny M A (storeName X.env x u) Q E s:=by
 obtain⟨m,hn,hl⟩:=id I.loc
 have hcls:(X.env.scope.kind== .class||(X.env.scope.kind== .module&&X.env.locals !=X.env.globals))=false:=by rw[I.ok.kind];rfl
 have hiσ:i<σ.length:=by rw[I.len];exact(List.getElem?_eq_some_iff.mp hi).1
 have cne:=I.cne
 have tracked:∀{a:Addr} {h':Heap},(∃o,s.heap.get? a=some o/\H a=none)->Heap.SameBut a s.heap h'->HOk X.prog X.w H h':=λ{a h'} ha hs b ob e=>by
  obtain⟨_,_,hfree⟩:=ha
  refine(I.hok b ob e).stay (λc w' hc q=>(hs.2 c ?_).trans q) (λ_ q=>q) λ_ _ q=>q
  rintro rfl
  rcases hc with rfl|hc
  ·rw[hfree] at e;cases e
  ·rw[hfree] at hc;cases hc
 rcases hx with hk|hk
 ·refine wpAny_storeName_local hk hn (λh' hn' hs=>?_) hcls
  obtain⟨oL,_,_,hoL,_⟩:=id hn
  refine h _ ⟨I.ok,I.os,I.bare,⟨λb o e n hb hx=>?_,λb o e n hb hx=>?_,I.base.free,λb o e hx=>?_,I.base.tups,I.base.frzs,I.base.tbls⟩,⟨_,hn',λj y v' e1 e2 e3=>?_⟩,λy c e=>?_,I.free,I.freeC,λp hp=>?_,tracked ⟨oL,hoL,I.free⟩ hs,by simpa using I.len⟩ ⟨_,hs, .inl rfl⟩
  ·exact (hs.2 b (Nat.ne_of_lt (Nat.lt_of_lt_of_le (Heap.lt_size e) I.ok.above))).trans (I.base.keep b o e n hb hx)
  ·obtain ⟨sl,e1⟩:=I.base.slot b o e n hb hx
   exact⟨sl,(hs.2 b (Nat.ne_of_lt (Nat.lt_of_lt_of_le (Heap.lt_size e) I.ok.above))).trans e1⟩
  ·obtain ⟨o',e1⟩:=I.base.there b o e hx
   exact⟨o',(hs.2 b (Nat.ne_of_lt (Nat.lt_of_lt_of_le (Heap.lt_size e) I.ok.above))).trans e1⟩
  ·by_cases hj:j=i
   ·subst hj
    rw[hi] at e1;cases e1
    rw[List.getElem?_set_self hiσ] at e2
    cases e2
    exact⟨u,r, .inl ⟨hk,by simp⟩⟩
   ·rw[List.getElem?_set_ne (Ne.symm hj)] at e2
    obtain⟨u',r',q⟩:=hl j y v' e1 e2 e3
    refine⟨u',r',?_⟩
    rcases q with⟨k,e⟩|⟨k,c,e,z⟩
    ·refine .inl ⟨k,?_⟩
     have:y≠x:=λe=>hj (zja hN e1 (e▸hi))
     simp[this,e]
    ·exact .inr ⟨k,c,e,z.sameBut hs (cne y c e)⟩
  ·obtain ⟨w',z⟩:=I.cell y c e
   exact⟨w',z.sameBut hs (cne y c e)⟩
  ·obtain ⟨e,n,ne,nf,d⟩:=I.pin p hp
   exact⟨(hs.2 p.1 ne).trans e,n,ne,nf,d⟩
 ·have hfn:X.fn x=true:=by
   rcases hf with z|z
   ·exact z
   ·rw[z] at hk;cases hk
  obtain⟨c,hc⟩:=I.ok.has x (.inl hk)
  obtain⟨w',z⟩:=I.cell x c hc
  refine wpAny_storeName_cell I.ok.kind hk hc z (λh' hc' hs=>?_)
  obtain⟨oc,hoc,hocd⟩:=id z
  refine h {s with heap:=h'} ⟨I.ok,I.os,I.bare,⟨λb o e n hb hx=>?_,λb o e n hb hx=>?_,I.base.free,λb o e hx=>?_,I.base.tups,I.base.frzs,I.base.tbls⟩,⟨m,hn.sameBut hs (Ne.symm (cne x c hc)),λj y v' e1 e2 e3=>?_⟩,λy c' e=>?_,I.free,I.freeC,λp hp=>?_,tracked ⟨oc,hoc,I.freeC x c hc⟩ hs,by simpa using I.len⟩ ⟨c,hs, .inr hc⟩
  ·exact (hs.2 b (Nat.ne_of_lt (Nat.lt_of_lt_of_le (Heap.lt_size e) (I.ok.cab x c hfn hc)))).trans (I.base.keep b o e n hb hx)
  ·obtain ⟨sl,e1⟩:=I.base.slot b o e n hb hx
   exact⟨sl,(hs.2 b (Nat.ne_of_lt (Nat.lt_of_lt_of_le (Heap.lt_size e) (I.ok.cab x c hfn hc)))).trans e1⟩
  ·obtain ⟨o',e1⟩:=I.base.there b o e hx
   exact⟨o',(hs.2 b (Nat.ne_of_lt (Nat.lt_of_lt_of_le (Heap.lt_size e) (I.ok.cab x c hfn hc)))).trans e1⟩
  ·by_cases hj:j=i
   ·subst hj
    rw[hi] at e1;cases e1
    rw[List.getElem?_set_self hiσ] at e2
    cases e2
    exact⟨u,r, .inr ⟨.inl hk,c,hc,hc'⟩⟩
   ·rw[List.getElem?_set_ne (Ne.symm hj)] at e2
    obtain⟨u',r',q⟩:=hl j y v' e1 e2 e3
    refine⟨u',r',?_⟩
    rcases q with q|⟨k,c',e,z'⟩
    ·exact .inl q
    ·refine .inr ⟨k,c',e,z'.sameBut hs ?_⟩
     rintro rfl
     exact hj (zja hN e1 (I.ok.inj _ _ _ e hc▸hi))
  ·by_cases hcc:c'=c
   ·subst hcc;exact⟨_,hc'⟩
   ·obtain ⟨w2,z2⟩:=I.cell y c' e
    exact⟨w2,z2.sameBut hs hcc⟩
  ·obtain ⟨e,n,ne,nf,d⟩:=I.pin p hp
   refine⟨(hs.2 p.1 ?_).trans e,n,ne,nf,d⟩
   intro q
   rw[q,hoc] at e
   have q':oc=p.2:=Option.some.inj e
   exact d w' (by rw[←q'];exact hocd)
theorem zdL{M:Model}{A:Around}{E:Value->Shared->Prop}{i:Nat}{x:Str}{v:V}{u:Value}{Q:Unit->Shared->Prop}(I:Inv X pins σ H s)(hN:X.N.Nodup)(hi:X.N[i]?=some x)(hx:Loc X.env.scope x)(r:RelV v u)
 (h:∀s',Inv X pins (σ.set i (some v)) H s'->Q () s') (hf:X.fn x=true\/X.env.scope.names.lookup x=some .local:=by first|exact .inl rfl|exact .inr rfl|assumption):wpAny M A (storeName X.env x u) Q E s:=
 zmG I hN hi hx r (λs' I' _=>h s' I') hf
theorem Inv.call'{s':Shared}{ch:List Addr}(I:Inv X pins σ H s)(ho:s'.os=s.os)(u:Un (frs X.stack) ch H H' s.heap s'.heap)(hok:HOk X.prog X.w H' s'.heap)(hg:AllBare s'.gens)
 (hch:∀b∈ch,(b∈X.ex\/X.s₀.heap.objs.size<=b)/\b≠X.env.locals/\(∀x c,X.env.cells.lookup x=some c->c≠b)/\∀p∈X.pn ++pins,p.1≠b):Inv X pins σ H' s':=by
 obtain⟨h',g',d',t',o'⟩:=s'
 have e:o'=s.os:=ho
 subst e
 exact I.call (g':=g') (t':=t') (d':=d') u hok hg hch
end
noncomputable abbrev XK:=Value->Option Addr->Hp->Prop
noncomputable abbrev St:=List (Option V)
noncomputable abbrev VK:=V->Hp->Prop
noncomputable abbrev TE:=St->Hp->VK->Prop
noncomputable abbrev TT:=St->Hp->(Bool->Hp->Prop)->Prop
noncomputable abbrev TA:=St->Hp->(List V->Hp->Prop)->Prop
structure Ends where
 nx:St->Hp->Prop
 rt:VK
 bk:St->Hp->Prop:=λ_ _=>False
 ct:St->Hp->Prop:=λ_ _=>False
noncomputable abbrev TS:=Ends->St->Hp->Prop
def EP(X:Cx)(pins:List (Addr×Obj))(σ:St)(Q:VK)(u:Value)(s':Shared):Prop:=∃v H',Inv X pins σ H' s'/\RelV v u/\Q v H'
def TP(X:Cx)(pins:List (Addr×Obj))(σ:St)(Q:Bool->Hp->Prop)(b:Bool)(s':Shared):Prop:=∃H',Inv X pins σ H' s'/\Q b H'
def AP(X:Cx)(pins:List (Addr×Obj))(σ:St)(Q:List V->Hp->Prop)(us:List Value)(s':Shared):Prop:=∃vs H',Inv X pins σ H' s'/\Vals vs us/\Q vs H'
def SP(X:Cx)(pins:List (Addr×Obj))(D:Ends)(f:Flow)(s':Shared):Prop:=
 match f with
 | .next=>∃σ' H',Inv X pins σ' H' s'/\D.nx σ' H'
 | .brk=>∃σ' H',Inv X pins σ' H' s'/\D.bk σ' H'
 | .cont=>∃σ' H',Inv X pins σ' H' s'/\D.ct σ' H'
 | .ret u=>∃v σ' H',Inv X pins σ' H' s'/\RelV v u/\D.rt v H'
def PE(X:Cx)(e:Expr)(t:TE):Prop:=
 ∀(pins:List (Addr×Obj)) (s:Shared) (σ:St) (H:Hp) (Q:VK),Inv X pins σ H s->t σ H Q->wpAny (model X.prog X.w) X.A (eval e X.env) (EP X pins σ Q) X.xe s
def PT(X:Cx)(e:Expr)(t:TT):Prop:=
 ∀(pins:List (Addr×Obj)) (s:Shared) (σ:St) (H:Hp) (Q:Bool->Hp->Prop),Inv X pins σ H s->t σ H Q->wpAny (model X.prog X.w) X.A (isTrue e X.env (eval e X.env)) (TP X pins σ Q) X.xe s
def PW(X:Cx)(e:Expr)(t:TT):Prop:=
 ∀(whole:Sem Value) (pins:List (Addr×Obj)) (s:Shared) (σ:St) (H:Hp) (Q:Bool->Hp->Prop),Inv X pins σ H s->t σ H Q->wpAny (model X.prog X.w) X.A (isTrue e X.env whole) (TP X pins σ Q) X.xe s
theorem PW.pt{X:Cx}{e:Expr}{t:TT}(h:PW X e t):PT X e t:=h _
def PA(X:Cx)(es:List Expr)(t:TA):Prop:=
 ∀(pos:Pos) (pins:List (Addr×Obj)) (s:Shared) (σ:St) (H:Hp) (Q:List V->Hp->Prop),Inv X pins σ H s->t σ H Q->wpAny (model X.prog X.w) X.A (spliced (backTo pos (starEach es X.env))) (AP X pins σ Q) X.xe s
def PS(X:Cx)(st:Stmt)(t:TS):Prop:=
 ∀(pins:List (Addr×Obj)) (s:Shared) (σ:St) (H:Hp) (D:Ends),Inv X pins σ H s->t D σ H->wpAny (model X.prog X.w) X.A (exec st X.env) (SP X pins D) X.xe s
def PSs(X:Cx)(st:List Stmt)(t:TS):Prop:=
 ∀(pins:List (Addr×Obj)) (s:Shared) (σ:St) (H:Hp) (D:Ends),Inv X pins σ H s->t D σ H->wpAny (model X.prog X.w) X.A (execs st X.env) (SP X pins D) X.xe s
theorem thn{α:Type}{t:Sem α}{Q Q':α->Shared->Prop}{M:Model}{A:Around}{E:Value->Shared->Prop}{s:Shared}(h:wpAny M A t Q E s)(hQ:∀a s,Q a s->Q' a s):wpAny M A t Q' E s:=wpAny_mono h hQ λ_ _ x=>x
section
variable{X:Cx}
theorem bin{a b:Expr}{ta tb:TE}(ha:PE X a ta)(hb:PE X b tb){pins:List (Addr×Obj)}{s:Shared}{σ:St}{H:Hp}{R:V->V->Hp->Prop}(I:Inv X pins σ H s)(h:ta σ H λx H1=>tb σ H1 λy H2=>R x y H2)
 {α:Type} {Q:α->Shared->Prop} {f:Value->Value->Sem α}
 (hf:∀v u s2 x y H2,Inv X pins σ H2 s2->RelV x v->RelV y u->R x y H2->wpAny (model X.prog X.w) X.A (f v u) Q X.xe s2):
 wpAny (model X.prog X.w) X.A (eval a X.env) (λv s₁=>wpAny (model X.prog X.w) X.A (eval b X.env) (λu s₂=>wpAny (model X.prog X.w) X.A (f v u) Q X.xe s₂) X.xe s₁) X.xe s:=by
 refine thn (ha pins s σ H _ I h) λv s1 ⟨x,H1,I1,r1,q1⟩=>?_
 refine thn (hb pins s1 σ H1 _ I1 q1) λu s2 ⟨y,H2,I2,r2,q2⟩=>?_
 exact hf v u s2 x y H2 I2 r1 r2 q2
noncomputable def zc7(i:Nat):TE:=λσ H Q=>∃v,σ[i]?=some (some v)/\Q v H
noncomputable def tC(v:V):TE:=λ_ H Q=>Q v H
theorem zng{i:Nat}{x:Str}{pos:Pos}(hN:X.N[i]?=some x)(hv:Vis X.env.scope x)(hd:(x==("__debug__":Str))=false:=by decide)(hcd:(x==("__classdict__":Str))=false:=by decide):PE X (.Name x pos) (zc7 i):=by
 intro pins s σ H Q I h
 obtain⟨v,e,h⟩:=h
 obtain⟨m,hn,hl⟩:=I.loc
 obtain⟨u,r,l⟩:=hl i x v hN e hv
 have fin:EP X pins σ Q u s:=⟨v,H,I,r,h⟩
 rcases l with⟨hk,hm⟩|⟨hk,c,hc,hcell⟩
 ·exact wpAny_Name (wpAny_loadName_local I.ok.kind hk hn hm fin) hd
 ·rcases hk with hk|hk
  ·exact wpAny_Name (wpAny_loadName_cell I.ok.kind hk hc hcell fin) hd
  ·exact wpAny_Name (wpAny_loadName_free I.ok.kind hk hc hcell fin hcd) hd
theorem zmO{i j pos}:PE X (.Constant (.int i) j pos) (tC (.int i)):=λ_ _ _ H _ I h=>wpAny_Constant_int ⟨.int i,H,I.tok _,⟨_,rfl⟩,h⟩
theorem zqp{b j pos}:PE X (.Constant (.bool b) j pos) (tC (.bl b)):=λ_ _ _ H _ I h=>Constant_bool ⟨.bl b,H,I,rfl,h⟩
theorem znJ{j pos}:PE X (.Constant .none j pos) (tC .non):=λ_ _ _ H _ I h=>Constant_none ⟨.non,H,I,rfl,h⟩
theorem znl{x j pos}:PE X (.Constant (.str x) j pos) (tC (.str x)):=λ_ _ _ H _ I h=>Calls.Constant_str ⟨.str x,H,I.tok _,⟨_,rfl⟩,h⟩
def Gl(X:Cx)(x:Str):Prop:=X.env.kindOf x=some .globalImplicit
theorem zk6{E:Value->Shared->Prop}{pins:List (Addr×Obj)}{s:Shared}{σ:St}{H:Hp}{x:Str}{u:Value}{pos:Pos}{Q:Value->Shared->Prop}(I:Inv X pins σ H s)(hg:Gl X x)(hm:X.mg x=some u)(h:Q u s)
 (hd:(x==("__debug__":Str))=false:=by decide):wpAny (model X.prog X.w) X.A (eval (.Name x pos) X.env) Q E s:=
 Calls.Name_function_global I.ok.kind hg (Calls.loadGlobal_global (by rw[I.ok.glob];exact I.mod.glob.keeps I.bk) hm h) hd
theorem zdT{E:Value->Shared->Prop}{pins:List (Addr×Obj)}{s:Shared}{σ:St}{H:Hp}{x:Str}{u:Value}{pos:Pos}{Q:Value->Shared->Prop}(I:Inv X pins σ H s)(hg:Gl X x)(hm:X.mg x=none)(hv:bootBuiltins x=some u)(h:Q u s)
 (hn:x≠"__name__":=by decide) (hd:(x==("__debug__":Str))=false:=by decide):wpAny (model X.prog X.w) X.A (eval (.Name x pos) X.env) Q E s:=by
 obtain⟨mb,h1,h2⟩:=I.mod.blt
 exact Calls.Name_function_global I.ok.kind hg (Calls.loadGlobal_builtin (by rw[I.ok.glob];exact I.mod.glob.keeps I.bk) hm (by rw[I.ok.blt];exact h1.keeps I.bk) ((h2 x hn).trans hv) h) hd
theorem zpi{x:Str}{v:V}{u:Value}{pos:Pos}(hg:Gl X x)(hm:X.mg x=some u)(r:RelV v u)(hd:(x==("__debug__":Str))=false:=by decide):PE X (.Name x pos) (tC v):=
 λ_ _ _ H _ I h=>zk6 I hg hm ⟨v,H,I,r,h⟩ hd
theorem zpW{x:Str}{v:V}{u:Value}{pos:Pos}(hg:Gl X x)(hm:X.mg x=none)(hv:bootBuiltins x=some u)(r:RelV v u)(hn:x≠"__name__":=by decide)(hd:(x==("__debug__":Str))=false:=by decide):PE X (.Name x pos) (tC v):=
 λ_ _ _ H _ I h=>zdT I hg hm hv ⟨v,H,I,r,h⟩ hn hd
variable{a b:Expr}{ta tb:TE}{pos:Pos}
def PC(X:Cx)(op:CmpOp)(a b:Expr)(t:TE):Prop:=
 ∀(pins:List (Addr×Obj)) (s:Shared) (σ:St) (H:Hp) (Q:VK),Inv X pins σ H s->t σ H Q->
  wpAny (model X.prog X.w) X.A (eval a X.env) (λv s₁=>wpAny (model X.prog X.w) X.A (eval b X.env) (λu s₂=>wpAny (model X.prog X.w) X.A (compareOp op v u) (EP X pins σ Q) X.xe s₂) X.xe s₁) X.xe s
noncomputable def tB(t:TE):TT:=λσ H Q=>t σ H λx H1=>∃c,x= .bl c/\Q c H1
theorem pt_cmp{op:CmpOp}{t:TE}(h:PC X op a b t)(h1:behindInMarks op b=false:=by first|exact nobehind _ (by decide) (by decide)|rfl):PT X (.Compare a [op] [b] pos) (tB t):=by
 intro pins s σ H Q I hw
 refine wpAny_isTrue_Compare1 (thn (h pins s σ H _ I hw) λv s1 h1=>thn h1 λu s2 h2=>thn h2 λc s3 ⟨x,H1,I1,r1,q1⟩=>?_) h1
 obtain⟨d,rfl,q⟩:=q1
 cases r1
 exact wpAny_truthy_bool ⟨H1,I1,q⟩
theorem zrr{e:Expr}{t:TE}(h:PE X e t)(he:∀whole,isTrue e X.env whole=(do let v ←whole;standAt e.pos;holding [v] (truthy v)):=by intro _;rfl):PT X e (tB t):=by
 intro pins s σ H Q I hw
 refine isTrue_plain (thn (h pins s σ H _ I hw) λv s1 ⟨x,H1,I1,r1,q1⟩=>?_) (he _)
 obtain⟨d,rfl,q⟩:=q1
 cases r1
 exact wpAny_truthy_bool ⟨H1,I1,q⟩
variable{tA tB':TT}{rest:List Expr}
noncomputable def zrc(t u:TT):TT:=λσ H Q=>t σ H λc H1=>if c=true then u σ H1 Q else Q false H1
noncomputable def tOr(t u:TT):TT:=λσ H Q=>t σ H λc H1=>if c=true then Q true H1 else u σ H1 Q
noncomputable def zqS(t:TT):TT:=λσ H Q=>t σ H λc H1=>Q (!c) H1
theorem zo6(ha:PT X a tA):PW X (.BoolOp .And [a] pos) tA:=by
 intro wh pins s σ H Q I h
 refine isTrue_and (thn (ha pins s σ H Q I h) λc s1 e=>?_)
 cases c with
 |true=>exact isTrue_and_nil e
 |false=>exact e
theorem zq4(ha:PT X a tA):PW X (.BoolOp .Or [a] pos) tA:=by
 intro wh pins s σ H Q I h
 refine isTrue_or (thn (ha pins s σ H Q I h) λc s1 e=>?_)
 cases c with
 |false=>exact isTrue_or_nil e
 |true=>exact e
theorem zqP(ha:PT X a tA)(hb:PW X (.BoolOp .And (b::rest) pos) tB'):PW X (.BoolOp .And (a::b::rest) pos) (zrc tA tB'):=by
 intro wh pins s σ H Q I h
 refine isTrue_and (thn (ha pins s σ H _ I h) λc s1 ⟨H1,I1,q1⟩=>?_)
 cases c with
 |true=>exact hb wh pins s1 σ H1 Q I1 q1
 |false=>exact ⟨H1,I1,q1⟩
theorem zrY(ha:PT X a tA)(hb:PW X (.BoolOp .Or (b::rest) pos) tB'):PW X (.BoolOp .Or (a::b::rest) pos) (tOr tA tB'):=by
 intro wh pins s σ H Q I h
 refine isTrue_or (thn (ha pins s σ H _ I h) λc s1 ⟨H1,I1,q1⟩=>?_)
 cases c with
 |true=>exact ⟨H1,I1,q1⟩
 |false=>exact hb wh pins s1 σ H1 Q I1 q1
theorem zrf(ha:PT X a tA):PT X (.UnaryOp .Not a pos) (zqS tA):=by
 intro pins s σ H Q I h
 exact isTrue_not (ha pins s σ H (λc H1=>Q (!c) H1) I h)
noncomputable def zp1(ta tb:TE):TE:=λσ H Q=>ta σ H λx H1=>∃c,x= .bl c/\if c=true then tb σ H1 Q else Q (.bl false) H1
noncomputable def zsg(ta tb:TE):TE:=λσ H Q=>ta σ H λx H1=>∃c,x= .bl c/\if c=true then Q (.bl true) H1 else tb σ H1 Q
noncomputable def zqr(ta:TE):TE:=λσ H Q=>ta σ H λx H1=>∃c,x= .bl c/\Q (.bl (!c)) H1
theorem zqZ{op}{t:TE}(h:PE X a t):PE X (.BoolOp op [a] pos) t:=λpins s σ H Q I hw=>BoolOp_one (h pins s σ H Q I hw)
theorem zqW(ha:PE X a ta)(hb:PE X (.BoolOp .And (b::rest) pos) tb):PE X (.BoolOp .And (a::b::rest) pos) (zp1 ta tb):=by
 intro pins s σ H Q I h
 refine BoolOp_and (thn (ha pins s σ H _ I h) λv s1 ⟨x,H1,I1,r1,q1⟩=>?_)
 obtain⟨c,rfl,q1⟩:=q1
 cases r1
 refine wpAny_truthy_bool ?_
 cases c with
 |true=>exact hb pins s1 σ H1 Q I1 q1
 |false=>exact ⟨.bl false,H1,I1,rfl,q1⟩
theorem zrN(ha:PE X a ta)(hb:PE X (.BoolOp .Or (b::rest) pos) tb):PE X (.BoolOp .Or (a::b::rest) pos) (zsg ta tb):=by
 intro pins s σ H Q I h
 refine BoolOp_or (thn (ha pins s σ H _ I h) λv s1 ⟨x,H1,I1,r1,q1⟩=>?_)
 obtain⟨c,rfl,q1⟩:=q1
 cases r1
 refine wpAny_truthy_bool ?_
 cases c with
 |false=>exact hb pins s1 σ H1 Q I1 q1
 |true=>exact ⟨.bl true,H1,I1,rfl,q1⟩
theorem zq6(ha:PE X a ta):PE X (.UnaryOp .Not a pos) (zqr ta):=by
 intro pins s σ H Q I h
 refine UnaryOp_ (thn (ha pins s σ H _ I h) λv s1 ⟨x,H1,I1,r1,q1⟩=>?_)
 obtain⟨c,rfl,q1⟩:=q1
 cases r1
 exact not_of (wpAny_truthy_bool ⟨.bl (!c),H1,I1,rfl,q1⟩)
noncomputable def tIf(t:TT)(ta tb:TE):TE:=λσ H Q=>t σ H λc H1=>if c=true then ta σ H1 Q else tb σ H1 Q
theorem zot{c:Expr}(hc:PT X c tA)(ha:PE X a ta)(hb:PE X b tb):PE X (.IfExp c a b pos) (tIf tA ta tb):=by
 intro pins s σ H Q I h
 refine wpAny_IfExp (thn (hc pins s σ H _ I h) λd s1 ⟨H1,I1,q1⟩=>?_)
 cases d with
 |true=>exact ha pins s1 σ H1 Q I1 q1
 |false=>exact hb pins s1 σ H1 Q I1 q1
end
def SqL(K:PySem.W.Frag)(H:Hp)(a:Addr)(xs:List V):Prop:=
 Rd H a (.lst xs)\/
  ∃(o:Obj) (its:Array Value) (n:Nat),K.lookup a=some o/\o.cls= .type "list"/\o.dict=none/\o.data= .seq its n/\its.size<=sizeLine/\Vals xs its.toList
def SqT(K:PySem.W.Frag)(H:Hp)(a:Addr)(xs:List V):Prop:=
 Rd H a (.tup xs)\/
  ∃(o:Obj) (its:Array Value) (n:Nat),K.lookup a=some o/\o.cls= .type "tuple"/\o.data= .seq its n/\its.size<=sizeLine/\Vals xs its.toList
noncomputable def zsA:Value->Option V
 | .none=>some .non
 | .bool b=>some (.bl b)
 | .int i _=>some (.int i)
 | .str x _=>some (.str x)
 | .bytes b _=>some (.byt b)
 | .float b _=>some (.flt b)
 | .ref a=>some (.ref a)
 | .type n=>some (.ty n)
 |_=>none
theorem RelV.abs{x:V}{u:Value}(r:RelV x u):zsA u=some x:=by
 cases x with
 |non=>cases r;rfl
 |bl _=>cases r;rfl
 |int _=>obtain ⟨t,rfl⟩:=r;rfl
 |str _=>obtain ⟨t,rfl⟩:=r;rfl
 |byt _=>obtain ⟨t,rfl⟩:=r;rfl
 |flt _=>obtain ⟨t,rfl⟩:=r;rfl
 |ref _=>cases r;rfl
 |ty _=>cases r;rfl
theorem RelV.inj{x y:V}{u:Value}(r:RelV x u)(q:RelV y u):x=y:=Option.some.inj (r.abs.symm.trans q.abs)
theorem Vals.inj:∀{xs ys:List V} {us:List Value},Vals xs us->Vals ys us->xs=ys
 |_,_,_, .nil, .nil=>rfl
 |_,_,_, .cons r t, .cons r' t'=>by rw[r.inj r',Vals.inj t t']
section
variable{X:Cx}{pins:List (Addr×Obj)}{σ:St}{H:Hp}{s:Shared}{a:Addr}{xs ys:List V}
theorem SqL.of{K:PySem.W.Frag}(h:H a=some (.lst xs)):SqL K H a xs:= .inl (.inl h)
theorem SqT.of{K:PySem.W.Frag}(h:H a=some (.tup xs)):SqT K H a xs:= .inl (.inl h)
theorem Inv.list(I:Inv X pins σ H s)(h:SqL X.K H a xs):∃its:List Value,Vals xs its/\PlainL s.heap a its.toArray/\xs.length<=sizeLine:=by
 rcases h with h|⟨o,its,n,hk,hc,hd,hs,hz,r⟩
 ·obtain ⟨z,its,n,r,e⟩:=h.ok I.hok
  exact⟨its,r,⟨_,n,e,rfl,rfl,rfl⟩,z⟩
 ·refine ⟨its.toList,r,⟨o,n,I.kIn a o hk,hc,hd,by simpa using hs⟩,?_⟩
  have e:=r.length
  simp only[Array.length_toList] at e
  omega
theorem Inv.tuple(I:Inv X pins σ H s)(h:SqT X.K H a xs):∃its:List Value,Vals xs its/\IsTup s.heap a its.toArray/\xs.length<=sizeLine:=by
 rcases h with h|⟨o,its,n,hk,hc,hs,hz,r⟩
 ·obtain ⟨z,its,r,p,_⟩:=h.ok I.hok
  exact⟨its,r,p,z⟩
 ·refine ⟨its.toList,r,⟨o,I.kIn a o hk,hc,n,by simpa using hs⟩,?_⟩
  have e:=r.length
  simp only[Array.length_toList] at e
  omega
theorem Inv.list_inj(I:Inv X pins σ H s)(h:SqL X.K H a xs)(h':SqL X.K H a ys):xs=ys:=by
 obtain⟨its,r,⟨o,n,e,_,_,d⟩,_⟩:=I.list h
 obtain⟨its',r',⟨o',n',e',_,_,d'⟩,_⟩:=I.list h'
 rw[e] at e';cases e'
 rw[d] at d'
 injection d' with d1 _
 have:its=its':=by simpa using congrArg Array.toList d1
 subst this
 exact r.inj r'
theorem Inv.tuple_inj(I:Inv X pins σ H s)(h:SqT X.K H a xs)(h':SqT X.K H a ys):xs=ys:=by
 obtain⟨its,r,⟨o,e,_,n,d⟩,_⟩:=I.tuple h
 obtain⟨its',r',⟨o',e',_,n',d'⟩,_⟩:=I.tuple h'
 rw[e] at e';cases e'
 rw[d] at d'
 injection d' with d1 _
 have:its=its':=by simpa using congrArg Array.toList d1
 subst this
 exact r.inj r'
end
abbrev Cx.wish(X:Cx)(E:Value->Shared->Prop):Cx:={X with xe:=E}
noncomputable abbrev Cx.nox(X:Cx):Cx:=X.wish λ_ _=>False
theorem Cx.Ok.wish{X:Cx}(ok:X.Ok)(E:Value->Shared->Prop):(X.wish E).Ok:=
 ⟨ok.mod,ok.kind,ok.glob,ok.blt,ok.above,ok.inj,ok.has,ok.cab,ok.hd,ok.frames,ok.stk,ok.exf,ok.bs,ok.bsz,ok.noex,ok.exfs,ok.funs,ok.frf⟩
theorem Cx.Ok.unwish{X:Cx}{E:Value->Shared->Prop}(ok:(X.wish E).Ok):X.Ok:=
 ⟨ok.mod,ok.kind,ok.glob,ok.blt,ok.above,ok.inj,ok.has,ok.cab,ok.hd,ok.frames,ok.stk,ok.exf,ok.bs,ok.bsz,ok.noex,ok.exfs,ok.funs,ok.frf⟩
section
variable{X:Cx}{pins:List (Addr×Obj)}{σ:St}{H:Hp}{s:Shared}{E:Value->Shared->Prop}
theorem Inv.wish(I:Inv X pins σ H s)(E:Value->Shared->Prop):Inv (X.wish E) pins σ H s:=⟨I.ok.wish E,I.os,I.bare,I.base,I.loc,I.cell,I.free,I.freeC,I.pin,I.hok,I.len⟩
theorem Inv.unwish(I:Inv (X.wish E) pins σ H s):Inv X pins σ H s:=⟨I.ok.unwish,I.os,I.bare,I.base,I.loc,I.cell,I.free,I.freeC,I.pin,I.hok,I.len⟩
theorem SP.unwish{D:Ends}{f:Flow}{s':Shared}(h:SP (X.wish E) pins D f s'):SP X pins D f s':=by
 cases f with
 |next=>obtain ⟨σ',H',I,q⟩:=h;exact⟨σ',H',I.unwish,q⟩
 |brk=>obtain ⟨σ',H',I,q⟩:=h;exact⟨σ',H',I.unwish,q⟩
 |cont=>obtain ⟨σ',H',I,q⟩:=h;exact⟨σ',H',I.unwish,q⟩
 |ret u=>obtain ⟨v,σ',H',I,r,q⟩:=h;exact⟨v,σ',H',I.unwish,r,q⟩
theorem PSs.nox{st:List Stmt}{t:TS}(h:PSs X.nox st t):PSs X st t:=λpins s σ H D I hw=>
 wpAny_mono (h pins s σ H D (I.wish _) hw) (λ_ _ q=>q.unwish) λ_ _ z=>False.elim z
end
section
variable{X:Cx}{st:Stmt}{rest:List Stmt}{t u:TS}{e:Expr}{te:TE}{pos:Pos}
noncomputable def zp3:TS:=λD σ H=>D.nx σ H
noncomputable def zh2(t u:TS):TS:=λD σ H=>t {D with nx:=u D} σ H
theorem zpf:PSs X [] zp3:=λ_ _ σ H _ I h=>wpAny_execs_nil ⟨σ,H,I,h⟩
theorem ziP(h1:PS X st t)(h2:PSs X rest u):PSs X (st::rest) (zh2 t u):=by
 intro pins s σ H D I h
 refine wpAny_execs_cons (thn (h1 pins s σ H {D with nx:=u D} I h) λf s1 q=>?_)
 cases f with
 |next=>
  obtain⟨σ',H',I',q⟩:=q
  exact h2 pins s1 σ' H' D I' q
 |ret v=>exact q
 |brk=>exact q
 |cont=>exact q
theorem zo7(h1:PS X st t):PSs X [st] t:=by
 intro pins s σ H D I h
 refine wpAny_execs_cons (thn (h1 pins s σ H D I h) λf s1 q=>?_)
 cases f with
 |next=>exact wpAny_execs_nil q
 |ret v=>exact q
 |brk=>exact q
 |cont=>exact q
noncomputable def zqb:TS:=λD σ H=>D.ct σ H
theorem zjv:PS X (.Continue pos) zqb:=λ_ _ σ H _ I h=>wpAny_Continue ⟨σ,H,I,h⟩
theorem Inv.quiet{pins:List (Addr×Obj)}{σ:St}{H:Hp}{s:Shared}(I:Inv X pins σ H s):interactive X.env=false:=by simp[interactive,I.ok.kind]
noncomputable def zqf(te:TE):TS:=λD σ H=>te σ H λ_ H1=>D.nx σ H1
theorem zpQ(he:PE X e te)(hs:swapsWith e none pos.line X.env=pure false:=by rfl):PS X (.Expr e pos) (zqf te):=by
 intro pins s σ H D I h
 exact wpAny_Expr_any (thn (he pins s σ H _ I h) λv s1 ⟨x,H1,I1,r1,q1⟩=>⟨σ,H1,I1,q1⟩) I.quiet hs
noncomputable def zrd(te:TE):TS:=λD σ H=>te σ H D.rt
theorem zrh(he:PE X e te):PS X (.Return (some e) pos) (zrd te):=by
 intro pins s σ H D I h
 exact wpAny_Return_some (thn (he pins s σ H _ I h) λv s1 ⟨x,H1,I1,r1,q1⟩=>⟨x,σ,H1,I1,r1,q1⟩)
noncomputable def zrn(c:TT)(t u:TS):TS:=λD σ H=>c σ H λb H1=>if b=true then t D σ H1 else u D σ H1
theorem zrD{c:Expr}{a b:List Stmt}{tc:TT}(hc:PT X c tc)(ha:PSs X a t)(hb:PSs X b u):PS X (.If c a b pos) (zrn tc t u):=by
 intro pins s σ H D I h
 refine wpAny_If (thn (hc pins s σ H _ I h) λd s1 ⟨H1,I1,q1⟩=>?_)
 cases d with
 |true=>exact ha pins s1 σ H1 D I1 q1
 |false=>exact hb pins s1 σ H1 D I1 q1
end
noncomputable abbrev TG:=V->St->Hp->(St->Hp->Prop)->Prop
noncomputable abbrev TGs:=List V->St->Hp->(St->Hp->Prop)->Prop
def PG(X:Cx)(target:Expr)(t:TG):Prop:=
 ∀(pins:List (Addr×Obj)) (s:Shared) (σ:St) (H:Hp) (v:V) (u:Value) (Q:St->Hp->Prop),Inv X pins σ H s->RelV v u->t v σ H Q->
  wpAny (model X.prog X.w) X.A (assign target X.env u) (λ_ s'=>∃σ' H',Inv X pins σ' H' s'/\Q σ' H') X.xe s
def PGs(X:Cx)(ts:List Expr)(t:TGs):Prop:=
 ∀(pins:List (Addr×Obj)) (s:Shared) (σ:St) (H:Hp) (vs:List V) (us:List Value) (Q:St->Hp->Prop),Inv X pins σ H s->Vals vs us->t vs σ H Q->
  wpAny (model X.prog X.w) X.A (assignInOrder ((assignEach ts X.env).map (·.2)) us) (λ_ s'=>∃σ' H',Inv X pins σ' H' s'/\Q σ' H') X.xe s
noncomputable abbrev zo3:=V->V->V->Hp->(Hp->Prop)->Prop
def zq3(X:Cx)(t:zo3):Prop:=
 ∀(pins:List (Addr×Obj)) (s:Shared) (σ:St) (H:Hp) (o i v:V) (ov iv u:Value) (Q:Hp->Prop),Inv X pins σ H s->RelV o ov->RelV i iv->RelV v u->t o i v H Q->
  wpAny (model X.prog X.w) X.A (setItem ov iv u) (λ_ s'=>∃H',Inv X pins σ H' s'/\Q H') X.xe s
section
variable{X:Cx}{pos:Pos}
noncomputable def zaM(i:Nat):TG:=λv σ H Q=>Q (σ.set i (some v)) H
theorem zlJ{i:Nat}{x:Str}(hN:X.N.Nodup)(hi:X.N[i]?=some x)(hx:Loc X.env.scope x)(hf:X.fn x=true\/X.env.scope.names.lookup x=some .local:=by first|exact .inl rfl|exact .inr rfl|assumption):PG X (.Name x pos) (zaM i):=by
 intro pins s σ H v u Q I r h
 exact wpAny_assign_Name (zdL I hN hi hx r (λs' I'=>⟨_,H,I',h⟩) hf)
noncomputable def zrB:TGs:=λvs σ H Q=>vs=[]/\Q σ H
noncomputable def zpY(t:TG)(u:TGs):TGs:=λvs σ H Q=>∃v r,vs=v::r/\t v σ H λσ' H'=>u r σ' H' Q
theorem zpr:PGs X [] zrB:=by
 intro pins s σ H vs us Q I r h
 obtain⟨e,h⟩:=h
 subst e
 cases r
 exact assignInOrder_nil ⟨σ,H,I,h⟩
theorem znk{e:Expr}{es:List Expr}{t:TG}{u:TGs}(h1:PG X e t)(h2:PGs X es u)
 (hs:(assignEach (e::es) X.env).map (·.2)=assign e X.env::(assignEach es X.env).map (·.2):=by rfl):PGs X (e::es) (zpY t u):=by
 intro pins s σ H vs us Q I r h
 obtain⟨v,vr,e1,h⟩:=h
 subst e1
 cases r with
 |cons r rr=>
  rw[hs]
  refine assignInOrder_cons (thn (h1 pins s σ H _ _ _ I r h) λ_ s1 ⟨σ1,H1,I1,q1⟩=>?_)
  exact h2 pins s1 σ1 H1 _ _ Q I1 rr q1
noncomputable def zqD(K:PySem.W.Frag)(n:Nat)(t:TGs):TG:=λv σ H Q=>∃a xs,v= .ref a/\SqT K H a xs/\xs.length=n/\t xs σ H Q
theorem zq9{es:List Expr}{k:Nat}{t:TGs}{n:Nat}(hc:X.calm=true)(h:PGs X es t)
 (hn:(assignEach es X.env).length=n:=by rfl) (hst:(assignEach es X.env).findIdx? (·.1)=none:=by rfl):PG X (.Tuple es k pos) (zqD X.K n t):=by
 intro pins s σ H v u Q I r hw
 obtain⟨a,xs,e1,hq,hl,hw⟩:=hw
 subst e1
 cases r
 obtain⟨its,rv,ht,hz⟩:=I.tuple hq
 refine assign_Tuple_tuple (I.ok.hd hc) ht (by simp[hn,←hl,rv.length]) hst λh' hx=>?_
 have I1:Inv X pins σ H {s with heap:=h'}:=I.kept (t':=s.toks) λb o e=>hx b o (Nat.ne_of_lt (Heap.lt_size e)) e
 exact h pins _ σ H xs _ Q I1 (by simpa using rv) hw
noncomputable def zrG(to ti:TE)(t:zo3):TG:=λv σ H Q=>to σ H λo H1=>ti σ H1 λi H2=>t o i v H2 λH3=>Q σ H3
theorem zq2{o i:Expr}{to ti:TE}{t:zo3}(ho:PE X o to)(hi:PE X i ti)(hs:zq3 X t)
 (ha:∀v,assign (.Subscript o i pos) X.env v=(do
   let ov ←holding [v] (eval o X.env)
   let iv ←holding [v,ov] (eval i X.env)
   standAt pos
   holding [v,ov,iv] (setItem ov iv v)
   release [v,ov,iv] []):=by intro _;rfl):PG X (.Subscript o i pos) (zrG to ti t):=by
 intro pins s σ H v u Q I r h
 rw[ha]
 refine wpAny_bind (wpAny_holding (thn (ho pins s σ H _ I h) λov s1 ⟨x,H1,I1,r1,q1⟩=>?_))
 refine wpAny_bind (wpAny_holding (thn (hi pins s1 σ H1 _ I1 q1) λiv s2 ⟨y,H2,I2,r2,q2⟩=>?_))
 refine wpAny_bind (wpAny_standAt (wpAny_bind (wpAny_holding (thn (hs pins s2 σ H2 x y v ov iv u _ I2 r1 r2 r q2) λ_ s3 ⟨H3,I3,q3⟩=>?_))))
 exact wpAny_release ⟨σ,H3,I3,q3⟩
noncomputable def zg6(te:TE)(g:TG):TS:=λD σ H=>te σ H λx H1=>g x σ H1 D.nx
theorem zry{tg e:Expr}{te:TE}{g:TG}(he:PE X e te)(hg:PG X tg g)(hs:swapsWithSole [tg] e pos.line X.env=pure false:=by rfl)(hw:swappedStores [tg] e X.env=pure none:=by rfl)
 (h1:(assignEach [tg] X.env).map (·.2)=[assign tg X.env]:=by rfl):PS X (.Assign [tg] e pos) (zg6 te g):=by
 intro pins s σ H D I h
 refine wpAny_Assign_stores (thn (he pins s σ H _ I h) λv s1 ⟨x,H1,I1,r1,q1⟩=>?_) hs hw
 rw[h1]
 exact thn (hg pins s1 σ H1 x v _ I1 r1 q1) λ_ s2 q=>q
theorem znr{i:Nat}{x:Str}{e:Expr}{te:TE}{pos':Pos}(hN:X.N.Nodup)(hi:X.N[i]?=some x)(hx:Loc X.env.scope x)(he:PE X e te)(hs:swapsWith e (some (.Name x pos')) pos.line X.env=pure false:=by rfl)(hf:X.fn x=true\/X.env.scope.names.lookup x=some .local:=by first|exact .inl rfl|exact .inr rfl|assumption):
 PS X (.Assign [.Name x pos'] e pos) (zg6 te (zaM i)):=by
 intro pins s σ H D I h
 refine wpAny_Assign_Name (thn (he pins s σ H _ I h) λv s1 ⟨y,H1,I1,r1,q1⟩=>?_) hs
 exact zdL I1 hN hi hx r1 (λs2 I2=>⟨_,H1,I2,q1⟩) hf
noncomputable def zsa(i j:Nat)(ta:TA):TS:=λD σ H=>ta σ H λvs H1=>∃v w,vs=[v,w]/\D.nx ((σ.set i (some v)).set j (some w)) H1
theorem zru{i j:Nat}{x y:Str}{a b:Expr}{ta:TA}{px py pt:Pos}{kt k2 pt2}(hc:X.calm=true)(hN:X.N.Nodup)(hi:X.N[i]?=some x)(hj:X.N[j]?=some y)(hij:i≠j)
 (hx:X.env.scope.names.lookup x=some .local) (hy:X.env.scope.names.lookup y=some .local) (ha:PA X [a,b] ta)
 (hw:swappedStores [.Tuple [.Name x px, .Name y py] kt pt] (.Tuple [a,b] k2 pt2) X.env=pure (some [x,y]))
 (hs:swapsWithSole [.Tuple [.Name x px, .Name y py] kt pt] (.Tuple [a,b] k2 pt2) pos.line X.env=pure false:=by rfl):
 PS X (.Assign [.Tuple [.Name x px, .Name y py] kt pt] (.Tuple [a,b] k2 pt2) pos) (zsa i j ta):=by
 intro pins s σ H D I h
 rw[exec_Assign_arm]
 refine wpAny_bind (wpAny_standAt ?_)
 rw[hs]
 refine wpAny_bind (wpAny_pure ?_)
 rw[if_neg (by decide)]
 refine wpAny_bind (Tuple_ (thn (ha _ pins s σ H _ I h) λus s1 ⟨vs,H1,I1,r1,q1⟩=>?_))
 obtain⟨v,w,e1,q1⟩:=q1
 subst e1
 obtain⟨u1,u2,rfl,rv,rw'⟩:∃u1 u2,us=[u1,u2]/\RelV v u1/\RelV w u2:=by
  cases r1 with
  |cons p q=>
   cases q with
   |cons p' q'=>
    cases q'
    exact⟨_,_,rfl,p,p'⟩
 refine wpAny_newObj_type ?_ (by show 2<=sizeLine;decide)
 have I2:Inv X pins σ H1 {s1 with heap:=s1.heap.push {cls:= .type "tuple",data:= .seq [u1,u2].toArray}}:=I1.kept (t':=s1.toks) λb o e=>Heap.get?_push_of_some _ e
 rw[hw]
 refine wpAny_bind (wpAny_pure ?_)
 show wpAny (model X.prog X.w) X.A (do rule "assign.swapped-stores";let items ←unpackItems (.ref s1.heap.objs.size) 2 none;assignInOrder [λv=>bindName X.env y v,λv=>bindName X.env x v] items.reverse;pure Flow.next) _ _ _
 refine wpAny_bind (wpAny_rule (wpAny_bind (unpackItems_tuple (items:= #[u1,u2]) (I.ok.hd hc) (IsTup.new s1.heap _) λh' hx'=>?_)))
 have I3:=I2.kept (h':=h') (t':=s1.toks) λb o e=>hx' b o (Nat.ne_of_lt (Heap.lt_size e)) e
 show wpAny _ _ (assignInOrder [λv=>bindName X.env y v,λv=>bindName X.env x v] [u2,u1]>>=λ_=>pure Flow.next) _ _ _
 refine wpAny_bind (assignInOrder_cons (wpAny_bindName (zdL I3 hN hj (.inl hy) rw' (λs2 I4=>?_) (.inr hy))))
 refine assignInOrder_cons (wpAny_bindName (zdL I4 hN hi (.inl hx) rv (λs3 I5=>assignInOrder_nil (wpAny_pure ?_)) (.inr hx)))
 rw[List.set_comm _ _ (Ne.symm hij)] at I5
 exact⟨_,H1,I5,q1⟩
end
section
variable{X:Cx}{pos:Pos}
end
structure It where
 go:Nat->Hp->Prop
 yld:Nat->Hp->V->Hp->Prop
 stop:Nat->Hp->Prop
def zeJ(X:Cx)(pins:List (Addr×Obj))(H:Hp)(b:Addr):Prop:=
 H b=none/\b≠X.env.locals/\b∉X.fs/\(b∈X.ex\/X.s₀.heap.objs.size<=b)/\(∀x c,X.env.cells.lookup x=some c->c≠b)/\∀p∈X.pn ++pins,p.1≠b
theorem Inv.fpOk{X:Cx}{pins:List (Addr×Obj)}{σ:St}{H H':Hp}{s:Shared}{b:Addr}(I:Inv X pins σ H s)(hb:s.heap.objs.size<=b)(hn:H' b=none):zeJ X pins H' b:=by
 refine⟨hn,Nat.ne_of_gt (Nat.lt_of_lt_of_le I.lt hb),I.nofs hb, .inr (Nat.le_trans I.sz hb),λx c e z=>?_,λp hp z=>?_⟩
 ·obtain ⟨v,q⟩:=I.cell x c e
  exact absurd (Nat.lt_of_lt_of_le q.lt (by rw[z];exact hb)) (Nat.lt_irrefl _)
 ·exact absurd (Nat.lt_of_lt_of_le (Heap.lt_size (I.pin p hp).1) (by rw[z];exact hb)) (Nat.lt_irrefl _)
structure Turn(P:Program)(w:World)(K:PySem.W.Frag)(tg:Expr)(J:It)(fp:List Addr)(it:Addr)(tn:Nat->Heap->Prop):Prop where
 mem:it∈fp
 obj:∀i h,tn i h->∀b∈fp,∃o,h.get? b=some o/\∀v,o.data≠ .cell v
 keep:∀i h h',tn i h->(∀b∈fp,∀o,h.get? b=some o->h'.get? b=some o)->tn i h'
 item:∀(X:Cx),X.prog=P->X.w=w->X.K=K->X.calm=true->∀(i:Nat) (pins:List (Addr×Obj)) (s:Shared) (σ:St) (H:Hp) (E:Value->Shared->Prop),Inv X pins σ H s->(∀b∈fp,zeJ X pins H b)->tn i s.heap->J.go i H->
  wpAny (model P w) X.A (pyNext (.ref it)) (λr s1=>∃u,r=some u/\
   wpAny (model P w) X.A (letOwnedTupleGo tg (.ref it) u) (λ_ s2=>∃x H',Inv X pins σ H' s2/\RelV x u/\J.yld i H x H'/\tn (i+1) s2.heap/\∀b∈fp,H' b=none) E s1) E s
 done:∀(X:Cx),X.prog=P->X.w=w->X.K=K->X.calm=true->∀(i:Nat) (pins:List (Addr×Obj)) (s:Shared) (σ:St) (H:Hp) (E:Value->Shared->Prop),Inv X pins σ H s->(∀b∈fp,zeJ X pins H b)->tn i s.heap->J.stop i H->
   wpAny (model P w) X.A (pyNext (.ref it)) (λr s1=>r=none/\Inv X pins σ H s1) E s
 self:∀(A:Around) (i:Nat) (s:Shared) (Q:Value->Shared->Prop) (E:Value->Shared->Prop),tn i s.heap->Q (.ref it) s->wpAny (model P w) A (pyIter (.ref it)) Q E s
noncomputable abbrev TI:=St->Hp->(It->Hp->Prop)->Prop
def PIE(X:Cx)(pins:List (Addr×Obj))(σ:St)(tg:Expr)(R:It->Hp->Prop)(itv:Value)(s2:Shared):Prop:=
 ∃(it:Addr) (fp:List Addr) (tn:Nat->Heap->Prop) (J:It) (H':Hp),itv= .ref it/\Inv X pins σ H' s2/\Turn X.prog X.w X.K tg J fp it tn/\tn 0 s2.heap/\(∀b∈fp,zeJ X pins H' b)/\R J H'
def PI(X:Cx)(tg iter:Expr)(wi:TI):Prop:=
 ∀(pins:List (Addr×Obj)) (s:Shared) (σ:St) (H:Hp) (R:It->Hp->Prop),Inv X pins σ H s->wi σ H R->
  wpAny (model X.prog X.w) X.A (eval iter X.env) (λv s1=>wpAny (model X.prog X.w) X.A (pyIter v) (PIE X pins σ tg R) X.xe s1) X.xe s
theorem zhw{M:Model}{A:Around}{E:Value->Shared->Prop}{s:Shared}{tg:Expr}{it:Addr}{u:Value}{o:Obj}{n:String}{vs:Array Value}{Q:Unit->Shared->Prop}(ho:s.heap.get? it=some o)(hc:o.cls= .type n)(hd:o.data= .fields vs)
 (hn:["enumerate","zip","dict_itemiterator","dict_reverseitemiterator","odict_iterator","itertools.zip_longest","itertools.pairwise"].contains n=false) (hQ:Q () s):wpAny M A (letOwnedTupleGo tg (.ref it) u) Q E s:=by
 unfold letOwnedTupleGo
 cases tg<;>first
  |exact wpAny_pure hQ
  |(cases u<;>first
     |exact wpAny_pure hQ
     |(refine wpAny_bind (wpAny_load ho ?_)
       rw[hc,hd]
       show wpAny M A (if(["enumerate","zip","dict_itemiterator","dict_reverseitemiterator","odict_iterator","itertools.zip_longest","itertools.pairwise"].contains n&&vs[0]?==some (rawInt _))=true then _ else _) Q E s
       rw[if_neg (by intro h;rw[hn,Bool.false_and] at h;cases h)]
       exact wpAny_pure hQ))
noncomputable def Itl(K:PySem.W.Frag)(a:Addr):It:=
 ⟨λi H=>∃xs x,SqL K H a xs/\xs[i]?=some x,λi H x H'=>H'=H/\∀xs,SqL K H a xs->xs[i]?=some x,λi H=>∃xs,SqL K H a xs/\xs.length<=i⟩
noncomputable def Itt(K:PySem.W.Frag)(a:Addr):It:=
 ⟨λi H=>∃xs x,SqT K H a xs/\xs[i]?=some x,λi H x H'=>H'=H/\∀xs,SqT K H a xs->xs[i]?=some x,λi H=>∃xs,SqT K H a xs/\xs.length<=i⟩
noncomputable def Itr(lo:Int)(n:Nat):It:=⟨λi _=>i<n,λi H x H'=>H'=H/\x= .int (lo+i),λi _=>n<=i⟩
theorem zl1{P:Program}{w:World}{K:PySem.W.Frag}{tg:Expr}(a it:Addr):Turn P w K tg (Itl K a) [it] it (λi h=>h.IsListIter it a i) where
 mem:=by simp
 obj:=λi h st b hb=>by
  have e:b=it:=by simpa using hb
  subst e
  obtain⟨o,e,c,d⟩:=st
  exact⟨o,e,λv z=>by rw[d] at z;cases z⟩
 keep:=λi h h' st k=>st.at λo e=>k it (by simp) o e
 item:=by
  intro X hP hw hK hc i pins s σ H E I hf st hg
  subst hP hw hK
  obtain⟨xs,x,hq,hx⟩:=hg
  obtain⟨its,rv,p,hz⟩:=I.list hq
  obtain⟨u,hu,ru⟩:=rv.get hx
  obtain⟨f0,f1,f2,f3,f4,f5⟩:=hf it (by simp)
  refine wpAny_pyNext_list_item st p.isList (x:=u) (by simpa using hu) λh' st' sb=>?_
  have I1:Inv X pins σ H {s with heap:=h'}:=I.turned (t':=s.toks) (λb o hb e=>(sb.2 b hb).trans e) f0 f1 f3 f4 f5
  obtain⟨o,e,c,d⟩:=id st'
  exact⟨u,rfl,zhw (s:={s with heap:=h'}) e c d (by decide) ⟨x,H,I1,ru,⟨rfl,λys hy=>by rw[I.list_inj hy hq];exact hx⟩,st',λb hb=>(hf b hb).1⟩⟩
 done:=by
   intro X hP hw hK hc i pins s σ H E I hf st hg
   subst hP hw hK
   obtain⟨xs,hq,hx⟩:=hg
   obtain⟨its,rv,p,hz⟩:=I.list hq
   obtain⟨f0,f1,f2,f3,f4,f5⟩:=hf it (by simp)
   have hl:=rv.length
   exact wpAny_pyNext_list_end (I.ok.hd hc) st p.isList (by simp;omega) λh' eb=>⟨rfl,I.turned (t':=s.toks) (λb o hb e=>eb b o hb e) f0 f1 f3 f4 f5⟩
 self:=λ_ _ _ _ _ st h=>wpAny_pyIter_listiter st h
theorem zkl{P:Program}{w:World}{K:PySem.W.Frag}{tg:Expr}(a it:Addr):Turn P w K tg (Itt K a) [it] it (λi h=>h.IsTupleIter it a i) where
 mem:=by simp
 obj:=λi h st b hb=>by
  have e:b=it:=by simpa using hb
  subst e
  obtain⟨o,e,c,d⟩:=st
  exact⟨o,e,λv z=>by rw[d] at z;cases z⟩
 keep:=λi h h' st k=>st.at λo e=>k it (by simp) o e
 item:=by
  intro X hP hw hK hc i pins s σ H E I hf st hg
  subst hP hw hK
  obtain⟨xs,x,hq,hx⟩:=hg
  obtain⟨its,rv,p,hz⟩:=I.tuple hq
  obtain⟨u,hu,ru⟩:=rv.get hx
  obtain⟨f0,f1,f2,f3,f4,f5⟩:=hf it (by simp)
  refine wpAny_pyNext_tuple_item st (show s.heap.IsTuple a its.toArray from p) (x:=u) (by simpa using hu) λh' st' sb=>?_
  have I1:Inv X pins σ H {s with heap:=h'}:=I.turned (t':=s.toks) (λb o hb e=>(sb.2 b hb).trans e) f0 f1 f3 f4 f5
  obtain⟨o,e,c,d⟩:=id st'
  exact⟨u,rfl,zhw (s:={s with heap:=h'}) e c d (by decide) ⟨x,H,I1,ru,⟨rfl,λys hy=>by rw[I.tuple_inj hy hq];exact hx⟩,st',λb hb=>(hf b hb).1⟩⟩
 done:=by
   intro X hP hw hK hc i pins s σ H E I hf st hg
   subst hP hw hK
   obtain⟨xs,hq,hx⟩:=hg
   obtain⟨its,rv,p,hz⟩:=I.tuple hq
   obtain⟨f0,f1,f2,f3,f4,f5⟩:=hf it (by simp)
   have hl:=rv.length
   exact wpAny_pyNext_tuple_end (I.ok.hd hc) st (show s.heap.IsTuple a its.toArray from p) (by simp;omega) λh' eb=>⟨rfl,I.turned (t':=s.toks) (λb o hb e=>eb b o hb e) f0 f1 f3 f4 f5⟩
 self:=λ_ _ _ _ _ st h=>wpAny_pyIter_tupleiter st h
theorem zkL{P:Program}{w:World}{K:PySem.W.Frag}{tg:Expr}(it:Addr)(lo:Int)(n:Nat):Turn P w K tg (Itr lo n) [it] it (λi h=>IsRangeIter h it (lo+(i:Nat)*1) ((n:Int) -(i:Nat)) 1) where
 mem:=by simp
 obj:=λi h st b hb=>by
  have e:b=it:=by simpa using hb
  subst e
  exact⟨_,st,λv z=>by
   have z':Data.fields _=Data.cell v:=z
   cases z'⟩
 keep:=λi h h' st k=>k it (by simp) _ st
 item:=by
  intro X hP hw hK hc i pins s σ H E I hf st hg
  subst hP hw hK
  obtain⟨f0,f1,f2,f3,f4,f5⟩:=hf it (by simp)
  have W:=Walks.range (prog:=X.prog) (w:=X.w) (I.ok.hd hc) it lo 1 n
  refine W.item i s _ _ hg st λv h' tk hv st' kk=>?_
  obtain⟨t,rfl⟩:=hv
  have I1:Inv X pins σ H {s with heap:=h',toks:=tk}:=I.turned (λb o hb e=>kk b o (by simpa using hb) e) f0 f1 f3 f4 f5
  refine⟨_,rfl,zhw (s:={s with heap:=h',toks:=tk}) (n:="range_iterator") st' rfl rfl (by decide) ⟨.int (lo+i),H,I1,⟨t,?_⟩,⟨rfl,rfl⟩,st',λb hb=>(hf b hb).1⟩⟩
  rw[Int.mul_one]
 done:=by
   intro X hP hw hK hc i pins s σ H E I hf st hg
   subst hP hw hK
   obtain⟨f0,f1,f2,f3,f4,f5⟩:=hf it (by simp)
   exact wpAny_pyNext_range_end (I.ok.hd hc) st (by have:n<=i:=hg;omega) λh' eb=>⟨rfl,I.turned (t':=s.toks) (λb o hb e=>eb b o hb e) f0 f1 f3 f4 f5⟩
 self:=λ_ _ _ _ _ st h=>wpAny_pyIter_rangeiter st h
section
variable{X:Cx}{tg:Expr}
noncomputable def zlz(K:PySem.W.Frag)(tl:TE):TI:=λσ H R=>tl σ H λx H1=>∃a,x= .ref a/\(∃xs,SqL K H1 a xs)/\R (Itl K a) H1
noncomputable def zpv(K:PySem.W.Frag)(tl:TE):TI:=λσ H R=>tl σ H λx H1=>∃a,x= .ref a/\(∃xs,SqT K H1 a xs)/\R (Itt K a) H1
theorem zpw{l:Expr}{tl:TE}(hl:PE X l tl):PI X tg l (zlz X.K tl):=by
 intro pins s σ H R I h
 refine thn (hl pins s σ H _ I h) λv s1 ⟨x,H1,I1,r1,q1⟩=>?_
 obtain⟨a,e,⟨xs,hq⟩,q⟩:=q1
 subst e
 cases r1
 obtain⟨its,rv,p,hz⟩:=I1.list hq
 refine wpAny_pyIter_list p.isList ?_
 refine⟨s1.heap.objs.size,[s1.heap.objs.size],_,_,H1,rfl,I1.kept (t':=s1.toks) λb o e=>Heap.get?_push_of_some _ e,zl1 a _,⟨_,Heap.get?_push_size _ rfl,rfl,rfl⟩,λb hb=>?_,q⟩
 have e:b=s1.heap.objs.size:=by simpa using hb
 subst e
 exact I1.fpOk (Nat.le_refl _) (I1.hok.fresh (Nat.le_refl _))
theorem zqN{l:Expr}{tl:TE}(hl:PE X l tl):PI X tg l (zpv X.K tl):=by
 intro pins s σ H R I h
 refine thn (hl pins s σ H _ I h) λv s1 ⟨x,H1,I1,r1,q1⟩=>?_
 obtain⟨a,e,⟨xs,hq⟩,q⟩:=q1
 subst e
 cases r1
 obtain⟨its,rv,p,hz⟩:=I1.tuple hq
 refine wpAny_pyIter_tuple (show s1.heap.IsTuple a its.toArray from p) ?_
 refine⟨s1.heap.objs.size,[s1.heap.objs.size],_,_,H1,rfl,I1.kept (t':=s1.toks) λb o e=>Heap.get?_push_of_some _ e,zkl a _,⟨_,Heap.get?_push_size _ rfl,rfl,rfl⟩,λb hb=>?_,q⟩
 have e:b=s1.heap.objs.size:=by simpa using hb
 subst e
 exact I1.fpOk (Nat.le_refl _) (I1.hok.fresh (Nat.le_refl _))
theorem zjO{pins:List (Addr×Obj)}{σ:St}{H:Hp}{s:Shared}{R:It->Hp->Prop}{E:Value->Shared->Prop}{lo hi:Int}{t u v:Tok}{tk:Nat}(I:Inv X pins σ H s)(h1: -(2^62)<=lo)(h2:lo<2^62)(h3: -(2^62)<=hi)(h4:hi<2^62)
 (q:R (Itr lo (hi -lo).toNat) H):wpAny (model X.prog X.w) X.A (pyIter (.ref s.heap.objs.size)) (PIE X pins σ tg R) E {s with heap:=s.heap.push {cls:= .type "range",data:= .fields #[.int lo t, .int hi u, .int 1 v]},toks:=tk}:=by
 refine wpAny_pyIter_range (IsRange.new ..) (small_one h1 h2 h3 h4) ?_
 have I1:Inv X pins σ H {s with heap:=s.heap.push {cls:= .type "range",data:= .fields #[.int lo t, .int hi u, .int 1 v]},toks:=tk}:=I.kept λb o e=>Heap.get?_push_of_some _ e
 refine⟨(s.heap.push {cls:= .type "range",data:= .fields #[.int lo t, .int hi u, .int 1 v]}).objs.size,[(s.heap.push {cls:= .type "range",data:= .fields #[.int lo t, .int hi u, .int 1 v]}).objs.size],_,_,H,rfl,
  I1.kept (t':=tk) λb o e=>Heap.get?_push_of_some _ e,zkL _ lo (hi -lo).toNat,?_,λb hb=>?_,q⟩
 ·have e1:lo+((0:Nat):Int)*1=lo:=by simp
  have e2:(((hi -lo).toNat:Nat):Int) -((0:Nat):Int)=Builtin.Range.rangeSize lo hi 1:=by rw[rangeSize_one];split<;>omega
  show IsRangeIter _ _ (lo+((0:Nat):Int)*1) ((((hi -lo).toNat:Nat):Int) -((0:Nat):Int)) 1
  rw[e1,e2]
  exact Heap.get?_push_size _ rfl
 ·have e:b=(s.heap.push {cls:= .type "range",data:= .fields #[.int lo t, .int hi u, .int 1 v]}).objs.size:=by simpa using hb
  subst e
  exact I1.fpOk (Nat.le_refl _) (I1.hok.fresh (Nat.le_refl _))
noncomputable def zqe(ta:TA):TI:=λσ H R=>ta σ H λvs H1=>∃j:Int,vs=[.int j]/\-(2^62)<=j/\j<2^62/\R (Itr 0 j.toNat) H1
noncomputable def zqn(ta:TA):TI:=λσ H R=>ta σ H λvs H1=>∃i j:Int,vs=[.int i, .int j]/\(-(2^62)<=i/\i<2^62/\-(2^62)<=j/\j<2^62)/\R (Itr i (j -i).toNat) H1
theorem zlV{a:Expr}{ta:TA}{p pos:Pos}(hg:Gl X "range")(hm:X.mg "range"=none)(ha:PA X [a] ta)(hs:starEach [a] X.env=[(false,eval a X.env)]:=by rfl):PI X tg (.Call (.Name "range" p) [a] [] pos) (zqe ta):=by
 intro pins s σ H R I h
 refine Call_ (zdT I hg hm boot_range (PyProof.Rows.callWith_type1 (thn (ha pos pins s σ H _ I h) λus s1 ⟨vs,H1,I1,r1,q1⟩=>?_) hs rfl))
 obtain⟨j,e,q1,q2,q⟩:=q1
 subst e
 cases r1 with
 |cons r rr=>
  cases rr
  obtain⟨t,rfl⟩:=r
  exact call_range_1 (zjO I1 (by omega) (by omega) q1 q2 (by simpa using q))
theorem zmD{a b:Expr}{ta:TA}{p pos:Pos}(hg:Gl X "range")(hm:X.mg "range"=none)(ha:PA X [a,b] ta)(hs:starEach [a,b] X.env=[(false,eval a X.env),(false,eval b X.env)]:=by rfl)(hs2:starEach [b] X.env=[(false,eval b X.env)]:=by rfl):
 PI X tg (.Call (.Name "range" p) [a,b] [] pos) (zqn ta):=by
 intro pins s σ H R I h
 refine Call_ (zdT I hg hm boot_range (PyProof.Rows.callWith_type1 (thn (ha pos pins s σ H _ I h) λus s1 ⟨vs,H1,I1,r1,q1⟩=>?_) (by rw[hs,hs2]) (by rw[hs2];rfl)))
 obtain⟨i,j,e,⟨q1,q2,q3,q4⟩,q⟩:=q1
 subst e
 cases r1 with
 |cons r rr=>
  cases rr with
  |cons r' rr=>
   cases rr
   obtain⟨t,rfl⟩:=r
   obtain⟨t',rfl⟩:=r'
   exact call_range_2 (zjO I1 q1 q2 q3 q4 q)
noncomputable def zst(wi:TI)(g:TG)(tb:TS):TS:=λD σ H=>wi σ H λJ H1=>∃W:Nat->Nat->St->Hp->Prop,(∃m,W 0 m σ H1)/\∀i m σ H,W i m σ H->
 (J.stop i H/\D.nx σ H)\/(J.go i H/\∃N:St->Hp->Prop,(∀σ' H',N σ' H'->∃m',m'<m/\W (i+1) m' σ' H')/\∀x H',J.yld i H x H'->g x σ H' λσ2 H2=>tb {D with nx:=N,ct:=N,bk:=D.nx} σ2 H2)
noncomputable def zfw(fp:List Addr)(h:Heap):List (Addr×Obj):=fp.filterMap λb=>(h.get? b).map λo=>(b,o)
theorem zbC{fp:List Addr}{h:Heap}{b:Addr}{o:Obj}(hb:b∈fp)(e:h.get? b=some o):(b,o)∈zfw fp h:=List.mem_filterMap.mpr ⟨b,hb,by rw[e];rfl⟩
theorem zms{fp:List Addr}{h:Heap}{p:Addr×Obj}(hp:p∈zfw fp h):p.1∈fp/\h.get? p.1=some p.2:=by
 obtain⟨b,hb,e⟩:=List.mem_filterMap.mp hp
 cases q:h.get? b with
 |none=>rw[q] at e;cases e
 |some o=>
  rw[q] at e
  have e':(b,o)=p:=Option.some.inj e
  subst e'
  exact⟨hb,q⟩
theorem Inv.pinned{pins:List (Addr×Obj)}{σ:St}{H:Hp}{s:Shared}{fp:List Addr}(I:Inv X pins σ H s)(hf:∀b∈fp,zeJ X pins H b)(ho:∀b∈fp,∃o,s.heap.get? b=some o/\∀v,o.data≠ .cell v):Inv X (pins ++zfw fp s.heap) σ H s:=
 I.pins_of λp hp=>(List.mem_append.mp hp).elim (λz=>I.pin p (List.mem_append_right _ z)) λz=>by
  obtain⟨hb,e⟩:=zms z
  obtain⟨f0,f1,f2,_⟩:=hf p.1 hb
  obtain⟨o,e',d⟩:=ho p.1 hb
  rw[e] at e';cases e'
  exact⟨e,f0,f1,f2,d⟩
theorem Inv.unpinned{pins pl:List (Addr×Obj)}{σ:St}{H:Hp}{s:Shared}(I:Inv X (pins ++pl) σ H s):Inv X pins σ H s:=I.pins_of λp hp=>I.pin p (List.mem_append_right _ (List.mem_append_left _ hp))
theorem zqF{iter:Expr}{body:List Stmt}{wi:TI}{g:TG}{tb:TS}{pos:Pos}(hp:PassesOwn (model X.prog X.w) X.A X.env X.xe)(hc:X.calm=true)(hi:PI X tg iter wi)(hg:PG X tg g)(hb:PSs X body tb)
 (hs:∀x,foldedSetIterable iter X.env x=pure x:=by intro _;rfl):PS X (.For tg iter body [] pos) (zst wi g tb):=by
 intro pins s σ H D I h
 refine wpAny_For (thn (hi pins s σ H _ I h) λv s1 h1=>thn h1 λitv s2 h2=>?_) hs
 obtain⟨it,fp,tn,J,H2,e,I2,T,st2,f2,W,⟨m0,w0⟩,turn⟩:=h2
 subst e
 have stat:∀{H':Hp},(∀b∈fp,H' b=none)->∀b∈fp,zeJ X pins H' b:=λhn b hb=>⟨hn b hb,(f2 b hb).2⟩
 refine codeAny_forLoop_any (λn s'=>∃i σ' H',Inv X pins σ' H' s'/\tn i s'.heap/\(∀b∈fp,H' b=none)/\W i n σ' H') ?_ m0 ⟨0,σ,H2,I2,st2,λb hb=>(f2 b hb).1,w0⟩
 rintro n s3 ⟨i,σ3,H3,I3,st3,fr3,w3⟩
 rcases turn i n σ3 H3 w3 with⟨stop,qn⟩|⟨go,N,hN,step⟩
 ·refine wpAny_passesOwn hp (thn (T.done X rfl rfl rfl hc i pins s3 σ3 H3 X.xe I3 (stat fr3) st3 stop) λr s4 ⟨hr,I4⟩=>?_)
  subst hr
  exact wpAny_execs_nil ⟨σ3,H3,I4,qn⟩
 ·refine wpAny_passesOwn hp (thn (T.item X rfl rfl rfl hc i pins s3 σ3 H3 X.xe I3 (stat fr3) st3 go) λr s4 ⟨u,hr,h4⟩=>?_)
  subst hr
  refine wpAny_passesOwn hp (thn h4 λ_ s5 ⟨x,H5,I5,r5,y5,st5,fr5⟩=>?_)
  have I5':=I5.pinned (stat fr5) (T.obj _ _ st5)
  refine wpAny_passesOwn hp (thn (hg _ s5 σ3 H5 x u _ I5' r5 (step x H5 y5)) λ_ s6 ⟨σ6,H6,I6,q6⟩=>?_)
  refine wpAny_passesOwn hp (thn (hb _ s6 σ6 H6 _ I6 q6) λf s7 q7=>?_)
  have again:∀{σ7:St} {H7:Hp},Inv X (pins ++zfw fp s5.heap) σ7 H7 s7->N σ7 H7->∃m,m<n/\∃i σ' H',Inv X pins σ' H' s7/\tn i s7.heap/\(∀b∈fp,H' b=none)/\W i m σ' H':=λ{σ7 H7} I7 n7=>by
   obtain⟨m',hm,w7⟩:=hN σ7 H7 n7
   refine⟨m',hm,i+1,σ7,H7,I7.unpinned,T.keep _ _ _ st5 λb hb o e=>(I7.pin (b,o) (List.mem_append_right _ (List.mem_append_right _ (zbC hb e)))).1,λb hb=>?_,w7⟩
   obtain⟨o,e,d⟩:=T.obj _ _ st5 b hb
   exact(I7.pin (b,o) (List.mem_append_right _ (List.mem_append_right _ (zbC hb e)))).2.1
  cases f with
  |next=>obtain ⟨σ7,H7,I7,n7⟩:=q7;exact again I7 n7
  |cont=>obtain ⟨σ7,H7,I7,n7⟩:=q7;exact again I7 n7
  |brk=>obtain ⟨σ7,H7,I7,q7⟩:=q7;exact⟨σ7,H7,I7.unpinned,q7⟩
  |ret v=>obtain ⟨x7,σ7,H7,I7,r7,q7⟩:=q7;exact⟨x7,σ7,H7,I7.unpinned,r7,q7⟩
end
noncomputable abbrev R2:=V->V->Hp->VK->Prop
def OpR(X:Cx)(f:Value->Value->Sem Value)(r:R2):Prop:=
 ∀(pins:List (Addr×Obj)) (s:Shared) (σ:St) (H:Hp) (x y:V) (v u:Value) (Q:VK),Inv X pins σ H s->RelV x v->RelV y u->r x y H Q->
  wpAny (model X.prog X.w) X.A (f v u) (EP X pins σ Q) X.xe s
def UnR(X:Cx)(f:Value->Sem Value)(r:V->Hp->VK->Prop):Prop:=
 ∀(pins:List (Addr×Obj)) (s:Shared) (σ:St) (H:Hp) (x:V) (v:Value) (Q:VK),Inv X pins σ H s->RelV x v->r x H Q->
  wpAny (model X.prog X.w) X.A (f v) (EP X pins σ Q) X.xe s
def CallR(X:Cx)(f:Value)(r:List V->Hp->VK->Prop):Prop:=
 ∀(pins:List (Addr×Obj)) (s:Shared) (σ:St) (H:Hp) (xs:List V) (us:List Value) (Q:VK),Inv X pins σ H s->Vals xs us->r xs H Q->
  wpAny (model X.prog X.w) X.A (call f us) (EP X pins σ Q) X.xe s
noncomputable def tOp(r:R2)(ta tb:TE):TE:=λσ H Q=>ta σ H λx H1=>tb σ H1 λy H2=>r x y H2 Q
def tUn(r:V->Hp->VK->Prop)(ta:TE):TE:=λσ H Q=>ta σ H λx H1=>r x H1 Q
def rI(C:Int->Int->Prop)(g:Int->Int->V):R2:=λx y H Q=>∃i j,x= .int i/\y= .int j/\C i j/\Q (g i j) H
noncomputable def rI0(g:Int->Int->V):R2:=λx y H Q=>∃i j,x= .int i/\y= .int j/\Q (g i j) H
def rU(g:Int->V):V->Hp->VK->Prop:=λx H Q=>∃i,x= .int i/\Q (g i) H
section
variable{X:Cx}{a b c:Expr}{ta tb tc:TE}{pos:Pos}
theorem zqI(ha:PE X a ta)(hb:PE X b tb){pins:List (Addr×Obj)}{s:Shared}{σ:St}{H:Hp}{R:V->V->Hp->Prop}(I:Inv X pins σ H s)
 (h:ta σ H λx H1=>tb σ H1 λy H2=>R x y H2) {Q:Value->Shared->Prop} {f:Value->Value->Sem Value}
 (hf:∀v u s2 x y H2,Inv X pins σ H2 s2->RelV x v->RelV y u->R x y H2->wpAny (model X.prog X.w) X.A (f v u) Q X.xe s2):
 wpAny (model X.prog X.w) X.A (eval a X.env) (λv s₁=>wpAny (model X.prog X.w) X.A (eval b X.env) (λu s₂=>wpAny (model X.prog X.w) X.A (f v u) Q X.xe s₂) X.xe s₁) X.xe s:=by
 refine thn (ha pins s σ H _ I h) λv s1 ⟨x,H1,I1,r1,q1⟩=>?_
 refine thn (hb pins s1 σ H1 _ I1 q1) λu s2 ⟨y,H2,I2,r2,q2⟩=>?_
 exact hf v u s2 x y H2 I2 r1 r2 q2
theorem zsj{op:Operator}{r:R2}(ho:OpR X (binaryOp op) r)(ha:PE X a ta)(hb:PE X b tb):PE X (.BinOp a op b pos) (tOp r ta tb):=by
 intro pins s σ H Q I h
 exact wpAny_BinOp (zqI ha hb I h λv u s2 x y H2 I2 rx ry q=>ho pins s2 σ H2 x y v u Q I2 rx ry q)
theorem zrC{op:UnaryOp}{r:V->Hp->VK->Prop}(ho:UnR X (unaryOp op) r)(ha:PE X a ta):PE X (.UnaryOp op a pos) (tUn r ta):=by
 intro pins s σ H Q I h
 exact UnaryOp_ (thn (ha pins s σ H _ I h) λv s1 ⟨x,H1,I1,r1,q1⟩=>ho pins s1 σ H1 x v Q I1 r1 q1)
theorem opI{f:Value->Value->Sem Value}{C:Int->Int->Prop}{g:Int->Int->Int}
 (rule:∀(i j:Int) (t u:Tok) (s:Shared) (Q:Value->Shared->Prop) (E:Value->Shared->Prop),C i j->Q (.int (g i j) s.toks) {s with toks:=s.toks+1}->wpAny (model X.prog X.w) X.A (f (.int i t) (.int j u)) Q E s):
 OpR X f (rI C λi j=> .int (g i j)):=by
 intro pins s σ H x y v u Q I rx ry h
 obtain⟨i,j,rfl,rfl,hc,q⟩:=h
 obtain⟨t,rfl⟩:=rx
 obtain⟨t',rfl⟩:=ry
 exact rule i j t t' s _ _ hc ⟨.int (g i j),H,I.tok _,⟨_,rfl⟩,q⟩
theorem zr9{f:Value->Value->Sem Value}{g:Int->Int->Int}
 (rule:∀(i j:Int) (t u:Tok) (s:Shared) (Q:Value->Shared->Prop) (E:Value->Shared->Prop),Q (.int (g i j) s.toks) {s with toks:=s.toks+1}->wpAny (model X.prog X.w) X.A (f (.int i t) (.int j u)) Q E s):
 OpR X f (rI0 λi j=> .int (g i j)):=by
 intro pins s σ H x y v u Q I rx ry h
 obtain⟨i,j,rfl,rfl,q⟩:=h
 obtain⟨t,rfl⟩:=rx
 obtain⟨t',rfl⟩:=ry
 exact rule i j t t' s _ _ ⟨.int (g i j),H,I.tok _,⟨_,rfl⟩,q⟩
theorem zpN{f:Value->Value->Sem Value}{g:Int->Int->Bool}
 (rule:∀(i j:Int) (t u:Tok) (s:Shared) (Q:Value->Shared->Prop) (E:Value->Shared->Prop),Q (.bool (g i j)) s->wpAny (model X.prog X.w) X.A (f (.int i t) (.int j u)) Q E s):
 OpR X f (rI0 λi j=> .bl (g i j)):=by
 intro pins s σ H x y v u Q I rx ry h
 obtain⟨i,j,rfl,rfl,q⟩:=h
 obtain⟨t,rfl⟩:=rx
 obtain⟨t',rfl⟩:=ry
 exact rule i j t t' s _ _ ⟨.bl (g i j),H,I,rfl,q⟩
def zsC(i j:Int):Prop:=0<j/\j<1073741824
def zqx(i j:Int):Prop:=0<=j/\j<=1000000/\i.natAbs<2^64
def CMul(i j:Int):Prop:=(-(2^64)<i/\i<2^64)\/(-(2^64)<j/\j<2^64)
theorem CMul.ok{i j:Int}(h:CMul i j):IntMulOk i j:=by
 rcases h with⟨h1,h2⟩|⟨h1,h2⟩
 ·exact .of_left (intBits_le_64 h1 h2)
 ·exact .of_right (intBits_le_64 h1 h2)
theorem zaI:OpR X (binaryOp .Add) (rI0 λi j=> .int (i+j)):=zr9 λ_ _ _ _ _ _ _ q=>add_int q
theorem zex:OpR X (binaryOp .Sub) (rI0 λi j=> .int (i -j)):=zr9 λ_ _ _ _ _ _ _ q=>sub_int q
theorem zcP:OpR X (binaryOp .Mult) (rI CMul λi j=> .int (i*j)):=opI λ_ _ _ _ _ _ _ hc q=>mul_int q hc.ok
theorem zhQ:OpR X (binaryOp .FloorDiv) (rI zsC λi j=> .int (i/j)):=opI λi j _ _ _ _ _ hc q=>by
 have h1:(0:Int)<j:=hc.1
 have h2:j<1073741824:=hc.2
 exact floordiv_int (by omega) (by rw[Int.fdiv_eq_ediv_of_nonneg i (by omega)];exact q) (.inl (PyProof.noPylong_small (by omega)))
theorem zdB:OpR X (binaryOp .Mod) (rI (λ_ j=>0<j) λi j=> .int (i%j)):=opI λi j _ _ _ _ _ hc q=>by
 have h1:(0:Int)<j:=hc
 exact mod_int' (by omega) (by rw[Int.fmod_eq_emod_of_nonneg i (by omega)];exact q)
theorem zn4:OpR X (binaryOp .Pow) (rI zqx λi j=> .int (i^j.toNat)):=opI λ_ _ _ _ _ _ _ hc q=>pow_int_small hc.1 hc.2.1 hc.2.2 q
theorem unI{f:Value->Sem Value}{g:Int->Int}
 (rule:∀(i:Int) (t:Tok) (s:Shared) (Q:Value->Shared->Prop) (E:Value->Shared->Prop),Q (.int (g i) s.toks) {s with toks:=s.toks+1}->wpAny (model X.prog X.w) X.A (f (.int i t)) Q E s):
 UnR X f (rU λi=> .int (g i)):=by
 intro pins s σ H x v Q I rx h
 obtain⟨i,rfl,q⟩:=h
 obtain⟨t,rfl⟩:=rx
 exact rule i t s _ _ ⟨.int (g i),H,I.tok _,⟨_,rfl⟩,q⟩
theorem zcT:UnR X (unaryOp .USub) (rU λi=> .int (-i)):=unI λ_ _ _ _ _ q=>neg_int q
end
noncomputable def zqK:V->V->Bool
 | .non, .non=>true| .non, .int _=>true| .int _, .non=>true| .non, .bl _=>true| .bl _, .non=>true| .non, .str _=>true| .str _, .non=>true
 | .int _, .int _=>true| .bl _, .bl _=>true| .str _, .str _=>true| .byt _, .byt _=>true
 | .int _, .str _=>true| .str _, .int _=>true| .bl _, .str _=>true| .str _, .bl _=>true
 |_,_=>false
noncomputable def rEq:R2:=λx y H Q=>zqK x y=true/\Q (.bl (decide (x=y))) H
noncomputable def rNe:R2:=λx y H Q=>zqK x y=true/\Q (.bl (!decide (x=y))) H
theorem zlx{i j:Int}:decide (V.int i=V.int j)=(i==j):=by
 rw[Bool.eq_iff_iff]
 simp
theorem znn{i j:Bool}:decide (V.bl i=V.bl j)=(i==j):=by
 rw[Bool.eq_iff_iff]
 simp
theorem zlg{i j:Str}:decide (V.str i=V.str j)=(i==j):=by
 rw[Bool.eq_iff_iff]
 simp
theorem zkP{i j:Array UInt8}:decide (V.byt i=V.byt j)=(i.toList==j.toList):=by
 rw[Bool.eq_iff_iff]
 cases i
 cases j
 simp
section
variable{X:Cx}{a b c:Expr}{ta tb tc:TE}{pos:Pos}
theorem zR{pins:List (Addr×Obj)}{σ:St}{H:Hp}{s:Shared}{Q:VK}{k k':Bool}(I:Inv X pins σ H s)(q:Q (.bl k) H)(e:k=k'):EP X pins σ Q (.bool k') s:=by
 subst e
 exact⟨.bl k,H,I,rfl,q⟩
theorem zas:OpR X (compareOp .Eq) rEq:=by
 intro pins s σ H x y v u Q I rx ry h
 obtain⟨hs,q⟩:=h
 cases x with
 |non=>
  cases rx
  cases y with
  |non=>cases ry;exact PySem.EqNone.eq_none_none (zR I q (by simp))
  |bl j=>cases ry;exact PySem.EqNone.eq_none_bool (zR I q (by simp))
  |int j=>obtain ⟨t',rfl⟩:=ry;exact PySem.EqNone.eq_none_int (zR I q (by simp))
  |str j=>obtain ⟨t',rfl⟩:=ry;exact PySem.EqNone.eq_none_str (zR I q (by simp))
  |_=>exact absurd (show false=true from hs) Bool.false_ne_true
 |bl i=>
  cases rx
  cases y with
  |non=>cases ry;exact PySem.EqNone.eq_bool_none (zR I q (by simp))
  |bl j=>cases ry;exact eq_bool (zR I q znn)
  |str j=>obtain ⟨t',rfl⟩:=ry;exact PySem.EqMixed.eq_bool_str (zR I q (by simp))
  |_=>exact absurd (show false=true from hs) Bool.false_ne_true
 |int i=>
  obtain⟨t,rfl⟩:=rx
  cases y with
  |non=>cases ry;exact PySem.EqNone.eq_int_none (zR I q (by simp))
  |int j=>obtain ⟨t',rfl⟩:=ry;exact eq_int (zR I q zlx)
  |str j=>obtain ⟨t',rfl⟩:=ry;exact PySem.EqMixed.eq_int_str (zR I q (by simp))
  |_=>exact absurd (show false=true from hs) Bool.false_ne_true
 |str i=>
  obtain⟨t,rfl⟩:=rx
  cases y with
  |non=>cases ry;exact PySem.EqNone.eq_str_none (zR I q (by simp))
  |bl j=>cases ry;exact PySem.EqMixed.eq_str_bool (zR I q (by simp))
  |int j=>obtain ⟨t',rfl⟩:=ry;exact PySem.EqMixed.eq_str_int (zR I q (by simp))
  |str j=>obtain ⟨t',rfl⟩:=ry;exact eq_str (zR I q zlg)
  |_=>exact absurd (show false=true from hs) Bool.false_ne_true
 |byt i=>
  obtain⟨t,rfl⟩:=rx
  cases y with
  |byt j=>obtain ⟨t',rfl⟩:=ry;exact PySem.W.eq_bytes (zR I q zkP)
  |_=>exact absurd (show false=true from hs) Bool.false_ne_true
 |_=>cases y<;>exact absurd (show false=true from hs) Bool.false_ne_true
theorem zho:OpR X (compareOp .NotEq) rNe:=by
 intro pins s σ H x y v u Q I rx ry h
 obtain⟨hs,q⟩:=h
 cases x with
 |non=>
  cases rx
  cases y with
  |non=>cases ry;exact PySem.EqNone.ne_none_none (zR I q (by simp))
  |bl j=>cases ry;exact PySem.EqNone.ne_none_bool (zR I q (by simp))
  |int j=>obtain ⟨t',rfl⟩:=ry;exact PySem.EqNone.ne_none_int (zR I q (by simp))
  |str j=>obtain ⟨t',rfl⟩:=ry;exact PySem.EqNone.ne_none_str (zR I q (by simp))
  |_=>exact absurd (show false=true from hs) Bool.false_ne_true
 |bl i=>
  cases rx
  cases y with
  |non=>cases ry;exact PySem.EqNone.ne_bool_none (zR I q (by simp))
  |bl j=>cases ry;exact ne_bool (zR I q (congrArg not znn))
  |str j=>obtain ⟨t',rfl⟩:=ry;exact PySem.EqMixed.ne_bool_str (zR I q (by simp))
  |_=>exact absurd (show false=true from hs) Bool.false_ne_true
 |int i=>
  obtain⟨t,rfl⟩:=rx
  cases y with
  |non=>cases ry;exact PySem.EqNone.ne_int_none (zR I q (by simp))
  |int j=>obtain ⟨t',rfl⟩:=ry;exact ne_int (zR I q (congrArg not zlx))
  |str j=>obtain ⟨t',rfl⟩:=ry;exact PySem.EqMixed.ne_int_str (zR I q (by simp))
  |_=>exact absurd (show false=true from hs) Bool.false_ne_true
 |str i=>
  obtain⟨t,rfl⟩:=rx
  cases y with
  |non=>cases ry;exact PySem.EqNone.ne_str_none (zR I q (by simp))
  |bl j=>cases ry;exact PySem.EqMixed.ne_str_bool (zR I q (by simp))
  |int j=>obtain ⟨t',rfl⟩:=ry;exact PySem.EqMixed.ne_str_int (zR I q (by simp))
  |str j=>obtain ⟨t',rfl⟩:=ry;exact ne_str (zR I q (congrArg not zlg))
  |_=>exact absurd (show false=true from hs) Bool.false_ne_true
 |byt i=>
  obtain⟨t,rfl⟩:=rx
  cases y with
  |byt j=>obtain ⟨t',rfl⟩:=ry;exact PySem.W.ne_bytes (zR I q (congrArg not zkP))
  |_=>exact absurd (show false=true from hs) Bool.false_ne_true
 |_=>cases y<;>exact absurd (show false=true from hs) Bool.false_ne_true
theorem zov:OpR X (compareOp .Lt) (rI0 λi j=> .bl (decide (i<j))):=zpN λ_ _ _ _ _ _ _ q=>lt_int q
theorem zle:OpR X (compareOp .LtE) (rI0 λi j=> .bl (decide (i<=j))):=zpN λ_ _ _ _ _ _ _ q=>le_int q
theorem ze4:OpR X (compareOp .Gt) (rI0 λi j=> .bl (decide (j<i))):=zpN λ_ _ _ _ _ _ _ q=>gt_int q
theorem zp5:OpR X (compareOp .GtE) (rI0 λi j=> .bl (decide (j<=i))):=zpN λ_ _ _ _ _ _ _ q=>ge_int q
theorem op_lt_str:OpR X (compareOp .Lt) (λx y H Q=>∃i j,x= .str i/\y= .str j/\Q (.bl (decide (i.cps.toList<j.cps.toList))) H):=by
 intro pins s σ H x y v u Q I rx ry h
 obtain⟨i,j,rfl,rfl,q⟩:=h
 obtain⟨t,rfl⟩:=rx
 obtain⟨t',rfl⟩:=ry
 exact lt_str (zR I q rfl)
theorem zfd:OpR X (compareOp .Is) (λx y H Q=>y= .non/\Q (.bl (decide (x= .non))) H):=by
 intro pins s σ H x y v u Q I rx ry h
 obtain⟨rfl,q⟩:=h
 cases ry
 refine is_none_gen (zR I q ?_)
 cases x<;>first
  |(cases rx;rfl)
  |(obtain⟨t,rfl⟩:=rx;rfl)
theorem zlq:OpR X (compareOp .IsNot) (λx y H Q=>y= .non/\Q (.bl (!decide (x= .non))) H):=by
 intro pins s σ H x y v u Q I rx ry h
 obtain⟨rfl,q⟩:=h
 cases ry
 refine isnot_none_gen (zR I q ?_)
 cases x<;>first
  |(cases rx;rfl)
  |(obtain⟨t,rfl⟩:=rx;rfl)
theorem OpR.or{f:Value->Value->Sem Value}{r r':R2}(h:OpR X f r)(h':OpR X f r'):OpR X f (λx y H Q=>r x y H Q\/r' x y H Q):=by
 intro pins s σ H x y v u Q I rx ry q
 rcases q with q|q
 ·exact h pins s σ H x y v u Q I rx ry q
 ·exact h' pins s σ H x y v u Q I rx ry q
theorem zpc{op:CmpOp}{r:R2}(ho:OpR X (compareOp op) r)(ha:PE X a ta)(hb:PE X b tb)(hm:behindInMarks op b=false):PE X (.Compare a [op] [b] pos) (tOp r ta tb):=by
 intro pins s σ H Q I h
 exact wpAny_Compare1 (zqI ha hb I h λv u s2 x y H2 I2 rx ry q=>ho pins s2 σ H2 x y v u Q I2 rx ry q) hm
noncomputable def zhu(t:TE):TT:=λσ H Q=>t σ H λx H'=>∃k,x= .bl k/\Q k H'
theorem zoH{op:CmpOp}{r:R2}(ho:OpR X (compareOp op) r)(ha:PE X a ta)(hb:PE X b tb)(hm:behindInMarks op b=false):PT X (.Compare a [op] [b] pos) (zhu (tOp r ta tb)):=by
 intro pins s σ H Q I h
 refine wpAny_isTrue_Compare1 (thn (ha pins s σ H _ I h) λv s1 ⟨x,H1,I1,r1,q1⟩=>thn (hb pins s1 σ H1 _ I1 q1) λu s2 ⟨y,H2,I2,r2,q2⟩=>
  thn (ho pins s2 σ H2 x y v u _ I2 r1 r2 q2) λc s3 ⟨z,H3,I3,r3,k,e,q3⟩=>?_) hm
 subst e
 cases r3
 exact wpAny_truthy_bool ⟨H3,I3,q3⟩
noncomputable def ziv(r r':R2)(ta tb tc:TE):TE:=λσ H Q=>ta σ H λx H1=>tb σ H1 λy H2=>r x y H2 λz H3=>∃k,z= .bl k/\
 (if k=true then tc σ H3 λw' H4=>r' y w' H4 Q else Q (.bl false) H3)
theorem zmM{op op':CmpOp}{r r':R2}(ho:OpR X (compareOp op) r)(ho':OpR X (compareOp op') r')(ha:PE X a ta)(hb:PE X b tb)(hc:PE X c tc)
 (hm:lastMarks [op,op'] [b,c]=false:=by with_unfolding_all rfl):PE X (.Compare a [op,op'] [b,c] pos) (ziv r r' ta tb tc):=by
 intro pins s σ H Q I h
 refine Compare_chain (thn (ha pins s σ H _ I h) λv s1 ⟨x,H1,I1,r1,q1⟩=>chain_link (thn (hb pins s1 σ H1 _ I1 q1) λu s2 ⟨y,H2,I2,r2,q2⟩=>
  thn (ho pins s2 σ H2 x y v u _ I2 r1 r2 q2) λd s3 ⟨z,H3,I3,r3,k,e,q3⟩=>?_)) hm
 subst e
 cases r3
 refine wpAny_truthy_bool ?_
 cases k with
 |false=>exact ite_ff ⟨.bl false,H3,I3,rfl,q3⟩
 |true=>exact ite_tt (chain_last (thn (hc pins s3 σ H3 _ I3 q3) λw' s4 ⟨z',H4,I4,r4,q4⟩=>ho' pins s4 σ H4 y z' u w' Q I4 r2 r4 q4))
theorem zof{op op':CmpOp}{r r':R2}(ho:OpR X (compareOp op) r)(ho':OpR X (compareOp op') r')(ha:PE X a ta)(hb:PE X b tb)(hc:PE X c tc)
 (hm:lastMarks [op,op'] [b,c]=false:=by with_unfolding_all rfl):PT X (.Compare a [op,op'] [b,c] pos) (zhu (ziv r r' ta tb tc)):=by
 intro pins s σ H Q I h
 refine isTrue_chain (thn (ha pins s σ H _ I h) λv s1 ⟨x,H1,I1,r1,q1⟩=>test_link (thn (hb pins s1 σ H1 _ I1 q1) λu s2 ⟨y,H2,I2,r2,q2⟩=>
  thn (ho pins s2 σ H2 x y v u _ I2 r1 r2 q2) λd s3 ⟨z,H3,I3,r3,k,e,q3⟩=>?_)) hm
 subst e
 cases r3
 refine wpAny_truthy_bool ?_
 cases k with
 |false=>
  obtain⟨k',e',q'⟩:=q3
  cases e'
  exact ite_ff ⟨H3,I3,q'⟩
 |true=>
  refine ite_tt (test_last (thn (hc pins s3 σ H3 _ I3 q3) λw' s4 ⟨z',H4,I4,r4,q4⟩=>thn (ho' pins s4 σ H4 y z' u w' _ I4 r2 r4 q4) λd' s5 ⟨z2,H5,I5,r5,k2,e2,q5⟩=>?_))
  subst e2
  cases r5
  exact wpAny_truthy_bool ⟨H5,I5,q5⟩
theorem zfj:(sizeLine:Nat)<2^63:=by rw[sizeLine_eq];decide
theorem zjY:OpR X (binaryOp .Add) (λx y H Q=>∃i j,x= .str i/\y= .str j/\i.length+j.length<=sizeLine/\Q (.str (i ++j)) H):=by
 intro pins s σ H x y v u Q I rx ry h
 obtain⟨i,j,rfl,rfl,hz,q⟩:=h
 obtain⟨t,rfl⟩:=rx
 obtain⟨t',rfl⟩:=ry
 exact add_str (λt' tk=>⟨.str (i ++j),H,I.tok _,⟨_,rfl⟩,q⟩) hz
theorem zdl{x:V}{us:List Value}(r:Vals [x] us):∃u,us=[u]/\RelV x u:=by
 cases r with
 |cons r1 r2=>cases r2;exact⟨_,rfl,r1⟩
theorem zhG{x y:V}{us:List Value}(r:Vals [x,y] us):∃u w',us=[u,w']/\RelV x u/\RelV y w':=by
 cases r with
 |cons r1 r2=>
  cases r2 with
  |cons r3 r4=>cases r4;exact⟨_,_,rfl,r1,r3⟩
theorem zmn(hc:X.calm=true):CallR X (.builtin "max") (λxs H Q=>∃i j,xs=[.int i, .int j]/\Q (.int (if j>i then j else i)) H):=by
 intro pins s σ H xs us Q I r h
 obtain⟨i,j,rfl,q⟩:=h
 obtain⟨u,w',rfl,⟨t,rfl⟩,⟨t',rfl⟩⟩:=zhG r
 refine max_two_ints (I.ok.hd hc) λh' tk k=>⟨_,H,I.kept k,?_,q⟩
 by_cases hj:j>i
 ·rw[if_pos hj,if_pos hj];exact⟨_,rfl⟩
 ·rw[if_neg hj,if_neg hj];exact⟨_,rfl⟩
theorem zhp(hc:X.calm=true):CallR X (.builtin "min") (λxs H Q=>∃i j,xs=[.int i, .int j]/\Q (.int (if j<i then j else i)) H):=by
 intro pins s σ H xs us Q I r h
 obtain⟨i,j,rfl,q⟩:=h
 obtain⟨u,w',rfl,⟨t,rfl⟩,⟨t',rfl⟩⟩:=zhG r
 refine min_two_ints (I.ok.hd hc) λh' tk k=>⟨_,H,I.kept k,?_,q⟩
 by_cases hj:j<i
 ·rw[if_pos hj,if_pos hj];exact⟨_,rfl⟩
 ·rw[if_neg hj,if_neg hj];exact⟨_,rfl⟩
theorem zda:CallR X (.type "int") (λxs H Q=>(∃i,xs=[.int i]/\Q (.int i) H)\/∃k,xs=[.bl k]/\Q (.int (if k then 1 else 0)) H):=by
 intro pins s σ H xs us Q I r h
 rcases h with⟨i,rfl,q⟩|⟨k,rfl,q⟩
 ·obtain ⟨u,rfl,t,rfl⟩:=zdl r
  exact call_int_int ⟨.int i,H,I,⟨_,rfl⟩,q⟩
 ·obtain ⟨u,rfl,r1⟩:=zdl r
  cases r1
  exact call_int_bool ⟨.int (if k then 1 else 0),H,I.tok _,⟨_,rfl⟩,q⟩
end
structure ObjM(h:Heap)(x dx C:Addr)(mA:Str->Option Value):Prop where
 obj:h.get? x=some (PySem.W.instObj C dx)
 ns:h.Ns1 dx mA
 ne:dx≠x
theorem zmf{h:Heap}{dx:Addr}{mA:Str->Option Value}(n:h.Ns1 dx mA):∃od,h.get? dx=some od/\∀name,PySem.W.lookIn name od=some (mA name):=by
 obtain⟨o,es,ep,ho,hd,hk,_,hm⟩:=n
 refine⟨o,ho,λname=>?_⟩
 have e:=hm name
 unfold nsFind findBy at e
 rw[←Array.find?_toList] at e
 unfold PySem.W.lookIn
 rw[hd]
 dsimp only
 split
 ·rename_i y q
  rw[q] at e
  exact congrArg some e
 ·rename_i q
  rw[q] at e
  have a:es.toList.any (·.refKey)=false:=by
   rw[List.any_eq_false]
   intro y hy
   obtain⟨z,t,hkey⟩:=hk y (Array.mem_toList_iff.mp hy)
   simp[DictEntry.refKey,hkey]
  have a':¬es.toList.any (·.refKey)=true:=by rw[a];exact Bool.false_ne_true
  rw[if_neg a']
  exact congrArg some e
theorem ObjM.look{h:Heap}{x dx C:Addr}{mA:Str->Option Value}(I:ObjM h x dx C mA):∃od,PySem.W.InstAt h x (PySem.W.instObj C dx) C (some od)/\∀name,PySem.W.lookIn name od=some (mA name):=
 let⟨od,ho,hl⟩:=zmf I.ns
 ⟨od,⟨I.obj,rfl,rfl,ho⟩,hl⟩
section
variable{prog:Program}{w:World}{A:Around}{E:Value->Shared->Prop}{s:Shared}{K:PySem.W.Frag}{x dx C f:Addr}{mA:Str->Option Value}{name:Str}{v:Value}
end
section
variable{P:Program}{w:World}{H H':Hp}{h h':Heap}{a C dx:Addr}{fs fs':List (Str×V)}
theorem zo0(hok:HOk P w H h)(e:H a=some (.ins C dx fs)):∃mA,ObjM h a dx C mA/\(∀f,RelO (fs.lookup f) (mA f))/\PySem.Within mA (fs.map (·.1))/\fs.length<=1000/\H dx=some (.own a):=by
 obtain⟨d,z,ne,ob,mA,n,r,q⟩:=(show ObjOk P w H h a (.ins C dx fs)from hok a _ e)
 exact⟨mA,⟨ob,n,ne⟩,r,q,z,d⟩
end
structure Cls(K:PySem.W.Frag)(C:Addr):Prop where
 pg:PySem.W.plainGet K C Str.empty=true
 hd:PySem.W.hasDictIn K C=true
 po:PySem.W.plainOver K C=true
 sa:PySem.W.findIn K (.ref C) "__setattr__"=some (some (.builtin "object.__setattr__"))
theorem Cls.get{K:PySem.W.Frag}{C:Addr}(c:Cls K C)(f:Str):PySem.W.plainGet K C f=true:=c.pg
structure Con(K:PySem.W.Frag)(C:Addr)(f:Str)(v:V)(u:Value):Prop where
 at_:PySem.W.findIn K (.ref C) f=some (some u)
 rel:RelV v u
 get:PySem.W.specialIn K u "__get__"=some none
 cp:PySem.W.copiedNames.contains f=false
structure Meth(K:PySem.W.Frag)(C:Addr)(m:Str)(f:Addr):Prop where
 at_:PySem.W.findIn K (.ref C) m=some (some (.ref f))
 fn:PySem.W.isFn K (.ref f)=true
 kp:PySem.W.keepIn K (.ref f)=true
section
variable{X:Cx}{pins:List (Addr×Obj)}{σ:St}{H:Hp}{s:Shared}{a C dx:Addr}{fs:List (Str×V)}{f:Str}{v:V}{A:Around}{E:Value->Shared->Prop}
end
section
variable{X:Cx}{o e value:Expr}{f:Str}{pos pos' tpos:Pos}{ta tv:TE}
end
section
variable{X:Cx}{pins:List (Addr×Obj)}{σ:St}{H:Hp}{s:Shared}{A:Around}{E:Value->Shared->Prop}{Q:Value->Shared->Prop}{c:Value}{b:Bool}
inductive TyOf(K:PySem.W.Frag)(H:Hp):V->Value->Prop where
 |non:TyOf K H .non (.type "NoneType")
 |bl (x:Bool):TyOf K H (.bl x) (.type "bool")
 |int (i:Int):TyOf K H (.int i) (.type "int")
 |str (x:Str):TyOf K H (.str x) (.type "str")
 |flt (x:UInt64):TyOf K H (.flt x) (.type "float")
 |lst {a:Addr} {xs:List V} (e:H a=some (.lst xs)):TyOf K H (.ref a) (.type "list")
 |frz {a:Addr} {o:Obj} {xs:List V} (e:H a=some (.frz o (.lst xs))):TyOf K H (.ref a) (.type "list")
 |tup {a:Addr} {xs:List V} (e:H a=some (.tup xs)):TyOf K H (.ref a) (.type "tuple")
 |dK {a:Addr} {kvs:List (Key×V)} (e:H a=some (.dK kvs)):TyOf K H (.ref a) (.type "dict")
 |dT {a:Addr} {kvs:List (List Key×V)} (e:H a=some (.dT kvs)):TyOf K H (.ref a) (.type "dict")
 |ins {a C dx:Addr} {fs:List (Str×V)} (e:H a=some (.ins C dx fs)) (cl:Cls K C) (ha:PySem.W.findIn K (.ref C) "__class__"=some (some (.builtin "object.__class__")))
   (hn:PySem.W.specialIn K (.builtin "object.__class__") "__get__"=some (some (.builtin "getset_descriptor.__get__"))) (htk:PySem.W.takesIn K (.builtin "object.__class__")=some true)
   (hm:PySem.W.mroIn K C (.type "object")=some true):TyOf K H (.ref a) (.ref C)
theorem zl4{x:V}{u t:Value}(I:Inv X pins σ H s)(rx:RelV x u)(ty:TyOf X.K H x t)(e:PySem.W.kitOne X.K t c=some b)(h:∀tk,Q (.bool b) {s with toks:=tk}):
 wpAny (model X.prog X.w) A (call (.builtin "isinstance") [u,c]) Q E s:=by
 cases ty with
 |non=>cases (show u=Value.none from rx);exact PySem.W.kia_one PySem.W.kitx_none I.kIn True.intro e (λz=>nomatch z) h
 |bl y=>cases (show u=Value.bool y from rx);exact PySem.W.kia_one PySem.W.kitx_bool I.kIn True.intro e (λz=>nomatch z) h
 |int i=>obtain ⟨t,q⟩:=(show∃t,u=Value.int i t from rx);cases q;exact PySem.W.kia_one PySem.W.kitx_int I.kIn True.intro e (λz=>nomatch z) h
 |str y=>obtain ⟨t,q⟩:=(show∃t,u=Value.str y t from rx);cases q;exact PySem.W.kia_one PySem.W.kitx_str I.kIn True.intro e (λz=>nomatch z) h
 |flt y=>obtain ⟨t,q⟩:=(show∃t,u=Value.float y t from rx);cases q;exact PySem.W.kia_one PySem.W.kitx_float I.kIn True.intro e (λz=>nomatch z) h
 | @lst a xs ea=>
   cases(show u=Value.ref a from rx)
   obtain⟨_,_,n,_,h1⟩:=(show ObjOk X.prog X.w H s.heap a (.lst xs)from I.hok a _ ea)
   exact PySem.W.kia_one PySem.W.kitx_list I.kIn ⟨_,h1,rfl⟩ e (λz=>nomatch z) h
 | @frz a ob xs ea=>
   cases(show u=Value.ref a from rx)
   obtain⟨_,_,_,n,_,h1⟩:=(show ObjOk X.prog X.w H s.heap a (.frz ob (.lst xs))from I.hok a _ ea)
   exact PySem.W.kia_one PySem.W.kitx_list I.kIn ⟨_,h1,rfl⟩ e (λz=>nomatch z) h
 | @tup a xs ea=>
   cases(show u=Value.ref a from rx)
   obtain⟨_,_,_,p,_⟩:=(show ObjOk X.prog X.w H s.heap a (.tup xs)from I.hok a _ ea)
   obtain⟨o,h1,h2,_⟩:=p
   exact PySem.W.kia_one PySem.W.kitx_tuple I.kIn ⟨o,h1,h2⟩ e (λz=>nomatch z) h
 | @dK a kvs ea=>
   cases(show u=Value.ref a from rx)
   obtain⟨_,_,vs,_,p⟩:=(show ObjOk X.prog X.w H s.heap a (.dK kvs)from I.hok a _ ea)
   obtain⟨o,es,ep,h1,h2,_⟩:=p
   exact PySem.W.kia_one PySem.W.kitx_dict I.kIn ⟨o,h1,h2.1⟩ e (λz=>nomatch z) h
 | @dT a kvs ea=>
   cases(show u=Value.ref a from rx)
   obtain⟨_,_,xs,_,o,es,ep,h1,h2,_⟩:=(show ObjOk X.prog X.w H s.heap a (.dT kvs)from I.hok a _ ea)
   exact PySem.W.kia_one PySem.W.kitx_dict I.kIn ⟨o,h1,h2.1⟩ e (λz=>nomatch z) h
 | @ins a C dx fs ea cl ha hn htk hm=>
   cases(show u=Value.ref a from rx)
   obtain⟨mA,O,_⟩:=zo0 I.hok ea
   obtain⟨od,J,_⟩:=O.look
   exact PySem.W.kia_one (PySem.W.kitx_own (cl.get _) cl.hd ha hn htk hm) I.kIn J e (λz=>nomatch z) h
end
structure Room(k:Nat)(A:Around):Prop where
 hd:A.handled=none
 dp:A.depth+3*k+5<recursionLimit
 un:A.units+16*k+200<cLine
 gd:A.guards=some []
theorem Room.mono{j k:Nat}{A:Around}(r:Room k A)(h:j<=k):Room j A:=⟨r.hd,by have:=r.dp;omega,by have:=r.un;omega,r.gd⟩
theorem Room.deeper{k:Nat}{A:Around}(r:Room (k+1) A)(env:Env):Room k (A.deeper env):=
 ⟨r.hd,by have:=r.dp;show A.depth+1+3*k+5<_;omega,by have:=r.un;show A.units+3+16*k+200<_;omega,r.gd⟩
theorem Room.depth{k:Nat}{A:Around}(r:Room k A):A.depth<recursionLimit:=by have:=r.dp;omega
theorem Room.units{k:Nat}{A:Around}(r:Room k A):A.units+64<cLine:=by have:=r.un;omega
theorem Room.units0{k:Nat}{A:Around}(r:Room k A):A.units<cLine:=by have:=r.un;omega
noncomputable def zgg:TA:=λ_ H Q=>Q [] H
noncomputable def zdG(ta:TE)(tr:TA):TA:=λσ H Q=>ta σ H λx H1=>tr σ H1 λxs H2=>Q (x::xs) H2
section
variable{X:Cx}{e:Expr}{es:List Expr}{te:TE}{t:TA}{pos:Pos}
theorem zog:PA X [] zgg:=λ_ _ _ _ H Q I h=>Calls.spliced_nil ⟨[],H,I, .nil,h⟩
theorem zk1(ha:PE X e te)(hr:PA X es t)(hs:starEach (e::es) X.env=(false,eval e X.env)::starEach es X.env:=by rfl):PA X (e::es) (zdG te t):=by
 intro pos pins s σ H Q I h
 rw[hs]
 show wpAny _ _ (spliced ((false,eval e X.env)::backTo pos (starEach es X.env))) _ _ s
 refine Calls.spliced_cons (thn (ha pins s σ H _ I h) λu s1 ⟨x,H1,I1,r1,q1⟩=>?_)
 exact thn (hr pos pins s1 σ H1 _ I1 q1) λus s2 ⟨xs,H2,I2,r2,q2⟩=>⟨x::xs,H2,I2, .cons r1 r2,q2⟩
noncomputable def zn6(t:TA):TE:=λσ H Q=>t σ H λxs H1=>xs.length<=sizeLine/\∀p,H1 p=none->Q (.ref p) (upd H1 p (.tup xs))
noncomputable def zj6(t:TA):TE:=λσ H Q=>t σ H λxs H1=>xs.length<=sizeLine/\∀p,H1 p=none->Q (.ref p) (upd H1 p (.lst xs))
theorem zro{x1}(h:PA X es t):PE X (.Tuple es x1 pos) (zn6 t):=by
 intro pins s σ H Q I hq
 refine wpAny_Tuple_spliced (thn (h pos pins s σ H _ I hq) λus s1 ⟨xs,H1,I1,r,z,q⟩=>⟨by rw[←r.length];exact z,?_⟩)
 have hf:H1 s1.heap.objs.size=none:=I1.hok.fresh (Nat.le_refl _)
 refine⟨.ref s1.heap.objs.size,upd H1 s1.heap.objs.size (.tup xs),I1.laid (t':=s1.toks) (λb u e=>Heap.get?_push_of_some _ e) (Nat.le_refl _) ?_,rfl,q _ hf⟩
 exact⟨z,us,r,⟨_,Heap.get?_push_size _ rfl,rfl,_,rfl⟩,NoDict.new rfl (Heap.get?_push_size _ rfl)⟩
theorem znB(h:PA X es t):PE X (.List es pos) (zj6 t):=by
 intro pins s σ H Q I hq
 refine wpAny_List_spliced (thn (h pos pins s σ H _ I hq) λus s1 ⟨xs,H1,I1,r,z,q⟩=>⟨by rw[←r.length];exact z,?_⟩)
 have hf:H1 s1.heap.objs.size=none:=I1.hok.fresh (Nat.le_refl _)
 refine⟨.ref s1.heap.objs.size,upd H1 s1.heap.objs.size (.lst xs),I1.laid (t':=s1.toks) (λb u e=>Heap.get?_push_of_some _ e) (Nat.le_refl _) ?_,rfl,q _ hf⟩
 exact⟨z,us,0,r,Heap.get?_push_size _ rfl⟩
end
noncomputable abbrev Sp:=List V->Hp->VK->XK->Prop
noncomputable abbrev CXT:=List Env->Hp->Shared->XK->Value->Shared->Prop
structure Env0(P:Program)(w:World)(K:PySem.W.Frag)(mg:Str->Option Value)(base:Heap)(A:Around)(outer:List Env)(s:Shared)(H:Hp):Prop where
 frames:A.frames=some outer
 mod:Mod K mg base
 bs:∀b o,base.get? b=some o->s.heap.get? b=some o/\H b=none
 bsz:base.objs.size<=s.heap.objs.size
 funs:s.heap.FunFrames base outer
 frf:∀b∈frs outer,H b=none
 hok:HOk P w H s.heap
 bare:AllBare s.gens
def CE(outer:List Env)(P:Program)(w:World)(H:Hp)(s:Shared)(Q:VK)(u:Value)(s':Shared):Prop:=
 ∃v H',s'.os=s.os/\AllBare s'.gens/\Un (frs outer) [] H H' s.heap s'.heap/\HOk P w H' s'.heap/\RelV v u/\Q v H'
def CR(CX:CXT)(outer:List Env)(P:Program)(w:World)(H:Hp)(s:Shared)(Q:VK)(E:XK)(r:Result)(s':Shared):Prop:=
 match r with
 | .ok (.ret u)=>CE outer P w H s Q u s'
 | .ok _=>False
 | .error e=>CX outer H s E e s'
structure FnOk(P:Program)(w:World)(K:PySem.W.Frag)(mg:Str->Option Value)(base:Heap)(CX:CXT)(k:Nat)(f:Addr)(fd:FuncData)(ps:List Str)(sp:Sp):Prop where
 len:∀vs H Q E,sp vs H Q E->vs.length=ps.length
 run:∀(A:Around) (outer:List Env) (s:Shared) (H:Hp) (args:Args) (us:List Value) (vs:List V) (Q:VK) (E:XK),Room k A->Env0 P w K mg base A outer s H->BindsTo s fd args (ps.zip us)->Vals vs us->sp vs H Q E->
  codeAny (model P w) A (.call (.ref f) args) (CR CX outer P w H s Q E) s
theorem FnOk.imp{P:Program}{w:World}{K:PySem.W.Frag}{mg:Str->Option Value}{base:Heap}{CX:CXT}{k:Nat}{f:Addr}{fd:FuncData}{ps:List Str}{sp sp':Sp}(F:FnOk P w K mg base CX k f fd ps sp)
 (h:∀vs H Q E,sp' vs H Q E->sp vs H Q E):FnOk P w K mg base CX k f fd ps sp':=
 ⟨λvs H Q E q=>F.len vs H Q E (h _ _ _ _ q),λA outer s H args us vs Q E hr he hb hv hs=>F.run A outer s H args us vs Q E hr he hb hv (h _ _ _ _ hs)⟩
section
variable{X:Cx}{pins:List (Addr×Obj)}{σ:St}{H:Hp}{s s':Shared}
theorem Inv.env0(I:Inv X pins σ H s):Env0 X.prog X.w X.K X.mg X.base X.A X.stack s H:=
 ⟨I.ok.frames,I.ok.mod,I.bs,Nat.le_trans I.ok.bsz I.sz,I.stack,I.stkFree,I.hok,I.bare⟩
theorem Inv.after{Q:VK}{u:Value}(I:Inv X pins σ H s)(h:CE X.stack X.prog X.w H s Q u s'):EP X pins σ Q u s':=by
 obtain⟨v,H',os,bare,un,hok,r,q⟩:=h
 obtain⟨hh,g,d,t,os'⟩:=s'
 obtain rfl:os'=s.os:=os
 exact⟨v,H',I.call (h':=hh) (g':=g) (d':=d) (t':=t) (ch:=[]) un hok bare (λb z=>absurd z (by simp)),r,q⟩
end
noncomputable def znA(sp:Sp)(dvs:List V)(E:XK)(t:TA):TE:=λσ H Q=>t σ H λvs H1=>sp (vs ++dvs) H1 Q E
def Binds(K:PySem.W.Frag)(fd:FuncData)(ps:List Str)(ds:List Value):Prop:=
 ∀(s:Shared) (us:List Value),K.In s.heap->(us ++ds).length=ps.length->BindsTo s fd ⟨us,[]⟩ (ps.zip (us ++ds))
theorem Binds.all{K:PySem.W.Frag}{fd:FuncData}{ps:List Str}(h:∀us:List Value,us.length=ps.length->bindArgs fd ⟨us,[]⟩=pure (ps.zip us)):Binds K fd ps []:=λs us _ hl=>by
 rw[List.append_nil] at hl⊢
 exact .of_eq (h us hl)
def zhN(CX:CXT)(X:Cx)(E:XK):Prop:=∀(pins:List (Addr×Obj)) (σ:St) (H:Hp) (s:Shared) (e:Value) (s':Shared),Inv X pins σ H s->CX X.stack H s E e s'->X.xe e s'
section
variable{X:Cx}{CX:CXT}{k:Nat}{f C:Addr}{fd:FuncData}{ps:List Str}{sp:Sp}{dvs:List V}{ds:List Value}{E:XK}{x m:Str}{p pos apos:Pos}{e o:Expr}{es:List Expr}{ta:TE}{t:TA}
theorem zqT{pins:List (Addr×Obj)}{σ:St}{H:Hp}{s:Shared}{Q:VK}{us:List Value}{vs:List V}(F:FnOk X.prog X.w X.K X.mg X.base CX k f fd ps sp)(hr:Room k X.A)(hb:Binds X.K fd ps ds)(hd:Vals dvs ds)(hx:zhN CX X E)
 (I:Inv X pins σ H s) (r:Vals vs us) (h:sp (vs ++dvs) H Q E):wpAny (model X.prog X.w) X.A (call (.ref f) us) (EP X pins σ Q) X.xe s:=by
 have r2:Vals (vs ++dvs) (us ++ds):=r.append hd
 have hl:(us ++ds).length=ps.length:=by rw[←r2.length];exact F.len _ _ _ _ h
 refine wpAny_call (codeAny_mono (F.run X.A X.stack s H ⟨us,[]⟩ (us ++ds) (vs ++dvs) Q E hr I.env0 (hb s us I.kIn hl) r2 h) λr s' hq=>?_)
 cases r with
 |error e=>exact hx pins σ H s e s' I hq
 |ok fl=>
  cases fl with
  |ret u=>exact I.after hq
  |next=>exact False.elim hq
  |brk=>exact False.elim hq
  |cont=>exact False.elim hq
theorem zpo(F:FnOk X.prog X.w X.K X.mg X.base CX k f fd ps sp)(hr:Room k X.A)(hg:Gl X x)(hm:X.mg x=some (.ref f))(hk:PySem.W.keepIn X.K (.ref f)=true)(hb:Binds X.K fd ps ds)(hd:Vals dvs ds)(hx:zhN CX X E)
 (ha:PA X (e::es) t) (hdb:(x==("__debug__":Str))=false:=by decide) (he:starEach (e::es) X.env=(false,eval e X.env)::starEach es X.env:=by rfl) (hpl:(backTo pos (starEach es X.env)).any (·.1)=false:=by rfl):
 PE X (.Call (.Name x p) (e::es) [] pos) (znA sp dvs E t):=by
 intro pins s σ H Q I h
 refine wpAny_Call_Name_kw (zk6 I hg hm ?_ hdb)
 refine PySem.W.callWith_K (h₀:=X.base) I.ok.mod.kin hk (thn (ha pos pins s σ H _ I h) λus s1 ⟨vs,H1,I1,r,q⟩=>⟨I1.kIn,?_⟩) he hpl
 exact zqT F hr hb hd hx I1 r q
structure Mk(K:PySem.W.Frag)(C f:Addr):Prop where
 makes:PySem.W.makesIn K C=true
 init:PySem.W.findIn K (.ref C) "__init__"=some (some (.ref f))
 fn:PySem.W.isFn K (.ref f)=true
 kp:PySem.W.keepIn K (.ref C)=true
end
section
variable{X:Cx}{CX:CXT}{k:Nat}{f C:Addr}{fd:FuncData}{ps ks:List Str}{sp:Sp}{E:XK}{x m:Str}{p pos apos kpos:Pos}{e o:Expr}{es:List Expr}{kws:List Keyword}{te ta:TE}{t tk:TA}{nm:Option Str}
structure KBinds(K:PySem.W.Frag)(fd:FuncData)(ps ks:List Str)(g:List Value->List Value->List Value)(gV:List V->List V->List V):Prop where
 to:∀(s:Shared) (us ws:List Value),K.In s.heap->(g us ws).length=ps.length->BindsTo s fd ⟨us,ks.zip ws⟩ (ps.zip (g us ws))
 rel:∀{vs:List V} {us:List Value} {zs:List V} {ws:List Value},Vals vs us->Vals zs ws->Vals (gV vs zs) (g us ws)
variable{g:List Value->List Value->List Value}{gV:List V->List V->List V}
end
structure FnScope(N P:List Str)(sc:Scope):Prop where
 kind:sc.kind= .function
 co:sc.isCoroutine=false
 gen:sc.isGenerator=false
 nd:N.Nodup
 pre:N.take P.length=P
 par:∀x∈P,sc.names.lookup x=some .local\/sc.names.lookup x=some .cell
 nofree:∀y∈sc.names,y.2≠ .free
theorem zhk{kindOf:Str->Option NameKind}{x:Str}:∀{binds:List (Str×Value)} {m:Str->Option Value},(∀v,(x,v)∉binds)->bindL kindOf binds m x=m x
 |[],_,_=>rfl
 |(n,v)::r,m,h=>by
  unfold bindL
  rw[zhk λw hw=>h w (List.mem_cons_of_mem _ hw)]
  split
  ·have:x≠n:=by rintro rfl;exact h v List.mem_cons_self
   simp[this]
  ·rfl
theorem zhJ{kindOf:Str->Option NameKind}{x:Str}:∀{binds:List (Str×Value)} {m:Str->Option Value},(∀v,(x,v)∉binds)->bindC kindOf binds m x=m x
 |[],_,_=>rfl
 |(n,v)::r,m,h=>by
  unfold bindC
  rw[zhJ λw hw=>h w (List.mem_cons_of_mem _ hw)]
  split
  ·rfl
  ·have:x≠n:=by rintro rfl;exact h v List.mem_cons_self
   simp[this]
theorem zhn{kindOf:Str->Option NameKind}{x:Str}{v:Value}:∀{P:List Str} {vs:List Value} {i:Nat} {m:Str->Option Value},P.Nodup->P[i]?=some x->vs[i]?=some v->kindOf x=some .local->
 bindL kindOf (P.zip vs) m x=some v
 |[],_,_,_,_,h,_,_=>by simp at h
 |_::_,[],_,_,_,_,h,_=>by simp at h
 |p::P,w::vs,0,m,nd,h1,h2,hk=>by
  simp at h1 h2;subst h1;subst h2
  show bindL kindOf ((p,w)::P.zip vs) m p=_
  unfold bindL
  rw[zhk λv hv=>(List.nodup_cons.mp nd).1 (List.of_mem_zip hv).1,if_pos hk]
  simp
 |p::P,w::vs,i+1,m,nd,h1,h2,hk=>by
  show bindL kindOf ((p,w)::P.zip vs) m x=_
  unfold bindL
  exact zhn (i:=i) (List.nodup_cons.mp nd).2 (by simpa using h1) (by simpa using h2) hk
theorem zhl{kindOf:Str->Option NameKind}{x:Str}{v:Value}:∀{P:List Str} {vs:List Value} {i:Nat} {m:Str->Option Value},P.Nodup->P[i]?=some x->vs[i]?=some v->kindOf x≠some .local->
 bindC kindOf (P.zip vs) m x=some v
 |[],_,_,_,_,h,_,_=>by simp at h
 |_::_,[],_,_,_,_,h,_=>by simp at h
 |p::P,w::vs,0,m,nd,h1,h2,hk=>by
  simp at h1 h2;subst h1;subst h2
  show bindC kindOf ((p,w)::P.zip vs) m p=_
  unfold bindC
  rw[zhJ λv hv=>(List.nodup_cons.mp nd).1 (List.of_mem_zip hv).1,if_neg hk]
  simp
 |p::P,w::vs,i+1,m,nd,h1,h2,hk=>by
  show bindC kindOf ((p,w)::P.zip vs) m x=_
  unfold bindC
  exact zhl (i:=i) (List.nodup_cons.mp nd).2 (by simpa using h1) (by simpa using h2) hk
noncomputable def zej(N:List Str)(vs:List V):St:=vs.map some ++List.replicate (N.length -vs.length) none
noncomputable def zjp(CX:CXT)(P:Program)(w:World)(K:PySem.W.Frag)(mg:Str->Option Value)(base:Heap)(N:List Str)(qual:Str)(scope:Scope)(f:Addr)(cd:Value)(A:Around)(outer:List Env)(s:Shared)(H:Hp)(E:XK):Cx where
 prog:=P
 w:=w
 K:=K
 mg:=mg
 base:=base
 A:=A.deeper (envOfC qual scope s.heap.objs.size f cd)
 N:=N
 s₀:=s
 H₀:=H
 env:=envOfC qual scope s.heap.objs.size f cd
 outer:=outer
 stack:=envOfC qual scope s.heap.objs.size f cd::outer
 ex:=[]
 calm:=true
 fn:=λ_=>true
 pn:=[]
 xe:=λe s'=>wpAny (model P w) (A.deeper (envOfC qual scope s.heap.objs.size f cd)) (leaving (envOfC qual scope s.heap.objs.size f cd) e) (λ_ s''=>CX outer H s E e s'') (λe' s''=>CX outer H s E e' s'') s'
theorem ziH{sc:Scope}{n:Nat}{x:Str}(h:sc.names.lookup x=some .cell):∃c,(cellsFrom n sc.names []).lookup x=some c:=by
 have q:=PySem.W.cellsFrom_some sc.names n [] (.inl h)
 exact Option.isSome_iff_exists.mp q
theorem zmp{CX:CXT}{P:Program}{w:World}{K:PySem.W.Frag}{mg:Str->Option Value}{base:Heap}{N ps:List Str}{qual:Str}{scope:Scope}{f:Addr}{cd:Value}{A:Around}{outer:List Env}{s s1:Shared}{H:Hp}{E:XK}{us:List Value}{vs:List V}
 (S:FnScope N ps scope) (hd:A.handled=none) (e0:Env0 P w K mg base A outer s H) (hl:vs.length=ps.length) (r:Vals vs us)
 (x:InCallC s s.heap.objs.size (bindL (envOfC qual scope s.heap.objs.size f cd).kindOf (ps.zip us) λ_=>none) (cellsFrom (s.heap.objs.size+1) scope.names []) (bindC (envOfC qual scope s.heap.objs.size f cd).kindOf (ps.zip us) λ_=>none) s1):
 Inv (zjp CX P w K mg base N qual scope f cd A outer s H E) [] (zej N vs) H s1:=by
 have hpl:ps.length<=N.length:=by have:=congrArg List.length S.pre;rw[List.length_take] at this;omega
 obtain⟨h1,tk,rfl,hk⟩:=x.done
 have noA:∀b:Addr,b∉(zjp CX P w K mg base N qual scope f cd A outer s H E).ex:=λb z=>absurd (show b∈([]:List Addr)from z) (by simp)
 refine⟨⟨e0.mod,S.kind,rfl,rfl,Nat.le_refl _,λy z c h1 h2=>?_,λy hy=>?_,λy c _ h=>?_,λ_=>hd,Around.frames_deeper e0.frames, .inr ⟨rfl,rfl⟩,λb z=>absurd z (noA b),e0.bs,e0.bsz,λb _ _=>noA b,λb z=>absurd z (noA b),e0.funs,e0.frf⟩,
  rfl,e0.bare,Un.kept hk,⟨_,x.toInCall.ns,λi y v h1 h2 h3=>?_⟩,λy c h=>⟨_,x.cell y c h⟩,e0.hok.fresh (Nat.le_refl _),λy c h=>?_,λp hp=>absurd (show p∈([]:List (Addr×Obj))from hp) (by simp),e0.hok.kept hk,?_⟩
 ·exact name_of_addr x.apart (PySem.mem_of_lookup h1) (PySem.mem_of_lookup h2)
 ·have hy:scope.names.lookup y=some .cell\/scope.names.lookup y=some .free:=hy
  rcases hy with hy|hy
  ·exact ziH hy
  ·exact absurd rfl (S.nofree _ (PySem.mem_of_lookup hy))
 ·exact Nat.le_of_lt (x.above y c (PySem.mem_of_lookup h))
 ·have hi:i<vs.length:=by
   unfold zej at h2
   by_cases hi:i<vs.length
   ·exact hi
   ·rw[List.getElem?_append_right (by simpa using hi)] at h2
    rw[List.getElem?_replicate] at h2
    split at h2<;>cases h2
  have ha:vs[i]?=some v:=by
   unfold zej at h2
   rw[List.getElem?_append_left (by simpa using hi),List.getElem?_map] at h2
   cases e:vs[i]? with
   |none=>rw[e] at h2;cases h2
   |some a=>rw[e] at h2;cases h2;rfl
  obtain⟨u,hu,rv⟩:=r.get ha
  have hp:ps[i]?=some y:=by
   rw[←S.pre,List.getElem?_take_of_lt (by omega)];exact h1
  have ndP:ps.Nodup:=by rw[←S.pre];exact S.nd.sublist (List.take_sublist _ _)
  refine⟨u,rv,?_⟩
  rcases S.par y (List.mem_of_getElem? hp)with k|k
  ·exact .inl ⟨k,zhn ndP hp hu k⟩
  ·obtain ⟨c,e⟩:=ziH (n:=s.heap.objs.size+1) k
   refine .inr ⟨.inl k,c,e,?_⟩
   have q:=x.cell y c e
   rw[zhl ndP hp hu (by show scope.names.lookup y≠_;rw[k];decide)] at q
   exact q
 ·exact e0.hok.fresh (Nat.le_of_lt (x.above y c (PySem.mem_of_lookup h)))
 ·unfold zej
  show _=N.length
  rw[List.length_append,List.length_map,List.length_replicate]
  omega
theorem zqi{CX:CXT}{P:Program}{w:World}{K:PySem.W.Frag}{mg:Str->Option Value}{base:Heap}{k:Nat}{f:Addr}{name qual:Str}{params:Arguments}{body:List Stmt}{scope:Scope}{dV kV doc pm cdv ct oc:Value}{an od:Option Addr}
 {osl:Array (Option Value)} {N ps:List Str} {sp:Sp} (lk:K.lookup f=some ⟨oc,od, .func (PySem.W.fnOf name qual params body scope dV kV doc pm an cdv ct),osl⟩) (hcd:PySem.W.codeIn K cdv qual=true) (S:FnScope N ps scope)
 (len:∀vs H Q E,sp vs H Q E->vs.length=ps.length)
 (hbody:∀(A:Around) (outer:List Env) (s:Shared) (H:Hp) (vs:List V) (Q:VK) (E:XK),Room k (A.deeper (envOfC qual scope s.heap.objs.size f cdv))->sp vs H Q E->
   ∃t,PSs (zjp CX P w K mg base N qual scope f cdv A outer s H E) body t/\t {nx:=λ_ H'=>Q .non H',rt:=Q} (zej N vs) H):
 FnOk P w K mg base CX (k+1) f (PySem.W.fnOf name qual params body scope dV kV doc pm an cdv ct) ps sp:=by
 refine⟨len,λA outer s H args us vs Q E hr e0 hb r hsp=>?_⟩
 have hl:=len _ _ _ _ hsp
 have KX:K.In s.heap:=e0.mod.kin.keeps λb o e=>(e0.bs b o e).1
 have lim:s.heap.NoLimit:=e0.mod.nolimit.keeps λb o e=>(e0.bs b o e).1
 have hkind:∀y∈ps.zip us,scope.names.lookup y.1=some .local\/(scope.names.lookup y.1=some .cell/\((cellsFrom (s.heap.objs.size+1) scope.names []).lookup y.1).isSome=true):=λ⟨n,v⟩ hy=>by
  rcases S.par n (List.of_mem_zip hy).1 with q|q
  ·exact .inl q
  ·exact .inr ⟨q,PySem.W.cellsFrom_some _ _ _ (.inl q)⟩
 refine codeAny_call_function hr.depth (KX _ _ lk) rfl S.co S.gen rfl (PySem.W.codeRec_of KX hcd) (hb _ _ _ _ ?_)
 refine wpAny_newFunctionEnv_cells S.kind hkind λenv he s1 x=>?_
 subst he
 refine⟨lim.keeps x.toInCall.keep,codeAny_func ?_⟩
 obtain⟨t,ht,hq⟩:=hbody A outer s H vs Q E (hr.deeper _) hsp
 have I:Inv (zjp CX P w K mg base N qual scope f cdv A outer s H E) [] (zej N vs) H s1:=zmp S hr.hd e0 hl r x
 refine wpAny_mono (ht [] s1 (zej N vs) H _ I hq) (λfl s' hs=>?_) λe s' hs=>hs
 have fin:∀{σ':St} {H':Hp} {v:V} {u:Value},Inv (zjp CX P w K mg base N qual scope f cdv A outer s H E) [] σ' H' s'->RelV v u->Q v H'->CE outer P w H s Q u s':=
  λ{σ' H' v u} J rv q=>⟨v,H',J.os,J.bare,J.base,J.hok,rv,q⟩
 cases fl with
 |ret u=>
  obtain⟨v,σ',H',J,rv,q⟩:=hs
  exact fin J rv q
 |next=>
  obtain⟨σ',H',J,q⟩:=hs
  exact fin (v:=V.non) (u:=Value.none) J rfl q
 |brk=>
  obtain⟨_,_,_,q⟩:=hs
  exact False.elim q
 |cont=>
  obtain⟨_,_,_,q⟩:=hs
  exact False.elim q
section
variable{X:Cx}{x:Str}{p pos:Pos}{e:Expr}{es:List Expr}{t:TA}{id T:String}{r:List V->Hp->VK->Prop}
def tCB(r:List V->Hp->VK->Prop)(t:TA):TE:=λσ H Q=>t σ H λvs H1=>r vs H1 Q
theorem znS(hc:CallR X (.builtin id) r)(hg:Gl X x)(hm:X.mg x=none)(hv:bootBuiltins x=some (.builtin id))(ha:PA X (e::es) t)(hn:x≠"__name__":=by decide)(hdb:(x==("__debug__":Str))=false:=by decide)
 (he:starEach (e::es) X.env=(false,eval e X.env)::starEach es X.env:=by rfl) (hpl:(backTo pos (starEach es X.env)).any (·.1)=false:=by rfl):PE X (.Call (.Name x p) (e::es) [] pos) (tCB r t):=by
 intro pins s σ H Q I h
 refine wpAny_Call_Name_kw (zdT I hg hm hv ?_ hn hdb)
 exact PyProof.Rows.callWith_builtin1 (thn (ha pos pins s σ H _ I h) λus s1 ⟨vs,H1,I1,r1,q1⟩=>hc pins s1 σ H1 vs us Q I1 r1 q1) he hpl
theorem zl5(hc:CallR X (.type T) r)(hg:Gl X x)(hm:X.mg x=none)(hv:bootBuiltins x=some (.type T))(ha:PA X (e::es) t)(hn:x≠"__name__":=by decide)(hdb:(x==("__debug__":Str))=false:=by decide)
 (he:starEach (e::es) X.env=(false,eval e X.env)::starEach es X.env:=by rfl) (hpl:(backTo pos (starEach es X.env)).any (·.1)=false:=by rfl):PE X (.Call (.Name x p) (e::es) [] pos) (tCB r t):=by
 intro pins s σ H Q I h
 refine wpAny_Call_Name_kw (zdT I hg hm hv ?_ hn hdb)
 exact PyProof.Rows.callWith_type1 (thn (ha pos pins s σ H _ I h) λus s1 ⟨vs,H1,I1,r1,q1⟩=>hc pins s1 σ H1 vs us Q I1 r1 q1) he hpl
end
end L2
namespace HT
open PySem PyProof.Rows
section
open PySem.SeqAt
open PySem.AutoSeq1 (wpAny_loadPart')
open PySem.MeetsSeq PySem.MeetsSeq2 PySem.MeetsSeq3
end
section
variable{prog:Program}{w:World}{A:Around}{E:Value->Shared->Prop}{s:Shared}
theorem cat_tup{t b:Addr}{vs ws:List Value}{Q:Value->Shared->Prop}(ht:IsTup s.heap t vs.toArray)(hb:IsTup s.heap b ws.toArray)(hv:vs≠ [])
 (h1:ws=[]->Q (.ref t) s) (h2:ws≠ []->Q (.ref s.heap.objs.size) {s with heap:=s.heap.push {cls:= .type "tuple",data:= .seq (vs ++ws).toArray}})
 (hsz:vs.length+ws.length<=sizeLine):wpAny (model prog w) A (binaryOp .Add (.ref t) (.ref b)) Q E s:=by
 obtain⟨⟨cls,dd,data,sl⟩,ho,hc,n,hd⟩:=id ht
 obtain⟨⟨cls2,dd2,data2,sl2⟩,ho2,hc2,n2,hd2⟩:=id hb
 simp only at hc hd hc2 hd2
 subst hc hd hc2 hd2
 have e:vs.toArray ++ws.toArray=(vs ++ws).toArray:=by simp
 by_cases hw:ws=[]
 ·exact concat_meets ⟨_,ho,rfl⟩ ⟨_,ho2,rfl⟩ noFill_tuple_add seq_tuple_add PySem.F.slot_tuple_add PySem.F.entry_tuple_add (PySem.F.args_tuple_add_2 _ _)
   (tuple_addW1 t b vs.toArray ws.toArray n n2 dd dd2 sl sl2 (by simpa using hv) (by simp[hw])) ⟨ho,ho2,h1 hw⟩
 ·refine concat_meets ⟨_,ho,rfl⟩ ⟨_,ho2,rfl⟩ noFill_tuple_add seq_tuple_add PySem.F.slot_tuple_add PySem.F.entry_tuple_add (PySem.F.args_tuple_add_2 _ _)
   (tuple_addW2 t b vs.toArray ws.toArray n n2 dd dd2 sl sl2 (by simpa using hv) (by simpa using hw) (by rw[List.size_toArray,List.size_toArray];exact hsz)) ⟨ho,ho2,?_⟩
  rw[e]
  exact h2 hw
noncomputable def sIx(n d:Nat):Option Int->Nat
 |none=>d
 |some v=>if v<0 then(v+(n:Int)).toNat else min v.toNat n
theorem zrl(n d:Nat)(hd:d<=n)(o:Option Int):sIx n d o<=n:=by
 cases o with
 |none=>exact hd
 |some v=>
  show(if v<0 then(v+(n:Int)).toNat else min v.toNat n)<=n
  by_cases hv:v<0
  ·rw[if_pos hv];omega
  ·rw[if_neg hv];exact Nat.min_le_right _ _
theorem zkZ(v:Int)(n d:Nat):(if v<0 then max (v+(n:Int)) 0 else min v (n:Int))=((sIx n d (some v):Nat):Int):=by
 show(if v<0 then max (v+(n:Int)) 0 else min v (n:Int))=(((if v<0 then(v+(n:Int)).toNat else min v.toNat n):Nat):Int)
 by_cases hv:v<0
 ·simp only[if_pos hv];omega
 ·simp only[if_neg hv];omega
theorem zj5(lo hi:Option Int)(n:Nat):Builtin.Slice.sliceAdjust lo hi 1 (n:Int)=(((sIx n 0 lo:Nat):Int),((sIx n n hi:Nat):Int)):=by
 have h1:¬((1:Int)<0):=by omega
 unfold Builtin.Slice.sliceAdjust
 simp only[h1,if_false]
 refine Prod.ext ?_ ?_
 ·cases lo with
  |none=>rfl
  |some v=>exact zkZ v n 0
 ·cases hi with
  |none=>rfl
  |some v=>exact zkZ v n n
theorem zj9(i j:Nat):Builtin.Slice.slicePlaces (i:Int) (j:Int) 1=j -i:=by
 unfold Builtin.Slice.slicePlaces
 have h1:(1:Int)>0:=by omega
 simp only[h1,if_true,Int.ediv_one]
 split<;>omega
theorem zgX{v:Value}{o:Option Int}{Q:Option Int->Shared->Prop}(p:IsPart v o)(h:Q o s):wpAny (model prog w) A (Builtin.Slice.slicePartIndex v) Q E s:=by
 cases p with
 |none=>exact slicePart_none h
 |int i t=>exact slicePart_int h
theorem zdd{sl:Addr}{vl vu:Value}{lo hi:Option Int}{n:Nat}{Q:Int×Int×Nat->Shared->Prop}(hs:s.heap.IsSliceOf sl vl vu .none)(pl:IsPart vl lo)(pu:IsPart vu hi)
 (h:Q (((sIx n 0 lo:Nat):Int),1,sIx n n hi -sIx n 0 lo) s):wpAny (model prog w) A (Builtin.Slice.sliceApplied (.ref sl) (pure (n:Int))) Q E s:=by
 obtain⟨os,hos,hcs,hds⟩:=id hs
 unfold Builtin.Slice.sliceApplied Builtin.Slice.sliceFields
 refine wpAny_bind (wpAny_bind (wpAny_field hos hds (x:=vl) rfl (wpAny_bind (wpAny_field hos hds (x:=vu) rfl (wpAny_bind (wpAny_field hos hds (x:= .none) rfl (wpAny_pure ?_)))))))
 refine wpAny_bind (slicePart_none ?_)
 show wpAny _ _ (if((1:Int)==0)=true then _ else _) _ _ s
 rw[if_neg (by decide)]
 refine wpAny_bind (zgX pl (wpAny_bind (zgX pu (wpAny_bind (wpAny_pure ?_)))))
 show wpAny _ _ (match Builtin.Slice.sliceAdjust lo hi 1 (n:Int)with|(lo,hi)=>pure (lo,(1:Int),Builtin.Slice.slicePlaces lo hi 1)) _ _ s
 rw[zj5 lo hi n]
 show wpAny _ _ (pure (((sIx n 0 lo:Nat):Int),(1:Int),Builtin.Slice.slicePlaces ((sIx n 0 lo:Nat):Int) ((sIx n n hi:Nat):Int) 1)) _ _ s
 rw[zj9]
 exact wpAny_pure h
theorem znK(xs:Array Value)(i k:Nat):((List.range k).filterMap λ(m:Nat)=>xs[((i:Int)+(m:Int)*1).toNat]?).toArray=((xs.toList.drop i).take k).toArray:=by
 have e:(λ(m:Nat)=>xs[((i:Int)+(m:Int)*1).toNat]?)=λm=>xs[i+m]?:=by
  funext m
  have:((i:Int)+(m:Int)*1).toNat=i+m:=by omega
  rw[this]
 rw[e]
 have:=pick_run xs i k
 rw[List.filterMap_map] at this
 have e2:((λx=>xs[x]?)∘λx=>i+x)=λm=>xs[i+m]?:=rfl
 rw[e2] at this
 rw[this]
theorem getItem_tuple_cut{t sl:Addr}{items:Array Value}{vl vu:Value}{lo hi:Option Int}{Q:Value->Shared->Prop}(ht:IsTup s.heap t items)(hs:s.heap.IsSliceOf sl vl vu .none)(pl:IsPart vl lo)(pu:IsPart vu hi)
 (hw:¬(sIx items.size 0 lo=0/\sIx items.size items.size hi=items.size))
 (h:Q (.ref s.heap.objs.size) {s with heap:=s.heap.push {cls:= .type "tuple",data:= .seq ((items.toList.drop (sIx items.size 0 lo)).take (sIx items.size items.size hi -sIx items.size 0 lo)).toArray}})
 (hsz:items.size<=sizeLine):wpAny (model prog w) A (getItem (.ref t) (.ref sl)) Q E s:=by
 have htake:sizeOk (.seq ((items.toList.drop (sIx items.size 0 lo)).take (sIx items.size items.size hi -sIx items.size 0 lo)).toArray):=by
  show((items.toList.drop (sIx items.size 0 lo)).take (sIx items.size items.size hi -sIx items.size 0 lo)).toArray.size<=sizeLine
  rw[List.size_toArray,List.length_take,List.length_drop,Array.length_toList]
  omega
 have hj:sIx items.size items.size hi<=items.size:=zrl _ _ (Nat.le_refl _) hi
 obtain⟨os,hos,hcs,hds⟩:=id hs
 have hTs:s.TypeIs (.ref sl) "slice":=⟨os,hos,hcs⟩
 unfold getItem
 try with_reducible refine wpAny_holding ?_
 first|refine wpAny_bind (wpAny_pure ?_)|skip
 refine wpAny_bind (wpAny_sequenceKey ht.typeIs (by decide) ?_)
 refine wpAny_bind (wpAny_callSpecial?_slot (name:=Str.ofString "__getitem__") ht.typeIs PyProof.Rows.slot_tuple_getitem
  (wpAny_call_entry PyProof.Rows.slot_tuple_getitem ht.typeIs entry_tuple_getitem ?_ (args_tuple_getitem _ _)))
 show wpAny _ _ (Builtin.Tuple.tupleItemsOf (.ref t)>>=_) _ _ s
 refine wpAny_bind (tupleItemsOf_ ht ?_)
 refine wpAny_bind (wpAny_typeOf hTs ?_)
 rw[if_pos (by decide)]
 refine wpAny_bind (zdd hs pl pu ?_)
 have hno:¬((((sIx items.size 0 lo:Nat):Int)==0&&(1:Int)==1&&(sIx items.size items.size hi -sIx items.size 0 lo)==items.size)=true):=by
  intro q
  rw[Bool.and_eq_true,Bool.and_eq_true] at q
  have q1:((sIx items.size 0 lo:Nat):Int)=0:=eq_of_beq q.1.1
  have q2:sIx items.size items.size hi -sIx items.size 0 lo=items.size:=eq_of_beq q.2
  exact hw ⟨by omega,by omega⟩
 show wpAny _ _ (if(((sIx items.size 0 lo:Nat):Int)==0&&(1:Int)==1&&(sIx items.size items.size hi -sIx items.size 0 lo)==items.size)=true then _ else _) _ _ s
 rw[if_neg hno,znK]
 first
  |exact wpAny_bind (m:=Builtin.Tuple.tupleExact _) (wpAny_newObj_type (wpAny_pure ⟨_,rfl,wpAny_pure h⟩) htake)
  |exact wpAny_bind (m:=Builtin.Tuple.tupleExact _) (wpAny_newObj_type (wpAny_bind (wpAny_pure (wpAny_pure ⟨_,rfl,wpAny_pure h⟩))) htake)
  |exact wpAny_bind (wpAny_bind (m:=Builtin.Tuple.tupleExact _) (wpAny_newObj_type (wpAny_pure (wpAny_pure ⟨_,rfl,wpAny_pure h⟩)) htake))
  |exact wpAny_bind (wpAny_bind (m:=Builtin.Tuple.tupleExact _) (wpAny_newObj_type (wpAny_pure ⟨_,rfl,wpAny_pure h⟩) htake))
end
end HT
namespace L2
open PySem PySem.Spec PyProof.Rows
noncomputable abbrev TO:=St->Hp->(Option Int->Hp->Prop)->Prop
def PO(X:Cx)(e:Option Expr)(t:TO):Prop:=
 ∀(pins:List (Addr×Obj)) (s:Shared) (σ:St) (H:Hp) (Q:Option Int->Hp->Prop),Inv X pins σ H s->t σ H Q->
  wpAny (model X.prog X.w) X.A (evalPart e X.env) (λu s'=>∃o H',Inv X pins σ H' s'/\IsPart u o/\Q o H') X.xe s
noncomputable def zee:TO:=λ_ H Q=>Q none H
noncomputable def zhm(t:TE):TO:=λσ H Q=>t σ H λx H1=>∃i,x= .int i/\Q (some i) H1
section
variable{X:Cx}{e:Expr}{te:TE}{lo hi:Option Expr}{tl th:TO}{pos p2:Pos}
theorem zpO:PO X none zee:=by
 intro pins s σ H Q I h
 rw[evalPart_none]
 exact wpAny_pure ⟨none,H,I, .none,h⟩
theorem zoQ(h:PE X e te):PO X (some e) (zhm te):=by
 intro pins s σ H Q I hw
 rw[evalPart_some]
 refine thn (h pins s σ H _ I hw) λu s1 ⟨x,H1,I1,r1,q1⟩=>?_
 obtain⟨i,rfl,q⟩:=q1
 obtain⟨t,rfl⟩:=r1
 exact⟨some i,H1,I1, .int i t,q⟩
def SlR(X:Cx)(r:V->Option Int->Option Int->Hp->VK->Prop):Prop:=
 ∀(pins:List (Addr×Obj)) (s:Shared) (σ:St) (H:Hp) (x:V) (v vl vu:Value) (lo hi:Option Int) (sl:Addr) (Q:VK),Inv X pins σ H s->RelV x v->s.heap.IsSliceOf sl vl vu .none->IsPart vl lo->IsPart vu hi->r x lo hi H Q->
  ∃T id,typeLookup (.type T) "__getitem__"=pure (some (.builtin id))/\s.TypeIs v T/\wpAny (model X.prog X.w) X.A (getItem v (.ref sl)) (EP X pins σ Q) X.xe s
def tSl(r:V->Option Int->Option Int->Hp->VK->Prop)(te:TE)(tl th:TO):TE:=λσ H Q=>te σ H λx H1=>tl σ H1 λl H2=>th σ H2 λu H3=>r x l u H3 Q
theorem zna{r:V->Option Int->Option Int->Hp->VK->Prop}(hr:SlR X r)(he:PE X e te)(hl:PO X lo tl)(hu:PO X hi th):PE X (.Subscript e (.Slice lo hi none p2) pos) (tSl r te tl th):=by
 intro pins s σ H Q I h
 refine Subscript_ (thn (he pins s σ H _ I h) λv s1 ⟨x,H1,I1,r1,q1⟩=>?_)
 refine wpAny_Slice (thn (hl pins s1 σ H1 _ I1 q1) λvl s2 ⟨l,H2,I2,pl,q2⟩=>thn (hu pins s2 σ H2 _ I2 q2) λvu s3 ⟨u,H3,I3,pu,q3⟩=>?_)
 rw[evalPart_none]
 refine wpAny_pure ?_
 have I4:Inv X pins σ H3 {s3 with heap:=s3.heap.push {cls:= .type "slice",data:= .fields #[vl,vu, .none]}}:=I3.kept (t':=s3.toks) λb ob q=>Heap.get?_push_of_some _ q
 obtain⟨T,id,hT,ht,hg⟩:=hr pins {s3 with heap:=s3.heap.push {cls:= .type "slice",data:= .fields #[vl,vu, .none]}} σ H3 x v vl vu l u s3.heap.objs.size Q I4 r1 (Heap.IsSliceOf.new ..) pl pu q3
 show wpAny (model X.prog X.w) X.A (subscriptTail e (.Slice lo hi none p2) v (.ref s3.heap.objs.size)) (EP X pins σ Q) X.xe {s3 with heap:=s3.heap.push {cls:= .type "slice",data:= .fields #[vl,vu, .none]}}
 exact tail_any (ops:=[.ref s3.heap.objs.size,v]) ht hT hg (by with_unfolding_all rfl)
noncomputable def zbu(xs:List V)(lo hi:Option Int):List V:=(xs.drop (HT.sIx xs.length 0 lo)).take (HT.sIx xs.length xs.length hi -HT.sIx xs.length 0 lo)
theorem zfB(xs:List V)(lo hi:Option Int):(zbu xs lo hi).length<=xs.length:=by
 unfold zbu
 rw[List.length_take,List.length_drop]
 omega
def zsw(K:PySem.W.Frag):V->Option Int->Option Int->Hp->VK->Prop:=λx lo hi H Q=>∃a xs,x= .ref a/\SqT K H a xs/\
 ¬(HT.sIx xs.length 0 lo=0/\HT.sIx xs.length xs.length hi=xs.length)/\∀p,H p=none->Q (.ref p) (upd H p (.tup (zbu xs lo hi)))
theorem zrm:SlR X (zsw X.K):=by
 intro pins s σ H x v vl vu lo hi sl Q I rx hs pl pu h
 obtain⟨a,xs,rfl,hx,hw,q⟩:=h
 cases rx
 obtain⟨its,r,ht,hz⟩:=I.tuple hx
 have hlen:its.toArray.size=xs.length:=by rw[List.size_toArray];exact r.length.symm
 refine⟨"tuple",_,PyProof.Rows.slot_tuple_getitem.lookup,ht.typeIs,?_⟩
 refine HT.getItem_tuple_cut ht hs pl pu (by rw[hlen];exact hw) ?_ (by rw[hlen];exact hz)
 rw[hlen]
 refine⟨.ref s.heap.objs.size,_,I.laid (t':=s.toks) (o:= .tup (zbu xs lo hi)) (λb ob q=>Heap.get?_push_of_some _ q) (Nat.le_refl _) ?_,rfl,q _ (I.hok.fresh (Nat.le_refl _))⟩
 exact⟨Nat.le_trans (zfB xs lo hi) hz,_,(r.drop (HT.sIx xs.length 0 lo)).take (HT.sIx xs.length xs.length hi -HT.sIx xs.length 0 lo),IsTup.new _ _,NoDict.new rfl (Heap.get?_push_size _ rfl)⟩
noncomputable def zrR(K:PySem.W.Frag):R2:=λx y H Q=>∃a b xs ys,x= .ref a/\y= .ref b/\SqT K H a xs/\SqT K H b ys/\xs≠ []/\xs.length+ys.length<=sizeLine/\
 (ys=[]->Q (.ref a) H)/\(ys≠ []->∀p,H p=none->Q (.ref p) (upd H p (.tup (xs ++ys))))
theorem Vals.nil_iff{xs:List V}{us:List Value}(r:Vals xs us):us=[]↔xs=[]:=by
 cases r with
 |nil=>simp
 |cons _ _=>simp
theorem zoI:OpR X (binaryOp .Add) (zrR X.K):=by
 intro pins s σ H x y v u Q I rx ry h
 obtain⟨a,b,xs,ys,rfl,rfl,ha,hb,hx,hz,q1,q2⟩:=h
 cases rx
 cases ry
 obtain⟨its,r1,p1,_⟩:=I.tuple ha
 obtain⟨its2,r2,p2,_⟩:=I.tuple hb
 refine HT.cat_tup p1 p2 (λz=>hx (r1.nil_iff.mp z)) (λz=>⟨.ref a,H,I,rfl,q1 (r2.nil_iff.mp z)⟩) (λz=>?_) (by rw[←r1.length,←r2.length];exact hz)
 refine⟨.ref s.heap.objs.size,_,I.laid (t':=s.toks) (o:= .tup (xs ++ys)) (λb ob q=>Heap.get?_push_of_some _ q) (Nat.le_refl _) ?_,rfl,q2 (λw=>z (r2.nil_iff.mpr w)) _ (I.hok.fresh (Nat.le_refl _))⟩
 exact⟨by rw[List.length_append];exact hz,_,r1.append r2,IsTup.new _ _,NoDict.new rfl (Heap.get?_push_size _ rfl)⟩
end
noncomputable def ixN(n:Nat)(i:Int):Option Nat:=if 0<=i then(if i<n then some i.toNat else none)else if -(n:Int)<=i then some (i+n).toNat else none
noncomputable def atI{α:Type}(xs:List α)(i:Int):Option α:=(ixN xs.length i).bind λj=>xs[j]?
theorem zk9{n:Nat}{i:Int}{j:Nat}(h:ixN n i=some j):seqIndex? i n=some j/\j<n/\-(n:Int)<=i/\i<n:=by
 unfold ixN at h
 by_cases h0:0<=i
 ·rw[if_pos h0] at h
  by_cases h1:i<n
  ·rw[if_pos h1] at h
   have e:i.toNat=j:=Option.some.inj h
   exact⟨by rw[seqIndex_of h0 h1,e],by omega,by omega,h1⟩
  ·rw[if_neg h1] at h;cases h
 ·rw[if_neg h0] at h
  by_cases h1: -(n:Int)<=i
  ·rw[if_pos h1] at h
   have e:(i+n).toNat=j:=Option.some.inj h
   exact⟨by rw[seqIndex_neg (by omega) h1,e],by omega,h1,by omega⟩
  ·rw[if_neg h1] at h;cases h
theorem zh8{α:Type}{xs:List α}{i:Int}{v:α}(h:atI xs i=some v):∃j,seqIndex? i xs.length=some j/\xs[j]?=some v/\j<xs.length/\-(xs.length:Int)<=i/\i<xs.length:=by
 unfold atI at h
 cases e:ixN xs.length i with
 |none=>rw[e] at h;cases h
 |some j=>
  rw[e] at h
  obtain⟨h1,h2,h3,h4⟩:=zk9 e
  exact⟨j,h1,h,h2,h3,h4⟩
theorem zG{α:Type}{xs:List α}{j:Nat}{v:α}(h:xs[j]?=some v):atI xs (j:Int)=some v:=by
 have hj:j<xs.length:=(List.getElem?_eq_some_iff.mp h).1
 have e:ixN xs.length (j:Int)=some j:=by
  unfold ixN
  rw[if_pos (by omega),if_pos (by omega)];simp
 unfold atI;rw[e];exact h
theorem zjo{α:Type}(xs:List α)(v:α):atI (xs ++ [v]) (-1)=some v:=by
 have hl:(xs ++ [v]).length=xs.length+1:=by simp
 have e:ixN (xs ++ [v]).length (-1)=some xs.length:=by
  unfold ixN
  rw[hl,if_neg (by decide),if_pos (by omega)]
  congr 1
  omega
 unfold atI
 rw[e]
 show(xs ++ [v])[xs.length]?=some v
 simp
def zlC(b:Expr):Prop:=∀o i,subscripted b false o i=operate [o,i] (getItem o i)
def IxR(X:Cx)(r:R2):Prop:=
 ∀(value slice:Expr) (pins:List (Addr×Obj)) (s:Shared) (σ:St) (H:Hp) (x y:V) (v u:Value) (Q:VK),Inv X pins σ H s->RelV x v->RelV y u->r x y H Q->
  subscripted slice false v u=operate [v,u] (getItem v u)->wpAny (model X.prog X.w) X.A (subscriptTail value slice v u) (EP X pins σ Q) X.xe s
def MtR(X:Cx)(id:String)(r:V->List V->Hp->VK->Prop):Prop:=
 ∀(pins:List (Addr×Obj)) (s:Shared) (σ:St) (H:Hp) (x:V) (xs:List V) (v:Value) (us:List Value) (Q:VK),Inv X pins σ H s->RelV x v->Vals xs us->r x xs H Q->
  wpAny (model X.prog X.w) X.A (call (.builtin id) (v::us)) (EP X pins σ Q) X.xe s
section
variable{X:Cx}{a b:Expr}{ta tb:TE}{pos:Pos}
theorem IxR.or{r r':R2}(h:IxR X r)(h':IxR X r'):IxR X (λx y H Q=>r x y H Q\/r' x y H Q):=by
 intro value slice pins s σ H x y v u Q I rx ry q hs
 rcases q with q|q
 ·exact h value slice pins s σ H x y v u Q I rx ry q hs
 ·exact h' value slice pins s σ H x y v u Q I rx ry q hs
theorem zr3{r:R2}(hr:IxR X r)(ha:PE X a ta)(hb:PE X b tb)(hs:zlC b):PE X (.Subscript a b pos) (tOp r ta tb):=by
 intro pins s σ H Q I h
 exact Subscript_ (zqI ha hb I h λv u s2 x y H2 I2 rx ry q=>hr a b pins s2 σ H2 x y v u Q I2 rx ry q (hs _ _))
noncomputable def zrL(K:PySem.W.Frag):R2:=λx y H Q=>∃p xs i v,x= .ref p/\y= .int i/\SqL K H p xs/\atI xs i=some v/\Q v H
noncomputable def zmq(K:PySem.W.Frag):R2:=λx y H Q=>∃p xs i v,x= .ref p/\y= .int i/\SqT K H p xs/\atI xs i=some v/\Q v H
noncomputable def zr5:R2:=λx y H Q=>∃z i c,x= .str z/\y= .int i/\z.length<=sizeLine/\atI z.cps.toList i=some c/\Q (.str ⟨#[c]⟩) H
theorem ix_list:IxR X (zrL X.K):=by
 intro value slice pins s σ H x y v u Q I rx ry h hs
 obtain⟨p,xs,i,z,rfl,rfl,hq,he,q⟩:=h
 cases rx
 obtain⟨t,rfl⟩:=ry
 obtain⟨its,r,pl,hz⟩:=I.list hq
 obtain⟨j,h1,h2,h3,h4,h5⟩:=zh8 he
 obtain⟨w,ew,rw'⟩:=r.get h2
 have hl:=r.length
 have hn:=zfj
 have fin:EP X pins σ Q w s:=⟨z,H,I,rw',q⟩
 by_cases h0:0<=i
 ·have hj:i.toNat=j:=by
   rw[seqIndex_of h0 h5] at h1
   exact Option.some.inj h1
  exact item_listR pl.isList h0 (by omega) (by rw[hj];simpa using ew) fin hs
 ·have hj:(i+(its.toArray.size:Int)).toNat=j:=by
   rw[seqIndex_neg (by omega) h4] at h1
   rw[List.size_toArray,←hl]
   exact Option.some.inj h1
  exact subscriptTail_builtinR (x:=w) pl.isList.typeIs slot_list_getitem.lookup
   (wpAny_getItem_list_neg (Q:=λr s'=>r=w/\EP X pins σ Q r s') pl.isList (by omega) (by rw[List.size_toArray]<;>omega) (by omega) (by rw[hj];simpa using ew) ⟨rfl,fin⟩) hs
theorem ix_tup:IxR X (zmq X.K):=by
 intro value slice pins s σ H x y v u Q I rx ry h hs
 obtain⟨p,xs,i,z,rfl,rfl,hq,he,q⟩:=h
 cases rx
 obtain⟨t,rfl⟩:=ry
 obtain⟨its,r,pl,hz⟩:=I.tuple hq
 obtain⟨j,h1,h2,h3,h4,h5⟩:=zh8 he
 obtain⟨w,ew,rw'⟩:=r.get h2
 have hl:=r.length
 have hn:=zfj
 have fin:EP X pins σ Q w s:=⟨z,H,I,rw',q⟩
 exact subscriptTail_builtinR (x:=w) pl.typeIs slot_tuple_getitem.lookup
  (getItem_tuple (j:=j) (Q:=λr s'=>r=w/\EP X pins σ Q r s') pl (by omega) (by omega) (by rw[List.size_toArray,←hl];exact h1) (by simpa using ew) ⟨rfl,fin⟩) hs
theorem znw:IxR X zr5:=by
 intro value slice pins s σ H x y v u Q I rx ry h hs
 obtain⟨z,i,c,rfl,rfl,hz,he,q⟩:=h
 obtain⟨t,rfl⟩:=rx
 obtain⟨t',rfl⟩:=ry
 obtain⟨j,h1,h2,h3,h4,h5⟩:=zh8 he
 have hl:z.cps.toList.length=z.length:=by simp[Str.length]
 rw[hl] at h1 h4 h5
 have hn:=zfj
 exact tail_any (typeIs_str s z t) slot_str_getitem.lookup (getItem_str (c:=c) (by
  have e1:decide (i< -(2^63:Int))=false:=decide_eq_false (by omega)
  have e2:decide (i≥2^63)=false:=decide_eq_false (by omega)
  rw[e1,e2,Bool.or_false]) (by rw[h1];simpa using h2) ⟨.str ⟨#[c]⟩,H,I.tok _,⟨_,rfl⟩,q⟩) hs
noncomputable def rIx(K:PySem.W.Frag):R2:=λx y H Q=>zrL K x y H Q\/zmq K x y H Q\/zr5 x y H Q
theorem zkk:IxR X (rIx X.K):=ix_list.or (ix_tup.or znw)
theorem zjV(its:List Value)(n j:Nat)(u:Value):Obj.mapSeq (·.setIfInBounds j u) {cls:= .type "list",data:= .seq its.toArray n}={cls:= .type "list",data:= .seq (its.set j u).toArray n}:=by
 simp[Obj.mapSeq]
theorem Inv.lst{pins:List (Addr×Obj)}{σ:St}{H:Hp}{s:Shared}{p:Addr}{xs:List V}(I:Inv X pins σ H s)(h:H p=some (.lst xs)):
 ∃(its:List Value) (n:Nat),Vals xs its/\s.heap.get? p=some {cls:= .type "list",data:= .seq its.toArray n}/\xs.length<=sizeLine:=by
 obtain⟨z,its,n,r,e⟩:=I.hok p _ h
 exact⟨its,n,r,e,z⟩
theorem Inv.lstUpd{pins:List (Addr×Obj)}{σ:St}{H:Hp}{s:Shared}{p:Addr}{xs ys:List V}{its its':List Value}{n n':Nat}{f:Obj->Obj}(I:Inv X pins σ H s)(h:H p=some (.lst xs))
 (ho:s.heap.get? p=some {cls:= .type "list",data:= .seq its.toArray n}) (hf:f {cls:= .type "list",data:= .seq its.toArray n}={cls:= .type "list",data:= .seq its'.toArray n'}) (r:Vals ys its') (hz:ys.length<=sizeLine) (t:Nat):
 Inv X pins σ (upd H p (.lst ys)) {s with heap:=s.heap.update p f,toks:=t}:=by
 have e:(s.heap.update p f).get? p=some {cls:= .type "list",data:= .seq its'.toArray n'}:=by
  rw[Heap.get?_update_self f ho (by rw[hf]<;>rfl),hf]
 refine I.write (x:=p) (e:=p) (by rw[h];trivial) (.inl rfl) (λb u hb q=>(Heap.get?_update_other _ _ (Ne.symm hb)).trans q) ⟨_,e⟩ ?_
 exact⟨hz,its',n',r,e⟩
def zrS:V->V->V->Hp->(Hp->Prop)->Prop:=λo i v H Q=>∃p xs k j,o= .ref p/\i= .int k/\H p=some (.lst xs)/\ixN xs.length k=some j/\Q (upd H p (.lst (xs.set j v)))
theorem ze0:zq3 X zrS:=by
 intro pins s σ H o i v ov iv u Q I ro ri rv h
 obtain⟨p,xs,k,j,rfl,rfl,hp,hj,q⟩:=h
 cases ro
 obtain⟨t,rfl⟩:=ri
 obtain⟨its,n,r,ho,hz⟩:=I.lst hp
 obtain⟨h1,h2,h3,h4⟩:=zk9 hj
 have hl:=r.length
 have hn:=zfj
 have I':Inv X pins σ (upd H p (.lst (xs.set j v))) {s with heap:=s.heap.update p (Obj.mapSeq (·.setIfInBounds j u))}:=
  I.lstUpd hp ho (zjV its n j u) (r.set rv j) (by rw[List.length_set];exact hz) s.toks
 by_cases h0:0<=k
 ·have hk:k.toNat=j:=by
   rw[seqIndex_of h0 h4] at h1
   exact Option.some.inj h1
  exact PySem.W.ki_setAt ho h0 (by omega) (by rw[List.size_toArray,←hl];exact h4) (by rw[hk];exact⟨_,I',q⟩)
 ·have hk:(k+(its.toArray.size:Int)).toNat=j:=by
   rw[seqIndex_neg (by omega) h3] at h1
   rw[List.size_toArray,←hl]
   exact Option.some.inj h1
  exact PySem.W.ki_setBack ho (by omega) (by rw[List.size_toArray,←hl];exact h3) (by omega) (by rw[hk];exact⟨_,I',q⟩)
theorem zhP(lo hi:Option Int)(n:Nat):(sliceBounds lo hi none n).1=((HT.sIx n 0 lo:Nat):Int)/\(sliceBounds lo hi none n).2.1=((HT.sIx n n hi:Nat):Int)/\(sliceBounds lo hi none n).2.2=1:=by
 refine⟨?_,?_,rfl⟩
 ·cases lo with
  |none=>simp[sliceBounds,HT.sIx]
  |some i=>
   simp only[sliceBounds,HT.sIx,Option.getD_none,show(1:Int)>0 by decide,if_true]
   by_cases h:i<0
   ·simp only[h,if_true]<;>omega
   ·simp only[h,if_false]<;>omega
 ·cases hi with
  |none=>simp[sliceBounds,HT.sIx]
  |some i=>
   simp only[sliceBounds,HT.sIx,Option.getD_none,show(1:Int)>0 by decide,if_true]
   by_cases h:i<0
   ·simp only[h,if_true]<;>omega
   ·simp only[h,if_false]<;>omega
theorem zg9(its:List Value)(lo hi:Option Int):slicePick its.toArray lo hi none=((its.drop (HT.sIx its.length 0 lo)).take (HT.sIx its.length its.length hi -HT.sIx its.length 0 lo)).toArray:=by
 obtain⟨h1,h2,h3⟩:=zhP lo hi its.toArray.size
 unfold slicePick
 rw[h1,h2,h3]
 simp only[sliceRange_one,pick_run,List.size_toArray]<;>rfl
def zsE(K:PySem.W.Frag):V->Option Int->Option Int->Hp->VK->Prop:=λx lo hi H Q=>∃a xs,x= .ref a/\SqL K H a xs/\∀p,H p=none->Q (.ref p) (upd H p (.lst (zbu xs lo hi)))
theorem zfY:SlR X (zsE X.K):=by
 intro pins s σ H x v vl vu lo hi sl Q I rx hs pl pu h
 obtain⟨a,xs,rfl,hx,q⟩:=h
 cases rx
 obtain⟨its,r,ht,hz⟩:=I.list hx
 have hlen:=r.length
 refine⟨"list",_,slot_list_getitem.lookup,ht.isList.typeIs,?_⟩
 refine wpAny_getItem_list_slice ht.isList hs pl pu .none (by simp) ?_ (by rw[List.size_toArray]<;>omega)
 rw[zg9,←hlen]
 refine⟨.ref s.heap.objs.size,_,I.laid (t':=s.toks) (o:= .lst (zbu xs lo hi)) (λb ob q=>Heap.get?_push_of_some _ q) (Nat.le_refl _) ?_,rfl,q _ (I.hok.fresh (Nat.le_refl _))⟩
 exact⟨Nat.le_trans (zfB xs lo hi) hz,_,0,(r.drop (HT.sIx xs.length 0 lo)).take (HT.sIx xs.length xs.length hi -HT.sIx xs.length 0 lo),Heap.get?_push_size _ rfl⟩
noncomputable def ze6:V->Bool
 | .non=>true
 | .bl _=>true
 | .int _=>true
 | .str _=>true
 |_=>false
noncomputable def eqV:V->V->Bool
 | .non, .non=>true
 | .bl a, .bl b=>a==b
 | .bl a, .int b=>(if a then 1 else 0)==b
 | .int a, .bl b=>a==(if b then 1 else 0)
 | .int a, .int b=>a==b
 | .str a, .str b=>a==b
 |_,_=>false
theorem zqX{A:Around}{s:Shared}{y x:V}{u v:Value}(ry:RelV y u)(rx:RelV x v)(fy:ze6 y=true)(fx:ze6 x=true):SeqAt.EqAt A s u v (eqV y x):=by
 cases y with
 |non=>
  cases ry
  cases x with
  |non=>cases rx;exact SeqAt.EqAt.same _
  |bl b=>cases rx;exact SeqAt.EqAt.none_bool b
  |int b=>obtain ⟨t,rfl⟩:=rx;exact SeqAt.EqAt.none_int b t
  |str b=>obtain ⟨t,rfl⟩:=rx;exact SeqAt.EqAt.none_str b t
  |_=>exact absurd (show false=true from fx) Bool.false_ne_true
 |bl a=>
  cases ry
  cases x with
  |non=>cases rx;exact SeqAt.EqAt.bool_none a
  |bl b=>cases rx;exact SeqAt.EqAt.bool_bool a b
  |int b=>obtain ⟨t,rfl⟩:=rx;exact SeqAt.EqAt.bool_int a b t
  |str b=>obtain ⟨t,rfl⟩:=rx;exact SeqAt.EqAt.bool_str a b t
  |_=>exact absurd (show false=true from fx) Bool.false_ne_true
 |int a=>
  obtain⟨t',rfl⟩:=ry
  cases x with
  |non=>cases rx;exact SeqAt.EqAt.int_none a t'
  |bl b=>cases rx;exact SeqAt.EqAt.int_bool a t' b
  |int b=>obtain ⟨t,rfl⟩:=rx;exact SeqAt.EqAt.int_int a t' b t
  |str b=>obtain ⟨t,rfl⟩:=rx;exact SeqAt.EqAt.int_str a t' b t
  |_=>exact absurd (show false=true from fx) Bool.false_ne_true
 |str a=>
  obtain⟨t',rfl⟩:=ry
  cases x with
  |non=>cases rx;exact SeqAt.EqAt.str_none a t'
  |bl b=>cases rx;exact SeqAt.EqAt.str_bool a t' b
  |int b=>obtain ⟨t,rfl⟩:=rx;exact SeqAt.EqAt.str_int a t' b t
  |str b=>obtain ⟨t,rfl⟩:=rx;exact SeqAt.EqAt.str_str a t' b t
  |_=>exact absurd (show false=true from fx) Bool.false_ne_true
 |_=>exact absurd (show false=true from fy) Bool.false_ne_true
noncomputable def eqU(x:V)(u:Value):Bool:=match u with
 | .none=>eqV .non x
 | .bool b=>eqV (.bl b) x
 | .int i _=>eqV (.int i) x
 | .str z _=>eqV (.str z) x
 |_=>false
theorem znf{x y:V}{u:Value}(r:RelV y u)(f:ze6 y=true):eqU x u=eqV y x:=by
 cases y with
 |non=>cases r;rfl
 |bl b=>cases r;rfl
 |int i=>obtain ⟨t,rfl⟩:=r;rfl
 |str z=>obtain ⟨t,rfl⟩:=r;rfl
 |_=>exact absurd (show false=true from f) Bool.false_ne_true
theorem ze7{x:V}:∀{xs:List V} {us:List Value},Vals xs us->xs.all ze6=true->us.any (eqU x)=xs.any λy=>eqV y x
 |_,_, .nil,_=>rfl
 |y::xs,u::us, .cons r t,f=>by
  rw[List.all_cons,Bool.and_eq_true] at f
  rw[List.any_cons,List.any_cons,znf r f.1,ze7 t f.2]
theorem zdP{A:Around}{s:Shared}{x:V}{v:Value}(rx:RelV x v)(fx:ze6 x=true):∀{xs:List V} {us:List Value},Vals xs us->xs.all ze6=true->∀u∈us,SeqAt.EqAt A s u v (eqU x u)
 |_,_, .nil,_=>λu hu=>by cases hu
 |y::xs,u::us, .cons r t,f=>λu' hu=>by
  rw[List.all_cons,Bool.and_eq_true] at f
  rcases List.mem_cons.mp hu with rfl|hu
  ·rw[znf r f.1];exact zqX r rx f.1 fx
  ·exact zdP rx fx t f.2 u' hu
noncomputable def inV(x:V)(xs:List V):Bool:=xs.any λy=>eqV y x
noncomputable def rIn(K:PySem.W.Frag)(neg:Bool):R2:=λx y H Q=>∃p xs,y= .ref p/\(SqL K H p xs\/SqT K H p xs)/\ze6 x=true/\xs.all ze6=true/\Q (.bl (if neg then !inV x xs else inV x xs)) H
theorem zd5:OpR X (compareOp .In) (rIn X.K false):=by
 intro pins s σ H x y v u Q I rx ry h
 obtain⟨p,xs,rfl,hq,fx,fs,q⟩:=h
 cases ry
 rcases hq with hq|hq
 ·obtain ⟨its,r,pl,hz⟩:=I.list hq
  refine SeqAt.in_listAt (eqU x) pl.isList (λw hw=>zdP rx fx r fs w (by simpa using hw)) ⟨.bl _,H,I,rfl,?_⟩
  rw[show its.toArray.any (eqU x)=its.any (eqU x) by simp,ze7 r fs]
  exact q
 ·obtain ⟨its,r,pl,hz⟩:=I.tuple hq
  refine SeqAt.in_tupleAt (eqU x) pl (λw hw=>zdP rx fx r fs w (by simpa using hw)) ⟨.bl _,H,I,rfl,?_⟩
  rw[show its.toArray.any (eqU x)=its.any (eqU x) by simp,ze7 r fs]
  exact q
theorem zdr:OpR X (compareOp .NotIn) (rIn X.K true):=by
 intro pins s σ H x y v u Q I rx ry h
 obtain⟨p,xs,rfl,hq,fx,fs,q⟩:=h
 cases ry
 rcases hq with hq|hq
 ·obtain ⟨its,r,pl,hz⟩:=I.list hq
  refine SeqAt.notIn_listAt (eqU x) pl.isList (λw hw=>zdP rx fx r fs w (by simpa using hw)) ⟨.bl _,H,I,rfl,?_⟩
  rw[show its.toArray.any (eqU x)=its.any (eqU x) by simp,ze7 r fs]
  exact q
 ·obtain ⟨its,r,pl,hz⟩:=I.tuple hq
  refine SeqAt.notIn_tupleAt (eqU x) pl (λw hw=>zdP rx fx r fs w (by simpa using hw)) ⟨.bl _,H,I,rfl,?_⟩
  rw[show its.toArray.any (eqU x)=its.any (eqU x) by simp,ze7 r fs]
  exact q
theorem call_len_seq:CallR X (.builtin "len") (λxs H Q=>∃p ys,xs=[.ref p]/\(SqL X.K H p ys\/SqT X.K H p ys)/\Q (.int ys.length) H):=by
 intro pins s σ H xs us Q I r h
 obtain⟨p,ys,rfl,hq,q⟩:=h
 obtain⟨u,rfl,rx⟩:=zdl r
 cases rx
 have hn:=zfj
 rcases hq with hq|hq
 ·obtain ⟨its,r',pl,hz⟩:=I.list hq
  have hlen:=r'.length
  exact Calls.call_len_list pl.isList (by simp only[List.size_toArray]<;>omega) ⟨.int ys.length,H,I.tok _,⟨s.toks+1,by rw[List.size_toArray,hlen]⟩,q⟩
 ·obtain ⟨its,r',pl,hz⟩:=I.tuple hq
  have hlen:=r'.length
  exact len_tuple pl (by simp only[List.size_toArray]<;>omega) ⟨.int ys.length,H,I.tok _,⟨s.toks+1,by rw[List.size_toArray,hlen]⟩,q⟩
theorem zib:CallR X (.builtin "len") (λxs H Q=>∃z,xs=[.str z]/\z.length<=sizeLine/\Q (.int z.length) H):=by
 intro pins s σ H xs us Q I r h
 obtain⟨z,rfl,hz,q⟩:=h
 obtain⟨u,rfl,t,rfl⟩:=zdl r
 have hn:=zfj
 exact len_str (by omega) ⟨.int z.length,H,I.tok _,⟨_,rfl⟩,q⟩
theorem CallR.or{f:Value}{r r':List V->Hp->VK->Prop}(h:CallR X f r)(h':CallR X f r'):CallR X f (λxs H Q=>r xs H Q\/r' xs H Q):=by
 intro pins s σ H xs us Q I rs q
 rcases q with q|q
 ·exact h pins s σ H xs us Q I rs q
 ·exact h' pins s σ H xs us Q I rs q
theorem zbT:CallR X (.type "list") (λxs H Q=>∃p ys,xs=[.ref p]/\(SqL X.K H p ys\/SqT X.K H p ys)/\∀l,H l=none->Q (.ref l) (upd H l (.lst ys))):=by
 intro pins s σ H xs us Q I r h
 obtain⟨p,ys,rfl,hq,q⟩:=h
 obtain⟨u,rfl,rx⟩:=zdl r
 cases rx
 have fin:∀(its:List Value),Vals ys its->ys.length<=sizeLine->∀(h':Heap) (c':Nat),(∀b o',s.heap.get? b=some o'->h'.get? b=some o')->
  h'.get? s.heap.objs.size=some {cls:= .type "list",dict:=none,data:= .seq its.toArray c',slots:= #[]}->EP X pins σ Q (.ref s.heap.objs.size) {s with heap:=h'}:=λits r' hz h' c' kp e=>
  ⟨.ref s.heap.objs.size,_,I.laid (t':=s.toks) kp (Nat.le_refl _) (show ObjOk X.prog X.w _ h' _ (.lst ys)from⟨hz,its,c',r',e⟩),rfl,q _ (I.hok.fresh (Nat.le_refl _))⟩
 rcases hq with hq|hq
 ·obtain ⟨its,r',pl,hz⟩:=I.list hq
  have hlen:=r'.length
  obtain⟨o,ho,hc,n,hd⟩:=pl.isList
  exact call_list_seq p (.inl rfl) ho hc hd (λh' c' kp e=>fin its r' hz h' c' kp e) (by simp only[List.size_toArray]<;>omega)
 ·obtain ⟨its,r',pl,hz⟩:=I.tuple hq
  have hlen:=r'.length
  obtain⟨o,ho,hc,n,hd⟩:=pl
  exact call_list_seq p (.inr rfl) ho hc hd (λh' c' kp e=>fin its r' hz h' c' kp e) (by simp only[List.size_toArray]<;>omega)
theorem zV:CallR X (.type "tuple") (λxs H Q=>∃p ys,xs=[.ref p]/\((SqL X.K H p ys/\∀l,H l=none->Q (.ref l) (upd H l (.tup ys)))\/(SqT X.K H p ys/\Q (.ref p) H))):=by
 intro pins s σ H xs us Q I r h
 obtain⟨p,ys,rfl,h⟩:=h
 obtain⟨u,rfl,rx⟩:=zdl r
 cases rx
 rcases h with⟨hq,q⟩|⟨hq,q⟩
 ·obtain ⟨its,r',pl,hz⟩:=I.list hq
  have hlen:=r'.length
  refine call_tuple_list pl.isList (λh' kp=>?_) (by simp only[List.size_toArray]<;>omega)
  have I1:Inv X pins σ H {s with heap:=h'}:=I.kept (t':=s.toks) kp
  have I2:Inv X pins σ (upd H h'.objs.size (.tup ys)) {s with heap:=h'.push {cls:= .type "tuple",data:= .seq its.toArray}}:=
   I1.laid (t':=s.toks) (λb o e=>Heap.get?_push_of_some _ e) (Nat.le_refl _) (show ObjOk X.prog X.w _ _ _ (.tup ys)from⟨hz,its,r',IsTup.new _ _,NoDict.new rfl (Heap.get?_push_size _ rfl)⟩)
  exact⟨.ref h'.objs.size,_,I2,rfl,q _ (I1.hok.fresh (Nat.le_refl _))⟩
 ·obtain ⟨its,r',pl,hz⟩:=I.tuple hq
  exact call_tuple_same pl ⟨.ref p,H,I,rfl,q⟩
def tyV(K:PySem.W.Frag)(T:String)(x:V)(H:Hp):Prop:=match x with
 | .str _=>T="str"
 | .int _=>T="int"
 | .ref p=>(T="list"/\∃xs,SqL K H p xs)\/(T="tuple"/\∃o,K.lookup p=some o/\o.cls= .type "tuple"/\o.dict=none)\/
    (T="dict"/\((∃kvs,H p=some (.dK kvs))\/∃kvs,H p=some (.dT kvs)))\/(T="set"/\∃S n,H p=some (.set S n))\/(T="tuple"/\∃xs,H p=some (.tup xs))
 |_=>False
theorem zqv{pins:List (Addr×Obj)}{σ:St}{H:Hp}{s:Shared}{T:String}{x:V}{v:Value}(I:Inv X pins σ H s)(r:RelV x v)(ty:tyV X.K T x H):
 s.TypeIs v T/\∀a,v= .ref a->∃ob,s.heap.get? a=some ob/\ob.dict=none:=by
 cases x with
 |str z=>
  obtain⟨t,rfl⟩:=r
  cases(show T="str"from ty)
  exact⟨typeIs_str s z t,λ_ e=>nomatch e⟩
 |int i=>
  obtain⟨t,rfl⟩:=r
  cases(show T="int"from ty)
  exact⟨typeIs_int s i t,λ_ e=>nomatch e⟩
 |ref p=>
  cases r
  rcases ty with⟨rfl,xs,hq⟩|⟨rfl,o,hk,hc,hd⟩|⟨rfl,hk⟩|⟨rfl,S,n,hk⟩|⟨rfl,xs,hk⟩
  ·obtain ⟨its,_,pl,_⟩:=I.list hq
   refine⟨pl.isList.typeIs,λa e=>?_⟩
   cases e
   obtain⟨o,n,e,c,hd,_⟩:=pl
   exact⟨o,e,hd⟩
  ·refine ⟨⟨o,I.kIn p o hk,hc⟩,λa e=>?_⟩
   cases e
   exact⟨o,I.kIn _ o hk,hd⟩
  ·have z:∃o,s.heap.get? p=some o/\o.ExactDict:=by
    rcases hk with⟨kvs,hk⟩|⟨kvs,hk⟩
    ·obtain ⟨_,_,_,_,o,_,_,e,ex,_⟩:=I.hok p _ hk
     exact⟨o,e,ex⟩
    ·obtain ⟨_,_,_,_,o,_,_,e,ex,_⟩:=I.hok p _ hk
     exact⟨o,e,ex⟩
   obtain⟨o,e,ex⟩:=z
   refine⟨⟨o,e,ex.1⟩,λa e2=>?_⟩
   cases e2
   exact⟨o,e,ex.2.1⟩
  ·obtain ⟨o,_,_,_,e,ex,_⟩:=I.hok p _ hk
   refine⟨⟨o,e,ex.1⟩,λa e2=>?_⟩
   cases e2
   exact⟨o,e,ex.2.1⟩
  ·obtain ⟨_,_,_,⟨o,e,c,_⟩,nd⟩:=I.hok p _ hk
   refine⟨⟨o,e,c⟩,λa e2=>?_⟩
   cases e2
   exact⟨o,e,nd o e⟩
 |_=>exact False.elim ty
def tBM(K:PySem.W.Frag)(T:String)(r:V->List V->Hp->VK->Prop)(to:TE)(t:TA):TE:=λσ H Q=>to σ H λx H1=>tyV K T x H1/\t σ H1 λxs H2=>r x xs H2 Q
variable{o e:Expr}{es:List Expr}{to:TE}{t:TA}{name:Str}{apos cpos:Pos}{T id:String}{r:V->List V->Hp->VK->Prop}
theorem zsk(pa:PlainAttrs T)(slot:Slot T name id)(hty:typeOf (.builtin id)=pure (.type "method_descriptor"))(hm:MtR X id r)(ho:PE X o to)(ha:PA X (e::es) t)
 (hbase:attributeBase o name X.env (eval o X.env)=eval o X.env:=by rfl)
 (hfew:((backTo cpos (starEach (e::es) X.env)).all (λx=>!x.1)&&(backToKw cpos (keywordEach [] X.env)).all (λx=>x.1.isSome)
   &&decide ((e::es).length+([]:List Keyword).length+(if([]:List Keyword).isEmpty then 0 else 1)<30))=true:=by rfl)
 (hline:(apos.endLine==cpos.line)=true:=by rfl) (hs:starEach (e::es) X.env=(false,eval e X.env)::starEach es X.env:=by rfl) (hplain:(backTo cpos (starEach es X.env)).any (·.1)=false:=by rfl):
 PE X (.Call (.Attribute o name apos) (e::es) [] cpos) (tBM X.K T r to t):=by
 intro pins s σ H Q I h
 refine wpAny_Call_method_late hbase hfew hline rfl (thn (ho pins s σ H _ I h) λv s1 ⟨x,H1,I1,r1,ty,q1⟩=>?_)
 obtain⟨h1,h2⟩:=zqv I1 r1 ty
 refine⟨T,id,pa,slot,hty,h1,h2,?_⟩
 have hA:=ha cpos pins s1 σ H1 _ I1 q1
 rw[hs] at hA⊢
 refine Calls.callWith_builtin (by show(false||(backTo cpos (starEach es X.env)).any (·.1))=false;rw[hplain]<;>rfl) (Calls.evalArgs_plain ?_)
 exact thn hA λus s2 ⟨vs,H2,I2,r2,q2⟩=>hm pins s2 σ H2 x vs v us Q I2 r1 r2 q2
end
def MtM(X:Cx)(id:String)(r:V->List V->Hp->VK->Prop):Prop:=
 ∀(pins:List (Addr×Obj)) (s:Shared) (σ:St) (H:Hp) (x:V) (xs:List V) (v:Value) (us:List Value) (Q:VK),Inv X pins σ H s->RelV x v->Vals xs us->r x xs H Q->
  wpAny (model X.prog X.w) X.A (call (.builtin id) (v::us)) (EP X pins σ Q) X.xe s
theorem Vals.one:∀{x:V} {us:List Value},Vals [x] us->∃u,us=[u]/\RelV x u
 |_,_, .cons r .nil=>⟨_,rfl,r⟩
theorem Vals.rep{xs:List V}{us:List Value}(h:Vals xs us):∀k:Nat,Vals (List.replicate k xs).flatten (List.replicate k us).flatten
 |0=> .nil
 |k+1=>by
  rw[List.replicate_succ,List.replicate_succ,List.flatten_cons,List.flatten_cons]
  exact Vals.append h (Vals.rep h k)
theorem zfp(its:List Value):∀(k:Nat) (acc:List Value),
 List.foldl (λx1 x2=>x1 ++x2) acc.toArray (List.replicate k its.toArray)=(acc ++(List.replicate k its).flatten).toArray
 |0,acc=>by simp
 |k+1,acc=>by
  have e:acc.toArray ++its.toArray=(acc ++its).toArray:=by simp
  have e2:(acc ++its)++(List.replicate k its).flatten=acc ++(List.replicate (k+1) its).flatten:=by
   rw[List.replicate_succ,List.flatten_cons,List.append_assoc]
  rw[←e2,←zfp its k (acc ++its),←e,List.replicate_succ,List.foldl_cons]
section
variable{X:Cx}{pins:List (Addr×Obj)}{σ:St}{H:Hp}{s:Shared}{l b:Addr}{xs ys zs:List V}
theorem Inv.lset{its its':List Value}{n:Nat}{f:Array Value->Array Value}{t':Nat}(I:Inv X pins σ H s)(hH:H l=some (.lst xs))
 (e:s.heap.get? l=some {cls:= .type "list",data:= .seq its.toArray n}) (hf:f its.toArray=its'.toArray) (hv:Vals ys its') (hz:ys.length<=sizeLine):
 Inv X pins σ (upd H l (.lst ys)) {s with heap:=s.heap.update l (Obj.mapSeq f),toks:=t'}:=by
 have q:=PySem.IsL.update e f
 rw[hf] at q
 refine I.write (x:=l) (e:=l) (by rw[hH];exact trivial) (.inl rfl) (λb' u hb hu=>(Heap.get?_update_other s.heap (Obj.mapSeq f) (Ne.symm hb)).trans hu) ⟨_,q⟩ ?_
 exact⟨hz,its',_,hv,q⟩
theorem Inv.lnew{its:List Value}{t':Nat}(I:Inv X pins σ H s)(hv:Vals ys its)(hz:ys.length<=sizeLine):
 Inv X pins σ (upd H s.heap.objs.size (.lst ys)) {s with heap:=s.heap.push {cls:= .type "list",data:= .seq its.toArray},toks:=t'}:=
 I.laid (λ_ _ q=>Heap.get?_push_of_some _ q) (Nat.le_refl _) ⟨hz,its,0,hv,Heap.get?_push_size _ rfl⟩
theorem Inv.fresh(I:Inv X pins σ H s):H s.heap.objs.size=none:=I.hok.fresh (Nat.le_refl _)
theorem Inv.lstM(I:Inv X pins σ H s)(hH:H l=some (.lst xs)):xs.length<=sizeLine/\∃(its:List Value) (n:Nat),Vals xs its/\xs.length=its.length/\s.heap.get? l=some {cls:= .type "list",data:= .seq its.toArray n}:=by
 obtain⟨z,its,n,r,e⟩:=I.hok l _ hH
 exact⟨z,its,n,r,r.length,e⟩
theorem zjE{n:Nat}(h:n<=sizeLine):Builtin.List.listTooLong n=false:=by
 unfold Builtin.List.listTooLong
 exact decide_eq_false (by omega)
end
section
variable{X:Cx}
def zpS:V->List V->Hp->VK->Prop:=λx vs H Q=>∃l xs y,x= .ref l/\vs=[y]/\H l=some (.lst xs)/\xs.length<sizeLine/\Q .non (upd H l (.lst (xs ++ [y])))
theorem zbH:MtM X "list.append" zpS:=by
 intro pins s σ H x vs v us Q I rx rv h
 obtain⟨l,xs,y,rfl,rfl,hH,hz,q⟩:=h
 cases rx
 obtain⟨u,rfl,ru⟩:=rv.one
 obtain⟨z,its,n,r,hl,e⟩:=I.lstM hH
 refine call_meets F.slot_list_append ⟨_,e,rfl⟩ F.entry_list_append (F.args_list_append_2 _ _) (PySem.list_append l its.toArray n u (by rw[List.size_toArray];omega)) ⟨e,?_⟩
 refine⟨.non,_,I.lset (its':=its ++ [u]) hH e (by simp) (r.append (.cons ru .nil)) ?_,rfl,q⟩
 rw[List.length_append,List.length_singleton]
 omega
def zpX:V->List V->Hp->VK->Prop:=λx vs H Q=>∃l b xs zs,x= .ref l/\vs=[.ref b]/\H l=some (.lst xs)/\H b=some (.lst zs)/\xs.length+zs.length<=sizeLine/\Q .non (upd H l (.lst (xs ++zs)))
theorem mt_extend:MtM X "list.extend" zpX:=by
 intro pins s σ H x vs v us Q I rx rv h
 obtain⟨l,b,xs,zs,rfl,rfl,hH,hB,hz,q⟩:=h
 cases rx
 obtain⟨u,rfl,ru⟩:=rv.one
 cases ru
 obtain⟨z,its,n,r,hl,e⟩:=I.lstM hH
 obtain⟨z2,its2,n2,r2,hl2,e2⟩:=I.lstM hB
 have hsz:its.toArray.size+its2.toArray.size<=sizeLine:=by rw[List.size_toArray,List.size_toArray];omega
 have hlong:¬(!its.toArray.isEmpty&&Builtin.List.listTooLong (its.toArray.size+its2.toArray.size))=true:=by
  rw[zjE hsz,Bool.and_false]
  exact Bool.false_ne_true
 refine call_meets F.slot_list_extend ⟨_,e,rfl⟩ F.entry_list_extend (F.args_list_extend_2 _ _)
  (AutoSeq1.list_extend_list_list_0 l its.toArray n b its2.toArray n2 hlong (by rw[List.size_toArray];omega) (by omega)) ⟨e,e2,?_⟩
 refine⟨.non,_,I.lset (its':=its ++its2) hH e (by simp) (r.append r2) ?_,rfl,q⟩
 rw[List.length_append]
 omega
noncomputable def zrb:R2:=λx y H Q=>∃l b xs zs,x= .ref l/\y= .ref b/\H l=some (.lst xs)/\H b=some (.lst zs)/\xs.length+zs.length<=sizeLine/\∀p,H p=none->Q (.ref p) (upd H p (.lst (xs ++zs)))
theorem zbV:OpR X (binaryOp .Add) zrb:=by
 intro pins s σ H x y v u Q I rx ry h
 obtain⟨l,b,xs,zs,rfl,rfl,hH,hB,hz,q⟩:=h
 cases rx
 cases ry
 obtain⟨z,its,n,r,hl,e⟩:=I.lstM hH
 obtain⟨z2,its2,n2,r2,hl2,e2⟩:=I.lstM hB
 refine PySem.P.add_list e e2 ?_ (by rw[List.size_toArray,List.size_toArray];omega)
 have ea:its.toArray ++its2.toArray=(its ++its2).toArray:=by simp
 rw[ea]
 exact⟨.ref _,_,I.lnew (t':=s.toks) (r.append r2) (by rw[List.length_append];omega),rfl,q _ I.fresh⟩
noncomputable def zsr:R2:=λx y H Q=>∃l k xs,x= .ref l/\y= .int k/\H l=some (.lst xs)/\-(2^63)<=k/\k<2^63/\xs.length*k.toNat<=sizeLine/\
 ∀p,H p=none->Q (.ref p) (upd H p (.lst (List.replicate k.toNat xs).flatten))
theorem zhM{α:Type}(xs:List α)(k:Nat):(List.replicate k xs).flatten.length=k*xs.length:=by
 induction k with
 |zero=>simp
 |succ k ih=>rw[List.replicate_succ,List.flatten_cons,List.length_append,ih,Nat.succ_mul,Nat.add_comm]
theorem zrz:OpR X (binaryOp .Mult) zsr:=by
 intro pins s σ H x y v u Q I rx ry h
 obtain⟨l,k,xs,rfl,rfl,hH,h1,h2,hz,q⟩:=h
 cases rx
 obtain⟨t,rfl⟩:=ry
 obtain⟨z,its,n,r,hl,e⟩:=I.lstM hH
 have hlen:its.toArray.size*k.toNat<=sizeLine:=by rw[List.size_toArray,←hl];exact hz
 have hcap:¬its.toArray.size*k.toNat>(2^63 -1)/8:=by
  have:(sizeLine:Nat)<=(2^63 -1)/8:=by decide
  omega
 have hfit:¬(!Builtin.List.listFitsIndex k)=true:=by
  rw[fitsIndex_both h1 h2]
  exact Bool.false_ne_true
 have hlong:¬Builtin.List.listTooLong (its.toArray.size*k.toNat)=true:=by
  rw[zjE hlen]
  exact Bool.false_ne_true
 have hnew:List.foldl (λx1 x2=>x1 ++x2) #[] (List.replicate (if its.toArray.isEmpty=true then 0 else k.toNat) its.toArray)=(List.replicate k.toNat its).flatten.toArray:=by
  have f0:∀m:Nat,List.foldl (λx1 x2=>x1 ++x2) #[] (List.replicate m its.toArray)=(List.replicate m its).flatten.toArray:=λm=>by
   have:=zfp its m []
   rw[List.nil_append] at this
   exact this
  rw[f0]
  cases its with
  |nil=>simp
  |cons a r'=>rw[if_neg (by simp)]
 refine wpAny_binaryOp_repeat_ref (T:="list") (U:="int") (by decide) ⟨_,e,rfl⟩ (λs'=>typeIs_int s' k t) noFill_list_mul F.fills_int_mul F.slot_int_rmul repeat_list F.slot_int_index.lookup
  (call_meets F.slot_int_rmul (typeIs_int s k t) F.entry_int_rmul (F.args_int_rmul_2 _ _) (int___rmul___int_list k t l its.toArray n)
    ⟨e,rfl,⟨_,e,rfl⟩,call_meets F.slot_list_mul ⟨_,e,rfl⟩ F.entry_list_mul (F.args_list_mul_2 _ _) (AutoListH.list___mul___list_int_3 l its.toArray n k t hfit hcap hlong) ⟨e,?_⟩⟩)
 rw[hnew]
 exact⟨.ref _,_,I.lnew (t':=s.toks) (r.rep k.toNat) (by rw[zhM,Nat.mul_comm];exact hz),rfl,q _ I.fresh⟩
end
section
variable{prog:Program}{w:World}{A:Around}{E:Value->Shared->Prop}{s:Shared}
set_option maxRecDepth 100000 in
end
section
variable{X:Cx}
end
end L2
namespace Att
open PySem PySem.W PySem.Calls PyProof.Rows
theorem zfT{P:Params}{h:Heap}:∀(ns:List Int) (vs:List Value),WellAll P h vs (ns.map WData.int)->IntsAre vs ns:=by
 intro ns
 induction ns with
 |nil=>
  intro vs w
  rw[List.map_nil] at w
  cases w
  exact .nil
 |cons n ns ih=>
  intro vs w
  rw[List.map_cons] at w
  cases w with
  |cons a b=>
   cases a
   exact .cons _ _ (ih _ b)
theorem zmz{l:OpenLaw}{n:Nat}(hn:l.most=some n){P:Params}{h:Heap}{args:List WData}{vals:List Value}
 (hpre:l.row.toRowW.claim.pre args=true) (hwl:WellAll P h vals args):
 ∃a vs ns,vals=[Value.ref a]/\args=[WData.list (ns.map WData.int)]/\h.get? a=some {cls:= .type "list",data:= .seq vs.toArray}/\IntsAre vs ns/\ns.length<=n:=by
 have hsh:WShape.hasAll [] args [.list .int]=true:=(pre_splitW hpre).1
 have hc:l.pre.holds [] {args:=args}=true:=(pre_splitW hpre).2
 obtain⟨d,r,rfl,h1,h2⟩:=hasAllW_cons hsh
 obtain rfl:=hasAllW_nil h2
 obtain⟨xs,rfl,h3⟩:=hasW_list h1
 obtain⟨ns,rfl⟩:=items_int h3
 have hlen:ns.length<=n:=by
  unfold OpenLaw.pre at hc
  have h4:(WTm.not (.lt (.lit (.int (n:Int))) (.len (.arg 0)))).holds [] {args:=[.list (ns.map .int)]}=true:=by
   have h4:=(holds_andW hc).1
   rw[hn] at h4
   exact h4
  have h5:=condW_of h4 (w_not (w_lt w_lit (w_len_list (w_arg rfl))))
  rw[List.length_map] at h5
  refine Nat.le_of_not_lt λq=>?_
  have q':(n:Int)<((ns.length:Nat):Int):=by omega
  first
   |(rw[decide_eq_true q'] at h5;exact absurd h5 (by decide))
   |(simp at h5;omega)
 cases hwl with
 |cons w1 w2=>
  cases w2
  cases w1 with
  |list ho hall=>exact ⟨_,_,ns,rfl,rfl,ho,zfT ns _ hall,hlen⟩
theorem zmd(l:OpenLaw)(args:List WData):l.row.toRowW.claim.post args (.bool true) args=true:=
 postW_of (r:=l.row.toRowW) (X:=(true==true))
  (show WShape.has [] (.bool true) .bool=true by first|rfl|decide|simp[WShape.has,WShape.arms,WShape.armsAll])
  (show(WTm.eq .res (.lit (.bool true))).value [] {args:=args,res:=some (.bool true),after:=args}=some (.bool (true==true))from w_eq_bool (w_res rfl) w_lit) rfl
theorem attach_call{l:OpenLaw}{n:Nat}{q:Program}{loose:List Str}{XP:(Str->Option Value)->Heap->Prop}{YP:World->Heap->Prop}{d:DefRec}
 (hn:l.most=some n) (hdf:d.params.defaults=[])
 (call:∀(w:World) (s₀ s₁:Shared) (mg mb:Str->Option Value) (fa:Addr) (o:Obj) (pm cd doc:Value) (a:Addr) (vs:List Value) (ns:List Int),
   Ground q loose [] XP w s₀ mg mb s₁.heap->YP w s₁.heap->
   s₁.heap.get? fa=some o->o.data= .func (docDef d.name d.params d.body d.scope pm cd doc)->s₁.heap.CodeRec cd d.name->mg d.name=some (.ref fa)->
   s₁.heap.get? a=some {cls:= .type "list",data:= .seq vs.toArray}->IntsAre vs ns->ns.length<=n->s₁.gens= #[]->
   codeAny (model l.prog w) callerA (.call (.ref fa) ⟨[.ref a],[]⟩) (λr s'=>r= .ok (.ret (.bool true))/\OldK s₁.heap s'.heap/\s'.os=s₁.os/\AllBare s'.gens) s₁):
 WalkO q loose XP YP l.row.toRowW d [] (λf vs=>PySem.call f vs):=by
 intro w s₀ s₁ mg mb G Y fa o pm cd doc dV kV ho hd hcd hD hmg hg args vals as hpre hlay hrd hwl hlo
 obtain rfl:dV= .none:=Dflts.none hD hdf
 obtain rfl:kV= .none:=Dflts.noKw hD
 obtain⟨a,vs,ns,rfl,rfl,hobj,hints,hlen⟩:=zmz hn hpre hwl
 refine enter_call (codeAny_mono (call w s₀ s₁ mg mb fa o pm cd doc a vs ns G Y ho (fd_plain hd) hcd hmg hobj hints hlen hg) λr s' hq=>?_)
 obtain⟨rfl,h2,h3,h4⟩:=hq
 exact⟨.inl ⟨.bool true, .bool true,[],rfl,λ_=>rfl, .bool true,zmd l _,λ_=>⟨List.Pairwise.nil,λ_ hm=>(nomatch hm)⟩⟩,h2,h3,h4⟩
section
variable{prog:Program}{w:World}{A:Around}{E:Value->Shared->Prop}{s:Shared}{K:Frag}
end
end Att
namespace L2
open PySem PySem.Spec PyProof.Rows
theorem zhx:∀{vs:List Value} {ns:List Int},IntsAre vs ns->Vals (ns.map V.int) vs
 |_,_, .nil=> .nil
 |_,_, .cons n t h=> .cons ⟨t,rfl⟩ (zhx h)
def zrk(H:Hp):Prop:=∀b,H b=none\/∃o xs,H b=some (.frz o (.lst xs))
theorem znT{P:Program}{w:World}{K:PySem.W.Frag}{mg mb:Str->Option Value}{CX:CXT}{k:Nat}{fa a:Addr}{fd:FuncData}{x:Str}{sp:Sp}{s₁:Shared}{vs:List Value}{ns:List Int}
 (KX:K.In s₁.heap) (hns:s₁.heap.Ns mainGlobals mg) (hb:s₁.heap.Ns builtinsNs mb) (hbb:∀x:Str,x≠"__name__"->mb x=bootBuiltins x) (hlim:s₁.heap.NoLimit) (hg:s₁.gens= #[])
 (ha:s₁.heap.get? a=some {cls:= .type "list",data:= .seq vs.toArray}) (hi:IntsAre vs ns) (hl:ns.length<=sizeLine) (hr:Room k callerA)
 (F:∀base:Heap,K.In base->base.Ns mainGlobals mg->FnOk P w K mg base CX k fa fd [x] sp) (hbind:∀(s:Shared) (u:Value),BindsTo s fd ⟨[u],[]⟩ [(x,u)])
 (hsp:∀H:Hp,zrk H->SqL K H a (ns.map V.int)->sp [.ref a] H (λv _=>v= .bl true) λ_ _ _=>False)
 (hCX:∀H e s',CX [] H s₁ (λ_ _ _=>False) e s'->False):
 codeAny (model P w) callerA (.call (.ref fa) ⟨[.ref a],[]⟩) (λr s'=>r= .ok (.ret (.bool true))/\OldK s₁.heap s'.heap/\s'.os=s₁.os/\AllBare s'.gens) s₁:=by
 have rv:=zhx hi
 have lenV:=hi.length
 have core:∀H:Hp,zrk H->SqL K H a (ns.map V.int)->HOk P w H s₁.heap->(∀b,H b≠none->b=a)->(H a≠none->K.lookup a=none)->
  codeAny (model P w) callerA (.call (.ref fa) ⟨[.ref a],[]⟩) (λr s'=>r= .ok (.ret (.bool true))/\OldK s₁.heap s'.heap/\s'.os=s₁.os/\AllBare s'.gens) s₁:=by
  intro H hO hS hok hA hK
  have base_of:∀{b:Addr} {o:Obj},s₁.heap.get? b=some o->H b=none->(ziB s₁.heap H).get? b=some o:=λe n=>zor e n
  have noA:∀{b:Addr} {o:Obj} {es:Array DictEntry} {ep:Nat},s₁.heap.get? b=some o->o.data= .dict es ep->H b=none:=λ{b o es ep} e d=>by
   cases q:H b with
   |none=>rfl
   |some u=>
    have e':b=a:=hA b (by rw[q];simp)
    subst e'
    rw[ha] at e;cases e
    have d':Data.seq vs.toArray _=Data.dict es ep:=d
    cases d'
  have nsK:∀{b:Addr} {m:Str->Option Value},s₁.heap.Ns b m->(ziB s₁.heap H).Ns b m:=λ{b m} ⟨o,es,ep,e,d,r⟩=>⟨o,es,ep,base_of e (noA e d),d,r⟩
  have hKb:K.In (ziB s₁.heap H):=λb o e=>base_of (KX b o e) (by
   cases q:H b with
   |none=>rfl
   |some u=>
    have e':b=a:=hA b (by rw[q];simp)
    subst e'
    rw[hK (by rw[q];simp)] at e;cases e)
  have hM:Mod K mg (ziB s₁.heap H):=⟨hKb,nsK hns,⟨mb,nsK hb,hbb⟩,let⟨mc,h1,h2⟩:=hlim;⟨mc,nsK h1,h2⟩⟩
  have e0:Env0 P w K mg (ziB s₁.heap H) callerA [] s₁ H:=⟨rfl,hM,λb o e=>zoG e,Nat.le_of_eq (zmx _ _),trivial,λb hb=>absurd (show b∈([]:List Addr)from hb) (by simp),hok, .of_eq hg⟩
  refine codeAny_mono ((F _ hKb (nsK hns)).run callerA [] s₁ H ⟨[.ref a],[]⟩ [.ref a] [.ref a] _ _ hr e0 (hbind s₁ (.ref a)) (.cons rfl .nil) (hsp H hO hS)) λr s' h=>?_
  cases r with
  |error e=>exact (hCX H e s' h).elim
  |ok fl=>
   cases fl with
   |next=>exact False.elim h
   |brk=>exact False.elim h
   |cont=>exact False.elim h
   |ret u=>
    obtain⟨v,H',os,bare,un,hok',r',q⟩:=h
    have q':v= .bl true:=q
    subst q'
    obtain rfl:u=Value.bool true:=r'
    refine⟨rfl,OldK.of_keep λb o e=>?_,os,bare⟩
    cases q:H b with
    |none=>exact un.keep b o e q (by intro z;exact absurd (show b∈([]:List Addr)from z) (by simp)) (by simp)
    |some u=>
     rcases hO b with z|⟨ob,xs,z⟩
     ·rw[q] at z;cases z
     ·have z2:=un.frzs b ob _ z
      obtain⟨e1,_⟩:=hok b _ z
      obtain⟨e2,_⟩:=hok' b _ z2
      rw[e] at e1;cases e1
      exact e2
 cases hk:K.lookup a with
 |some o=>
  have e:=KX a o hk
  rw[ha] at e
  cases e
  refine core (λ_=>none) (λ_=> .inl rfl) (.inr ⟨_,vs.toArray,_,hk,rfl,rfl,rfl,by rw[List.size_toArray,lenV];exact hl,by simpa using rv⟩) (λb u z=>by have z':(none:Option HO)=some u:=z;cases z') (λb z=>absurd rfl z) λz=>absurd rfl z
 |none=>
  refine core (λb=>if b=a then some (.frz {cls:= .type "list",data:= .seq vs.toArray} (.lst (ns.map V.int)))else none) (λb=>?_) (.inl (.inr ⟨{cls:= .type "list",data:= .seq vs.toArray},if_pos rfl⟩)) (λb u z=>?_) (λb z=>?_) λ_=>hk
  ·by_cases hb:b=a
   ·exact .inr ⟨_,_,if_pos hb⟩
   ·exact .inl (if_neg hb)
  ·by_cases hb:b=a
   ·have z':=(if_pos hb).symm.trans z
    cases z'
    subst hb
    exact⟨ha,by rw[List.length_map];exact hl,vs,_,rv,ha⟩
   ·have z':=(if_neg hb).symm.trans z
    cases z'
  ·by_cases hb:b=a
   ·exact hb
   ·exact absurd (if_neg hb) z
theorem walk_of{l:PySem.W.OpenLaw}{n k:Nat}{q:Program}{loose:List Str}{XP:(Str->Option Value)->Heap->Prop}{YP:World->Heap->Prop}{d:DefRec}{K:Params->PySem.W.Frag}{CX:World->CXT}{sp:World->Sp}{x:Str}
 (hn:l.most=some n) (hn2:n<=sizeLine) (hdf:d.params.defaults=[]) (hr:Room k callerA)
 (hY:∀(w:World) (h:Heap),YP w h->(K w.params).In h)
 (F:∀(w:World) (mg:Str->Option Value) (fa:Addr) (h:Heap),(K w.params).In h->h.Ns mainGlobals mg->mg d.name=some (.ref fa)->
   ∃fd:FuncData,(∀(s:Shared) (u:Value),BindsTo s fd ⟨[u],[]⟩ [(x,u)])/\
    ∀base:Heap,(K w.params).In base->base.Ns mainGlobals mg->FnOk l.prog w (K w.params) mg base (CX w) k fa fd [x] (sp w))
 (hsp:∀(w:World) (H:Hp) (a:Addr) (ns:List Int),ns.length<=n->zrk H->SqL (K w.params) H a (ns.map V.int)->sp w [.ref a] H (λv _=>v= .bl true) λ_ _ _=>False)
 (hCX:∀(w:World) (H:Hp) (s:Shared) (e:Value) (s':Shared),CX w [] H s (λ_ _ _=>False) e s'->False):
 PySem.W.WalkO q loose XP YP l.row.toRowW d [] (λf vs=>PySem.call f vs):=by
 refine Att.attach_call hn hdf λw s₀ s₁ mg mb fa o pm cd doc a vs ns G Y ho hd hcd hmg hobj hints hlen hg=>?_
 have KX:=hY w _ Y
 obtain⟨fd,hb,hF⟩:=F w mg fa _ KX G.T.g hmg
 exact znT KX G.T.g G.T.b G.T.builtins G.T.nolimit hg hobj hints (Nat.le_trans hlen hn2) hr hF hb (λH hO hS=>hsp w H a ns hlen hO hS) λH e s'=>hCX w H s₁ e s'
noncomputable def zw(s:Stmt):Arguments:=match s with
 | .FunctionDef _ a _ _ _ _ _ _ _ _=>a
 |_=>{posonlyargs:=[],args:=[],vararg:=none,kwonlyargs:=[],kw_defaults:=[],kwarg:=none,defaults:=[]}
noncomputable def zu(s:Stmt):List Stmt:=match s with
 | .FunctionDef _ _ b _ _ _ _ _ _ _=>b
 |_=> []
noncomputable def zg(s:Stmt):Scope:=match s with
 | .FunctionDef _ _ _ _ _ _ sc _ _ _=>sc
 |_=>{kind:= .function,names:=[],isGenerator:=false,isCoroutine:=false}
noncomputable abbrev CX0:CXT:=λ_ _ _ _ _ _=>False
noncomputable abbrev E0:XK:=λ_ _ _=>False
theorem zr{X:Cx}:zhN CX0 X E0:=λ_ _ _ _ _ _ _ h=>h.elim
structure Fun(K:PySem.W.Frag)(x qual:Str)(st:Stmt)(f:Addr)(fd:FuncData):Prop where
 ex:∃(oc:Value) (od:Option Addr) (kV doc pm:Value) (an:Option Addr) (cdv ct:Value) (osl:Array (Option Value)),
  fd=PySem.W.fnOf x qual (zw st) (zu st) (zg st) .none kV doc pm an cdv ct/\K.lookup f=some ⟨oc,od, .func fd,osl⟩/\PySem.W.codeIn K cdv qual=true
 kp:PySem.W.keepIn K (.ref f)=true
section
variable{P:Program}{w:World}{K:PySem.W.Frag}{mg:Str->Option Value}{base:Heap}
theorem Fun.ok{x qual:Str}{st:Stmt}{f:Addr}{fd:FuncData}{N ps:List Str}{k:Nat}{sp:Sp}(F:Fun K x qual st f fd)(S:FnScope N ps (zg st))(len:∀vs H Q E,sp vs H Q E->vs.length=ps.length)
 (hbody:∀(cdv:Value) (A:Around) (outer:List Env) (s:Shared) (H:Hp) (vs:List V) (Q:VK) (E:XK),Room k (A.deeper (envOfC qual (zg st) s.heap.objs.size f cdv))->sp vs H Q E->
   ∃t,PSs (zjp CX0 P w K mg base N qual (zg st) f cdv A outer s H E).nox (zu st) t/\t {nx:=λ_ H'=>Q .non H',rt:=Q} (zej N vs) H):FnOk P w K mg base CX0 (k+1) f fd ps sp:=by
 obtain⟨oc,od,kV,doc,pm,an,cdv,ct,osl,rfl,lk,hcd⟩:=F.ex
 refine zqi lk hcd S len λA outer s H vs Q E hr hsp=>?_
 obtain⟨t,h,q⟩:=hbody cdv A outer s H vs Q E hr hsp
 exact⟨t,h.nox,q⟩
theorem Fun.binds{x qual:Str}{st:Stmt}{f:Addr}{fd:FuncData}{ps:List Str}(F:Fun K x qual st f fd)
 (h:∀(kV doc pm:Value) (an:Option Addr) (cdv ct:Value) (us:List Value),us.length=ps.length->bindArgs (PySem.W.fnOf x qual (zw st) (zu st) (zg st) .none kV doc pm an cdv ct) ⟨us,[]⟩=pure (ps.zip us)):Binds K fd ps []:=by
 obtain⟨oc,od,kV,doc,pm,an,cdv,ct,osl,rfl,lk,hcd⟩:=F.ex
 exact .all (h kV doc pm an cdv ct)
theorem zO{x qual:Str}{st:Stmt}{f:Addr}{oc:Value}{od an:Option Addr}{osl:Array (Option Value)}{kV doc pm cdv ct:Value}(l:K.lookup f=some ⟨oc,od, .func (PySem.W.fnOf x qual (zw st) (zu st) (zg st) .none kV doc pm an cdv ct),osl⟩)
 (c:PySem.W.codeIn K cdv qual=true) (k:PySem.W.keepIn K (.ref f)=true):Fun K x qual st f (PySem.W.fnOf x qual (zw st) (zu st) (zg st) .none kV doc pm an cdv ct):=⟨⟨oc,od,kV,doc,pm,an,cdv,ct,osl,rfl,l,c⟩,k⟩
end
theorem zm{n:Nat}(h:n<=1000):n<sizeLine:=Nat.lt_of_le_of_lt h (by decide)
section
variable{X:Cx}
end
theorem zbx{c A B:Prop}[Decidable c](h1:c->A)(h2:¬c->B):if c then A else B:=by
 by_cases h:c
 ·rw[if_pos h]
  exact h1 h
 ·rw[if_neg h]
  exact h2 h
def Same(H H':Hp):Prop:=∀b o,H b=some o->H' b=some o
theorem Same.refl(H:Hp):Same H H:=λ_ _ h=>h
theorem Same.trans{H H1 H2:Hp}(a:Same H H1)(b:Same H1 H2):Same H H2:=λc o h=>b c o (a c o h)
theorem Same.seq{K:PySem.W.Frag}{H H':Hp}{a:Addr}{xs:List V}(e:Same H H')(h:SqL K H a xs):SqL K H' a xs:=by
 rcases h with(h|⟨o,h⟩)|h
 ·exact .inl (.inl (e _ _ h))
 ·exact .inl (.inr ⟨o,e _ _ h⟩)
 ·exact .inr h
end L2
set_option maxHeartbeats 4000000
namespace L2
open PySem PySem.Spec PyProof.Rows
noncomputable def zam(X:Cx)(N':List Str)(scope:Scope)(cl:List (Str×Addr))(C:Addr)(s₀:Shared)(H₀:Hp)(fp:List Addr):Cx:=
 {prog:=X.prog,w:=X.w,K:=X.K,mg:=X.mg,base:=X.base,A:=X.A,N:=N',s₀:=s₀,H₀:=H₀,env:=compEnvC scope cl C X.env,outer:=X.stack,stack:=X.stack,ex:=fp,fn:=λ_=>false,
  calm:=X.calm,pn:=[],xe:=λ_ _=>False}
structure CompOk(N:List Str)(osc:Scope)(N':List Str)(src:List (Option Nat))(scope:Scope):Prop where
 kind:scope.kind= .function
 nocell:∀y∈scope.names,y.2≠ .cell
 loc:∀y∈scope.names,y.2= .local->scope.names.lookup y.1=some .local
 frees:∀y∈scope.names,y.2= .free->osc.names.lookup y.1=some .cell\/osc.names.lookup y.1=some .free
 nd:N'.Nodup
 len:src.length=N'.length
 src:∀q∈src.zip N',∀j∈q.1.toList,N[j]?=some q.2/\scope.names.lookup q.2=some .free
theorem zeo{env:Env}:∀(l:List (Str×NameKind)) (acc:List (Str×Addr)),(∀x c,acc.lookup x=some c->env.cells.lookup x=some c)->(∀y∈l,y.2= .free->∃c,env.cells.lookup y.1=some c)->
 ∃cl,(forIn l acc λ(x:Str×NameKind) (r:List (Str×Addr))=>(if(x.2==NameKind.free)=true then(cellOf env x.1>>=λa=>pure (ForInStep.yield ((x.1,a)::r)))else pure (ForInStep.yield r):Sem (ForInStep (List (Str×Addr)))))=pure cl/\
  (∀x c,cl.lookup x=some c->env.cells.lookup x=some c)/\(∀y∈l,y.2= .free->∃c,cl.lookup y.1=some c)/\(∀x c,acc.lookup x=some c->∃d,cl.lookup x=some d)
 |[],acc,h,_=>⟨acc,rfl,h,λ_ z=>(nomatch z),λx c e=>⟨c,e⟩⟩
 |(n,k)::l,acc,h,hf=>by
  by_cases hk:k= .free
  ·subst hk
   obtain⟨c,hc⟩:=hf (n, .free) List.mem_cons_self rfl
   have hacc:∀x d,((n,c)::acc).lookup x=some d->env.cells.lookup x=some d:=λx d e=>by
    rw[List.lookup_cons] at e
    cases hx:x==n with
    |true=>
     rw[hx] at e
     have e1:x=n:=by simpa using hx
     have e2:c=d:=by simpa using e
     rw[e1,←e2];exact hc
    |false=>
     rw[hx] at e
     exact h x d e
   obtain⟨cl,e1,e2,e3,e4⟩:=zeo l ((n,c)::acc) hacc λy hy=>hf y (List.mem_cons_of_mem _ hy)
   refine⟨cl,?_,e2,λy hy hyf=>?_,λx d e=>?_⟩
   ·rw[List.forIn_cons]
    have:cellOf env n=pure c:=by unfold cellOf;rw[hc]
    simp only[beq_self_eq_true,if_true,this,pure_bind]
    exact e1
   ·rcases List.mem_cons.mp hy with rfl|hy
    ·exact e4 n c (by simp)
    ·exact e3 y hy hyf
   ·by_cases hx:x=n
    ·subst hx;exact e4 x c (by simp)
    ·have hb:(x==n)=false:=by simpa using hx
     exact e4 x d (by rw[List.lookup_cons,hb];exact e)
  ·obtain ⟨cl,e1,e2,e3,e4⟩:=zeo l acc h λy hy=>hf y (List.mem_cons_of_mem _ hy)
   refine⟨cl,?_,e2,λy hy hyf=>?_,e4⟩
   ·rw[List.forIn_cons]
    have hb:(k==NameKind.free)=false:=by simpa using hk
    simp only[hb,Bool.false_eq_true,if_false,pure_bind]
    exact e1
   ·rcases List.mem_cons.mp hy with rfl|hy
    ·exact absurd hyf hk
    ·exact e3 y hy hyf
theorem zgb{scope:Scope}{env:Env}(hf:∀y∈scope.names,y.2= .free->∃c,env.cells.lookup y.1=some c):
 ∃cl,closureFor scope env=pure cl/\(∀x c,cl.lookup x=some c->env.cells.lookup x=some c)/\∀y∈scope.names,y.2= .free->∃c,cl.lookup y.1=some c:=by
 obtain⟨cl,e1,e2,e3,_⟩:=zeo (env:=env) scope.names [] (λ_ _ z=>by simp at z) hf
 refine⟨cl,?_,e2,e3⟩
 unfold closureFor
 refine Eq.trans ?_ (congrArg (λt=>t>>=λc=>(pure c:Sem (List (Str×Addr)))) e1)
 first
  |rfl
  |(congr 1)
theorem zir{scope:Scope}{env:Env}:∀{x:Str},(relabel scope env).names.lookup x=some .cell\/(relabel scope env).names.lookup x=some .free->(∀y∈scope.names,y.2≠ .cell)->(x,NameKind.free)∈scope.names:=by
 intro x h hc
 have key:∀(l:List (Str×NameKind)),(∀y∈l,y.2≠ .cell)->((l.map λ(n,k)=>if (k==NameKind.free&&env.scope.kind== .function&&env.kindOf n==some .cell)then(n,NameKind.cell)else(n,k)).lookup x=some .cell\/
  (l.map λ(n,k)=>if (k==NameKind.free&&env.scope.kind== .function&&env.kindOf n==some .cell)then(n,NameKind.cell)else(n,k)).lookup x=some .free)->(x,NameKind.free)∈l:=by
  intro l
  induction l with
  |nil=>intro _ h;simp at h
  |cons y l ih=>
   obtain⟨n,k⟩:=y
   intro hc h
   have hc':∀y∈l,y.2≠ .cell:=λy hy=>hc y (List.mem_cons_of_mem _ hy)
   have hk:k≠ .cell:=hc (n,k) List.mem_cons_self
   rw[List.map_cons] at h
   by_cases hx:x=n
   ·subst hx
    by_cases hf:k= .free
    ·subst hf;exact List.mem_cons_self
    ·exfalso
     have hb:(k==NameKind.free)=false:=by simpa using hf
     simp only[hb,Bool.false_and,Bool.false_eq_true,if_false,List.lookup_cons,beq_self_eq_true] at h
     rcases h with h|h
     ·exact hk (Option.some.inj h)
     ·exact hf (Option.some.inj h)
   ·refine List.mem_cons_of_mem _ (ih hc' ?_)
    have hb:(x==n)=false:=by simpa using hx
    by_cases hq:(k==NameKind.free&&env.scope.kind== .function&&env.kindOf n==some .cell)=true
    ·simp only[hq,if_true,List.lookup_cons,hb] at h
     exact h
    ·simp only[hq,Bool.false_eq_true,if_false,List.lookup_cons,hb] at h
     exact h
 exact key _ hc h
theorem ziA{scope:Scope}{env:Env}{x:Str}(h:scope.names.lookup x=some .free):(relabel scope env).names.lookup x=some .cell\/(relabel scope env).names.lookup x=some .free:=by
 have key:∀(l:List (Str×NameKind)),l.lookup x=some .free->((l.map λ(n,k)=>if (k==NameKind.free&&env.scope.kind== .function&&env.kindOf n==some .cell)then(n,NameKind.cell)else(n,k)).lookup x=some .cell\/
  (l.map λ(n,k)=>if (k==NameKind.free&&env.scope.kind== .function&&env.kindOf n==some .cell)then(n,NameKind.cell)else(n,k)).lookup x=some .free):=by
  intro l
  induction l with
  |nil=>intro h;simp at h
  |cons y l ih=>
   obtain⟨n,k⟩:=y
   intro h
   rw[List.map_cons]
   rw[List.lookup_cons] at h
   cases hx:x==n with
   |true=>
    rw[hx] at h
    have hk:k= .free:=Option.some.inj h
    subst hk
    by_cases hq:(NameKind.free==NameKind.free&&env.scope.kind== .function&&env.kindOf n==some .cell)=true
    ·simp only[hq,if_true,List.lookup_cons,hx];exact .inl trivial
    ·simp only[hq,Bool.false_eq_true,if_false,List.lookup_cons,hx];exact .inr trivial
   |false=>
    rw[hx] at h
    by_cases hq:(k==NameKind.free&&env.scope.kind== .function&&env.kindOf n==some .cell)=true
    ·simp only[hq,if_true,List.lookup_cons,hx];exact ih h
    ·simp only[hq,Bool.false_eq_true,if_false,List.lookup_cons,hx];exact ih h
 exact key _ h
noncomputable def zdo(src:List (Option Nat))(σ:St):St:=src.map λo=>o.bind λj=>(σ[j]?).join
section
variable{X:Cx}{pins:List (Addr×Obj)}{σ:St}{H:Hp}{s:Shared}{N':List Str}{src:List (Option Nat)}{scope osc:Scope}{cl:List (Str×Addr)}{fp:List Addr}
theorem zgv{h₁:Heap}{tk:Nat}(I:Inv X pins σ H s)(hf:∀b∈fp,zeJ X pins H b)(hlt:∀b∈fp,b<s.heap.objs.size)(ok:CompOk X.N osc N' src scope)(hsc:X.env.scope=osc)
 (c1:∀x c,cl.lookup x=some c->X.env.cells.lookup x=some c) (c2:∀y∈scope.names,y.2= .free->∃c,cl.lookup y.1=some c)
 (hn:h₁.Ns s.heap.objs.size λ_=>none) (hk:∀b o,s.heap.get? b=some o->h₁.get? b=some o):
 Inv (zam X N' scope cl s.heap.objs.size s H fp) [] (zdo src σ) H {s with heap:=h₁,toks:=tk}:=by
 have hkind:(relabel scope X.env).kind= .function:=ok.kind
 refine⟨⟨I.ok.mod,hkind,I.ok.glob,I.ok.blt,Nat.le_refl _,λx y c h1 h2=>I.ok.inj x y c (c1 x c h1) (c1 y c h2),λx hx=>?_,λx c z _=>(by cases z),I.ok.hd,I.ok.frames, .inl rfl,λb hb=>?_,I.bs,Nat.le_trans I.ok.bsz I.sz,λb o e hb=>?_,λb hb z=>?_,I.stack,I.stkFree⟩,
  rfl,I.bare,Un.kept hk,⟨_,hn,λi x v h1 h2 h3=>?_⟩,λx c e=>?_,I.hok.fresh (Nat.le_refl _),λx c e=>I.freeC x c (c1 x c e),λp hp=>absurd (show p∈([]:List (Addr×Obj))from hp) (by simp),I.hok.kept hk,?_⟩
 ·exact c2 _ (zir (env:=X.env) (scope:=scope) (x:=x) hx ok.nocell) rfl
 ·obtain ⟨f0,f1,f2,f3,f4,f5⟩:=hf b hb
  exact⟨λz=>absurd (hlt b hb) (by rw[z];exact Nat.lt_irrefl _),λx c e=>f4 x c (c1 x c e)⟩
 ·obtain ⟨f0,f1,f2,f3,f4,f5⟩:=hf b hb
  rcases f3 with z|z
  ·exact I.ok.noex b o e z
  ·exact absurd (Nat.lt_of_lt_of_le (Heap.lt_size e) (Nat.le_trans I.ok.bsz z)) (Nat.lt_irrefl _)
 ·obtain ⟨f0,f1,f2,f3,f4,f5⟩:=hf b hb
  rcases List.mem_cons.mp (I.stkSub b z)with q|q
  ·exact f1 q
  ·exact f2 q
 ·
  have hi:∃j,src[i]?=some (some j)/\σ[j]?=some (some v):=by
   unfold zdo at h2
   rw[List.getElem?_map] at h2
   cases e:src[i]? with
   |none=>rw[e] at h2;cases h2
   |some o=>
    rw[e] at h2
    cases o with
    |none=>cases h2
    |some j=>
     refine⟨j,rfl,?_⟩
     have h2':(σ[j]?).join=some v:=Option.some.inj h2
     cases e2:σ[j]? with
     |none=>rw[e2] at h2';cases h2'
     |some w=>rw[e2] at h2';exact congrArg some h2'
  obtain⟨j,e1,e2⟩:=hi
  have hz:(some j,x)∈src.zip N':=by
   refine List.mem_iff_getElem?.mpr ⟨i,?_⟩
   rw[List.getElem?_zip_eq_some]
   exact⟨e1,h1⟩
  obtain⟨q1,q2⟩:=ok.src _ hz j (by simp)
  have hfr:=PySem.mem_of_lookup q2
  have hk0:=ok.frees _ hfr rfl
  rw[←hsc] at hk0
  obtain⟨m,hns,hl⟩:=I.loc
  obtain⟨u,r,l⟩:=hl j x v q1 e2 (hk0.elim (λz=> .inr (.inl z)) λz=> .inr (.inr z))
  refine⟨u,r,?_⟩
  rcases l with⟨l1,_⟩|⟨_,c,l2,l3⟩
  ·exfalso
   have l1':X.env.scope.names.lookup x=some .local:=l1
   rcases hk0 with z|z
   ·rw[l1'] at z;cases z
   ·rw[l1'] at z;cases z
  ·obtain ⟨d,hd⟩:=c2 _ hfr rfl
   have:d=c:=by
    have:=(c1 _ _ hd).symm.trans l2
    exact Option.some.inj this
   subst this
   obtain⟨o,ho,hod⟩:=l3
   exact .inr ⟨ziA q2,d,hd,o,hk _ _ ho,hod⟩
 ·obtain ⟨v,o,ho,hod⟩:=I.cell x c (c1 x c e)
  exact⟨v,o,hk _ _ ho,hod⟩
 ·show (zdo src σ).length=N'.length
  unfold zdo
  rw[List.length_map]
  exact ok.len
theorem zgG{C:Addr}{σ':St}{H':Hp}{s':Shared}{h':Heap}(I:Inv X pins σ H s)(hf:∀b∈fp,zeJ X pins H b)(hC:s.heap.objs.size<=C)(J:Inv (zam X N' scope cl C s H fp) [] σ' H' s')(hs:Heap.SameBut C s'.heap h'):
 Inv X pins σ H' {s' with heap:=h'}:=by
 have nC:∀b o,s.heap.get? b=some o->b≠C:=λb o e z=>absurd (Nat.lt_of_lt_of_le (Heap.lt_size e) (by rw[z];exact hC)) (Nat.lt_irrefl _)
 have B:Un (frs X.stack) fp H H' s.heap s'.heap:=J.base
 refine I.call' (ch:=fp) J.os ⟨λb o e n hb hx=>(hs.2 b (nC b o e)).trans (B.keep b o e n hb hx),λb o e n hb hx=>?_,B.free,λb o e hx=>?_,B.tups,B.frzs,B.tbls⟩ (λb ob e=>?_) J.bare λb hb=>?_
 ·obtain ⟨sl,e1⟩:=B.slot b o e n hb hx
  exact⟨sl,(hs.2 b (nC b o e)).trans e1⟩
 ·obtain ⟨o',e1⟩:=B.there b o e hx
  exact⟨o',(hs.2 b (nC b o e)).trans e1⟩
 ·refine (J.hok b ob e).stay (λc w' hc q=>(hs.2 c ?_).trans q) (λ_ q=>q) λ_ _ q=>q
  have hfree:H' C=none:=J.free
  rintro rfl
  rcases hc with rfl|hc
  ·rw[hfree] at e;cases e
  ·rw[hfree] at hc;cases hc
 ·obtain ⟨f0,f1,f2,f3,f4,f5⟩:=hf b hb
  exact⟨f3,f1,f4,f5⟩
end
noncomputable def zkY(ifs:List Expr)(env:Env):Sem Bool:=forIn ifs true λc r=>if r=true then do let ok ←isTrue c env (eval c env);pure (ForInStep.yield ok)else pure (ForInStep.yield r)
def PIf(X:Cx)(ifs:List Expr)(t:TT):Prop:=
 ∀(pins:List (Addr×Obj)) (s:Shared) (σ:St) (H:Hp) (Q:Bool->Hp->Prop),Inv X pins σ H s->t σ H Q->wpAny (model X.prog X.w) X.A (zkY ifs X.env) (TP X pins σ Q) X.xe s
noncomputable def zik:TT:=λ_ H Q=>Q true H
theorem zoV{X:Cx}:PIf X [] zik:=λpins s σ H Q I h=>wpAny_tests_nil ⟨H,I,h⟩
theorem zo5{X:Cx}{c:Expr}{t:TT}(h:PT X c t):PIf X [c] t:=λpins s σ H Q I hq=>wpAny_tests_one (h pins s σ H Q I hq)
theorem zeF{prog:Program}{w:World}{A:Around}{R:Result->Shared->Prop}{s:Shared}{elt target iter:Expr}{ifs:List Expr}{scope:Scope}{pos:Pos}{it acc:Value}{env:Env}(I:Nat->Shared->Prop)
 (turn:∀n s,I n s->wpAny (model prog w) A (pyNext it) (λr s1=>match r with
   |none=>R (.ok .next) s1
   |some v=>wpAny (model prog w) A (letOwnedTupleGo target it v) (λ_ s1'=>wpAny (model prog w) A (assign target env v) (λ_ s2=>wpAny (model prog w) A (zkY ifs env) (λok s3=>
     if ok=true then wpAny (model prog w) A (eval elt env) (λx s4=>wpAny (model prog w) A (call (.builtin "list.append") [acc,x]) (λ_ s5=>∃m,m<n/\I m s5) (λ_ _=>False) s4) (λ_ _=>False) s3
     else∃m,m<n/\I m s3) (λ_ _=>False) s2) (λ_ _=>False) s1') (λ_ _=>False) s1) (λ_ _=>False) s)
 (n:Nat) (h:I n s):codeAny (model prog w) A (.compLoop (.ListComp elt [⟨target,iter,ifs,0⟩] scope pos) 0 it acc env) R s:=by
 have no:∀{E:Value->Shared->Prop} (e:Value) (s:Shared),(λ(_:Value) (_:Shared)=>False) e s->E e s:=λ_ _ z=>False.elim z
 refine codeAny_loop rfl I (λn s hI=>?_) n h
 show wpAny _ A ((compTurn (.ListComp elt [⟨target,iter,ifs,0⟩] scope pos) 0 it acc env).onRaise (λx=>do noteFrame x env;theTreesLotGoes x)) _ _ s
 refine wpAny_noted ?_
 rw[compTurn_list]
 refine wpAny_bind (wpAny_standAt (wpAny_bind (wpAny_mono (turn n s hI) (λr s₁ h₁=>?_) no)))
 cases r with
 |none=>exact wpAny_pure h₁
 |some v=>
  refine wpAny_bind (wpAny_mono h₁ (λ_ s1' h1'=>?_) no)
  refine wpAny_bind (wpAny_mono h1' (λ_ s₂ h₂=>wpAny_bind (wpAny_mono h₂ (λok s₃ h₃=>?_) no)) no)
  cases ok with
  |false=>exact wpAny_pure ⟨rfl,h₃⟩
  |true=>
   exact wpAny_bind (wpAny_bind (wpAny_mono h₃ (λx s₄ h₄=>wpAny_bind (wpAny_mono h₄ (λ_ s₅ h₅=>wpAny_pure (wpAny_pure ⟨rfl,h₅⟩)) no)) no))
def zcb(g:TG)(tc:TT)(te:TE)(src:List (Option Nat))(σ:St)(Q:VK)(J:It)(H1:Hp):Prop:=∀l,H1 l=none->
 ∃W:Nat->Nat->List V->St->Hp->Prop,(∃m,W 0 m [] (zdo src σ) (upd H1 l (.lst [])))/\∀i m ys σ' H',W i m ys σ' H'->H' l=some (.lst ys)->
  (J.stop i H'/\Q (.ref l) H')\/(J.go i H'/\∃N:List V->St->Hp->Prop,(∀zs σ2 H2,N zs σ2 H2->∃m',m'<m/\W (i+1) m' zs σ2 H2)/\∀x H2,J.yld i H' x H2->g x σ' H2 λσ2 H3=>tc σ2 H3 λb H4=>
    if b=true then te σ2 H4 λy H5=>H5 l=some (.lst ys)/\ys.length<sizeLine/\N (ys ++ [y]) σ2 (upd H5 l (.lst (ys ++ [y])))
    else H4 l=some (.lst ys)/\N ys σ2 H4)
noncomputable def zhr(wi:TI)(g:TG)(tc:TT)(te:TE)(src:List (Option Nat)):TE:=λσ H Q=>wi σ H (zcb g tc te src σ Q)
def zmU(g:TG)(tb:TS)(D:Ends)(σ:St)(J:It)(H1:Hp):Prop:=∃W:Nat->Nat->St->Hp->Prop,(∃m,W 0 m σ H1)/\∀i m σ H,W i m σ H->
 (J.stop i H/\D.nx σ H)\/(J.go i H/\∃N:St->Hp->Prop,(∀σ' H',N σ' H'->∃m',m'<m/\W (i+1) m' σ' H')/\∀x H',J.yld i H x H'->g x σ H' λσ2 H2=>tb {D with nx:=N,ct:=N,bk:=D.nx} σ2 H2)
noncomputable def zp6(wi:TI)(g:TG)(tb:TS):TS:=λD σ H=>wi σ H (zmU g tb D σ)
theorem zpR{X:Cx}{tg iter:Expr}{body:List Stmt}{wi:TI}{g:TG}{tb:TS}{pos:Pos}(hp:PassesOwn (model X.prog X.w) X.A X.env X.xe)(hc:X.calm=true)(hi:PI X tg iter wi)(hg:PG X tg g)(hb:PSs X body tb)
 (hs:∀x,foldedSetIterable iter X.env x=pure x:=by intro _;rfl):PS X (.For tg iter body [] pos) (zp6 wi g tb):=zqF hp hc hi hg hb hs
section
variable{X:Cx}{elt tg iter:Expr}{ifs:List Expr}{scope osc:Scope}{pos:Pos}{N':List Str}{src:List (Option Nat)}{wi:TI}{g:TG}{tc:TT}{te:TE}
theorem zoK(ok:CompOk X.N osc N' src scope)(hsc:X.env.scope=osc)(hc:X.calm=true)(hi:PI X tg iter wi)
 (hg:∀cl C s₀ H₀ fp,PG (zam X N' scope cl C s₀ H₀ fp) tg g) (ht:∀cl C s₀ H₀ fp,PIf (zam X N' scope cl C s₀ H₀ fp) ifs tc) (he:∀cl C s₀ H₀ fp,PE (zam X N' scope cl C s₀ H₀ fp) elt te)
 (hs:∀x,foldedSetIterable iter X.env x=pure x:=by intro _;rfl):PE X (.ListComp elt [⟨tg,iter,ifs,0⟩] scope pos) (zhr wi g tc te src):=by
 intro pins s σ H Q I h
 obtain⟨cl,hcl,c1,c2⟩:=zgb (scope:=scope) (env:=X.env) λy hy hyf=>I.ok.has y.1 (by
  have z:=ok.frees y hy hyf
  rw[←hsc] at z
  exact z)
 rw[eval_ListComp]
 refine wpAny_comprehension_free (use:=none) rfl hs hcl ok.kind ok.loc (thn (hi pins s σ H _ I h) λv s1 h1=>thn h1 λitv s2 h2=>?_)
 obtain⟨it,fp,tn,J,H2,e,I2,T,st2,f2,q2⟩:=h2
 subst e
 have hlt2:∀b∈fp,b<s2.heap.objs.size:=λb hb=>by
  obtain⟨o,e,_⟩:=T.obj _ _ st2 b hb
  exact Heap.lt_size e
 refine wpAny_newObj_type ?_
 have hl:H2 s2.heap.objs.size=none:=I2.hok.fresh (Nat.le_refl _)
 have I3:Inv X pins σ (upd H2 s2.heap.objs.size (.lst [])) {s2 with heap:=s2.heap.push {cls:= .type "list",dict:=none,data:= .seq ([]:List Value).toArray}}:=
  I2.laid (t':=s2.toks) (λb u e=>Heap.get?_push_of_some _ e) (Nat.le_refl _) ⟨Nat.zero_le _,[],0, .nil,Heap.get?_push_size _ rfl⟩
 obtain⟨W,⟨m0,w0⟩,turn⟩:=q2 _ hl
 generalize hl2:s2.heap.objs.size=l at *
 generalize hs3:({s2 with heap:=s2.heap.push {cls:= .type "list",dict:=none,data:= .seq ([]:List Value).toArray}}:Shared)=s3 at *
 have f3:∀b∈fp,zeJ X pins (upd H2 l (.lst [])) b:=λb hb=>⟨by rw[zq (Nat.ne_of_lt (hlt2 b hb))];exact(f2 b hb).1,(f2 b hb).2⟩
 have k3:∀b o,s2.heap.get? b=some o->s3.heap.get? b=some o:=λb o e=>by rw[←hs3];exact Heap.get?_push_of_some _ e
 have hlt3:∀b∈fp,b<s3.heap.objs.size:=λb hb=>by
  obtain⟨o,e,_⟩:=T.obj _ _ st2 b hb
  exact Heap.lt_size (k3 b o e)
 refine wpAny_newFunctionEnv ok.nocell (by intro y hy;simp at hy) (λh₁ hns₁ hsb₁=>?_) ok.kind
 have k4:∀b o,s3.heap.get? b=some o->h₁.get? b=some o:=λb o e=>(hsb₁.2 b (Nat.ne_of_lt (Heap.lt_size e))).trans (Heap.get?_push_of_some _ e)
 have J0:=zgv (tk:=s3.toks+([]:List (Str×Value)).length) I3 f3 hlt3 ok hsc c1 c2 hns₁ k4
 have st4:tn 0 h₁:=T.keep _ _ _ st2 λb hb o e=>k4 b o (k3 b o e)
 generalize hC:s3.heap.objs.size=C at *
 have stat:∀{H':Hp},(∀b∈fp,H' b=none)->∀b∈fp,zeJ (zam X N' scope cl C s3 (upd H2 l (.lst [])) fp) [] H' b:=λ{H'} hn b hb=>
  ⟨hn b hb,(J0.ok.exf b hb).1,J0.ok.exfs b hb, .inl hb,(J0.ok.exf b hb).2,λp hp=>absurd (show p∈([]:List (Addr×Obj))from hp) (by simp)⟩
 have loop:codeAny (model X.prog X.w) X.A (.compLoop (.ListComp elt [⟨tg,iter,ifs,0⟩] scope pos) 0 (.ref it) (.ref l) (compEnvC scope cl C X.env))
  (compPost (model X.prog X.w) X.A X.xe none (EP X pins σ Q) (.ref l) C) {s3 with heap:=h₁,toks:=s3.toks+([]:List (Str×Value)).length}:=by
  refine zeF (λn s'=>∃i ys σ' H',Inv (zam X N' scope cl C s3 (upd H2 l (.lst [])) fp) [] σ' H' s'/\tn i s'.heap/\(∀b∈fp,H' b=none)/\H' l=some (.lst ys)/\W i n ys σ' H') ?_ m0
   ⟨0,[],_,_,J0,st4,λb hb=>(f3 b hb).1,zd,w0⟩
  rintro n s5 ⟨i,ys,σ5,H5,I5,st5,fr5,hl5,w5⟩
  rcases turn i n ys σ5 H5 w5 hl5 with⟨stop,qn⟩|⟨go,N,hN,step⟩
  ·refine thn (T.done (zam X N' scope cl C s3 (upd H2 l (.lst [])) fp) rfl rfl rfl hc i [] s5 σ5 H5 (λ_ _=>False) I5 (stat fr5) st5 stop) λr s6 ⟨hr,I6⟩=>?_
   subst hr
   obtain⟨m,hn,_⟩:=I6.loc
   exact⟨m,hn,λh' hsb=>⟨.ref l,H5,zgG I3 f3 (by rw[←hC];exact Nat.le_refl _) I6 hsb,rfl,qn⟩⟩
  ·refine thn (T.item (zam X N' scope cl C s3 (upd H2 l (.lst [])) fp) rfl rfl rfl hc i [] s5 σ5 H5 (λ_ _=>False) I5 (stat fr5) st5 go) λr s6 ⟨u,hr,h6⟩=>?_
   subst hr
   refine thn h6 λ_ s7 ⟨x,H7,I7,r7,y7,st7,fr7⟩=>?_
   have I7':=I7.pinned (stat fr7) (T.obj _ _ st7)
   refine thn (hg cl C s3 _ fp _ s7 σ5 H7 x u _ I7' r7 (step x H7 y7)) λ_ s8 ⟨σ8,H8,I8,q8⟩=>?_
   refine thn (ht cl C s3 _ fp _ s8 σ8 H8 _ I8 q8) λb s9 ⟨H9,I9,q9⟩=>?_
   have back:∀{s':Shared} {H':Hp},Inv (zam X N' scope cl C s3 (upd H2 l (.lst [])) fp) ([]++zfw fp s7.heap) σ8 H' s'->tn (i+1) s'.heap/\∀b∈fp,H' b=none:=λ{s' H'} I'=>by
    refine⟨T.keep _ _ _ st7 λb hb o e=>(I'.pin (b,o) (List.mem_append_right _ (List.mem_append_right _ (zbC hb e)))).1,λb hb=>?_⟩
    obtain⟨o,e,d⟩:=T.obj _ _ st7 b hb
    exact(I'.pin (b,o) (List.mem_append_right _ (List.mem_append_right _ (zbC hb e)))).2.1
   cases b with
   |false=>
    obtain⟨hl9,n9⟩:=q9
    obtain⟨m',hm,w9⟩:=hN _ _ _ n9
    obtain⟨t9,fr9⟩:=back I9
    exact⟨m',hm,i+1,ys,σ8,H9,I9.unpinned,t9,fr9,hl9,w9⟩
   |true=>
    refine thn (he cl C s3 _ fp _ s9 σ8 H9 _ I9 q9) λxv s10 ⟨y,H10,I10,r10,hl10,hz,n10⟩=>?_
    obtain⟨m',hm,w10⟩:=hN _ _ _ n10
    refine thn (zbH (X:=zam X N' scope cl C s3 (upd H2 l (.lst [])) fp) _ s10 σ8 H10 (.ref l) [y] (.ref l) [xv] (λv H'=>H'=upd H10 l (.lst (ys ++ [y]))) I10 rfl (.cons r10 .nil) ⟨l,ys,y,rfl,rfl,hl10,hz,rfl⟩) λ_ s11 ⟨_,H11,I11,_,e11⟩=>?_
    subst e11
    obtain⟨t11,fr11⟩:=back I11
    exact⟨m',hm,i+1,ys ++ [y],σ8,_,I11.unpinned,t11,fr11,zd,w10⟩
 exact codeAny_compStart_list loop (T.self _ 0 _ _ _ st4 loop)
end
section
variable{κ:Type}[DecidableEq κ]
noncomputable def zeO(kvs:List (κ×V))(k:κ):Option V:=(kvs.find? λkv=>decide (kv.1=k)).map (·.2)
noncomputable def zeq(kvs:List (κ×V))(k:κ)(v:V):List (κ×V):=
 if(kvs.any λkv=>decide (kv.1=k))=true then kvs.map (λkv=>if kv.1=k then(kv.1,v)else kv)else kvs ++ [(k,v)]
theorem zjB{p:κ×V}{r:List (κ×V)}{k:κ}(e:p.1=k):zeO (p::r) k=some p.2:=by simp[zeO,List.find?_cons,e]
theorem ziR{p:κ×V}{r:List (κ×V)}{k:κ}(e:¬p.1=k):zeO (p::r) k=zeO r k:=by simp[zeO,List.find?_cons,e]
theorem zjL(k:κ):∀kvs:List (κ×V),(kvs.any λkv=>decide (kv.1=k))=(zeO kvs k).isSome
 |[]=>rfl
 |p::r=>by
  rw[List.any_cons]
  by_cases e:p.1=k
  ·simp only[zjB e,decide_eq_true e,Bool.true_or,Option.isSome_some]
  ·rw[ziR e,decide_eq_false e,Bool.false_or];exact zjL k r
theorem zfH(kvs:List (κ×V))(k:κ)(v:V):(zeq kvs k v).length<=kvs.length+1:=by
 unfold zeq
 split
 ·rw[List.length_map];omega
 ·rw[List.length_append,List.length_cons,List.length_nil];omega
theorem RelO.isSome_eq{o:Option V}{u:Option Value}(r:RelO o u):o.isSome=u.isSome:=by
 cases o with
 |none=>cases u with
  |none=>rfl
  |some _=>exact (show False from r).elim
 |some _=>cases u with
  |none=>exact (show False from r).elim
  |some _=>rfl
theorem KV.any{kvs:List (κ×V)}{vs:List (κ×Value)}(r:KV kvs vs)(k:κ):(kvs.any λkv=>decide (kv.1=k))=vs.any λkv=>decide (kv.1=k):=by
 unfold KV at r
 induction r with
 |nil=>rfl
 |cons h t ih=>rw[List.any_cons,List.any_cons,ih,h.1]
theorem KV.repl{kvs:List (κ×V)}{vs:List (κ×Value)}(r:KV kvs vs)(k:κ){y:V}{u:Value}(ry:RelV y u):
 KV (kvs.map λkv=>if kv.1=k then(kv.1,y)else kv) (vs.map λkv=>if kv.1=k then(kv.1,u)else kv):=by
 unfold KV at r⊢
 induction r with
 |nil=>exact .nil
 | @cons p q ps qs h t ih=>
   rw[List.map_cons,List.map_cons]
   refine .cons ?_ ih
   obtain⟨h1,h2⟩:=h
   by_cases e:p.1=k
   ·rw[if_pos e,if_pos (h1.symm.trans e)];exact⟨h1,ry⟩
   ·rw[if_neg e,if_neg (λz=>e (h1.trans z))];exact⟨h1,h2⟩
theorem KV.put{kvs:List (κ×V)}{vs:List (κ×Value)}(r:KV kvs vs)(k:κ){y:V}{u:Value}(ry:RelV y u):KV (zeq kvs k y) (stored vs k u):=by
 unfold zeq stored
 rw[r.any k]
 by_cases e:(vs.any λkv=>decide (kv.1=k))=true
 ·rw[if_pos e,if_pos e];exact r.repl k ry
 ·rw[if_neg e,if_neg e];exact Paired.snoc r ⟨rfl,ry⟩
theorem KV.length{kvs:List (κ×V)}{vs:List (κ×Value)}(r:KV kvs vs):kvs.length=vs.length:=Paired.length r
end
theorem zqk{P:Program}{w:World}{k:Key}{u:Value}(r:RelV (kV k) u):(zbn P w).is k u=true:=by
 cases k with
 |inl i=>obtain ⟨t,e⟩:=(show∃t,u=Value.int i t from r);subst e;exact zjk P w i t
 |inr x=>obtain ⟨t,e⟩:=(show∃t,u=Value.str x t from r);subst e;exact zjH P w x t
theorem zhC{P:Program}{w:World}:∀{ks:List Key} {us:List Value},Vals (ks.map kV) us->ItemsAre (zbn P w) ks us
 |[],_,r=>by rw[List.map_nil] at r;cases r;exact .nil
 |k::ks,_,r=>by
  rw[List.map_cons] at r
  cases r with
  |cons h t=>exact .cons (zqk h) (zhC t)
abbrev KT(H:Hp):List (List Key×V)->List (List Key×Addr×Value)->Prop:=Paired λp q=>p.1=q.1/\H q.2.1=some (.tup (p.1.map kV))/\RelV p.2 q.2.2
theorem KT.val{H:Hp}{kvs:List (List Key×V)}{xs:List (List Key×Addr×Value)}(r:KT H kvs xs)(k:List Key):RelO (zeO kvs k) ((atKey xs k).map (·.2)):=by
 induction r with
 |nil=>exact True.intro
 | @cons p q ps qs h t ih=>
   obtain⟨h1,_,h2⟩:=h
   by_cases e:p.1=k
   ·have e':q.1=k:=h1.symm.trans e
    have b:atKey (q::qs) k=some q.2:=by simp[atKey,List.find?_cons,e']
    rw[zjB e,b];exact h2
   ·have e':¬q.1=k:=λz=>e (h1.trans z)
    have b:atKey (q::qs) k=atKey qs k:=by simp[atKey,List.find?_cons,e']
    rw[ziR e,b];exact ih
theorem KT.repl{H:Hp}{kvs:List (List Key×V)}{xs:List (List Key×Addr×Value)}(r:KT H kvs xs)(k:List Key){y:V}{u:Value}(ry:RelV y u):
 KT H (kvs.map λkv=>if kv.1=k then(kv.1,y)else kv) (xs.map (putAt k u)):=by
 induction r with
 |nil=>exact .nil
 | @cons p q ps qs h t ih=>
   rw[List.map_cons,List.map_cons]
   refine .cons ?_ ih
   obtain⟨h1,h2,h3⟩:=h
   unfold putAt
   by_cases e:p.1=k
   ·rw[if_pos e,if_pos (h1.symm.trans e)];exact⟨h1,h2,ry⟩
   ·rw[if_neg e,if_neg (λz=>e (h1.trans z))];exact⟨h1,h2,h3⟩
theorem KT.put{H:Hp}{kvs:List (List Key×V)}{xs:List (List Key×Addr×Value)}(r:KT H kvs xs)(k:List Key){b:Addr}{y:V}{u:Value}(hb:H b=some (.tup (k.map kV)))(ry:RelV y u):
 KT H (zeq kvs k y) (storedH xs k b u):=by
 have e:(kvs.any λkv=>decide (kv.1=k))=(atKey xs k).isSome:=by
  rw[zjL,(r.val k).isSome_eq,Option.isSome_map]
 unfold zeq storedH
 rw[e]
 by_cases q:(atKey xs k).isSome=true
 ·rw[if_pos q,if_pos q];exact r.repl k ry
 ·rw[if_neg q,if_neg q];exact Paired.snoc r ⟨rfl,hb,ry⟩
theorem KT.keeps{H H':Hp}{kvs:List (List Key×V)}{xs:List (List Key×Addr×Value)}(r:KT H kvs xs)(ht:∀b ys,H b=some (.tup ys)->H' b=some (.tup ys)):KT H' kvs xs:=
 Paired.mapP r λ_ _ z=>⟨z.1,ht _ _ z.2.1,z.2.2⟩
section
variable{P:Program}{w:World}{H:Hp}{h:Heap}{a:Addr}
theorem zqd{u:HO}(ok:HOk P w H h)(e:Rd H a u):ObjOk P w H h a u:=e.ok ok
theorem zrJ{kvs:List (Key×V)}(ok:HOk P w H h)(e:Rd H a (.dK kvs)):kvs.length<=sizeLine/\(a==sysModules)=false/\∃vs,KV kvs vs/\h.DictOf (zbn P w) a vs:=
 show ObjOk P w H h a (.dK kvs)from zqd ok e
theorem zpZ{kvs:List (Key×V)}(ok:HOk P w H h)(e:H a=some (.dK kvs)):kvs.length<=sizeLine/\(a==sysModules)=false/\∃vs,KV kvs vs/\h.DictOf (zbn P w) a vs:=zrJ ok (.inl e)
theorem zob{ks:List Key}(ok:HOk P w H h)(e:H a=some (.tup (ks.map kV))):(tupleKind (zbn P w)).is h ks a:=by
 obtain⟨_,its,r,⟨o,h1,h2,n,h3⟩,_⟩:=(show ObjOk P w H h a (.tup (ks.map kV))from ok a _ e)
 exact⟨o,its.toArray,n,h1,h2,h3,by simpa using zhC r⟩
theorem zr7{kvs:List (List Key×V)}(ok:HOk P w H h)(e:Rd H a (.dT kvs)):kvs.length<=sizeLine/\(a==sysModules)=false/\
 ∃xs,KT H kvs xs/\h.DictOfH (tupleKind (zbn P w)) a xs:=by
 obtain⟨z,y,xs,r,o,es,ep,h1,h2,h3,h4,h5⟩:=(show ObjOk P w H h a (.dT kvs)from zqd ok e)
 refine⟨z,y,xs,r,o,es,ep,h1,h2,h3,h4,λx hx=>?_,h5⟩
 have all:∀{l:List (List Key×V)} {m:List (List Key×Addr×Value)},KT H l m->∀x∈m,(tupleKind (zbn P w)).is h x.1 x.2.1:=by
  intro l m q
  induction q with
  |nil=>intro x hx;exact nomatch hx
  | @cons p q ps qs hq t ih=>
    intro x hx
    rcases List.mem_cons.mp hx with e|hx
    ·subst e
     exact zob ok (by rw[←hq.1];exact hq.2.1)
    ·exact ih x hx
 exact all r x hx
theorem zrP{kvs:List (List Key×V)}(ok:HOk P w H h)(e:H a=some (.dT kvs)):kvs.length<=sizeLine/\(a==sysModules)=false/\
 ∃xs,KT H kvs xs/\h.DictOfH (tupleKind (zbn P w)) a xs:=zr7 ok (.inl e)
end
def DPut(H:Hp)(a:Addr)(y v:V)(H':Hp):Prop:=
 (∃kvs k,H a=some (.dK kvs)/\y=kV k/\kvs.length<sizeLine/\H'=upd H a (.dK (zeq kvs k v)))\/
 ∃kvs k b,H a=some (.dT kvs)/\y= .ref b/\H b=some (.tup (k.map kV))/\kvs.length<sizeLine/\H'=upd H a (.dT (zeq kvs k v))
theorem DPut.t{H:Hp}{a b:Addr}{kvs:List (List Key×V)}{k:List Key}{v:V}(e:H a=some (.dT kvs))(eb:H b=some (.tup (k.map kV)))(hl:kvs.length<sizeLine):
 DPut H a (.ref b) v (upd H a (.dT (zeq kvs k v))):= .inr ⟨kvs,k,b,e,rfl,eb,hl,rfl⟩
section
variable{X:Cx}{pins:List (Addr×Obj)}{σ:St}{H:Hp}{s:Shared}{a:Addr}{y v:V}{u r:Value}{o:Option V}{A:Around}{E:Value->Shared->Prop}
theorem Inv.big(I:Inv X pins σ H s):sysModules<s.heap.objs.size:=by
 have h:mainGlobals<s.heap.objs.size:=(I.mod.glob.keeps I.bk).lt
 exact Nat.lt_trans (by decide) h
theorem zk2{h':Heap}{t':Nat}{ob:HO}(I:Inv X pins σ H s)(mu:Mut (H a))(hs:Heap.SameBut a s.heap h')(he:∃q,h'.get? a=some q)(new:ObjOk X.prog X.w (upd H a ob) h' a ob):
 Inv X pins σ (upd H a ob) {s with heap:=h',toks:=t'}:=
 I.write (x:=a) (e:=a) mu (.inl rfl) (λb q hb z=>(hs.2 b hb).trans z) he new
theorem zq1{P:Program}{w:World}{H':Hp}{h':Heap}{kvs:List (Key×V)}{vs:List (Key×Value)}(z:kvs.length<=sizeLine)(hd:(a==sysModules)=false)(rel:KV kvs vs)(dd:h'.DictOf (zbn P w) a vs):
 ObjOk P w H' h' a (.dK kvs):=⟨z,hd,vs,rel,dd⟩
theorem zmF{H':Hp}{Q:Unit->Shared->Prop}(hu:A.units+1<cLine)(I:Inv X pins σ H s)(g:DPut H a y v H')(ry:RelV y u)(rv:RelV v r)(h:∀s',Inv X pins σ H' s'->Q () s'):
 wpAny (model X.prog X.w) A (setItem (.ref a) u r) Q E s:=by
 rcases g with⟨kvs,k,e,ey,l,eH⟩|⟨kvs,k,b,e,ey,eb,l,eH⟩
 ·subst ey eH
  obtain⟨z,hd,vs,rel,dd⟩:=zpZ I.hok e
  have hz:vs.length<=sizeLine:=by rw[←rel.length];exact z
  have hl:(zeq kvs k v).length<=sizeLine:=by have:=zfH kvs k v;omega
  refine wpAny_setItem_pairs (hsz:=hz) (zqk ry) dd λh' dd' hs=>h _ ?_
  have he:∃q,h'.get? a=some q:=let⟨q,_,_,hq,_⟩:=dd';⟨q,hq⟩
  exact zk2 I (by rw[e];exact True.intro) hs he (zq1 hl hd (rel.put k rv) dd')
 ·subst ey eH
  cases(show u=Value.ref b from ry)
  obtain⟨z,hd,xs,rel,dd⟩:=zrP I.hok e
  have hz:xs.length<=sizeLine:=by rw[←Paired.length rel];exact z
  have hl:(zeq kvs k v).length<=sizeLine:=by have:=zfH kvs k v;omega
  refine wpAny_setItem_heap (hsz:=hz) (tupleKind_room_in1 hu) (zob I.hok eb) dd λh' dd' hs=>h _ ?_
  obtain⟨q,es,ep,hq,h2,h3,h4,_,h5⟩:=dd'
  refine zk2 I (by rw[e];exact True.intro) hs ⟨q,hq⟩ ⟨hl,hd,_,(rel.put k eb rv).keeps λc ys ec=>?_,q,es,ep,hq,h2,h3,h4,h5⟩
  rw[zq (zr6 ec e (λz=>nomatch z))]
  exact ec
end
section
variable{X:Cx}{pins:List (Addr×Obj)}{σ:St}{H:Hp}{s:Shared}{a:Addr}{kvs:List (Key×V)}{k:Key}{u:Value}{A:Around}{E:Value->Shared->Prop}
end
noncomputable def zp0(td ty tv:TE):TS:=λD σ H=>tv σ H λv H1=>td σ H1 λx H2=>ty σ H2 λy H3=>∃a H4,x= .ref a/\DPut H3 a y v H4/\D.nx σ H4
section
variable{X:Cx}{o i e value:Expr}{pos pos' tpos:Pos}{td ty tv:TE}
theorem zpC(hu:X.A.units+1<cLine)(ho:PE X o td)(hi:PE X i ty)(hv:PE X value tv)(hs:swapsWith value (some (.Subscript o i pos')) pos.line X.env=pure false):
 PS X (.Assign [.Subscript o i pos'] value pos) (zp0 td ty tv):=by
 intro pins s σ H D I h
 refine wpAny_Assign_Subscript (thn (hv pins s σ H _ I h) λr s1 ⟨v,H1,I1,rv,q1⟩=>thn (ho pins s1 σ H1 _ I1 q1) λu s2 ⟨x,H2,I2,rx,q2⟩=>thn (hi pins s2 σ H2 _ I2 q2) λiv s3 ⟨y,H3,I3,ry,a,H4,ex,g,q3⟩=>?_) hs
 subst ex
 obtain rfl:u=Value.ref a:=rx
 exact zmF hu I3 g ry rv λs4 I4=>⟨σ,H4,I4,q3⟩
end
theorem znP{P:Program}{w:World}{H:Hp}(h:Heap)(hb:sysModules<h.objs.size):ObjOk P w H (h.push {cls:= .type "dict",data:= .dict #[]}) h.objs.size (.dK []):=
 ⟨Nat.zero_le _,beq_eq_false_iff_ne.mpr (Ne.symm (Nat.ne_of_lt hb)),[], .nil,Heap.DictOf.new h⟩
theorem zns{P:Program}{w:World}{H:Hp}(h:Heap)(hb:sysModules<h.objs.size):ObjOk P w H (h.push {cls:= .type "dict",data:= .dict #[]}) h.objs.size (.dT []):=
 ⟨Nat.zero_le _,beq_eq_false_iff_ne.mpr (Ne.symm (Nat.ne_of_lt hb)),[], .nil,_, #[],0,Heap.get?_push_size _ rfl,⟨rfl,rfl,rfl⟩,rfl,rfl,List.nodup_nil⟩
noncomputable def ziz:TE:=λ_ H Q=>∀p,H p=none->Q (.ref p) (upd H p (.dK []))
noncomputable def zmW:TE:=λ_ H Q=>∀p,H p=none->Q (.ref p) (upd H p (.dT []))
section
variable{X:Cx}{pos:Pos}
theorem zm3:PE X (.Dict [] [] pos) ziz:=λpins s σ H Q I h=>
 wpAny_Dict_empty ⟨.ref s.heap.objs.size,_,I.laid (a:=s.heap.objs.size) (o:= .dK []) (t':=s.toks) (λ_ _ q=>Heap.get?_push_of_some _ q) (Nat.le_refl _) (znP s.heap I.big),rfl,h _ (I.hok.fresh (Nat.le_refl _))⟩
theorem zn7:PE X (.Dict [] [] pos) zmW:=λpins s σ H Q I h=>
 wpAny_Dict_empty ⟨.ref s.heap.objs.size,_,I.laid (a:=s.heap.objs.size) (o:= .dT []) (t':=s.toks) (λ_ _ q=>Heap.get?_push_of_some _ q) (Nat.le_refl _) (zns s.heap I.big),rfl,h _ (I.hok.fresh (Nat.le_refl _))⟩
end
def znC:List (TE×TE)->St->Hp->(List (V×V)->Hp->Prop)->Prop
 |[],_,H,Q=>Q [] H
 |(tk,tv)::r,σ,H,Q=>tk σ H λx H1=>tv σ H1 λy H2=>znC r σ H2 λps H3=>Q ((x,y)::ps) H3
abbrev VV:List (V×V)->List (Value×Value)->Prop:=Paired λp q=>RelV p.1 q.1/\RelV p.2 q.2
def PPs(X:Cx)(pos:Pos)(keys:List (Option Expr))(values:List Expr)(trs:List (TE×TE)):Prop:=
 ∀(pins:List (Addr×Obj)) (s:Shared) (σ:St) (H:Hp) (Q:List (V×V)->Hp->Prop),Inv X pins σ H s->znC trs σ H Q->
  wpAny (model X.prog X.w) X.A (evalPairs (pairTrees keys values X.env pos)) (λvs s'=>∃ps H',Inv X pins σ H' s'/\VV ps vs/\Q ps H') X.xe s
structure M1(X:Cx)(o:Expr)(m:Str)(apos:Pos)(e:Expr)(cpos:Pos):Prop where
 base:attributeBase o m X.env (eval o X.env)=eval o X.env
 few:((backTo cpos (starEach [e] X.env)).all (λx=>!x.1)&&(backToKw cpos (keywordEach [] X.env)).all (λx=>x.1.isSome)
  &&decide (([e]:List Expr).length+([]:List Keyword).length+(if([]:List Keyword).isEmpty then 0 else 1)<30))=true
 line:(apos.endLine==cpos.line)=true
 trees:backTo cpos (starEach [e] X.env)=[(false,eval e X.env)]
structure M2(X:Cx)(o:Expr)(m:Str)(apos:Pos)(e f:Expr)(cpos:Pos):Prop where
 base:attributeBase o m X.env (eval o X.env)=eval o X.env
 few:((backTo cpos (starEach [e,f] X.env)).all (λx=>!x.1)&&(backToKw cpos (keywordEach [] X.env)).all (λx=>x.1.isSome)
  &&decide (([e,f]:List Expr).length+([]:List Keyword).length+(if([]:List Keyword).isEmpty then 0 else 1)<30))=true
 line:(apos.endLine==cpos.line)=true
 trees:backTo cpos (starEach [e,f] X.env)=[(false,eval e X.env),(false,eval f X.env)]
section
variable{X:Cx}{pins:List (Addr×Obj)}{σ:St}{H:Hp}{s:Shared}{a:Addr}{y d:V}{u r:Value}{o:Option V}{A:Around}{E:Value->Shared->Prop}
end
section
variable{X:Cx}{o e f:Expr}{apos cpos:Pos}{td ty tx:TE}
end
section
variable{X:Cx}{pins:List (Addr×Obj)}{σ:St}{H:Hp}{s:Shared}{a:Addr}{kvs:List (Key×V)}{A:Around}{E:Value->Shared->Prop}
end
section
variable{X:Cx}{pins:List (Addr×Obj)}{σ:St}{H:Hp}{s:Shared}{a:Addr}{y:V}{u:Value}{A:Around}{E:Value->Shared->Prop}
end
section
variable{X:Cx}
theorem zhg:OpR X (compareOp .LtE) (λx y H Q=>∃i j,x= .str i/\y= .str j/\Q (.bl (!decide (j.cps.toList<i.cps.toList))) H):=by
 intro pins s σ H x y v u Q I rx ry h
 obtain⟨i,j,rfl,rfl,q⟩:=h
 obtain⟨t,rfl⟩:=rx
 obtain⟨t',rfl⟩:=ry
 exact PySem.P.le_str (zR I q rfl)
theorem zqB:OpR X (compareOp .Is) (λx y H Q=>∃i j,x= .bl i/\y= .bl j/\Q (.bl (i==j)) H):=by
 intro pins s σ H x y v u Q I rx ry h
 obtain⟨i,j,rfl,rfl,q⟩:=h
 cases rx
 cases ry
 exact is_bool (zR I q rfl)
theorem zhs:OpR X (compareOp .IsNot) (λx y H Q=>∃i j,x= .bl i/\y= .bl j/\Q (.bl (i !=j)) H):=by
 intro pins s σ H x y v u Q I rx ry h
 obtain⟨i,j,rfl,rfl,q⟩:=h
 cases rx
 cases ry
 exact isnot_bool (zR I q rfl)
theorem zkS:∀{bs:List Bool} {us:List Value} {i:Nat} {v:Value},Vals (bs.map V.bl) us->us[i]?=some v->∃b,bs[i]?=some b/\v= .bool b
 |[],_,_,_, .nil,e=>by simp at e
 |b::bs,_,0,v, .cons r _,e=>by
  simp at e
  subst e
  exact⟨b,rfl,r⟩
 |b::bs,_,i+1,v, .cons _ t,e=>by
  obtain⟨c,h1,h2⟩:=zkS (i:=i) t (by simpa using e)
  exact⟨c,by simpa using h1,h2⟩
noncomputable def atB(bs:List Bool)(j:Nat):Bool:=match bs[j]? with|some b=>b|none=>true
theorem zii(bs:List Bool):(List.range bs.length).all (atB bs)=bs.all id:=by
 refine Eq.trans ?_ (PyProof.Rows.all_rangeD bs (id:Bool->Bool))
 congr 1
 funext j
 unfold atB
 cases bs[j]?<;>rfl
theorem zbM{X:Cx}(hc:X.calm=true):CallR X (.builtin "all") (λxs H Q=>∃(p:Addr) (bs:List Bool),xs=[.ref p]/\SqL X.K H p (bs.map V.bl)/\Q (.bl (bs.all id)) H):=by
 intro pins s σ H xs us Q I r h
 obtain⟨p,bs,rfl,hq,q⟩:=h
 obtain⟨u,rfl,ru⟩:=zdl r
 cases ru
 obtain⟨its,rv,pl,hz⟩:=I.list hq
 have hp:p≠s.heap.objs.size:=Nat.ne_of_lt pl.lt
 refine call_all_walk (wpAny_pyIter_list pl.isList ?_)
 refine⟨s.heap.objs.size,_,_,_,_,_,atB bs,rfl,Walks.list (A:=X.A.in1) (show X.A.in1.handled=none from I.ok.hd hc) _ p hp its.toArray,⟨⟨_,Heap.get?_push_size _ rfl,rfl,rfl⟩,?_⟩,?_,λh' tk hk=>?_⟩
 ·obtain ⟨o,n,e,c,_,d⟩:=pl
  exact⟨o,Heap.get?_push_of_some _ e,c,n,d⟩
 ·intro i v s' Q' E' hP hQ
  obtain⟨b,h1,rfl⟩:=zkS (i:=i) (v:=v) rv (by simpa using hP)
  refine wpAny_truthy_bool ?_
  have e:atB bs i=b:=by unfold atB;rw[h1]
  rw[e] at hQ
  exact hQ
 ·have hl:its.toArray.size=bs.length:=by
   have:=rv.length
   simp at this
   simp[this]
  rw[hl,zii]
  refine⟨.bl (bs.all id),H,I.kept λb o e=>hk b o ?_ (Heap.get?_push_of_some _ e),rfl,q⟩
  intro z
  have:b=s.heap.objs.size:=by simpa using z
  exact absurd (Heap.lt_size e) (by rw[this];exact Nat.lt_irrefl _)
theorem zb9:∀{ys:List Str} {us:List Value},Vals (ys.map V.str) us->StrsAre us ys
 |[],_, .nil=>by first|exact .nil|trivial
 |y::ys,_, .cons r t=>by
  obtain⟨k,rfl⟩:=r
  first
   |exact .cons _ _ (zb9 t)
   |exact .cons (zb9 t)
   |exact⟨⟨k,rfl⟩,zb9 t⟩
noncomputable def zgU(z:Str)(n:Nat):Str:=⟨(List.replicate n z.cps).foldl (·++·) #[]⟩
theorem zkr:OpR X (binaryOp .Mult) (λx y H Q=>∃z n,x= .str z/\y= .int n/\1<n/\n<=1000/\0<z.length/\z.length<=1000/\Q (.str (zgU z n.toNat)) H):=by
 intro pins s σ H x y v u Q I rx ry h
 obtain⟨z,n,rfl,rfl,h1,h2,h3,h4,q⟩:=h
 obtain⟨t,rfl⟩:=rx
 obtain⟨t',rfl⟩:=ry
 have e1:¬n<1:=by omega
 have e2:(n==1||z.length==0)=false:=by
  have a:(n==1)=false:=beq_eq_false_iff_ne.mpr (by omega)
  have b:(z.length==0)=false:=beq_eq_false_iff_ne.mpr (by omega)
  rw[a,b];rfl
 have hz:z.length*n.toNat<=1000*1000:=Nat.mul_le_mul h4 (by omega)
 refine PySem.P.mul_str ?_ (λ_ _=>?_) (λ_ _=>?_) ?_
 ·have a:decide (n< -(2^63:Int))=false:=decide_eq_false (by omega)
  have b:decide (n≥2^63)=false:=decide_eq_false (by omega)
  rw[a,b];rfl
 ·have hd:(1000:Int)<=(2^63 -1)/n:=by
   apply Int.le_ediv_of_mul_le (by omega)
   omega
  omega
 ·have hb:z.length*n.toNat<=sizeLine:=Nat.le_trans hz (by decide)
  unfold Builtin.Str.tooLong
  exact decide_eq_false (by omega)
 ·rw[if_neg e1,e2]
  simp only[Bool.false_eq_true,if_false]
  refine⟨?_,⟨.str _,H,I.tok _,⟨_,rfl⟩,q⟩⟩
  have key:∀(k:Nat) (acc:Array Nat),((List.replicate k z.cps).foldl (·++·) acc).size=acc.size+k*z.cps.size:=by
   intro k
   induction k with
   |zero=>intro acc;simp
   |succ k ih=>intro acc;rw[List.replicate_succ,List.foldl_cons,ih,Array.size_append,Nat.succ_mul];omega
  have hk:=key n.toNat #[]
  have hz':n.toNat *z.cps.size<=1000*1000:=Nat.mul_le_mul (by omega) h4
  have hsl:1000*1000<=sizeLine:=by decide
  show((List.replicate n.toNat z.cps).foldl (·++·) #[]).size<=sizeLine
  rw[hk]
  simp only[Array.size_empty]
  omega
theorem zcR:CallR X (.builtin "isinstance") (λxs H Q=>∃x T t b,xs=[x, .ty T]/\TyOf X.K H x t/\PySem.W.kitOne X.K t (.type T)=some b/\Q (.bl b) H):=by
 intro pins s σ H xs us Q I r h
 obtain⟨x,T,t,b,rfl,ht,hk,q⟩:=h
 obtain⟨u,w',rfl,ru,rw'⟩:=zhG r
 cases rw'
 exact zl4 I ru ht hk λtk=>⟨.bl b,H,I.tok _,rfl,q⟩
noncomputable def Its(x:Str):It:=⟨λi _=>i<x.length,λi H y H'=>H'=H/\∃c,x.cps[i]?=some c/\y= .str ⟨#[c]⟩,λi _=>x.length<=i⟩
theorem zmA{P:Program}{w:World}{K:PySem.W.Frag}{tg:Expr}(x:Str)(t:Tok)(it:Addr):Turn P w K tg (Its x) [it] it (λi h=>h.IsStrIter it "str_ascii_iterator" x t i) where
 mem:=by simp
 obj:=λi h st b hb=>by
  have e:b=it:=by simpa using hb
  subst e
  obtain⟨o,e,c,d⟩:=st
  exact⟨o,e,λv z=>by rw[d] at z;cases z⟩
 keep:=λi h h' st k=>by
  obtain⟨o,e,r⟩:=st
  exact⟨o,k it (by simp) o e,r⟩
 item:=by
  intro X hP hw hK hc i pins s σ H E I hf st hg
  subst hP hw hK
  have hi:i<x.cps.size:=hg
  obtain⟨f0,f1,f2,f3,f4,f5⟩:=hf it (by simp)
  refine wpAny_pyNext_ascii_item st (c:=x.cps[i]) (by simp[hi]) λh' st' sb=>?_
  have I1:Inv X pins σ H {s with heap:=h',toks:=s.toks+1}:=I.turned (t':=s.toks+1) (λb o hb e=>(sb.2 b hb).trans e) f0 f1 f3 f4 f5
  obtain⟨o,e,c,d⟩:=id st'
  exact⟨_,rfl,zhw (s:={s with heap:=h',toks:=s.toks+1}) e c d (by decide) ⟨.str ⟨#[x.cps[i]]⟩,H,I1,⟨_,rfl⟩,⟨rfl,x.cps[i],by simp[hi],rfl⟩,st',λb hb=>(hf b hb).1⟩⟩
 done:=by
   intro X hP hw hK hc i pins s σ H E I hf st hg
   subst hP hw hK
   have hi:x.cps.size<=i:=hg
   obtain⟨f0,f1,f2,f3,f4,f5⟩:=hf it (by simp)
   exact wpAny_pyNext_ascii_end (I.ok.hd hc) st (by simp[hi]) λh' eb=>⟨rfl,I.turned (t':=s.toks) (λb o hb e=>eb b o hb e) f0 f1 f3 f4 f5⟩
 self:=λ_ _ _ _ _ st h=>wpAny_pyIter_striter_ascii st h
theorem zmJ{P:Program}{w:World}{K:PySem.W.Frag}{tg:Expr}(x:Str)(t:Tok)(it:Addr):Turn P w K tg (Its x) [it] it (λi h=>h.IsStrIter it "str_iterator" x t i) where
 mem:=by simp
 obj:=λi h st b hb=>by
  have e:b=it:=by simpa using hb
  subst e
  obtain⟨o,e,c,d⟩:=st
  exact⟨o,e,λv z=>by rw[d] at z;cases z⟩
 keep:=λi h h' st k=>by
  obtain⟨o,e,r⟩:=st
  exact⟨o,k it (by simp) o e,r⟩
 item:=by
  intro X hP hw hK hc i pins s σ H E I hf st hg
  subst hP hw hK
  have hi:i<x.cps.size:=hg
  obtain⟨f0,f1,f2,f3,f4,f5⟩:=hf it (by simp)
  refine wpAny_pyNext_wide_item st (c:=x.cps[i]) (by simp[hi]) λh' st' sb=>?_
  have I1:Inv X pins σ H {s with heap:=h',toks:=s.toks+1}:=I.turned (t':=s.toks+1) (λb o hb e=>(sb.2 b hb).trans e) f0 f1 f3 f4 f5
  obtain⟨o,e,c,d⟩:=id st'
  exact⟨_,rfl,zhw (s:={s with heap:=h',toks:=s.toks+1}) e c d (by decide) ⟨.str ⟨#[x.cps[i]]⟩,H,I1,⟨_,rfl⟩,⟨rfl,x.cps[i],by simp[hi],rfl⟩,st',λb hb=>(hf b hb).1⟩⟩
 done:=by
   intro X hP hw hK hc i pins s σ H E I hf st hg
   subst hP hw hK
   have hi:x.cps.size<=i:=hg
   obtain⟨f0,f1,f2,f3,f4,f5⟩:=hf it (by simp)
   exact wpAny_pyNext_wide_end (I.ok.hd hc) st (by simp[hi]) λh' eb=>⟨rfl,I.turned (t':=s.toks) (λb o hb e=>eb b o hb e) f0 f1 f3 f4 f5⟩
 self:=λ_ _ _ _ _ st h=>wpAny_pyIter_striter_wide st h
noncomputable def zrF(tl:TE):TI:=λσ H R=>tl σ H λy H1=>∃x,y= .str x/\R (Its x) H1
theorem zqH{tg l:Expr}{tl:TE}(hl:PE X l tl):PI X tg l (zrF tl):=by
 intro pins s σ H R I h
 refine thn (hl pins s σ H _ I h) λv s1 ⟨y,H1,I1,r1,q1⟩=>?_
 obtain⟨x,rfl,q⟩:=q1
 obtain⟨t,rfl⟩:=r1
 cases ha:x.cps.all (·<128)
 ·refine wpAny_pyIter_wide ha ⟨s1.heap.objs.size,[s1.heap.objs.size],_,_,H1,rfl,I1.kept (t':=s1.toks) λb o e=>Heap.get?_push_of_some _ e,zmJ x t _,⟨_,Heap.get?_push_size _ rfl,rfl,rfl⟩,λb hb=>?_,q⟩
  have e:b=s1.heap.objs.size:=by simpa using hb
  subst e
  exact I1.fpOk (Nat.le_refl _) (I1.hok.fresh (Nat.le_refl _))
 ·refine wpAny_pyIter_ascii ha ⟨s1.heap.objs.size,[s1.heap.objs.size],_,_,H1,rfl,I1.kept (t':=s1.toks) λb o e=>Heap.get?_push_of_some _ e,zmA x t _,⟨_,Heap.get?_push_size _ rfl,rfl,rfl⟩,λb hb=>?_,q⟩
  have e:b=s1.heap.objs.size:=by simpa using hb
  subst e
  exact I1.fpOk (Nat.le_refl _) (I1.hok.fresh (Nat.le_refl _))
theorem zaO:bootBuiltins "len"=some (.builtin "len"):=by decide +kernel
theorem zdK:bootBuiltins "all"=some (.builtin "all"):=by decide +kernel
theorem zaK:bootBuiltins "isinstance"=some (.builtin "isinstance"):=by decide +kernel
theorem zkH:bootBuiltins "max"=some (.builtin "max"):=by decide +kernel
theorem zin:bootBuiltins "min"=some (.builtin "min"):=by decide +kernel
theorem zcJ:bootBuiltins "sorted"=some (.builtin "sorted"):=by decide +kernel
theorem zev:bootBuiltins "int"=some (.type "int"):=by decide +kernel
theorem zrA:bootBuiltins "str"=some (.type "str"):=by decide +kernel
theorem zax:bootBuiltins "tuple"=some (.type "tuple"):=by decide +kernel
theorem zeV:bootBuiltins "list"=some (.type "list"):=by decide +kernel
theorem zoZ:bootBuiltins "bool"=some (.type "bool"):=by decide +kernel
theorem few{α:Type}{xs:List α}(h:Nat.ble xs.length 1000=true):xs.length<=sizeLine:=Nat.le_of_lt (zm (Nat.le_of_ble_eq_true h))
noncomputable def zfq:Expr->Option V
 | .Constant (.str x) _ _=>some (.str x)
 | .Constant (.int i) _ _=>some (.int i)
 | .Constant (.bool b) _ _=>some (.bl b)
 | .Constant .none _ _=>some .non
 |_=>none
theorem znU{e:Expr}{v:V}(h:zfq e=some v):PE X e (tC v)/\∀es,starEach (e::es) X.env=(false,eval e X.env)::starEach es X.env:=by
 cases e with
 |Constant c j pos=>
  cases c with
  |str x=>cases h;exact⟨znl,λ_=>rfl⟩
  |int x=>cases h;exact⟨zmO,λ_=>rfl⟩
  |bool x=>cases h;exact⟨zqp,λ_=>rfl⟩
  |none=>cases h;exact⟨znJ,λ_=>rfl⟩
  |_=>cases h
 |_=>cases h
noncomputable def zsv(vs:List V):TA:=λ_ H Q=>Q vs H
theorem zeA:∀{es:List Expr} {vs:List V},es.mapM zfq=some vs->PA X es (zsv vs)
 |[],vs,h=>by
  have e:vs=[]:=by simpa using h.symm
  subst e
  exact zog
 |e::es,vs,h=>by
  rw[List.mapM_cons] at h
  cases h1:zfq e with
  |none=>rw[h1] at h;cases h
  |some v=>
   rw[h1] at h
   cases h2:es.mapM zfq with
   |none=>rw[h2] at h;cases h
   |some us=>
    rw[h2] at h
    have e1:v::us=vs:=Option.some.inj h
    subst e1
    obtain⟨p,st⟩:=znU (X:=X) h1
    have q:=zk1 p (zeA (es:=es) h2) (st es)
    exact q
noncomputable def zqa(vs:List V):TE:=λ_ H Q=>vs.length<=sizeLine/\∀p,H p=none->Q (.ref p) (upd H p (.lst vs))
theorem zpe(vs:List V){es:List Expr}{pos:Pos}(h:es.mapM zfq=some vs):PE X (.List es pos) (zqa vs):=znB (zeA h)
end
structure Wk(J:It)(n:Nat)(P:Nat->V->Prop)(ok:Hp->Prop):Prop where
 stop:∀i H,ok H->n<=i->J.stop i H
 go:∀i H,ok H->i<n->J.go i H
 yld:∀i H x H',ok H->i<n->J.yld i H x H'->H'=H/\P i x
theorem zdt{K:PySem.W.Frag}{a:Addr}{xs:List V}:Wk (Itl K a) xs.length (λi x=>xs[i]?=some x) (λH=>SqL K H a xs) where
 stop:=λi H h l=>⟨xs,h,l⟩
 go:=λi H h l=>⟨xs,xs[i],h,by simp[l]⟩
 yld:=λi H x H' h l y=>⟨y.1,y.2 xs h⟩
theorem zaG{K:PySem.W.Frag}{a:Addr}{xs:List V}:Wk (Itt K a) xs.length (λi x=>xs[i]?=some x) (λH=>SqT K H a xs) where
 stop:=λi H h l=>⟨xs,h,l⟩
 go:=λi H h l=>⟨xs,xs[i],h,by simp[l]⟩
 yld:=λi H x H' h l y=>⟨y.1,y.2 xs h⟩
theorem zcv{lo:Int}{n:Nat}:Wk (Itr lo n) n (λi x=>x= .int (lo+i)) (λ_=>True) where
 stop:=λi H h l=>l
 go:=λi H h l=>l
 yld:=λi H x H' h l y=>y
theorem znY{x:Str}:Wk (Its x) x.length (λi y=>∃c,x.cps[i]?=some c/\y= .str ⟨#[c]⟩) (λ_=>True) where
 stop:=λi H h l=>l
 go:=λi H h l=>l
 yld:=λi H x H' h l y=>y
theorem zaY{J:It}{n:Nat}{P:Nat->V->Prop}{ok:Hp->Prop}{g:TG}{tc:TT}{te:TE}{src:List (Option Nat)}{σ:St}{H1:Hp}{Q:VK}(wk:Wk J n P ok)(Pv:Addr->Nat->List V->St->Hp->Prop)
 (h0:∀l,H1 l=none->Pv l 0 [] (zdo src σ) (upd H1 l (.lst []))) (hok:∀l i ys σ H,H1 l=none->Pv l i ys σ H->ok H)
 (hs:∀l i x ys σ H,H1 l=none->i<n->P i x->Pv l i ys σ H->H l=some (.lst ys)->g x σ H λσ2 H3=>tc σ2 H3 λb H4=>
   if b=true then te σ2 H4 λy H5=>H5 l=some (.lst ys)/\ys.length<sizeLine/\Pv l (i+1) (ys ++ [y]) σ2 (upd H5 l (.lst (ys ++ [y])))else H4 l=some (.lst ys)/\Pv l (i+1) ys σ2 H4)
 (hd:∀l ys σ H,H1 l=none->Pv l n ys σ H->H l=some (.lst ys)->Q (.ref l) H):
 zcb g tc te src σ Q J H1:=by
 intro l hl
 refine⟨λi m ys σ H=>m=n -i/\i<=n/\Pv l i ys σ H,⟨n,by simp,Nat.zero_le _,h0 l hl⟩,?_⟩
 rintro i m ys σ' H' ⟨rfl,hi,p⟩ hl'
 by_cases hlt:i<n
 ·refine .inr ⟨wk.go i H' (hok l i ys σ' H' hl p) hlt,Pv l (i+1),λzs σ2 H2 q=>⟨n -(i+1),by omega,rfl,hlt,q⟩,λx H2 y=>?_⟩
  obtain⟨rfl,px⟩:=wk.yld i H' x H2 (hok l i ys σ' H' hl p) hlt y
  exact hs l i x ys σ' _ hl hlt px p hl'
 ·have e:i=n:=by omega
  subst e
  exact .inl ⟨wk.stop _ _ (hok l _ ys σ' H' hl p) (Nat.le_refl _),hd l ys σ' H' hl p hl'⟩
theorem zbq{J:It}{n:Nat}{P:Nat->V->Prop}{ok:Hp->Prop}{g:TG}{tb:TS}{D:Ends}{σ:St}{H:Hp}(wk:Wk J n P ok)(Pv:Nat->St->Hp->Prop)(h0:Pv 0 σ H)(hok:∀i σ H,Pv i σ H->ok H)
 (hs:∀i x σ H,i<n->P i x->Pv i σ H->g x σ H λσ2 H2=>tb {D with nx:=Pv (i+1),ct:=Pv (i+1),bk:=D.nx} σ2 H2) (hd:∀σ H,Pv n σ H->D.nx σ H):
 zmU g tb D σ J H:=by
 refine⟨λi m σ H=>m=n -i/\i<=n/\Pv i σ H,⟨n,by simp,Nat.zero_le _,h0⟩,?_⟩
 rintro i m σ H ⟨rfl,hi,p⟩
 by_cases hlt:i<n
 ·refine .inr ⟨wk.go i H (hok i σ H p) hlt,Pv (i+1),λσ' H' q=>⟨n -(i+1),by omega,rfl,hlt,q⟩,λx H' y=>?_⟩
  obtain⟨rfl,px⟩:=wk.yld i H x H' (hok i σ H p) hlt y
  exact hs i x σ _ hlt px p
 ·have e:i=n:=by omega
  subst e
  exact .inl ⟨wk.stop _ _ (hok _ σ H p) (Nat.le_refl _),hd σ H p⟩
structure QE(X:Cx)(e:Expr)(t:TE):Prop where o:PE X e t
structure QT(X:Cx)(e:Expr)(t:TT):Prop where o:PT X e t
structure QW(X:Cx)(e:Expr)(t:TT):Prop where o:PW X e t
structure QA(X:Cx)(es:List Expr)(t:TA):Prop where o:PA X es t
structure QS(X:Cx)(s:Stmt)(t:TS):Prop where o:PS X s t
structure QB(X:Cx)(s:List Stmt)(t:TS):Prop where o:PSs X s t
structure QI(X:Cx)(tg iter:Expr)(t:TI):Prop where o:PI X tg iter t
structure QG(X:Cx)(tg:Expr)(t:TG):Prop where o:PG X tg t
structure QGs(X:Cx)(tg:List Expr)(t:TGs):Prop where o:PGs X tg t
structure QF(X:Cx)(ifs:List Expr)(t:TT):Prop where o:PIf X ifs t
structure QO(X:Cx)(e:Option Expr)(t:TO):Prop where o:PO X e t
structure QPs(X:Cx)(pos:Pos)(keys:List (Option Expr))(values:List Expr)(trs:List (TE×TE)):Prop where o:PPs X pos keys values trs
section
variable{X:Cx}{a b c e o i:Expr}{es:List Expr}{ta tb tc te to ti:TE}{t u:TA}{pos p apos cpos:Pos}{j:Nat}{x:Str}{sa sb:TS}{q q':TT}{rest:List Expr}
theorem qv(i:Nat){x:Str}{pos:Pos}(hN:X.N[i]?=some x:=by rfl)(hv:Vis X.env.scope x:=by exact Or.inl rfl)(hd:(x==("__debug__":Str))=false:=by decide)
 (hcd:(x==("__classdict__":Str))=false:=by decide):QE X (.Name x pos) (zc7 i):=⟨zng hN hv hd hcd⟩
theorem qc(i:Nat){x:Str}{pos:Pos}(hN:X.N[i]?=some x:=by rfl)(hv:X.env.scope.names.lookup x=some .cell:=by rfl)(hd:(x==("__debug__":Str))=false:=by decide)
 (hcd:(x==("__classdict__":Str))=false:=by decide):QE X (.Name x pos) (zc7 i):=⟨zng hN (.inr (.inl hv)) hd hcd⟩
theorem zh{k:Int}:QE X (.Constant (.int k) j pos) (tC (.int k)):=⟨zmO⟩
theorem zY{k:Str}:QE X (.Constant (.str k) j pos) (tC (.str k)):=⟨znl⟩
theorem zbv{k:Bool}:QE X (.Constant (.bool k) j pos) (tC (.bl k)):=⟨zqp⟩
theorem zaE:QE X (.Constant .none j pos) (tC .non):=⟨znJ⟩
theorem zga{v:V}{u:Value}(hm:X.mg x=some u)(r:RelV v u)(hg:Gl X x:=by rfl)(hd:(x==("__debug__":Str))=false:=by decide):QE X (.Name x pos) (tC v):=⟨zpi hg hm r hd⟩
theorem zkC{T:String}(hm:X.mg x=none)(hv:bootBuiltins x=some (.type T))(hg:Gl X x:=by rfl)(hn:x≠"__name__":=by decide)(hd:(x==("__debug__":Str))=false:=by decide):QE X (.Name x pos) (tC (.ty T)):=⟨zpW hg hm hv rfl hn hd⟩
theorem zN{op:Operator}{r:R2}(ho:OpR X (binaryOp op) r)(ha:QE X a ta)(hb:QE X b tb):QE X (.BinOp a op b pos) (tOp r ta tb):=⟨zsj ho ha.o hb.o⟩
theorem zgf{op:UnaryOp}{r:V->Hp->VK->Prop}(ho:UnR X (unaryOp op) r)(ha:QE X a ta):QE X (.UnaryOp op a pos) (tUn r ta):=⟨zrC ho ha.o⟩
theorem zaR{op:CmpOp}{r:R2}(ho:OpR X (compareOp op) r)(ha:QE X a ta)(hb:QE X b tb)(hm:behindInMarks op b=false:=by rfl):QE X (.Compare a [op] [b] pos) (tOp r ta tb):=⟨zpc ho ha.o hb.o hm⟩
theorem zJ{op:CmpOp}{r:R2}(ho:OpR X (compareOp op) r)(ha:QE X a ta)(hb:QE X b tb)(hm:behindInMarks op b=false:=by rfl):QT X (.Compare a [op] [b] pos) (zhu (tOp r ta tb)):=⟨zoH ho ha.o hb.o hm⟩
theorem zld{op op':CmpOp}{r r':R2}(ho:OpR X (compareOp op) r)(ho':OpR X (compareOp op') r')(ha:QE X a ta)(hb:QE X b tb)(hc:QE X c tc)
 (hm:lastMarks [op,op'] [b,c]=false:=by with_unfolding_all rfl):QE X (.Compare a [op,op'] [b,c] pos) (ziv r r' ta tb tc):=⟨zmM ho ho' ha.o hb.o hc.o hm⟩
theorem zoz{op op':CmpOp}{r r':R2}(ho:OpR X (compareOp op) r)(ho':OpR X (compareOp op') r')(ha:QE X a ta)(hb:QE X b tb)(hc:QE X c tc)
 (hm:lastMarks [op,op'] [b,c]=false:=by with_unfolding_all rfl):QT X (.Compare a [op,op'] [b,c] pos) (zhu (ziv r r' ta tb tc)):=⟨zof ho ho' ha.o hb.o hc.o hm⟩
theorem zeB{op:BoolOp}(h:QE X a ta):QE X (.BoolOp op [a] pos) ta:=⟨zqZ h.o⟩
theorem zfP(ha:QE X a ta)(hb:QE X (.BoolOp .And (b::rest) pos) tb):QE X (.BoolOp .And (a::b::rest) pos) (zp1 ta tb):=⟨zqW ha.o hb.o⟩
theorem zsp(ha:QE X a ta)(hb:QE X (.BoolOp .Or (b::rest) pos) tb):QE X (.BoolOp .Or (a::b::rest) pos) (zsg ta tb):=⟨zrN ha.o hb.o⟩
theorem znD(ha:QE X a ta):QE X (.UnaryOp .Not a pos) (zqr ta):=⟨zq6 ha.o⟩
theorem zso(hc:QT X c q)(ha:QE X a ta)(hb:QE X b tb):QE X (.IfExp c a b pos) (tIf q ta tb):=⟨zot hc.o ha.o hb.o⟩
theorem zkA(ha:QT X a q):QW X (.BoolOp .And [a] pos) q:=⟨zo6 ha.o⟩
theorem zem(ha:QT X a q):QW X (.BoolOp .Or [a] pos) q:=⟨zq4 ha.o⟩
theorem zlE(ha:QT X a q)(hb:QW X (.BoolOp .And (b::rest) pos) q'):QW X (.BoolOp .And (a::b::rest) pos) (zrc q q'):=⟨zqP ha.o hb.o⟩
theorem zfr(ha:QT X a q)(hb:QW X (.BoolOp .Or (b::rest) pos) q'):QW X (.BoolOp .Or (a::b::rest) pos) (tOr q q'):=⟨zrY ha.o hb.o⟩
theorem t_w(h:QW X a q):QT X a q:=⟨h.o.pt⟩
theorem zbt(ha:QT X a q):QT X (.UnaryOp .Not a pos) (zqS q):=⟨zrf ha.o⟩
theorem za7(h:QE X e te)(he:∀whole,isTrue e X.env whole=(do let v ←whole;standAt e.pos;holding [v] (truthy v)):=by intro _;rfl):QT X e (tB te):=⟨zrr h.o he⟩
theorem zc:QA X [] zgg:=⟨zog⟩
theorem zb(ha:QE X e te)(hr:QA X es t)(hs:starEach (e::es) X.env=(false,eval e X.env)::starEach es X.env:=by rfl):QA X (e::es) (zdG te t):=⟨zk1 ha.o hr.o hs⟩
theorem zB{k:Nat}(h:QA X es t):QE X (.Tuple es k pos) (zn6 t):=⟨zro h.o⟩
theorem za1(h:QA X es t):QE X (.List es pos) (zj6 t):=⟨znB h.o⟩
theorem zfg(vs:List V)(h:es.mapM zfq=some vs):QE X (.List es pos) (zqa vs):=⟨zpe vs h⟩
theorem zk{CX:CXT}{k:Nat}{f:Addr}{fd:FuncData}{ps:List Str}{sp:Sp}{dvs:List V}{ds:List Value}{E:XK}(F:FnOk X.prog X.w X.K X.mg X.base CX k f fd ps sp)(hr:Room k X.A)(hm:X.mg x=some (.ref f))(hk:PySem.W.keepIn X.K (.ref f)=true)(hb:Binds X.K fd ps ds)(hd:Vals dvs ds)(hx:zhN CX X E)
 (ha:QA X (e::es) t) (hg:Gl X x:=by rfl) (hdb:(x==("__debug__":Str))=false:=by decide) (he:starEach (e::es) X.env=(false,eval e X.env)::starEach es X.env:=by rfl) (hpl:(backTo pos (starEach es X.env)).any (·.1)=false:=by rfl):
 QE X (.Call (.Name x p) (e::es) [] pos) (znA sp dvs E t):=⟨zpo F hr hg hm hk hb hd hx ha.o hdb he hpl⟩
theorem zx{id:String}{r:List V->Hp->VK->Prop}(hc:CallR X (.builtin id) r)(hm:X.mg x=none)(hv:bootBuiltins x=some (.builtin id))(ha:QA X (e::es) t)(hg:Gl X x:=by rfl)(hn:x≠"__name__":=by decide)(hdb:(x==("__debug__":Str))=false:=by decide)
 (he:starEach (e::es) X.env=(false,eval e X.env)::starEach es X.env:=by rfl) (hpl:(backTo pos (starEach es X.env)).any (·.1)=false:=by rfl):QE X (.Call (.Name x p) (e::es) [] pos) (tCB r t):=⟨znS hc hg hm hv ha.o hn hdb he hpl⟩
theorem zX{T:String}{r:List V->Hp->VK->Prop}(hc:CallR X (.type T) r)(hm:X.mg x=none)(hv:bootBuiltins x=some (.type T))(ha:QA X (e::es) t)(hg:Gl X x:=by rfl)(hn:x≠"__name__":=by decide)(hdb:(x==("__debug__":Str))=false:=by decide)
 (he:starEach (e::es) X.env=(false,eval e X.env)::starEach es X.env:=by rfl) (hpl:(backTo pos (starEach es X.env)).any (·.1)=false:=by rfl):QE X (.Call (.Name x p) (e::es) [] pos) (tCB r t):=⟨zl5 hc hg hm hv ha.o hn hdb he hpl⟩
theorem zF{r:R2}(hr:IxR X r)(ha:QE X a ta)(hb:QE X b tb)(hs:zlC b:=by exact λ_ _=>rfl):QE X (.Subscript a b pos) (tOp r ta tb):=⟨zr3 hr ha.o hb.o hs⟩
theorem zc5:QO X none zee:=⟨zpO⟩
theorem zcy(h:QE X e te):QO X (some e) (zhm te):=⟨zoQ h.o⟩
theorem zgM{r:V->Option Int->Option Int->Hp->VK->Prop}{lo hi:Option Expr}{tl th:TO}(hr:SlR X r)(he:QE X e te)(hl:QO X lo tl)(hu:QO X hi th):QE X (.Subscript e (.Slice lo hi none p) pos) (tSl r te tl th):=⟨zna hr he.o hl.o hu.o⟩
theorem zjw{T id:String}{name:Str}{r:V->List V->Hp->VK->Prop}(pa:PlainAttrs T)(slot:Slot T name id)(hty:typeOf (.builtin id)=pure (.type "method_descriptor"))(hm:MtR X id r)(ho:QE X o to)(ha:QA X (e::es) t)
 (hbase:attributeBase o name X.env (eval o X.env)=eval o X.env:=by rfl)
 (hfew:((backTo cpos (starEach (e::es) X.env)).all (λx=>!x.1)&&(backToKw cpos (keywordEach [] X.env)).all (λx=>x.1.isSome)
   &&decide ((e::es).length+([]:List Keyword).length+(if([]:List Keyword).isEmpty then 0 else 1)<30))=true:=by rfl)
 (hline:(apos.endLine==cpos.line)=true:=by rfl) (hs:starEach (e::es) X.env=(false,eval e X.env)::starEach es X.env:=by rfl) (hplain:(backTo cpos (starEach es X.env)).any (·.1)=false:=by rfl):
 QE X (.Call (.Attribute o name apos) (e::es) [] cpos) (tBM X.K T r to t):=⟨zsk pa slot hty hm ho.o ha.o hbase hfew hline hs hplain⟩
theorem zdN{tg:Expr}(h:QE X e te):QI X tg e (zlz X.K te):=⟨zpw h.o⟩
theorem zaP{tg:Expr}(h:QE X e te):QI X tg e (zpv X.K te):=⟨zqN h.o⟩
theorem zp4{tg:Expr}(h:QE X e te):QI X tg e (zrF te):=⟨zqH h.o⟩
theorem zb7{tg:Expr}(hm:X.mg "range"=none)(ha:QA X [a] t)(hg:Gl X "range":=by rfl)(hs:starEach [a] X.env=[(false,eval a X.env)]:=by rfl):QI X tg (.Call (.Name "range" p) [a] [] pos) (zqe t):=⟨zlV hg hm ha.o hs⟩
theorem zrq{tg:Expr}(hm:X.mg "range"=none)(ha:QA X [a,b] t)(hg:Gl X "range":=by rfl)(hs:starEach [a,b] X.env=[(false,eval a X.env),(false,eval b X.env)]:=by rfl)(hs2:starEach [b] X.env=[(false,eval b X.env)]:=by rfl):QI X tg (.Call (.Name "range" p) [a,b] [] pos) (zqn t):=⟨zmD hg hm ha.o hs hs2⟩
theorem zn(k:Nat)(hN:X.N.Nodup)(hi:X.N[k]?=some x:=by rfl)(hx:X.env.scope.names.lookup x=some .local:=by rfl):QG X (.Name x pos) (zaM k):=⟨zlJ hN hi (.inl hx) (.inr hx)⟩
theorem zaT:QGs X [] zrB:=⟨zpr⟩
theorem zz{tg:TG}{tgs:TGs}(h1:QG X e tg)(h2:QGs X es tgs)(hs:(assignEach (e::es) X.env).map (·.2)=assign e X.env::(assignEach es X.env).map (·.2):=by rfl):QGs X (e::es) (zpY tg tgs):=⟨znk h1.o h2.o hs⟩
theorem zc1(n:Nat){k:Nat}{tgs:TGs}(hc:X.calm=true)(h:QGs X es tgs)(hn:(assignEach es X.env).length=n:=by rfl)(hst:(assignEach es X.env).findIdx? (·.1)=none:=by rfl):QG X (.Tuple es k pos) (zqD X.K n tgs):=⟨zq9 hc h.o hn hst⟩
theorem za6:QF X [] zik:=⟨zoV⟩
theorem zc9(h:QT X c q):QF X [c] q:=⟨zo5 h.o⟩
theorem zT:QB X [] zp3:=⟨zpf⟩
theorem zj{st:Stmt}{sts:List Stmt}(h1:QS X st sa)(h2:QB X sts sb):QB X (st::sts) (zh2 sa sb):=⟨ziP h1.o h2.o⟩
theorem zl{st:Stmt}(h1:QS X st sa):QB X [st] sa:=⟨zo7 h1.o⟩
theorem zaq{A B:List Stmt}(hc:QT X c q)(ha:QB X A sa)(hb:QB X B sb):QS X (.If c A B pos) (zrn q sa sb):=⟨zrD hc.o ha.o hb.o⟩
theorem zA(h:QE X e te):QS X (.Return (some e) pos) (zrd te):=⟨zrh h.o⟩
theorem zfm(he:QE X e te)(hs:swapsWith e none pos.line X.env=pure false:=by rfl):QS X (.Expr e pos) (zqf te):=⟨zpQ he.o hs⟩
theorem zop:QS X (.Continue pos) zqb:=⟨zjv⟩
theorem zL(k:Nat){pos':Pos}(hN:X.N.Nodup)(he:QE X e te)(hi:X.N[k]?=some x:=by rfl)(hx:X.env.scope.names.lookup x=some .local:=by rfl)(hs:swapsWith e (some (.Name x pos')) pos.line X.env=pure false:=by rfl):
 QS X (.Assign [.Name x pos'] e pos) (zg6 te (zaM k)):=⟨znr hN hi (.inl hx) he.o hs (.inr hx)⟩
theorem zdw(k:Nat){pos':Pos}(hN:X.N.Nodup)(he:QE X e te)(hi:X.N[k]?=some x:=by rfl)(hx:X.env.scope.names.lookup x=some .cell:=by rfl)(hf:X.fn x=true:=by rfl)(hs:swapsWith e (some (.Name x pos')) pos.line X.env=pure false:=by rfl):
 QS X (.Assign [.Name x pos'] e pos) (zg6 te (zaM k)):=⟨znr hN hi (.inr hx) he.o hs (.inl hf)⟩
theorem zcm{tg iter:Expr}{body:List Stmt}{wi:TI}{g:TG}(hp:PassesOwn (model X.prog X.w) X.A X.env X.xe)(hc:X.calm=true)(hi:QI X tg iter wi)(hg:QG X tg g)(hb:QB X body sa)
 (hs:∀x,foldedSetIterable iter X.env x=pure x:=by intro _;rfl):QS X (.For tg iter body [] pos) (zp6 wi g sa):=⟨zpR hp hc hi.o hg.o hb.o hs⟩
end
section
variable{X:Cx}{elt tg iter:Expr}{ifs:List Expr}{scope osc:Scope}{pos:Pos}{N':List Str}{src:List (Option Nat)}{wi:TI}{g:TG}{tc:TT}{te:TE}
theorem zaj(ok:CompOk X.N osc N' src scope)(hsc:X.env.scope=osc)(hc:X.calm=true)(hi:QI X tg iter wi)
 (hg:∀cl C s₀ H₀ fp,QG (zam X N' scope cl C s₀ H₀ fp) tg g) (ht:∀cl C s₀ H₀ fp,QF (zam X N' scope cl C s₀ H₀ fp) ifs tc) (he:∀cl C s₀ H₀ fp,QE (zam X N' scope cl C s₀ H₀ fp) elt te)
 (hs:∀x,foldedSetIterable iter X.env x=pure x:=by intro _;rfl):QE X (.ListComp elt [⟨tg,iter,ifs,0⟩] scope pos) (zhr wi g tc te src):=
 ⟨zoK ok hsc hc hi.o (λcl C s₀ H₀ fp=>(hg cl C s₀ H₀ fp).o) (λcl C s₀ H₀ fp=>(ht cl C s₀ H₀ fp).o) (λcl C s₀ H₀ fp=>(he cl C s₀ H₀ fp).o) hs⟩
end
theorem Fun.okQ{P:Program}{w:World}{K:PySem.W.Frag}{mg:Str->Option Value}{base:Heap}{x qual:Str}{st:Stmt}{f:Addr}{fd:FuncData}{N ps:List Str}{k:Nat}{sp:Sp}(F:Fun K x qual st f fd)(S:FnScope N ps (zg st))(len:∀vs H Q E,sp vs H Q E->vs.length=ps.length)
 (hbody:∀(cdv:Value) (A:Around) (outer:List Env) (s:Shared) (H:Hp) (vs:List V) (Q:VK) (E:XK),Room k (A.deeper (envOfC qual (zg st) s.heap.objs.size f cdv))->sp vs H Q E->
   ∃t,QB (zjp CX0 P w K mg base N qual (zg st) f cdv A outer s H E).nox (zu st) t/\t {nx:=λ_ H'=>Q .non H',rt:=Q} (zej N vs) H):FnOk P w K mg base CX0 (k+1) f fd ps sp:=
 F.ok S len λcdv A outer s H vs Q E hr h=>let ⟨t,a,b⟩:=hbody cdv A outer s H vs Q E hr h;⟨t,a.o,b⟩
theorem zqM{h:Heap}{a:Addr}{m:Str->Option Value}(hn:h.Ns a m):∃o,h.get? a=some o/\∀v,o.data≠ .cell v:=
 let⟨o,es,ep,e,d,_⟩:=hn;⟨o,e,λv z=>by rw[d] at z;cases z⟩
theorem zoT{h h':Heap}{a:Addr}{m:Str->Option Value}{o:Obj}(hn:h.Ns a m)(e:h.get? a=some o)(e':h'.get? a=some o):h'.Ns a m:=by
 obtain⟨o',es,ep,e1,r⟩:=hn
 rw[e] at e1
 cases e1
 exact⟨o,es,ep,e',r⟩
section
variable{X:Cx}{elt tg iter:Expr}{ifs:List Expr}{scope osc:Scope}{pos:Pos}{N':List Str}{src:List (Option Nat)}{wi:TI}{g:TG}{tc:TT}{te:TE}{y:Str}{py spos:Pos}{k:Nat}
theorem zkg(ok:CompOk X.N osc N' src scope)(hsc:X.env.scope=osc)(hc:X.calm=true)(hi:PI X tg iter wi)
 (hg:∀cl C s₀ H₀ fp,PG (zam X N' scope cl C s₀ H₀ fp) tg g) (ht:∀cl C s₀ H₀ fp,PIf (zam X N' scope cl C s₀ H₀ fp) ifs tc) (he:∀cl C s₀ H₀ fp,PE (zam X N' scope cl C s₀ H₀ fp) elt te)
 (hN:X.N.Nodup) (hk:X.N[k]?=some y) (hx:X.env.scope.names.lookup y=some .local) (hsw:swapsWith (.ListComp elt [⟨tg,iter,ifs,0⟩] scope pos) (some (.Name y py)) spos.line X.env=pure true)
 (hs:∀x,foldedSetIterable iter X.env x=pure x:=by intro _;rfl):PS X (.Assign [.Name y py] (.ListComp elt [⟨tg,iter,ifs,0⟩] scope pos) spos) (zg6 (zhr wi g tc te src) (zaM k)):=by
 intro pins s σ H D I h
 obtain⟨cl,hcl,c1,c2⟩:=zgb (scope:=scope) (env:=X.env) λy hy hyf=>I.ok.has y.1 (by
  have z:=ok.frees y hy hyf
  rw[←hsc] at z
  exact z)
 rw[exec_Assign_Name_used _ _ _ _ hsw]
 refine wpAny_bind (wpAny_standAt (wpAny_bind ?_))
 show wpAny _ X.A (do let _ ←comprehension (.ListComp elt [⟨tg,iter,ifs,0⟩] scope pos) scope X.env _ (newList []) false (eval iter X.env) (some (assign (.Name y py) X.env))) _ _ s
 refine wpAny_bind (wpAny_mono (wpAny_comprehension_free (use:=some (assign (.Name y py) X.env)) (Q:=λ_ s'=>∃σ' H',Inv X pins σ' H' s'/\D.nx σ' H') rfl hs hcl ok.kind ok.loc
  (thn (hi pins s σ H _ I h) λv s1 h1=>thn h1 λitv s2 h2=>?_)) (λ_ s' hq=>wpAny_pure (wpAny_pure hq)) λ_ _ e=>e)
 obtain⟨it,fp,tn,J,H2,e,I2,T,st2,f2,q2⟩:=h2
 subst e
 have hlt2:∀b∈fp,b<s2.heap.objs.size:=λb hb=>by
  obtain⟨o,e,_⟩:=T.obj _ _ st2 b hb
  exact Heap.lt_size e
 refine wpAny_newObj_type ?_
 have hl:H2 s2.heap.objs.size=none:=I2.hok.fresh (Nat.le_refl _)
 have I3:Inv X pins σ (upd H2 s2.heap.objs.size (.lst [])) {s2 with heap:=s2.heap.push {cls:= .type "list",dict:=none,data:= .seq ([]:List Value).toArray}}:=
  I2.laid (t':=s2.toks) (λb u e=>Heap.get?_push_of_some _ e) (Nat.le_refl _) ⟨Nat.zero_le _,[],0, .nil,Heap.get?_push_size _ rfl⟩
 obtain⟨W,⟨m0,w0⟩,turn⟩:=q2 _ hl
 generalize hl2:s2.heap.objs.size=l at *
 generalize hs3:({s2 with heap:=s2.heap.push {cls:= .type "list",dict:=none,data:= .seq ([]:List Value).toArray}}:Shared)=s3 at *
 have f3:∀b∈fp,zeJ X pins (upd H2 l (.lst [])) b:=λb hb=>⟨by rw[zq (Nat.ne_of_lt (hlt2 b hb))];exact(f2 b hb).1,(f2 b hb).2⟩
 have k3:∀b o,s2.heap.get? b=some o->s3.heap.get? b=some o:=λb o e=>by rw[←hs3];exact Heap.get?_push_of_some _ e
 have hlt3:∀b∈fp,b<s3.heap.objs.size:=λb hb=>by
  obtain⟨o,e,_⟩:=T.obj _ _ st2 b hb
  exact Heap.lt_size (k3 b o e)
 refine wpAny_newFunctionEnv ok.nocell (by intro y hy;simp at hy) (λh₁ hns₁ hsb₁=>?_) ok.kind
 have k4:∀b o,s3.heap.get? b=some o->h₁.get? b=some o:=λb o e=>(hsb₁.2 b (Nat.ne_of_lt (Heap.lt_size e))).trans (Heap.get?_push_of_some _ e)
 have J0:=zgv (tk:=s3.toks+([]:List (Str×Value)).length) I3 f3 hlt3 ok hsc c1 c2 hns₁ k4
 have st4:tn 0 h₁:=T.keep _ _ _ st2 λb hb o e=>k4 b o (k3 b o e)
 generalize hC:s3.heap.objs.size=C at *
 have stat:∀{H':Hp},(∀b∈fp,H' b=none)->∀b∈fp,zeJ (zam X N' scope cl C s3 (upd H2 l (.lst [])) fp) [] H' b:=λ{H'} hn b hb=>
  ⟨hn b hb,(J0.ok.exf b hb).1,J0.ok.exfs b hb, .inl hb,(J0.ok.exf b hb).2,λp hp=>absurd (show p∈([]:List (Addr×Obj))from hp) (by simp)⟩
 have loop:codeAny (model X.prog X.w) X.A (.compLoop (.ListComp elt [⟨tg,iter,ifs,0⟩] scope pos) 0 (.ref it) (.ref l) (compEnvC scope cl C X.env))
  (compPost (model X.prog X.w) X.A X.xe (some (assign (.Name y py) X.env)) (λ_ s'=>∃σ' H',Inv X pins σ' H' s'/\D.nx σ' H') (.ref l) C) {s3 with heap:=h₁,toks:=s3.toks+([]:List (Str×Value)).length}:=by
  refine zeF (λn s'=>∃i ys σ' H',Inv (zam X N' scope cl C s3 (upd H2 l (.lst [])) fp) [] σ' H' s'/\tn i s'.heap/\(∀b∈fp,H' b=none)/\H' l=some (.lst ys)/\W i n ys σ' H') ?_ m0
   ⟨0,[],_,_,J0,st4,λb hb=>(f3 b hb).1,zd,w0⟩
  rintro n s5 ⟨i,ys,σ5,H5,I5,st5,fr5,hl5,w5⟩
  rcases turn i n ys σ5 H5 w5 hl5 with⟨stop,qn⟩|⟨go,N,hN,step⟩
  ·refine thn (T.done (zam X N' scope cl C s3 (upd H2 l (.lst [])) fp) rfl rfl rfl hc i [] s5 σ5 H5 (λ_ _=>False) I5 (stat fr5) st5 stop) λr s6 ⟨hr,I6⟩=>?_
   subst hr
   obtain⟨m,hn,_⟩:=I6.loc
   have hCs:s3.heap.objs.size<=C:=by rw[←hC];exact Nat.le_refl _
   have I7:Inv X pins σ H5 s6:=zgG (h':=s6.heap) I3 f3 hCs I6 ⟨rfl,λ_ _=>rfl⟩
   have fC:zeJ X pins H5 C:=I3.fpOk hCs I6.free
   obtain⟨oC,eC,dC⟩:∃o,s6.heap.get? C=some o/\∀v,o.data≠ .cell v:=by
    obtain⟨o,e,d⟩:=zqM hn
    exact⟨o,e,d⟩
   have I8:=I7.pinned (fp:=[C]) (λb hb=>by rw[List.mem_singleton.mp hb];exact fC) (λb hb=>by rw[List.mem_singleton.mp hb];exact⟨oC,eC,dC⟩)
   refine wpAny_assign_Name (zdL (v:= .ref l) I8 hN hk (.inl hx) rfl (λs9 I9=>?_) (.inr hx))
   have p9:=(I9.pin (C,oC) (List.mem_append_right _ (List.mem_append_right _ (zbC (List.mem_singleton.mpr rfl) eC)))).1
   refine⟨m,zoT hn eC p9,λh' hsb=>⟨_,H5,?_,qn⟩⟩
   obtain⟨f0,f1,f2,f3',f4,f5⟩:=fC
   exact I9.unpinned.turned (t':=s9.toks) (λb o hb e=>(hsb.2 b hb).trans e) f0 f1 f3' f4 f5
  ·refine thn (T.item (zam X N' scope cl C s3 (upd H2 l (.lst [])) fp) rfl rfl rfl hc i [] s5 σ5 H5 (λ_ _=>False) I5 (stat fr5) st5 go) λr s6 ⟨u,hr,h6⟩=>?_
   subst hr
   refine thn h6 λ_ s7 ⟨x,H7,I7,r7,y7,st7,fr7⟩=>?_
   have I7':=I7.pinned (stat fr7) (T.obj _ _ st7)
   refine thn (hg cl C s3 _ fp _ s7 σ5 H7 x u _ I7' r7 (step x H7 y7)) λ_ s8 ⟨σ8,H8,I8,q8⟩=>?_
   refine thn (ht cl C s3 _ fp _ s8 σ8 H8 _ I8 q8) λb s9 ⟨H9,I9,q9⟩=>?_
   have back:∀{s':Shared} {H':Hp},Inv (zam X N' scope cl C s3 (upd H2 l (.lst [])) fp) ([]++zfw fp s7.heap) σ8 H' s'->tn (i+1) s'.heap/\∀b∈fp,H' b=none:=λ{s' H'} I'=>by
    refine⟨T.keep _ _ _ st7 λb hb o e=>(I'.pin (b,o) (List.mem_append_right _ (List.mem_append_right _ (zbC hb e)))).1,λb hb=>?_⟩
    obtain⟨o,e,d⟩:=T.obj _ _ st7 b hb
    exact(I'.pin (b,o) (List.mem_append_right _ (List.mem_append_right _ (zbC hb e)))).2.1
   cases b with
   |false=>
    obtain⟨hl9,n9⟩:=q9
    obtain⟨m',hm,w9⟩:=hN _ _ _ n9
    obtain⟨t9,fr9⟩:=back I9
    exact⟨m',hm,i+1,ys,σ8,H9,I9.unpinned,t9,fr9,hl9,w9⟩
   |true=>
    refine thn (he cl C s3 _ fp _ s9 σ8 H9 _ I9 q9) λxv s10 ⟨y,H10,I10,r10,hl10,hz,n10⟩=>?_
    obtain⟨m',hm,w10⟩:=hN _ _ _ n10
    refine thn (zbH (X:=zam X N' scope cl C s3 (upd H2 l (.lst [])) fp) _ s10 σ8 H10 (.ref l) [y] (.ref l) [xv] (λv H'=>H'=upd H10 l (.lst (ys ++ [y]))) I10 rfl (.cons r10 .nil) ⟨l,ys,y,rfl,rfl,hl10,hz,rfl⟩) λ_ s11 ⟨_,H11,I11,_,e11⟩=>?_
    subst e11
    obtain⟨t11,fr11⟩:=back I11
    exact⟨m',hm,i+1,ys ++ [y],σ8,_,I11.unpinned,t11,fr11,zd,w10⟩
 exact codeAny_compStart_list loop (T.self _ 0 _ _ _ st4 loop)
theorem zbm(k:Nat)(ok:CompOk X.N osc N' src scope)(hsc:X.env.scope=osc)(hc:X.calm=true)(hN:X.N.Nodup)(hi:QI X tg iter wi)
 (hg:∀cl C s₀ H₀ fp,QG (zam X N' scope cl C s₀ H₀ fp) tg g) (ht:∀cl C s₀ H₀ fp,QF (zam X N' scope cl C s₀ H₀ fp) ifs tc) (he:∀cl C s₀ H₀ fp,QE (zam X N' scope cl C s₀ H₀ fp) elt te)
 (hk:X.N[k]?=some y:=by rfl) (hx:X.env.scope.names.lookup y=some .local:=by rfl) (hsw:swapsWith (.ListComp elt [⟨tg,iter,ifs,0⟩] scope pos) (some (.Name y py)) spos.line X.env=pure true:=by rfl)
 (hs:∀x,foldedSetIterable iter X.env x=pure x:=by intro _;rfl):QS X (.Assign [.Name y py] (.ListComp elt [⟨tg,iter,ifs,0⟩] scope pos) spos) (zg6 (zhr wi g tc te src) (zaM k)):=
 ⟨zkg ok hsc hc hi.o (λcl C s₀ H₀ fp=>(hg cl C s₀ H₀ fp).o) (λcl C s₀ H₀ fp=>(ht cl C s₀ H₀ fp).o) (λcl C s₀ H₀ fp=>(he cl C s₀ H₀ fp).o) hN hk hx hsw hs⟩
end
section
variable{X:Cx}{e o i tg:Expr}{te to ti:TE}{g:TG}{pos:Pos}{x:Str}{t:zo3}
theorem zdc(he:QE X e te)(hg:QG X tg g)(hs:swapsWithSole [tg] e pos.line X.env=pure false:=by rfl)(hw:swappedStores [tg] e X.env=pure none:=by rfl)
 (h1:(assignEach [tg] X.env).map (·.2)=[assign tg X.env]:=by rfl):QS X (.Assign [tg] e pos) (zg6 te g):=⟨zry he.o hg.o hs hw h1⟩
theorem zkR(ho:QE X o to)(hi:QE X i ti)(hs:zq3 X t)(ha:∀v,assign (.Subscript o i pos) X.env v=(do
 let ov ←holding [v] (eval o X.env)
 let iv ←holding [v,ov] (eval i X.env)
 standAt pos
 holding [v,ov,iv] (setItem ov iv v)
 release [v,ov,iv] []):=by intro _;rfl):QG X (.Subscript o i pos) (zrG to ti t):=⟨zq2 ho.o hi.o hs ha⟩
theorem zbO(k:Nat)(hN:X.N.Nodup)(hi:X.N[k]?=some x:=by rfl)(hx:X.env.scope.names.lookup x=some .cell:=by rfl)(hf:X.fn x=true:=by rfl):QG X (.Name x pos) (zaM k):=⟨zlJ hN hi (.inr hx) (.inl hf)⟩
end
noncomputable def zsq(t u:TS):TS:=λD σ H=>∃R:St->Hp->Prop,t {D with nx:=R} σ H/\∀σ' H',R σ' H'->u D σ' H'
theorem zcB{X:Cx}{st:Stmt}{sts:List Stmt}{sa sb:TS}(h1:QS X st sa)(h2:QB X sts sb):QB X (st::sts) (zsq sa sb):=by
 refine⟨λpins s σ H D I h=>?_⟩
 obtain⟨R,ha,hb⟩:=h
 have h3:PSs X sts (λD' σ' H'=>D'=D/\R σ' H'):=λpins s σ' H' D' I h=>by
  obtain⟨rfl,hR⟩:=h
  exact h2.o pins s σ' H' D' I (hb σ' H' hR)
 have e:(λσ' H'=>D=D/\R σ' H')=R:=by
  funext σ' H'
  simp
 refine ziP h1.o h3 pins s σ H D I ?_
 show sa {D with nx:=λσ' H'=>D=D/\R σ' H'} σ H
 rw[e]
 exact ha
section
variable{X:Cx}
theorem znt(z:Str):zgU z 1=z:=by
 unfold zgU
 simp
theorem zjA:OpR X (binaryOp .Mult) (λx y H Q=>∃z n,x= .str z/\y= .int n/\1<=n/\n<=1000/\0<z.length/\z.length<=1000/\Q (.str (zgU z n.toNat)) H):=by
 intro pins s σ H x y v u Q I rx ry h
 obtain⟨z,n,rfl,rfl,h1,h2,h3,h4,q⟩:=h
 by_cases h:1<n
 ·exact zkr pins s σ H _ _ v u Q I rx ry ⟨z,n,rfl,rfl,h,h2,h3,h4,q⟩
 ·have e:n=1:=by omega
  subst e
  obtain⟨t,rfl⟩:=rx
  obtain⟨t',rfl⟩:=ry
  refine PySem.P.mul_str (by decide) (λ_ z=>by simp at z) (λ_ z=>by simp at z) ?_
  simp only[show¬(1:Int)<1 by decide,if_false,beq_self_eq_true,Bool.true_or,if_true]
  refine⟨.str _,H,I,⟨_,rfl⟩,?_⟩
  have e:zgU z (1:Int).toNat=z:=znt z
  rw[e] at q
  exact q
end
section
variable{X:Cx}{K:PySem.W.Frag}
theorem zaL(h:X.K=K):IxR X (zmq K):=by subst h;exact ix_tup
theorem zlD(h:X.K=K):IxR X (rIx K):=by subst h;exact zkk
theorem zke(h:X.K=K):OpR X (compareOp .In) (rIn K false):=by subst h;exact zd5
theorem zg4(h:X.K=K):OpR X (compareOp .NotIn) (rIn K true):=by subst h;exact zdr
theorem zS:CallR X (.builtin "len") (λxs H Q=>(∃p ys,xs=[.ref p]/\(SqL X.K H p ys\/SqT X.K H p ys)/\Q (.int ys.length) H)\/∃z,xs=[.str z]/\z.length<=sizeLine/\Q (.int z.length) H):=call_len_seq.or zib
theorem zfl(n:Nat){k:Nat}{es:List Expr}{pos:Pos}{tgs:TGs}(hK:X.K=K)(hc:X.calm=true)(h:QGs X es tgs)(hn:(assignEach es X.env).length=n:=by rfl)(hst:(assignEach es X.env).findIdx? (·.1)=none:=by rfl):QG X (.Tuple es k pos) (zqD K n tgs):=by subst hK;exact zc1 n hc h hn hst
end
end L2
namespace RW
open PySem PySem.Spec PyProof.Rows L2
noncomputable def zaW(c:Nat):Bool:=decide (97<=c)&&decide (c<=122)
noncomputable def takenL:List Str:=["if","and","not","never"]
noncomputable def zi(x:Str):Bool:=decide (1<=x.length)&&decide (x.length<=8)&&x.cps.toList.all zaW&&!(takenL.any λy=>decide (y=x))
def Hand(H:Hp)(a:Addr)(n:Int):Prop:=∃x m t:Int,H a=some (.lst [.int x, .int m, .int t])/\0<=m/\m<2^63/\0<=t/\t<=n
def Keep(a:Addr)(H H':Hp):Prop:=∀b o,b≠a->H b=some o->H' b=some o
theorem Keep.refl(a:Addr)(H:Hp):Keep a H H:=λ_ _ _ h=>h
theorem Keep.trans{a:Addr}{H H1 H2:Hp}(x:Keep a H H1)(y:Keep a H1 H2):Keep a H H2:=λb o n h=>y b o n (x b o n h)
theorem Keep.upd(a:Addr)(H:Hp)(o:HO):Keep a H (upd H a o):=λb u n h=>by rw[zq n];exact h
theorem Keep.new{a p:Addr}{H:Hp}{o:HO}(h:H p=none):Keep a H (L2.upd H p o):=λb u n e=>by rw[zq (zy e h)];exact e
theorem Keep.of{a:Addr}{H H':Hp}(h:Same H H'):Keep a H H':=λb o _ e=>h b o e
theorem Hand.ne{H:Hp}{a p:Addr}{n:Int}(h:Hand H a n)(e:H p=none):p≠a:=by
 obtain⟨x,m,t,h,_⟩:=h
 exact λz=>by rw[z,h] at e;cases e
theorem Hand.new{H:Hp}{a p:Addr}{n:Int}{o:HO}(h:Hand H a n)(e:H p=none):Hand (upd H p o) a n:=by
 have ne:=h.ne e
 obtain⟨x,m,t,h,r⟩:=h
 exact⟨x,m,t,by rw[zq (Ne.symm ne)];exact h,r⟩
theorem Hand.same{H H':Hp}{a:Addr}{n:Int}(h:Hand H a n)(s:Same H H'):Hand H' a n:=by
 obtain⟨x,m,t,h,r⟩:=h
 exact⟨x,m,t,s _ _ h,r⟩
theorem Hand.mono{H:Hp}{a:Addr}{n n':Int}(h:Hand H a n)(l:n<=n'):Hand H a n':=by
 obtain⟨x,m,t,h,h1,h2,h3,h4⟩:=h
 exact⟨x,m,t,h,h1,h2,h3,by omega⟩
theorem Keep.sqL{K:PySem.W.Frag}{a b:Addr}{H H':Hp}{xs:List V}(k:Keep a H H')(n:b≠a)(h:SqL K H b xs):SqL K H' b xs:=by
 rcases h with(h|⟨o,h⟩)|h
 ·exact .inl (.inl (k _ _ n h))
 ·exact .inl (.inr ⟨o,k _ _ n h⟩)
 ·exact .inr h
theorem Hand.updNe{H:Hp}{a p:Addr}{n:Int}{o:HO}(h:Hand H a n)(e:p≠a):Hand (upd H p o) a n:=by
 obtain⟨x,m,t,h,r⟩:=h
 exact⟨x,m,t,by rw[zq (Ne.symm e)];exact h,r⟩
theorem Keep.updNew{a p:Addr}{H H':Hp}{o:HO}(k:Keep a H H')(e:H p=none):Keep a H (L2.upd H' p o):=λb u n h=>by
 rw[zq (zy h e)]
 exact k b u n h
noncomputable def lettersS:Str:="abcdefghijklmnopqrstuvwxyz"
noncomputable def one(c:Nat):Str:=⟨#[c]⟩
theorem Same.new{H:Hp}{p:Addr}{o:HO}(h:H p=none):Same H (L2.upd H p o):=λb u e=>by rw[zq (zy e h)];exact e
structure At(K:PySem.W.Frag)(mg:Str->Option Value)(x:Str)(st:Stmt)(ps:List Str)(f:Addr)(fd:FuncData):Prop where
 fn:Fun K x x st f fd
 b:Binds K fd ps []
 mg:mg x=some (.ref f)
 kp:PySem.W.keepIn K (.ref f)=true
theorem zeU{α:Type}{xs:List α}{d:Int}(h0:0<=d)(h1:d<xs.length):∃v,atI xs d=some v/\v∈xs:=by
 obtain⟨k,rfl⟩:∃k:Nat,d=(k:Int):=⟨d.toNat,by omega⟩
 have hk:k<xs.length:=by omega
 exact⟨xs[k],zG (by simp[hk]),List.getElem_mem hk⟩
theorem at0{α:Type}{x:α}{xs:List α}:atI (x::xs) 0=some x:=zG (j:=0) rfl
theorem at1{α:Type}{x y:α}{xs:List α}:atI (x::y::xs) 1=some y:=zG (j:=1) rfl
theorem tru{b:Bool}(h:¬b=true):b=false:=by simpa using h
inductive D where
 |non|bl (b:Bool)|int (i:Int)|str (x:Str)|tup (ds:List D)|oth
inductive Rep(H:Hp):V->D->Prop where
 |non:Rep H .non .non
 |bl (b:Bool):Rep H (.bl b) (.bl b)
 |int (i:Int):Rep H (.int i) (.int i)
 |str (x:Str) (h:x.length<=1000):Rep H (.str x) (.str x)
 |tup {p:Addr} {vs:List V} {ds:List D} (h:H p=some (.tup vs)) (l:vs.length=ds.length) (b:ds.length<=1000) (r:∀(i:Nat) (v:V) (d:D),vs[i]?=some v->ds[i]?=some d->Rep H v d):Rep H (.ref p) (.tup ds)
 |lst {p:Addr} {vs:List V} (h:H p=some (.lst vs)):Rep H (.ref p) .oth
 |dK {p:Addr} {kvs:List (Key×V)} (h:H p=some (.dK kvs)):Rep H (.ref p) .oth
structure Mono(H H':Hp):Prop where
 tup:∀p xs,H p=some (.tup xs)->H' p=some (.tup xs)
 lst:∀p xs,H p=some (.lst xs)->∃ys,H' p=some (.lst ys)
 dK:∀p xs,H p=some (.dK xs)->∃ys,H' p=some (.dK ys)
theorem Mono.trans{H H1 H2:Hp}(a:Mono H H1)(b:Mono H1 H2):Mono H H2:=⟨λp xs h=>b.tup p xs (a.tup p xs h),λp xs h=>let ⟨ys,e⟩:=a.lst p xs h;b.lst p ys e,λp xs h=>let ⟨ys,e⟩:=a.dK p xs h;b.dK p ys e⟩
theorem Mono.of{H H':Hp}(s:Same H H'):Mono H H':=⟨λp xs h=>s _ _ h,λp xs h=>⟨xs,s _ _ h⟩,λp xs h=>⟨xs,s _ _ h⟩⟩
theorem Mono.new{H:Hp}{p:Addr}{o:HO}(h:H p=none):Mono H (upd H p o):= .of (Same.new h)
theorem Mono.lset{H:Hp}{p:Addr}{xs ys:List V}(h:H p=some (.lst xs)):Mono H (upd H p (.lst ys)):=by
 refine⟨λq zs e=>?_,λq zs e=>?_,λq zs e=>?_⟩
 ·by_cases hq:q=p
  ·subst hq;rw[h] at e;cases e
  ·rw[zq hq];exact e
 ·by_cases hq:q=p
  ·subst hq;exact⟨ys,zd⟩
  ·rw[zq hq];exact⟨zs,e⟩
 ·by_cases hq:q=p
  ·subst hq;rw[h] at e;cases e
  ·rw[zq hq];exact⟨zs,e⟩
theorem Mono.keep{H H':Hp}{a:Addr}{n m:Int}(k:Keep a H H')(h:Hand H a n)(h':Hand H' a m):Mono H H':=by
 obtain⟨x,y,z,h,_⟩:=h
 obtain⟨x',y',z',h',_⟩:=h'
 refine⟨λq zs e=>?_,λq zs e=>?_,λq zs e=>?_⟩
 ·exact k q _ (λhq=>by subst hq;rw[h] at e;cases e) e
 ·by_cases hq:q=a
  ·subst hq;exact⟨_,h'⟩
  ·exact ⟨zs,k q _ hq e⟩
 ·exact ⟨zs,k q _ (λhq=>by subst hq;rw[h] at e;cases e) e⟩
theorem Rep.mono{H H':Hp}{v:V}{d:D}(h:Rep H v d)(m:Mono H H'):Rep H' v d:=by
 induction h with
 |non=>exact .non
 |bl b=>exact .bl b
 |int i=>exact .int i
 |str x h=>exact .str x h
 |tup h l b _ ih=>exact .tup (m.tup _ _ h) l b ih
 |lst h=>obtain ⟨ys,e⟩:=m.lst _ _ h;exact .lst e
 |dK h=>obtain ⟨ys,e⟩:=m.dK _ _ h;exact .dK e
theorem Rep.same{H H':Hp}{v:V}{d:D}(h:Rep H v d)(s:Same H H'):Rep H' v d:=h.mono (.of s)
def RepL(H:Hp)(vs:List V)(ds:List D):Prop:=vs.length=ds.length/\∀(i:Nat) (v:V) (d:D),vs[i]?=some v->ds[i]?=some d->Rep H v d
theorem RepL.nil{H:Hp}:RepL H [] []:=⟨rfl,λi v d e=>by simp at e⟩
theorem RepL.cons{H:Hp}{v:V}{d:D}{vs:List V}{ds:List D}(h:Rep H v d)(r:RepL H vs ds):RepL H (v::vs) (d::ds):=by
 refine⟨by simp[r.1],λi w e h1 h2=>?_⟩
 cases i with
 |zero=>simp at h1 h2;subst h1;subst h2;exact h
 |succ i=>exact r.2 i w e (by simpa using h1) (by simpa using h2)
theorem RepL.head{H:Hp}{v:V}{d:D}{vs:List V}{ds:List D}(r:RepL H (v::vs) (d::ds)):Rep H v d/\RepL H vs ds:=
 ⟨r.2 0 v d rfl rfl,by have:=r.1;simp at this;exact this,λi w e h1 h2=>r.2 (i+1) w e (by simpa using h1) (by simpa using h2)⟩
theorem RepL.mono{H H':Hp}{vs:List V}{ds:List D}(r:RepL H vs ds)(m:Mono H H'):RepL H' vs ds:=⟨r.1,λi v d h1 h2=>(r.2 i v d h1 h2).mono m⟩
theorem RepL.append{H:Hp}{vs us:List V}{ds es:List D}(r:RepL H vs ds)(q:RepL H us es):RepL H (vs ++us) (ds ++es):=by
 refine⟨by rw[List.length_append,List.length_append,r.1,q.1],λi v d h1 h2=>?_⟩
 by_cases hi:i<vs.length
 ·rw[List.getElem?_append_left hi] at h1
  rw[List.getElem?_append_left (by rw[←r.1];exact hi)] at h2
  exact r.2 i v d h1 h2
 ·rw[List.getElem?_append_right (by omega)] at h1
  rw[List.getElem?_append_right (by rw[←r.1];omega),←r.1] at h2
  exact q.2 _ v d h1 h2
theorem RepL.take{H:Hp}{vs:List V}{ds:List D}(r:RepL H vs ds)(n:Nat):RepL H (vs.take n) (ds.take n):=by
 refine⟨by rw[List.length_take,List.length_take,r.1],λi v d h1 h2=>?_⟩
 rw[List.getElem?_take] at h1 h2
 split at h1
 ·rename_i h;rw[if_pos h] at h2;exact r.2 i v d h1 h2
 ·cases h1
theorem RepL.drop{H:Hp}{vs:List V}{ds:List D}(r:RepL H vs ds)(n:Nat):RepL H (vs.drop n) (ds.drop n):=by
 refine⟨by rw[List.length_drop,List.length_drop,r.1],λi v d h1 h2=>?_⟩
 rw[List.getElem?_drop] at h1 h2
 exact r.2 _ v d h1 h2
theorem RepL.get{H:Hp}{vs:List V}{ds:List D}{i:Nat}{v:V}(r:RepL H vs ds)(h:vs[i]?=some v):∃d,ds[i]?=some d/\Rep H v d:=by
 have hi:i<vs.length:=by
  rcases Nat.lt_or_ge i vs.length with q|q
  ·exact q
  ·rw[List.getElem?_eq_none q] at h;cases h
 have hd:i<ds.length:=by rw[←r.1];exact hi
 exact⟨ds[i],by simp[hd],r.2 i v _ h (by simp[hd])⟩
theorem Rep.mkL{H:Hp}{p:Addr}{vs:List V}{ds:List D}(h:H p=some (.tup vs))(b:ds.length<=1000)(r:RepL H vs ds):Rep H (.ref p) (.tup ds):= .tup h r.1 b r.2
theorem Rep.ofT{H:Hp}{v:V}{ds:List D}(h:Rep H v (.tup ds)):∃p vs,v= .ref p/\H p=some (.tup vs)/\RepL H vs ds/\ds.length<=1000:=by
 cases h with
 |tup h l b r=>exact ⟨_,_,rfl,h,⟨l,r⟩,b⟩
theorem Rep.of2{H:Hp}{v:V}{d e:D}(h:Rep H v (.tup [d,e])):∃p x y,v= .ref p/\H p=some (.tup [x,y])/\Rep H x d/\Rep H y e:=by
 obtain⟨p,vs,rfl,hp,r,_⟩:=h.ofT
 match vs,r with
 |[x,y],r=>exact ⟨p,x,y,rfl,hp,r.head.1,r.head.2.head.1⟩
 |[],r=>exact absurd r.1 (by simp)
 |[_],r=>exact absurd r.1 (by simp)
 |_::_::_::_,r=>exact absurd r.1 (by simp)
theorem Rep.mk1{H:Hp}{p:Addr}{x:V}{d:D}(h:H p=some (.tup [x]))(a:Rep H x d):Rep H (.ref p) (.tup [d]):= .mkL h (by simp) (.cons a .nil)
theorem Rep.mk2{H:Hp}{p:Addr}{x y:V}{d e:D}(h:H p=some (.tup [x,y]))(a:Rep H x d)(b:Rep H y e):Rep H (.ref p) (.tup [d,e]):= .mkL h (by simp) (.cons a (.cons b .nil))
noncomputable def zhV:D->Bool| .tup _=>true|_=>false
noncomputable def zif:D->Bool| .int _=>true| .bl _=>true|_=>false
noncomputable def zsd:D->Bool| .bl _=>true|_=>false
noncomputable def zrj:D->Bool| .str _=>true|_=>false
theorem Rep.isi{K:PySem.W.Frag}{H:Hp}{v:V}{d:D}(h:Rep H v d):∃t,TyOf K H v t/\PySem.W.kitOne K t (.type "tuple")=some (zhV d)/\PySem.W.kitOne K t (.type "int")=some (zif d)/\PySem.W.kitOne K t (.type "bool")=some (zsd d)/\PySem.W.kitOne K t (.type "str")=some (zrj d):=by
 cases h with
 |non=>exact ⟨_, .non,rfl,rfl,rfl,rfl⟩
 |bl b=>exact ⟨_, .bl b,rfl,rfl,rfl,rfl⟩
 |int i=>exact ⟨_, .int i,rfl,rfl,rfl,rfl⟩
 |str x _=>exact ⟨_, .str x,rfl,rfl,rfl,rfl⟩
 |tup h _ _ _=>exact ⟨_, .tup h,rfl,rfl,rfl,rfl⟩
 |lst h=>exact ⟨_, .lst h,rfl,rfl,rfl,rfl⟩
 |dK h=>exact ⟨_, .dK h,rfl,rfl,rfl,rfl⟩
noncomputable def zca:D->Bool| .int _=>true|_=>false
noncomputable def zgS(d:D)(lo hi:Int):Bool:=match d with| .int i=>decide (lo<=i)&&decide (i<=hi)|_=>false
noncomputable def zaJ(d:D)(lo hi:Int):Bool:=match d with| .tup ds=>decide (lo<=(ds.length:Int))&&decide ((ds.length:Int)<=hi)|_=>false
noncomputable def headStrB:D->Bool| .tup (.str _::_)=>true|_=>false
noncomputable def zW:D->Bool| .str x=>zi x|_=>false
noncomputable def namingL:List Str:=["by","from","to","mark"]
noncomputable def zP:D->Bool
 | .tup [.str w,x]=>if w="long"then zgS x 0 99 else(namingL.any λy=>decide (y=w))&&zW x
 |_=>false
noncomputable def zQ(d:D):Bool:=match d with
 | .tup [.str w,x]=>if w="not"then zP x else zP d
 |_=>false
noncomputable def zbl:D->Bool| .tup ds=>decide (ds.length<=4)&&ds.all zQ|_=>false
noncomputable def zfC:D->Bool| .tup [.str w,_]=>decide (w="to")|_=>false
noncomputable def ze8:D->Bool| .tup [.str w,x]=>if w="not"then zfC x else decide (w="to")|_=>false
noncomputable def zdi:D->Bool| .non=>true|d=>zgS d (-999) 999
noncomputable def zf4:D->Bool| .tup ds=>ds.any ze8|_=>false
noncomputable def zav:D->Bool| .tup [c,x]=>zbl c&&zdi x&&!zf4 c|_=>false
noncomputable def zcS:D->Bool
 | .tup [.str w]=>decide (w="keep")
 | .tup [.str w,x]=>(decide (w="put")||decide (w="strike"))&&zW x
 |_=>false
noncomputable def zcC:D->Bool| .tup [c,x]=>zbl c&&zcS x|_=>false
theorem zss(c:Nat):decide (({cps:= #[c]}:Str).cps.toList<(Str.ofString "a").cps.toList)=decide (c<97):=by
 have e:(Str.ofString "a").cps.toList=[97]:=by decide +kernel
 rw[e]
 show decide ([c]< [97])=_
 by_cases h:c<97
 ·rw[decide_eq_true h]
  exact decide_eq_true (List.cons_lt_cons_iff.mpr (.inl h))
 ·rw[decide_eq_false h]
  refine decide_eq_false λz=>?_
  rcases List.cons_lt_cons_iff.mp z with q|⟨_,q⟩
  ·exact h q
  ·exact absurd q (by simp)
theorem zsu(c:Nat):decide ((Str.ofString "z").cps.toList<({cps:= #[c]}:Str).cps.toList)=decide (122<c):=by
 have e:(Str.ofString "z").cps.toList=[122]:=by decide +kernel
 rw[e]
 show decide ([122]< [c])=_
 by_cases h:122<c
 ·rw[decide_eq_true h]
  exact decide_eq_true (List.cons_lt_cons_iff.mpr (.inl h))
 ·rw[decide_eq_false h]
  refine decide_eq_false λz=>?_
  rcases List.cons_lt_cons_iff.mp z with q|⟨_,q⟩
  ·exact h q
  ·exact absurd q (by simp)
theorem zeQ{w:Str}{x:D}:zP (.tup [.str w,x])=if w="long"then zgS x 0 99 else(namingL.any λy=>decide (y=w))&&zW x:=rfl
theorem zec{w:Str}{x:D}:zQ (.tup [.str w,x])=if w="not"then zP x else zP (.tup [.str w,x]):=rfl
theorem ziM{ds:List D}:zbl (.tup ds)=(decide (ds.length<=4)&&ds.all zQ):=rfl
theorem zmH{c x:D}:zav (.tup [c,x])=(zbl c&&zdi x&&!zf4 c):=rfl
theorem zo1{c x:D}:zcC (.tup [c,x])=(zbl c&&zcS x):=rfl
theorem zqU{w:Str}{x:D}:zcS (.tup [.str w,x])=((decide (w="put")||decide (w="strike"))&&zW x):=rfl
theorem zcN{x:Str}:zW (.str x)=zi x:=rfl
theorem zag{x y:Str}:decide (V.str x=V.str y)=decide (x=y):=by
 by_cases h:x=y
 ·subst h;rw[decide_eq_true rfl,decide_eq_true rfl]
 ·rw[decide_eq_false h,decide_eq_false λz=>h (V.str.inj z)]
theorem zcU(d:D)(h:zP d=true):∃x e,d= .tup [.str x,e]:=by
 unfold zP at h
 split at h
 ·exact ⟨_,_,rfl⟩
 ·cases h
theorem zhH(d:D)(h:zQ d=true):∃x e,d= .tup [.str x,e]:=by
 unfold zQ at h
 split at h
 ·exact ⟨_,_,rfl⟩
 ·cases h
theorem zdm{e:D}:zP (.tup [.str "not",e])=false:=by
 have h1:¬("not":Str)="long":=by decide +kernel
 have h2:(namingL.any λy=>decide (y=("not":Str)))=false:=by decide +kernel
 rw[zeQ,if_neg h1,h2];rfl
theorem zb2{α:Type}{ds:List α}{g:α->Bool}:(ds.map g).all id=ds.all g:=by rw[List.all_map];rfl
noncomputable def ziU(g:D->Bool):Sp:=λvs H Q _=>∃v d,vs=[v]/\Rep H v d/\∀H',Same H H'->Q (.bl (g d)) H'
theorem zeL{xs:List V}{n:Nat}:zbu xs none (some (n:Int))=xs.take n:=by
 unfold zbu
 have e1:HT.sIx xs.length 0 none=0:=rfl
 have e2:HT.sIx xs.length xs.length (some (n:Int))=min n xs.length:=by
  unfold HT.sIx
  have h:¬(n:Int)<0:=by omega
  simp only[if_neg h,Int.toNat_natCast]
 rw[e1,e2,List.drop_zero,Nat.sub_zero,List.take_eq_take_iff]
 omega
theorem zet{N:Nat}{a:Addr}{m c:Int}{Pd:Nat->D->Prop}{H:Hp}{te:TE}{src:List (Option Nat)}{σ σr:L2.St}{Q:VK}(hs:zdo src σ=none::σr)(hH:Hand H a m)(hN:N<=900)(hc:0<=c)
 (he:∀(i:Nat) (H1:Hp) (Q1:VK),i<N->Hand H1 a (m+c*i)->Keep a H H1->(∀v d H2,Rep H2 v d->Pd i d->Hand H2 a (m+c*i+c)->Keep a H1 H2->Q1 v H2)->te (some (.int (i:Int))::σr) H1 Q1)
 (q:∀l vs ds H',H l=none->H' l=some (.lst vs)->RepL H' vs ds->ds.length=N->(∀i d,ds[i]?=some d->Pd i d)->Hand H' a (m+c*N)->Keep a H H'->Q (.ref l) H'):zcb (zaM 0) zik te src σ Q (Itr 0 N) H:=by
 refine zaY zcv (λl i ys σ' H'=>(∃o,σ'=o::σr)/\(∃ds:List D,RepL H' ys ds/\ds.length=i/\∀j d,ds[j]?=some d->Pd j d)/\Hand H' a (m+c*i)/\Keep a H H') ?_ (λ_ _ _ _ _ _ _=>trivial) ?_ ?_
 ·exact λl hl=>⟨⟨_,hs⟩,⟨[],RepL.nil,rfl,λj d z=>by simp at z⟩,(hH.new hl).mono (by simp),Keep.new hl⟩
 ·rintro l i y ys σ' H1 hl hi rfl ⟨⟨o,rfl⟩,⟨ds,hr,hl2,hp⟩,hH1,k1⟩ hl'
  have nl:=hH.ne hl
  rw[Int.zero_add]
  refine he i H1 _ hi hH1 k1 λv d H2 rv pd hH2 k2=>?_
  have hl2':H2 l=some (.lst ys):=k2 _ _ nl hl'
  have m2:Mono H1 H2:=Mono.keep k2 hH1 hH2
  have m3:Mono H2 (upd H2 l (.lst (ys ++ [v]))):=Mono.lset hl2'
  refine⟨hl2',?_,⟨_,rfl⟩,⟨ds ++ [d],((hr.mono m2).append (.cons rv .nil)).mono m3,?_,?_⟩,(hH2.updNe nl).mono ?_,(k1.trans k2).updNew hl⟩
  ·have:=hr.1
   exact zm (by omega)
  ·rw[List.length_append,hl2];rfl
  ·intro j e he
   by_cases hj:j<ds.length
   ·rw[List.getElem?_append_left hj] at he
    exact hp j e he
   ·rw[List.getElem?_append_right (by omega)] at he
    have hj2:j=ds.length:=by
     rcases Nat.lt_or_ge ds.length j with z|z
     ·rw[List.getElem?_eq_none (by simp;omega)] at he;cases he
     ·omega
    subst hj2
    simp at he
    subst he
    rw[hl2];exact pd
  ·rw[show((i+1:Nat):Int)=(i:Int)+1 by omega,Int.mul_add,Int.mul_one]
   omega
 ·rintro l ys σ' H1 hl ⟨⟨o,rfl⟩,⟨ds,hr,hl2,hp⟩,hH1,k1⟩ hl'
  exact q l ys ds H1 hl hl' hr hl2 hp hH1 k1
theorem zi2{J:It}{vs:List V}{ds:List D}{g:D->Bool}{ok:Hp->Prop}{H:Hp}{te:TE}{src:List (Option Nat)}{σ:L2.St}{Q:VK}(wk:Wk J vs.length (λi x=>vs[i]?=some x) ok)(hok:∀H',Same H H'->ok H')(r:RepL H vs ds)(hl:ds.length<=1000)(e:zdo src σ=[none])
 (he:∀(x:V) (d:D) (H1:Hp) (Q1:VK),Same H H1->Rep H1 x d->d∈ds->(∀H2,Same H1 H2->Q1 (.bl (g d)) H2)->te [some x] H1 Q1)
 (q:∀l H',Same H H'->H l=none->H' l=some (.lst ((ds.map g).map V.bl))->Q (.ref l) H'):zcb (zaM 0) zik te src σ Q J H:=by
 refine zaY wk (λl i ys σ' H'=>(∃o,σ'=[o])/\ys=((ds.take i).map g).map V.bl/\Same H H') ?_ ?_ ?_ ?_
 ·exact λl h'=>⟨⟨none,e⟩,rfl,Same.new h'⟩
 ·exact λl i ys σ' H' _ p=>hok H' p.2.2
 ·rintro l i y ys σ' H1 h' hi hy ⟨⟨o,rfl⟩,rfl,s1⟩ hl'
  obtain⟨d,hd,rd⟩:=r.get hy
  refine he y d H1 _ s1 (rd.same s1) (List.mem_of_getElem? hd) λH2 s2=>?_
  refine⟨s2 _ _ hl',?_,⟨_,rfl⟩,?_,?_⟩
  ·rw[List.length_map,List.length_map,List.length_take]
   exact zm (by omega)
  ·rw[List.take_add_one,hd]
   simp
  ·exact λc o e=>by
    rw[zq (zy e h')]
    exact s2 _ _ (s1 _ _ e)
 ·rintro l ys σ' H1 h' ⟨⟨o,rfl⟩,rfl,s1⟩ hl'
  rw[r.1,List.take_length] at hl'
  exact q l H1 s1 h' hl'
end RW
namespace L2
open PySem PySem.Spec PyProof.Rows
open Sem (wp)
open MeetsSeq MeetsSeq2 MeetsSeq3 Builtin
theorem zfn:fillsNumberSlot (.type "tuple") "mul"=pure false:=
 PySem.fillsNumberSlot_seq (id:="tuple.__mul__") (r:=some (.builtin "tuple.__rmul__")) PySem.F.slot_tuple_mul.lookup (by decide +kernel) PySem.F.slot_tuple_rmul.lookup (by decide +kernel)
theorem zic:seqRepeat? (.type "tuple")=pure (some (.builtin "tuple.__mul__")):=by
 unfold seqRepeat?
 rw[PySem.seqSlot_of (T:="tuple") (name:="__mul__") (id:="tuple.__mul__") PySem.F.slot_tuple_mul.lookup (by decide +kernel),PySem.seqSlot_of (T:="tuple") (name:="__rmul__") (id:="tuple.__rmul__") PySem.F.slot_tuple_rmul.lookup (by decide +kernel)]
 rfl
theorem zdA(a:Int)(t:Tok)(l:Addr)(items:Array Value)(n:Nat)(dd:Option Addr)(sl:Array (Option Value)):
 Meets (Builtin.«int.__rmul__» ⟨[.int a t, .ref l],[]⟩) (λ_ R s=>s.heap.get? l=some {cls:= .type "tuple",dict:=dd,data:= .seq items n,slots:=sl}/\R (.ok (.ret Value.notImplemented)) s):=
 .of_wp λprog w A R s h=>by obtain⟨hp,g,d,tk,os⟩:=s;obtain⟨hl,h⟩:=h;wp_walk;exact⟨_,rfl,h⟩
theorem zgw(l:Addr)(items:Array Value)(n:Nat)(x:Int)(u:Tok)(dd:Option Addr)(sl:Array (Option Value))(hc0:¬(decide (x< -2^63)||decide (x≥2^63))=true)(h1:¬(items.isEmpty||x==1)=true)(h2:¬(decide (x<=0)||items.isEmpty)=true)
 (hc1:¬(items.size:Int)*x>(2^63 -1)/8) (hc2:¬Tuple.tupleTooMany ((items.size:Int)*x)=true) (hc3:((List.replicate x.toNat items).foldl (·++·) #[]).size<=sizeLine):
 Meets (Builtin.«tuple.__mul__» ⟨[.ref l, .int x u],[]⟩) (λ_ R s=>s.heap.get? l=some {cls:= .type "tuple",dict:=dd,data:= .seq items n,slots:=sl}/\R (.ok (.ret (Value.ref s.heap.objs.size))) {s with heap:=s.heap.push {cls:=Value.type "tuple",data:= .seq ((List.replicate x.toNat items).foldl (·++·) #[])}}):=
 .of_wp λprog w A R s h=>by
  obtain⟨hp,g,d,tk,os⟩:=s;obtain⟨hl,h⟩:=h;have f1:=AutoSeq1.idx_int;have f2:=AutoSeq1.sub_tuple_tuple
  wp_walk using wpAny_loadPart' hl
  rw[if_neg hc0]
  wp_walk using wpAny_loadPart' hl
  rw[if_neg hc1]
  wp_walk using wpAny_loadPart' hl
  exact⟨_,rfl,h⟩
noncomputable def zqg(K:PySem.W.Frag):R2:=λx y H Q=>∃a k xs,x= .ref a/\y= .int k/\SqT K H a xs/\xs≠ []/\2<=k/\k<=1000/\xs.length<=1000/\∀p,H p=none->Q (.ref p) (upd H p (.tup (List.replicate k.toNat xs).flatten))
theorem zlF{X:Cx}:OpR X (binaryOp .Mult) (zqg X.K):=by
 intro pins s σ H x y v u Q I rx ry h
 obtain⟨a,k,xs,rfl,rfl,ha,hx,k2,k1000,hz,q⟩:=h
 cases rx
 obtain⟨t,rfl⟩:=ry
 obtain⟨its,r,p1,_⟩:=I.tuple ha
 have hl:=r.length
 have hne:its≠ []:=λz=>hx (r.nil_iff.mp z)
 obtain⟨⟨cls,dd,data,sl⟩,ho,hc,n,hd⟩:=id p1
 simp only at hc hd
 subst hc hd
 have he:its.toArray.isEmpty=false:=by simpa using hne
 have f0:∀m:Nat,List.foldl (λx1 x2=>x1 ++x2) #[] (List.replicate m its.toArray)=(List.replicate m its).flatten.toArray:=λm=>by
  have:=zfp its m []
  rw[List.nil_append] at this
  exact this
 have hs:(List.replicate k.toNat its).flatten.length=k.toNat *its.length:=zhM its k.toNat
 have hk:k.toNat *its.length<=1000*1000:=Nat.mul_le_mul (by omega) (by omega)
 have hS:1000*1000<=sizeLine:=by decide
 have hki:(its.toArray.size:Int)*k<=1000*1000:=by
  rw[List.size_toArray]
  exact Int.mul_le_mul (by omega) k1000 (by omega) (by omega)
 refine wpAny_binaryOp_repeat_ref (T:="tuple") (U:="int") (by decide) ⟨_,ho,rfl⟩ (λs'=>typeIs_int s' k t) zfn PySem.F.fills_int_mul PySem.F.slot_int_rmul zic PySem.F.slot_int_index.lookup
  (call_meets PySem.F.slot_int_rmul (typeIs_int s k t) PySem.F.entry_int_rmul (PySem.F.args_int_rmul_2 _ _) (zdA k t a its.toArray n dd sl)
    ⟨ho,rfl,⟨_,ho,rfl⟩,call_meets PySem.F.slot_tuple_mul ⟨_,ho,rfl⟩ PySem.F.entry_tuple_mul (PySem.F.args_tuple_mul_2 _ _) (zgw a its.toArray n k t dd sl ?_ ?_ ?_ ?_ ?_ ?_) ⟨ho,?_⟩⟩)
 ·rw[decide_eq_false (by omega),decide_eq_false (by omega)];decide
 ·rw[he,beq_eq_false_iff_ne.mpr (by omega:k≠1)];decide
 ·rw[he,decide_eq_false (by omega)];decide
 ·have:(1000*1000:Int)<=(2^63 -1)/8:=by decide
  omega
 ·unfold Tuple.tupleTooMany
  have:(1000*1000:Int)<=(sizeLine:Int):=by exact_mod_cast hS
  rw[decide_eq_false (by omega)];decide
 ·rw[f0,List.size_toArray,hs];omega
 ·rw[f0]
  refine⟨.ref s.heap.objs.size,_,I.laid (t':=s.toks) (o:= .tup (List.replicate k.toNat xs).flatten) (λb ob q=>Heap.get?_push_of_some _ q) (Nat.le_refl _) ?_,rfl,q _ (I.hok.fresh (Nat.le_refl _))⟩
  exact⟨by rw[zhM,hl];omega,_,r.rep k.toNat,IsTup.new _ _,NoDict.new rfl (Heap.get?_push_size _ rfl)⟩
end L2
namespace L2
open PySem PySem.Spec PyProof.Rows
theorem zil{X:Cx}{pos:Pos}:QE X (.Dict [] [] pos) ziz:=⟨zm3⟩
end L2
namespace RW
open PySem PySem.Spec PyProof.Rows L2
def Dsp(te:TE)(σ:L2.St)(H:Hp)(d:D):Prop:=∀(H1:Hp) (Q:VK),Same H H1->(∀v H2,Same H1 H2->Rep H2 v d->Q v H2)->te σ H1 Q
def zmE(ta:TA)(σ:L2.St)(H:Hp)(ds:List D):Prop:=∀(H1:Hp) (Q:List V->Hp->Prop),Same H H1->(∀vs H2,Same H1 H2->RepL H2 vs ds->Q vs H2)->ta σ H1 Q
def zg1(te:TE)(σ:L2.St)(H:Hp)(ds:List D):Prop:=∀(H1:Hp) (Q:VK),Same H H1->(∀l vs H2,Same H1 H2->H2 l=some (.lst vs)->RepL H2 vs ds->Q (.ref l) H2)->te σ H1 Q
section
variable{te tf:TE}{ta:TA}{σ:L2.St}{H:Hp}{d:D}{ds es:List D}{K:PySem.W.Frag}
theorem zaU{x:Str}(h:x.length<=1000):Dsp (tC (.str x)) σ H (.str x):=λH1 Q s q=>q _ H1 (Same.refl _) (.str x h)
theorem zcE{i:Int}:Dsp (tC (.int i)) σ H (.int i):=λH1 Q s q=>q _ H1 (Same.refl _) (.int i)
theorem zeu{b:Bool}:Dsp (tC (.bl b)) σ H (.bl b):=λH1 Q s q=>q _ H1 (Same.refl _) (.bl b)
theorem zaS:Dsp (tC .non) σ H .non:=λH1 Q s q=>q _ H1 (Same.refl _) .non
theorem zh7{i:Int}:Dsp (tUn (rU λi=> .int (-i)) (tC (.int i))) σ H (.int (-i)):=λH1 Q s q=>⟨i,rfl,q _ H1 (Same.refl _) (.int (-i))⟩
theorem zt{i:Nat}{v:V}(h:σ[i]?=some (some v))(r:Rep H v d):Dsp (zc7 i) σ H d:=λH1 Q s q=>⟨v,h,q v H1 (Same.refl _) (r.same s)⟩
theorem zp:zmE zgg σ H []:=λH1 Q s q=>q [] H1 (Same.refl _) RepL.nil
theorem ze(h:Dsp te σ H d)(r:zmE ta σ H ds):zmE (zdG te ta) σ H (d::ds):=λH1 Q s q=>
 h H1 _ s λv H2 s2 rv=>r H2 _ (s.trans s2) λvs H3 s3 rs=>q (v::vs) H3 (s2.trans s3) (.cons (rv.same s3) rs)
theorem zE(h:zmE ta σ H ds)(hl:ds.length<=1000):Dsp (zn6 ta) σ H (.tup ds):=λH1 Q s q=>
 h H1 _ s λvs H2 s2 rs=>⟨Nat.le_of_lt (zm (by rw[rs.1];exact hl)),λp hp=>q _ _ (s2.trans (Same.new hp)) (.mkL zd hl (rs.mono (.new hp)))⟩
theorem zfZ(h:zmE ta σ H ds)(hl:ds.length<=1000):Dsp (zj6 ta) σ H .oth:=λH1 Q s q=>
 h H1 _ s λvs H2 s2 rs=>⟨Nat.le_of_lt (zm (by rw[rs.1];exact hl)),λp hp=>q _ _ (s2.trans (Same.new hp)) (.lst zd)⟩
theorem RepL.rep{vs:List V}(r:RepL H vs ds)(n:Nat):RepL H (List.replicate n vs).flatten (List.replicate n ds).flatten:=by
 induction n with
 |zero=>exact RepL.nil
 |succ n ih=>rw[List.replicate_succ,List.replicate_succ,List.flatten_cons,List.flatten_cons];exact r.append ih
theorem zkT{k:Int}(h:Dsp te σ H (.tup ds))(hn:ds≠ [])(k2:2<=k)(kb:k<=1000)(hl:(List.replicate k.toNat ds).flatten.length<=1000)(hd:ds.length<=1000):Dsp (tOp (zqg K) te (tC (.int k))) σ H (.tup (List.replicate k.toNat ds).flatten):=λH1 Q s q=>
 h H1 _ s λv H2 s2 rv=>by
  obtain⟨p,vs,rfl,hp,r,_⟩:=rv.ofT
  refine⟨p,k,vs,rfl,rfl, .inl (.inl hp),λz=>hn ?_,k2,kb,by rw[r.1];exact hd,λp2 hp2=>q _ _ (s2.trans (Same.new hp2)) (.mkL zd hl ((r.rep _).mono (.new hp2)))⟩
  have:=r.1
  rw[z] at this
  exact List.eq_nil_of_length_eq_zero this.symm
theorem ze2:Dsp ziz σ H .oth:=λH1 Q s q=>λp hp=>q _ _ (Same.new hp) (.dK zd)
theorem zgy{J:It}{vs:List V}{f:D->D}{ok:Hp->Prop}{src:List (Option Nat)}{σr:L2.St}{Q:VK}(wk:Wk J vs.length (λi x=>vs[i]?=some x) ok)(hok:∀H',Same H H'->ok H')(r:RepL H vs ds)(hl:ds.length<=900)(e:zdo src σ=none::σr)
 (he:∀(x:V) (d:D) (H1:Hp),Same H H1->Rep H1 x d->d∈ds->Dsp te (some x::σr) H1 (f d))
 (q:∀l us H',Same H H'->H l=none->H' l=some (.lst us)->RepL H' us (ds.map f)->Q (.ref l) H'):zcb (zaM 0) zik te src σ Q J H:=by
 refine zaY wk (λl i ys σ' H'=>(∃o,σ'=o::σr)/\RepL H' ys ((ds.take i).map f)/\Same H H') ?_ ?_ ?_ ?_
 ·exact λl h'=>⟨⟨none,e⟩,RepL.nil,Same.new h'⟩
 ·exact λl i ys σ' H' _ p=>hok H' p.2.2
 ·rintro l i y ys σ' H1 h' hi hy ⟨⟨o,rfl⟩,ry,s1⟩ hl'
  obtain⟨d,hd,rd⟩:=r.get hy
  refine he y d H1 s1 (rd.same s1) (List.mem_of_getElem? hd) H1 _ (Same.refl _) λv H2 s2 rv=>?_
  refine⟨s2 _ _ hl',?_,⟨_,rfl⟩,?_,?_⟩
  ·have:=ry.1
   rw[List.length_map,List.length_take] at this
   exact zm (by omega)
  ·have tk:(ds.take (i+1)).map f=(ds.take i).map f ++ [f d]:=by rw[List.take_add_one,hd];simp
   rw[tk]
   exact((ry.mono (.of s2)).append (.cons rv .nil)).mono (.lset (s2 _ _ hl'))
  ·exact λc o e=>by
    rw[zq (zy e h')]
    exact s2 _ _ (s1 _ _ e)
 ·rintro l ys σ' H1 h' ⟨⟨o,rfl⟩,ry,s1⟩ hl'
  rw[r.1,List.take_length] at ry
  exact q l ys H1 s1 h' hl' ry
end
section
variable{te:TE}{tr:TA}{tb:TS}{De:Ends}{σ:L2.St}{H:Hp}{ds:List D}{d:D}{k:Nat}
end
theorem zj0{H:Hp}{a l:Addr}{n:Int}{vs:List V}{ds:List D}(h:Hand H a n)(e:H l=some (.lst vs))(r:RepL H vs ds)(h3:ds.length≠3):l≠a:=λz=>by
 obtain⟨x,m,t,hh,_⟩:=h
 rw[z,hh] at e
 cases e
 exact h3 r.1.symm
end RW
namespace RW
open PySem PySem.W PyProof.Rows L2
section
variable{α β:Type}{N:Nat}{lt:Nat->Nat->Bool}
def OkT(N:Nat)(lt:Nat->Nat->Bool){α:Type}:KasT α->(α->Prop)->Prop
 | .ret a,P=>P a
 | .ask i j k,P=>i<N/\j<N/\OkT N lt (k (lt i j)) P
theorem OkT.mono{P Q:α->Prop}(h:∀a,P a->Q a):∀{t:KasT α},OkT N lt t P->OkT N lt t Q
 | .ret a,q=>h a q
 | .ask i j k,⟨h1,h2,q⟩=>⟨h1,h2,OkT.mono h q⟩
theorem OkT.bind{f:α->KasT β}{P:β->Prop}:∀{t:KasT α},OkT N lt t (λa=>OkT N lt (f a) P)->OkT N lt (t.bind f) P
 | .ret a,q=>q
 | .ask i j k,⟨h1,h2,q⟩=>⟨h1,h2,OkT.bind q⟩
theorem OkT.wp{cmp:Nat->Nat->(Bool->Shared->Prop)->Shared->Prop}{I:Shared->Prop}(hc:∀i j (C:Bool->Shared->Prop) s,i<N->j<N->I s->(∀s',I s'->C (lt i j) s')->cmp i j C s){P:α->Prop}{Q:α->Shared->Prop}(hq:∀a s,P a->I s->Q a s):
 ∀{t:KasT α} {s:Shared},I s->OkT N lt t P->t.kasWp cmp Q s
 | .ret a,s,hs,q=>hq a s q hs
 | .ask i j k,s,hs,⟨h1,h2,q⟩=>hc i j _ s h1 h2 hs λs' hs'=>OkT.wp hc hq hs' q
noncomputable abbrev gd(p:Array Nat)(i:Nat):Nat:=p.getD i 0
structure Strict(N:Nat)(lt:Nat->Nat->Bool):Prop where
 tot:∀i j,i<N->j<N->i≠j->lt i j=false->lt j i=true
 tr:∀i j k,i<N->j<N->k<N->lt i j=true->lt j k=true->lt i k=true
 asy:∀i j,i<N->j<N->lt i j=true->lt j i=false
def PermN(N:Nat)(p:Array Nat):Prop:=p.toList.Perm (List.range N)
theorem PermN.size{p:Array Nat}(h:PermN N p):p.size=N:=by
 have:=h.length_eq
 simpa using this
theorem gd_get{p:Array Nat}{i:Nat}(h:i<p.size):gd p i=p[i]:=by simp[gd,Array.getD,h]
theorem zhY{p q:Array Nat}{i j:Nat}(h:p[i]?=q[j]?):gd p i=gd q j:=by
 simp only[gd,Array.getD_eq_getD_getElem?,h]
theorem PermN.bd{p:Array Nat}(h:PermN N p){i:Nat}(hi:i<N):gd p i<N:=by
 have hs:=h.size
 rw[gd_get (by omega)]
 have:p[i]∈p.toList:=by simp
 exact List.mem_range.mp (h.mem_iff.mp this)
theorem PermN.inj{p:Array Nat}(h:PermN N p){i j:Nat}(hi:i<N)(hj:j<N)(hij:i≠j):gd p i≠gd p j:=by
 have hs:=h.size
 have nd:p.toList.Nodup:=h.nodup_iff.mpr List.nodup_range
 rw[gd_get (by omega),gd_get (by omega)]
 intro z
 exact hij ((List.getElem_inj (i:=i) (j:=j) (h₀:=by simp;omega) (h₁:=by simp;omega) nd).mp (by simpa using z))
def Sor(lt:Nat->Nat->Bool)(p:Array Nat)(m:Nat):Prop:=∀i j,i<j->j<m->lt (gd p i) (gd p j)=true
def Des(lt:Nat->Nat->Bool)(p:Array Nat)(m:Nat):Prop:=∀i j,i<j->j<m->lt (gd p j) (gd p i)=true
theorem Sor.snoc{p:Array Nat}{n:Nat}(S:Strict N lt)(hp:PermN N p)(h:Sor lt p n)(h1:1<=n)(hn:n<N)(e:lt (gd p (n -1)) (gd p n)=true):Sor lt p (n+1):=by
 intro i j hij hj
 by_cases hjn:j<n
 ·exact h i j hij hjn
 ·have ej:j=n:=by omega
  subst ej
  by_cases hi:i=j -1
  ·subst hi;exact e
  ·exact S.tr _ _ _ (hp.bd (by omega)) (hp.bd (by omega)) (hp.bd hn) (h i (j -1) (by omega) (by omega)) e
theorem Des.snoc{p:Array Nat}{n:Nat}(S:Strict N lt)(hp:PermN N p)(h:Des lt p n)(h1:1<=n)(hn:n<N)(e:lt (gd p n) (gd p (n -1))=true):Des lt p (n+1):=by
 intro i j hij hj
 by_cases hjn:j<n
 ·exact h i j hij hjn
 ·have ej:j=n:=by omega
  subst ej
  by_cases hi:i=j -1
  ·subst hi;exact e
  ·exact S.tr _ _ _ (hp.bd hn) (hp.bd (by omega)) (hp.bd (by omega)) e (h i (j -1) (by omega) (by omega))
theorem zjW{p:Array Nat}(S:Strict N lt)(hp:PermN N p):∀f n,1<=n->n+f<=N->Sor lt p n->OkT N lt (kas_asc p f n) (λm=>n<=m/\m<=n+f/\Sor lt p m/\(m<n+f->lt (gd p m) (gd p (m -1))=true))
 |0,n,_,_,hs=>⟨Nat.le_refl _,Nat.le_refl _,hs,λh=>by omega⟩
 |f+1,n,h1,hn,hs=>by
  refine⟨hp.bd (by omega),hp.bd (by omega),?_⟩
  cases hc:lt (gd p n) (gd p (n -1))with
  |true=>
   show OkT N lt (if true=true then _ else _) _
   rw[if_pos rfl]
   exact⟨Nat.le_refl _,by omega,hs,λ_=>hc⟩
  |false=>
   show OkT N lt (if false=true then _ else _) _
   rw[if_neg (by decide)]
   refine OkT.mono (λm hm=>⟨by omega,by omega,hm.2.2.1,λh=>hm.2.2.2 (by omega)⟩) (zjW S hp f (n+1) (by omega) (by omega) (hs.snoc S hp h1 (by omega) (S.tot _ _ (hp.bd (by omega)) (hp.bd (by omega)) (hp.inj (by omega) (by omega) (by omega)) hc)))
theorem zlo{p:Array Nat}(S:Strict N lt)(hp:PermN N p):∀f n,1<=n->n+f<=N->Des lt p n->OkT N lt (kas_desc f p n 0) (λr=>r.1=p/\n<=r.2.1/\r.2.1<=n+f/\Des lt p r.2.1/\r.2.2=0)
 |0,n,_,_,hs=>⟨rfl,Nat.le_refl _,Nat.le_refl _,hs,rfl⟩
 |f+1,n,h1,hn,hs=>by
  refine⟨hp.bd (by omega),hp.bd (by omega),?_⟩
  cases hc:lt (gd p n) (gd p (n -1))with
  |true=>
   show OkT N lt (if true=true then(if 0>0 then _ else _)else _) _
   rw[if_pos rfl,if_neg (by decide)]
   exact OkT.mono (λm hm=>⟨hm.1,by omega,by omega,hm.2.2.2⟩) (zlo S hp f (n+1) (by omega) (by omega) (hs.snoc S hp h1 (by omega) hc))
  |false=>
   show OkT N lt (if false=true then _ else _) _
   rw[if_neg (by decide)]
   refine⟨hp.bd (by omega),hp.bd (by omega),?_⟩
   have hd:lt (gd p (n -1)) (gd p n)=true:=S.tot _ _ (hp.bd (by omega)) (hp.bd (by omega)) (hp.inj (by omega) (by omega) (by omega)) hc
   show OkT N lt (if lt (gd p (n -1)) (gd p n)=true then _ else _) _
   rw[if_pos hd]
   exact⟨rfl,Nat.le_refl _,by show n<=n+(f+1);omega,hs,rfl⟩
theorem ziJ{p:Array Nat}(hp:PermN N p)(n:Nat):PermN N (kas_rev p 0 n):=(Array.perm_iff_toList_perm.mp (mirror_perm p 0 n _)).trans hp
theorem zoW{p:Array Nat}{n:Nat}(hp:PermN N p)(hn:n<=N)(h:Des lt p n):Sor lt (kas_rev p 0 n) n:=by
 have hs:=hp.size
 have e:∀k,k<n->gd (kas_rev p 0 n) k=gd p (n -1 -k):=λk hk=>by
  refine zhY ?_
  show(mirror p 0 n ((n -0)/2))[k]?=_
  rw[getElem?_mirror_all (by omega),if_pos ⟨Nat.zero_le _,hk⟩,Nat.zero_add]
 intro i j hij hj
 rw[e i (by omega),e j hj]
 exact h (n -1 -j) (n -1 -i) (by omega) (by omega)
def zne(N:Nat)(lt:Nat->Nat->Bool)(r:Nat×Array Nat):Prop:=PermN N r.2/\Sor lt r.2 r.1/\1<=r.1/\r.1<=N
theorem znh{p:Array Nat}{n:Nat}(S:Strict N lt)(hp:PermN N p)(h1:1<=n)(hn:n<=N)(h:Des lt p n):OkT N lt (kas_tail3 n N p) (zne N lt):=by
 refine OkT.bind (OkT.mono (λm hm=>?_) (zjW S (ziJ hp n) (N -n) n h1 (by omega) (zoW hp hn h)))
 exact⟨ziJ hp n,hm.2.2.1,by have:=hm.1;omega,by have:=hm.2.1;omega⟩
theorem zoo{p:Array Nat}(S:Strict N lt)(hp:PermN N p)(h1:1<=N):OkT N lt (kas_count N p) (zne N lt):=by
 refine OkT.bind (OkT.mono (λn hn=>?_) (zjW S hp (N -1) 1 (Nat.le_refl _) (by omega) (λi j hij hj=>by omega)))
 obtain⟨n1,n2,hs,hl⟩:=hn
 by_cases hN:(n==N)=true
 ·rw[if_pos hN]
  exact⟨hp,hs,n1,by omega⟩
 ·have hne:n≠N:=by simpa using hN
  rw[if_neg hN]
  by_cases h2:n>1
  ·rw[if_pos h2]
   refine⟨hp.bd (by omega),hp.bd (by omega),?_⟩
   show OkT N lt (if lt (gd p 0) (gd p (n -1))=true then _ else _) _
   rw[if_pos (hs 0 (n -1) (by omega) (by omega))]
   exact⟨hp,hs,n1,by omega⟩
  ·rw[if_neg h2]
   have e1:n=1:=by omega
   subst e1
   have hd:Des lt p 2:=λi j hij hj=>by
    have ei:i=0:=by omega
    have ej:j=1:=by omega
    subst ei ej
    exact hl (by omega)
   refine OkT.bind (OkT.mono (λr hr=>?_) (zlo S hp (N -(1+1)) (1+1) (by omega) (by omega) hd))
   obtain⟨e1,r1,r2,r3,r4⟩:=hr
   rw[if_neg (by omega),e1]
   exact znh S hp (by omega) (by omega) r3
theorem zgp{p:Array Nat}{k:Nat}(S:Strict N lt)(hp:PermN N p)(hs:Sor lt p k)(hk:k<N):∀f l r,l<=r->r<=k->r -l<=f->(∀i,i<l->lt (gd p i) (gd p k)=true)->(∀i,r<=i->i<k->lt (gd p k) (gd p i)=true)->
 OkT N lt (kas_place p k f l r) (λm=>m<=k/\(∀i,i<m->lt (gd p i) (gd p k)=true)/\∀i,m<=i->i<k->lt (gd p k) (gd p i)=true)
 |0,l,r,h1,h2,h3,ha,hb=>⟨by omega,ha,λi hi=>hb i (by omega)⟩
 |f+1,l,r,h1,h2,h3,ha,hb=>by
  by_cases hlr:l≥r
  ·show OkT N lt (if l≥r then _ else _) _
   rw[if_pos hlr]
   exact⟨by omega,ha,λi hi=>hb i (by omega)⟩
  ·show OkT N lt (if l≥r then _ else _) _
   rw[if_neg hlr]
   refine⟨hp.bd hk,hp.bd (by omega),?_⟩
   cases hc:lt (gd p k) (gd p ((l+r)/2))with
   |true=>
    show OkT N lt (if true=true then _ else _) _
    rw[if_pos rfl]
    refine zgp S hp hs hk f l ((l+r)/2) (by omega) (by omega) (by omega) ha λi hi hik=>?_
    by_cases e:i=(l+r)/2
    ·subst e;exact hc
    ·exact S.tr _ _ _ (hp.bd hk) (hp.bd (by omega)) (hp.bd (by omega)) hc (hs ((l+r)/2) i (by omega) hik)
   |false=>
    show OkT N lt (if false=true then _ else _) _
    rw[if_neg (by decide)]
    have hm:lt (gd p ((l+r)/2)) (gd p k)=true:=S.tot _ _ (hp.bd hk) (hp.bd (by omega)) (hp.inj hk (by omega) (by omega)) hc
    refine zgp S hp hs hk f ((l+r)/2+1) r (by omega) h2 (by omega) (λi hi=>?_) hb
    by_cases e:i=(l+r)/2
    ·subst e;exact hm
    ·exact S.tr _ _ _ (hp.bd (by omega)) (hp.bd (by omega)) (hp.bd hk) (hs i ((l+r)/2) (by omega) (by omega)) hm
theorem zj8{p:Array Nat}{k l:Nat}(hp:PermN N p)(hk:k<N)(hl:l<=k)(hs:Sor lt p k)(ha:∀i,i<l->lt (gd p i) (gd p k)=true)(hb:∀i,l<=i->i<k->lt (gd p k) (gd p i)=true):Sor lt (bubble p k (k -l)) (k+1):=by
 have hz:=hp.size
 have g:∀i,(bubble p k (k -l))[i]?=if i=l then p[k]? else if l<i/\i<=k then p[i -1]? else p[i]?:=λi=>by
  rw[getElem?_bubble (by omega) (k -l) (by omega),show k -(k -l)=l by omega]
 have g1:gd (bubble p k (k -l)) l=gd p k:=zhY (by rw[g,if_pos rfl])
 have g2:∀i,l<i->i<=k->gd (bubble p k (k -l)) i=gd p (i -1):=λi h1 h2=>zhY (by rw[g,if_neg (by omega),if_pos ⟨h1,h2⟩])
 have g3:∀i,i<l->gd (bubble p k (k -l)) i=gd p i:=λi h1=>zhY (by rw[g,if_neg (by omega),if_neg (by omega)])
 intro i j hij hj
 rcases Nat.lt_trichotomy i l with hi|hi|hi
 ·rw[g3 i hi]
  rcases Nat.lt_trichotomy j l with h|h|h
  ·rw[g3 j h];exact hs i j hij (by omega)
  ·subst h;rw[g1];exact ha i hi
  ·rw[g2 j h (by omega)];exact hs i (j -1) (by omega) (by omega)
 ·subst hi
  rw[g1,g2 j hij (by omega)]
  exact hb (j -1) (by omega) (by omega)
 ·rw[g2 i hi (by omega),g2 j (by omega) (by omega)]
  exact hs (i -1) (j -1) (by omega) (by omega)
theorem zos(S:Strict N lt):∀f (p:Array Nat) k,PermN N p->Sor lt p k->k+f=N->OkT N lt (kas_bin f p k) (λp'=>PermN N p'/\Sor lt p' N)
 |0,p,k,hp,hs,hk=>⟨hp,by have:k=N:=by omega
                         rw[←this];exact hs⟩
 |f+1,p,k,hp,hs,hk=>by
  refine OkT.bind (OkT.mono (λl hl=>?_) (zgp S hp hs (by omega) k 0 k (Nat.zero_le _) (Nat.le_refl _) (by omega) (λi hi=>by omega) (λi hi hik=>by omega)))
  exact zos S f _ (k+1) ((Array.perm_iff_toList_perm.mp (bubble_perm p k _)).trans hp) (zj8 hp (by omega) hl.1 hs hl.2.1 hl.2.2) (by omega)
theorem sort_ok(S:Strict N lt)(h1:1<=N):OkT N lt (kas_sort N) (λp=>PermN N p/\Sor lt p N):=by
 have h0:PermN N (List.toArray (List.range N)):=by show(List.range N).Perm _;exact List.Perm.refl _
 refine OkT.bind (OkT.mono (λr hr=>?_) (zoo S h0 h1))
 obtain⟨c1,c2,c3,c4⟩:=hr
 by_cases h:r.1<N
 ·rw[if_pos h]
  have e:max r.1 1=r.1:=by omega
  rw[e]
  exact zos S _ _ _ c1 c2 (by omega)
 ·rw[if_neg h]
  have e:r.1=N:=by omega
  rw[e] at c2
  exact⟨c1,c2⟩
end
end RW
namespace L2
open PySem PySem.W PySem.Spec PyProof.Rows
def RawD(h:Heap)(d:Addr)(ks:List Value)(ep:Nat):Prop:=∃o es,h.get? d=some o/\o.ExactDict/\o.data= .dict es ep/\es.toList.map (·.key)=ks
theorem RawD.at{h h':Heap}{d:Addr}{ks:List Value}{ep:Nat}(x:RawD h d ks ep)(e:∀o,h.get? d=some o->h'.get? d=some o):RawD h' d ks ep:=let⟨o,es,ho,r⟩:=x;⟨o,es,e _ ho,r⟩
theorem RawD.ty{s:Shared}{d:Addr}{ks:List Value}{ep:Nat}(x:RawD s.heap d ks ep):s.TypeIs (.ref d) "dict":=let⟨o,_,ho,hc,_⟩:=x;⟨o,ho,hc.1⟩
theorem RawD.lt{h:Heap}{d:Addr}{ks:List Value}{ep:Nat}(x:RawD h d ks ep):d<h.objs.size:=let⟨_,_,ho,_⟩:=x;Heap.lt_size ho
section
variable{prog:Program}{w:World}{A:Around}{E:Value->Shared->Prop}{s:Shared}{it d:Addr}{i ep:Nat}{ks:List Value}
theorem zmY{R:Value->Shared->Prop}(nsys:(d==sysModules)=false)(x:RawD s.heap d ks ep)(q:R (.ref s.heap.objs.size) {s with heap:=s.heap.push {cls:= .type "dict_keyiterator",data:= .fields #[.ref d, .int 0 0, .int ks.length 0, .int ep 0]}}):
 wpAny (model prog w) A (pyIter (.ref d)) R E s:=by
 have ty:=x.ty
 obtain⟨o,es,ho,_,hdat,hks⟩:=x
 refine wpAny_pyIter_slot ty PySem.F.slot_dict_iter (wpAny_call_entry PySem.F.slot_dict_iter ty PySem.F.entry_dict_iter ?_ (PySem.F.args_dict_iter_1 _))
 unfold Builtin.«dict.__iter__»
 refine wpAny_bind (by unfold Builtin.Dict.dictSlotNone;refine wpAny_bind (wpAny_notOrdered_dict ty ?_);show wpAny _ _ (pure (Value.ref d)) _ _ s;exact wpAny_pure (by
  show wpAny _ _ (Builtin.Dict.showsAll d>>=_) _ _ s
  unfold Builtin.Dict.showsAll
  rw[if_neg (λz=>by rw[nsys] at z;cases z)]
  refine wpAny_bind (wpAny_pure (wpAny_bind (wpAny_dictEntries ho hdat (wpAny_bind (wpAny_dictEpoch ho hdat ?_)))))
  have sz:es.size=ks.length:=by rw[←hks];simp
  refine wpAny_bind (wpAny_newObj_type (wpAny_pure ⟨_,rfl,"dict_keyiterator",_,⟨_,Heap.get?_push_size _ rfl,rfl⟩,PySem.F.slot_dict_keyiterator_next.lookup,?_⟩))
  simpa[rawInt,sz] using q))
theorem znb{R:Option Value->Shared->Prop}{key:Value}(y:s.heap.IsKeyIter it d i ks.length ep)(x:RawD s.heap d ks ep)(hx:ks[i]?=some key)
 (q:∀h',h'.IsKeyIter it d (i+1) ks.length ep->Heap.SameBut it s.heap h'->R (some key) {s with heap:=h'}):wpAny (model prog w) A (pyNext (.ref it)) R E s:=by
 obtain⟨o,ho,hc,hd⟩:=id y
 obtain⟨od,es,hod,_,hdd,hks⟩:=x
 have sz:es.size=ks.length:=by rw[←hks];simp
 have li:i<ks.length:=by
  rcases Nat.lt_or_ge i ks.length with h|h
  ·exact h
  ·rw[List.getElem?_eq_none h] at hx;cases hx
 have li':i<es.size:=by omega
 have ek:es[i].key=key:=by
  have e1:ks[i]?=some es[i].key:=by rw[←hks];simp[li']
  rw[e1] at hx;exact Option.some.inj hx
 unfold pyNext
 refine wpAny_bind (wpAny_attempt (wpAny_callSpecial?_slot (name:=Str.ofString "__next__") y.typeIs PySem.F.slot_dict_keyiterator_next (wpAny_call_entry PySem.F.slot_dict_keyiterator_next y.typeIs PySem.F.entry_dict_keyiterator_next ?_ (PySem.F.args_dict_keyiterator_next_1 _))))
 refine wpAny_bind (wpAny_pure (wpAny_bind (wpAny_bind ?_)))
 first|refine wpAny_bind (wpAny_typeNameOfWhole_keyiter y.typeIs (wpAny_pure ?_))|refine wpAny_bind (wpAny_typeNameOf_keyiter y.typeIs (wpAny_pure ?_))
 refine wpAny_bind (wpAny_fieldsOf ho hd ?_)
 simp only[(by decide:Builtin.Dict_items.ownsTuple "dict_keyiterator"=false),Bool.false_eq_true,if_false]
 show wpAny _ _ (if(Value.ref d==Value.none)=true then _ else _) _ _ s
 rw[if_neg (λz=>nomatch z)]
 refine wpAny_bind (wpAny_pure (wpAny_bind (wpAny_dictEntries hod hdd ?_)))
 rw[if_neg (λz=>by rw[sz] at z;simp at z)]
 refine wpAny_bind (wpAny_pure (wpAny_bind (wpAny_dictEpoch hod hdd ?_)))
 rw[if_neg (λz=>by simp at z)]
 refine wpAny_pure ?_
 simp only[(by omega:¬((i:Int)<0)),if_false,Int.toNat_natCast,Array.getElem?_eq_getElem li']
 refine wpAny_bind ?_
 first|refine wpAny_bind (wpAny_typeNameOfWhole_keyiter y.typeIs (wpAny_pure ?_))|refine wpAny_bind (wpAny_typeNameOf_keyiter y.typeIs (wpAny_pure ?_))
 refine wpAny_bind (wpAny_isOneOf_keyiter y.typeIs ?_)
 show wpAny _ _ (setField (.ref it) 1 (rawInt ((i:Int)+1))>>=_) _ _ s
 refine wpAny_bind (wpAny_setField ho hd (by simp) ?_)
 have y':(s.heap.update it (Obj.mapFields (·.setIfInBounds 1 (rawInt ((i:Int)+1))))).IsKeyIter it d (i+1) ks.length ep:=⟨_,Heap.get?_update_self _ ho (Obj.isFreed_of_fields (Obj.data_mapFields hd _)),(Obj.cls_mapFields ..).trans hc,by rw[Obj.data_mapFields hd];simp[rawInt]⟩
 refine wpAny_bind (wpAny_holding (wpAny_bind (wpAny_isOneOf_keyiter (s:={s with heap:=s.heap.update it (Obj.mapFields (·.setIfInBounds 1 (rawInt ((i:Int)+1))))}) y'.typeIs ?_)))
 show wpAny _ _ (pure es[i].key) _ _ _
 rw[ek]
 exact wpAny_pure (wpAny_pure ⟨_,rfl,wpAny_pure (q _ y' (Heap.SameBut.update ..))⟩)
theorem zpq{R:Option Value->Shared->Prop}(hh:A.handled=none)(y:s.heap.IsKeyIter it d ks.length ks.length ep)(x:RawD s.heap d ks ep)(q:∀h',Heap.ExtBut it s.heap h'->R none {s with heap:=h'}):wpAny (model prog w) A (pyNext (.ref it)) R E s:=by
 obtain⟨o,ho,hc,hd⟩:=id y
 obtain⟨od,es,hod,_,hdd,hks⟩:=x
 have sz:es.size=ks.length:=by rw[←hks];simp
 unfold pyNext
 refine wpAny_bind (wpAny_attempt (wpAny_callSpecial?_slot (name:=Str.ofString "__next__") y.typeIs PySem.F.slot_dict_keyiterator_next (wpAny_call_entry PySem.F.slot_dict_keyiterator_next y.typeIs PySem.F.entry_dict_keyiterator_next ?_ (PySem.F.args_dict_keyiterator_next_1 _))))
 refine wpAny_bind (wpAny_pure (wpAny_bind (wpAny_bind ?_)))
 first|refine wpAny_bind (wpAny_typeNameOfWhole_keyiter y.typeIs (wpAny_pure ?_))|refine wpAny_bind (wpAny_typeNameOf_keyiter y.typeIs (wpAny_pure ?_))
 refine wpAny_bind (wpAny_fieldsOf ho hd ?_)
 simp only[(by decide:Builtin.Dict_items.ownsTuple "dict_keyiterator"=false),Bool.false_eq_true,if_false]
 show wpAny _ _ (if(Value.ref d==Value.none)=true then _ else _) _ _ s
 rw[if_neg (λz=>nomatch z)]
 refine wpAny_bind (wpAny_pure (wpAny_bind (wpAny_dictEntries hod hdd ?_)))
 rw[if_neg (λz=>by rw[sz] at z;simp at z)]
 refine wpAny_bind (wpAny_pure (wpAny_bind (wpAny_dictEpoch hod hdd ?_)))
 rw[if_neg (λz=>by simp at z)]
 refine wpAny_pure ?_
 simp only[(by omega:¬((ks.length:Int)<0)),if_false,Int.toNat_natCast,Array.getElem?_eq_none (show es.size<=ks.length by omega)]
 refine wpAny_bind ?_
 first|refine wpAny_bind (wpAny_typeNameOfWhole_keyiter y.typeIs (wpAny_pure ?_))|refine wpAny_bind (wpAny_typeNameOf_keyiter y.typeIs (wpAny_pure ?_))
 show wpAny _ _ (setField (.ref it) 0 .none>>=_) _ _ s
 refine wpAny_bind (wpAny_setField ho hd (by simp) ?_)
 show wpAny _ _ (newExc (.type "StopIteration") []>>=_) _ _ _
 refine wpAny_bind (by
  simp only[newExc,newTuple]
  refine wpAny_bind (wpAny_newObj_type (wpAny_bind (m:=firstArgMember _ _) (wpAny_of_eq (a:=Value.none) (by first|rfl|(simp only[firstArgMember];rfl)) (wpAny_newObj_type ?_ (by size_fits)))) (by size_fits))
  simp only[raiseNew]
  refine wpAny_bind (wpAny_handled ?_)
  rw[show A.in1.handled=none from hh]
  refine wpAny_bind (wpAny_pure (wpAny_throw ?_));refine wpAny_bind (wpAny_isInstance (T:="StopIteration") (b:=true) ⟨_,Heap.get?_push_size _ rfl,rfl⟩ isSubtype_stop ?_)
  exact wpAny_pure (q _ (((Heap.SameBut.update ..).extBut.push _).push _)))
theorem zme(hh:A.handled=none)(hne:d≠it):Walks prog w A it [it,d] [it] ks.length (λi v=>ks[i]?=some v) (λi h=>h.IsKeyIter it d i ks.length ep/\RawD h d ks ep) where
 sub:=λb hb=>by simp at hb;simp[hb]
 frame:=λ_ _ _ st hk=>⟨st.1.at λo e=>hk it (by simp) o e,st.2.at λo e=>hk d (by simp) o e⟩
 item:=λi s Q E hi st hQ=>znb st.1 st.2 (show ks[i]?=some ks[i] by simp[hi]) λh' y' hs=>hQ _ h' s.toks (by simp[hi]) ⟨y',st.2.at λo e=>hs.extBut d o hne e⟩ λb o hb e=>hs.extBut b o (λh=>hb (by simp[h])) e
 done:=λs Q E st hQ=>zpq hh st.1 st.2 λh' he=>hQ h' s.toks λb o hb e=>he b o (λh=>hb (by simp[h])) e
 self:=λ_ _ _ _ st hQ=>wpAny_pyIter_keyiter st.1 hQ
theorem zpH(nsys:(d==sysModules)=false):KdlSrc prog w "dict" d d ks.length (λi v=>ks[i]?=some v) (λh=>RawD h d ks ep) where
 type:=λ_ hm=>hm.ty
 there:=λ_ hm=>⟨hm.lt,hm.lt⟩
 keep:=λ_ _ hm hk=>hm.at λo e=>hk d (.inl rfl) o e
 notList:=by decide
 notTuple:=by decide
 hint:=λ_ _ _ _ hm hq=>kdl_hint_dict hm.ty hq
 iter:=λ_ _ hh hm=>⟨_,_,(λ_ _ hq=>zmY nsys hm hq),zme hh (Nat.ne_of_lt hm.lt),⟨⟨_,Heap.get?_push_size _ rfl,rfl,rfl⟩,hm.at λo e=>Heap.get?_push_of_some _ e⟩⟩
end
section
variable{prog:Program}{w:World}{A:Around}{E:Value->Shared->Prop}{s:Shared}
def Kp(a:Addr)(s s1:Shared):Prop:=s1={s with heap:=s1.heap}/\∀b o,b≠a->s.heap.get? b=some o->s1.heap.get? b=some o
theorem zmI{a:Addr}{vs:List Value}{n:Nat}{R:PySem.Fin->Shared->Prop}{G:Array Nat->Prop}{κ:SortKind}(ho:s.heap.get? a=some (seqObj "list" vs.toArray n))(h64:vs.length<64)
 (hk:2<=vs.length->∀s1:Shared,Kp a s s1->(∀C:SortKind->Shared->Prop,C κ s1->wpAny (model prog w) A (keyKind' vs.toArray) C E s1)/\(kas_sort vs.length).kasWp (kas_ask prog w A κ vs) (λp s'=>s'=s1/\G p) s1)
 (q:∀(out:List Value) (h':Heap) (c:Nat),(vs.length<2/\out=vs\/∃p:Array Nat,p.size=vs.length/\G p/\out=p.toList.map λi=>vs.getD i Value.none)->(∀b o,b≠a->s.heap.get? b=some o->h'.get? b=some o)->
   h'.get? a=some (seqObj "list" out.toArray c)->R (.done (.ret .none)) {s with heap:=h'}):wpAny (model prog w) A (Builtin.«list.sort» ⟨[.ref a],[]⟩) R E s:=by
 have la:a<s.heap.objs.size:=Heap.lt_size ho
 have lz:vs.toArray.size=vs.length:=List.size_toArray ..
 have u1:=Heap.SameBut.update s.heap a (Obj.mapSeq λ_=>(#[]:Array Value))
 obtain⟨e1,g1⟩:∃e1,(s.heap.update a (Obj.mapSeq λ_=>(#[]:Array Value))).get? a=some (seqObj "list" #[] e1):=⟨_,get?_update_seq ho λ_=> #[]⟩
 rw[list_sort_plain]
 refine wpAny_bind (listItems_at ho rfl (wpAny_bind (listUpdate_at ho rfl (wpAny_bind (seqEpoch_at g1 rfl (wpAny_bind (wpAny_newTuple (wpAny_bind (wpAny_newList (wpAny_holding ?_) (Nat.zero_le _))) (by show vs.length<=_;rw[sizeLine_eq];omega))))) (by rw[lz,sizeLine_eq];omega) (Nat.zero_le _))))
 generalize hs1:({s with heap:=((s.heap.update a (Obj.mapSeq λ_=>(#[]:Array Value))).push (seqObj "tuple" vs.toArray 0)).push (seqObj "list" #[] 0)}:Shared)=s1
 have kp:∀b o,(s.heap.update a (Obj.mapSeq λ_=>(#[]:Array Value))).get? b=some o->s1.heap.get? b=some o:=λb o e=>by rw[←hs1];exact Heap.get?_push_of_some _ (Heap.get?_push_of_some _ e)
 have k1:Kp a s s1:=⟨by rw[←hs1],λb o nb e=>kp b o ((u1.2 b nb).trans e)⟩
 have g2:s1.heap.get? a=some (seqObj "list" #[] e1):=kp a _ g1
 dsimp only
 have fin:∀(st:SortSt) (out:List Value),(arrOf st).map (·.2)=out.toArray->failedOf st=none->out.length<64->(vs.length<2/\out=vs\/∃p:Array Nat,p.size=vs.length/\G p/\out=p.toList.map λi=>vs.getD i Value.none)->
  wpAny (model prog w) A (do
   let touched:=(←seqEpoch a) !=e1
   Builtin.List.listUpdate (.ref a) λ_=>(arrOf st).map (·.2)
   if let some e:=failedOf st then rule "list.sort.comparison-raised";throw e
   if touched then rule "list.sort.modified";raiseError "ValueError" "list modified during sort"
   ret .none) R E s1:=by
  intro st out ho hf hl hc
  rw[ho]
  have u2:=Heap.SameBut.update s1.heap a (Obj.mapSeq λ_=>out.toArray)
  obtain⟨c2,g3⟩:∃c2,(s1.heap.update a (Obj.mapSeq λ_=>out.toArray)).get? a=some (seqObj "list" out.toArray c2):=⟨_,get?_update_seq g2 λ_=>out.toArray⟩
  refine wpAny_bind (seqEpoch_at g2 rfl (wpAny_bind (listUpdate_at g2 rfl ?_ (Nat.zero_le _) (by show out.toArray.size<=_;rw[List.size_toArray,sizeLine_eq];omega))))
  rw[hf]
  simp only[bne_self_eq_false,Bool.false_eq_true,if_false]
  have:=q out _ c2 hc (λb o nb e=>(u2.2 b nb).trans (k1.2 b o nb e)) g3
  rw[k1.1]
  exact wpAny_pure this
 by_cases h2:vs.toArray.size<2
 ·rw[if_pos h2,if_pos h2]
  refine wpAny_bind (wpAny_pure ?_)
  rw[StateT.run_pure]
  refine wpAny_bind (wpAny_pure ?_)
  refine fin _ vs ?_ rfl h64 (.inl ⟨by omega,rfl⟩)
  apply Array.toList_inj.mp
  show((vs.toArray.zip vs.toArray).map (·.2)).toList=_
  rw[Array.toList_map,Array.toList_zip]
  exact List.map_snd_zip (Nat.le_refl _)
 ·rw[if_neg h2,if_neg h2]
  obtain⟨hkk,hw⟩:=hk (by omega) s1 k1
  refine wpAny_bind (hkk _ ?_)
  refine wpAny_bind (wpAny_mono (kat_run (E:=E) (Q:=λst' s'=>s'=s1/\∃p:Array Nat,p.size=vs.length/\arrOf st'=p.map (kas_item (vs.toArray.zip vs.toArray))/\failedOf st'=none/\G p) rfl (by omega) h64 (λp st' s' x1 x2 x3 x4=>⟨x4.1,p,x1,x2,x3,x4.2⟩) hw) ?_ λ_ _ e=>e)
  rintro⟨⟨⟩,st'⟩ s' ⟨rfl,p,hp,har,hf,hG⟩
  refine fin st' (p.toList.map λi=>vs.getD i Value.none) (kat_snds rfl har) hf (by rw[List.length_map,Array.length_toList,hp];exact h64) (.inr ⟨p,hp,hG,rfl⟩)
theorem zkq{r d:Addr}{T:String}{n:Nat}{Pn:Nat->Value->Prop}{OK:Heap->Prop}{R:List Value->Shared->Prop}(K:KdlSrc prog w T r d n Pn OK)(hh:A.handled=none)(hok:OK s.heap)(hn:n<=sizeLine)
 (q:∀(h':Heap) (tk:Nat) (acc:Array Value),(∀b o,s.heap.get? b=some o->h'.get? b=some o)->s.heap.objs.size<h'.objs.size->ItemsOf Pn acc n->R acc.toList {s with heap:=h',toks:=tk}):wpAny (model prog w) A (collect (.ref r)) R E s:=by
 have lt:=K.there _ hok
 have g0:(s.heap.push {cls:= .type "list",data:= .seq ([]:List Value).toArray}).get? s.heap.objs.size=some {cls:= .type "list",data:= .seq #[]}:=Heap.get?_push_size _ rfl
 have key:=kdl_extend (A:=A) (s:={s with heap:=s.heap.push {cls:= .type "list",data:= .seq ([]:List Value).toArray}}) (R:=λ(f:Result) (s':Shared)=>∃(h':Heap) (tk:Nat) (acc':Array Value) (c':Nat),f= .ok (.ret (.ref s.heap.objs.size))/\s'={s with heap:=h',toks:=tk}/\(∀b o,s.heap.get? b=some o->h'.get? b=some o)/\h'.get? s.heap.objs.size=some {cls:= .type "list",dict:=none,data:= .seq acc' c',slots:= #[]}/\ItemsOf Pn acc' n)
  K hh (K.keep _ _ hok λb _ o e=>Heap.get?_push_of_some _ e) s.heap.objs.size (Nat.ne_of_gt lt.1) (Nat.ne_of_gt lt.2) (.ref s.heap.objs.size) 0 g0 (λh' tk acc' c' kp gS ia=>⟨h',tk,acc',c',rfl,rfl,λb o e=>kp b o (Nat.ne_of_lt (Heap.lt_size e)) (Heap.get?_push_of_some _ e),gS,ia⟩) hn
 unfold collect
 refine wpAny_bind (wpAny_runValue (codeAny_builtin entry_proto_collect' (by
  rw[Around.under_plainId PySem.F.plain_proto_collect _]
  show wpAny _ A.in1 (newList []>>=λl=>again (.builtin "list.__iadd__" ⟨[l, .ref r],[]⟩)) _ _ s
  refine wpAny_bind (wpAny_newObj_type (wpAny_pure ⟨plainId_quiet PySem.F.plain_list_iadd _,codeAny_builtin entry_list_iadd' (by
   rw[Around.under_plainId PySem.F.plain_list_iadd _]
   show wpAny _ A.in1 (Builtin.List.listExtendWith (.ref s.heap.objs.size) (.ref r) (.ref s.heap.objs.size)) _ _ _
   refine wpAny_mono key (λfin s' x=>?_) λe s' x=>?_
   ·cases fin with
    |done f=>
     obtain⟨h',tk,acc',c',e,rfl,kp,gS,ia⟩:=x;cases e
     show wpAny _ A (load s.heap.objs.size>>=_) _ _ _
     exact wpAny_bind (wpAny_load gS (wpAny_pure (q h' tk acc' kp (Heap.lt_size gS) ia)))
    |again c₁=>
     refine⟨x.1,codeAny_mono x.2 λf s₂ y=>?_⟩
     obtain⟨h',tk,acc',c',rfl,rfl,kp,gS,ia⟩:=y
     show wpAny _ A (load s.heap.objs.size>>=_) _ _ _
     exact wpAny_bind (wpAny_load gS (wpAny_pure (q h' tk acc' kp (Heap.lt_size gS) ia)))
   ·obtain ⟨_,_,_,_,e',_⟩:=x
    cases e')⟩)))))
theorem zj1{r d:Addr}{T:String}{OK:Heap->Prop}{ks:List Value}{R:Value->Shared->Prop}{G:Array Nat->Prop}{κ:SortKind}(K:KdlSrc prog w T r d ks.length (λi v=>ks[i]?=some v) OK)(hh:A.handled=none)(hok:OK s.heap)(h64:ks.length<64)
 (hk:2<=ks.length->∀s1:Shared,(∀b o,s.heap.get? b=some o->s1.heap.get? b=some o)->(∀C:SortKind->Shared->Prop,C κ s1->wpAny (model prog w) A.in1.in1 (keyKind' ks.toArray) C (λ_ _=>False) s1)/\(kas_sort ks.length).kasWp (kas_ask prog w A.in1.in1 κ ks) (λp s'=>s'=s1/\G p) s1)
 (q:∀(D:Addr) (out:List Value) (h':Heap) (tk c:Nat),(ks.length<2/\out=ks\/∃p:Array Nat,p.size=ks.length/\G p/\out=p.toList.map λi=>ks.getD i Value.none)->(∀b o,s.heap.get? b=some o->h'.get? b=some o)->
   s.heap.objs.size<=D->h'.get? D=some (seqObj "list" out.toArray c)->R (.ref D) {s with heap:=h',toks:=tk}):wpAny (model prog w) A (call (.builtin "sorted") [.ref r]) R E s:=by
 refine Calls.call_function_entry kind_sorted plain_sorted entry_sorted (args_sorted1 _) ?_
 unfold Builtin.«sorted»
 refine wpAny_bind (m:=checkCount "sorted" 1 1 _) (wpAny_pure (wpAny_bind (zkq (A:=A.in1) K hh hok (by rw[sizeLine_eq];omega) λh1 tk acc kp gr0 hacc=>?_)))
 have ea:acc.toList=ks:=by
  apply List.ext_getElem?
  intro i
  rcases Nat.lt_or_ge i ks.length with h|h
  ·have hi:i<acc.size:=by rw[hacc.1];exact h
   rw[Array.getElem?_toList,Array.getElem?_eq_getElem hi]
   exact(hacc.2 i acc[i] (by rw[Array.getElem?_eq_getElem hi])).symm
  ·rw[List.getElem?_eq_none h,List.getElem?_eq_none (by rw[Array.length_toList,hacc.1];exact h)]
 rw[ea]
 refine wpAny_bind (wpAny_newList ?_ (by rw[sizeLine_eq];omega))
 have hD:(h1.push (seqObj "list" ks.toArray 0)).get? h1.objs.size=some (seqObj "list" ks.toArray 0):=Heap.get?_push_size _ rfl
 have k2:∀b o,s.heap.get? b=some o->(h1.push (seqObj "list" ks.toArray 0)).get? b=some o:=λb o e=>Heap.get?_push_of_some _ (kp b o e)
 have gr:s.heap.objs.size<=h1.objs.size:=Nat.le_of_lt gr0
 show wpAny _ _ _ _ _ {s with heap:=h1.push (seqObj "list" ks.toArray 0),toks:=tk}
 refine wpAny_bind (wpAny_holding (wpAny_call_entry slot_list_sort ⟨_,hD,rfl⟩ entry_list_sort (zmI (G:=G) (κ:=κ) (s:={s with heap:=h1.push (seqObj "list" ks.toArray 0),toks:=tk}) hD h64 (λh2 s1 k1=>?_) λout h' c hc hkp hg=>?_) (args_list_sort _)))
 ·obtain ⟨x1,x2⟩:=hk h2 s1 λb o e=>k1.2 b o (Nat.ne_of_lt (Nat.lt_of_lt_of_le (Heap.lt_size e) gr)) (k2 b o e)
  exact⟨λC hC=>wpAny_mono (x1 C hC) (λ_ _ z=>z) λ_ _ z=>z.elim,x2⟩
 ·exact ⟨_,rfl,wpAny_pure ⟨_,rfl,q h1.objs.size out h' tk c hc (λb o e=>hkp b o (Nat.ne_of_lt (Nat.lt_of_lt_of_le (Heap.lt_size e) gr)) (k2 b o e)) gr hg⟩⟩
end
noncomputable abbrev ltS(x y:Str):Bool:=decide (x.cps.toList<y.cps.toList)
noncomputable def ltP(p q:Str×Str):Bool:=if p.1=q.1 then(if p.2=q.2 then false else ltS p.2 q.2)else ltS p.1 q.1
theorem zkQ:∀(a b:List Nat),a≠b->¬a<b->b<a
 |[],[],h,_=>absurd rfl h
 |[],b::bs,_,h=>absurd (List.nil_lt_cons b bs) h
 |a::as,[],_,_=>List.nil_lt_cons a as
 |a::as,b::bs,h,hn=>by
  rw[List.cons_lt_cons_iff] at hn⊢
  rcases Nat.lt_trichotomy a b with q|q|q
  ·exact absurd (.inl q) hn
  ·subst q
   exact .inr ⟨rfl,zkQ as bs (λz=>h (by rw[z])) (λz=>hn (.inr ⟨rfl,z⟩))⟩
  ·exact .inl q
theorem zkB:∀{a b c:List Nat},a<b->b<c->a<c
 |_,[],_,h,_=>absurd h (by simp)
 |_,_::_,[],_,h=>absurd h (by simp)
 |[],_::_,c::cs,_,_=>List.nil_lt_cons c cs
 |a::as,b::bs,c::cs,h1,h2=>by
  rw[List.cons_lt_cons_iff] at h1 h2⊢
  rcases h1 with h1|⟨rfl,h1⟩
  ·rcases h2 with h2|⟨rfl,h2⟩
   ·exact .inl (by omega)
   ·exact .inl h1
  ·rcases h2 with h2|⟨rfl,h2⟩
   ·exact .inl h2
   ·exact .inr ⟨rfl,zkB h1 h2⟩
theorem zhO:∀(a:List Nat),¬a<a
 |[],h=>absurd h (by simp)
 |a::as,h=>by
  rw[List.cons_lt_cons_iff] at h
  rcases h with h|⟨_,h⟩
  ·omega
  ·exact zhO as h
theorem zpE{x y:Str}(h:x.cps.toList=y.cps.toList):x=y:=by
 cases x;cases y
 simp only[Str.mk.injEq]
 exact Array.toList_inj.mp h
theorem zdv{x y:Str}(h:x≠y)(e:ltS x y=false):ltS y x=true:=decide_eq_true (zkQ _ _ (λz=>h (zpE z)) (of_decide_eq_false e))
theorem zgF{x y z:Str}(h1:ltS x y=true)(h2:ltS y z=true):ltS x z=true:=decide_eq_true (zkB (of_decide_eq_true h1) (of_decide_eq_true h2))
theorem zf2(x:Str):ltS x x=false:=decide_eq_false (zhO _)
theorem zhT{x y:Str}(h:ltS x y=true):ltS y x=false:=decide_eq_false λz=>zhO _ (zkB (of_decide_eq_true h) z)
theorem zod{x y:Str}(h:ltS x y=true):x≠y:=λz=>by rw[z,zf2] at h;cases h
theorem zpj{p q:Str×Str}(h:p≠q)(e:ltP p q=false):ltP q p=true:=by
 unfold ltP at e⊢
 by_cases h1:p.1=q.1
 ·rw[if_pos h1] at e
  rw[if_pos h1.symm]
  have h2:p.2≠q.2:=λz=>h (Prod.ext h1 z)
  rw[if_neg h2] at e
  rw[if_neg (Ne.symm h2)]
  exact zdv h2 e
 ·rw[if_neg h1] at e
  rw[if_neg (Ne.symm h1)]
  exact zdv h1 e
theorem znN{p q r:Str×Str}(h1:ltP p q=true)(h2:ltP q r=true):ltP p r=true:=by
 unfold ltP at h1 h2⊢
 by_cases e1:p.1=q.1
 ·rw[if_pos e1] at h1
  by_cases e2:q.1=r.1
  ·rw[if_pos e2] at h2
   rw[if_pos (e1.trans e2)]
   by_cases f1:p.2=q.2
   ·rw[if_pos f1] at h1;cases h1
   ·by_cases f2:q.2=r.2
    ·rw[if_pos f2] at h2;cases h2
    ·rw[if_neg f1] at h1
     rw[if_neg f2] at h2
     have:=zgF h1 h2
     rw[if_neg (zod this)];exact this
  ·rw[if_neg e2] at h2
   rw[if_neg (by rw[e1];exact e2),e1];exact h2
 ·rw[if_neg e1] at h1
  by_cases e2:q.1=r.1
  ·rw[if_neg (by rw[←e2];exact e1),←e2];exact h1
  ·rw[if_neg e2] at h2
   have:=zgF h1 h2
   rw[if_neg (zod this)];exact this
theorem ziw(p:Str×Str):ltP p p=false:=by unfold ltP;rw[if_pos rfl,if_pos rfl]
theorem zpM{p q:Str×Str}(h:ltP p q=true):ltP q p=false:=by
 cases e:ltP q p with
 |false=>rfl
 |true=>have:=znN h e;rw[ziw] at this;cases this
theorem zid:∀(l:List Str),sortedS l=true->l.Nodup->l.Pairwise (λa b=>ltS a b=true)
 |[],_,_=> .nil
 |[x],_,_=>by simp
 |x::y::r,h,hn=>by
  have h':(!ltCps y.cps.toList x.cps.toList&&risingS y r)=true:=h
  rw[Bool.and_eq_true] at h'
  have hr:sortedS (y::r)=true:=h'.2
  have ih:=zid (y::r) hr (List.nodup_cons.mp hn).2
  have hxy:ltS x y=true:=by
   have h1:ltS y x=false:=by
    have:=h'.1
    rw[ltCps_eq] at this
    simpa using this
   exact zdv (λz=>(List.nodup_cons.mp hn).1 (by rw[z];exact List.mem_cons_self)) h1
  refine List.pairwise_cons.mpr ⟨λz hz=>?_,ih⟩
  rcases List.mem_cons.mp hz with rfl|hz
  ·exact hxy
  ·exact zgF hxy ((List.pairwise_cons.mp ih).1 z hz)
section
variable{X:Cx}
theorem zhU:CallR X (.builtin "sorted") (λxs H Q=>∃(p:Addr) (ss:List Str),xs=[.ref p]/\SqL X.K H p (ss.map V.str)/\ss.length<64/\ss.Nodup/\∀(ss':List Str) l,ss'.Perm ss->ss'.Pairwise (λa b=>ltS a b=true)->H l=none->Q (.ref l) (upd H l (.lst (ss'.map V.str)))):=by
 intro pins s σ H xs us Q I r h
 obtain⟨p,ss,rfl,hq,h64,hnd,q⟩:=h
 obtain⟨u,rfl,ru⟩:=zdl r
 cases ru
 obtain⟨its,rv,pl,hz⟩:=I.list hq
 have hS:=zb9 rv
 have hl:=rv.length
 rw[List.length_map] at hl
 refine sorted_strs pl.isList hS (by omega) λout ss' a1 a2 a3=>?_
 have nl:H (s.heap.objs.size+1)=none:=I.hok.fresh (Nat.le_succ _)
 obtain⟨e,he⟩:=sortedAll_at s.heap its out
 have hn':ss'.Nodup:=a2.nodup_iff.mpr hnd
 refine⟨.ref _,_,I.laid (a:=s.heap.objs.size+1) (o:= .lst (ss'.map V.str)) (t':=s.toks) (λb o hb=>sortedAll_old hb) (Nat.le_succ _) ⟨?_,out.toList,e,?_,?_⟩,rfl,q ss' _ a2 (zid ss' a3 hn') nl⟩
 ·rw[List.length_map,a2.length_eq];exact Nat.le_of_lt (zm (by omega))
 ·have mk:∀{vs:List Value} {zs:List Str},StrsAre vs zs->Vals (zs.map V.str) vs:=by
   intro vs zs h
   induction h with
   |nil=>exact .nil
   |cons x t _ ih=>exact .cons ⟨t,rfl⟩ ih
  exact mk a1
 ·rw[Array.toArray_toList];exact he
def zoA(H:Hp)(vs:List V)(ps:List (Str×Str)):Prop:=vs.length=ps.length/\∀(i:Nat) (v:V) (p:Str×Str),vs[i]?=some v->ps[i]?=some p->∃b,v= .ref b/\H b=some (.tup [.str p.1, .str p.2])
noncomputable def zg0(p:Str×Str):List Key:=[.inr p.1, .inr p.2]
def TupAt(h:Heap)(u:Value)(p:Str×Str):Prop:=∃b o n t1 t2,u= .ref b/\h.get? b=some o/\o.cls= .type "tuple"/\o.data= .seq #[.str p.1 t1, .str p.2 t2] n
theorem TupAt.keeps{h h':Heap}{u:Value}{p:Str×Str}(x:TupAt h u p)(k:∀b o,h.get? b=some o->h'.get? b=some o):TupAt h' u p:=let⟨b,o,n,t1,t2,e,g,r⟩:=x;⟨b,o,n,t1,t2,e,k _ _ g,r⟩
theorem zn9{prog:Program}{w:World}{A:Around}{E:Value->Shared->Prop}{s:Shared}{u v:Value}{p q:Str×Str}{C:Bool->Shared->Prop}(x:TupAt s.heap u p)(y:TupAt s.heap v q)(h:C (ltP p q) s):wpAny (model prog w) A (keyLt' (tuples' true) u v) C E s:=by
 obtain⟨b,o,n,t1,t2,rfl,g,_,d⟩:=x
 obtain⟨b',o',n',t3,t4,rfl,g',_,d'⟩:=y
 refine kat_lt g d g' d' ?_
 show KatLex prog w A true (decide (2<2)) C [(.str p.1 t1, .str q.1 t3),(.str p.2 t2, .str q.2 t4)] 0 s
 unfold ltP at h
 refine kat_cons (wpAny_eqBool_str ?_)
 by_cases e1:p.1=q.1
 ·rw[if_pos e1] at h
  rw[decide_eq_true e1]
  refine kat_yes (kat_cons (wpAny_eqBool_str ?_))
  by_cases e2:p.2=q.2
  ·rw[if_pos e2] at h
   rw[decide_eq_true e2]
   exact kat_yes (kat_nil h)
  ·rw[if_neg e2] at h
   rw[decide_eq_false e2]
   refine kat_no ?_
   show wpAny (model prog w) A (oneLt' false (.str p.2 t2) (.str q.2 t4)) C _ s
   exact kat_one _ _ (lt_str h)
 ·rw[if_neg e1] at h
  rw[decide_eq_false e1]
  refine kat_no ?_
  show wpAny (model prog w) A (oneLt' true (.str p.1 t1) (.str q.1 t3)) C _ s
  exact oneLt_str h
theorem zlk{h:Heap}:∀{us:List Value} {ps:List (Str×Str)},us.length=ps.length->(∀(i:Nat) (u:Value) (p:Str×Str),us[i]?=some u->ps[i]?=some p->TupAt h u p)->∃fs,KatTups h us fs/\fs.length=us.length/\∀f∈fs,∃x t,f=Value.str x t
 |[],[],_,_=>⟨[],trivial,rfl,λ_ z=>nomatch z⟩
 |[],_::_,z,_=>by simp at z
 |_::_,[],z,_=>by simp at z
 |u::us,p::ps,hl,hx=>by
  obtain⟨fs,h1,h2,h3⟩:=zlk (us:=us) (ps:=ps) (by simpa using hl) λi u p e1 e2=>hx (i+1) u p (by simpa using e1) (by simpa using e2)
  obtain⟨b,o,n,t1,t2,rfl,g,c,d⟩:=hx 0 u p rfl rfl
  refine⟨.str p.1 t1::fs,KatTups.cons g c d rfl h1,by simp[h2],λf hf=>?_⟩
  rcases List.mem_cons.mp hf with rfl|hf
  ·exact ⟨_,_,rfl⟩
  ·exact h3 f hf
noncomputable def pAt(ps:List (Str×Str))(i:Nat):Str×Str:=ps.getD i (⟨#[]⟩,⟨#[]⟩)
theorem zit{ps:List (Str×Str)}(hn:ps.Nodup):RW.Strict ps.length (λi j=>ltP (pAt ps i) (pAt ps j)) where
 tot:=λi j hi hj hij e=>zpj (λz=>hij ((List.getElem_inj hn (h₀:=hi) (h₁:=hj)).mp (by unfold pAt at z;simpa[hi,hj] using z))) e
 tr:=λi j k _ _ _ h1 h2=>znN h1 h2
 asy:=λi j _ _ h=>zpM h
theorem zmm{ps:List (Str×Str)}{p:Array Nat}(hp:RW.PermN ps.length p)(hs:RW.Sor (λi j=>ltP (pAt ps i) (pAt ps j)) p ps.length):(p.toList.map (pAt ps)).Perm ps/\(p.toList.map (pAt ps)).Pairwise (λa b=>ltP a b=true):=by
 constructor
 ·have h1:=hp.map (pAt ps)
  have h2:(List.range ps.length).map (pAt ps)=ps:=by
   apply List.ext_getElem?
   intro i
   rw[List.getElem?_map]
   rcases Nat.lt_or_ge i ps.length with h|h
   ·rw[List.getElem?_range h]
    show some (pAt ps i)=_
    unfold pAt
    simp[h]
   ·rw[List.getElem?_eq_none (by simpa using h),List.getElem?_eq_none h];rfl
  rwa[h2] at h1
 ·have hz:=hp.size
  rw[List.pairwise_iff_getElem]
  intro i j hi hj hij
  have hi':i<p.size:=by simpa using hi
  have hj':j<p.size:=by simpa using hj
  have h:=hs i j hij (by omega)
  rw[RW.gd_get hi',RW.gd_get hj'] at h
  simpa using h
theorem zgs{α β:Type}{R:α->β->Prop}:∀{as:List α} {bs:List β},Paired R as bs->as.length=bs.length/\∀(i:Nat) (a:α) (b:β),as[i]?=some a->bs[i]?=some b->R a b
 |_,_, .nil=>⟨rfl,λi a b e=>by simp at e⟩
 |_,_, .cons h t=>by
  obtain⟨h1,h2⟩:=zgs t
  refine⟨by simp[h1],λi a b e1 e2=>?_⟩
  cases i with
  |zero=>simp at e1 e2;subst e1;subst e2;exact h
  |succ i=>exact h2 i a b (by simpa using e1) (by simpa using e2)
theorem zh3(hc:X.calm=true):CallR X (.builtin "sorted") (λxs H Q=>∃(d:Addr) (kvs:List (List Key×V)) (ps:List (Str×Str)),xs=[.ref d]/\H d=some (.dT kvs)/\kvs.map (·.1)=ps.map zg0/\ps.length<64/\
 ∀(ps':List (Str×Str)) (vs:List V) l,ps'.Perm ps->ps'.Pairwise (λa b=>ltP a b=true)->zoA H vs ps'->H l=none->Q (.ref l) (upd H l (.lst vs))):=by
 intro pins s σ H xs us Q I r h
 obtain⟨d,kvs,ps,rfl,hd,hk,h64,q⟩:=h
 obtain⟨u,rfl,ru⟩:=zdl r
 cases ru
 obtain⟨_,nsys,zs,hp,o,es,ep,g,ex,dat,hes,hnd⟩:=(show ObjOk X.prog X.w H s.heap d (.dT kvs)from I.hok d _ hd)
 obtain⟨hl,hget⟩:=zgs hp
 have hlk:kvs.length=ps.length:=by have:=congrArg List.length hk;simpa using this
 have hnp:ps.Nodup:=by
  have e:zs.map (·.1)=kvs.map (·.1):=by
   apply List.ext_getElem?
   intro i
   rw[List.getElem?_map,List.getElem?_map]
   rcases Nat.lt_or_ge i kvs.length with h|h
   ·have h':i<zs.length:=by omega
    have:=(hget i kvs[i] zs[i] (by simp[h]) (by simp[h'])).1
    simp[h,h',this]
   ·rw[List.getElem?_eq_none h,List.getElem?_eq_none (by omega)];rfl
  rw[e,hk] at hnd
  exact(List.pairwise_map.mp hnd).imp λh z=>h (by rw[z])
 have kz:(zs.map λq=>Value.ref q.2.1).length=ps.length:=by rw[List.length_map];omega
 have raw:RawD s.heap d (zs.map λq=>Value.ref q.2.1) ep:=⟨o,es,g,ex,dat,by rw[hes,List.map_map];rfl⟩
 have keyA:∀i (h:i<ps.length),∃b,(zs.map λq=>Value.ref q.2.1)[i]?=some (.ref b)/\H b=some (.tup [.str ps[i].1, .str ps[i].2]):=λi h=>by
  have h1:i<kvs.length:=by omega
  have h2:i<zs.length:=by omega
  have hr:=hget i kvs[i] zs[i] (by simp[h1]) (by simp[h2])
  refine⟨zs[i].2.1,by simp[h2],?_⟩
  have ek:kvs[i].1=zg0 ps[i]:=by
   have e1:(kvs.map (·.1))[i]?=some kvs[i].1:=by simp[h1]
   rw[hk] at e1
   have e2:(ps.map zg0)[i]?=some (zg0 ps[i]):=by simp[h]
   rw[e1] at e2
   exact Option.some.inj e2
  rw[hr.2.1,ek]
  rfl
 have keyT:∀(i:Nat) (u:Value) (p:Str×Str),(zs.map λq=>Value.ref q.2.1)[i]?=some u->ps[i]?=some p->TupAt s.heap u p:=λi u p e1 e2=>by
  have hi:i<ps.length:=by
   rcases Nat.lt_or_ge i ps.length with z|z
   ·exact z
   ·rw[List.getElem?_eq_none z] at e2;cases e2
  obtain⟨b,f1,f2⟩:=keyA i hi
  rw[f1] at e1
  cases e1
  have ep':ps[i]=p:=by simpa[hi] using e2
  rw[ep'] at f2
  obtain⟨_,its,rv,⟨o',g',c',n',d'⟩,_⟩:=(show ObjOk X.prog X.w H s.heap b (.tup [.str p.1, .str p.2])from I.hok b _ f2)
  cases rv with
  |cons r1 rv=>cases rv with
   |cons r2 rv=>cases rv with
    |nil=>
     obtain⟨t1,rfl⟩:=r1
     obtain⟨t2,rfl⟩:=r2
     exact⟨b,o',n',t1,t2,rfl,g',c',d'⟩
 generalize hks:(zs.map λq=>Value.ref q.2.1)=ks at *
 refine zj1 (A:=X.A) (G:=λp=>RW.PermN ps.length p/\RW.Sor (λi j=>ltP (pAt ps i) (pAt ps j)) p ps.length) (κ:=tuples' true) (zpH (ks:=ks) (ep:=ep) nsys) (I.ok.hd hc) raw (by omega) (λh2 s1 k1=>?_) (λD out h' tk c ho kp hD gD=>?_)
 ·have keyT1:∀(i:Nat) (u:Value) (p:Str×Str),ks[i]?=some u->ps[i]?=some p->TupAt s1.heap u p:=λi u p e1 e2=>(keyT i u p e1 e2).keeps k1
  obtain⟨fs,ft,fl,fa⟩:=zlk kz keyT1
  refine⟨λC hC=>kat_kind (T:= .type "str") ft (by omega) (λf hf=>?_) rfl hC,?_⟩
  ·obtain ⟨x,t,rfl⟩:=fa f hf
   exact Looks.of_pure rfl
  ·rw[kz]
   refine RW.OkT.wp (N:=ps.length) (lt:=λi j=>ltP (pAt ps i) (pAt ps j)) (I:=λs'=>s'=s1) (λi j C s' hi hj e hC=>?_) (λp s' hp e=>⟨e,hp⟩) rfl (RW.sort_ok (zit hnp) (by omega))
   subst e
   have gi:∀i,i<ps.length->TupAt s'.heap (ks.getD i Value.none) (pAt ps i):=λi hi=>by
    have hi':i<ks.length:=by omega
    refine keyT1 i _ _ ?_ ?_
    ·simp[hi']
    ·unfold pAt;simp[hi]
   exact zn9 (gi i hi) (gi j hj) (hC s' rfl)
 ·
  have nD:H D=none:=I.hok.fresh hD
  obtain⟨ps',hperm,hpw,hout⟩:∃ps':List (Str×Str),ps'.Perm ps/\ps'.Pairwise (λa b=>ltP a b=true)/\out.length=ps'.length/\∀(i:Nat) (u:Value) (p:Str×Str),out[i]?=some u->ps'[i]?=some p->∃b,u= .ref b/\H b=some (.tup [.str p.1, .str p.2]):=by
   rcases ho with⟨hlt,rfl⟩|⟨p,hp,⟨hP,hS⟩,rfl⟩
   ·refine ⟨ps, .refl _,?_,kz,λi u p e1 e2=>?_⟩
    ·match ps,(show ps.length<2 by omega)with
     |[],_=>exact .nil
     |[x],_=>exact List.pairwise_singleton _ _
    ·have hi:i<ps.length:=by
      rcases Nat.lt_or_ge i ps.length with z|z
      ·exact z
      ·rw[List.getElem?_eq_none z] at e2;cases e2
     obtain⟨b,f1,f2⟩:=keyA i hi
     rw[f1] at e1;cases e1
     have ep':ps[i]=p:=by simpa[hi] using e2
     rw[ep'] at f2
     exact⟨b,rfl,f2⟩
   ·obtain ⟨o1,o2⟩:=zmm hP hS
    refine⟨p.toList.map (pAt ps),o1,o2,by rw[List.length_map,List.length_map],λi u q e1 e2=>?_⟩
    rw[List.getElem?_map] at e1 e2
    cases hpi:p.toList[i]? with
    |none=>rw[hpi] at e1;cases e1
    |some j=>
     rw[hpi] at e1 e2
     have hj:j<ps.length:=List.mem_range.mp (hP.mem_iff.mp (List.mem_of_getElem? hpi))
     obtain⟨b,f1,f2⟩:=keyA j hj
     have hj':j<ks.length:=by omega
     have eu:ks.getD j Value.none= .ref b:=by
      rw[List.getD_eq_getElem?_getD,f1];rfl
     have e1':some (ks.getD j Value.none)=some u:=e1
     rw[eu] at e1'
     have e2':some (pAt ps j)=some q:=e2
     have eq:pAt ps j=ps[j]:=by unfold pAt;simp[hj]
     rw[eq] at e2'
     cases e1'
     cases e2'
     exact⟨b,rfl,f2⟩
  obtain⟨hol,hog⟩:=hout
  have hall:∀u∈out,∃b,u=Value.ref b:=λu hu=>by
   obtain⟨i,hi,rfl⟩:=List.getElem_of_mem hu
   obtain⟨b,e,_⟩:=hog i out[i] (ps'[i]'(by omega)) (by simp[hi]) (by simp[show i<ps'.length by omega])
   exact⟨b,e⟩
  obtain⟨vs,rvs⟩:∃vs:List V,Vals vs out/\∀(i:Nat) (b:Addr),out[i]?=some (.ref b)->vs[i]?=some (.ref b):=by
   clear hog hol gD ho
   induction out with
   |nil=>exact ⟨[], .nil,λi b e=>by simp at e⟩
   |cons u out ih=>
    obtain⟨vs,h1,h2⟩:=ih λu hu=>hall u (List.mem_cons_of_mem _ hu)
    obtain⟨b,rfl⟩:=hall u List.mem_cons_self
    refine⟨.ref b::vs, .cons rfl h1,λi b' e=>?_⟩
    cases i with
    |zero=>simpa using e
    |succ i=>exact h2 i b' (by simpa using e)
  have lv:vs.length=out.length:=rvs.1.length
  refine⟨.ref D,_,I.laid (a:=D) (o:= .lst vs) (t':=tk) kp hD ⟨by rw[lv,hol,hperm.length_eq];exact Nat.le_of_lt (zm (by omega)),out,c,rvs.1,gD⟩,rfl,q ps' vs D hperm hpw ⟨by omega,λi v p e1 e2=>?_⟩ nD⟩
  have hi:i<out.length:=by
   rcases Nat.lt_or_ge i out.length with z|z
   ·exact z
   ·rw[List.getElem?_eq_none (by omega)] at e1;cases e1
  obtain⟨b,f1,f2⟩:=hog i out[i] p (by simp[hi]) e2
  have:=rvs.2 i b (by rw[←f1];simp[hi])
  rw[this] at e1
  cases e1
  exact⟨b,rfl,f2⟩
end
noncomputable def zjh(a c:Str)(t u:Tok)(i:Nat):Value:=if i=0 then .str a t else .str c u
section
variable{prog:Program}{w:World}{A:Around}{E:Value->Shared->Prop}{s:Shared}
theorem zh6{a c:Str}{t u:Tok}{i:Nat}{v:Value}(h:(#[Value.str a t,Value.str c u])[i]?=some v):(i=0/\v= .str a t)\/(i=1/\v= .str c u):=by
 match i,h with
 |0,h=>exact .inl ⟨rfl,by simpa using h.symm⟩
 |1,h=>exact .inr ⟨rfl,by simpa using h.symm⟩
 |i+2,h=>simp at h
theorem zij{a c:Str}{t u:Tok}{R:Value->Shared->Prop}(hh:A.handled=none)(q:∀h' tk,(∀b o,s.heap.get? b=some o->h'.get? b=some o)->R (if ltS a c=true then .str c u else .str a t) {s with heap:=h',toks:=tk}):
 wpAny (model prog w) A (call (.builtin "max") [.str a t, .str c u]) R E s:=by
 have hT:(s.heap.push {cls:= .type "tuple",data:= .seq #[.str a t, .str c u]}).IsTuple s.heap.objs.size #[.str a t, .str c u]:=⟨_,Heap.get?_push_size _ rfl,rfl,0,rfl⟩
 have z:(s.heap.push {cls:= .type "tuple",data:= .seq #[.str a t, .str c u]}).objs.size=s.heap.objs.size+1:=Heap.size_push ..
 refine call_max_two (wpAny_pyIter_tuple hT ?_)
 refine⟨_,[_,s.heap.objs.size],[_],_,_,_,λi j=>ltS (strOf (zjh a c t u j)) (strOf (zjh a c t u i)),rfl,Walks.tuple (A:=A.in1) hh _ s.heap.objs.size (by rw[z];exact Nat.ne_of_lt (Nat.lt_succ_self _)) #[.str a t, .str c u],⟨⟨_,Heap.get?_push_size _ rfl,rfl,rfl⟩,hT.push _⟩,λb hb=>?_,(by decide:0<2),?_,λv h' tk hP hk=>?_⟩
 ·show b<((s.heap.push _).push _).objs.size
  rw[Heap.size_push,z]
  rcases List.mem_cons.mp hb with rfl|hb
  ·rw[z];exact Nat.lt_succ_self _
  ·rcases List.mem_cons.mp hb with rfl|hb
   ·exact Nat.lt_succ_of_lt (Nat.lt_succ_self _)
   ·cases hb
 ·intro i j vi vj s' R' E' hi hj hq
  rcases zh6 hi with⟨rfl,rfl⟩|⟨rfl,rfl⟩<;>rcases zh6 hj with⟨rfl,rfl⟩|⟨rfl,rfl⟩<;>exact (PySem.P.gt_str hq:wpAny (model prog w) A.in1 (compareOp .Gt _ _) R' E' s')
 ·have keep:∀b o,s.heap.get? b=some o->h'.get? b=some o:=λb o e=>hk b o (λhm=>by
   rcases List.mem_cons.mp hm with e1|hm
   ·have lb:=Heap.lt_size e
    rw[e1,z] at lb
    exact absurd lb (Nat.not_lt.mpr (Nat.le_succ _))
   ·cases hm) (Heap.get?_push_of_some _ (Heap.get?_push_of_some _ e))
  have fin:=q h' tk keep
  have eb:argBest (λi j=>ltS (strOf (zjh a c t u j)) (strOf (zjh a c t u i))) (2 -1)=if ltS a c=true then 1 else 0:=rfl
  have hP':(#[Value.str a t,Value.str c u])[if ltS a c=true then 1 else 0]?=some v:=hP
  by_cases hc:ltS a c=true
  ·rw[if_pos hc] at hP' fin
   have ev:Value.str c u=v:=by simpa using hP'
   rw[←ev];exact fin
  ·rw[if_neg hc] at hP' fin
   have ev:Value.str a t=v:=by simpa using hP'
   rw[←ev];exact fin
theorem zhR{a c:Str}{t u:Tok}{R:Value->Shared->Prop}(hh:A.handled=none)(q:∀h' tk,(∀b o,s.heap.get? b=some o->h'.get? b=some o)->R (if ltS c a=true then .str c u else .str a t) {s with heap:=h',toks:=tk}):
 wpAny (model prog w) A (call (.builtin "min") [.str a t, .str c u]) R E s:=by
 have hT:(s.heap.push {cls:= .type "tuple",data:= .seq #[.str a t, .str c u]}).IsTuple s.heap.objs.size #[.str a t, .str c u]:=⟨_,Heap.get?_push_size _ rfl,rfl,0,rfl⟩
 have z:(s.heap.push {cls:= .type "tuple",data:= .seq #[.str a t, .str c u]}).objs.size=s.heap.objs.size+1:=Heap.size_push ..
 refine call_min_two (wpAny_pyIter_tuple hT ?_)
 refine⟨_,[_,s.heap.objs.size],[_],_,_,_,λi j=>ltS (strOf (zjh a c t u i)) (strOf (zjh a c t u j)),rfl,Walks.tuple (A:=A.in1) hh _ s.heap.objs.size (by rw[z];exact Nat.ne_of_lt (Nat.lt_succ_self _)) #[.str a t, .str c u],⟨⟨_,Heap.get?_push_size _ rfl,rfl,rfl⟩,hT.push _⟩,λb hb=>?_,(by decide:0<2),?_,λv h' tk hP hk=>?_⟩
 ·show b<((s.heap.push _).push _).objs.size
  rw[Heap.size_push,z]
  rcases List.mem_cons.mp hb with rfl|hb
  ·rw[z];exact Nat.lt_succ_self _
  ·rcases List.mem_cons.mp hb with rfl|hb
   ·exact Nat.lt_succ_of_lt (Nat.lt_succ_self _)
   ·cases hb
 ·intro i j vi vj s' R' E' hi hj hq
  rcases zh6 hi with⟨rfl,rfl⟩|⟨rfl,rfl⟩<;>rcases zh6 hj with⟨rfl,rfl⟩|⟨rfl,rfl⟩<;>exact (lt_str hq:wpAny (model prog w) A.in1 (compareOp .Lt _ _) R' E' s')
 ·have keep:∀b o,s.heap.get? b=some o->h'.get? b=some o:=λb o e=>hk b o (λhm=>by
   rcases List.mem_cons.mp hm with e1|hm
   ·have lb:=Heap.lt_size e
    rw[e1,z] at lb
    exact absurd lb (Nat.not_lt.mpr (Nat.le_succ _))
   ·cases hm) (Heap.get?_push_of_some _ (Heap.get?_push_of_some _ e))
  have fin:=q h' tk keep
  have eb:argBest (λi j=>ltS (strOf (zjh a c t u i)) (strOf (zjh a c t u j))) (2 -1)=if ltS c a=true then 1 else 0:=rfl
  have hP':(#[Value.str a t,Value.str c u])[if ltS c a=true then 1 else 0]?=some v:=hP
  by_cases hc:ltS c a=true
  ·rw[if_pos hc] at hP' fin
   have ev:Value.str c u=v:=by simpa using hP'
   rw[←ev];exact fin
  ·rw[if_neg hc] at hP' fin
   have ev:Value.str a t=v:=by simpa using hP'
   rw[←ev];exact fin
end
section
variable{X:Cx}
theorem zgZ(hc:X.calm=true):CallR X (.builtin "max") (λxs H Q=>∃a c,xs=[.str a, .str c]/\Q (.str (if ltS a c=true then c else a)) H):=by
 intro pins s σ H xs us Q I r h
 obtain⟨i,j,rfl,q⟩:=h
 obtain⟨u,w',rfl,⟨t,rfl⟩,⟨t',rfl⟩⟩:=zhG r
 refine zij (I.ok.hd hc) λh' tk k=>⟨_,H,I.kept k,?_,q⟩
 by_cases hj:ltS i j=true
 ·rw[if_pos hj,if_pos hj];exact⟨_,rfl⟩
 ·rw[if_neg hj,if_neg hj];exact⟨_,rfl⟩
theorem zgB(hc:X.calm=true):CallR X (.builtin "min") (λxs H Q=>∃a c,xs=[.str a, .str c]/\Q (.str (if ltS c a=true then c else a)) H):=by
 intro pins s σ H xs us Q I r h
 obtain⟨i,j,rfl,q⟩:=h
 obtain⟨u,w',rfl,⟨t,rfl⟩,⟨t',rfl⟩⟩:=zhG r
 refine zhR (I.ok.hd hc) λh' tk k=>⟨_,H,I.kept k,?_,q⟩
 by_cases hj:ltS j i=true
 ·rw[if_pos hj,if_pos hj];exact⟨_,rfl⟩
 ·rw[if_neg hj,if_neg hj];exact⟨_,rfl⟩
end
section
open PySem.SeqAt
open PySem.AutoSeq1 (wpAny_loadPart')
open PySem.MeetsSeq PySem.MeetsSeq2 PySem.MeetsSeq3
theorem zhc(l b:Addr)(n n2:Nat)(dd dd2:Option Addr)(sl sl2:Array (Option Value))(x y z v:Str)(t1 t2 t3 t4:Tok):
 Meets (Builtin.«tuple.__lt__» ⟨[.ref l, .ref b],[]⟩) (λ_ R s=>s.heap.get? l=some {cls:= .type "tuple",dict:=dd,data:= .seq #[.str x t1, .str y t2] n,slots:=sl}/\s.heap.get? b=some {cls:= .type "tuple",dict:=dd2,data:= .seq #[.str z t3, .str v t4] n2,slots:=sl2}/\R (.ok (.ret (.bool (ltP (x,y) (z,v))))) s):=
 .of_wp λprog w A R s h=>by
  obtain⟨hp,g,d,tk,os⟩:=s;obtain⟨hl,hb,h⟩:=h
  have f2:=AutoSeq1.sub_tuple_tuple
  have cmp:∀(a c:Str) (t u:Tok) (E:Value->Shared->Prop) (Q:Value->Shared->Prop),Q (.bool (ltS a c)) ⟨hp,g,d,tk,os⟩->wpAny (model prog w) A.in1 (richCompare .Lt (.str a t) (.str c u)) Q E ⟨hp,g,d,tk,os⟩:=λa c t u E Q hq=>(PyProof.Rows.lt_str hq:wpAny (model prog w) A.in1 (compareOp .Lt (.str a t) (.str c u)) Q E ⟨hp,g,d,tk,os⟩)
  wp_walk using wpAny_loadPart' hl,wpAny_loadPart' hb,wpAny_forIn_list _ (λrest b s'=>b.1=none/\s'=⟨hp,g,d,tk,os⟩/\((rest=[(Value.str x t1,Value.str z t3),(Value.str y t2,Value.str v t4)])\/(rest=[(Value.str y t2,Value.str v t4)]/\x=z)\/(rest=[]/\x=z/\y=v))) _
  case turn=>
   rintro⟨p,q⟩ rest b s' ⟨hb',rfl,hr⟩
   rcases hr with hr|⟨hr,ex⟩|⟨hr,_⟩
   ·injection hr with h1 h2
    injection h1 with h3 h4
    subst h3 h4
    refine wpAny_bind (wpAny_eqBool_str ?_)
    by_cases ex:x=z
    ·rw[decide_eq_true ex]
     wp_walk
     exact⟨rfl,rfl, .inr (.inl ⟨h2,ex⟩)⟩
    ·rw[decide_eq_false ex]
     have c1:=cmp x z t1 t3
     wp_walk using c1
     unfold ltP at h
     rw[if_neg ex] at h
     exact⟨_,rfl,h⟩
   ·injection hr with h1 h2
    injection h1 with h3 h4
    subst h3 h4
    refine wpAny_bind (wpAny_eqBool_str ?_)
    by_cases ey:y=v
    ·rw[decide_eq_true ey]
     wp_walk
     exact⟨rfl,rfl, .inr (.inr ⟨h2,ex,ey⟩)⟩
    ·rw[decide_eq_false ey]
     have c1:=cmp y v t2 t4
     wp_walk using c1
     unfold ltP at h
     rw[if_pos ex,if_neg ey] at h
     exact⟨_,rfl,h⟩
   ·cases hr
  case fin=>
   rintro⟨b1,b2⟩ s' ⟨hb',rfl,hr⟩
   simp only at hb'
   subst hb'
   rcases hr with hr|⟨hr,_⟩|⟨_,ex,ey⟩
   ·cases hr
   ·cases hr
   ·unfold ltP at h
    rw[if_pos ex,if_pos ey] at h
    wp_walk
    exact⟨_,rfl,h⟩
  case h=>
   exact⟨rfl,rfl, .inl rfl⟩
end
section
variable{X:Cx}{K:PySem.W.Frag}
noncomputable def zr0:R2:=λx y H Q=>∃a b p q,x= .ref a/\y= .ref b/\H a=some (.tup [.str p.1, .str p.2])/\H b=some (.tup [.str q.1, .str q.2])/\Q (.bl (ltP p q)) H
theorem zk8{pins:List (Addr×Obj)}{σ:St}{H:Hp}{s:Shared}{a:Addr}{p:Str×Str}(I:Inv X pins σ H s)(h:H a=some (.tup [.str p.1, .str p.2])):∃t1 t2 n dd sl,s.heap.get? a=some {cls:= .type "tuple",dict:=dd,data:= .seq #[.str p.1 t1, .str p.2 t2] n,slots:=sl}:=by
 obtain⟨_,its,rv,⟨o',g',c',n',d'⟩,_⟩:=(show ObjOk X.prog X.w H s.heap a (.tup [.str p.1, .str p.2])from I.hok a _ h)
 cases rv with
 |cons r1 rv=>cases rv with
  |cons r2 rv=>cases rv with
   |nil=>
    obtain⟨t1,rfl⟩:=r1
    obtain⟨t2,rfl⟩:=r2
    obtain⟨cls,dd,data,sl⟩:=o'
    simp only at c' d'
    subst c' d'
    exact⟨t1,t2,n',dd,sl,g'⟩
theorem zqQ(hu:X.A.units<cLine):OpR X (compareOp .Lt) zr0:=by
 intro pins s σ H x y v u Q I rx ry h
 obtain⟨a,b,p,q,rfl,rfl,ha,hb,fin⟩:=h
 cases rx
 cases ry
 obtain⟨t1,t2,n,dd,sl,g1⟩:=zk8 I ha
 obtain⟨t3,t4,n2,dd2,sl2,g2⟩:=zk8 I hb
 exact richCompare_meets_room (op:= .Lt) ⟨_,g1,rfl⟩ ⟨_,g2,rfl⟩ PySem.F.slot_tuple_lt PySem.F.entry_tuple_lt (PySem.F.args_tuple_lt_2 _ _) (zhc a b n n2 dd dd2 sl sl2 p.1 p.2 q.1 q.2 t1 t2 t3 t4)
  ⟨g1,g2,show Value.bool (ltP p q)≠Value.notImplemented/\EP X pins σ Q (.bool (ltP p q)) s from⟨(λx=>nomatch x),⟨.bl (ltP p q),H,I,rfl,fin⟩⟩⟩ hu
noncomputable def zsD:R2:=λx y H Q=>(∃i j,x= .str i/\y= .str j/\Q (.bl (ltS i j)) H)\/zr0 x y H Q
theorem zrt(hu:X.A.units<cLine):OpR X (compareOp .Lt) zsD:=op_lt_str.or (zqQ hu)
noncomputable def zox(K:PySem.W.Frag):R2:=λx y H Q=>∃a b xs ys,x= .ref a/\y= .ref b/\SqT K H a xs/\SqT K H b ys/\xs.length+ys.length<=sizeLine/\
 (xs=[]->Q (.ref b) H)/\(xs≠ []->ys=[]->Q (.ref a) H)/\(xs≠ []->ys≠ []->∀p,H p=none->Q (.ref p) (upd H p (.tup (xs ++ys))))
theorem zed:OpR X (binaryOp .Add) (zox X.K):=by
 intro pins s σ H x y v u Q I rx ry h
 obtain⟨a,b,xs,ys,rfl,rfl,ha,hb,hz,q0,q1,q2⟩:=h
 by_cases hx:xs=[]
 ·cases rx
  cases ry
  obtain⟨its,r1,p1,_⟩:=I.tuple ha
  obtain⟨its2,r2,p2,_⟩:=I.tuple hb
  have e1:its=[]:=r1.nil_iff.mpr hx
  obtain⟨⟨cls,dd,data,sl⟩,ho,hc,n,hd⟩:=id p1
  obtain⟨⟨cls2,dd2,data2,sl2⟩,ho2,hc2,n2,hd2⟩:=id p2
  simp only at hc hd hc2 hd2
  subst hc hd hc2 hd2
  exact concat_meets ⟨_,ho,rfl⟩ ⟨_,ho2,rfl⟩ noFill_tuple_add seq_tuple_add PySem.F.slot_tuple_add PySem.F.entry_tuple_add (PySem.F.args_tuple_add_2 _ _) (tuple_addW0 a b its.toArray its2.toArray n n2 dd dd2 sl sl2 (by simp[e1])) ⟨ho,ho2,⟨.ref b,H,I,rfl,q0 hx⟩⟩
 ·exact zoI pins s σ H _ _ v u Q I rx ry ⟨a,b,xs,ys,rfl,rfl,ha,hb,hx,hz,q1 hx,q2 hx⟩
end
section
open PySem.AutoSeq1 (wpAny_loadPart')
end
section
variable{X:Cx}{K:PySem.W.Frag}
theorem hu1{k:Nat}{A:Around}(r:Room k A):A.units+1<cLine:=by have:=r.units;omega
end
section
variable{X:Cx}{a b o i value:Expr}{x y:Str}{px py pt pt2 pos pos':Pos}{kt k2:Nat}{ta:TA}{td ty tv:TE}
theorem zp7(m n:Nat)(hN:X.N.Nodup)(ha:QA X [a,b] ta)(hc:X.calm=true:=by rfl)(hi:X.N[m]?=some x:=by rfl)(hj:X.N[n]?=some y:=by rfl)(hij:m≠n:=by decide)
 (hx:X.env.scope.names.lookup x=some .local:=by rfl) (hy:X.env.scope.names.lookup y=some .local:=by rfl)
 (hw:swappedStores [.Tuple [.Name x px, .Name y py] kt pt] (.Tuple [a,b] k2 pt2) X.env=pure (some [x,y]):=by rfl)
 (hs:swapsWithSole [.Tuple [.Name x px, .Name y py] kt pt] (.Tuple [a,b] k2 pt2) pos.line X.env=pure false:=by rfl):
 QS X (.Assign [.Tuple [.Name x px, .Name y py] kt pt] (.Tuple [a,b] k2 pt2) pos) (zsa m n ta):=⟨zru hc hN hi hj hij hx hy ha.o hw hs⟩
theorem znj(hu:X.A.units+1<cLine)(ho:QE X o td)(hi:QE X i ty)(hv:QE X value tv)(hs:swapsWith value (some (.Subscript o i pos')) pos.line X.env=pure false:=by rfl):
 QS X (.Assign [.Subscript o i pos'] value pos) (zp0 td ty tv):=⟨zpC hu ho.o hi.o hv.o hs⟩
theorem zph:QE X (.Dict [] [] pos) zmW:=⟨zn7⟩
end
end L2
namespace RW
open PySem PySem.Spec PyProof.Rows L2
noncomputable def ltD:D->D->Bool
 | .str x, .str y=>ltS x y
 | .tup [.str a, .str b], .tup [.str c, .str d]=>ltP (a,b) (c,d)
 |_,_=>false
noncomputable def isStrD:D->Bool| .str _=>true|_=>false
noncomputable def zcf(ds:List D):Bool:=(List.range (ds.length -1)).all λk=>ltD (ds.getD k .non) (ds.getD (k+1) .non)
noncomputable def areHousesB:D->Bool| .tup ds=>decide (1<=ds.length)&&decide (ds.length<=10)&&ds.all zW&&zcf ds|_=>false
noncomputable def inD(hs:List Str):D->Bool| .str x=>hs.any λy=>decide (y=x)|_=>false
noncomputable def zC(hs:List Str)(d:D):Bool:=zW d&&inD hs d
noncomputable def zcZ:D->Bool| .tup ds=>decide (ds.length<=90)&&ds.all zav|_=>false
noncomputable def zea:D->Bool| .tup ds=>decide (ds.length<=90)&&ds.all zcC|_=>false
noncomputable def zgH:D->List Str| .tup ds=>ds.filterMap (λd=>match d with| .str x=>some x|_=>none)|_=> []
noncomputable def allB(g:D->Bool):D->Bool| .tup ds=>ds.all g|_=>false
theorem strs_map(xs:List Str):zgH (.tup (xs.map D.str))=xs:=by
 show(xs.map D.str).filterMap _=xs
 rw[List.filterMap_map]
 exact List.filterMap_some
theorem zgc:∀{ds:List D},ds.all zW=true->∃xs:List Str,ds=xs.map D.str/\∀x∈xs,zi x=true
 |[],_=>⟨[],rfl,λ_ z=>nomatch z⟩
 |d::ds,h=>by
  rw[List.all_cons,Bool.and_eq_true] at h
  obtain⟨xs,rfl,hx⟩:=zgc h.2
  cases d with
  |str x=>exact ⟨x::xs,rfl,λy hy=>by
    rcases List.mem_cons.mp hy with rfl|hy
    ·exact h.1
    ·exact hx y hy⟩
  |_=>exact absurd h.1 (by simp[zW])
theorem zmB{xs:List Str}(h:xs.Pairwise (λa b=>ltS a b=true)):zcf (xs.map D.str)=true:=by
 unfold zcf
 rw[List.all_eq_true]
 intro k hk
 have hk':k+1<xs.length:=by have:=List.mem_range.mp hk;rw[List.length_map] at this;omega
 have e:∀i,i<xs.length->(xs.map D.str).getD i .non=D.str (xs.getD i ⟨#[]⟩):=λi hi=>by simp[List.getD,hi]
 rw[e k (by omega),e (k+1) hk']
 show ltS _ _=true
 have:=List.pairwise_iff_getElem.mp h k (k+1) (by omega) hk' (by omega)
 simpa[List.getD,hk',show k<xs.length by omega] using this
theorem zml(z:Str)(n:Nat):(zgU z n).cps.toList=(List.replicate n z.cps.toList).flatten:=by
 unfold zgU
 have key:∀(k:Nat) (acc:Array Nat),((List.replicate k z.cps).foldl (·++·) acc).toList=acc.toList ++(List.replicate k z.cps.toList).flatten:=by
  intro k
  induction k with
  |zero=>intro acc;simp
  |succ k ih=>intro acc;rw[List.replicate_succ,List.foldl_cons,ih,List.replicate_succ,List.flatten_cons,Array.toList_append,List.append_assoc]
 have:=key n #[]
 simpa using this
theorem zc4(c n:Nat):(zgU (one c) n).cps.toList=List.replicate n c:=by
 rw[zml]
 show(List.replicate n [c]).flatten=_
 induction n with
 |zero=>rfl
 |succ n ih=>rw[List.replicate_succ,List.flatten_cons,ih,List.replicate_succ];rfl
noncomputable def zla(x:Str):Bool:=x.cps.toList.all λc=>some c==x.cps.toList.head?
theorem zi6(c n:Nat):zla (zgU (one c) n)=true:=by
 unfold zla
 rw[zc4]
 cases n with
 |zero=>rfl
 |succ n=>
  rw[List.all_eq_true]
  intro d hd
  rw[List.eq_of_mem_replicate hd]
  simp[List.replicate_succ]
noncomputable def keptL:List Str:=["goal","to","by","houses","tie","like","hand","keep","put","mark","long","from","strike"]
theorem zpL:∀x∈keptL,zi x=true:=by decide +kernel
theorem zmy:∀x∈keptL,zla x=false:=by decide +kernel
theorem zoD:∀c∈lettersS.cps.toList,∀k∈List.range 8,zi (zgU (one c) (k+1))=true:=by decide +kernel
theorem ziX:lettersS.length=26:=by decide +kernel
theorem zgY:∀k∈List.range 26,lettersS.cps.toList[k]?=some (97+k):=by decide +kernel
theorem zlt(c:Nat):(one c).length=1:=rfl
noncomputable def zoq:List Nat:=[1,3,5,7,9,11]
theorem znx:∀f∈List.range 26,∀st∈zoq,((List.range 13).map λk=>(f+st*k)%26).Nodup:=by decide +kernel
noncomputable def nmS(f st k:Nat):Str:=zgU (one (97+(f+st*k)%26)) (1+(k*k+f)%8)
noncomputable def kwS(sp k:Nat):Str:=keptL.getD ((sp+3*k)%13) ""
noncomputable def zbS(f st sp j k:Nat):Str:=if k<j then kwS sp k else nmS f st k
theorem zq5:∀sp∈List.range 13,((List.range 4).map λk=>kwS sp k).Nodup:=by decide +kernel
theorem zkd(sp k:Nat):kwS sp k∈keptL:=by
 unfold kwS
 have h:(sp+3*k)%13<keptL.length:=Nat.mod_lt _ (by decide)
 simp[List.getD,h]
theorem zno{α:Type}{l:List α}(h:l.Nodup){i j:Nat}(hi:i<l.length)(hj:j<l.length)(hij:i≠j):l[i]≠l[j]:=λz=>hij ((List.getElem_inj h).mp z)
theorem zjD{f st sp j m:Nat}(hf:f<26)(hst:st∈zoq)(hsp:sp<13)(hj:j<=4)(hm:m<=13):((List.range m).map (zbS f st sp j)).Nodup:=by
 have key:∀a b,a<b->b<13->zbS f st sp j a≠zbS f st sp j b:=by
  intro a b hab hb
  unfold zbS
  by_cases h1:a<j
  ·rw[if_pos h1]
   by_cases h2:b<j
   ·rw[if_pos h2]
    have:=zno (zq5 sp (List.mem_range.mpr hsp)) (i:=a) (j:=b) (by simp;omega) (by simp;omega) (by omega)
    simpa using this
   ·rw[if_neg h2]
    intro z
    have e1:=zmy _ (zkd sp a)
    rw[z] at e1
    unfold nmS at e1
    rw[zi6] at e1
    cases e1
  ·rw[if_neg h1,if_neg (by omega)]
   intro z
   have hh:(nmS f st a).cps.toList.head?=(nmS f st b).cps.toList.head?:=by rw[z]
   unfold nmS at hh
   rw[zc4,zc4,Nat.add_comm 1,Nat.add_comm 1,List.replicate_succ,List.replicate_succ] at hh
   simp only[List.head?_cons,Option.some.injEq] at hh
   have:=zno (znx f (List.mem_range.mpr hf) st hst) (i:=a) (j:=b) (by simp;omega) (by simp;omega) (by omega)
   simp at this
   omega
 rw[List.nodup_iff_pairwise_ne,List.pairwise_map]
 refine List.Pairwise.imp_of_mem (λ{a b} ha hb hab=>?_) (List.pairwise_lt_range (n:=m))
 exact key a b hab (by have:=List.mem_range.mp hb;omega)
theorem zse(f st k:Nat):zi (nmS f st k)=true:=by
 unfold nmS
 rw[Nat.add_comm 1]
 have hr:(f+st*k)%26<26:=Nat.mod_lt _ (by decide)
 exact zoD _ (List.mem_of_getElem? (zgY _ (List.mem_range.mpr hr))) _ (List.mem_range.mpr (Nat.mod_lt _ (by decide)))
theorem zpJ(f st sp j k:Nat):zi (zbS f st sp j k)=true:=by
 unfold zbS
 split
 ·exact zpL _ (zkd sp k)
 ·exact zse f st k
theorem zoy{f st sp j m:Nat}(hj:j<m):((List.range m).map (zbS f st sp j)).set j (kwS sp j)=(List.range m).map (zbS f st sp (j+1)):=by
 apply List.ext_getElem?
 intro i
 rw[List.getElem?_set]
 by_cases e:j=i
 ·subst e
  rw[if_pos rfl,if_pos (by simp;exact hj)]
  simp[hj,zbS]
 ·rw[if_neg e]
  rcases Nat.lt_or_ge i m with h|h
  ·rw[List.getElem?_map,List.getElem?_map,List.getElem?_range h]
   show some _=some _
   congr 1
   unfold zbS
   by_cases h1:i<j
   ·rw[if_pos h1,if_pos (by omega)]
   ·rw[if_neg h1,if_neg (by omega)]
  ·rw[List.getElem?_eq_none (by simpa using h),List.getElem?_eq_none (by simpa using h)]
theorem zoX{sp k:Nat}:keptL[(sp+3*k)%13]?=some (kwS sp k):=by
 unfold kwS
 have h:(sp+3*k)%13<keptL.length:=Nat.mod_lt _ (by decide)
 simp[List.getD,h]
theorem zeX{xs:List V}{m:Nat}:zbu xs (some (m:Int)) none=xs.drop m:=by
 unfold zbu
 have e1:HT.sIx xs.length xs.length none=xs.length:=rfl
 have e2:HT.sIx xs.length 0 (some (m:Int))=min m xs.length:=by
  unfold HT.sIx
  have h:¬(m:Int)<0:=by omega
  simp only[if_neg h,Int.toNat_natCast]
 rw[e1,e2]
 rcases Nat.lt_or_ge m xs.length with h|h
 ·rw[Nat.min_eq_left (by omega),List.take_of_length_le (by rw[List.length_drop];omega)]
 ·rw[Nat.min_eq_right h,List.drop_of_length_le (Nat.le_refl _),List.drop_of_length_le h];simp
noncomputable def pairD(p:Str×Str):D:= .tup [.str p.1, .str p.2]
structure TownOk(g:Str)(hs:List Str)(ps:List (Str×Str))(lks hds:List D):Prop where
 rise:hs.Pairwise (λa b=>ltS a b=true)
 one:1<=hs.length
 ten:hs.length<=10
 names:∀x∈hs,zi x=true
 goal:g∈hs
 riseP:ps.Pairwise (λa b=>ltP a b=true)
 ties:∀p∈ps,p.1∈hs/\p.2∈hs/\ltS p.1 p.2=true
 ll:lks.length=hs.length
 lh:hds.length=hs.length
 likes:∀d∈lks,zcZ d=true
 hands:∀d∈hds,zea d=true
noncomputable def zcn(g:Str)(hs:List Str)(ps:List (Str×Str))(lks hds:List D):D:= .tup [.str g, .tup (hs.map D.str), .tup (ps.map pairD), .tup lks, .tup hds]
theorem zgJ{hs:List Str}{x:Str}(h:x∈hs)(hn:zi x=true):zC hs (.str x)=true:=by
 show(zi x&&hs.any λy=>decide (y=x))=true
 rw[hn,List.any_eq_true.mpr ⟨x,h,decide_eq_true rfl⟩];rfl
section
variable{te tf:TE}{ta:TA}{tb:TS}{De:Ends}{σ:L2.St}{H:Hp}{d:D}{ds es:List D}{K:PySem.W.Frag}{k:Nat}
theorem zgR(h:Dsp te σ H (.tup ds))(g:Dsp tf σ H (.tup es))(hl:ds.length+es.length<=1000):Dsp (tOp (zox K) te tf) σ H (.tup (ds ++es)):=λH1 Q s q=>
 h H1 _ s λv H2 s2 rv=>g H2 _ (s.trans s2) λu H3 s3 ru=>by
  obtain⟨p,vs,rfl,hp,r1,_⟩:=rv.ofT
  obtain⟨p',us,rfl,hp',r2,_⟩:=ru.ofT
  have hp3:=s3 _ _ hp
  have r13:=r1.mono (.of s3)
  refine⟨p,p',vs,us,rfl,rfl, .inl (.inl hp3), .inl (.inl hp'),Nat.le_of_lt (zm (by rw[r1.1,r2.1];exact hl)),λz=>?_,λ_ z=>?_,λ_ _ p2 hp2=>?_⟩
  ·have e:ds=[]:=by have:=r1.1;rw[z] at this;exact List.eq_nil_of_length_eq_zero this.symm
   subst e
   exact q _ H3 (s2.trans s3) ru
  ·have e:es=[]:=by have:=r2.1;rw[z] at this;exact List.eq_nil_of_length_eq_zero this.symm
   subst e
   have q':=q (.ref p) H3 (s2.trans s3)
   rw[List.append_nil] at q'
   exact q' (rv.same s3)
  ·exact q _ _ ((s2.trans s3).trans (Same.new hp2)) (.mkL zd (by rw[List.length_append];exact hl) ((r13.append r2).mono (.new hp2)))
theorem zo4{i:Nat}{v:V}(hv:σ[i]?=some (some v))(r:Rep H v (.tup (d::ds))):Dsp (tOp (zmq K) (zc7 i) (tC (.int 0))) σ H d:=λH1 Q s q=>by
 obtain⟨p,vs,rfl,hp,r1,b⟩:=(r.same s).ofT
 match vs,r1 with
 |v0::vs,r1=>exact ⟨_,hv,p,_,0,v0,rfl,rfl, .inl (.inl hp),at0,q _ H1 (Same.refl _) r1.head.1⟩
 |[],r1=>exact absurd r1.1 (by simp)
end
section
variable{te tf:TE}{σ:L2.St}{H:Hp}{d:D}{ds es:List D}{K:PySem.W.Frag}
theorem zef{J:It}{vs:List V}{f:D->D}{g:D->Bool}{ok:Hp->Prop}{tc:TT}{src:List (Option Nat)}{σr:L2.St}{Q:VK}(wk:Wk J vs.length (λi x=>vs[i]?=some x) ok)(hok:∀H',Same H H'->ok H')(r:RepL H vs ds)(hl:ds.length<=900)(e:zdo src σ=none::σr)
 (hc:∀(x:V) (d:D) (H1:Hp) (Q1:Bool->Hp->Prop),Same H H1->Rep H1 x d->d∈ds->(∀H2,Same H1 H2->Q1 (g d) H2)->tc (some x::σr) H1 Q1)
 (he:∀(x:V) (d:D) (H1:Hp),Same H H1->Rep H1 x d->d∈ds->Dsp te (some x::σr) H1 (f d))
 (q:∀l us H',Same H H'->H l=none->H' l=some (.lst us)->RepL H' us ((ds.filter g).map f)->Q (.ref l) H'):zcb (zaM 0) tc te src σ Q J H:=by
 refine zaY wk (λl i ys σ' H'=>(∃o,σ'=o::σr)/\RepL H' ys (((ds.take i).filter g).map f)/\Same H H') ?_ ?_ ?_ ?_
 ·exact λl h'=>⟨⟨none,e⟩,RepL.nil,Same.new h'⟩
 ·exact λl i ys σ' H' _ p=>hok H' p.2.2
 ·rintro l i y ys σ' H1 h' hi hy ⟨⟨o,rfl⟩,ry,s1⟩ hl'
  obtain⟨d,hd,rd⟩:=r.get hy
  refine hc y d H1 _ s1 (rd.same s1) (List.mem_of_getElem? hd) λH2 s2=>?_
  have tk:((ds.take (i+1)).filter g).map f=((ds.take i).filter g).map f ++([d].filter g).map f:=by
   rw[List.take_add_one,hd,List.filter_append,List.map_append];rfl
  rw[tk]
  cases hg:g d with
  |false=>
   have e0:([d].filter g).map f=[]:=by simp[hg]
   rw[e0,List.append_nil]
   exact⟨s2 _ _ hl',⟨_,rfl⟩,ry.mono (.of s2),s1.trans s2⟩
  |true=>
   have e0:([d].filter g).map f=[f d]:=by simp[hg]
   rw[e0]
   refine he y d H2 (s1.trans s2) ((rd.same s1).same s2) (List.mem_of_getElem? hd) H2 _ (Same.refl _) λv H3 s3 rv=>?_
   refine⟨s3 _ _ (s2 _ _ hl'),?_,⟨_,rfl⟩,?_,?_⟩
   ·have h1:=ry.1
    have h2:=List.length_filter_le g (ds.take i)
    rw[List.length_map] at h1
    rw[List.length_take] at h2
    exact zm (by omega)
   ·exact ((ry.mono (.of (s2.trans s3))).append (.cons rv .nil)).mono (.lset (s3 _ _ (s2 _ _ hl')))
   ·exact λc o e=>by
     rw[zq (zy e h')]
     exact s3 _ _ (s2 _ _ (s1 _ _ e))
 ·rintro l ys σ' H1 h' ⟨⟨o,rfl⟩,ry,s1⟩ hl'
  rw[r.1,List.take_length] at ry
  exact q l ys H1 s1 h' hl' ry
end
theorem zbr{H:Hp}{hs:List Str}(h:∀x∈hs,x.length<=1000):RepL H (hs.map V.str) (hs.map D.str):=by
 refine⟨by rw[List.length_map,List.length_map],λi v d hv hd=>?_⟩
 rw[List.getElem?_map] at hv hd
 cases e:hs[i]? with
 |none=>rw[e] at hv;cases hv
 |some x=>
  rw[e] at hv hd
  cases hv
  cases hd
  exact .str x (h x (List.mem_of_getElem? e))
theorem zjT{α β:Type}{F:α->List β}{m:Nat}(hF:∀a,(F a).length<=m):∀l:List α,(l.flatMap F).length<=l.length*m
 |[]=>Nat.zero_le _
 |a::l=>by
  rw[List.flatMap_cons,List.length_append,List.length_cons,Nat.succ_mul]
  have:=zjT hF l
  have:=hF a
  omega
inductive Tr(H:Hp):V->PyData->Prop
 |non:Tr H .non .none
 |bl (b:Bool):Tr H (.bl b) (.bool b)
 |int (i:Int):Tr H (.int i) (.int i)
 |str (x:Str) (h:PyData.strOk x=true):Tr H (.str x) (.str x)
 |tup {p:Addr} {vs:List V} {ds:List PyData} (e:H p=some (.tup vs)) (hl:vs.length=ds.length) (h:∀(i:Nat) (v:V) (d:PyData),vs[i]?=some v->ds[i]?=some d->Tr H v d):Tr H (.ref p) (.tuple ds)
 |lst {p:Addr} {vs:List V} {ds:List PyData} (e:H p=some (.lst vs)) (hl:vs.length=ds.length) (h:∀(i:Nat) (v:V) (d:PyData),vs[i]?=some v->ds[i]?=some d->Tr H v d):Tr H (.ref p) (.list ds)
theorem zd1{h:Heap}:∀{vs:List V} {us:List Value} {ds:List PyData},Vals vs us->vs.length=ds.length->(∀(i:Nat) (v:V) (d:PyData),vs[i]?=some v->ds[i]?=some d->∀u,RelV v u->∃as,Reads h u d as)->∃bs,ReadsAll h us ds bs
 |_,_,[], .nil,_,_=>⟨_, .nil⟩
 |v::vs,u::us,d::ds, .cons r t,hl,hh=>by
  obtain⟨as,ha⟩:=hh 0 v d rfl rfl u r
  obtain⟨bs,hb⟩:=zd1 t (by simpa using hl) λi v' d' h1 h2=>hh (i+1) v' d' h1 h2
  exact⟨_, .cons ha hb⟩
 |[],_,d::ds, .nil,hl,_=>by simp at hl
 |v::vs,u::us,[], .cons r t,hl,_=>by simp at hl
theorem Tr.reads{X:Cx}{pins:List (Addr×Obj)}{σ:L2.St}{H:Hp}{s:Shared}(I:Inv X pins σ H s){x:V}{d:PyData}(t:Tr H x d):∀v,RelV x v->∃as,Reads s.heap v d as:=by
 induction t with
 |non=>intro v r;cases r;exact⟨_, .none⟩
 |bl b=>intro v r;cases r;exact⟨_, .bool b⟩
 |int i=>intro v r;obtain⟨t,rfl⟩:=r;exact⟨_, .int i t⟩
 |str x h=>intro v r;obtain⟨t,rfl⟩:=r;exact⟨_, .str x t⟩
 |tup e hl h ih=>
  intro v r
  cases r
  obtain⟨its,rv,⟨o,ho,hc,n,hd⟩,_⟩:=I.tuple (SqT.of e)
  obtain⟨bs,hb⟩:=zd1 (h:=s.heap) rv hl ih
  exact⟨_, .tuple ho hc hd (by simpa using hb)⟩
 |lst e hl h ih=>
  intro v r
  cases r
  obtain⟨its,n,rv,ho,_⟩:=I.lst e
  obtain⟨bs,hb⟩:=zd1 (h:=s.heap) rv hl ih
  exact⟨_, .list ho rfl rfl (by simpa using hb)⟩
theorem zff:∀{vs:List V} {ds:List PyData},vs.length=ds.length->(∀(i:Nat) (v:V) (d:PyData),vs[i]?=some v->ds[i]?=some d->d.canLay0=true)->PyData.canLayAll0 ds=true
 |_,[],_,_=>rfl
 |v::vs,d::ds,hl,hh=>by
  rw[PyData.canLayAll0,hh 0 v d rfl rfl,zff (vs:=vs) (ds:=ds) (by simpa using hl) λi v' d' h1 h2=>hh (i+1) v' d' h1 h2];rfl
 |[],d::ds,hl,_=>by simp at hl
theorem Tr.can{H:Hp}{x:V}{d:PyData}(t:Tr H x d):d.canLay0=true:=by
 induction t with
 |non=>rfl
 |bl b=>rfl
 |int i=>rfl
 |str x h=>simp only[PyData.canLay0];exact h
 |tup e hl h ih=>rw[PyData.canLay0];exact zff hl ih
 |lst e hl h ih=>rw[PyData.canLay0];exact zff hl ih
section
variable{X:Cx}
noncomputable def zrO:R2:=λx y H Q=>∃d e,Tr H x d/\Tr H y e/\min d.depth e.depth<=60/\Q (.bl (d.eqv e)) H
noncomputable def zpt:R2:=λx y H Q=>∃d e,Tr H x d/\Tr H y e/\min d.depth e.depth<=60/\Q (.bl (!d.eqv e)) H
theorem zgL(hu:X.A.units+64<cLine):OpR X (compareOp .Eq) zrO:=by
 intro pins s σ H x y v u Q I rx ry h
 obtain⟨d,e,t1,t2,hd,q⟩:=h
 obtain⟨as,r1⟩:=t1.reads I v rx
 obtain⟨bs,r2⟩:=t2.reads I u ry
 exact SeqAt.compareEq_reads r1 r2 t1.can t2.can (by omega) ⟨.bl _,H,I,rfl,q⟩
theorem zig(hu:X.A.units+64<cLine):OpR X (compareOp .NotEq) zpt:=by
 intro pins s σ H x y v u Q I rx ry h
 obtain⟨d,e,t1,t2,hd,q⟩:=h
 obtain⟨as,r1⟩:=t1.reads I v rx
 obtain⟨bs,r2⟩:=t2.reads I u ry
 exact SeqAt.compareNe_reads r1 r2 t1.can t2.can (by omega) ⟨.bl _,H,I,rfl,q⟩
noncomputable def zsn:R2:=λx y H Q=>∃d es,Tr H x d/\(Tr H y (.list es)\/Tr H y (.tuple es))/\d.depth<=60/\Q (.bl (es.any λy=>y.eqv d)) H
theorem znO(hu:X.A.units+64<cLine):OpR X (compareOp .In) zsn:=by
 intro pins s σ H x y v u Q I rx ry h
 obtain⟨d,es,t1,t2,hd,q⟩:=h
 obtain⟨as,r1⟩:=t1.reads I v rx
 rcases t2 with t2|t2
 ·obtain ⟨bs,r2⟩:=t2.reads I u ry
  have c:=t2.can
  rw[PyData.canLay0] at c
  exact SeqAt.in_list_reads r2 r1 c t1.can (by omega) ⟨.bl _,H,I,rfl,q⟩
 ·obtain ⟨bs,r2⟩:=t2.reads I u ry
  have c:=t2.can
  rw[PyData.canLay0] at c
  exact SeqAt.in_tuple_reads r2 r1 c t1.can (by omega) ⟨.bl _,H,I,rfl,q⟩
theorem zgQ{k:Nat}{A:Around}(r:Room k A):A.units+64<cLine:=by have:=r.un;omega
end
end RW
namespace HT
open PySem PySem.Spec PyProof.Rows
section
variable{prog:Program}{w:World}{A:Around}{E:Value->Shared->Prop}{s:Shared}
theorem zn5{α β:Type}{f:α->Option β}{g:α->β}:∀{l:List α},(∀a∈l,f a=some (g a))->l.filterMap f=l.map g
 |[],_=>rfl
 |a::l,h=>by rw[List.filterMap_cons,h a List.mem_cons_self,zn5 λb hb=>h b (List.mem_cons_of_mem _ hb)];rfl
theorem zmP(xs:Array Value):((List.range xs.size).filterMap λ(m:Nat)=>xs[((xs.size:Int) -1+(m:Int)* -1).toNat]?).toArray=xs.toList.reverse.toArray:=by
 congr 1
 refine List.ext_getElem? λi=>?_
 have e:((List.range xs.size).filterMap λ(m:Nat)=>xs[((xs.size:Int) -1+(m:Int)* -1).toNat]?)=(List.range xs.size).map λm=>xs[xs.size -1 -m]?.getD .none:=by
  refine zn5 λm hm=>?_
  have hm':=List.mem_range.mp hm
  rw[show((xs.size:Int) -1+(m:Int)* -1).toNat=xs.size -1 -m by omega]
  have:xs.size -1 -m<xs.size:=by omega
  simp[this]
 rw[e,List.getElem?_map]
 rcases Nat.lt_or_ge i xs.size with h|h
 ·rw[List.getElem?_range h,List.getElem?_reverse (by simpa using h)]
  have:xs.size -1 -i<xs.size:=by omega
  simp[this]
 ·rw[List.getElem?_eq_none (by simpa using h),List.getElem?_eq_none (by simpa using h)];rfl
end
end HT
namespace L2
open PySem PySem.Spec PyProof.Rows
section
variable{X:Cx}{e:Expr}{te:TE}{p1 p2 p3 pos:Pos}{tk:Tok}
theorem Vals.rev:∀{xs:List V} {us:List Value},Vals xs us->Vals xs.reverse us.reverse
 |_,_, .nil=> .nil
 |x::xs,u::us, .cons r t=>by
  rw[List.reverse_cons,List.reverse_cons]
  exact(Vals.rev t).append (.cons r .nil)
end
end L2
namespace HT
open PySem PySem.Spec PyProof.Rows
section
variable{prog:Program}{w:World}{A:Around}{E:Value->Shared->Prop}{s:Shared}
theorem getItem_tuple_whole{t sl:Addr}{items:Array Value}{vl vu:Value}{lo hi:Option Int}{Q:Value->Shared->Prop}(ht:IsTup s.heap t items)(hs:s.heap.IsSliceOf sl vl vu .none)(pl:IsPart vl lo)(pu:IsPart vu hi)
 (h1:sIx items.size 0 lo=0) (h2:sIx items.size items.size hi=items.size)
 (h:Q (.ref t) s):wpAny (model prog w) A (getItem (.ref t) (.ref sl)) Q E s:=by
 obtain⟨os,hos,hcs,hds⟩:=id hs
 have hTs:s.TypeIs (.ref sl) "slice":=⟨os,hos,hcs⟩
 unfold getItem
 try with_reducible refine wpAny_holding ?_
 first|refine wpAny_bind (wpAny_pure ?_)|skip
 refine wpAny_bind (wpAny_sequenceKey ht.typeIs (by decide) ?_)
 refine wpAny_bind (wpAny_callSpecial?_slot (name:=Str.ofString "__getitem__") ht.typeIs PyProof.Rows.slot_tuple_getitem
  (wpAny_call_entry PyProof.Rows.slot_tuple_getitem ht.typeIs entry_tuple_getitem ?_ (args_tuple_getitem _ _)))
 show wpAny _ _ (Builtin.Tuple.tupleItemsOf (.ref t)>>=_) _ _ s
 refine wpAny_bind (tupleItemsOf_ ht ?_)
 refine wpAny_bind (wpAny_typeOf hTs ?_)
 rw[if_pos (by decide)]
 refine wpAny_bind (zdd hs pl pu ?_)
 rw[h1,h2]
 show wpAny _ _ (if(((0:Nat):Int)==0&&(1:Int)==1&&(items.size -0)==items.size)=true then _ else _) _ _ s
 rw[if_pos (by simp)]
 unfold Builtin.Tuple.tupleIsExact
 refine wpAny_bind (wpAny_bind (wpAny_typeOf ht.typeIs (wpAny_pure ?_)))
 rw[if_pos (by decide)]
 refine wpAny_bind (wpAny_rule ?_)
 exact wpAny_pure ⟨_,rfl,wpAny_pure h⟩
end
end HT
namespace L2
open PySem PySem.Spec PyProof.Rows
section
variable{X:Cx}{K:PySem.W.Frag}
def zm2(K:PySem.W.Frag):V->Option Int->Option Int->Hp->VK->Prop:=λx lo hi H Q=>∃a xs,x= .ref a/\SqT K H a xs/\
 (zbu xs lo hi=xs->Q (.ref a) H)/\∀p,H p=none->Q (.ref p) (upd H p (.tup (zbu xs lo hi)))
theorem zdy:SlR X (zm2 X.K):=by
 intro pins s σ H x v vl vu lo hi sl Q I rx hs pl pu h
 obtain⟨a,xs,rfl,hx,q1,q2⟩:=h
 by_cases hw:HT.sIx xs.length 0 lo=0/\HT.sIx xs.length xs.length hi=xs.length
 ·have rx':v= .ref a:=rx
  subst rx'
  obtain⟨its,r,ht,hz⟩:=I.tuple hx
  have hlen:its.toArray.size=xs.length:=by rw[List.size_toArray];exact r.length.symm
  refine⟨"tuple",_,PyProof.Rows.slot_tuple_getitem.lookup,ht.typeIs,?_⟩
  refine HT.getItem_tuple_whole ht hs pl pu (by rw[hlen];exact hw.1) (by rw[hlen];exact hw.2) ⟨.ref a,H,I,rfl,q1 ?_⟩
  unfold zbu
  rw[hw.1,hw.2];simp
 ·exact zrm pins s σ H (.ref a) v vl vu lo hi sl Q I rx hs pl pu ⟨a,xs,rfl,hx,hw,q2⟩
end
end L2
namespace RW
open PySem PySem.Spec PyProof.Rows L2
section
variable{te tf:TE}{ta:TA}{σ:L2.St}{H:Hp}{d:D}{ds es:List D}{K:PySem.W.Frag}
theorem zly{tl th:TO}{i:Nat}{v:V}{lo hi:Option Int}(hv:σ[i]?=some (some v))(r:Rep H v (.tup ds))(hl:∀H1 (Q:Option Int->Hp->Prop),Q lo H1->tl σ H1 Q)(hh:∀H1 (Q:Option Int->Hp->Prop),Q hi H1->th σ H1 Q)
 (hc:∀vs:List V,vs.length=ds.length->∃m k,zbu vs lo hi=(vs.drop m).take k/\es=(ds.drop m).take k):Dsp (tSl (zm2 K) (zc7 i) tl th) σ H (.tup es):=λH1 Q s q=>by
 obtain⟨p,vs,rfl,hp,r1,b⟩:=(r.same s).ofT
 obtain⟨m,k,e1,e2⟩:=hc vs r1.1
 refine⟨_,hv,hl _ _ (hh _ _ ⟨p,vs,rfl, .inl (.inl hp),λz=>?_,λp2 hp2=>?_⟩)⟩
 ·refine q _ H1 (Same.refl _) ?_
  have e3:es=ds:=by
   rw[e2]
   rw[e1] at z
   have z1:=congrArg List.length z
   rw[List.length_take,List.length_drop,r1.1] at z1
   rcases Nat.eq_zero_or_pos m with rfl|hm
   ·rw[List.drop_zero]
    exact List.take_of_length_le (by omega)
   ·have:ds=[]:=List.eq_nil_of_length_eq_zero (by omega)
    subst this;simp
  rw[e3]
  exact .mkL hp b r1
 ·refine q _ _ (Same.new hp2) (.mkL zd (by rw[e2,List.length_take,List.length_drop];omega) ?_)
  rw[e1,e2]
  exact((r1.drop m).take k).mono (.new hp2)
theorem zhE{Q:Option Int->Hp->Prop}{H1:Hp}(h:Q none H1):zee σ H1 Q:=h
theorem zm0{Q:Option Int->Hp->Prop}{H1:Hp}{i:Int}(h:Q (some i) H1):zhm (tC (.int i)) σ H1 Q:=⟨i,rfl,h⟩
theorem zow{Q:Option Int->Hp->Prop}{H1:Hp}{i:Int}(h:Q (some (-i)) H1):zhm (tUn (rU λi=> .int (-i)) (tC (.int i))) σ H1 Q:=⟨i,rfl,-i,rfl,h⟩
theorem zlP{n:Nat}{i:Nat}{v:V}(hv:σ[i]?=some (some v))(r:Rep H v (.tup ds)):Dsp (tSl (zm2 K) (zc7 i) zee (zhm (tC (.int (n:Int))))) σ H (.tup (ds.take n)):=
 zly (lo:=none) (hi:=some (n:Int)) hv r (λ_ _ h=>zhE h) (λ_ _ h=>zm0 h) λvs hl=>⟨0,n,by rw[zeL,List.drop_zero],by rw[List.drop_zero]⟩
theorem zd4{i:Nat}{v:V}(hv:σ[i]?=some (some v))(r:Rep H v (.tup ds)):Dsp (tCB (λxs H Q=>∃p ys,xs=[.ref p]/\(SqL K H p ys\/SqT K H p ys)/\∀l,H l=none->Q (.ref l) (upd H l (.lst ys))) (zdG (zc7 i) zgg)) σ H .oth:=λH1 Q s q=>by
 obtain⟨p,vs,rfl,hp,r1,b⟩:=(r.same s).ofT
 exact⟨_,hv,p,vs,rfl, .inr (.inl (.inl hp)),λp2 hp2=>q _ _ (Same.new hp2) (.lst zd)⟩
end
theorem zl0:∀x∈keptL,x≠"nowhere":=by decide +kernel
theorem zmr:zla "nowhere"=false:=by decide +kernel
theorem zmv(f st sp j k:Nat):zbS f st sp j k≠"nowhere":=by
 unfold zbS
 split
 ·exact zl0 _ (zkd sp k)
 ·intro z
  have e:=zmr
  rw[←z] at e
  unfold nmS at e
  rw[zi6] at e
  cases e
def BadL(g:D->Bool)(H:Hp)(l:Addr)(m:Nat):Prop:=∃vs ds,H l=some (.lst vs)/\RepL H vs ds/\ds.length<=m/\∀d∈ds,g d=false
theorem BadL.same{g:D->Bool}{H H':Hp}{l:Addr}{m:Nat}(h:BadL g H l m)(s:Same H H'):BadL g H' l m:=let⟨vs,ds,e,r,n,b⟩:=h;⟨vs,ds,s _ _ e,r.mono (.of s),n,b⟩
section
variable{te:TE}{ta:TA}{tb:TS}{De:Ends}{σ:L2.St}{H:Hp}{d:D}{ds es:List D}{K:PySem.W.Frag}{k j:Nat}{g:D->Bool}{l lf:Addr}{m:Nat}
end
section
variable{x h t l a:D}
end
theorem all_bad{g:D->Bool}{ds:List D}{d:D}(h:d∈ds)(e:g d=false):ds.all g=false:=List.all_eq_false.mpr ⟨d,h,by rw[e];decide⟩
section
variable{te tf:TE}{ta:TA}{tb:TS}{De:Ends}{σ:L2.St}{H:Hp}{d:D}{ds es:List D}{K:PySem.W.Frag}{k j:Nat}{g:D->Bool}{m:Nat}
theorem zcF{H H':Hp}{p:Addr}(s:Same H H')(h:H' p=none):H p=none:=by
 cases e:H p with
 |none=>rfl
 |some o=>have:=s _ _ e;rw[h] at this;cases this
theorem znG{x:Str}{src:List (Option Nat)}{σr:L2.St}{Q:VK}{f:Nat->Str}(hx:x.length<=900)(e:zdo src σ=none::σr)(hf:∀c,(f c).length<=1000)
 (he:∀(c:Nat) (H1:Hp) (Q1:VK),Q1 (.str (f c)) H1->te (some (.str ⟨#[c]⟩)::σr) H1 Q1)
 (q:∀l us ds H',Same H H'->H l=none->H' l=some (.lst us)->RepL H' us ds->ds.length=x.length->Q (.ref l) H'):zcb (zaM 0) zik te src σ Q (Its x) H:=by
 refine zaY znY (λl i ys σ' H'=>(∃o,σ'=o::σr)/\(∃ds,RepL H' ys ds/\ds.length=i)/\Same H H') ?_ (λ_ _ _ _ _ _ _=>trivial) ?_ ?_
 ·exact λl h'=>⟨⟨none,e⟩,⟨[],RepL.nil,rfl⟩,Same.new h'⟩
 ·rintro l i y ys σ' H1 h' hi ⟨c,hc,rfl⟩ ⟨⟨o,rfl⟩,⟨ds,ry,hl⟩,s1⟩ hl'
  refine he c H1 _ ⟨hl',?_,⟨_,rfl⟩,⟨ds ++ [.str (f c)],(ry.append (.cons (.str _ (hf c)) .nil)).mono (.lset hl'),by rw[List.length_append,hl];rfl⟩,?_⟩
  ·have:=ry.1
   exact zm (by omega)
  ·exact λc o e=>by
    rw[zq (zy e h')]
    exact s1 _ _ e
 ·rintro l ys σ' H1 h' ⟨⟨o,rfl⟩,⟨ds,ry,hl⟩,s1⟩ hl'
  exact q l ys ds H1 s1 h' hl' ry hl
end
theorem zI{x:Str}(h:zi x=true):PyData.strOk x=true:=by
 unfold zi at h
 simp only[Bool.and_eq_true] at h
 have h2:=h.1.2
 unfold PyData.strOk
 rw[Array.all_eq_true']
 intro c hc
 have:=List.all_eq_true.mp h2 c (by simpa using hc)
 unfold zaW at this
 simp only[Bool.and_eq_true,decide_eq_true_eq] at this
 exact decide_eq_true (by omega)
noncomputable def zbR(p:Str×Str):PyData:= .tuple [.str p.1, .str p.2]
theorem zlb{H:Hp}{v:V}{p:Str×Str}(r:Rep H v (pairD p))(h1:zi p.1=true)(h2:zi p.2=true):Tr H v (zbR p):=by
 obtain⟨q,x,y,rfl,hq,r1,r2⟩:=r.of2
 cases r1 with|str _ _=>
 cases r2 with|str _ _=>
 refine .tup hq rfl λi v d e1 e2=>?_
 match i with
 |0=>cases e1;cases e2;exact .str _ (zI h1)
 |1=>cases e1;cases e2;exact .str _ (zI h2)
 |i+2=>cases e1
theorem zjj{H:Hp}{v:V}{ps:List (Str×Str)}(r:Rep H v (.tup (ps.map pairD)))(h:∀p∈ps,zi p.1=true/\zi p.2=true):Tr H v (.tuple (ps.map zbR)):=by
 obtain⟨q,vs,rfl,hq,rl,_⟩:=r.ofT
 refine .tup hq (by rw[rl.1,List.length_map,List.length_map]) λi v d e1 e2=>?_
 rw[List.getElem?_map] at e2
 cases e:ps[i]? with
 |none=>rw[e] at e2;cases e2
 |some p=>
  rw[e] at e2
  cases e2
  exact zlb (rl.2 i v (pairD p) e1 (by rw[List.getElem?_map,e];rfl)) (h p (List.mem_of_getElem? e)).1 (h p (List.mem_of_getElem? e)).2
theorem zdk{α:Type}[DecidableEq α]:∀{l m:List α},l.Nodup->(∀x∈l,x∈m)->l.length<=m.length
 |[],m,_,_=>Nat.zero_le _
 |a::l,m,hn,hs=>by
  have ha:=hs a List.mem_cons_self
  have:=zdk (l:=l) (m:=m.erase a) (List.nodup_cons.mp hn).2 λx hx=>(List.mem_erase_of_ne (λz:x=a=>(List.nodup_cons.mp hn).1 (by rw[←z];exact hx))).mpr (hs x (List.mem_cons_of_mem _ hx))
  rw[List.length_erase_of_mem ha] at this
  have:1<=m.length:=List.length_pos_of_mem ha
  rw[List.length_cons]
  omega
theorem TownOk.lp{g:Str}{hs:List Str}{ps:List (Str×Str)}{lks hds:List D}(T:TownOk g hs ps lks hds):ps.length<=100:=by
 have nd:ps.Nodup:=T.riseP.imp λ{a b} h z=>by rw[z,ziw] at h;cases h
 have:=zdk (m:=hs.flatMap λa=>hs.map λb=>(a,b)) nd λp hp=>by
  obtain⟨h1,h2,_⟩:=T.ties p hp
  exact List.mem_flatMap.mpr ⟨p.1,h1,List.mem_map.mpr ⟨p.2,h2,rfl⟩⟩
 have h2:=zjT (F:=λa=>hs.map λb=>(a,b)) (m:=10) (λa=>by rw[List.length_map];exact T.ten) hs
 have:=T.ten
 omega
theorem TownOk.tn{g:Str}{hs:List Str}{ps:List (Str×Str)}{lks hds:List D}(T:TownOk g hs ps lks hds):∀p∈ps,zi p.1=true/\zi p.2=true:=λp hp=>⟨T.names _ (T.ties p hp).1,T.names _ (T.ties p hp).2.1⟩
end RW
namespace RW
theorem zap{b:Bool}{X Y:Prop}(h:b=true)(x:X):if b=true then X else Y:=by rw[if_pos h];exact x
theorem zao{b:Bool}{X Y:Prop}(h:b=false)(y:Y):if b=true then X else Y:=by rw[if_neg (by rw[h];decide)];exact y
end RW
namespace L2
open PySem PySem.W PySem.Spec PyProof.Rows
section
variable{prog:Program}{w:World}{A:Around}{E:Value->Shared->Prop}{s:Shared}
theorem zji{r:Addr}{T:String}{o:Obj}{vs:List Value}{n:Nat}{R:List Value->Shared->Prop}(hT:T="list"\/T="tuple")(ho:s.heap.get? r=some o)(hc:o.cls= .type T)(hd:o.data= .seq vs.toArray n)(hz:vs.length<=sizeLine)
 (q:∀(h':Heap),(∀b o,s.heap.get? b=some o->h'.get? b=some o)->s.heap.objs.size<h'.objs.size->R vs {s with heap:=h'}):wpAny (model prog w) A (collect (.ref r)) R E s:=by
 have lt:=Heap.lt_size ho
 have hne:r≠s.heap.objs.size:=Nat.ne_of_lt lt
 have g0:(s.heap.push {cls:= .type "list",data:= .seq ([]:List Value).toArray}).get? s.heap.objs.size=some (seqObj "list" #[] 0):=Heap.get?_push_size _ rfl
 have gr:(s.heap.push {cls:= .type "list",data:= .seq ([]:List Value).toArray}).get? r=some o:=Heap.get?_push_of_some _ ho
 obtain⟨e1,g1⟩:∃e1,((s.heap.push {cls:= .type "list",data:= .seq ([]:List Value).toArray}).update s.heap.objs.size (Obj.mapSeq λx=>x ++vs.toArray)).get? s.heap.objs.size=some (seqObj "list" ((#[]:Array Value)++vs.toArray) e1):=⟨_,get?_update_seq g0 λx=>x ++vs.toArray⟩
 have u1:=Heap.SameBut.update (s.heap.push {cls:= .type "list",data:= .seq ([]:List Value).toArray}) s.heap.objs.size (Obj.mapSeq λx=>x ++vs.toArray)
 unfold collect
 refine wpAny_bind (wpAny_runValue (codeAny_builtin entry_proto_collect' (by
  rw[Around.under_plainId PySem.F.plain_proto_collect _]
  show wpAny _ A.in1 (newList []>>=λl=>again (.builtin "list.__iadd__" ⟨[l, .ref r],[]⟩)) _ _ s
  refine wpAny_bind (wpAny_newObj_type (wpAny_pure ⟨plainId_quiet PySem.F.plain_list_iadd _,codeAny_builtin entry_list_iadd' (by
   rw[Around.under_plainId PySem.F.plain_list_iadd _]
   show wpAny _ A.in1 (Builtin.List.listExtendWith (.ref s.heap.objs.size) (.ref r) (.ref s.heap.objs.size)) _ _ _
   unfold Builtin.List.listExtendWith
   have hty:({s with heap:=s.heap.push {cls:= .type "list",data:= .seq ([]:List Value).toArray}}:Shared).TypeIs (.ref r) T:=⟨o,gr,hc⟩
   refine wpAny_bind (wpAny_typeOf hty ?_)
   rw[if_pos (by rcases hT with rfl|rfl<;>simp)]
   refine wpAny_bind (listItems_at gr hd (wpAny_bind (listItems_at g0 rfl ?_)))
   rw[if_neg (by simp)]
   refine wpAny_bind (listUpdate_at g0 rfl ?_ (Nat.zero_le _) (by show((#[]:Array Value)++vs.toArray).size<=_;simp;omega))
   refine wpAny_pure ?_
   show wpAny _ A (load s.heap.objs.size>>=_) _ _ _
   refine wpAny_bind (wpAny_load g1 (wpAny_pure ?_))
   have ev:((#[]:Array Value)++vs.toArray).toList=vs:=by simp
   show R ((#[]:Array Value)++vs.toArray).toList _
   rw[ev]
   exact q _ (λb o e=>(u1.2 b (Nat.ne_of_lt (Heap.lt_size e))).trans (Heap.get?_push_of_some _ e)) (Heap.lt_size g1))⟩)))))
theorem zfS{l:Addr}{T:String}{o:Obj}{vs:List Value}{n:Nat}{ss:List Str}{Q:Value->Shared->Prop}(hT:T="list"\/T="tuple")(ho:s.heap.get? l=some o)(hc:o.cls= .type T)(hd:o.data= .seq vs.toArray n)(hS:StrsAre vs ss)(h64:vs.length<64)
 (q:∀(D:Addr) (out:Array Value) (ss':List Str) (h':Heap) (e:Nat),StrsAre out.toList ss'->ss'.Perm ss->sortedS ss'=true->(∀b o,s.heap.get? b=some o->h'.get? b=some o)->s.heap.objs.size<=D->h'.get? D=some (seqObj "list" out e)->Q (.ref D) {s with heap:=h'}):
 wpAny (model prog w) A (call (.builtin "sorted") [.ref l]) Q E s:=by
 refine Calls.call_function_entry kind_sorted plain_sorted entry_sorted (args_sorted1 _) ?_
 unfold Builtin.«sorted»
 refine wpAny_bind (m:=checkCount "sorted" 1 1 _) (wpAny_pure (wpAny_bind (zji hT ho hc hd (by rw[sizeLine_eq];omega) λh1 kp gr0=>?_)))
 refine wpAny_bind (wpAny_newList ?_ (by show vs.length<=_;rw[sizeLine_eq];omega))
 have hD:(h1.push (seqObj "list" vs.toArray 0)).get? h1.objs.size=some (seqObj "list" vs.toArray 0):=Heap.get?_push_size _ rfl
 have k2:∀b o,s.heap.get? b=some o->(h1.push (seqObj "list" vs.toArray 0)).get? b=some o:=λb o e=>Heap.get?_push_of_some _ (kp b o e)
 have gr:s.heap.objs.size<=h1.objs.size:=Nat.le_of_lt gr0
 show wpAny _ _ _ _ _ {s with heap:=h1.push (seqObj "list" vs.toArray 0)}
 refine wpAny_bind (wpAny_holding (wpAny_call_entry slot_list_sort ⟨_,hD,rfl⟩ entry_list_sort (list_sort_treeK strKind_oneLt (s:={s with heap:=h1.push (seqObj "list" vs.toArray 0)}) hD hS.keysOf (λv1 v2 rest e=>?_) h64 λst' hp hs=>?_) (args_list_sort _)))
 ·subst e
  exact keyKind_strs hS
 ·obtain ⟨ss',a1,a2,a3⟩:=sorted_out_str hS hp hs
  obtain⟨e,he⟩:=sortedHeap_at (h:=h1.push (seqObj "list" vs.toArray 0)) (vs:=vs) (out:=Array.map (λx=>x.snd) (arrOf st')) hD
  refine⟨_,rfl,wpAny_pure ⟨_,rfl,q h1.objs.size _ ss' _ e a1 a2 a3 (λb o hb=>?_) gr he⟩⟩
  have lb:=Heap.lt_size hb
  rw[sortedHeap_old (Nat.ne_of_lt (Nat.lt_of_lt_of_le lb gr)) (Heap.lt_size (k2 b o hb))]
  exact k2 b o hb
end
section
variable{X:Cx}{K:PySem.W.Frag}
def zps(K:PySem.W.Frag):List V->Hp->VK->Prop:=λxs H Q=>∃(p:Addr) (ss:List Str),xs=[.ref p]/\(SqL K H p (ss.map V.str)\/SqT K H p (ss.map V.str))/\ss.length<64/\∀(ss':List Str) l,ss'.Perm ss->sortedS ss'=true->H l=none->Q (.ref l) (upd H l (.lst (ss'.map V.str)))
theorem zcG:CallR X (.builtin "sorted") (zps X.K):=by
 intro pins s σ H xs us Q I r h
 obtain⟨p,ss,rfl,hq,h64,q⟩:=h
 obtain⟨u,rfl,ru⟩:=zdl r
 cases ru
 have key:∀{its:List Value} {T:String} {o:Obj} {n:Nat},T="list"\/T="tuple"->s.heap.get? p=some o->o.cls= .type T->o.data= .seq its.toArray n->Vals (ss.map V.str) its->wpAny (model X.prog X.w) X.A (call (.builtin "sorted") [.ref p]) (EP X pins σ Q) X.xe s:=by
  intro its T o n hT ho hc hd rv
  have hS:=zb9 rv
  have hl:=rv.length
  rw[List.length_map] at hl
  refine zfS hT ho hc hd hS (by omega) λD out ss' h' e a1 a2 a3 kp hD he=>?_
  refine⟨.ref D,_,I.laid (a:=D) (o:= .lst (ss'.map V.str)) (t':=s.toks) kp hD ⟨?_,out.toList,e,?_,?_⟩,rfl,q ss' D a2 a3 (I.hok.fresh hD)⟩
  ·rw[List.length_map,a2.length_eq];exact Nat.le_of_lt (zm (by omega))
  ·have mk:∀{vs:List Value} {zs:List Str},StrsAre vs zs->Vals (zs.map V.str) vs:=by
    intro vs zs h
    induction h with
    |nil=>exact .nil
    |cons x t _ ih=>exact .cons ⟨t,rfl⟩ ih
   exact mk a1
  ·rw[Array.toArray_toList];exact he
 rcases hq with hq|hq
 ·obtain ⟨its,rv,pl,hz⟩:=I.list hq
  obtain⟨o,ho,hc,n,hd⟩:=pl.isList
  exact key (.inl rfl) ho hc hd rv
 ·obtain ⟨its,rv,pl,hz⟩:=I.tuple hq
  obtain⟨o,ho,hc,n,hd⟩:=pl
  exact key (.inr rfl) ho hc hd rv
end
end L2
namespace RW
open PySem PySem.Spec PyProof.Rows L2
def HsAt(H:Hp)(v:V)(hs:List Str):Prop:=∃p,v= .ref p/\H p=some (.tup (hs.map V.str))/\hs.length<=10/\∀x∈hs,zi x=true
theorem HsAt.same{H H':Hp}{v:V}{hs:List Str}(h:HsAt H v hs)(s:Same H H'):HsAt H' v hs:=let⟨p,e,g,r⟩:=h;⟨p,e,s _ _ g,r⟩
theorem zd9{hs:List Str}{x:Str}:inV (.str x) (hs.map V.str)=hs.any λy=>decide (y=x):=by
 unfold inV
 rw[List.any_map]
 congr 1
theorem zcH{hs:List Str}:(hs.map V.str).all ze6=true:=by
 rw[List.all_map,List.all_eq_true]
 exact λ_ _=>rfl
theorem zbs{H:Hp}{v:V}{xs:List Str}(h:Rep H v (.tup (xs.map D.str))):∃p,v= .ref p/\H p=some (.tup (xs.map V.str)):=by
 obtain⟨p,vs,rfl,hp,r,_⟩:=h.ofT
 refine⟨p,rfl,?_⟩
 have e:vs=xs.map V.str:=by
  apply List.ext_getElem?
  intro i
  rcases Nat.lt_or_ge i xs.length with hi|hi
  ·have hv:i<vs.length:=by rw[r.1,List.length_map];exact hi
   have:=r.2 i vs[i] (.str xs[i]) (by simp[hv]) (by simp[hi])
   rw[List.getElem?_eq_getElem hv,List.getElem?_map,List.getElem?_eq_getElem hi]
   generalize vs[i]=z at this
   cases this
   rfl
  ·rw[List.getElem?_eq_none (by rw[r.1,List.length_map];exact hi),List.getElem?_eq_none (by rw[List.length_map];exact hi)]
 rw[←e];exact hp
theorem zkj{H:Hp}{v:V}{d1 d2 d3 d4 d5:D}(h:Rep H v (.tup [d1,d2,d3,d4,d5])):∃p x1 x2 x3 x4 x5,v= .ref p/\H p=some (.tup [x1,x2,x3,x4,x5])/\Rep H x1 d1/\Rep H x2 d2/\Rep H x3 d3/\Rep H x4 d4/\Rep H x5 d5:=by
 obtain⟨p,vs,rfl,hp,r,_⟩:=h.ofT
 match vs,r with
 |[x1,x2,x3,x4,x5],r=>exact ⟨p,x1,x2,x3,x4,x5,rfl,hp,r.head.1,r.head.2.head.1,r.head.2.head.2.head.1,r.head.2.head.2.head.2.head.1,r.head.2.head.2.head.2.head.2.head.1⟩
 |[],r=>exact absurd r.1 (by simp)
 |[_],r=>exact absurd r.1 (by simp)
 |[_,_],r=>exact absurd r.1 (by simp)
 |[_,_,_],r=>exact absurd r.1 (by simp)
 |[_,_,_,_],r=>exact absurd r.1 (by simp)
 |_::_::_::_::_::_::_,r=>exact absurd r.1 (by simp)
def zqE(H:Hp)(v:V)(g:Str)(hs:List Str)(ps:List (Str×Str))(lks hds:List D):Prop:=∃p pr pt pl pa vt vl va,v= .ref p/\H p=some (.tup [.str g, .ref pr, .ref pt, .ref pl, .ref pa])/\H pr=some (.tup (hs.map V.str))/\H pt=some (.tup vt)/\RepL H vt (ps.map RW.pairD)/\H pl=some (.tup vl)/\RepL H vl lks/\H pa=some (.tup va)/\RepL H va hds
theorem zcg{H:Hp}{v:V}{g:Str}{hs:List Str}{ps:List (Str×Str)}{lks hds:List D}(h:Rep H v (zcn g hs ps lks hds)):zqE H v g hs ps lks hds:=by
 obtain⟨p,x1,x2,x3,x4,x5,rfl,hp,r1,r2,r3,r4,r5⟩:=zkj h
 cases r1 with|str _ _=>
 obtain⟨pr,rfl,hpr⟩:=zbs r2
 obtain⟨pt,vt,rfl,hpt,rt,_⟩:=r3.ofT
 obtain⟨pl,vl,rfl,hpl,rl,_⟩:=r4.ofT
 obtain⟨pa,va,rfl,hpa,ra,_⟩:=r5.ofT
 exact⟨p,pr,pt,pl,pa,vt,vl,va,rfl,hp,hpr,hpt,rt,hpl,rl,hpa,ra⟩
noncomputable def zaD(ps:List (Str×Str))(x:Str):List Str:=(ps.filter λp=>decide (p.2=x)).map (·.1)++(ps.filter λp=>decide (p.1=x)).map (·.2)
theorem mem_nbrs{ps:List (Str×Str)}{x y:Str}:y∈zaD ps x↔(y,x)∈ps\/(x,y)∈ps:=by
 unfold zaD
 rw[List.mem_append,List.mem_map,List.mem_map]
 constructor
 ·rintro (⟨⟨a,b⟩,h,rfl⟩|⟨⟨a,b⟩,h,rfl⟩)
  ·obtain ⟨h1,h2⟩:=List.mem_filter.mp h
   have h2:b=x:=of_decide_eq_true h2
   subst h2
   exact .inl h1
  ·obtain ⟨h1,h2⟩:=List.mem_filter.mp h
   have h2:a=x:=of_decide_eq_true h2
   subst h2
   exact .inr h1
 ·rintro (h|h)
  ·exact .inl ⟨(y,x),List.mem_filter.mpr ⟨h,decide_eq_true rfl⟩,rfl⟩
  ·exact .inr ⟨(x,y),List.mem_filter.mpr ⟨h,decide_eq_true rfl⟩,rfl⟩
theorem TownOk.ps_nd{g:Str}{hs:List Str}{ps:List (Str×Str)}{lks hds:List D}(T:TownOk g hs ps lks hds):ps.Nodup:=T.riseP.imp λ{a b} h z=>by rw[z,ziw] at h;cases h
theorem TownOk.hs_nd{g:Str}{hs:List Str}{ps:List (Str×Str)}{lks hds:List D}(T:TownOk g hs ps lks hds):hs.Nodup:=T.rise.imp λ{a b} h z=>by rw[z,zf2] at h;cases h
theorem zpI{g:Str}{hs:List Str}{ps:List (Str×Str)}{lks hds:List D}(T:TownOk g hs ps lks hds)(x:Str):(zaD ps x).Nodup:=by
 have nd:=T.ps_nd
 unfold zaD
 rw[List.nodup_append]
 refine⟨?_,?_,?_⟩
 ·rw[List.nodup_iff_pairwise_ne,List.pairwise_map]
  refine List.Pairwise.imp_of_mem (λ{a b} ha hb hab z=>?_) (nd.filter _)
  have h1:a.2=x:=of_decide_eq_true (List.mem_filter.mp ha).2
  have h2:b.2=x:=of_decide_eq_true (List.mem_filter.mp hb).2
  exact hab (Prod.ext z (h1.trans h2.symm))
 ·rw[List.nodup_iff_pairwise_ne,List.pairwise_map]
  refine List.Pairwise.imp_of_mem (λ{a b} ha hb hab z=>?_) (nd.filter _)
  have h1:a.1=x:=of_decide_eq_true (List.mem_filter.mp ha).2
  have h2:b.1=x:=of_decide_eq_true (List.mem_filter.mp hb).2
  exact hab (Prod.ext (h1.trans h2.symm) z)
 ·intro y hy z hz e
  subst e
  obtain⟨a,ha,rfl⟩:=List.mem_map.mp hy
  obtain⟨b,hb,eb⟩:=List.mem_map.mp hz
  obtain⟨ha1,ha2⟩:=List.mem_filter.mp ha
  obtain⟨hb1,hb2⟩:=List.mem_filter.mp hb
  have h1:a.2=x:=of_decide_eq_true ha2
  have h2:b.1=x:=of_decide_eq_true hb2
  have l1:=(T.ties a ha1).2.2
  have l2:=(T.ties b hb1).2.2
  rw[h1] at l1
  rw[h2,eb] at l2
  have:=zhT l1
  rw[l2] at this
  cases this
theorem zpy{g:Str}{hs:List Str}{ps:List (Str×Str)}{lks hds:List D}(T:TownOk g hs ps lks hds){x y:Str}(h:y∈zaD ps x):y∈hs:=by
 rcases mem_nbrs.mp h with h|h
 ·exact (T.ties _ h).1
 ·exact (T.ties _ h).2.1
theorem zm8{g:Str}{hs:List Str}{ps:List (Str×Str)}{lks hds:List D}(T:TownOk g hs ps lks hds)(x:Str):(zaD ps x).length<=10:=Nat.le_trans (zdk (zpI T x) λy hy=>zpy T hy) T.ten
theorem zjK{x y:D}{r:List D}:zcf (x::y::r)=(ltD x y&&zcf (y::r)):=by
 unfold zcf
 show(List.range (r.length+1)).all _=_
 rw[List.range_succ_eq_map,List.all_cons,List.all_map]
 rfl
theorem zht:∀(xs:List Str),zcf (xs.map D.str)=true->xs.Pairwise (λa b=>ltS a b=true)
 |[],_=> .nil
 |[x],_=>List.pairwise_singleton _ _
 |x::y::r,h=>by
  rw[List.map_cons,List.map_cons,zjK,Bool.and_eq_true] at h
  have ih:=zht (y::r) h.2
  have hxy:ltS x y=true:=h.1
  refine List.pairwise_cons.mpr ⟨λz hz=>?_,ih⟩
  rcases List.mem_cons.mp hz with rfl|hz
  ·exact hxy
  ·exact zgF hxy ((List.pairwise_cons.mp ih).1 z hz)
theorem zkc{ss ws:List Str}(hp:ss.Perm ws)(hs:sortedS ss=true):zcf (ss.map D.str)=decide ws.Nodup:=by
 rw[Bool.eq_iff_iff,decide_eq_true_iff]
 constructor
 ·intro h
  have:=zht ss h
  exact hp.nodup_iff.mp (this.imp λ{a b} h z=>by rw[z,zf2] at h;cases h)
 ·intro h
  exact zmB (zid ss hs (hp.nodup_iff.mpr h))
noncomputable def zqV(g:Str)(ps:List (Str×Str))(ws:List Str):Bool:=decide (ws.getLast?=some g)&&decide ws.Nodup&&(List.range (ws.length -1)).all λk=>decide (ws.getD (k+1) ""∈zaD ps (ws.getD k ""))
noncomputable def zaV(g:Str)(hs:List Str)(ps:List (Str×Str))(d:D):Bool:=zaJ d 1 hs.length&&allB (zC hs) d&&zqV g ps (zgH d)
theorem zdX{hs:List Str}:∀{ds:List D},ds.all (zC hs)=true->∃ws:List Str,ds=ws.map D.str/\∀x∈ws,x∈hs
 |[],_=>⟨[],rfl,λ_ z=>nomatch z⟩
 |d::ds,h=>by
  rw[List.all_cons,Bool.and_eq_true] at h
  obtain⟨ws,rfl,hw⟩:=zdX h.2
  cases d with
  |str x=>
   have h1:=h.1
   have h2:(zi x&&hs.any λy=>decide (y=x))=true:=h1
   rw[Bool.and_eq_true] at h2
   obtain⟨y,hy,e⟩:=List.any_eq_true.mp h2.2
   have e:y=x:=of_decide_eq_true e
   subst e
   refine⟨y::ws,rfl,λz hz=>?_⟩
   rcases List.mem_cons.mp hz with rfl|hz
   ·exact hy
   ·exact hw z hz
  |_=>cases h.1
structure WayOk(g:Str)(hs:List Str)(ps:List (Str×Str))(ws:List Str):Prop where
 nd:ws.Nodup
 mem:∀x∈ws,x∈hs
 last:∃w0,ws=w0 ++ [g]
 tied:∀(i:Nat) (a b:Str),ws[i]?=some a->ws[i+1]?=some b->b∈zaD ps a
theorem WayOk.one{g:Str}{hs:List Str}{ps:List (Str×Str)}(h:g∈hs):WayOk g hs ps [g] where
 nd:=by simp
 mem:=λx hx=>by rw[List.mem_singleton.mp hx];exact h
 last:=⟨[],rfl⟩
 tied:=λi a b h1 h2=>by cases h2
theorem WayOk.more{g:Str}{hs:List Str}{ps:List (Str×Str)}{w0 x:Str}{ws:List Str}(W:WayOk g hs ps (w0::ws))(hx:x∈hs)(hn:x∉w0::ws)(ht:w0∈zaD ps x):WayOk g hs ps (x::w0::ws) where
 nd:=List.nodup_cons.mpr ⟨hn,W.nd⟩
 mem:=λy hy=>by
  rcases List.mem_cons.mp hy with rfl|hy
  ·exact hx
  ·exact W.mem y hy
 last:=by obtain⟨v,e⟩:=W.last;exact⟨x::v,by rw[e];rfl⟩
 tied:=λi a b h1 h2=>by
  cases i with
  |zero=>cases h1;cases h2;exact ht
  |succ i=>exact W.tied i a b h1 h2
theorem WayOk.len{g:Str}{hs:List Str}{ps:List (Str×Str)}{ws:List Str}(W:WayOk g hs ps ws):1<=ws.length/\ws.length<=hs.length:=by
 constructor
 ·obtain ⟨v,rfl⟩:=W.last
  simp
 ·exact zdk W.nd W.mem
theorem WayOk.ok{g:Str}{hs:List Str}{ps:List (Str×Str)}{ws:List Str}(W:WayOk g hs ps ws)(hn:∀x∈hs,zi x=true):zaV g hs ps (.tup (ws.map D.str))=true:=by
 obtain⟨l1,l2⟩:=W.len
 unfold zaV
 have e1:zaJ (.tup (ws.map D.str)) 1 hs.length=true:=by
  show(decide ((1:Int)<=((ws.map D.str).length:Int))&&decide (((ws.map D.str).length:Int)<=(hs.length:Int)))=true
  rw[List.length_map,decide_eq_true (by omega),decide_eq_true (by omega)];rfl
 have e2:allB (zC hs) (.tup (ws.map D.str))=true:=by
  show(ws.map D.str).all (zC hs)=true
  rw[List.all_map,List.all_eq_true]
  exact λx hx=>zgJ (W.mem x hx) (hn x (W.mem x hx))
 rw[e1,e2,RW.strs_map]
 unfold zqV
 have e3:ws.getLast?=some g:=by obtain⟨v,rfl⟩:=W.last;simp
 rw[decide_eq_true e3,decide_eq_true W.nd,List.all_eq_true.mpr λk hk=>?_];rfl
 have hk':=List.mem_range.mp hk
 refine decide_eq_true (W.tied k _ _ ?_ ?_)
 ·simp[List.getD,show k<ws.length by omega]
 ·simp[List.getD,show k+1<ws.length by omega]
theorem zoR{g:Str}{hs:List Str}{ps:List (Str×Str)}{d:D}(h:zaJ d 1 hs.length=false):zaV g hs ps d=false:=by
 unfold zaV;rw[h];rfl
theorem zlj{g:Str}{hs:List Str}{ps:List (Str×Str)}{d:D}(h:allB (zC hs) d=false):zaV g hs ps d=false:=by
 unfold zaV;rw[h];simp
theorem zra{g:Str}{hs:List Str}{ps:List (Str×Str)}{ds:List D}{d:D}(h:d∈ds)(e:zC hs d=false):zaV g hs ps (.tup ds)=false:=zlj (all_bad h e)
theorem zeE{J:It}{vs:List V}{ps:List (Str×Str)}{sel:Str×Str->Bool}{f:Str×Str->Str}{ok:Hp->Prop}{g:TG}{tc:TT}{te:TE}{H:Hp}{src:List (Option Nat)}{σ:L2.St}{Q:VK}(Iv:L2.St->Prop)(wk:Wk J vs.length (λi x=>vs[i]?=some x) ok)(hok:∀H',Same H H'->ok H')(r:RepL H vs (ps.map RW.pairD))(hl:ps.length<=900)(h0:Iv (zdo src σ))
 (hs:∀(q:Addr) (p:Str×Str) (σ':L2.St) (H1:Hp) (A:V->Hp->L2.St->Prop) (B:L2.St->Hp->Prop),Iv σ'->Same H H1->H1 q=some (.tup [.str p.1, .str p.2])->p∈ps->(∀σ2,Iv σ2->if sel p=true then A (.str (f p)) H1 σ2 else B σ2 H1)->g (.ref q) σ' H1 λσ2 H3=>tc σ2 H3 λb H4=>if b=true then te σ2 H4 (λy H5=>A y H5 σ2)else B σ2 H4)
 (q:∀l H',Same H H'->H l=none->H' l=some (.lst (((ps.filter sel).map f).map V.str))->Q (.ref l) H'):zcb g tc te src σ Q J H:=by
 refine zaY wk (λl i ys σ' H'=>Iv σ'/\ys=(((ps.take i).filter sel).map f).map V.str/\Same H H') ?_ ?_ ?_ ?_
 ·exact λl h'=>⟨h0,rfl,Same.new h'⟩
 ·exact λl i ys σ' H' _ p=>hok H' p.2.2
 ·rintro l i y ys σ' H1 h' hi hy ⟨iv,rfl,s1⟩ hl'
  obtain⟨d,hd,rd⟩:=r.get hy
  rw[List.getElem?_map] at hd
  cases hp:ps[i]? with
  |none=>rw[hp] at hd;cases hd
  |some p=>
   rw[hp] at hd
   cases hd
   obtain⟨q,x,y,rfl,hq,r1,r2⟩:=(rd.same s1).of2
   cases r1 with|str _ _=>
   cases r2 with|str _ _=>
   refine hs q p σ' H1 (λy H5 σ2=>H5 l=some (.lst ((((ps.take i).filter sel).map f).map V.str))/\((((ps.take i).filter sel).map f).map V.str).length<sizeLine/\Iv σ2/\(((ps.take i).filter sel).map f).map V.str ++ [y]=(((ps.take (i+1)).filter sel).map f).map V.str/\Same H (upd H5 l (.lst ((((ps.take i).filter sel).map f).map V.str ++ [y])))) (λσ2 H4=>H4 l=some (.lst ((((ps.take i).filter sel).map f).map V.str))/\Iv σ2/\(((ps.take i).filter sel).map f).map V.str=(((ps.take (i+1)).filter sel).map f).map V.str/\Same H H4) iv s1 hq (List.mem_of_getElem? hp) λσ2 iv2=>?_
   have tk:((ps.take (i+1)).filter sel)=((ps.take i).filter sel)++ [p].filter sel:=by rw[List.take_add_one,hp,List.filter_append];rfl
   cases hsel:sel p with
   |false=>
    refine zao rfl ⟨hl',iv2,?_,s1⟩
    rw[tk]
    simp[hsel]
   |true=>
    refine zap rfl ⟨hl',?_,iv2,?_,?_⟩
    ·rw[List.length_map,List.length_map]
     have h2:=List.length_filter_le sel (ps.take i)
     rw[List.length_take] at h2
     exact zm (by omega)
    ·rw[tk]
     simp[hsel]
    ·exact λc o e=>by
      rw[zq (zy e h')]
      exact s1 _ _ e
 ·rintro l ys σ' H1 h' ⟨iv,rfl,s1⟩ hl'
  have e:ps.length=vs.length:=by rw[r.1,List.length_map]
  rw[←e,List.take_length] at hl'
  exact q l H1 s1 h' hl'
theorem zdu{J:It}{vs:List V}{ds:List D}{g:D->Bool}{ok:Hp->Prop}{H:Hp}{te:TE}{src:List (Option Nat)}{σ σr:L2.St}{Q:VK}(wk:Wk J vs.length (λi x=>vs[i]?=some x) ok)(hok:∀H',Same H H'->ok H')(r:RepL H vs ds)(hl:ds.length<=1000)(e:zdo src σ=none::σr)
 (he:∀(x:V) (d:D) (H1:Hp) (Q1:VK),Same H H1->Rep H1 x d->d∈ds->(∀H2,Same H1 H2->Q1 (.bl (g d)) H2)->te (some x::σr) H1 Q1)
 (q:∀l H',Same H H'->H l=none->H' l=some (.lst ((ds.map g).map V.bl))->Q (.ref l) H'):zcb (zaM 0) zik te src σ Q J H:=by
 refine zaY wk (λl i ys σ' H'=>(∃o,σ'=o::σr)/\ys=((ds.take i).map g).map V.bl/\Same H H') ?_ ?_ ?_ ?_
 ·exact λl h'=>⟨⟨none,e⟩,rfl,Same.new h'⟩
 ·exact λl i ys σ' H' _ p=>hok H' p.2.2
 ·rintro l i y ys σ' H1 h' hi hy ⟨⟨o,rfl⟩,rfl,s1⟩ hl'
  obtain⟨d,hd,rd⟩:=r.get hy
  refine he y d H1 _ s1 (rd.same s1) (List.mem_of_getElem? hd) λH2 s2=>?_
  refine⟨s2 _ _ hl',?_,⟨_,rfl⟩,?_,?_⟩
  ·rw[List.length_map,List.length_map,List.length_take]
   exact zm (by omega)
  ·rw[List.take_add_one,hd]
   simp
  ·exact λc o e=>by
    rw[zq (zy e h')]
    exact s2 _ _ (s1 _ _ e)
 ·rintro l ys σ' H1 h' ⟨⟨o,rfl⟩,rfl,s1⟩ hl'
  rw[r.1,List.take_length] at hl'
  exact q l H1 s1 h' hl'
theorem zmX{d:D}{n:Nat}(h:zaJ d 1 n=true):∃ds,d= .tup ds/\1<=ds.length/\ds.length<=n:=by
 cases d with
 |tup ds=>
  simp[zaJ] at h
  exact⟨ds,rfl,by omega,by omega⟩
 |_=>cases h
theorem zqR{g:Str}{hs:List Str}{ps:List (Str×Str)}{w0:List Str}{z:Str}(h1:zaJ (.tup ((w0 ++ [z]).map D.str)) 1 hs.length=true)(h2:((w0 ++ [z]).map D.str).all (zC hs)=true):zaV g hs ps (.tup ((w0 ++ [z]).map D.str))=(decide (z=g)&&decide (w0 ++ [z]).Nodup&&(List.range ((w0 ++ [z]).length -1)).all λk=>decide ((w0 ++ [z]).getD (k+1) ""∈zaD ps ((w0 ++ [z]).getD k ""))):=by
 unfold zaV
 have h3:allB (zC hs) (.tup ((w0 ++ [z]).map D.str))=true:=h2
 rw[h1,h3,RW.strs_map]
 unfold zqV
 have e:(decide ((w0 ++ [z]).getLast?=some g))=decide (z=g):=by
  rw[List.getLast?_append]
  simp
 rw[e];rfl
theorem zfu{H:Hp}{us:List V}{xs:List Str}(r:RepL H us (xs.map D.str)):us=xs.map V.str:=by
 apply List.ext_getElem?
 intro i
 rcases Nat.lt_or_ge i xs.length with hi|hi
 ·have hv:i<us.length:=by rw[r.1,List.length_map];exact hi
  have:=r.2 i us[i] (.str xs[i]) (by simp[hv]) (by simp[hi])
  rw[List.getElem?_eq_getElem hv,List.getElem?_map,List.getElem?_eq_getElem hi]
  generalize us[i]=z at this
  cases this
  rfl
 ·rw[List.getElem?_eq_none (by rw[r.1,List.length_map];exact hi),List.getElem?_eq_none (by rw[List.length_map];exact hi)]
noncomputable def zdS(ps:List (Str×Str))(x:Str):List Str:=(ps.filter λp=>decide (p.1=x)).map (·.2)++(ps.filter λp=>decide (p.2=x)).map (·.1)
theorem zm1{ps:List (Str×Str)}{x y:Str}(h:y∈zdS ps x):(x,y)∈ps\/(y,x)∈ps:=by
 unfold zdS at h
 rw[List.mem_append,List.mem_map,List.mem_map] at h
 rcases h with⟨⟨a,b⟩,h,rfl⟩|⟨⟨a,b⟩,h,rfl⟩
 ·obtain ⟨h1,h2⟩:=List.mem_filter.mp h
  have h2:a=x:=of_decide_eq_true h2
  subst h2
  exact .inl h1
 ·obtain ⟨h1,h2⟩:=List.mem_filter.mp h
  have h2:b=x:=of_decide_eq_true h2
  subst h2
  exact .inr h1
theorem znq(ps:List (Str×Str))(x:Str):(zdS ps x).length<=2*ps.length:=by
 unfold zdS
 rw[List.length_append,List.length_map,List.length_map]
 have h1:=List.length_filter_le (λp:Str×Str=>decide (p.1=x)) ps
 have h2:=List.length_filter_le (λp:Str×Str=>decide (p.2=x)) ps
 omega
noncomputable def znZ(ws:List Str):D->Bool| .str x=>!(ws.any λy=>decide (y=x))|_=>false
theorem zjr{ws xs:List Str}:(xs.map D.str).filter (znZ ws)=(xs.filter λx=>!(ws.any λy=>decide (y=x))).map D.str:=by
 rw[List.filter_map];rfl
noncomputable def zaw(xs:List Str):List PyData:=xs.map PyData.str
theorem zoN{H:Hp}{l:Addr}{xs:List Str}(e:H l=some (.lst (xs.map V.str)))(h:∀x∈xs,PyData.strOk x=true):Tr H (.ref l) (.list (zaw xs)):=by
 refine .lst e (by unfold zaw;rw[List.length_map,List.length_map]) λi v d e1 e2=>?_
 unfold zaw at e2
 rw[List.getElem?_map] at e1 e2
 cases e3:xs[i]? with
 |none=>rw[e3] at e1;cases e1
 |some x=>
  rw[e3] at e1 e2
  cases e1
  cases e2
  exact .str x (h x (List.mem_of_getElem? e3))
theorem zoh{H:Hp}{l:Addr}(e:H l=some (.lst [])):Tr H (.ref l) (.list []):= .lst e rfl λi v d z=>by cases z
section
variable{X:Cx}{K:PySem.W.Frag}
end
section
variable{te tf:TE}{ta:TA}{σ:L2.St}{H:Hp}{d:D}{ds es:List D}{K:PySem.W.Frag}
end
theorem zhf{x:Str}(h:zi x=true):x.length<=8:=by
 unfold zi at h
 simp only[Bool.and_eq_true,decide_eq_true_eq] at h
 omega
section
variable{te tf:TE}{ta:TA}{tb:TS}{De:Ends}{σ:L2.St}{H:Hp}{d:D}{ds es:List D}{K:PySem.W.Frag}{k:Nat}
theorem znW{i:Nat}{v:V}(hv:σ[i]?=some (some v))(r:Rep H v (.tup ds)):Dsp (tSl (zm2 K) (zc7 i) zee (zhm (tUn (rU λi=> .int (-i)) (tC (.int 1))))) σ H (.tup (ds.take (ds.length -1))):=
 zly (lo:=none) (hi:=some (-1)) hv r (λ_ _ h=>zhE h) (λ_ _ h=>zow h) λvs hl=>by
  refine⟨0,ds.length -1,?_,by rw[List.drop_zero]⟩
  unfold zbu
  have e1:HT.sIx vs.length vs.length (some (-1))=ds.length -1:=by
   unfold HT.sIx
   have h:(-1:Int)<0:=by omega
   simp only[if_pos h];omega
  have e2:HT.sIx vs.length 0 none=0:=rfl
  rw[e1,e2];rfl
end
theorem zjR{p q:Str×Str}:(zbR p).eqv (zbR q)=decide (p=q):=by
 unfold zbR
 rw[PyData.eqv,PyData.eqvAll,PyData.eqvAll,PyData.eqvAll,PyData.eqv,PyData.eqv]
 obtain⟨a,b⟩:=p
 obtain⟨c,d⟩:=q
 rw[Bool.eq_iff_iff,decide_eq_true_iff,Prod.mk.injEq]
 simp
theorem zi1{ps:List (Str×Str)}{q:Str×Str}:((ps.map zbR).any λz=>z.eqv (zbR q))=decide (q∈ps):=by
 rw[List.any_map,Bool.eq_iff_iff,decide_eq_true_iff,List.any_eq_true]
 constructor
 ·rintro ⟨p,hp,e⟩
  have e:(zbR p).eqv (zbR q)=true:=e
  rw[zjR] at e
  rw[←of_decide_eq_true e];exact hp
 ·exact λh=>⟨q,h,by show(zbR q).eqv (zbR q)=true;rw[zjR];exact decide_eq_true rfl⟩
theorem zgE(p:Str×Str):(zbR p).depth<=60:=by
 unfold zbR
 rw[PyData.depth,PyData.depthAll,PyData.depthAll,PyData.depthAll,PyData.depth,PyData.depth];decide
theorem zm9{H:Hp}{p:Addr}{x y:Str}(e:H p=some (.tup [.str x, .str y]))(h1:zi x=true)(h2:zi y=true):Tr H (.ref p) (zbR (x,y)):=
 zlb (p:=(x,y)) (.mk2 e (.str x (Nat.le_trans (zhf h1) (by decide))) (.str y (Nat.le_trans (zhf h2) (by decide)))) h1 h2
theorem zfJ:∀{xs ys:List Str},PyData.eqvAll (zaw xs) (zaw ys)=decide (xs=ys)
 |[],[]=>by unfold zaw;rw[List.map_nil,PyData.eqvAll];rfl
 |[],y::ys=>by unfold zaw;rw[List.map_nil,List.map_cons,PyData.eqvAll];rfl
 |x::xs,[]=>by unfold zaw;rw[List.map_nil,List.map_cons,PyData.eqvAll];rfl
 |x::xs,y::ys=>by
  have ih:=zfJ (xs:=xs) (ys:=ys)
  unfold zaw at ih⊢
  rw[List.map_cons,List.map_cons,PyData.eqvAll,PyData.eqv,ih,Bool.eq_iff_iff,decide_eq_true_iff,List.cons.injEq]
  simp
theorem zek:∀{xs:List Str},PyData.depthAll (zaw xs)<=1
 |[]=>by unfold zaw;rw[List.map_nil,PyData.depthAll];decide
 |x::xs=>by
  have ih:=zek (xs:=xs)
  unfold zaw at ih⊢
  rw[List.map_cons,PyData.depthAll,PyData.depth]
  omega
end RW
namespace L2
open PySem PySem.Spec PyProof.Rows
structure FunD(K:PySem.W.Frag)(x qual:Str)(st:Stmt)(f:Addr)(fd:FuncData):Prop where
 ex:∃(oc:Value) (od:Option Addr) (dt:Addr) (kV doc pm:Value) (an:Option Addr) (cdv ct:Value) (osl:Array (Option Value)) (od2:Option Addr) (n2:Nat) (sl2:Array (Option Value)),
  fd=PySem.W.fnOf x qual (zw st) (zu st) (zg st) (.ref dt) kV doc pm an cdv ct/\K.lookup f=some ⟨oc,od, .func fd,osl⟩/\PySem.W.codeIn K cdv qual=true/\K.lookup dt=some ⟨.type "tuple",od2, .seq #[.none] n2,sl2⟩
 kp:PySem.W.keepIn K (.ref f)=true
section
variable{P:Program}{w:World}{K:PySem.W.Frag}{mg:Str->Option Value}{base:Heap}
theorem FunD.okQ{x qual:Str}{st:Stmt}{f:Addr}{fd:FuncData}{N ps:List Str}{k:Nat}{sp:Sp}(F:FunD K x qual st f fd)(S:FnScope N ps (zg st))(len:∀vs H Q E,sp vs H Q E->vs.length=ps.length)
 (hbody:∀(cdv:Value) (A:Around) (outer:List Env) (s:Shared) (H:Hp) (vs:List V) (Q:VK) (E:XK),Room k (A.deeper (envOfC qual (zg st) s.heap.objs.size f cdv))->sp vs H Q E->
   ∃t,QB (zjp CX0 P w K mg base N qual (zg st) f cdv A outer s H E).nox (zu st) t/\t {nx:=λ_ H'=>Q .non H',rt:=Q} (zej N vs) H):FnOk P w K mg base CX0 (k+1) f fd ps sp:=by
 obtain⟨oc,od,dt,kV,doc,pm,an,cdv,ct,osl,od2,n2,sl2,rfl,lk,hcd,ld⟩:=F.ex
 refine zqi lk hcd S len λA outer s H vs Q E hr hsp=>?_
 obtain⟨t,h,q⟩:=hbody cdv A outer s H vs Q E hr hsp
 exact⟨t,h.o.nox,q⟩
theorem zkX{x qual:Str}{st:Stmt}{f dt:Addr}{oc:Value}{od an od2:Option Addr}{osl sl2:Array (Option Value)}{n2:Nat}{kV doc pm cdv ct:Value}(l:K.lookup f=some ⟨oc,od, .func (PySem.W.fnOf x qual (zw st) (zu st) (zg st) (.ref dt) kV doc pm an cdv ct),osl⟩)
 (ld:K.lookup dt=some ⟨.type "tuple",od2, .seq #[.none] n2,sl2⟩) (c:PySem.W.codeIn K cdv qual=true) (k:PySem.W.keepIn K (.ref f)=true):FunD K x qual st f (PySem.W.fnOf x qual (zw st) (zu st) (zg st) (.ref dt) kV doc pm an cdv ct):=⟨⟨oc,od,dt,kV,doc,pm,an,cdv,ct,osl,od2,n2,sl2,rfl,l,c,ld⟩,k⟩
theorem FunD.binds{x qual:Str}{st:Stmt}{f:Addr}{fd:FuncData}{ps:List Str}{ds:List Value}(F:FunD K x qual st f fd)(m:Nat)(hm:ps.length=m+ds.length)
 (h:∀(dt:Addr) (kV doc pm:Value) (an:Option Addr) (cdv ct:Value) (us:List Value),us.length=m->∃k:Option (Array Value)->Sem (List (Str×Value)),bindArgs (PySem.W.fnOf x qual (zw st) (zu st) (zg st) (.ref dt) kV doc pm an cdv ct) ⟨us,[]⟩=seqItems? (.ref dt)>>=k/\k (some #[.none])=pure (ps.zip (us ++ds))):Binds K fd ps ds:=by
 obtain⟨oc,od,dt,kV,doc,pm,an,cdv,ct,osl,od2,n2,sl2,rfl,lk,hcd,ld⟩:=F.ex
 intro s us kin hl
 obtain⟨k,e1,e2⟩:=h dt kV doc pm an cdv ct us (by rw[List.length_append] at hl;omega)
 exact BindsTo.of_defaults (T:=dt) rfl (kin _ _ ld) rfl e1 e2
end
end L2
namespace RW
open PySem PySem.Spec PyProof.Rows L2
structure AtD(K:PySem.W.Frag)(mg:Str->Option Value)(x:Str)(st:Stmt)(ps:List Str)(f:Addr)(fd:FuncData):Prop where
 fn:FunD K x x st f fd
 b:Binds K fd ps []
 bd:Binds K fd ps [.none]
 mg:mg x=some (.ref f)
 kp:PySem.W.keepIn K (.ref f)=true
noncomputable def zal(O:List Str):D->Bool| .tup [_, .str x]=>decide (x∈O)|_=>true
noncomputable def zb8(O:List Str):D->Bool| .tup [.str w,e]=>if w="not"then zal O e else zal O (.tup [.str w,e])|_=>true
noncomputable def zpx(O:List Str):D->Bool| .tup ds=>ds.all (zb8 O)|_=>true
noncomputable def zgn(O:List Str):D->Bool| .tup [c,t]=>zpx O c&&zal O t|_=>true
noncomputable def zc0(O:List Str):D->Bool| .tup ds=>ds.all (zgn O)|_=>true
structure Pool(hs:List Str)(lks hds:List D)(O:List Str):Prop where
 few:O.length<=14
 nm:∀x∈O,zi x=true
 hs:∀x∈hs,x∈O
 lk:∀d∈lks,zc0 O d=true
 hd:∀d∈hds,zc0 O d=true
noncomputable def zj3(O:List Str)(d:D):Bool:=zav d&&zgn O d
noncomputable def zkE(O:List Str)(d:D):Bool:=zcC d&&zgn O d
theorem zbf{O:List Str}{y:D}{x:Str}(h:x∈O):zal O (.tup [y, .str x])=true:=decide_eq_true h
theorem zim{O:List Str}{w:Str}{e:D}(h:zP (.tup [.str w,e])=true)(hp:zal O (.tup [.str w,e])=true):zb8 O (.tup [.str w,e])=true:=by
 show(if w="not"then _ else _)=true
 by_cases z:w="not"
 ·subst z;rw[zdm] at h;cases h
 ·rw[if_neg z];exact hp
theorem zlS{O:List Str}{d:D}(h:zP d=true)(hp:zal O d=true):zb8 O d=true:=by
 obtain⟨x,e,rfl⟩:=zcU d h
 exact zim h hp
theorem zj4{O:List Str}{d:D}(hp:zal O d=true):zb8 O (.tup [.str "not",d])=true:=by
 show(if("not":Str)="not"then zal O d else zal O (.tup [.str "not",d]))=true
 rw[if_pos rfl];exact hp
theorem zhI{O:List Str}{ds:List D}{t:D}(h:∀d∈ds,zb8 O d=true)(ht:zal O t=true):zgn O (.tup [.tup ds,t])=true:=by
 show(ds.all (zb8 O)&&zal O t)=true
 rw[List.all_eq_true.mpr h,ht];rfl
end RW
namespace L2
open PySem PySem.Spec PyProof.Rows
section
variable{X:Cx}{pos:Pos}{pins:List (Addr×Obj)}{σ:St}{H:Hp}{s:Shared}
end
end L2
namespace RW
open PySem PySem.Spec PyProof.Rows L2
noncomputable def phB(ws ms:List Str)(to:Option Str)(w:Str)(x:D):Bool:=
 if w="by"then (match x with| .str y=>ws.any λz=>decide (z=y)|_=>false)
 else if w="from"then (match x with| .str y=>decide (ws[1]?=some y)|_=>false)
 else if w="to"then (match x with| .str y=>decide (to=some y)|_=>false)
 else if w="mark"then (match x with| .str y=>ms.any λz=>decide (z=y)|_=>false)
 else(match x with| .int i=>decide (i<(ws.length:Int))|_=>false)
noncomputable def zcW(ws ms:List Str)(to:Option Str):D->Bool| .tup [.str w,x]=>phB ws ms to w x|_=>false
noncomputable def za9(ws ms:List Str)(to:Option Str):D->Bool| .tup [.str w,x]=>if w="not"then !zcW ws ms to x else phB ws ms to w x|_=>false
def TO(v:V)(to:Option Str):Prop:=(v= .non/\to=none)\/∃x,v= .str x/\to=some x/\zi x=true
theorem zat{x:Str}{e:D}(h:zP (.tup [.str x,e])=true):(x="long"/\∃i:Int,e= .int i/\0<=i/\i<=99)\/(x∈namingL/\∃y,e= .str y/\zi y=true):=by
 rw[zeQ] at h
 by_cases z:x="long"
 ·rw[if_pos z] at h
  cases e with
  |int i=>
   have h:(decide (0<=i)&&decide (i<=99))=true:=h
   rw[Bool.and_eq_true,decide_eq_true_iff,decide_eq_true_iff] at h
   exact .inl ⟨z,i,rfl,h.1,h.2⟩
  |_=>cases h
 ·rw[if_neg z,Bool.and_eq_true] at h
  obtain⟨h1,h2⟩:=h
  obtain⟨y,hy,ey⟩:=List.any_eq_true.mp h1
  have ey:y=x:=of_decide_eq_true ey
  subst ey
  cases e with
  |str y'=>exact .inr ⟨hy,y',rfl,h2⟩
  |_=>cases h2
theorem zeY{x:Str}(h:x∈namingL):x="by"\/x="from"\/x="to"\/x="mark":=by
 unfold namingL at h
 simpa using h
theorem zqo{ws ms:List Str}{to:Option Str}{y:Str}:phB ws ms to "by" (.str y)=ws.any λz=>decide (z=y):=by
 unfold phB;rw[if_pos rfl]
theorem zlK{ws ms:List Str}{to:Option Str}{y:Str}:phB ws ms to "from" (.str y)=decide (ws[1]?=some y):=by
 unfold phB;rw[if_neg (by decide +kernel),if_pos rfl]
theorem zp8{ws ms:List Str}{to:Option Str}{y:Str}:phB ws ms to "to" (.str y)=decide (to=some y):=by
 unfold phB;rw[if_neg (by decide +kernel),if_neg (by decide +kernel),if_pos rfl]
theorem zhL{ws ms:List Str}{to:Option Str}{y:Str}:phB ws ms to "mark" (.str y)=ms.any λz=>decide (z=y):=by
 unfold phB;rw[if_neg (by decide +kernel),if_neg (by decide +kernel),if_neg (by decide +kernel),if_pos rfl]
theorem zlI{ws ms:List Str}{to:Option Str}{i:Int}:phB ws ms to "long" (.int i)=decide (i<(ws.length:Int)):=by
 unfold phB;rw[if_neg (by decide +kernel),if_neg (by decide +kernel),if_neg (by decide +kernel),if_neg (by decide +kernel)]
theorem TO.eq{v:V}{to:Option Str}{y:Str}(h:TO v to):zqK v (.str y)=true/\decide (v= .str y)=decide (to=some y):=by
 rcases h with⟨rfl,rfl⟩|⟨x,rfl,rfl,_⟩
 ·exact ⟨rfl,rfl⟩
 ·refine ⟨rfl,?_⟩
  rw[zag,Bool.eq_iff_iff,decide_eq_true_iff,decide_eq_true_iff,Option.some.injEq]
noncomputable def eqD(y:Str):D->Bool| .str z=>decide (z=y)|_=>false
theorem zih{ws:List Str}{y:Str}{us:List V}{H:Hp}(r:RepL H us (((ws.map D.str).filter (eqD y)).map λd=>d)):decide ((0:Int)<(us.length:Int))=ws.any λz=>decide (z=y):=by
 have l:=r.1
 rw[List.length_map,List.filter_map,List.length_map] at l
 rw[l,Bool.eq_iff_iff,decide_eq_true_iff,List.any_eq_true]
 constructor
 ·intro h
  have h:0<(ws.filter (eqD y∘D.str)).length:=by omega
  obtain⟨z,hz⟩:=List.exists_mem_of_length_pos h
  obtain⟨h1,h2⟩:=List.mem_filter.mp hz
  exact⟨z,h1,h2⟩
 ·rintro ⟨z,h1,h2⟩
  have:=List.length_pos_of_mem (List.mem_filter.mpr ⟨h1,h2⟩:z∈ws.filter (eqD y∘D.str))
  omega
theorem zcx{H:Hp}{p:Addr}{xs:List Str}(e:H p=some (.tup (xs.map V.str)))(h:∀x∈xs,PyData.strOk x=true):Tr H (.ref p) (.tuple (zaw xs)):=by
 refine .tup e (by unfold zaw;rw[List.length_map,List.length_map]) λi v d e1 e2=>?_
 unfold zaw at e2
 rw[List.getElem?_map] at e1 e2
 cases e3:xs[i]? with
 |none=>rw[e3] at e1;cases e1
 |some x=>
  rw[e3] at e1 e2
  cases e1
  cases e2
  exact .str x (h x (List.mem_of_getElem? e3))
theorem zdg{xs ys:List Str}:(PyData.tuple (zaw xs)).eqv (.tuple (zaw ys))=decide (xs=ys):=by
 rw[PyData.eqv,zfJ]
theorem zbg{xs:List Str}:(PyData.tuple (zaw xs)).depth<=60:=by
 have:=zek (xs:=xs)
 rw[PyData.depth]
 omega
theorem zn8{xs:List V}(h:1<=xs.length):zbu xs (some 1) (some 2)=(xs.drop 1).take 1:=by
 unfold zbu HT.sIx
 simp only[show¬((1:Int)<0) by omega,show¬((2:Int)<0) by omega,if_false]
 rcases Nat.lt_or_ge 1 xs.length with z|z
 ·rw[show min (Int.toNat 1) xs.length=1 by omega,show min (Int.toNat 2) xs.length=2 by omega]
 ·match xs,h,z with
  |[a],_,_=>rfl
  |[],h,_=>exact absurd h (by simp)
  |_::_::_,_,z=>exact absurd z (by simp)
theorem zmk{ws:List Str}{y:Str}:decide ((ws.drop 1).take 1=[y])=decide (ws[1]?=some y):=by
 rw[Bool.eq_iff_iff,decide_eq_true_iff,decide_eq_true_iff]
 match ws with
 |[]=>simp
 |[a]=>simp
 |a::b::r=>simp
theorem TO.notN{v:V}{to:Option Str}(h:TO v to):(v= .non/\to=none)\/∃x,v= .str x/\to=some x:=h.imp id λ⟨x,a,b,_⟩=>⟨x,a,b⟩
noncomputable def zeP(c:D->Bool)(g:List Str->List Str->Option Str->D->Bool):Sp:=λvs H Q _=>∃(v:V) (d:D) (pw pm:Addr) (vt:V) (ws ms:List Str) (to:Option Str),vs=[v, .ref pw, .ref pm,vt]/\Rep H v d/\c d=true/\H pw=some (.tup (ws.map V.str))/\H pm=some (.tup (ms.map V.str))/\TO vt to/\(∀x∈ws,zi x=true)/\(∀x∈ms,zi x=true)/\1<=ws.length/\ws.length<=100/\ms.length<=100/\∀H',Same H H'->Q (.bl (g ws ms to d)) H'
theorem zjz{c:D}(h:zbl c=true):∃cs,c= .tup cs/\cs.length<=4/\∀d∈cs,zQ d=true:=by
 cases c with
 |tup cs=>
  rw[ziM,Bool.and_eq_true] at h
  exact⟨cs,rfl,of_decide_eq_true h.1,List.all_eq_true.mp h.2⟩
 |_=>cases h
theorem zmZ{d:D}{f:D->D->Bool}(h:(match d with| .tup [c,x]=>f c x|_=>false)=true):∃c x,d= .tup [c,x]/\f c x=true:=by
 split at h
 ·exact ⟨_,_,rfl,h⟩
 ·cases h
theorem zfk{d:D}(h:zav d=true):∃cs x,d= .tup [.tup cs,x]/\cs.length<=4/\(∀c∈cs,zQ c=true)/\(x= .non\/∃i,x= .int i):=by
 unfold zav at h
 obtain⟨c,x,rfl,h⟩:=zmZ (f:=λc x=>zbl c&&zdi x&&!zf4 c) h
 rw[Bool.and_eq_true,Bool.and_eq_true] at h
 obtain⟨cs,rfl,h4,hc⟩:=zjz h.1.1
 refine⟨cs,x,rfl,h4,hc,?_⟩
 have hx:=h.1.2
 cases x with
 |non=>exact .inl rfl
 |int i=>exact .inr ⟨i,rfl⟩
 |_=>cases hx
theorem zon{x:D}(h:zcS x=true):(x= .tup [.str "keep"])\/∃w y,x= .tup [.str w, .str y]/\(w="put"\/w="strike")/\zi y=true:=by
 unfold zcS at h
 split at h
 ·rename_i w
  exact .inl (by rw[of_decide_eq_true h])
 ·rename_i w y
  rw[Bool.and_eq_true,Bool.or_eq_true] at h
  have h2:=h.2
  cases y with
  |str y=>exact .inr ⟨w,y,rfl,h.1.imp of_decide_eq_true of_decide_eq_true,h2⟩
  |_=>cases h2
 ·cases h
theorem zll{d:D}(h:zcC d=true):∃cs x,d= .tup [.tup cs,x]/\cs.length<=4/\(∀c∈cs,zQ c=true)/\zcS x=true:=by
 unfold zcC at h
 obtain⟨c,x,rfl,h⟩:=zmZ (f:=λc x=>zbl c&&zcS x) h
 rw[Bool.and_eq_true] at h
 obtain⟨cs,rfl,h4,hc⟩:=zjz h.1
 exact⟨cs,x,rfl,h4,hc,h.2⟩
theorem zmL{O:List Str}{cs:List D}{t:D}(h:zgn O (.tup [.tup cs,t])=true):(∀c∈cs,zb8 O c=true)/\zal O t=true:=by
 have h:(cs.all (zb8 O)&&zal O t)=true:=h
 rw[Bool.and_eq_true] at h
 exact⟨List.all_eq_true.mp h.1,h.2⟩
section
variable{te tf:TE}{ta:TA}{tb:TS}{De:Ends}{σ:L2.St}{H:Hp}{d:D}{ds es:List D}{K:PySem.W.Frag}{k:Nat}
end
end RW
namespace HT
open PySem PySem.Spec PyProof.Rows
section
variable{prog:Program}{w:World}{A:Around}{E:Value->Shared->Prop}{s:Shared}
theorem zfA:∀{vs:List Value} {ys:List Str},StrsAre vs ys->vs.length=ys.length/\∀(i:Nat) (y:Str),ys[i]?=some y->∃t,vs[i]?=some (.str y t)
 |_,_, .nil=>⟨rfl,λi y h=>by simp at h⟩
 |_,_, .cons y t r=>by
  obtain⟨h1,h2⟩:=zfA r
  refine⟨by simp[h1],λi z h=>?_⟩
  cases i with
  |zero=>cases h;exact⟨t,rfl⟩
  |succ i=>exact h2 i z h
theorem index_tup{t:Addr}{items:Array Value}{ys:List Str}{x:Str}{tk:Tok}{j:Nat}{Q:Value->Shared->Prop}(ht:IsTup s.heap t items)(hS:StrsAre items.toList ys)(hj:ys[j]?=some x)(hb:∀i<j,ys[i]?≠some x)
 (h:∀(t':Tok) (k:Nat),Q (.int j t') {s with toks:=k}):wpAny (model prog w) A (call (.builtin "tuple.index") [.ref t, .str x tk]) Q E s:=by
 refine wpAny_call_entry PySem.F.slot_tuple_index ht.typeIs PySem.F.entry_tuple_index ?_ (PySem.F.args_tuple_index_2 _ _)
 unfold Builtin.«tuple.index»
 refine wpAny_bind (m:=selfAndSome "tuple.index" "index" 1 3 _) (wpAny_pure ?_)
 dsimp only
 refine wpAny_bind (tupleItemsOf_ ht ?_)
 refine wpAny_bind (wpAny_pure ?_)
 refine wpAny_bind (wpAny_pure ?_)
 obtain⟨hl,hg⟩:=zfA hS
 have hjn:j<items.size:=by
  rw[←Array.length_toList,hl]
  rcases Nat.lt_or_ge j ys.length with z|z
  ·exact z
  ·rw[List.getElem?_eq_none z] at hj;cases hj
 rw[Std.Legacy.Range.forIn_eq_forIn_range']
 refine wpAny_bind (wpAny_forIn_list _ (λl b s'=>∃i,l=List.range' i (items.size -i) 1/\i<=j/\b=(none,())/\s'=s) _ ?_ ?_ _ _ ?_)
 ·rintro a rest b s' ⟨i,el,hij,rfl,rfl⟩
  obtain⟨m,em⟩:∃m,items.size -i=m+1:=⟨items.size -i -1,by omega⟩
  rw[em,List.range'_succ] at el
  have ea:=(List.cons.inj el).1
  have er:=(List.cons.inj el).2
  subst er
  rw[ea]
  have hiy:i<ys.length:=by rw[←hl,Array.length_toList];omega
  obtain⟨t1,e1⟩:=hg i ys[i] (by simp[hiy])
  have e2:items[i]?=some (.str ys[i] t1):=by rw[←Array.getElem?_toList];exact e1
  rw[e2]
  dsimp only
  refine wpAny_bind (wpAny_eqBool_str ?_)
  rcases Nat.lt_or_ge i j with z|z
  ·have ne:¬ys[i]=x:=λy=>hb i z (by rw[←y];simp[hiy])
   rw[decide_eq_false ne]
   exact wpAny_pure ⟨i+1,by rw[show items.size -(i+1)=m by omega],by omega,rfl,rfl⟩
  ·have ei:i=j:=by omega
   subst ei
   have ey:ys[i]=x:=by
    have:ys[i]?=some ys[i]:=by simp[hiy]
    rw[this] at hj;exact Option.some.inj hj
   rw[decide_eq_true ey]
   refine wpAny_bind (m:=retInt _) (wpAny_bind (wpAny_mkInt (wpAny_pure (wpAny_pure ?_))))
   exact wpAny_pure ⟨_,rfl,h _ _⟩
 ·rintro b s' ⟨i,el,hij,rfl,rfl⟩
  have:=congrArg List.length el
  rw[List.length_range',List.length_nil] at this
  omega
 ·exact ⟨0,by simp[Std.Legacy.Range.size],Nat.zero_le _,rfl,rfl⟩
end
section
variable{prog:Program}{w:World}{A:Around}{E:Value->Shared->Prop}{s:Shared}
theorem zeI{it d:Addr}{i:Nat}{items:Array Value}{x:Value}{Q:Value->Shared->Prop}(y:s.heap.IsTupleIter it d i)(ht:s.heap.IsTuple d items)(hx:items[i]?=some x)
 (q:∀h',h'.IsTupleIter it d (i+1)->Heap.SameBut it s.heap h'->Q x {s with heap:=h'}):wpAny (model prog w) A (Builtin.SmallTypes.nextOf (.ref it)) Q E s:=by
 obtain⟨o,ho,hc,hd⟩:=id y
 obtain⟨od,hod,hcd,n,hdd⟩:=id ht
 unfold Builtin.SmallTypes.nextOf
 refine wpAny_bind (wpAny_callSpecial?_slot (name:=Str.ofString "__next__") ⟨o,ho,hc⟩ PySem.F.slot_tuple_iterator_next (wpAny_call_entry PySem.F.slot_tuple_iterator_next ⟨o,ho,hc⟩ PySem.F.entry_tuple_iterator_next ?_ (PySem.F.args_tuple_iterator_next_1 _)))
 show wpAny _ _ (slotArgs "__next__" 0 _>>=_) _ _ s
 refine wpAny_bind (m:=slotArgs "__next__" 0 _) (wpAny_pure ?_)
 dsimp only
 refine wpAny_bind (wpAny_field ho hd (x:= .ref d) rfl ?_)
 rw[if_neg (λz=>nomatch z)]
 refine wpAny_bind (wpAny_field ho hd (x:= .int i 0) rfl ?_)
 dsimp only
 rw[seqItems?.eq_1]
 refine wpAny_bind (wpAny_bind (wpAny_load hod ?_))
 rw[hdd]
 refine wpAny_pure ?_
 dsimp only
 rw[Int.toNat_natCast,hx]
 dsimp only
 refine wpAny_bind (wpAny_setField ho hd (by simp) ?_)
 refine wpAny_pure ⟨_,rfl,wpAny_pure (q _ ⟨_,Heap.get?_update_self _ ho (Obj.isFreed_of_fields (Obj.data_mapFields hd _)),(Obj.cls_mapFields ..).trans hc,?_⟩ (Heap.SameBut.update ..))⟩
 rw[Obj.data_mapFields hd];simp[rawInt]
theorem zfi{it d:Addr}{i:Nat}{items:Array Value}{Q:Value->Shared->Prop}(hh:A.handled=none)(y:s.heap.IsTupleIter it d i)(ht:s.heap.IsTuple d items)(hx:items[i]?=none)
 (q:∀(h':Heap) (e:Addr),Heap.ExtBut it s.heap h'->(∃o,h'.get? e=some o/\o.cls= .type "StopIteration")->E (.ref e) {s with heap:=h'}):wpAny (model prog w) A (Builtin.SmallTypes.nextOf (.ref it)) Q E s:=by
 obtain⟨o,ho,hc,hd⟩:=id y
 obtain⟨od,hod,hcd,n,hdd⟩:=id ht
 unfold Builtin.SmallTypes.nextOf
 refine wpAny_bind (wpAny_callSpecial?_slot (name:=Str.ofString "__next__") ⟨o,ho,hc⟩ PySem.F.slot_tuple_iterator_next (wpAny_call_entry PySem.F.slot_tuple_iterator_next ⟨o,ho,hc⟩ PySem.F.entry_tuple_iterator_next ?_ (PySem.F.args_tuple_iterator_next_1 _)))
 show wpAny _ _ (slotArgs "__next__" 0 _>>=_) _ _ s
 refine wpAny_bind (m:=slotArgs "__next__" 0 _) (wpAny_pure ?_)
 dsimp only
 refine wpAny_bind (wpAny_field ho hd (x:= .ref d) rfl ?_)
 rw[if_neg (λz=>nomatch z)]
 refine wpAny_bind (wpAny_field ho hd (x:= .int i 0) rfl ?_)
 dsimp only
 rw[seqItems?.eq_1]
 refine wpAny_bind (wpAny_bind (wpAny_load hod ?_))
 rw[hdd]
 refine wpAny_pure ?_
 dsimp only
 rw[Int.toNat_natCast,hx]
 dsimp only
 refine wpAny_bind (wpAny_rule ?_)
 refine wpAny_bind (wpAny_setField ho hd (by simp) ?_)
 show wpAny _ _ (newExc (.type "StopIteration") []>>=_) _ _ _
 refine wpAny_bind (by
  simp only[newExc,newTuple]
  refine wpAny_bind (wpAny_newObj_type (wpAny_bind (m:=firstArgMember _ _) (wpAny_of_eq (a:=Value.none) (by first|rfl|(simp only[firstArgMember];rfl)) (wpAny_newObj_type ?_ (by size_fits)))) (by size_fits))
  simp only[raiseNew]
  refine wpAny_bind (wpAny_handled ?_)
  rw[show A.in1.handled=none from hh]
  refine wpAny_bind (wpAny_pure (wpAny_throw ?_))
  exact q _ _ (((Heap.SameBut.update ..).extBut.push _).push _) ⟨_,Heap.get?_push_size _ rfl,rfl⟩)
theorem draws_tuple(hh:A.handled=none)(it l:Addr)(hne:l≠it)(items:Array Value):Draws prog w A it [it,l] items.size (λi v=>items[i]?=some v) (λi h=>h.IsTupleIter it l i/\h.IsTuple l items) where
 live:=λi h st=>let ⟨o,e,_⟩:=st.1;⟨o,e⟩
 frame:=λi h h' st k=>⟨st.1.at λo e=>k it (by simp) o e,let⟨o,e,r⟩:=st.2;⟨o,k l (by simp) o e,r⟩⟩
 item:=λi s Q E hi st q=>zeI st.1 st.2 (x:=items[i]) (by simp[hi]) λh' y' sb=>q _ h' s.toks (by simp[hi]) ⟨y',let⟨o,e,r⟩:=st.2;⟨o,(sb.2 l hne).trans e,r⟩⟩ sb
 done:=λs Q E st q=>zfi hh st.1 st.2 (by simp) q
end
section
variable{prog:Program}{w:World}{A:Around}{E:Value->Shared->Prop}{s:Shared}
theorem zgD(l:Addr)(items:Array Value):Meets (Builtin.«enumerate.__new__» {pos:=[Value.type "enumerate",Value.ref l]}) λ_ R s=>
 s.heap.IsTuple l items/\R (Except.ok (Flow.ret (Value.ref (s.heap.objs.size+1)))) {s with heap:=(s.heap.push {cls:=Value.type "tuple_iterator",data:=Data.fields #[Value.ref l,Value.int 0 0]}).push {cls:=Value.type "enumerate",data:=Data.fields #[Value.none,Value.bool false,Value.ref s.heap.objs.size,rawInt 0,Value.none,Value.none]}}:=by
 intro prog w A R s h
 unfold Builtin.«enumerate.__new__»
 refine wpAny_bind (m:=Builtin.SmallTypes.newClass "enumerate" _) ?_
 unfold Builtin.SmallTypes.newClass
 dsimp only
 refine wpAny_bind (wpAny_of_eq (a:=true) rfl ?_)
 rw[if_neg (by decide)]
 rw[sub_enumerate]
 refine wpAny_bind (wpAny_pure ?_)
 rw[if_neg (by decide)]
 refine wpAny_pure ?_
 dsimp only
 rw[if_pos (by decide)]
 unfold Builtin.SmallTypes.calledThroughType
 refine wpAny_bind (wpAny_bind (wpAny_stack_any λst=>wpAny_pure ?_))
 have key:∀{B:Sem (Value×Option Value)} {F:Value×Option Value->Sem PySem.Fin},B=pure (Value.ref l,none)->F (Value.ref l,none)=(do
  let it ←pyIter (Value.ref l)
  let r ←Builtin.SmallTypes.newRecord (Value.type "enumerate") (Builtin.SmallTypes.ownedTupleFields ++ [it,rawInt 0,Value.none,Value.none])
  ret r)->wpAny (model prog w) A.in1 (B>>=F) (λfin s'=>match fin with
  |Fin.done f=>R (Except.ok f) s'
  |Fin.again c'=>c'.quiet=true/\codeAny (model prog w) A c' R s') (λe s'=>R (Except.error e) s') s:=by
  intro B F e1 e2
  rw[e1]
  refine wpAny_bind (wpAny_pure ?_)
  rw[e2]
  refine wpAny_bind (wpAny_pyIter_tuple h.1 ?_)
  refine wpAny_bind ?_
  unfold Builtin.SmallTypes.newRecord
  refine wpAny_newObj_type (wpAny_pure ?_) (show(6:Nat)<=sizeLine+2 by decide)
  rw[show(s.heap.push {cls:=Value.type "tuple_iterator",data:=Data.fields #[Value.ref l,Value.int 0 0]}).objs.size=s.heap.objs.size+1 by simp[Heap.push]]
  exact h.2
 split<;>(try split)<;>exact key rfl rfl
theorem call_enum_tuple{l:Addr}{items:Array Value}{Q:Value->Shared->Prop}(ht:s.heap.IsTuple l items)
 (q:∀h',IsEnum h' (s.heap.objs.size+1) s.heap.objs.size 0 Value.none->h'.IsTupleIter s.heap.objs.size l 0->h'.objs.size=s.heap.objs.size+2->(∀(b:Addr) (o:Obj),s.heap.get? b=some o->h'.get? b=some o)->Q (.ref (s.heap.objs.size+1)) {s with heap:=h'}):
 wpAny (model prog w) A (call (.type "enumerate") [.ref l]) Q E s:=by
 refine callType_new PySem.F.called_enumerate (by decide) (PySem.F.typeCall_enumerate_1 _) (PySem.F.newCall_enumerate_1 _) ?_ PySem.F.entry_enumerate_new (zgD l items) ⟨ht,?_⟩
 ·exact λobj=>PySem.F.args_object_init_2 _ _
 ·have e1:(s.heap.push {cls:=Value.type "tuple_iterator",data:=Data.fields #[Value.ref l,Value.int 0 0]}).objs.size=s.heap.objs.size+1:=by simp[Heap.push]
  have g1:((s.heap.push {cls:=Value.type "tuple_iterator",data:=Data.fields #[Value.ref l,Value.int 0 0]}).push {cls:=Value.type "enumerate",data:=Data.fields #[Value.none,Value.bool false,Value.ref s.heap.objs.size,rawInt 0,Value.none,Value.none]}).get? (s.heap.objs.size+1)=some {cls:=Value.type "enumerate",data:=Data.fields #[Value.none,Value.bool false,Value.ref s.heap.objs.size,rawInt 0,Value.none,Value.none]}:=by
   rw[←e1];exact Heap.get?_push_size _ rfl
  exact⟨⟨_,g1,rfl⟩,q _ g1 ⟨_,Heap.get?_push_of_some _ (Heap.get?_push_size _ rfl),rfl,rfl⟩ (by simp[Heap.push]) λb o e=>Heap.get?_push_of_some _ (Heap.get?_push_of_some _ e)⟩
end
end HT
namespace L2
open PySem PySem.Spec PyProof.Rows
section
variable{X:Cx}{K:PySem.W.Frag}
def zpP(K:PySem.W.Frag):V->List V->Hp->VK->Prop:=λx vs H Q=>∃(p:Addr) (ys:List Str) (y:Str) (j:Nat),x= .ref p/\vs=[.str y]/\SqT K H p (ys.map V.str)/\ys[j]?=some y/\(∀i<j,ys[i]?≠some y)/\Q (.int (j:Int)) H
theorem zhy:MtR X "tuple.index" (zpP X.K):=by
 intro pins s σ H x xs v us Q I rx rs h
 obtain⟨p,ys,y,j,rfl,rfl,hq,hj,hb,q⟩:=h
 cases rx
 obtain⟨u,rfl,ru⟩:=zdl rs
 obtain⟨t,rfl⟩:=ru
 obtain⟨its,rv,pl,hz⟩:=I.tuple hq
 exact HT.index_tup pl (by simpa using zb9 rv) hj hb λt' k=>⟨.int _,H,I.tok _,⟨_,rfl⟩,q⟩
noncomputable def Ite(K:PySem.W.Frag)(a:Addr)(n:Nat):It:=
 ⟨λi H=>∃xs x,SqT K H a xs/\xs.length=n/\xs[i]?=some x,λi H x H'=>∃T y,x= .ref T/\H T=none/\(∀xs,SqT K H a xs->xs[i]?=some y)/\H'=upd H T (.tup [.int (i:Int),y]),λi H=>∃xs,SqT K H a xs/\xs.length=n/\n<=i⟩
theorem zhj{P:Program}{w:World}{K:PySem.W.Frag}{elts:List Expr}{k:Nat}{pos:Pos}(a e it:Addr)(n:Nat)(hne:e≠it):
 Turn P w K (.Tuple elts k pos) (Ite K a n) [e,it] e (λi h=>i<=n/\(∃old,IsEnum h e it (i:Int) old)/\h.IsTupleIter it a i) where
 mem:=by simp
 obj:=λi h st b hb=>by
  obtain⟨_,⟨old,he⟩,o,e',c,d⟩:=st
  rcases List.mem_cons.mp hb with rfl|hb
  ·exact ⟨_,he,λv z=>by cases z⟩
  ·have:b=it:=by simpa using hb
   subst this
   exact⟨o,e',λv z=>by rw[d] at z;cases z⟩
 keep:=λi h h' st kk=>⟨st.1,let⟨old,he⟩:=st.2.1;⟨old,kk e (by simp) _ he⟩,st.2.2.at λo e'=>kk it (by simp) o e'⟩
 item:=by
  intro X hP hw hK hc i pins s σ H E I hf st hg
  subst hP hw hK
  obtain⟨xs,x,hq,hn,hx⟩:=hg
  obtain⟨its,rv,p,hz⟩:=I.tuple hq
  obtain⟨u,hu,ru⟩:=rv.get hx
  have pT:s.heap.IsTuple a its.toArray:=p
  have hil:i<its.length:=by
   rcases Nat.lt_or_ge i its.length with z|z
   ·exact z
   ·rw[List.getElem?_eq_none z] at hu;cases hu
  have hlen:its.length=n:=by rw[←rv.length];exact hn
  obtain⟨o1,ho1,hc1,_⟩:=id pT
  have na1:a≠it:=λz=>by
   obtain⟨o2,ho2,hc2,_⟩:=st.2.2
   rw[z,ho2] at ho1;cases ho1;rw[hc2] at hc1;injection hc1 with hc1;exact absurd hc1 (by decide)
  have na2:a≠e:=λz=>by
   obtain⟨old,he⟩:=st.2.1
   rw[z,he] at ho1;cases ho1;injection hc1 with hc1;exact absurd hc1 (by decide)
  obtain⟨f0,f1,f2,f3,f4,f5⟩:=hf e (by simp)
  obtain⟨g0,g1,g2,g3,g4,g5⟩:=hf it (by simp)
  have W:=WalksT.enumerateD (HT.draws_tuple (prog:=X.prog) (w:=X.w) (A:=X.A.in1) (I.ok.hd hc) it a na1 its.toArray) e hne (by simp[hne,Ne.symm na2]) (by simp)
  obtain⟨old,he⟩:=st.2.1
  unfold pyNext
  refine wpAny_bind (wpAny_attempt (wpAny_callSpecial?_slot (name:=Str.ofString "__next__") ⟨_,he,rfl⟩ PySem.F.slot_enumerate_next (wpAny_call_entry PySem.F.slot_enumerate_next ⟨_,he,rfl⟩ PySem.F.entry_enumerate_next (enumerate_next_itemD (HT.draws_tuple (prog:=X.prog) (w:=X.w) (A:=X.A.in1) (I.ok.hd hc) it a na1 its.toArray) he ⟨st.2.2,pT⟩ (by simpa using hil) hne (by simp[hne,Ne.symm na2]) λx' h' t hx' hOut hSt hTo hsz hk0=>?_) (PySem.F.args_enumerate_next_1 _))))
  refine wpAny_pure ?_
  obtain⟨tk,htk⟩:∃tk,tk=t+1:=⟨_,rfl⟩
  rw[←htk]
  obtain⟨T,hTT⟩:∃T,T=s.heap.objs.size:=⟨_,rfl⟩
  have hk:∀(b:Addr) (o:Obj),b∉ [e,it]->s.heap.get? b=some o->h'.get? b=some o:=λb o hb q=>hk0 b o (λz=>hb (by simp[z])) (λz=>hb (by simp[z])) q
  rw[←hTT] at hOut hTo⊢
  have hT:s.heap.objs.size<=T:=Nat.le_of_eq hTT.symm
  have hTup:h'.IsTuple T #[Value.int (i:Int) t,x']:=⟨_,hTo,rfl,_,rfl⟩
  have nTe:T≠e:=λz=>by have:=Heap.lt_size he;rw[←z,hTT] at this;exact absurd this (Nat.lt_irrefl _)
  have nTi:T≠it:=λz=>by obtain⟨o2,ho2,_⟩:=st.2.2;have:=Heap.lt_size ho2;rw[←z,hTT] at this;exact absurd this (Nat.lt_irrefl _)
  have hMid:(∃x,IsEnumOut h' e it ((i:Int)+1) x T)/\(h'.IsTupleIter it a (i+1)/\h'.IsTuple a its.toArray)/\T≠e/\T≠it:=⟨⟨_,hOut⟩,hSt,nTe,nTi⟩
  have ex:x'=u:=by
   have:its.toArray[i]?=some u:=by simpa using hu
   rw[this] at hx';exact(Option.some.inj hx').symm
  subst ex
  refine⟨_,rfl,W.go elts k pos i T {s with heap:=h',toks:=tk} _ _ hMid λh2 st2 hk2=>?_⟩
  have nT:T∉ [e,it]:=W.apart i T h' hMid
  have fT:H T=none:=I.hok.fresh hT
  have ltT:∀{b o},s.heap.get? b=some o->b≠T:=λq z=>by
   have:=Heap.lt_size q
   rw[z] at this
   exact absurd (Nat.lt_of_lt_of_le this hT) (Nat.lt_irrefl _)
  have hTup2:h2.IsTuple T #[Value.int (i:Int) t,x']:=by
   obtain⟨o,ho,r⟩:=hTup
   exact⟨o,hk2 T o nT ho,r⟩
  have hND:NoDict h2 T:=λo q=>by rw[hk2 T _ nT hTo] at q;cases q;rfl
  have kk:∀b o,b∉ [e,it]->s.heap.get? b=some o->h2.get? b=some o:=λb o hb q=>hk2 b o hb (hk b o hb q)
  have neT:∀{b u'},H b=some u'->b≠T:=λq z=>by rw[z,fT] at q;cases q
  refine⟨.ref T,upd H T (.tup [.int (i:Int),x]),?_,rfl,⟨T,x,rfl,fT,λys hy=>by rw[I.tuple_inj hy hq];exact hx,rfl⟩,⟨by omega,st2.1,st2.2.1⟩,λb hb=>?_⟩
  ·show Inv X pins σ _ {s with heap:=h2,gens:=s.gens,drawn:=s.drawn,toks:=tk}
   refine Inv.step (s:=s) (h':=h2) (t':=tk) (g':=s.gens) (d':=s.drawn) (ch:=[e,it]) I (λb hb=>?_) (λb o _ _ hc e' _=>kk b o hc e') (λb o _ _ hc e' _=>⟨o.slots,kk b o hc e'⟩) (λb o _ e' z=>by rw[zq (ltT e')];exact z) (λb o hc e'=>⟨o,kk b o hc e'⟩) (λb xs z=>by rw[zq (neT z)];exact z) (λb o u' z=>by rw[zq (neT z)];exact z) (λb ps z=>⟨#[],by rw[zq (neT z),z];simp⟩) (λm hm=>?_) (λb u' z=>?_) I.bare
   ·rcases List.mem_cons.mp hb with rfl|hb
    ·exact ⟨f3,f1,f4,f5⟩
    ·have:b=it:=by simpa using hb
     subst this
     exact⟨g3,g1,g4,g5⟩
   ·obtain ⟨o,es,ep,ho,r⟩:=hm
    refine⟨o,es,ep,kk _ o (λz=>?_) ho,r⟩
    rcases List.mem_cons.mp z with z|z
    ·exact f1 z.symm
    ·exact g1 ((by simpa using z:X.env.locals=it).symm)
   ·by_cases hb:b=T
    ·subst hb
     rw[zd] at z
     cases z
     exact⟨few rfl,[Value.int (i:Int) t,x'], .cons ⟨t,rfl⟩ (.cons ru .nil),hTup2,hND⟩
    ·rw[zq hb] at z
     refine(I.hok b u' z).stay (λc v hc q=>kk c v (λy=>?_) q) (λc q=>by rw[zq (neT q)];exact q) λc xs q=>by rw[zq (neT q)];exact q
     have:∃u2,H c=some u2:=by
      rcases hc with rfl|hc
      ·exact ⟨_,z⟩
      ·exact ⟨_,hc⟩
     obtain⟨u2,hu2⟩:=this
     rcases List.mem_cons.mp y with rfl|y
     ·rw[f0] at hu2;cases hu2
     ·have:c=it:=by simpa using y
      subst this
      rw[g0] at hu2;cases hu2
  ·have:b≠T:=λz=>nT (by rw[←z];exact hb)
   rw[zq this]
   exact(hf b hb).1
 done:=by
   intro X hP hw hK hc i pins s σ H E I hf st hg
   subst hP hw hK
   obtain⟨xs,hq,hn,hx⟩:=hg
   obtain⟨its,rv,p,hz⟩:=I.tuple hq
   have pT:s.heap.IsTuple a its.toArray:=p
   have hlen:its.length=n:=by rw[←rv.length];exact hn
   have ei:i=its.toArray.size:=by have:=st.1;simp;omega
   obtain⟨o1,ho1,hc1,_⟩:=id pT
   have na1:a≠it:=λz=>by
    obtain⟨o2,ho2,hc2,_⟩:=st.2.2
    rw[z,ho2] at ho1;cases ho1;rw[hc2] at hc1;injection hc1 with hc1;exact absurd hc1 (by decide)
   have na2:a≠e:=λz=>by
    obtain⟨old,he⟩:=st.2.1
    rw[z,he] at ho1;cases ho1;injection hc1 with hc1;exact absurd hc1 (by decide)
   obtain⟨f0,f1,f2,f3,f4,f5⟩:=hf e (by simp)
   obtain⟨g0,g1,g2,g3,g4,g5⟩:=hf it (by simp)
   have W:=WalksT.enumerateD (HT.draws_tuple (prog:=X.prog) (w:=X.w) (A:=X.A.in1) (I.ok.hd hc) it a na1 its.toArray) e hne (by simp[hne,Ne.symm na2]) (by simp)
   subst ei
   refine W.done s _ _ ⟨st.2.1,st.2.2,pT⟩ λh' tk kk=>⟨rfl,?_⟩
   refine I.step (g':=s.gens) (d':=s.drawn) (ch:=[e,it]) (λb hb=>?_) (λb o _ _ hc e' _=>kk b o hc e') (λb o _ _ hc e' _=>⟨o.slots,kk b o hc e'⟩) (λ_ _ _ _ z=>z) (λb o hc e'=>⟨o,kk b o hc e'⟩) (λ_ _ z=>z) (λ_ _ _ z=>z) (λb ps z=>⟨#[],by rw[z];simp⟩) (λm hm=>?_) (λb u' z=>?_) I.bare
   ·rcases List.mem_cons.mp hb with rfl|hb
    ·exact ⟨f3,f1,f4,f5⟩
    ·have:b=it:=by simpa using hb
     subst this
     exact⟨g3,g1,g4,g5⟩
   ·obtain ⟨o,es,ep,ho,r⟩:=hm
    refine⟨o,es,ep,kk _ o (λz=>?_) ho,r⟩
    rcases List.mem_cons.mp z with z|z
    ·exact f1 z.symm
    ·exact g1 ((by simpa using z:X.env.locals=it).symm)
   ·refine (I.hok b u' z).stay (λc v hc q=>kk c v (λy=>?_) q) (λc q=>q) λc xs q=>q
    have:∃u2,H c=some u2:=by
     rcases hc with rfl|hc
     ·exact ⟨_,z⟩
     ·exact ⟨_,hc⟩
    obtain⟨u2,hu2⟩:=this
    rcases List.mem_cons.mp y with rfl|y
    ·rw[f0] at hu2;cases hu2
    ·have:c=it:=by simpa using y
     subst this
     rw[g0] at hu2;cases hu2
 self:=λA i s Q E st h=>by
  obtain⟨_,⟨old,he⟩,_⟩:=st
  refine wpAny_pyIter_slot (T:="enumerate") ⟨_,he,rfl⟩ PySem.F.slot_enumerate_iter (wpAny_call_entry PySem.F.slot_enumerate_iter ⟨_,he,rfl⟩ PySem.F.entry_enumerate_iter ?_ (PySem.F.args_enumerate_iter_1 _))
  unfold Builtin.«dict_keyiterator.__iter__»
  refine wpAny_bind (wpAny_pure (wpAny_pure ⟨_,rfl,"enumerate",_,⟨_,he,rfl⟩,PySem.F.slot_enumerate_next.lookup,h⟩))
noncomputable def zrV(K:PySem.W.Frag)(ta:TA):TI:=λσ H R=>ta σ H λvs H1=>∃a xs,vs=[.ref a]/\SqT K H1 a xs/\R (Ite K a xs.length) H1
theorem zj2{elts:List Expr}{k:Nat}{pos2:Pos}{a:Expr}{ta:TA}{p pos:Pos}(hm:X.mg "enumerate"=none)(ha:QA X [a] ta)(hg:Gl X "enumerate":=by rfl)(hs:starEach [a] X.env=[(false,eval a X.env)]:=by rfl):QI X (.Tuple elts k pos2) (.Call (.Name "enumerate" p) [a] [] pos) (zrV X.K ta):=⟨by
 intro pins s σ H R I h
 refine Call_ (zdT I hg hm boot_enumerate (PyProof.Rows.callWith_type1 (thn (ha.o pos pins s σ H _ I h) λus s1 ⟨vs,H1,I1,r1,q1⟩=>?_) hs rfl))
 obtain⟨l,xs,rfl,hq,q⟩:=q1
 obtain⟨u,rfl,ru⟩:=zdl r1
 cases ru
 obtain⟨its,rv,pl,hz⟩:=I1.tuple hq
 refine HT.call_enum_tuple (show s1.heap.IsTuple l its.toArray from pl) λh' he hit hsz kk=>?_
 have ne1:s1.heap.objs.size+1≠s1.heap.objs.size:=by omega
 refine(zhj (P:=X.prog) (w:=X.w) (K:=X.K) (elts:=elts) (k:=k) (pos:=pos2) l (s1.heap.objs.size+1) s1.heap.objs.size xs.length ne1).self X.A 0 _ _ _ ⟨Nat.zero_le _,⟨_,he⟩,hit⟩ ?_
 refine⟨s1.heap.objs.size+1,[s1.heap.objs.size+1,s1.heap.objs.size],_,_,H1,rfl,I1.kept (t':=s1.toks) kk,zhj l _ _ xs.length ne1,⟨Nat.zero_le _,⟨_,he⟩,hit⟩,λb hb=>?_,q⟩
 have hb':s1.heap.objs.size<=b:=by
  rcases List.mem_cons.mp hb with z|z
  ·rw[z];exact Nat.le_succ _
  ·have z:b=s1.heap.objs.size:=by simpa using z
   rw[z];exact Nat.le_refl _
 exact I1.fpOk hb' (I1.hok.fresh hb')⟩
end
end L2
namespace RW
open PySem PySem.Spec PyProof.Rows L2
theorem zm6{K:PySem.W.Frag}{a:Addr}{xs:List V}{g:TG}{tc:TT}{te:TE}{src:List (Option Nat)}{σ:L2.St}{H1:Hp}{Q:VK}(Pv:Addr->Nat->List V->L2.St->Hp->Prop)
 (h0:∀l,H1 l=none->Pv l 0 [] (zdo src σ) (upd H1 l (.lst []))) (hok:∀l i ys σ H,H1 l=none->Pv l i ys σ H->SqT K H a xs)
 (hs:∀l i x ys σ H T,H1 l=none->i<xs.length->xs[i]?=some x->Pv l i ys σ H->H l=some (.lst ys)->H T=none->g (.ref T) σ (upd H T (.tup [.int ((i:Nat):Int),x])) λσ2 H3=>tc σ2 H3 λb H4=>
   if b=true then te σ2 H4 λy H5=>H5 l=some (.lst ys)/\ys.length<sizeLine/\Pv l (i+1) (ys ++ [y]) σ2 (upd H5 l (.lst (ys ++ [y])))else H4 l=some (.lst ys)/\Pv l (i+1) ys σ2 H4)
 (hd:∀l ys σ H,H1 l=none->Pv l xs.length ys σ H->H l=some (.lst ys)->Q (.ref l) H):zcb g tc te src σ Q (Ite K a xs.length) H1:=by
 intro l hl
 refine⟨λi m ys σ H=>m=xs.length -i/\i<=xs.length/\Pv l i ys σ H,⟨xs.length,by simp,Nat.zero_le _,h0 l hl⟩,?_⟩
 rintro i m ys σ' H' ⟨rfl,hi,p⟩ hl'
 by_cases hlt:i<xs.length
 ·refine .inr ⟨⟨xs,xs[i],hok l i ys σ' H' hl p,rfl,by simp[hlt]⟩,Pv l (i+1),λzs σ2 H2 q=>⟨xs.length -(i+1),by omega,rfl,hlt,q⟩,λx H2 y=>?_⟩
  obtain⟨T,v,rfl,hT,hv,rfl⟩:=y
  exact hs l i v ys σ' H' T hl hlt (hv xs (hok l i ys σ' H' hl p)) p hl' hT
 ·have e:i=xs.length:=by omega
  subst e
  exact .inl ⟨⟨xs,hok l _ ys σ' H' hl p,rfl,Nat.le_refl _⟩,hd l ys σ' H' hl p hl'⟩
theorem ziV{hs:List Str}(nd:hs.Nodup){x:Str}{i j:Nat}(h1:hs[i]?=some x)(h2:hs[j]?=some x):i=j:=by
 have lt:∀{k:Nat},hs[k]?=some x->k<hs.length:=λ{k} z=>by
  rcases Nat.lt_or_ge k hs.length with y|y
  ·exact y
  ·rw[List.getElem?_eq_none y] at z;cases z
 have l1:=lt h1
 have l2:=lt h2
 rw[List.getElem?_eq_getElem l1] at h1
 rw[List.getElem?_eq_getElem l2] at h2
 have e:hs[i]=hs[j]:=(Option.some.inj h1).trans (Option.some.inj h2).symm
 have pw:=List.pairwise_iff_getElem.mp nd
 rcases Nat.lt_trichotomy i j with z|z|z
 ·exact absurd e (pw i j l1 l2 z)
 ·exact z
 ·exact absurd e.symm (pw j i l2 l1 z)
noncomputable def zg2(i:Nat):V:= .int (i:Int)
noncomputable def zdh(hs:List Str)(x:Str)(n:Nat):List Nat:=(List.range n).filter λi=>decide (hs[i]?=some x)
theorem zmo{hs:List Str}{x:Str}{n:Nat}{y:Str}(h:hs[n]?=some y):zdh hs x (n+1)=zdh hs x n ++(if y=x then [n] else []):=by
 unfold zdh
 rw[List.range_succ,List.filter_append]
 congr 1
 by_cases z:y=x
 ·rw[if_pos z];simp[h,z]
 ·rw[if_neg z];simp[h,z]
theorem zje{hs:List Str}(nd:hs.Nodup){x:Str}{j:Nat}(h:hs[j]?=some x):∀n,j<n->zdh hs x n=[j]:=by
 have key:∀i,hs[i]?=some x↔i=j:=λi=>⟨λz=>ziV nd z h,λz=>by rw[z];exact h⟩
 have small:∀n,n<=j->zdh hs x n=[]:=λn hn=>by
  unfold zdh
  rw[List.filter_eq_nil_iff]
  intro i hi
  have:=List.mem_range.mp hi
  simp[key];omega
 intro n hn
 induction n with
 |zero=>omega
 |succ n ih=>
  unfold zdh at ih⊢
  rw[List.range_succ,List.filter_append]
  rcases Nat.lt_or_ge j n with z|z
  ·rw[ih z]
   have:¬hs[n]?=some x:=λy=>by have:=(key n).mp y;omega
   simp[this]
  ·have e:n=j:=by omega
   subst e
   have:=small n (Nat.le_refl _)
   unfold zdh at this
   rw[this]
   simp[h]
theorem zi9{hs:List Str}(nd:hs.Nodup){x:Str}{j:Nat}(h:hs[j]?=some x):∀i<j,hs[i]?≠some x:=λi hi z=>by
 have:=ziV nd z h
 omega
theorem zjx{K:PySem.W.Frag}{a:Addr}{hs:List Str}{x:Str}{g:TG}{tc:TT}{te:TE}{H:Hp}{src:List (Option Nat)}{σ:L2.St}{Q:VK}(Iv:L2.St->Prop)(hok:∀H',Same H H'->SqT K H' a (hs.map V.str))(hl:hs.length<=900)(h0:Iv (zdo src σ))
 (hst:∀(T:Addr) (i:Nat) (y:Str) (σ':L2.St) (H1:Hp) (A:V->Hp->L2.St->Prop) (B:L2.St->Hp->Prop),Iv σ'->Same H H1->H1 T=some (.tup [.int (i:Int), .str y])->(∀σ2,Iv σ2->if decide (y=x)=true then A (.int (i:Int)) H1 σ2 else B σ2 H1)->g (.ref T) σ' H1 λσ2 H3=>tc σ2 H3 λb H4=>if b=true then te σ2 H4 (λv H5=>A v H5 σ2)else B σ2 H4)
 (q:∀l H',Same H H'->H l=none->H' l=some (.lst ((zdh hs x hs.length).map zg2))->Q (.ref l) H'):zcb g tc te src σ Q (Ite K a (hs.map V.str).length) H:=by
 refine zm6 (K:=K) (a:=a) (xs:=hs.map V.str) (λl i ys σ' H'=>Iv σ'/\ys=(zdh hs x i).map (zg2)/\Same H H') ?_ ?_ ?_ ?_
 ·exact λl h'=>⟨h0,rfl,Same.new h'⟩
 ·exact λl i ys σ' H' _ p=>hok H' p.2.2
 ·rintro l i v ys σ' H1 T h' hi hv ⟨iv,rfl,s1⟩ hl' hT
  rw[List.length_map] at hi
  rw[List.getElem?_map,List.getElem?_eq_getElem hi] at hv
  cases hv
  have S:=Same.new (o:= .tup [V.int (i:Int), .str hs[i]]) hT
  have s2:=s1.trans S
  have hl2:=S _ _ hl'
  have hidx:=zmo (x:=x) (n:=i) (y:=hs[i]) (List.getElem?_eq_getElem hi)
  refine hst T i hs[i] σ' _ (λy H5 σ2=>H5 l=some (.lst ((zdh hs x i).map zg2))/\((zdh hs x i).map zg2).length<sizeLine/\Iv σ2/\(zdh hs x i).map (zg2)++ [y]=(zdh hs x (i+1)).map (zg2)/\Same H (upd H5 l (.lst ((zdh hs x i).map (zg2)++ [y])))) (λσ2 H4=>H4 l=some (.lst ((zdh hs x i).map zg2))/\Iv σ2/\(zdh hs x i).map (zg2)=(zdh hs x (i+1)).map (zg2)/\Same H H4) iv s2 zd λσ2 iv2=>?_
  by_cases z:hs[i]=x
  ·refine zap (decide_eq_true z) ⟨hl2,?_,iv2,?_,?_⟩
   ·rw[List.length_map]
    have:(zdh hs x i).length<=i:=by
     unfold zdh
     exact Nat.le_trans (List.length_filter_le _ _) (by rw[List.length_range];exact Nat.le_refl _)
    exact zm (by omega)
   ·rw[hidx,if_pos z,List.map_append];rfl
   ·exact λc o e=>by
     rw[zq (zy e h')]
     exact s2 _ _ e
  ·refine zao (decide_eq_false z) ⟨hl2,iv2,?_,s2⟩
   rw[hidx,if_neg z,List.append_nil]
 ·rintro l ys σ' H1 h' ⟨iv,rfl,s1⟩ hl'
  rw[List.length_map] at hl'
  exact q l H1 s1 h' hl'
noncomputable def zcw(ws ms:List Str)(to:Option Str)(cs:List D):Bool:=cs.all (za9 ws ms to)
noncomputable def zde:D->List D| .tup [.tup cs,_]=>cs|_=> []
noncomputable def zci:D->D| .tup [_,t]=>t|_=> .non
noncomputable def zaf(ws ms:List Str):List D->D
 |[]=> .int 0
 |r::rs=>if zcw ws ms none (zde r)=true then zci r else zaf ws ms rs
theorem zgm{ws ms:List Str}:∀{rs:List D},∃es,(rs.filter λr=>zcw ws ms none (zde r)).map zci ++ [.int 0]=zaf ws ms rs::es
 |[]=>⟨[],rfl⟩
 |r::rs=>by
  rw[List.filter_cons]
  cases h:zcw ws ms none (zde r)with
  |true=>exact ⟨_,by rw[if_pos rfl,List.map_cons,List.cons_append,zaf,h,if_pos rfl]⟩
  |false=>
   rw[if_neg (by decide),zaf,h,if_neg (by decide)]
   exact zgm
theorem zkh{J:It}{vs:List V}{rs:List D}{sel:D->Bool}{ok:Hp->Prop}{g:TG}{tc:TT}{te:TE}{H:Hp}{src:List (Option Nat)}{σ:L2.St}{Q:VK}(Iv:L2.St->Prop)(wk:Wk J vs.length (λi x=>vs[i]?=some x) ok)(hok:∀H',Same H H'->ok H')(r:RepL H vs rs)(hl:rs.length<=900)(h0:Iv (zdo src σ))
 (hr:∀d∈rs,∃cs t,d= .tup [.tup cs,t])
 (hst:∀(p:Addr) (d:D) (v0 v1:V) (σ':L2.St) (H1:Hp) (A:V->Hp->L2.St->Prop) (B:L2.St->Hp->Prop),Iv σ'->Same H H1->d∈rs->H1 p=some (.tup [v0,v1])->Rep H1 v0 (.tup (zde d))->Rep H1 v1 (zci d)->(∀σ2 H2,Iv σ2->Same H1 H2->if sel d=true then A v1 H2 σ2 else B σ2 H2)->g (.ref p) σ' H1 λσ2 H3=>tc σ2 H3 λb H4=>if b=true then te σ2 H4 (λy H5=>A y H5 σ2)else B σ2 H4)
 (q:∀l us H',Same H H'->H l=none->H' l=some (.lst us)->RepL H' us ((rs.filter sel).map zci)->Q (.ref l) H'):zcb g tc te src σ Q J H:=by
 refine zaY wk (λl i ys σ' H'=>Iv σ'/\RepL H' ys (((rs.take i).filter sel).map zci)/\Same H H') ?_ ?_ ?_ ?_
 ·exact λl h'=>⟨h0,RepL.nil,Same.new h'⟩
 ·exact λl i ys σ' H' _ p=>hok H' p.2.2
 ·rintro l i y ys σ' H1 h' hi hy ⟨iv,ry,s1⟩ hl'
  obtain⟨d,hd,rd⟩:=r.get hy
  have hdm:=List.mem_of_getElem? hd
  obtain⟨cs,t,rfl⟩:=hr d hdm
  obtain⟨p,v0,v1,rfl,hp,r0,r1⟩:=(rd.same s1).of2
  have tk:((rs.take (i+1)).filter sel).map zci=((rs.take i).filter sel).map zci ++([D.tup [.tup cs,t]].filter sel).map zci:=by
   rw[List.take_add_one,hd,List.filter_append,List.map_append];rfl
  refine hst p _ v0 v1 σ' H1 (λy H5 σ2=>H5 l=some (.lst ys)/\ys.length<sizeLine/\Iv σ2/\RepL (upd H5 l (.lst (ys ++ [y]))) (ys ++ [y]) (((rs.take (i+1)).filter sel).map zci)/\Same H (upd H5 l (.lst (ys ++ [y])))) (λσ2 H4=>H4 l=some (.lst ys)/\Iv σ2/\RepL H4 ys (((rs.take (i+1)).filter sel).map zci)/\Same H H4) iv s1 hdm hp r0 r1 λσ2 H2 iv2 s2=>?_
  rw[tk]
  cases hg:sel (.tup [.tup cs,t])with
  |false=>
   have e0:([D.tup [.tup cs,t]].filter sel).map zci=[]:=by simp[hg]
   rw[e0,List.append_nil]
   exact⟨s2 _ _ hl',iv2,ry.mono (.of s2),s1.trans s2⟩
  |true=>
   have e0:([D.tup [.tup cs,t]].filter sel).map zci=[t]:=by simp[hg,zci]
   rw[e0]
   refine⟨s2 _ _ hl',?_,iv2,?_,?_⟩
   ·have h1:=ry.1
    have h2:=List.length_filter_le sel (rs.take i)
    rw[List.length_map] at h1
    rw[List.length_take] at h2
    exact zm (by omega)
   ·exact ((ry.mono (.of s2)).append (.cons (r1.same s2) .nil)).mono (.lset (s2 _ _ hl'))
   ·exact λc o e=>by
     rw[zq (zy e h')]
     exact s2 _ _ (s1 _ _ e)
 ·rintro l ys σ' H1 h' ⟨iv,ry,s1⟩ hl'
  rw[r.1,List.take_length] at ry
  exact q l ys H1 s1 h' hl' ry
noncomputable def zkI:Sp:=λvs H Q _=>∃(v:V) (cs:List D) (pw pm:Addr) (vt:V) (ws ms:List Str) (to:Option Str),vs=[v, .ref pw, .ref pm,vt]/\Rep H v (.tup cs)/\(∀c∈cs,zQ c=true)/\H pw=some (.tup (ws.map V.str))/\H pm=some (.tup (ms.map V.str))/\TO vt to/\(∀x∈ws,zi x=true)/\(∀x∈ms,zi x=true)/\1<=ws.length/\ws.length<=100/\ms.length<=100/\∀H',Same H H'->Q (.bl (zcw ws ms to cs)) H'
noncomputable def zrH:Sp:=λvs H Q _=>∃(v:V) (x:Str) (g:Str) (hs:List Str) (ps:List (Str×Str)) (lks hds:List D) (j:Nat),vs=[v, .str x]/\Rep H v (zcn g hs ps lks hds)/\TownOk g hs ps lks hds/\hs[j]?=some x/\∀(vr:V) (d:D),lks[j]?=some d->Rep H vr d->Q vr H
noncomputable def zf6:Sp:=λvs H Q _=>∃(v:V) (pw pm:Addr) (x:Str) (ws ms:List Str) (g:Str) (hs:List Str) (ps:List (Str×Str)) (lks hds:List D) (j:Nat) (rs:List D),vs=[v, .ref pw, .ref pm]/\Rep H v (zcn g hs ps lks hds)/\TownOk g hs ps lks hds/\hs[j]?=some x/\lks[j]?=some (.tup rs)/\H pw=some (.tup ((x::ws).map V.str))/\H pm=some (.tup (ms.map V.str))/\(∀y∈x::ws,zi y=true)/\(∀y∈ms,zi y=true)/\ws.length<=90/\ms.length<=100/\∀(u:V) (H':Hp),Rep H' u (zaf (x::ws) ms rs)->Same H H'->Q u H'
theorem zqO{g:Str}{hs:List Str}{ps:List (Str×Str)}{lks hds:List D}(T:TownOk g hs ps lks hds){x:Str}(h:x∈hs):∃(j:Nat) (rs:List D),hs[j]?=some x/\lks[j]?=some (.tup rs)/\rs.length<=90/\∀r∈rs,zav r=true:=by
 obtain⟨j,hj,e⟩:=List.getElem_of_mem h
 have hl:j<lks.length:=by rw[T.ll];exact hj
 have hlk:=T.likes lks[j] (List.getElem_mem hl)
 cases hd:lks[j] with
 |tup rs=>
  rw[hd] at hlk
  have h:(decide (rs.length<=90)&&rs.all zav)=true:=hlk
  rw[Bool.and_eq_true] at h
  exact⟨j,rs,by rw[List.getElem?_eq_getElem hj,e],by rw[List.getElem?_eq_getElem hl,hd],of_decide_eq_true h.1,List.all_eq_true.mp h.2⟩
 |_=>rw[hd] at hlk;cases hlk
theorem ziq{α:Type}{rs:List α}{i:Nat}{d:α}(h:rs[i]?=some d):rs.drop i=d::rs.drop (i+1):=by
 have hi:i<rs.length:=by
  rcases Nat.lt_or_ge i rs.length with y|y
  ·exact y
  ·rw[List.getElem?_eq_none y] at h;cases h
 rw[List.drop_eq_getElem_cons hi]
 rw[List.getElem?_eq_getElem hi] at h
 rw[Option.some.inj h]
mutual
noncomputable def okD:D->Bool
 | .str x=>PyData.strOk x
 | .tup ds=>okL ds
 | .oth=>false
 | .non=>true
 | .bl _=>true
 | .int _=>true
noncomputable def okL:List D->Bool
 |[]=>true
 |d::ds=>okD d&&okL ds
end
mutual
noncomputable def pyD:D->PyData
 | .non=> .none
 | .bl b=> .bool b
 | .int i=> .int i
 | .str x=> .str x
 | .tup ds=> .tuple (pyL ds)
 | .oth=> .none
noncomputable def pyL:List D->List PyData
 |[]=> []
 |d::ds=>pyD d::pyL ds
end
theorem zlp:∀{ds:List D},pyL ds=ds.map pyD
 |[]=>by rw[pyL];rfl
 |d::ds=>by rw[pyL,List.map_cons,zlp]
theorem zkV:∀{ds:List D},okL ds=true->∀d∈ds,okD d=true
 |[],_,_,z=>nomatch z
 |d::ds,h,e,he=>by
  rw[okL,Bool.and_eq_true] at h
  rcases List.mem_cons.mp he with rfl|he
  ·exact h.1
  ·exact zkV h.2 e he
theorem zks:∀{ds:List D},(∀d∈ds,okD d=true)->okL ds=true
 |[],_=>by rw[okL]
 |d::ds,h=>by rw[okL,h d List.mem_cons_self,zks λe he=>h e (List.mem_cons_of_mem _ he)];rfl
theorem zlH{H:Hp}{v:V}{d:D}(r:Rep H v d):okD d=true->Tr H v (pyD d):=by
 induction r with
 |non=>intro _;rw[pyD];exact .non
 |bl b=>intro _;rw[pyD];exact .bl b
 |int i=>intro _;rw[pyD];exact .int i
 |str x _=>intro h;rw[okD] at h;rw[pyD];exact .str x h
 | @tup p vs ds hp l b r ih=>
   intro h
   rw[okD] at h
   rw[pyD,zlp]
   refine .tup hp (by rw[l,List.length_map]) λi v d e1 e2=>?_
   rw[List.getElem?_map] at e2
   cases e:ds[i]? with
   |none=>rw[e] at e2;cases e2
   |some d'=>
    rw[e] at e2
    cases e2
    exact ih i v d' e1 e (zkV h d' (List.mem_of_getElem? e))
 |lst _=>intro h;rw[okD] at h;cases h
 |dK _=>intro h;rw[okD] at h;cases h
theorem zou{ds:List D}:(PyData.tuple (pyL ds)).eqv (.tuple [])=decide (ds=[]):=by
 rw[PyData.eqv]
 cases ds with
 |nil=>rw[pyL,PyData.eqvAll];rfl
 |cons d ds=>rw[pyL,PyData.eqvAll];rfl
theorem zqy:(PyData.tuple []).depth<=60:=by rw[PyData.depth,PyData.depthAll];decide
theorem zeK{H:Hp}{p:Addr}(e:H p=some (.tup [])):Tr H (.ref p) (.tuple []):= .tup e rfl λi v d z=>by cases z
noncomputable def leS(a b:Str):Bool:=!ltS b a
noncomputable def srt(l:List Str):List Str:=l.mergeSort leS
theorem zkJ(a b c:Str)(h1:leS a b=true)(h2:leS b c=true):leS a c=true:=by
 unfold leS at *
 rw[Bool.not_eq_true'] at *
 cases h:ltS c a with
 |false=>rfl
 |true=>
  by_cases e:a=b
  ·subst e;rw[h] at h2;cases h2
  ·have ab:ltS a b=true:=zdv (λz=>e z.symm) h1
   have:=zgF h ab
   rw[this] at h2;cases h2
theorem zk0(a b:Str):(leS a b||leS b a)=true:=by
 unfold leS
 cases h:ltS b a with
 |false=>rfl
 |true=>rw[zhT h];rfl
theorem zc6(l:List Str):(srt l).Perm l:=List.mergeSort_perm l leS
theorem znF{l:List Str}(nd:l.Nodup):(srt l).Pairwise (λa b=>ltS a b=true):=by
 have h1:(srt l).Pairwise (λa b=>leS a b=true):=List.pairwise_mergeSort zkJ zk0 l
 have h2:(srt l).Nodup:=(zc6 l).nodup_iff.mpr nd
 refine(h1.and h2).imp λ{a b} h=>?_
 obtain⟨ha,hn⟩:=h
 unfold leS at ha
 rw[Bool.not_eq_true'] at ha
 exact zdv (λz=>hn z.symm) ha
noncomputable def zaH(t:List Str)(w m:Str):List Str:=t.filter (λx=>!decide (x=m))++(if w="put"then [m] else [])
theorem zhh{t:List Str}{w m:Str}(nd:t.Nodup):(zaH t w m).Nodup:=by
 unfold zaH
 rw[List.nodup_append]
 refine⟨nd.filter _,?_,?_⟩
 ·split<;>simp
 ·intro a ha b hb e
  split at hb
  ·rw[List.mem_singleton.mp hb] at e
   have:=(List.mem_filter.mp ha).2
   rw[e] at this
   simp at this
  ·cases hb
theorem zlZ{t O:List Str}{w m:Str}(h:∀x∈t,x∈O)(hm:m∈O):∀x∈zaH t w m,x∈O:=by
 unfold zaH
 refine List.forall_mem_append.mpr ⟨λx hx=>h x (List.mem_filter.mp hx).1,λx hx=>?_⟩
 split at hx
 ·rw[List.mem_singleton.mp hx];exact hm
 ·cases hx
noncomputable def ze3(t:List Str)(w m:Str):List Str:=srt (zaH t w m)
structure Mk(O t:List Str):Prop where
 nd:t.Nodup
 mem:∀x∈t,x∈O
theorem Mk.next{O t:List Str}{w m:Str}(h:Mk O t)(hm:m∈O):Mk O (ze3 t w m) where
 nd:=(zc6 _).nodup_iff.mpr (zhh h.nd)
 mem:=λx hx=>zlZ h.mem hm x ((zc6 _).mem_iff.mp hx)
theorem Mk.len{O t:List Str}(h:Mk O t)(hO:O.length<=14):t.length<=14:=Nat.le_trans (zdk h.nd h.mem) hO
noncomputable def zD(ws:List Str)(to:Option Str):List D->List Str->Option (List Str)
 |[],t=>some t
 |r::rs,t=>if zcw ws t to (zde r)=true then(match zci r with| .tup [.str w, .str m]=>zD ws to rs (ze3 t w m)|_=>none)else zD ws to rs t
def zds(O:List Str)(rs:List D):Prop:=rs.length<=90/\∀r∈rs,∃cs x,r= .tup [.tup cs,x]/\(∀c∈cs,zQ c=true)/\(x= .tup [.str "keep"]\/∃w m,x= .tup [.str w, .str m]/\(w="put"\/w="strike")/\m∈O)
theorem zlT{O:List Str}{d:D}(h:zea d=true)(hi:zc0 O d=true):∃rs,d= .tup rs/\zds O rs:=by
 cases d with
 |tup rs=>
  have h:(decide (rs.length<=90)&&rs.all zcC)=true:=h
  rw[Bool.and_eq_true] at h
  refine⟨rs,rfl,of_decide_eq_true h.1,λr hr=>?_⟩
  obtain⟨cs,x,rfl,h4,hc,hx⟩:=zll (List.all_eq_true.mp h.2 r hr)
  obtain⟨h1,h2⟩:=zmL (List.all_eq_true.mp hi _ hr)
  refine⟨cs,x,rfl,hc,?_⟩
  rcases zon hx with rfl|⟨w,y,rfl,hw,_⟩
  ·exact .inl rfl
  ·exact .inr ⟨w,y,rfl,hw,of_decide_eq_true h2⟩
 |_=>cases h
def zqw(H:Hp)(u:V):Option (List Str)->Prop
 |none=>u= .non
 |some t=>∃p,u= .ref p/\H p=some (.tup (t.map V.str))
noncomputable def zrZ:Sp:=λvs H Q _=>∃(v:V) (x:Str) (g:Str) (hs:List Str) (ps:List (Str×Str)) (lks hds:List D) (j:Nat),vs=[v, .str x]/\Rep H v (zcn g hs ps lks hds)/\TownOk g hs ps lks hds/\hs[j]?=some x/\∀(vr:V) (d:D),hds[j]?=some d->Rep H vr d->Q vr H
noncomputable def zgh:Sp:=λvs H Q _=>∃(v:V) (pw pm:Addr) (vt:V) (x:Str) (ws ms:List Str) (to:Option Str) (g:Str) (hs:List Str) (ps:List (Str×Str)) (lks hds:List D) (j:Nat) (rs:List D) (O:List Str),vs=[v, .ref pw, .ref pm,vt]/\Rep H v (zcn g hs ps lks hds)/\TownOk g hs ps lks hds/\hs[j]?=some x/\hds[j]?=some (.tup rs)/\zds O rs/\O.length<=14/\(∀y∈O,zi y=true)/\Mk O ms/\H pw=some (.tup ((x::ws).map V.str))/\H pm=some (.tup (ms.map V.str))/\TO vt to/\(∀y∈x::ws,zi y=true)/\ws.length<=90/\∀(u:V) (H':Hp),zqw H' u (zD (x::ws) to rs ms)->Same H H'->Q u H'
theorem znu{g:Str}{hs:List Str}{ps:List (Str×Str)}{lks hds:List D}(T:TownOk g hs ps lks hds){x:Str}(h:x∈hs):∃(j:Nat) (d:D),hs[j]?=some x/\hds[j]?=some d/\d∈hds:=by
 obtain⟨j,hj,e⟩:=List.getElem_of_mem h
 have hl:j<hds.length:=by rw[T.lh];exact hj
 exact⟨j,hds[j],by rw[List.getElem?_eq_getElem hj,e],List.getElem?_eq_getElem hl,List.getElem_mem hl⟩
noncomputable def neD(m:Str):D->Bool| .str z=>!decide (z=m)|_=>false
theorem zoj{t:List Str}{m:Str}:((t.map D.str).filter (neD m)).map (λd=>d)=(t.filter λx=>!decide (x=m)).map D.str:=by
 rw[List.map_id',List.filter_map];rfl
end RW
namespace L2
open PySem PySem.W PySem.Spec PyProof.Rows
section
open PySem.SeqAt
open PySem.AutoSeq1 (wpAny_loadPart')
open PySem.MeetsSeq PySem.MeetsSeq2 PySem.MeetsSeq3
end
end L2
namespace L2
open PySem PySem.W PySem.Spec PyProof.Rows RW
noncomputable def ltL:List Str->List Str->Bool
 |[],[]=>false
 |[],_::_=>true
 |_::_,[]=>false
 |x::xs,y::ys=>if x=y then ltL xs ys else ltS x y
section
variable{X:Cx}{K:PySem.W.Frag}
end
end L2
namespace RW
open PySem PySem.Spec PyProof.Rows L2
end RW
namespace HT
open PySem PySem.Spec PyProof.Rows
section
variable{prog:Program}{w:World}{A:Around}{E:Value->Shared->Prop}{s:Shared}
end
end HT
namespace L2
open PySem PySem.Spec PyProof.Rows
section
variable{X:Cx}{e st:Expr}{te ts:TE}{p1 p2 p3 pos:Pos}{tk:Tok}
end
end L2
namespace RW
open PySem PySem.Spec PyProof.Rows L2
section
variable{te tf:TE}{ta:TA}{σ:L2.St}{H:Hp}{d:D}{ds es:List D}{K:PySem.W.Frag}
theorem zpp{i n:Nat}{v:V}(hv:σ[i]?=some (some v))(r:Rep H v (.tup ds))(hd:ds[n]?=some d):Dsp (tOp (zmq K) (zc7 i) (tC (.int (n:Int)))) σ H d:=λH1 Q s q=>by
 obtain⟨p,vs,rfl,hp,r1,b⟩:=(r.same s).ofT
 have hlt:n<vs.length:=by
  rw[r1.1]
  rcases Nat.lt_or_ge n ds.length with z|z
  ·exact z
  ·rw[List.getElem?_eq_none z] at hd;cases hd
 exact⟨_,hv,p,_,_,vs[n],rfl,rfl, .inl (.inl hp),zG (by simp[hlt]),q _ H1 (Same.refl _) (r1.2 n _ d (by simp[hlt]) hd)⟩
end
end RW
namespace L2
open PySem PySem.Spec PyProof.Rows
section
variable{X:Cx}{pos:Pos}{pins:List (Addr×Obj)}{σ:St}{H:Hp}{s:Shared}
end
section
variable{X:Cx}{K:PySem.W.Frag}
end
section
variable{X:Cx}{pos:Pos}
end
end L2
namespace HT
open PySem PySem.Spec PyProof.Rows
theorem slicePick_rev(xs:Array Value):slicePick xs none none (some (-1))=xs.toList.reverse.toArray:=by
 unfold slicePick
 have hb:sliceBounds none none (some (-1)) xs.size=((xs.size:Int) -1,-1,-1):=rfl
 rw[hb]
 show((sliceRange ((xs.size:Int) -1) (-1) (-1)).filterMap _).toArray=_
 have hr:sliceRange ((xs.size:Int) -1) (-1) (-1)=(List.range xs.size).map λ(m:Nat)=>((xs.size:Int) -1+(m:Int)* -1).toNat:=by
  unfold sliceRange
  have hc:(if(-1:Int)>0 then(if(xs.size:Int) -1< -1 then(-1 -((xs.size:Int) -1)+ -1 -1)/ -1 else 0)else(if(xs.size:Int) -1> -1 then((xs.size:Int) -1 - -1 - -1 -1)/(- -1)else 0)).toNat=xs.size:=by
   rw[if_neg (by decide),show(- -1:Int)=1 by decide,Int.ediv_one]
   split<;>omega
  show(List.range (if(-1:Int)>0 then(if(xs.size:Int) -1< -1 then(-1 -((xs.size:Int) -1)+ -1 -1)/ -1 else 0)else(if(xs.size:Int) -1> -1 then((xs.size:Int) -1 - -1 - -1 -1)/(- -1)else 0)).toNat).map (λ(k:Nat)=>((xs.size:Int) -1+ -1*(k:Int)).toNat)=_
  rw[hc]
  refine List.map_congr_left λm _=>?_
  congr 1
  omega
 rw[hr,List.filterMap_map]
 exact zmP xs
end HT
namespace L2
open PySem PySem.Spec PyProof.Rows
section
variable{X:Cx}{e i o:Expr}{te td ty:TE}{p1 p2 p3 pos:Pos}{tk:Tok}
noncomputable def zrE(K:PySem.W.Frag)(te:TE):TE:=λσ H Q=>te σ H λx H1=>∃a xs,x= .ref a/\SqL K H1 a xs/\∀p,H1 p=none->Q (.ref p) (upd H1 p (.lst xs.reverse))
theorem zq8{st:Expr}(he:QE X e te)(hst:QE X st (tUn (rU λi=> .int (-i)) (tC (.int 1)))):QE X (.Subscript e (.Slice none none (some st) p2) pos) (zrE X.K te):=⟨by
 intro pins s σ H Q I h
 refine Subscript_ (thn (he.o pins s σ H _ I h) λv s1 ⟨x,H1,I1,r1,q1⟩=>?_)
 refine wpAny_Slice ?_
 rw[evalPart_none,evalPart_some]
 refine wpAny_pure (wpAny_pure ?_)
 refine thn (hst.o pins s1 σ H1 (λy H2=>y= .int (-1)/\H2=H1) I1 ⟨1,rfl,rfl,rfl⟩) λvst s3 ⟨y,H3,I3,r3,ey,eh⟩=>?_
 subst ey eh
 obtain⟨tk,rfl⟩:=r3
 obtain⟨a,xs,rfl,hx,q⟩:=q1
 cases r1
 have I4:Inv X pins σ _ {s3 with heap:=s3.heap.push {cls:= .type "slice",data:= .fields #[.none, .none, .int (-1) tk]}}:=I3.kept (t':=s3.toks) λb ob q=>Heap.get?_push_of_some _ q
 obtain⟨its,r,ht,hz⟩:=I4.list hx
 have hlen:its.toArray.size=xs.length:=by rw[List.size_toArray];exact r.length.symm
 show wpAny (model X.prog X.w) X.A (subscriptTail e (.Slice none none (some st) p2) (.ref a) (.ref s3.heap.objs.size)) (EP X pins σ Q) X.xe {s3 with heap:=s3.heap.push {cls:= .type "slice",data:= .fields #[.none, .none, .int (-1) tk]}}
 refine tail_any (ops:=[.ref a, .ref s3.heap.objs.size]) ht.isList.typeIs slot_list_getitem.lookup ?_ (by with_unfolding_all rfl)
 refine wpAny_getItem_list_slice (st:=some (-1)) ht.isList (Heap.IsSliceOf.new ..) .none .none (.int (-1) tk) (by simp) ?_ (by rw[hlen];exact hz)
 rw[HT.slicePick_rev]
 refine⟨.ref _,_,I4.laid (t':=s3.toks) (o:= .lst xs.reverse) (λb ob q=>Heap.get?_push_of_some _ q) (Nat.le_refl _) ?_,rfl,q _ (I4.hok.fresh (Nat.le_refl _))⟩
 exact⟨by rw[List.length_reverse];exact hz,its.reverse,0,r.rev,Heap.get?_push_size _ rfl⟩⟩
end
end L2
namespace RW
open PySem PySem.Spec PyProof.Rows L2
mutual
theorem zoF:∀d:D,(pyD d).eqv (pyD d)=true
 | .non=>by rw[pyD,PyData.eqv]
 | .bl b=>by rw[pyD,PyData.eqv];simp
 | .int i=>by rw[pyD,PyData.eqv];simp
 | .str x=>by rw[pyD,PyData.eqv];simp
 | .tup ds=>by rw[pyD,PyData.eqv];exact zlw ds
 | .oth=>by rw[pyD,PyData.eqv]
theorem zlw:∀ds:List D,PyData.eqvAll (pyL ds) (pyL ds)=true
 |[]=>by rw[pyL,PyData.eqvAll]
 |d::ds=>by rw[pyL,PyData.eqvAll,zoF d,zlw ds];rfl
end
end RW
namespace HT
open PySem PySem.Spec PyProof.Rows L2
section
variable{prog:Program}{w:World}{A:Around}{E:Value->Shared->Prop}{s:Shared}
theorem zip_itemD{z TI TO i1 i2 l1 l2:Addr}{n1 n2 k:Nat}{P1 P2:Nat->Value->Prop}{S1 S2:Nat->Heap->Prop}{a b:Value}{Q:Value->Shared->Prop}(D:ZipApart z TI TO i1 i2 l1 l2)
 (D1:Draws prog w A i1 [i1,l1] n1 P1 S1) (D2:Draws prog w A i2 [i2,l2] n2 P2 S2)
 (hz:IsZip s.heap z TI TO .none) (hTI:IsPair s.heap TI (.ref i1) (.ref i2)) (hTO:IsPair s.heap TO a b) (h1:S1 k s.heap) (h2:S2 k s.heap) (k1:k<n1) (k2:k<n2)
 (hQ:∀x y h' tk,P1 k x->P2 k y->IsZip h' z TI TO (rawInt s.heap.objs.size)->IsPair h' TO x y->S1 (k+1) h'->S2 (k+1) h'->IsPair h' s.heap.objs.size x y->h'.objs.size=s.heap.objs.size+1->
   (∀c o,c≠z->c≠TO->c≠i1->c≠i2->s.heap.get? c=some o->h'.get? c=some o)->Q (.ref s.heap.objs.size) {s with heap:=h',toks:=tk}):
 wpAny (model prog w) A (Builtin.«zip.__next__» ⟨[.ref z],[]⟩) (λfin s'=>∃v,fin= .done (.ret v)/\Q v s') E s:=by
 show wpAny _ _ (field (.ref z) 2>>=_) _ _ _
 refine wpAny_bind (wpAny_field hz rfl (x:= .bool false) rfl ?_)
 show wpAny _ _ (field (.ref z) 3>>=_) _ _ _
 refine wpAny_bind (wpAny_field hz rfl (x:= .ref TI) rfl ?_)
 refine wpAny_bind (wpAny_seqItems hTI rfl ?_)
 show wpAny _ _ (Builtin.SmallTypes.ownedTupleIsFree (.ref z)>>=_) _ _ _
 refine wpAny_bind ?_
 unfold Builtin.SmallTypes.ownedTupleIsFree
 refine wpAny_bind (wpAny_field hz rfl (x:= .none) rfl (wpAny_pure ?_))
 simp only[if_true]
 refine wpAny_bind (wpAny_rule ?_)
 refine wpAny_bind (wpAny_field hz rfl (x:= .ref TO) rfl ?_)
 refine wpAny_bind (wpAny_setField_rec hz (by simp) λh₁ hz₁ hs₁=>?_)
 replace hz₁:IsZip h₁ z TI TO .ellipsis:=hz₁
 refine wpAny_bind ?_
 simp only[List.zipIdx_cons,List.zipIdx_nil,List.forIn_cons,List.forIn_nil]
 refine wpAny_bind (wpAny_bind (wpAny_onRaise ?_))
 show wpAny _ _ (Builtin.SmallTypes.nextOf (.ref i1)>>=_) _ _ _
 have f1:∀{i:Nat} {h h':Heap},S1 i h->(∀c o,c≠z->c≠TO->c≠i2->h.get? c=some o->h'.get? c=some o)->S1 i h':=λst kk=>D1.frame _ _ _ st λc hc o e=>by
  rcases List.mem_cons.mp hc with rfl|hc
  ·exact kk c o D.i1z D.TOi1.symm D.i12 e
  ·have:c=l1:=by simpa using hc
   subst this
   exact kk c o D.l1z D.l1TO D.l1i2 e
 have f2:∀{i:Nat} {h h':Heap},S2 i h->(∀c o,c≠z->c≠TO->c≠i1->h.get? c=some o->h'.get? c=some o)->S2 i h':=λst kk=>D2.frame _ _ _ st λc hc o e=>by
  rcases List.mem_cons.mp hc with rfl|hc
  ·exact kk c o D.i2z D.TOi2.symm D.i12.symm e
  ·have:c=l2:=by simpa using hc
   subst this
   exact kk c o D.l2z D.l2TO D.l2i1 e
 refine wpAny_bind (D1.item k _ _ _ k1 (f1 h1 λc o c1 _ _ e=>hs₁.extBut _ _ c1 e) λx h₂ tk2 hx h1₂ hs₂=>wpAny_pure ?_)
 have hTO₂:IsPair h₂ TO a b:=hs₂.extBut _ _ D.TOi1 (hs₁.extBut _ _ D.TOz hTO)
 refine wpAny_bind (wpAny_seqItems hTO₂ rfl ?_)
 refine wpAny_bind (wpAny_updateSeq_pair hTO₂ λh₃ hTO₃ hs₃=>?_)
 replace hTO₃:IsPair h₃ TO x b:=hTO₃
 refine wpAny_bind (wpAny_letGo (wpAny_pure ?_))
 refine wpAny_bind (wpAny_bind (wpAny_onRaise ?_))
 show wpAny _ _ (Builtin.SmallTypes.nextOf (.ref i2)>>=_) _ _ _
 refine wpAny_bind (D2.item k _ _ _ k2 (f2 h2 λc o c1 c2 c3 e=>hs₃.extBut _ _ c2 (hs₂.extBut _ _ c3 (hs₁.extBut _ _ c1 e))) λy h₄ tk4 hy h2₄ hs₄=>wpAny_pure ?_)
 have hTO₄:IsPair h₄ TO x b:=hs₄.extBut _ _ D.TOi2 hTO₃
 refine wpAny_bind (wpAny_seqItems hTO₄ rfl ?_)
 refine wpAny_bind (wpAny_updateSeq_pair hTO₄ λh₅ hTO₅ hs₅=>?_)
 replace hTO₅:IsPair h₅ TO x y:=hTO₅
 refine wpAny_bind (wpAny_letGo (wpAny_pure (wpAny_pure ?_)))
 refine wpAny_bind (wpAny_seqItems hTO₅ rfl ?_)
 refine wpAny_bind (wpAny_newTuple ?_)
 have hsz:h₅.objs.size=s.heap.objs.size:=by rw[hs₅.1,hs₄.1,hs₃.1,hs₂.1,hs₁.1]
 have hz₅:IsZip h₅ z TI TO .ellipsis:=hs₅.extBut _ _ D.TOz.symm (hs₄.extBut _ _ D.i2z.symm (hs₃.extBut _ _ D.TOz.symm (hs₂.extBut _ _ D.i1z.symm hz₁)))
 have hk₅:∀c o,c≠z->c≠TO->c≠i1->c≠i2->s.heap.get? c=some o->h₅.get? c=some o:=λc o c1 c2 c3 c4 e=>
  hs₅.extBut _ _ c2 (hs₄.extBut _ _ c4 (hs₃.extBut _ _ c2 (hs₂.extBut _ _ c3 (hs₁.extBut _ _ c1 e))))
 have h1₅:S1 (k+1) h₅:=f1 h1₂ λc o c1 c2 c3 e=>hs₅.extBut _ _ c2 (hs₄.extBut _ _ c3 (hs₃.extBut _ _ c2 e))
 have h2₅:S2 (k+1) h₅:=f2 h2₄ λc o c1 c2 c3 e=>hs₅.extBut _ _ c2 e
 have hzlt:z<h₅.objs.size:=Heap.lt_size hz₅
 have hTOlt:TO<h₅.objs.size:=Heap.lt_size hTO₅
 show wpAny _ _ (Builtin.SmallTypes.ownedTupleHandOut (.ref z) (.ref h₅.objs.size)>>=_) _ _ _
 refine wpAny_bind ?_
 unfold Builtin.SmallTypes.ownedTupleHandOut
 have hz₆:IsZip (h₅.push {cls:= .type "tuple",data:= .seq #[x,y]}) z TI TO .ellipsis:=Heap.get?_push_of_some _ hz₅
 refine wpAny_bind (wpAny_setField_rec hz₆ (by simp) λh₇ hz₇ hs₇=>?_)
 replace hz₇:IsZip h₇ z TI TO (rawInt h₅.objs.size):=hz₇
 refine wpAny_setField_rec hz₇ (by simp) λh₈ hz₈ hs₈=>?_
 replace hz₈:IsZip h₈ z TI TO (rawInt h₅.objs.size):=hz₈
 have up:∀c o,c≠z->h₅.get? c=some o->h₈.get? c=some o:=λc o c1 e=>hs₈.extBut _ _ c1 (hs₇.extBut _ _ c1 (Heap.get?_push_of_some _ e))
 have hT₈:IsPair h₈ h₅.objs.size x y:=hs₈.extBut _ _ (Nat.ne_of_gt hzlt) (hs₇.extBut _ _ (Nat.ne_of_gt hzlt) (Heap.get?_push_size _ rfl))
 have hz8:h₈.objs.size=h₅.objs.size+1:=by rw[hs₈.1,hs₇.1,Heap.size_push]
 rw[hsz] at hz₈ hT₈ hz8
 refine wpAny_pure ⟨_,rfl,?_⟩
 show Q (.ref h₅.objs.size) _
 rw[hsz]
 exact hQ x y h₈ _ hx hy hz₈ (up _ _ D.TOz hTO₅) (f1 h1₅ λc o c1 _ _ e=>up c o c1 e) (f2 h2₅ λc o c1 _ _ e=>up c o c1 e) hT₈ hz8 λc o c1 c2 c3 c4 e=>up c o c1 (hk₅ c o c1 c2 c3 c4 e)
theorem zip_endD{z TI TO i1 i2 l1 l2:Addr}{n1 n2 k:Nat}{P1 P2:Nat->Value->Prop}{S1 S2:Nat->Heap->Prop}{a b:Value}{Q:Fin->Shared->Prop}(D:ZipApart z TI TO i1 i2 l1 l2)
 (D1:Draws prog w A i1 [i1,l1] n1 P1 S1) (D2:Draws prog w A i2 [i2,l2] n2 P2 S2)
 (hz:IsZip s.heap z TI TO .none) (hTI:IsPair s.heap TI (.ref i1) (.ref i2)) (hTO:IsPair s.heap TO a b) (h1:S1 k s.heap) (h2:S2 k s.heap) (hend:k=n1\/(k<n1/\k=n2))
 (hE:∀h' tk e,(∀c o,c≠z->c≠TO->c≠i1->c≠i2->s.heap.get? c=some o->h'.get? c=some o)->(∃o,h'.get? e=some o/\o.cls= .type "StopIteration")->E (.ref e) {s with heap:=h',toks:=tk}):
 wpAny (model prog w) A (Builtin.«zip.__next__» ⟨[.ref z],[]⟩) Q E s:=by
 show wpAny _ _ (field (.ref z) 2>>=_) _ _ _
 refine wpAny_bind (wpAny_field hz rfl (x:= .bool false) rfl ?_)
 show wpAny _ _ (field (.ref z) 3>>=_) _ _ _
 refine wpAny_bind (wpAny_field hz rfl (x:= .ref TI) rfl ?_)
 refine wpAny_bind (wpAny_seqItems hTI rfl ?_)
 show wpAny _ _ (Builtin.SmallTypes.ownedTupleIsFree (.ref z)>>=_) _ _ _
 refine wpAny_bind ?_
 unfold Builtin.SmallTypes.ownedTupleIsFree
 refine wpAny_bind (wpAny_field hz rfl (x:= .none) rfl (wpAny_pure ?_))
 simp only[if_true]
 refine wpAny_bind (wpAny_rule ?_)
 refine wpAny_bind (wpAny_field hz rfl (x:= .ref TO) rfl ?_)
 refine wpAny_bind (wpAny_setField_rec hz (by simp) λh₁ hz₁ hs₁=>?_)
 replace hz₁:IsZip h₁ z TI TO .ellipsis:=hz₁
 refine wpAny_bind ?_
 simp only[List.zipIdx_cons,List.zipIdx_nil,List.forIn_cons,List.forIn_nil]
 refine wpAny_bind (wpAny_bind (wpAny_onRaise ?_))
 show wpAny _ _ (Builtin.SmallTypes.nextOf (.ref i1)>>=_) _ _ _
 have f1:∀{i:Nat} {h h':Heap},S1 i h->(∀c o,c≠z->c≠TO->c≠i2->h.get? c=some o->h'.get? c=some o)->S1 i h':=λst kk=>D1.frame _ _ _ st λc hc o e=>by
  rcases List.mem_cons.mp hc with rfl|hc
  ·exact kk c o D.i1z D.TOi1.symm D.i12 e
  ·have:c=l1:=by simpa using hc
   subst this
   exact kk c o D.l1z D.l1TO D.l1i2 e
 have f2:∀{i:Nat} {h h':Heap},S2 i h->(∀c o,c≠z->c≠TO->c≠i1->h.get? c=some o->h'.get? c=some o)->S2 i h':=λst kk=>D2.frame _ _ _ st λc hc o e=>by
  rcases List.mem_cons.mp hc with rfl|hc
  ·exact kk c o D.i2z D.TOi2.symm D.i12.symm e
  ·have:c=l2:=by simpa using hc
   subst this
   exact kk c o D.l2z D.l2TO D.l2i1 e
 rcases hend with rfl|⟨k1,rfl⟩
 ·refine wpAny_bind (D1.done _ _ _ (f1 h1 λc o c1 _ _ e=>hs₁.extBut _ _ c1 e) λh₂ e hs₂ he=>?_)
  obtain⟨oe,hoe,hce⟩:=he
  have hz₂:IsZip h₂ z TI TO .ellipsis:=hs₂ _ _ D.i1z.symm hz₁
  have hez:e≠z:=λx=>by subst x;rw[hz₂] at hoe;cases hoe;simp at hce
  refine wpAny_setField_rec hz₂ (by simp) λh₃ _ hs₃=>hE h₃ s.toks e (λc o c1 _ c3 _ x=>hs₃.extBut _ _ c1 (hs₂ _ _ c3 (hs₁.extBut _ _ c1 x))) ⟨oe,hs₃.extBut _ _ hez hoe,hce⟩
 ·refine wpAny_bind (D1.item k _ _ _ k1 (f1 h1 λc o c1 _ _ e=>hs₁.extBut _ _ c1 e) λx h₂ tk2 hx h1₂ hs₂=>wpAny_pure ?_)
  have hTO₂:IsPair h₂ TO a b:=hs₂.extBut _ _ D.TOi1 (hs₁.extBut _ _ D.TOz hTO)
  refine wpAny_bind (wpAny_seqItems hTO₂ rfl ?_)
  refine wpAny_bind (wpAny_updateSeq_pair hTO₂ λh₃ hTO₃ hs₃=>?_)
  refine wpAny_bind (wpAny_letGo (wpAny_pure ?_))
  refine wpAny_bind (wpAny_bind (wpAny_onRaise ?_))
  show wpAny _ _ (Builtin.SmallTypes.nextOf (.ref i2)>>=_) _ _ _
  refine wpAny_bind (D2.done _ _ _ (f2 h2 λc o c1 c2 c3 e=>hs₃.extBut _ _ c2 (hs₂.extBut _ _ c3 (hs₁.extBut _ _ c1 e))) λh₄ e hs₄ he=>?_)
  obtain⟨oe,hoe,hce⟩:=he
  have hz₄:IsZip h₄ z TI TO .ellipsis:=hs₄ _ _ D.i2z.symm (hs₃.extBut _ _ D.TOz.symm (hs₂.extBut _ _ D.i1z.symm hz₁))
  have hez:e≠z:=λx=>by subst x;rw[hz₄] at hoe;cases hoe;simp at hce
  refine wpAny_setField_rec hz₄ (by simp) λh₅ _ hs₅=>hE h₅ _ e (λc o c1 c2 c3 c4 x=>hs₅.extBut _ _ c1 (hs₄ _ _ c4 (hs₃.extBut _ _ c2 (hs₂.extBut _ _ c3 (hs₁.extBut _ _ c1 x))))) ⟨oe,hs₅.extBut _ _ hez hoe,hce⟩
def SqH(t:Bool)(h:Heap)(a:Addr)(items:Array Value):Prop:=if t then h.IsTuple a items else h.IsList a items
def ItH(t:Bool)(h:Heap)(it a:Addr)(i:Nat):Prop:=if t then h.IsTupleIter it a i else h.IsListIter it a i
noncomputable def itO(t:Bool)(a:Addr):Obj:={cls:= .type (if t then"tuple_iterator"else "list_iterator"),data:= .fields #[.ref a, .int 0 0]}
theorem ItH.at{t:Bool}{h h':Heap}{it a:Addr}{i:Nat}(x:ItH t h it a i)(e:∀o,h.get? it=some o->h'.get? it=some o):ItH t h' it a i:=by
 cases t<;>(obtain⟨o,ho,r⟩:=x;exact⟨o,e _ ho,r⟩)
theorem ItH.obj{t:Bool}{h:Heap}{it a:Addr}{i:Nat}(x:ItH t h it a i):∃o,h.get? it=some o/\(∀v,o.data≠ .cell v)/\o.cls≠ .type "tuple"/\o.cls≠ .type "list":=by
 cases t
 ·obtain ⟨o,ho,c,d⟩:=x
  exact⟨o,ho,(λv z=>by rw[d] at z;cases z),(λz=>by rw[c] at z;injection z with z;exact absurd z (by decide)),(λz=>by rw[c] at z;injection z with z;exact absurd z (by decide))⟩
 ·obtain ⟨o,ho,c,d⟩:=x
  exact⟨o,ho,(λv z=>by rw[d] at z;cases z),(λz=>by rw[c] at z;injection z with z;exact absurd z (by decide)),(λz=>by rw[c] at z;injection z with z;exact absurd z (by decide))⟩
theorem drawsH(t:Bool)(hh:A.handled=none)(it l:Addr)(hne:l≠it)(items:Array Value):Draws prog w A it [it,l] items.size (λi v=>items[i]?=some v) (λi h=>ItH t h it l i/\SqH t h l items):=by
 cases t
 ·exact Draws.list hh it l hne items
 ·exact draws_tuple hh it l hne items
noncomputable abbrev zoB(h:Heap)(t1:Bool)(l1:Addr):Heap:=h.push (itO t1 l1)
noncomputable abbrev zpV(h:Heap)(t1 t2:Bool)(l1 l2:Addr):Heap:=(zoB h t1 l1).push (itO t2 l2)
noncomputable abbrev zpA(h:Heap)(t1 t2:Bool)(l1 l2:Addr):Heap:=(zpV h t1 t2 l1 l2).push {cls:= .type "tuple",data:= .seq #[.ref h.objs.size, .ref (zoB h t1 l1).objs.size]}
noncomputable abbrev zpT(h:Heap)(t1 t2:Bool)(l1 l2:Addr):Heap:=(zpA h t1 t2 l1 l2).push {cls:= .type "tuple",data:= .seq #[.none, .none]}
noncomputable abbrev zkt(h:Heap)(t1 t2:Bool)(l1 l2:Addr):Heap:=(zpT h t1 t2 l1 l2).push {cls:= .type "zip",data:= .fields #[.none, .bool false, .bool false, .ref (zpV h t1 t2 l1 l2).objs.size, .ref (zpA h t1 t2 l1 l2).objs.size]}
theorem znR(t1 t2:Bool)(l1 l2:Addr)(xs ys:Array Value):
 Meets (Builtin.«zip.__new__» ⟨[.type "zip", .ref l1, .ref l2],[]⟩) (λ_ R s=>SqH t1 s.heap l1 xs/\SqH t2 s.heap l2 ys/\
  R (.ok (.ret (.ref (zpT s.heap t1 t2 l1 l2).objs.size))) {s with heap:=zkt s.heap t1 t2 l1 l2}):=
 .of_wp λprog w A R s h=>by
  obtain⟨hp,g,d,tk,os⟩:=s;obtain⟨hl1,hl2,h⟩:=h
  have hsub:=sub_zip
  cases t1<;>cases t2
  ·have hL1:Heap.IsList (Shared.heap ⟨hp,g,d,tk,os⟩) l1 xs:=hl1
   have hL2:Heap.IsList (Shared.heap ⟨hp.push {cls:= .type "list_iterator",data:= .fields #[.ref l1, .int 0 0]},g,d,tk,os⟩) l2 ys:=Heap.IsList.push hl2 _
   wp_walk using wpAny_pyIter_list hL1,wpAny_pyIter_list hL2
   exact⟨_,rfl,h⟩
  ·have hL1:Heap.IsList (Shared.heap ⟨hp,g,d,tk,os⟩) l1 xs:=hl1
   have hL2:Heap.IsTuple (Shared.heap ⟨hp.push {cls:= .type "list_iterator",data:= .fields #[.ref l1, .int 0 0]},g,d,tk,os⟩) l2 ys:=(show Heap.IsTuple _ l2 ys from hl2).at λo e=>Heap.get?_push_of_some _ e
   wp_walk using wpAny_pyIter_list hL1,wpAny_pyIter_tuple hL2
   exact⟨_,rfl,h⟩
  ·have hL1:Heap.IsTuple (Shared.heap ⟨hp,g,d,tk,os⟩) l1 xs:=hl1
   have hL2:Heap.IsList (Shared.heap ⟨hp.push {cls:= .type "tuple_iterator",data:= .fields #[.ref l1, .int 0 0]},g,d,tk,os⟩) l2 ys:=Heap.IsList.push hl2 _
   wp_walk using wpAny_pyIter_tuple hL1,wpAny_pyIter_list hL2
   exact⟨_,rfl,h⟩
  ·have hL1:Heap.IsTuple (Shared.heap ⟨hp,g,d,tk,os⟩) l1 xs:=hl1
   have hL2:Heap.IsTuple (Shared.heap ⟨hp.push {cls:= .type "tuple_iterator",data:= .fields #[.ref l1, .int 0 0]},g,d,tk,os⟩) l2 ys:=(show Heap.IsTuple _ l2 ys from hl2).at λo e=>Heap.get?_push_of_some _ e
   wp_walk using wpAny_pyIter_tuple hL1,wpAny_pyIter_tuple hL2
   exact⟨_,rfl,h⟩
theorem ItH.new{t:Bool}{h:Heap}{it a:Addr}(e:h.get? it=some (itO t a)):ItH t h it a 0:=by
 cases t
 ·exact ⟨_,e,rfl,rfl⟩
 ·exact ⟨_,e,rfl,rfl⟩
theorem call_zp{t1 t2:Bool}{l1 l2:Addr}{xs ys:Array Value}{Q:Value->Shared->Prop}(hl1:SqH t1 s.heap l1 xs)(hl2:SqH t2 s.heap l2 ys)
 (h:∀h',IsZip h' (s.heap.objs.size+4) (s.heap.objs.size+2) (s.heap.objs.size+3) .none->IsPair h' (s.heap.objs.size+2) (.ref s.heap.objs.size) (.ref (s.heap.objs.size+1))->
   IsPair h' (s.heap.objs.size+3) .none .none->ItH t1 h' s.heap.objs.size l1 0->ItH t2 h' (s.heap.objs.size+1) l2 0->h'.objs.size=s.heap.objs.size+5->
   (∀c o,s.heap.get? c=some o->h'.get? c=some o)->Q (.ref (s.heap.objs.size+4)) {s with heap:=h'}):
 wpAny (model prog w) A (call (.type "zip") [.ref l1, .ref l2]) Q E s:=by
 refine callType_new PySem.F.called_zip (by decide) (PySem.F.typeCall_zip_2 _ _) (PySem.F.newCall_zip_2 _ _) (λobj=>PySem.F.args_object_init_3 obj _ _) PySem.F.entry_zip_new
  (znR t1 t2 l1 l2 xs ys) ⟨hl1,hl2,?_⟩
 have z1:(zoB s.heap t1 l1).objs.size=s.heap.objs.size+1:=Heap.size_push ..
 have z2:(zpV s.heap t1 t2 l1 l2).objs.size=s.heap.objs.size+2:=by rw[Heap.size_push,z1]
 have z3:(zpA s.heap t1 t2 l1 l2).objs.size=s.heap.objs.size+3:=by rw[Heap.size_push,z2]
 have z4:(zpT s.heap t1 t2 l1 l2).objs.size=s.heap.objs.size+4:=by rw[Heap.size_push,z3]
 have z5:(zkt s.heap t1 t2 l1 l2).objs.size=s.heap.objs.size+5:=by rw[Heap.size_push,z4]
 have g5:(zkt s.heap t1 t2 l1 l2).get? (zpT s.heap t1 t2 l1 l2).objs.size=some _:=Heap.get?_push_size _ rfl
 have g4:(zkt s.heap t1 t2 l1 l2).get? (zpA s.heap t1 t2 l1 l2).objs.size=some _:=Heap.get?_push_of_some _ (Heap.get?_push_size _ rfl)
 have g3:(zkt s.heap t1 t2 l1 l2).get? (zpV s.heap t1 t2 l1 l2).objs.size=some _:=Heap.get?_push_of_some _ (Heap.get?_push_of_some _ (Heap.get?_push_size _ rfl))
 have g2:(zkt s.heap t1 t2 l1 l2).get? (zoB s.heap t1 l1).objs.size=some _:=Heap.get?_push_of_some _ (Heap.get?_push_of_some _ (Heap.get?_push_of_some _ (Heap.get?_push_size _ rfl)))
 have g1:(zkt s.heap t1 t2 l1 l2).get? s.heap.objs.size=some _:=Heap.get?_push_of_some _ (Heap.get?_push_of_some _ (Heap.get?_push_of_some _ (Heap.get?_push_of_some _ (Heap.get?_push_size _ rfl))))
 show _/\_
 rw[z2,z3,z4] at g5
 rw[z1,z2] at g3
 rw[z3] at g4
 rw[z1] at g2
 rw[z4]
 exact⟨⟨_,g5,rfl⟩,h _ g5 g3 g4 (ItH.new g1) (ItH.new g2) z5 λc o x=>
  Heap.get?_push_of_some _ (Heap.get?_push_of_some _ (Heap.get?_push_of_some _ (Heap.get?_push_of_some _ (Heap.get?_push_of_some _ x))))⟩
end
end HT
namespace L2
open PySem PySem.Spec PyProof.Rows
section
variable{X:Cx}{K:PySem.W.Frag}
def SqZ(t:Bool)(H:Hp)(a:Addr)(xs:List V):Prop:=if t then H a=some (.tup xs)else H a=some (.lst xs)
theorem SqZ.some{t:Bool}{H:Hp}{a:Addr}{xs:List V}(h:SqZ t H a xs):∃o,H a=some o:=by cases t<;>exact ⟨_,h⟩
theorem SqZ.inj{t:Bool}{H:Hp}{a:Addr}{xs ys:List V}(h:SqZ t H a xs)(g:SqZ t H a ys):xs=ys:=by
 cases t
 ·have e:=(show H a=Option.some (.lst xs)from h).symm.trans (show H a=Option.some (.lst ys)from g);cases e;rfl
 ·have e:=(show H a=Option.some (.tup xs)from h).symm.trans (show H a=Option.some (.tup ys)from g);cases e;rfl
theorem ze9{pins:List (Addr×Obj)}{σ:St}{H:Hp}{s:Shared}{t:Bool}{a:Addr}{xs:List V}(I:Inv X pins σ H s)(h:SqZ t H a xs):∃its:List Value,Vals xs its/\HT.SqH t s.heap a its.toArray:=by
 cases t
 ·obtain ⟨its,rv,p,_⟩:=I.list (SqL.of (show H a=Option.some (.lst xs)from h));exact⟨its,rv,p.isList⟩
 ·obtain ⟨its,rv,p,_⟩:=I.tuple (show SqT X.K H a xs from .inl (.inl (show H a=Option.some (.tup xs)from h)));exact⟨its,rv,p⟩
noncomputable def Itz(t1 t2:Bool)(a b:Addr)(n:Nat):It:=
 ⟨λi H=>∃xs ys x y,SqZ t1 H a xs/\SqZ t2 H b ys/\min xs.length ys.length=n/\xs[i]?=some x/\ys[i]?=some y,
  λi H x H'=>∃T xs ys u v,SqZ t1 H a xs/\SqZ t2 H b ys/\x= .ref T/\H T=none/\xs[i]?=some u/\ys[i]?=some v/\H'=upd H T (.tup [u,v]),
  λi H=>∃xs ys,SqZ t1 H a xs/\SqZ t2 H b ys/\min xs.length ys.length=n/\n<=i⟩
structure ZpA(z TI TO i1 i2:Addr):Prop where
 TIz:TI≠z
 TOz:TO≠z
 i1z:i1≠z
 i2z:i2≠z
 TITO:TI≠TO
 TIi1:TI≠i1
 TIi2:TI≠i2
 TOi1:TO≠i1
 TOi2:TO≠i2
 i12:i1≠i2
theorem ZpA.apart{z TI TO i1 i2 l1 l2:Addr}(Z:ZpA z TI TO i1 i2){H:Hp}(hf:∀b∈ [z,TI,TO,i1,i2],H b=none)(h1:∃o,H l1=some o)(h2:∃o,H l2=some o):ZipApart z TI TO i1 i2 l1 l2:=by
 have n1:∀b∈ [z,TI,TO,i1,i2],l1≠b:=λb hb e=>by obtain⟨o,h⟩:=h1;rw[e,hf b hb] at h;cases h
 have n2:∀b∈ [z,TI,TO,i1,i2],l2≠b:=λb hb e=>by obtain⟨o,h⟩:=h2;rw[e,hf b hb] at h;cases h
 exact⟨Z.TIz,Z.TOz,Z.i1z,Z.i2z,Z.TITO,Z.TIi1,Z.TIi2,Z.TOi1,Z.TOi2,Z.i12,n1 _ (by simp),n1 _ (by simp),n1 _ (by simp),n1 _ (by simp),n2 _ (by simp),n2 _ (by simp),n2 _ (by simp),n2 _ (by simp)⟩
theorem Inv.stepF{pins:List (Addr×Obj)}{σ:St}{H:Hp}{s:Shared}{fp:List Addr}{h2:Heap}{tk:Nat}(I:Inv X pins σ H s)(hf:∀b∈fp,zeJ X pins H b)(kk:∀b o,b∉fp->s.heap.get? b=some o->h2.get? b=some o):
 Inv X pins σ H {s with heap:=h2,toks:=tk}:=by
 refine Inv.step (s:=s) (h':=h2) (t':=tk) (g':=s.gens) (d':=s.drawn) (ch:=fp) I (λb hb=>?_) (λb o _ _ hc e' _=>kk b o hc e') (λb o _ _ hc e' _=>⟨o.slots,kk b o hc e'⟩) (λ_ _ _ _ z=>z) (λb o hc e'=>⟨o,kk b o hc e'⟩) (λ_ _ z=>z) (λ_ _ _ z=>z) (λb ps z=>⟨#[],by rw[z];simp⟩) (λm hm=>?_) (λb u' z=>?_) I.bare
 ·obtain ⟨f0,f1,f2,f3,f4,f5⟩:=hf b hb
  exact⟨f3,f1,f4,f5⟩
 ·obtain ⟨o,es,ep,ho,r⟩:=hm
  exact⟨o,es,ep,kk _ o (λz=>(hf _ z).2.1 rfl) ho,r⟩
 ·refine (I.hok b u' z).stay (λc v hc q=>kk c v (λy=>?_) q) (λc q=>q) λc xs q=>q
  have:∃u2,H c=some u2:=by
   rcases hc with rfl|hc
   ·exact ⟨_,z⟩
   ·exact ⟨_,hc⟩
  obtain⟨u2,hu2⟩:=this
  rw[(hf c y).1] at hu2;cases hu2
theorem zmQ{P:Program}{w:World}{K:PySem.W.Frag}{elts:List Expr}{k:Nat}{pos:Pos}{t1 t2:Bool}(a b z TI TO i1 i2:Addr)(n:Nat)(Z:ZpA z TI TO i1 i2):
 Turn P w K (.Tuple elts k pos) (Itz t1 t2 a b n) [z,TI,TO,i1,i2] z (λi h=>i<=n/\IsZip h z TI TO .none/\IsPair h TI (.ref i1) (.ref i2)/\(∃x y,IsPair h TO x y)/\HT.ItH t1 h i1 a i/\HT.ItH t2 h i2 b i) where
 mem:=by simp
 obj:=λi h st c hc=>by
  obtain⟨_,hz,hTI,⟨x,y,hTO⟩,h1,h2⟩:=st
  simp only[List.mem_cons,List.not_mem_nil,or_false] at hc
  rcases hc with rfl|rfl|rfl|rfl|rfl
  ·exact ⟨_,hz,λv e=>by cases e⟩
  ·exact ⟨_,hTI,λv e=>by cases e⟩
  ·exact ⟨_,hTO,λv e=>by cases e⟩
  ·obtain ⟨o,ho,d,_⟩:=h1.obj;exact⟨o,ho,d⟩
  ·obtain ⟨o,ho,d,_⟩:=h2.obj;exact⟨o,ho,d⟩
 keep:=λi h h' st kk=>by
  obtain⟨l,hz,hTI,⟨x,y,hTO⟩,h1,h2⟩:=st
  exact⟨l,kk _ (by simp) _ hz,kk _ (by simp) _ hTI,⟨x,y,kk _ (by simp) _ hTO⟩,h1.at λo e=>kk _ (by simp) o e,h2.at λo e=>kk _ (by simp) o e⟩
 item:=by
  intro X hP hw hK hc i pins s σ H E I hf st hg
  subst hP hw hK
  obtain⟨xs,ys,x,y,hq1,hq2,hn,hx,hy⟩:=hg
  obtain⟨it1,rv1,p1⟩:=ze9 I hq1
  obtain⟨it2,rv2,p2⟩:=ze9 I hq2
  obtain⟨u1,hu1,ru1⟩:=rv1.get hx
  obtain⟨u2,hu2,ru2⟩:=rv2.get hy
  have hf0:∀c∈ [z,TI,TO,i1,i2],H c=none:=λc hc=>(hf c hc).1
  have D:=Z.apart hf0 hq1.some hq2.some
  obtain⟨hin,hz,hTI,⟨x0,y0,hTO⟩,h1,h2⟩:=st
  have L1:i<it1.toArray.size:=by
   rcases Nat.lt_or_ge i it1.length with q|q
   ·simpa using q
   ·rw[List.getElem?_eq_none q] at hu1;cases hu1
  have L2':i<it2.toArray.size:=by
   rcases Nat.lt_or_ge i it2.length with q|q
   ·simpa using q
   ·rw[List.getElem?_eq_none q] at hu2;cases hu2
  have hT:s.TypeIs (.ref z) "zip":=⟨_,hz,rfl⟩
  unfold pyNext
  refine wpAny_bind (wpAny_attempt (wpAny_callSpecial?_slot (name:=Str.ofString "__next__") hT PySem.F.slot_zip_next (wpAny_call_entry PySem.F.slot_zip_next hT PySem.F.entry_zip_next
   (HT.zip_itemD D (HT.drawsH (A:=X.A.in1) t1 (I.ok.hd hc) i1 a D.l1i1 it1.toArray) (HT.drawsH (A:=X.A.in1) t2 (I.ok.hd hc) i2 b D.l2i2 it2.toArray) hz hTI hTO ⟨h1,p1⟩ ⟨h2,p2⟩ L1 L2' λx' y' h' tk hx' hy' az ao a1 a2 aT asz hk=>?_) (PySem.F.args_zip_next_1 _))))
  refine wpAny_pure ?_
  obtain⟨T,hTT⟩:∃T,T=s.heap.objs.size:=⟨_,rfl⟩
  rw[←hTT] at az aT⊢
  have e1:x'=u1:=by
   have:it1.toArray[i]?=some u1:=by simpa using hu1
   rw[this] at hx';exact(Option.some.inj hx').symm
  have e2:y'=u2:=by
   have:it2.toArray[i]?=some u2:=by simpa using hu2
   rw[this] at hy';exact(Option.some.inj hy').symm
  subst e1 e2
  refine⟨_,rfl,wpAny_letOwnedTupleGo_zip az λh2' hz2 hs2=>?_⟩
  have ltT:∀{c o},s.heap.get? c=some o->c≠T:=λq e=>by
   have:=Heap.lt_size q
   rw[e,hTT] at this
   exact absurd this (Nat.lt_irrefl _)
  have nTz:T≠z:=Ne.symm (ltT hz)
  have hT2:h2'.get? T=some {cls:= .type "tuple",data:= .seq #[x',y']}:=hs2.extBut _ _ nTz aT
  have fT:H T=none:=I.hok.fresh (Nat.le_of_eq hTT.symm)
  have kk:∀c o,c∉ [z,TI,TO,i1,i2]->s.heap.get? c=some o->h2'.get? c=some o:=λc o hc e=>hs2.extBut _ _ (λq=>hc (by simp[q])) (hk c o (λq=>hc (by simp[q])) (λq=>hc (by simp[q])) (λq=>hc (by simp[q])) (λq=>hc (by simp[q])) e)
  have nT:T∉ [z,TI,TO,i1,i2]:=λq=>by
   simp only[List.mem_cons,List.not_mem_nil,or_false] at q
   rcases q with q|q|q|q|q
   ·exact nTz q
   ·exact ltT hTI q.symm
   ·exact ltT hTO q.symm
   ·obtain ⟨o,ho,_⟩:=h1.obj;exact ltT ho q.symm
   ·obtain ⟨o,ho,_⟩:=h2.obj;exact ltT ho q.symm
  have neT:∀{c u'},H c=some u'->c≠T:=λq e=>by rw[e,fT] at q;cases q
  refine⟨.ref T,upd H T (.tup [x,y]),?_,rfl,⟨T,xs,ys,x,y,hq1,hq2,rfl,fT,hx,hy,rfl⟩,⟨?_,hz2,hs2.extBut _ _ Z.TIz (hk _ _ Z.TIz Z.TITO Z.TIi1 Z.TIi2 hTI),⟨_,_,hs2.extBut _ _ Z.TOz ao⟩,a1.1.at λo e=>hs2.extBut _ _ Z.i1z e,a2.1.at λo e=>hs2.extBut _ _ Z.i2z e⟩,λc hc=>?_⟩
  ·show Inv X pins σ _ {s with heap:=h2',gens:=s.gens,drawn:=s.drawn,toks:=tk}
   refine Inv.step (s:=s) (h':=h2') (t':=tk) (g':=s.gens) (d':=s.drawn) (ch:=[z,TI,TO,i1,i2]) I (λc hc=>?_) (λc o _ _ hc e' _=>kk c o hc e') (λc o _ _ hc e' _=>⟨o.slots,kk c o hc e'⟩) (λc o _ e' q=>by rw[zq (ltT e')];exact q) (λc o hc e'=>⟨o,kk c o hc e'⟩) (λc xs q=>by rw[zq (neT q)];exact q) (λc o u' q=>by rw[zq (neT q)];exact q) (λc ps q=>⟨#[],by rw[zq (neT q),q];simp⟩) (λm hm=>?_) (λc u' q=>?_) I.bare
   ·obtain ⟨f0,f1,f2,f3,f4,f5⟩:=hf c hc
    exact⟨f3,f1,f4,f5⟩
   ·obtain ⟨o,es,ep,ho,r⟩:=hm
    exact⟨o,es,ep,kk _ o (λq=>(hf _ q).2.1 rfl) ho,r⟩
   ·by_cases hb:c=T
    ·subst hb
     rw[zd] at q
     cases q
     exact⟨few rfl,[x',y'], .cons ru1 (.cons ru2 .nil),⟨_,hT2,rfl,_,rfl⟩,λo q=>by rw[hT2] at q;cases q;rfl⟩
    ·rw[zq hb] at q
     refine(I.hok c u' q).stay (λd v hd q'=>kk d v (λy'=>?_) q') (λd q'=>by rw[zq (neT q')];exact q') λd xs q'=>by rw[zq (neT q')];exact q'
     have:∃u2,H d=some u2:=by
      rcases hd with rfl|hd
      ·exact ⟨_,q⟩
      ·exact ⟨_,hd⟩
     obtain⟨u2,hu2⟩:=this
     rw[hf0 d y'] at hu2;cases hu2
  ·have m1:i<xs.length:=by
    rcases Nat.lt_or_ge i xs.length with q|q
    ·exact q
    ·rw[List.getElem?_eq_none q] at hx;cases hx
   have m2:i<ys.length:=by
    rcases Nat.lt_or_ge i ys.length with q|q
    ·exact q
    ·rw[List.getElem?_eq_none q] at hy;cases hy
   rw[←hn]
   exact Nat.lt_min.mpr ⟨m1,m2⟩
  ·have:c≠T:=λq=>nT (by rw[←q];exact hc)
   rw[zq this]
   exact(hf c hc).1
 done:=by
   intro X hP hw hK hc i pins s σ H E I hf st hg
   subst hP hw hK
   obtain⟨xs,ys,hq1,hq2,hn,hle⟩:=hg
   obtain⟨it1,rv1,p1⟩:=ze9 I hq1
   obtain⟨it2,rv2,p2⟩:=ze9 I hq2
   have hf0:∀c∈ [z,TI,TO,i1,i2],H c=none:=λc hc=>(hf c hc).1
   have D:=Z.apart hf0 hq1.some hq2.some
   obtain⟨hin,hz,hTI,⟨x0,y0,hTO⟩,h1,h2⟩:=st
   have ei:i=min xs.length ys.length:=by omega
   have l1:=rv1.length
   have l2:=rv2.length
   have hend:i=it1.toArray.size\/(i<it1.toArray.size/\i=it2.toArray.size):=by
    simp only[List.size_toArray]
    rcases Nat.lt_or_ge ys.length xs.length with q|q
    ·exact .inr ⟨by omega,by omega⟩
    ·exact .inl (by omega)
   have hT:s.TypeIs (.ref z) "zip":=⟨_,hz,rfl⟩
   unfold pyNext
   refine wpAny_bind (wpAny_attempt (wpAny_callSpecial?_slot (name:=Str.ofString "__next__") hT PySem.F.slot_zip_next (wpAny_call_entry PySem.F.slot_zip_next hT PySem.F.entry_zip_next
    (HT.zip_endD D (HT.drawsH (A:=X.A.in1) t1 (I.ok.hd hc) i1 a D.l1i1 it1.toArray) (HT.drawsH (A:=X.A.in1) t2 (I.ok.hd hc) i2 b D.l2i2 it2.toArray) hz hTI hTO ⟨h1,p1⟩ ⟨h2,p2⟩ hend λh' tk e hk he=>?_) (PySem.F.args_zip_next_1 _))))
   obtain⟨o,ho,hce⟩:=he
   refine wpAny_bind (wpAny_isInstance (T:="StopIteration") (b:=true) ⟨o,ho,hce⟩ isSubtype_stop ?_)
   refine wpAny_pure ⟨rfl,I.stepF (fp:=[z,TI,TO,i1,i2]) hf λc o hc e=>hk c o (λq=>hc (by simp[q])) (λq=>hc (by simp[q])) (λq=>hc (by simp[q])) (λq=>hc (by simp[q])) e⟩
 self:=λA i s Q E st h=>wpAny_pyIter_zip st.2.1 h
noncomputable def zsl(ta:TA):TI:=λσ H R=>ta σ H λvs H1=>∃a b t1 t2 xs ys,vs=[.ref a, .ref b]/\SqZ t1 H1 a xs/\SqZ t2 H1 b ys/\R (Itz t1 t2 a b (min xs.length ys.length)) H1
theorem zm7:bootBuiltins "zip"=some (.type "zip"):=by kernel_rfl
theorem zrM{elts:List Expr}{k:Nat}{pos2:Pos}{a b:Expr}{ta:TA}{p pos:Pos}(hm:X.mg "zip"=none)(ha:QA X [a,b] ta)(hg:Gl X "zip":=by rfl)(hs:starEach [a,b] X.env=[(false,eval a X.env),(false,eval b X.env)]:=by rfl)(hs2:starEach [b] X.env=[(false,eval b X.env)]:=by rfl):QI X (.Tuple elts k pos2) (.Call (.Name "zip" p) [a,b] [] pos) (zsl ta):=⟨by
 intro pins s σ H R I h
 refine Call_ (zdT I hg hm zm7 (PyProof.Rows.callWith_type1 (thn (ha.o pos pins s σ H _ I h) λus s1 ⟨vs,H1,I1,r1,q1⟩=>?_) (by rw[hs,hs2]) (by rw[hs2];rfl)))
 obtain⟨l1,l2,t1,t2,xs,ys,rfl,hq1,hq2,q⟩:=q1
 obtain⟨u,v,rfl,ru,rv⟩:=zhG r1
 cases ru
 cases rv
 obtain⟨it1,rv1,p1⟩:=ze9 I1 hq1
 obtain⟨it2,rv2,p2⟩:=ze9 I1 hq2
 refine HT.call_zp p1 p2 λh' hz hTI hTO hi1 hi2 hsz kk=>?_
 have Z:ZpA (s1.heap.objs.size+4) (s1.heap.objs.size+2) (s1.heap.objs.size+3) s1.heap.objs.size (s1.heap.objs.size+1):=by constructor<;>(intro e;have e':(_:Nat)=_:=e;omega)
 refine wpAny_pyIter_zip hz ?_
 refine⟨s1.heap.objs.size+4,[s1.heap.objs.size+4,s1.heap.objs.size+2,s1.heap.objs.size+3,s1.heap.objs.size,s1.heap.objs.size+1],_,_,H1,rfl,I1.kept (t':=s1.toks) kk,zmQ l1 l2 _ _ _ _ _ (min xs.length ys.length) Z,⟨Nat.zero_le _,hz,hTI,⟨_,_,hTO⟩,hi1,hi2⟩,λc hc=>?_,q⟩
 have hb':s1.heap.objs.size<=c:=by
  simp only[List.mem_cons,List.not_mem_nil,or_false] at hc
  rcases hc with e|e|e|e|e<;>(have e':(c:Nat)=_:=e;rw[e'];first|exact Nat.le_refl _|exact Nat.le_add_right _ _)
 exact I1.fpOk hb' (I1.hok.fresh hb')⟩
theorem zpF{J:It}{n:Nat}{g:TG}{tb:TS}{D:Ends}{σ:St}{H:Hp}(Pv:Nat->St->Hp->Prop)(h0:Pv 0 σ H)(hgo:∀i σ H,i<n->Pv i σ H->J.go i H)(hst:∀σ H,Pv n σ H->J.stop n H)
 (hs:∀i x σ H H1,i<n->Pv i σ H->J.yld i H x H1->g x σ H1 λσ2 H2=>tb {D with nx:=Pv (i+1),ct:=Pv (i+1),bk:=D.nx} σ2 H2) (hd:∀σ H,Pv n σ H->D.nx σ H):zmU g tb D σ J H:=by
 refine⟨λi m σ H=>m=n -i/\i<=n/\Pv i σ H,⟨n,by simp,Nat.zero_le _,h0⟩,?_⟩
 rintro i m σ H ⟨rfl,hi,p⟩
 by_cases hlt:i<n
 ·exact .inr ⟨hgo i σ H hlt p,Pv (i+1),λσ' H' q=>⟨n -(i+1),by omega,rfl,hlt,q⟩,λx H' y=>hs i x σ H H' hlt p y⟩
 ·have e:i=n:=by omega
  subst e
  exact .inl ⟨hst σ H p,hd σ H p⟩
theorem zn2{J:It}{n:Nat}{g:TG}{tc:TT}{te:TE}{src:List (Option Nat)}{σ:St}{H1:Hp}{Q:VK}(Pv:Addr->Nat->List V->St->Hp->Prop)
 (h0:∀l,H1 l=none->Pv l 0 [] (zdo src σ) (upd H1 l (.lst []))) (hgo:∀l i ys σ H,H1 l=none->i<n->Pv l i ys σ H->J.go i H) (hst:∀l ys σ H,H1 l=none->Pv l n ys σ H->J.stop n H)
 (hs:∀l i x ys σ H H2,H1 l=none->i<n->Pv l i ys σ H->H l=some (.lst ys)->J.yld i H x H2->g x σ H2 λσ2 H3=>tc σ2 H3 λb H4=>
   if b=true then te σ2 H4 λy H5=>H5 l=some (.lst ys)/\ys.length<sizeLine/\Pv l (i+1) (ys ++ [y]) σ2 (upd H5 l (.lst (ys ++ [y])))else H4 l=some (.lst ys)/\Pv l (i+1) ys σ2 H4)
 (hd:∀l ys σ H,H1 l=none->Pv l n ys σ H->H l=some (.lst ys)->Q (.ref l) H):zcb g tc te src σ Q J H1:=by
 intro l hl
 refine⟨λi m ys σ H=>m=n -i/\i<=n/\Pv l i ys σ H,⟨n,by simp,Nat.zero_le _,h0 l hl⟩,?_⟩
 rintro i m ys σ' H' ⟨rfl,hi,p⟩ hl'
 by_cases hlt:i<n
 ·exact .inr ⟨hgo l i ys σ' H' hl hlt p,Pv l (i+1),λzs σ2 H2 q=>⟨n -(i+1),by omega,rfl,hlt,q⟩,λx H2 y=>hs l i x ys σ' H' H2 hl hlt p hl' y⟩
 ·have e:i=n:=by omega
  subst e
  exact .inl ⟨hst l ys σ' H' hl p,hd l ys σ' H' hl p hl'⟩
end
section
variable{prog:Program}{w:World}{A:Around}{R:Result->Shared->Prop}{s:Shared}{elt t1 i1 t2 i2:Expr}{f1 f2:List Expr}{scope:Scope}{pos:Pos}{it acc:Value}{env:Env}
end
section
variable{X:Cx}{elt tg iter tg2 iter2:Expr}{ifs ifs2:List Expr}{scope osc:Scope}{pos:Pos}{N':List Str}{src:List (Option Nat)}{wi wi2:TI}{g g2:TG}{tc tc2:TT}{te:TE}
end
def zrQ(v:V)(y:Str):Prop:=v= .str y\/∃i:Int,v= .int i/\y=(toString i:String)/\i.natAbs.log2<1920
section
variable{X:Cx}{e:Expr}{te:TE}{pos:Pos}{es:List Expr}{ts:List TE}
structure QP1(X:Cx)(e:Expr)(te:TE):Prop where
 o:∀(pins:List (Addr×Obj)) (s:Shared) (σ:St) (H:Hp) (Q:Str->Hp->Prop),Inv X pins σ H s->(te σ H λv H1=>∃y,zrQ v y/\y.length<=sizeLine/\Q y H1)->
  wpAny (model X.prog X.w) X.A (eval e X.env) (λu s1=>∃y t H1,u= .str y t/\Inv X pins σ H1 s1/\Q y H1) X.xe s
inductive QJ(X:Cx):List Expr->List TE->Prop
 |nil:QJ X [] []
 |cons {e:Expr} {t:TE} {es:List Expr} {ts:List TE} (h:QP1 X e t) (r:QJ X es ts):QJ X (e::es) (t::ts)
end
section
variable{prog:Program}{w:World}{A:Around}{E:Value->Shared->Prop}{s:Shared}
end
section
variable{X:Cx}
end
end L2
namespace RW
open PySem PySem.Spec PyProof.Rows L2
end RW
namespace L2
open PySem PySem.Spec PyProof.Rows
section
variable{X:Cx}{K:PySem.W.Frag}
end
end L2
namespace RW
open PySem PySem.Spec PyProof.Rows L2
end RW
namespace HT
open PySem PySem.Spec PyProof.Rows L2
section
variable{prog:Program}{w:World}{A:Around}{E:Value->Shared->Prop}{s:Shared}
end
section
variable{prog:Program}{w:World}{A:Around}{E:Value->Shared->Prop}{s:Shared}{K:Type}[DecidableEq K]{knd:KeyKind prog w K}
structure DzAt(h:Heap)(knd:KeyKind prog w K)(t1 t2:Bool)(z TI i1 i2 l1 l2 d:Addr)(xs ys:Array Value)(kvs:List (K×Value))(i:Nat):Prop where
 TI:IsPair h TI (.ref i1) (.ref i2)
 p1:ItH t1 h i1 l1 i
 p2:ItH t2 h i2 l2 i
 q1:SqH t1 h l1 xs
 q2:SqH t2 h l2 ys
 dd:h.DictOf knd d kvs
structure DzD(z TI TO i1 i2 l1 l2 d:Addr):Prop extends ZipApart z TI TO i1 i2 l1 l2 where
 dz:d≠z
 dTI:d≠TI
 di1:d≠i1
 di2:d≠i2
 dl1:d≠l1
 dl2:d≠l2
 TIl1:True
end
end HT
namespace L2
open PySem PySem.Spec PyProof.Rows
section
variable{X:Cx}
end
end L2
namespace RW
open PySem PySem.Spec PyProof.Rows L2
section
variable{X:Cx}
end
end RW
namespace RW
open PySem PySem.W PyProof.Rows L2
section
variable{N:Nat}{lt:Nat->Nat->Bool}
end
end RW
namespace L2
open PySem PySem.Spec PySem.W PyProof.Rows
def zdO(H:Hp)(vs:List V)(ps:List (List Str)):Prop:=vs.length=ps.length/\∀(i:Nat) (v:V) (p:List Str),vs[i]?=some v->ps[i]?=some p->∃b,v= .ref b/\H b=some (.tup (p.map V.str))
section
variable{prog:Program}{w:World}{A:Around}{E:Value->Shared->Prop}{s:Shared}
end
section
variable{X:Cx}{K:PySem.W.Frag}
end
end L2
namespace L2
open PySem PySem.Spec PyProof.Rows
section
variable{X:Cx}{K:PySem.W.Frag}{o:Expr}{to:TE}{name:Str}{apos cpos:Pos}{T id:String}{r:V->List V->Hp->VK->Prop}
end
section
variable{X:Cx}{K:PySem.W.Frag}
end
end L2
namespace RW
open PySem PySem.Spec PyProof.Rows L2
noncomputable def tD(xs:List Str):D:= .tup (xs.map D.str)
noncomputable def zoP:List Str->Bool
 |[a,b,w]=>zi a&&zi b&&(if w="equal"then ltS a b else decide (w="over")&&!decide (a=b))
 |_=>false
theorem zf3(xs:List Str):zgH (tD xs)=xs:=strs_map xs
noncomputable def zki(r:List Str):List Str:=srt (r.take 2)
structure KinOk(rs:List (List Str)):Prop where
 row:∀r∈rs,zoP r=true
 rise:rs.Pairwise (λa b=>ltL a b=true)
 ties:(rs.map zki).Nodup
noncomputable def pr(a b:Str):List Str:=srt [a,b]
noncomputable abbrev at_(xs:List Str)(i:Nat):Str:=xs.getD i ""
structure KD62(xs:List Str)(ps:List (Nat×Nat))(k:Nat)(rs:List (List Str)):Prop where
 row:∀r∈rs,zoP r=true
 nd:(rs.map zki).Nodup
 few:rs.length<=k
 old:∀r∈rs,∃q∈ps.take k,q.1<q.2/\zki r=pr (at_ xs q.1) (at_ xs q.2)
theorem zpl{H:Hp}{l:Addr}{vs:List V}{ds:List D}(e:H l=some (.lst vs))(r:RepL H vs ds)(h:∀d∈ds,okD d=true):Tr H (.ref l) (.list (ds.map pyD)):=by
 refine .lst e (by rw[List.length_map];exact r.1) λi v d e1 e2=>?_
 rw[List.getElem?_map] at e2
 cases e3:ds[i]? with
 |none=>rw[e3] at e2;cases e2
 |some d'=>rw[e3] at e2;cases e2;exact zlH (r.2 i v d' e1 e3) (h d' (List.mem_of_getElem? e3))
section
variable{te tf:TE}{ta:TA}{σ:L2.St}{H:Hp}{P P':D->Prop}{d:D}{ds:List D}{n:Nat}{K:PySem.W.Frag}
end
end RW
namespace HT
open PySem PySem.Spec PyProof.Rows L2
section
variable{prog:Program}{w:World}{A:Around}{E:Value->Shared->Prop}{s:Shared}
end
end HT
namespace L2
open PySem PySem.Spec PyProof.Rows
noncomputable def zpd(n:Nat):It:=⟨λi _=>i<n,λi H x H'=>H'=H/\x= .int ((n:Int) -1 -i),λi _=>n<=i⟩
theorem zpn{n:Nat}:Wk (zpd n) n (λi x=>x= .int ((n:Int) -1 -i)) (λ_=>True) where
 stop:=λi H h l=>l
 go:=λi H h l=>l
 yld:=λi H x H' h l y=>y
theorem zmC{P:Program}{w:World}{K:PySem.W.Frag}{tg:Expr}(it:Addr)(n:Nat):Turn P w K tg (zpd n) [it] it (λi h=>IsRangeIter h it ((n:Int) -1+(i:Nat)*(-1)) ((n:Int) -(i:Nat)) (-1)) where
 mem:=by simp
 obj:=λi h st b hb=>by
  have e:b=it:=by simpa using hb
  subst e
  exact⟨_,st,λv z=>by
   have z':Data.fields _=Data.cell v:=z
   cases z'⟩
 keep:=λi h h' st k=>k it (by simp) _ st
 item:=by
  intro X hP hw hK hc i pins s σ H E I hf st hg
  subst hP hw hK
  obtain⟨f0,f1,f2,f3,f4,f5⟩:=hf it (by simp)
  have W:=Walks.range (prog:=X.prog) (w:=X.w) (I.ok.hd hc) it ((n:Int) -1) (-1) n
  refine W.item i s _ _ hg st λv h' tk hv st' kk=>?_
  obtain⟨t,rfl⟩:=hv
  have I1:Inv X pins σ H {s with heap:=h',toks:=tk}:=I.turned (λb o hb e=>kk b o (by simpa using hb) e) f0 f1 f3 f4 f5
  refine⟨_,rfl,zhw (s:={s with heap:=h',toks:=tk}) (n:="range_iterator") st' rfl rfl (by decide) ⟨.int ((n:Int) -1 -i),H,I1,⟨t,?_⟩,⟨rfl,rfl⟩,st',λb hb=>(hf b hb).1⟩⟩
  congr 1
  omega
 done:=by
   intro X hP hw hK hc i pins s σ H E I hf st hg
   subst hP hw hK
   obtain⟨f0,f1,f2,f3,f4,f5⟩:=hf it (by simp)
   exact wpAny_pyNext_range_end (I.ok.hd hc) st (by have:n<=i:=hg;omega) λh' eb=>⟨rfl,I.turned (t':=s.toks) (λb o hb e=>eb b o hb e) f0 f1 f3 f4 f5⟩
 self:=λ_ _ _ _ _ st h=>wpAny_pyIter_rangeiter st h
section
variable{X:Cx}{tg:Expr}
end
section
variable{X:Cx}
theorem zrg{tg e:Expr}{te:TE}(h:QE X e te):QI X tg e (λσ H R=>zpv X.K te σ H R\/zlz X.K te σ H R):=⟨λpins s σ H R I q=>by
 rcases q with q|q
 ·exact (zaP h).o pins s σ H R I q
 ·exact (zdN h).o pins s σ H R I q⟩
end
end L2
namespace RW
open PySem PySem.Spec PyProof.Rows L2
noncomputable def zsz:D->List D| .tup rs=>rs|_=> []
noncomputable def zad:List Str->List D->Str->List D
 |h::hs,d::ds,x=>if h=x then zsz d else zad hs ds x
 |_,_,_=> []
theorem zf5{x:Str}{rs:List D}:∀{hs:List Str} {ds:List D} {j:Nat},hs.Nodup->hs[j]?=some x->ds[j]?=some (.tup rs)->zad hs ds x=rs
 |[],_,j,_,h1,_=>by simp at h1
 |h::hs,[],j,_,_,h2=>by simp at h2
 |h::hs,d::ds,0,_,h1,h2=>by
  simp at h1 h2
  subst h1 h2
  rw[zad,if_pos rfl];rfl
 |h::hs,d::ds,j+1,nd,h1,h2=>by
  simp only[List.getElem?_cons_succ] at h1 h2
  rw[List.nodup_cons] at nd
  have hne:¬h=x:=λe=>nd.1 (e▸List.mem_of_getElem? h1)
  rw[zad,if_neg hne]
  exact zf5 nd.2 h1 h2
noncomputable def zac:D->Bool| .non=>true|_=>false
theorem zeD{H:Hp}{u:V}{d:D}(r:Rep H u d):decide (u=V.non)=zac d:=by
 cases r<;>first|rfl|exact decide_eq_false (λz=>by cases z)
noncomputable def zmN(hs:List Str)(lks hds:List D)(y:Str)(w ms:List Str):Option (List Str):=
 match zD w (some y) (zad hs hds (w.headD "")) ms with
 |none=>none
 |some t=>if zac (zaf (y::w) t (zad hs lks y))=true then none else some t
noncomputable def zcz(hs:List Str)(lks hds:List D):List Str->Option (List Str)
 |[]=>some []
 |[_]=>some []
 |y::x::ws=>match zcz hs lks hds (x::ws)with
  |none=>none
  |some t=>zmN hs lks hds y (x::ws) t
structure Mr(O t:List Str):Prop extends Mk O t where
 rise:t.Pairwise (λa b=>ltS a b=true)
theorem Mr.next{O t:List Str}{w m:Str}(h:Mr O t)(hm:m∈O):Mr O (ze3 t w m):=⟨h.toMk.next hm,znF (zhh h.nd)⟩
theorem Mr.nil{O:List Str}:Mr O []:=⟨⟨List.nodup_nil,λ_ h=>nomatch h⟩,List.Pairwise.nil⟩
theorem zdj{O:List Str}{ws:List Str}{to:Option Str}:∀{rs:List D} {ms t:List Str},(∀r∈rs,∃cs x,r= .tup [.tup cs,x]/\(∀c∈cs,zQ c=true)/\(x= .tup [.str "keep"]\/∃w m,x= .tup [.str w, .str m]/\(w="put"\/w="strike")/\m∈O))->Mr O ms->zD ws to rs ms=some t->Mr O t
 |[],ms,t,_,h,e=>by rw[zD] at e;cases e;exact h
 |r::rs,ms,t,hr,h,e=>by
  obtain⟨cs,x,rfl,_,hx⟩:=hr r List.mem_cons_self
  have hr':=λr h=>hr r (List.mem_cons_of_mem _ h)
  rw[zD] at e
  split at e
  ·rcases hx with rfl|⟨w,m,rfl,_,hm⟩
   ·cases e
   ·exact zdj hr' (h.next hm) e
  ·exact zdj hr' h e
end RW
namespace L2
section
variable{α:Type}{P:List α->Prop}
theorem of1(h:∀a,P [a]):∀us:List α,us.length=1->P us
 |[a],_=>h a
theorem of2(h:∀a b,P [a,b]):∀us:List α,us.length=2->P us
 |[a,b],_=>h a b
theorem of3(h:∀a b c,P [a,b,c]):∀us:List α,us.length=3->P us
 |[a,b,c],_=>h a b c
theorem of4(h:∀a b c d,P [a,b,c,d]):∀us:List α,us.length=4->P us
 |[a,b,c,d],_=>h a b c d
end
end L2
namespace HT
open PySem PySem.Spec PyProof.Rows L2
section
variable{prog:Program}{w:World}{A:Around}{R:Result->Shared->Prop}{I:Addr}{fp wr:List Addr}{n:Nat}{P:Nat->Value->Prop}{St:Nat->Heap->Prop}
end
section
variable{prog:Program}{w:World}{A:Around}{E:Value->Shared->Prop}{s:Shared}
end
end HT
namespace L2
open PySem PySem.Spec PyProof.Rows
section
variable{X:Cx}
end
section
variable{X:Cx}
end
end L2
namespace L2
open PySem PySem.W PySem.Spec PyProof.Rows PyProof.V
section
variable{X:Cx}
end
end L2
namespace HT
open PySem PySem.Spec PyProof.Rows L2
section
variable{prog:Program}{w:World}{A:Around}{R:Result->Shared->Prop}{I:Addr}{fp wr:List Addr}{n:Nat}{P:Nat->Value->Prop}{St:Nat->Heap->Prop}
end
section
variable{prog:Program}{w:World}{A:Around}{E:Value->Shared->Prop}{s:Shared}
end
section
variable{prog:Program}{w:World}{A:Around}{E:Value->Shared->Prop}{s:Shared}
end
end HT
namespace L2
open PySem PySem.W PySem.Spec PyProof.Rows PyProof.V
section
variable{X:Cx}
end
end L2
namespace L2
open PySem PySem.Spec PyProof.Rows
section
variable{prog:Program}{w:World}{A:Around}{R:Result->Shared->Prop}{s:Shared}{kx vx t1 i1 t2 i2:Expr}{f1 f2:List Expr}{scope:Scope}{pos:Pos}{it acc:Value}{env:Env}{d:Addr}
end
section
variable{X:Cx}{kx vx tg iter tg2 iter2:Expr}{ifs ifs2:List Expr}{scope osc:Scope}{pos:Pos}{N':List Str}{src:List (Option Nat)}{wi wi2:TI}{g g2:TG}{tc tc2:TT}{tk tv:TE}{y:Str}{py spos:Pos}{k:Nat}
end
section
variable{X:Cx}{pos:Pos}{pins:List (Addr×Obj)}{σ:St}{H:Hp}{s:Shared}
end
end L2
namespace RW
open PySem PySem.Spec PyProof.Rows L2
structure RingG(G:Str->List Str)(xs:List Str):Prop where
 two:2<=xs.length
 ends:xs[0]?=xs[xs.length -1]?
 nd:(xs.drop 1).Nodup
 nxt:∀i a b,xs[i]?=some a->xs[i+1]?=some b->a∈G b
structure Led(H:Hp)(kvs:List (Key×V))(ks:List Str)(G:Str->List Str):Prop where
 keys:kvs.map (·.1)=ks.map Sum.inr
 nd:ks.Nodup
 at_:∀x∈ks,∃l,zeO kvs (Sum.inr x)=some (.ref l)/\H l=some (.lst ((G x).map V.str))
 sub:∀x∈ks,∀y∈G x,y∈ks
 short:∀x∈ks,x.length<=1000
 few:ks.length<=60/\∀x∈ks,(G x).length<=60
noncomputable def tol(tk:List (Key×V))(x:Str):Bool:=(zeO tk (Sum.inr x)).isSome
structure Tld63(tk:List (Key×V))(ks:List Str)(G:Str->List Str):Prop where
 opn:∀x∈ks,tol tk x=false->∃y∈G x,tol tk y=false
 sure:∀W:Str->Prop,(∀b,W b->∃a∈G b,W a)->∀b,W b->tol tk b=false
structure Peel(rs R:List (List Str)):Prop where
 sub:∀r∈R,r∈rs/\at_ r 2=("over":Str)
 out:∀W:Str->Prop,(∀b,W b->∃a,[a,b,"over"]∈rs/\W a)->∀a b,W a->W b->[a,b,"over"]∈rs->[a,b,"over"]∈R
structure LR(ks:List Str)(G:Str->List Str)(tk:List (Key×V))(ws:List Str):Prop where
 sub:∀x∈ws,x∈ks
 cov:∀x∈ks,x∈ws\/tol tk x=true
 sure:∀W:Str->Prop,(∀b,W b->∃a∈G b,W a)->∀b,W b->tol tk b=false
 inv:∀x v,zeO tk (Sum.inr x)=some v->∃n,v=V.int n
 len:tk.length+ws.length<=ks.length
structure LRi(ks:List Str)(G:Str->List Str)(tk:List (Key×V))(ws ys:List Str)(i:Nat)(fr:Bool):Prop where
 sub:∀x∈ys,x∈ks
 cov:∀x∈ks,x∈ys\/x∈ws.drop i\/tol tk x=true
 sure:∀W:Str->Prop,(∀b,W b->∃a∈G b,W a)->∀b,W b->tol tk b=false
 inv:∀x v,zeO tk (Sum.inr x)=some v->∃n,v=V.int n
 len:tk.length+ys.length+(ws.length -i)<=ks.length
 le:ys.length<=i
 lt:fr=true->ys.length<i
 opn:fr=false->∀x∈ys,∃y∈G x,tol tk y=false
structure Wlk(ks:List Str)(G:Str->List Str)(tk:List (Key×V))(row:List Str)(x:Str):Prop where
 nd:row.Nodup
 sub:∀y∈row,y∈ks
 ch:∀i a b,row[i]?=some a->row[i+1]?=some b->b∈G a
 nx:∀a,row[row.length -1]?=some a->x∈G a
 xk:x∈ks
 xu:tol tk x=false
end RW
namespace L2
open PySem PySem.Spec PyProof.Rows
end L2
namespace RW
open PySem PySem.Spec PyProof.Rows L2
structure EL(H H':Hp)(kvs:List (Key×V))(ks:List Str)(G:Str->List Str):Prop where
 keys:kvs.map (·.1)=ks.map Sum.inr
 nd:ks.Nodup
 at_:∀x∈ks,∃l,zeO kvs (Sum.inr x)=some (.ref l)/\H' l=some (.lst ((G x).map V.str))/\H l=none
 apart:∀x∈ks,∀y∈ks,∀l,zeO kvs (Sum.inr x)=some (.ref l)->zeO kvs (Sum.inr y)=some (.ref l)->x=y
noncomputable def kOf(t:List Str):List Key:=t.map Sum.inr
structure RT(H:Hp)(kvs:List (List Key×V))(rs:List (List Str)):Prop where
 len:kvs.length=rs.length
 at_:∀(j:Nat) (kv:List Key×V) (r:List Str),kvs[j]?=some kv->rs[j]?=some r->∃b,kv.1=kOf (zki r)/\kv.2= .ref b/\H b=some (.tup (r.map V.str))
 row:∀r∈rs,zoP r=true
 nd:(rs.map zki).Nodup
structure RG(xs:List Str)(m:Nat)(rs:List (List Str)):Prop where
 row:∀r∈rs,zoP r=true
 nd:(rs.map zki).Nodup
 old:∀r∈rs,∃i j,i<m/\j<m/\zki r=pr (at_ xs i) (at_ xs j)
structure MAt(K:PySem.W.Frag)(C:Addr)(x qual:Str)(st:Stmt)(ps:List Str)(f:Addr)(fd:FuncData):Prop where
 fn:Fun K x qual st f fd
 b:Binds K fd ps []
 m:Meth K C x f
end RW
namespace L2
open PySem PySem.Spec PyProof.Rows
section
variable{X:Cx}{o e value:Expr}{f m:Str}{pos pos' tpos apos:Pos}{ta tv:TE}{K:PySem.W.Frag}{es:List Expr}{t:TA}{C fa:Addr}{fd:FuncData}{CX:CXT}{k:Nat}{ps:List Str}{sp:Sp}{dvs:List V}{ds:List Value}{E:XK}
end
end L2
namespace RW
open PySem PySem.Spec PyProof.Rows L2
inductive TrC(K:PySem.W.Frag)(H:Hp):V->PyData->Prop
 |non:TrC K H .non .none
 |bl (b:Bool):TrC K H (.bl b) (.bool b)
 |int (i:Int):TrC K H (.int i) (.int i)
 |str (x:Str) (h:PyData.strOk x=true):TrC K H (.str x) (.str x)
 |tup {p:Addr} {vs:List V} {ds:List PyData} (e:SqT K H p vs) (hl:vs.length=ds.length) (h:∀(i:Nat) (v:V) (d:PyData),vs[i]?=some v->ds[i]?=some d->TrC K H v d):TrC K H (.ref p) (.tuple ds)
section
variable{X:Cx}
end
end RW
namespace L2
open PySem PySem.Spec PyProof.Rows
section
variable{X:Cx}{kx vx tg iter:Expr}{ifs:List Expr}{scope osc:Scope}{pos:Pos}{N':List Str}{src:List (Option Nat)}{wi:TI}{g:TG}{tc:TT}{tk tv:TE}
end
end L2
namespace HT
open PySem PySem.Spec PyProof.Rows L2
section
variable{prog:Program}{w:World}{A:Around}{E:Value->Shared->Prop}{s:Shared}{it d:Addr}{i ep:Nat}{ps:List (Value×Value)}
end
end HT
namespace L2
open PySem PySem.Spec PyProof.Rows
end L2
namespace HT
open PySem PySem.Spec PyProof.Rows L2
section
variable{prog:Program}{w:World}{A:Around}{E:Value->Shared->Prop}{s:Shared}
end
section
variable{prog:Program}{w:World}{A:Around}{E:Value->Shared->Prop}{s:Shared}{K:Type}[DecidableEq K]{knd:KeyKind prog w K}
end
end HT
namespace L2
open PySem PySem.Spec PyProof.Rows
section
variable{X:Cx}
inductive TwosAt(H:Hp):List Addr->List Str->List V->Prop
 |nil:TwosAt H [] [] []
 |cons {t:Addr} {x:Str} {y:V} {ts:List Addr} {hs:List Str} {ys:List V}:H t=some (.tup [.str x,y])->TwosAt H ts hs ys->TwosAt H (t::ts) (x::hs) (y::ys)
end
end L2
namespace L2
open PySem PySem.Spec PySem.W PyProof.Rows
section
variable{X:Cx}{K:PySem.W.Frag}
end
end L2
namespace L2
open PySem PySem.W PySem.Spec PyProof.Rows RW
noncomputable abbrev Ky:=Int×Int×List Str
noncomputable def zrK(k:Ky):PyData:= .tuple [.int k.1, .int k.2.1, .tuple (zaw k.2.2)]
structure RawK(h:Heap)(b:Addr)(k:Ky):Prop where
 at_:∃p ti tn jts,IsTup h b #[.int k.1 ti, .int k.2.1 tn, .ref p]/\Vals (k.2.2.map V.str) jts/\IsTup h p jts.toArray/\(∃as,Reads h (.ref p) (.tuple (zaw k.2.2)) as)/\(PyData.tuple (zaw k.2.2)).canLay0=true
 rd:∃as,Reads h (.ref b) (zrK k) as
 can:(zrK k).canLay0=true
section
variable{prog:Program}{w:World}{A:Around}{E:Value->Shared->Prop}{s:Shared}
end
section
variable{X:Cx}{K:PySem.W.Frag}
end
section
variable{X:Cx}{K:PySem.W.Frag}
end
end L2
namespace L2
open PySem PySem.Spec PyProof.Rows
section
variable{X:Cx}
end
end L2
namespace RW
open PySem PySem.Spec PyProof.Rows L2
section
variable{α:Type}[DecidableEq α]{mm:α->α->α×α}
structure MM(mm:α->α->α×α):Prop where
 two:∀a b,mm a b=(a,b)\/mm a b=(b,a)
 sym:∀a b,mm a b=mm b a
noncomputable def ed(mm:α->α->α×α):List α->List (α×α)
 |a::b::r=>mm a b::ed mm (b::r)
 |_=> []
end
noncomputable def mmS(x y:Str):Str×Str:=(if ltS y x=true then y else x,if ltS x y=true then y else x)
structure SW(g:Str)(ps:List (Str×Str))(w:List Str):Prop where
 nd:w.Nodup
 last:w.getLast?=some g
 ties:∀p∈ed mmS w,p∈ps
structure WOk(hs w:List Str):Prop where
 ne:1<=w.length
 nd:w.Nodup
 mem:∀y∈w,y∈hs
structure Bf(g:Str)(hs:List Str)(ps:List (Str×Str))(ws:List (List Str))(n:Nat):Prop where
 nd:ws.Nodup
 sw:∀w∈ws,SW g ps w
 root:[g]∈ws
 src:∀y r,y::r∈ws->r≠ []->r∈ws.take n
 cl:∀y x r,x::r∈ws.take n->y∈hs->mmS y x∈ps->y∉x::r->y::x::r∈ws
structure Df(g:Str)(ps:List (Str×Str))(M:List Str->Option (List Str))(L F:List (List Str)):Prop where
 nd:L.Nodup
 fnd:F.Nodup
 fsub:∀w∈F,w∈L
 sw:∀w∈L,SW g ps w/\M w≠none
 root:[g]∈L
 src:∀y r,y::r∈L->r≠ []->r∈L/\r∉F
 cl:∀y x r,x::r∈L->x::r∉F->mmS y x∈ps->y∉x::r->M (y::x::r)≠none->y::x::r∈L
structure DfW(g:Str)(ps:List (Str×Str))(M:List Str->Option (List Str))(x:Str)(r ds:List Str)(L F:List (List Str)):Prop where
 nd:L.Nodup
 fnd:F.Nodup
 fsub:∀w∈F,w∈L
 sw:∀w∈L,SW g ps w/\M w≠none
 root:[g]∈L
 src:∀y q,y::q∈L->q≠ []->q∈L/\q∉F
 me:x::r∈L/\x::r∉F
 kids:∀y,y::x::r∈L->y∈ds
 cl:∀y a q,a::q∈L->a::q∉F->a::q≠x::r->mmS y a∈ps->y∉a::q->M (y::a::q)≠none->y::a::q∈L
 clw:∀y∈ds,y∉x::r->M (y::x::r)≠none->y::x::r∈L
section
variable{g x:Str}{ps:List (Str×Str)}{M:List Str->Option (List Str)}{r ds:List Str}{L F:List (List Str)}
end
end RW
namespace L2
open PySem PySem.Spec PyProof.Rows
section
variable{X:Cx}{pos:Pos}{pins:List (Addr×Obj)}{σ:St}{H:Hp}{s:Shared}
variable{K:PySem.W.Frag}
end
end L2
namespace RW
open PySem PySem.Spec PyProof.Rows L2
section
variable{X:Cx}
inductive ChAt(H:Hp):List (Key×V)->List (Str×Option (List Str))->Prop
 |nil:ChAt H [] []
 |cons {x:Str} {v:V} {o:Option (List Str)} {kvs:List (Key×V)} {cs:List (Str×Option (List Str))}:zqw H v o->ChAt H kvs cs->ChAt H ((Sum.inr x,v)::kvs) ((x,o)::cs)
end
end RW
namespace HT
open PySem PySem.Spec PyProof.Rows L2
section
variable{prog:Program}{w:World}{A:Around}{E:Value->Shared->Prop}{s:Shared}
end
section
variable{prog:Program}{w:World}{A:Around}{E:Value->Shared->Prop}{s:Shared}
end
end HT
namespace L2
open PySem PySem.Spec PyProof.Rows
section
variable{X:Cx}{K:PySem.W.Frag}
end
end L2
namespace HT
open PySem PySem.Spec PyProof.Rows L2
structure Zp3(z TI TO i1 i2 i3:Addr):Prop where
 TIz:TI≠z
 TOz:TO≠z
 i1z:i1≠z
 i2z:i2≠z
 i3z:i3≠z
 TITO:TI≠TO
 TIi1:TI≠i1
 TIi2:TI≠i2
 TIi3:TI≠i3
 TOi1:TO≠i1
 TOi2:TO≠i2
 TOi3:TO≠i3
 i12:i1≠i2
 i13:i1≠i3
 i23:i2≠i3
section
variable{prog:Program}{w:World}{A:Around}{E:Value->Shared->Prop}{s:Shared}
end
section
variable{prog:Program}{w:World}{A:Around}{E:Value->Shared->Prop}{s:Shared}
end
end HT
namespace L2
open PySem PySem.Spec PyProof.Rows
section
variable{X:Cx}{K:PySem.W.Frag}
end
section
variable{X:Cx}{tg:Expr}
theorem zhv{n:Nat}:Builtin.Range.rangeSize ((n:Int) -1) (-1) (-1)=(n:Int):=by
 unfold Builtin.Range.rangeSize
 rw[if_neg (by decide)]
 split<;>first|omega|(rw[show((n:Int) -1 -(-1) -1)=(n:Int) -1 by omega];simp<;>omega)
theorem znX{pins:List (Addr×Obj)}{σ:St}{H:Hp}{s:Shared}{R:It->Hp->Prop}{E:Value->Shared->Prop}{n:Nat}{t u v:Tok}{tk:Nat}(I:Inv X pins σ H s)(hn:n<=1000)(q:R (zpd n) H):
 wpAny (model X.prog X.w) X.A (pyIter (.ref s.heap.objs.size)) (PIE X pins σ tg R) E {s with heap:=s.heap.push {cls:= .type "range",data:= .fields #[.int ((n:Int) -1) t, .int (-1) u, .int (-1) v]},toks:=tk}:=by
 have ft:∀i:Int,-(2^63)<=i->i<2^63->Builtin.Range.rangeFitsLong i=true:=λi h1 h2=>by
  unfold Builtin.Range.rangeFitsLong
  rw[decide_eq_true h1,decide_eq_true h2];rfl
 refine wpAny_pyIter_range (IsRange.new ..) ?_ ?_
 ·unfold Builtin.Range.small
  rw[zhv,ft ((n:Int) -1) (by omega) (by omega),ft (-1) (by decide) (by decide),ft (n:Int) (by omega) (by omega)]
  first|rfl|(simp[ft];done)|decide
 have I1:Inv X pins σ H {s with heap:=s.heap.push {cls:= .type "range",data:= .fields #[.int ((n:Int) -1) t, .int (-1) u, .int (-1) v]},toks:=tk}:=I.kept λb o e=>Heap.get?_push_of_some _ e
 refine⟨(s.heap.push {cls:= .type "range",data:= .fields #[.int ((n:Int) -1) t, .int (-1) u, .int (-1) v]}).objs.size,[(s.heap.push {cls:= .type "range",data:= .fields #[.int ((n:Int) -1) t, .int (-1) u, .int (-1) v]}).objs.size],_,_,H,rfl,
  I1.kept (t':=tk) λb o e=>Heap.get?_push_of_some _ e,zmC _ n,?_,λb hb=>?_,q⟩
 ·have e1:(n:Int) -1+((0:Nat):Int)*(-1)=(n:Int) -1:=by omega
  have e2:(n:Int) -((0:Nat):Int)=(n:Int):=by omega
  show IsRangeIter _ _ ((n:Int) -1+((0:Nat):Int)*(-1)) ((n:Int) -((0:Nat):Int)) (-1)
  rw[e1,e2,zhv]
  exact Heap.get?_push_size _ rfl
 ·have e:b=(s.heap.push {cls:= .type "range",data:= .fields #[.int ((n:Int) -1) t, .int (-1) u, .int (-1) v]}).objs.size:=by simpa using hb
  subst e
  exact I1.fpOk (Nat.le_refl _) (I1.hok.fresh (Nat.le_refl _))
noncomputable def zsh(ta:TA):TI:=λσ H R=>ta σ H λvs H1=>∃n:Nat,vs=[.int ((n:Int) -1), .int (-1), .int (-1)]/\n<=1000/\R (zpd n) H1
theorem zrv{a b c:Expr}{ta:TA}{p pos:Pos}(hm:X.mg "range"=none)(ha:QA X [a,b,c] ta)(hg:Gl X "range":=by rfl)(hs:starEach [a,b,c] X.env=(false,eval a X.env)::starEach [b,c] X.env:=by rfl)(hs2:(backTo pos (starEach [b,c] X.env)).any (·.1)=false:=by rfl):
 QI X tg (.Call (.Name "range" p) [a,b,c] [] pos) (zsh ta):=⟨by
 intro pins s σ H R I h
 refine Call_ (zdT I hg hm boot_range (PyProof.Rows.callWith_type1 (thn (ha.o pos pins s σ H _ I h) λus s1 ⟨vs,H1,I1,r1,q1⟩=>?_) hs hs2))
 obtain⟨n,e,hn,q⟩:=q1
 subst e
 cases r1 with
 |cons r rr=>
  cases rr with
  |cons r' rr=>
   cases rr with
   |cons r'' rr=>
    cases rr
    obtain⟨t,rfl⟩:=r
    obtain⟨t',rfl⟩:=r'
    obtain⟨t'',rfl⟩:=r''
    exact call_range_3 (by decide) (znX I1 hn q) (Or.inl (PyProof.noPylong_small (by omega)))⟩
end
end L2
namespace RW
open PySem PySem.Spec PyProof.Rows L2
noncomputable def zv(d:D)(lo hi:Int):Bool:=zaJ d lo hi&&allB zW d
noncomputable def zkp:D->Bool| .int i=>!decide (i<1)|_=>false
noncomputable def zfD(ps:List (Str×Str)):D->D->Bool| .str a, .str b=>decide (b∈zaD ps a)|_,_=>false
noncomputable def zfb:D->Bool| .tup []=>true|_=>false
noncomputable def zo(hs:List Str)(ps:List (Str×Str)):D->Bool
 | .tup [a,b,n,w,m]=>(zC hs a&&(zC hs b&&zfD ps a b))&&((zca n&&(zkp n&&zv m 0 90))&&(if zac w=true then zfb m else zv w 1 10))
 |_=>false
noncomputable def zK(hs:List Str)(ps:List (Str×Str)):D->Bool
 | .tup [p, .tup qs]=>zo hs ps p&&(decide (qs.length<=10)&&qs.all (zo hs ps))
 |_=>false
structure Pp where
 one:Str
 to:Str
 nr:Int
 way:Option (List Str)
 marks:List Str
noncomputable def wyD:Option (List Str)->D|none=> .non|some w=>tD w
noncomputable def ppD(p:Pp):D:= .tup [.str p.one, .str p.to, .int p.nr,wyD p.way,tD p.marks]
noncomputable def zby(f:Pp)(qs:List Pp):D:= .tup [ppD f, .tup (qs.map ppD)]
structure PpOk(hs:List Str)(ps:List (Str×Str))(p:Pp):Prop where
 one:p.one∈hs
 to:p.to∈hs
 tied:p.to∈zaD ps p.one
 nr:1<=p.nr
 mnm:∀x∈p.marks,zi x=true
 ml:p.marks.length<=90
 non:p.way=none->p.marks=[]
 way:∀w,p.way=some w->1<=w.length/\w.length<=10/\∀x∈w,zi x=true
theorem zbD{hs:List Str}{d:D}(h:zC hs d=true):∃x,d= .str x/\x∈hs:=by
 obtain⟨ws,e,hw⟩:=zdX (hs:=hs) (ds:=[d]) (by rw[List.all_cons,h];rfl)
 match ws,e with
 |[x],e=>exact ⟨x,by simpa using e,hw x List.mem_cons_self⟩
theorem zdq{d:D}{lo hi:Int}(h:zv d lo hi=true):∃xs,d=tD xs/\lo<=(xs.length:Int)/\(xs.length:Int)<=hi/\∀x∈xs,zi x=true:=by
 unfold zv at h
 rw[Bool.and_eq_true] at h
 cases d with
 |tup ds=>
  obtain⟨xs,rfl,hx⟩:=zgc (show ds.all zW=true from h.2)
  have h1:(decide (lo<=((xs.map D.str).length:Int))&&decide (((xs.map D.str).length:Int)<=hi))=true:=h.1
  rw[Bool.and_eq_true,List.length_map,decide_eq_true_iff,decide_eq_true_iff] at h1
  exact⟨xs,rfl,h1.1,h1.2,hx⟩
 |_=>exact nomatch h.1
theorem zf9{xs:List Str}{lo hi:Int}(h1:lo<=(xs.length:Int))(h2:(xs.length:Int)<=hi)(h:∀x∈xs,zi x=true):zv (tD xs) lo hi=true:=by
 show((decide (lo<=((xs.map D.str).length:Int))&&decide (((xs.map D.str).length:Int)<=hi))&&(xs.map D.str).all zW)=true
 rw[List.length_map,decide_eq_true h1,decide_eq_true h2,List.all_map,List.all_eq_true.mpr]
 ·rfl
 ·exact λx hx=>by show zW (.str x)=true;rw[zcN];exact h x hx
theorem zew{hs:List Str}{ps:List (Str×Str)}{d:D}(h:zo hs ps d=true):∃p,d=ppD p/\PpOk hs ps p:=by
 unfold zo at h
 split at h
 ·rename_i a b n w m
  rw[Bool.and_eq_true,Bool.and_eq_true,Bool.and_eq_true,Bool.and_eq_true,Bool.and_eq_true,Bool.and_eq_true] at h
  obtain⟨⟨ha,hb,ht⟩,⟨hn,hp,hm⟩,hw⟩:=h
  obtain⟨x,rfl,hx⟩:=zbD ha
  obtain⟨y,rfl,hy⟩:=zbD hb
  obtain⟨ms,rfl,m1,m2,m3⟩:=zdq hm
  have ht:y∈zaD ps x:=of_decide_eq_true ht
  obtain⟨i,rfl,hi⟩:∃i,n= .int i/\1<=i:=by
   cases n with
   |int i=>exact ⟨i,rfl,by have:(!decide (i<1))=true:=hp;simpa using this⟩
   |_=>cases hp
  by_cases e:zac w=true
  ·rw[if_pos e] at hw
   have ew:w= .non:=by cases w<;>first|rfl|cases e
   subst ew
   have em:ms=[]:=by
    cases ms with
    |nil=>rfl
    |cons z zs=>cases hw
   subst em
   exact⟨⟨x,y,i,none,[]⟩,rfl,⟨hx,hy,ht,hi,(λ_ z=>nomatch z),Nat.zero_le _,(λ_=>rfl),(λ_ z=>nomatch z)⟩⟩
  ·rw[if_neg e] at hw
   obtain⟨ws,rfl,w1,w2,w3⟩:=zdq hw
   exact⟨⟨x,y,i,some ws,ms⟩,rfl,⟨hx,hy,ht,hi,m3,by show ms.length<=90;omega,(λz=>nomatch z),λw z=>by cases z;exact⟨by omega,by omega,w3⟩⟩⟩
 ·cases h
theorem zjn{hs:List Str}{ps:List (Str×Str)}(hn:∀x∈hs,zi x=true){p:Pp}(h:PpOk hs ps p):zo hs ps (ppD p)=true:=by
 show((zC hs (.str p.one)&&(zC hs (.str p.to)&&zfD ps (.str p.one) (.str p.to)))&&((zca (.int p.nr)&&(zkp (.int p.nr)&&zv (tD p.marks) 0 90))&&(if zac (wyD p.way)=true then zfb (tD p.marks)else zv (wyD p.way) 1 10)))=true
 have ml:=h.ml
 have hnr:=h.nr
 rw[zgJ h.one (hn _ h.one),zgJ h.to (hn _ h.to),show zfD ps (.str p.one) (.str p.to)=true from decide_eq_true h.tied,show zca (.int p.nr)=true from rfl,show zkp (.int p.nr)=true by show(!decide (p.nr<1))=true;simp;omega,zf9 (by omega) (by omega) h.mnm]
 cases e:p.way with
 |none=>
  have em:=h.non e
  rw[em];rfl
 |some w=>
  obtain⟨w1,w2,w3⟩:=h.way w e
  show(true&&(true&&true)&&(true&&(true&&true)&&(if zac (tD w)=true then _ else zv (tD w) 1 10)))=true
  rw[zf9 (by omega) (by omega) w3];rfl
theorem zfx{hs:List Str}{ps:List (Str×Str)}:∀{ds:List D},ds.all (zo hs ps)=true->∃qs:List Pp,ds=qs.map ppD/\∀q∈qs,PpOk hs ps q
 |[],_=>⟨[],rfl,λ_ z=>nomatch z⟩
 |d::ds,h=>by
  rw[List.all_cons,Bool.and_eq_true] at h
  obtain⟨q,rfl,hq⟩:=zew h.1
  obtain⟨qs,rfl,hqs⟩:=zfx h.2
  exact⟨q::qs,rfl,λx hx=>(List.mem_cons.mp hx).elim (λe=>by rw[e];exact hq) (hqs x)⟩
theorem zfK{hs:List Str}{ps:List (Str×Str)}{d:D}(h:zK hs ps d=true):∃f qs,d=zby f qs/\PpOk hs ps f/\(∀q∈qs,PpOk hs ps q)/\qs.length<=10:=by
 unfold zK at h
 split at h
 ·rename_i p qs
  rw[Bool.and_eq_true,Bool.and_eq_true] at h
  obtain⟨f,rfl,hf⟩:=zew h.1
  obtain⟨qs',rfl,hqs⟩:=zfx h.2.2
  have hl:=of_decide_eq_true h.2.1
  rw[List.length_map] at hl
  exact⟨f,qs',rfl,hf,hqs,hl⟩
 ·cases h
theorem zl2{hs:List Str}{ps:List (Str×Str)}(hn:∀x∈hs,zi x=true){f:Pp}{qs:List Pp}(hf:PpOk hs ps f)(hq:∀q∈qs,PpOk hs ps q)(hl:qs.length<=10):zK hs ps (zby f qs)=true:=by
 show(zo hs ps (ppD f)&&(decide ((qs.map ppD).length<=10)&&(qs.map ppD).all (zo hs ps)))=true
 rw[zjn hn hf,List.length_map,decide_eq_true hl,List.all_map,List.all_eq_true.mpr]
 ·rfl
 ·exact λq h=>zjn hn (hq q h)
theorem zpB:∀{a b:Option (List Str)},wyD a=wyD b->a=b
 |none,none,_=>rfl
 |none,some _,h=>nomatch h
 |some _,none,h=>nomatch h
 |some a,some b,h=>by
  have:=congrArg zgH (show tD a=tD b from h)
  rw[zf3,zf3] at this
  rw[this]
theorem zmT{p q:Pp}(h:ppD p=ppD q):p=q:=by
 obtain⟨a,b,c,d,e⟩:=p
 obtain⟨a',b',c',d',e'⟩:=q
 have h:D.tup [.str a, .str b, .int c,wyD d,tD e]=D.tup [.str a', .str b', .int c',wyD d',tD e']:=h
 injection h with h
 injection h with h1 h
 injection h with h2 h
 injection h with h3 h
 injection h with h4 h
 injection h with h5 _
 cases h1;cases h2;cases h3
 have:=congrArg zgH h5
 rw[zf3,zf3] at this
 rw[zpB h4,this]
theorem zlm:∀{ps qs:List Pp},ps.map ppD=qs.map ppD->ps=qs
 |[],[],_=>rfl
 |[],_::_,h=>nomatch h
 |_::_,[],h=>nomatch h
 |p::ps,q::qs,h=>by
  rw[List.map_cons,List.map_cons] at h
  injection h with h1 h2
  rw[zmT h1,zlm h2]
theorem ze1{f f':Pp}{qs qs':List Pp}(h:zby f qs=zby f' qs'):f=f'/\qs=qs':=by
 have h:D.tup [ppD f, .tup (qs.map ppD)]=D.tup [ppD f', .tup (qs'.map ppD)]:=h
 injection h with h
 injection h with h1 h
 injection h with h2 _
 injection h2 with h2
 exact⟨zmT h1,zlm h2⟩
noncomputable def zez(w:List Str)(q:Pp)(k:Nat):Bool:=decide (q.one=w.getD (k+1) ""/\q.to=w.getD k "")&&decide (q.way=some (w.drop (k+1)))
noncomputable def zcV(w:List Str)(qs:List Pp)(n:Nat):Bool:=(List.range n).all λk=>match qs[k]? with|some q=>zez w q k|none=>true
noncomputable def soB(hs:List Str)(lks hds:List D)(p:Pp)(ms:List Str):Bool:=match p.way with
 |none=>false
 |some w=>!(decide (1<w.length)&&zac (zaf w ms (zad hs lks (w.headD ""))))&&decide (zD w (some p.to) (zad hs hds (w.headD "")) ms=some p.marks)
noncomputable def zbp(qs:List Pp):List (List Str):=qs.map (·.marks)++ [[]]
noncomputable def zel(hs:List Str)(lks hds:List D)(f:Pp)(qs:List Pp):Bool:=((f::qs).zip (zbp qs)).all λz=>soB hs lks hds z.1 z.2
noncomputable def za5(g:Str)(hs:List Str)(ps:List (Str×Str))(lks hds:List D)(f:Pp)(qs:List Pp):Bool:=match f.way with
 |none=>qs.isEmpty
 |some w=>zaV g hs ps (tD w)&&decide (w.headD ""=f.one)&&decide (qs.length+1=w.length)&&zcV w qs qs.length&&zel hs lks hds f qs
theorem WayOk.tail{g:Str}{hs:List Str}{ps:List (Str×Str)}{y x:Str}{ws:List Str}(W:WayOk g hs ps (y::x::ws)):WayOk g hs ps (x::ws) where
 nd:=(List.nodup_cons.mp W.nd).2
 mem:=λz hz=>W.mem z (List.mem_cons_of_mem _ hz)
 last:=by
  obtain⟨w0,e⟩:=W.last
  cases w0 with
  |nil=>cases e
  |cons a w0=>exact ⟨w0,by rw[List.cons_append] at e;injection e⟩
 tied:=λi a b h1 h2=>W.tied (i+1) a b h1 h2
theorem WayOk.step{g:Str}{hs:List Str}{ps:List (Str×Str)}{y x:Str}{ws:List Str}(W:WayOk g hs ps (y::x::ws)):y∈zaD ps x:=by
 have:=mem_nbrs.mp (W.tied 0 y x rfl rfl)
 exact mem_nbrs.mpr this.symm
inductive Ch(hs:List Str)(lks hds:List D):Str->List Str->List Pp->Prop
 |one {to g:Str} {nr:Int} {m:List Str} (h1:1<=nr) (h2:zD [g] (some to) (zad hs hds g) []=some m):Ch hs lks hds to [g] [⟨g,to,nr,some [g],m⟩]
 |more {to y x:Str} {ws:List Str} {nr:Int} {m:List Str} {q:Pp} {P:List Pp} (h:Ch hs lks hds y (x::ws) (q::P)) (h0:zac (zaf (y::x::ws) q.marks (zad hs lks y))=false) (h1:1<=nr)
   (h2:zD (y::x::ws) (some to) (zad hs hds y) q.marks=some m):Ch hs lks hds to (y::x::ws) (⟨y,to,nr,some (y::x::ws),m⟩::q::P)
section
variable{hs:List Str}{lks hds:List D}{to:Str}{w:List Str}{P:List Pp}
theorem Ch.head(c:Ch hs lks hds to w P):∃f qs,P=f::qs/\f.one=w.headD ""/\f.to=to/\f.way=some w/\1<=f.nr/\P.length=w.length:=by
 induction c with
 |one h1 h2=>exact ⟨_,_,rfl,rfl,rfl,rfl,h1,rfl⟩
 |more h h0 h1 h2 ih=>
  obtain⟨_,_,_,_,_,_,_,l⟩:=ih
  exact⟨_,_,rfl,rfl,rfl,rfl,h1,by rw[List.length_cons,l];rfl⟩
theorem zjI{f q:Pp}{qs:List Pp}:zel hs lks hds f (q::qs)=(soB hs lks hds f q.marks&&zel hs lks hds q qs):=rfl
theorem zrX{to y x:Str}{ws:List Str}{nr:Int}{m t:List Str}(h0:zac (zaf (y::x::ws) t (zad hs lks y))=false)(h2:zD (y::x::ws) (some to) (zad hs hds y) t=some m):soB hs lks hds ⟨y,to,nr,some (y::x::ws),m⟩ t=true:=by
 show(!(decide (1<(y::x::ws).length)&&zac (zaf (y::x::ws) t (zad hs lks y)))&&decide (zD (y::x::ws) (some to) (zad hs hds y) t=some m))=true
 rw[decide_eq_true h2,h0,Bool.and_false];rfl
theorem Ch.so(c:Ch hs lks hds to w P):∀f qs,P=f::qs->zel hs lks hds f qs=true:=by
 induction c with
 |one h1 h2=>
  rintro f qs e
  cases e
  have h3:=decide_eq_true h2
  show(decide (zD _ _ _ []=some _)&&true)=true
  rw[Bool.and_true]
  exact h3
 |more h h0 h1 h2 ih=>
  rintro f qs e
  cases e
  rw[zjI,ih _ _ rfl,Bool.and_true]
  exact zrX h0 h2
theorem Ch.fit(c:Ch hs lks hds to w P):∀f qs,P=f::qs->∀k q,qs[k]?=some q->zez w q k=true:=by
 induction c with
 |one h1 h2=>rintro f qs e k q hq;cases e;cases hq
 |more h h0 h1 h2 ih=>
  rintro f qs e k q hq
  cases e
  cases k with
  |zero=>
   cases hq
   obtain⟨f',qs',e',a1,a2,a3,_⟩:=h.head
   cases e'
   unfold zez
   rw[a1,a2,a3,decide_eq_true ⟨rfl,rfl⟩];exact decide_eq_true rfl
  |succ k=>exact ih _ _ rfl k q hq
theorem Ch.fits(c:Ch hs lks hds to w P){f:Pp}{qs:List Pp}(e:P=f::qs)(n:Nat):zcV w qs n=true:=by
 unfold zcV
 rw[List.all_eq_true]
 intro k _
 cases hq:qs[k]? with
 |none=>rfl
 |some q=>exact c.fit f qs e k q hq
theorem Ch.right{g:Str}{ps:List (Str×Str)}(hn:∀x∈hs,zi x=true)(c:Ch hs lks hds to w P)(W:WayOk g hs ps w){f:Pp}{qs:List Pp}(e:P=f::qs):za5 g hs ps lks hds f qs=true:=by
 obtain⟨f',qs',e',a1,a2,a3,a4,a5⟩:=c.head
 rw[e] at e'
 cases e'
 unfold za5
 rw[a3]
 show(zaV g hs ps (tD w)&&decide (w.headD ""=f.one)&&decide (qs.length+1=w.length)&&zcV w qs qs.length&&zel hs lks hds f qs)=true
 rw[show zaV g hs ps (tD w)=true from W.ok hn,decide_eq_true a1.symm,decide_eq_true (by rw[←a5,e];rfl),c.fits e,c.so f qs e];rfl
theorem Ch.marks{O:List Str}(hk:∀x∈w,zds O (zad hs hds x))(c:Ch hs lks hds to w P):∀p∈P,Mr O p.marks:=by
 induction c with
 |one h1 h2=>
  intro p hp
  rw[List.mem_singleton.mp hp]
  exact zdj (hk _ List.mem_cons_self).2 Mr.nil h2
 |more h h0 h1 h2 ih=>
  have ih:=ih λx hx=>hk x (List.mem_cons_of_mem _ hx)
  intro p hp
  rcases List.mem_cons.mp hp with rfl|hp
  ·exact zdj (hk _ List.mem_cons_self).2 (ih _ List.mem_cons_self) h2
  ·exact ih p hp
theorem Ch.pp{g:Str}{ps:List (Str×Str)}{O:List Str}(hn:∀x∈hs,zi x=true)(ten:hs.length<=10)(O14:O.length<=14)(On:∀x∈O,zi x=true)(c:Ch hs lks hds to w P):WayOk g hs ps w->to∈hs->to∈zaD ps (w.headD "")->(∀p∈P,Mr O p.marks)->∀p∈P,PpOk hs ps p:=by
 have mn:∀{m:List Str},Mr O m->(∀x∈m,zi x=true)/\m.length<=90:=λ{m} M=>⟨λx hx=>On x (M.mem x hx),Nat.le_trans (M.toMk.len O14) (by decide)⟩
 induction c with
 |one h1 h2=>
  intro W ht hb M p hp
  rw[List.mem_singleton.mp hp]
  have m0:=mn (M _ List.mem_cons_self)
  exact⟨W.mem _ List.mem_cons_self,ht,hb,h1,m0.1,m0.2,(λz=>nomatch z),λw z=>by cases z;exact⟨(by decide:1<=1),(by decide:1<=10),λx hx=>hn x (W.mem x hx)⟩⟩
 |more h h0 h1 h2 ih=>
  intro W ht hb M p hp
  have ih:=ih W.tail (W.mem _ List.mem_cons_self) W.step (λp hp=>M p (List.mem_cons_of_mem _ hp))
  rcases List.mem_cons.mp hp with rfl|hp
  ·have m0:=mn (M _ List.mem_cons_self)
   have wl:=W.len
   exact⟨W.mem _ List.mem_cons_self,ht,hb,h1,m0.1,m0.2,(λz=>nomatch z),λw z=>by cases z;exact⟨wl.1,by omega,λx hx=>hn x (W.mem x hx)⟩⟩
  ·exact ih p hp
end
noncomputable def cmM(hs:List Str)(lks hds:List D)(to:Str)(w:List Str):Option (List Str):=match zcz hs lks hds w with
 |none=>none
 |some t=>zD w (some to) (zad hs hds (w.headD "")) t
theorem zdW{hs:List Str}{lks hds:List D}:∀{w:List Str} {k:Nat},k<w.length->zcz hs lks hds (w.drop k)=none->zcz hs lks hds w=none
 |w,0,_,e=>by rw[List.drop_zero] at e;exact e
 |[],k+1,h,_=>by simp at h
 |[y],k+1,h,_=>by simp at h
 |y::x::ws,k+1,h,e=>by
  have:=zdW (w:=x::ws) (k:=k) (by simpa using h) e
  rw[zcz,this]
theorem zdV{hs:List Str}{lks hds:List D}{y x:Str}{ws:List Str}:zcz hs lks hds (y::x::ws)=match cmM hs lks hds y (x::ws)with
 |none=>none
 |some t=>if zac (zaf (y::x::ws) t (zad hs lks y))=true then none else some t:=by
 rw[zcz]
 unfold cmM zmN
 cases zcz hs lks hds (x::ws)with
 |none=>rfl
 |some t=>
  show(match zD (x::ws) (some y) (zad hs hds x) t with|none=>none|some t=>_)=(match zD (x::ws) (some y) (zad hs hds x) t with|none=>none|some t=>_)
  cases zD (x::ws) (some y) (zad hs hds x) t<;>rfl
theorem zpm{hs:List Str}{lks hds:List D}{to:Str}{w:List Str}:∀{k:Nat},k<w.length->cmM hs lks hds ((to::w).getD k "") (w.drop k)=none->cmM hs lks hds to w=none
 |0,_,e=>by rw[List.drop_zero] at e;exact e
 |k+1,h,e=>by
  have e1:w.drop k=w.getD k ""::w.drop (k+1):=by
   rw[List.drop_eq_getElem_cons (by omega)]
   simp[List.getD,show k<w.length by omega]
  obtain⟨x,ws,e2⟩:∃x ws,w.drop (k+1)=x::ws:=by
   rw[List.drop_eq_getElem_cons h];exact⟨_,_,rfl⟩
  have e3:(to::w).getD (k+1) ""=w.getD k "":=rfl
  rw[e3,e2] at e
  have:zcz hs lks hds (w.drop k)=none:=by rw[e1,e2,zdV,e]
  have:=zdW (show k<w.length by omega) this
  unfold cmM
  rw[this]
end RW
namespace HT
open PySem PySem.Spec PyProof.Rows L2
section
variable{prog:Program}{w:World}{A:Around}{R:Result->Shared->Prop}{I:Addr}{fp wr:List Addr}{n:Nat}{P:Nat->Value->Prop}{St:Nat->Heap->Prop}
end
section
variable{prog:Program}{w:World}{A:Around}{E:Value->Shared->Prop}{s:Shared}
end
end HT
namespace L2
open PySem PySem.W PySem.Spec PyProof.Rows PyProof.V
section
variable{X:Cx}
end
end L2
namespace HT
open PySem PySem.Spec PyProof.Rows PySem.SeqAt
theorem zd0:isSubtype (.type "tuple") (.type "dict")=pure false:=by rw[isSubtype_type];kernel_rfl
theorem zdY:isSubtype (.type "dict") (.type "tuple")=pure false:=by rw[isSubtype_type];kernel_rfl
theorem zdp(l b:Addr)(es:Array DictEntry)(ep:Nat)(items2:Array Value)(n2:Nat)(dd dd2:Option Addr)(sl sl2:Array (Option Value)):
 Meets (Builtin.«dict.__ne__» ⟨[.ref l, .ref b],[]⟩) (λ_ R s=>s.heap.get? l=some {cls:= .type "dict",dict:=dd,data:= .dict es ep,slots:=sl}/\s.heap.get? b=some {cls:= .type "tuple",dict:=dd2,data:= .seq items2 n2,slots:=sl2}/\R (.ok (.ret .notImplemented)) s):=
 .of_wp λprog w A R s h=>by obtain⟨hp,g,d,tk,os⟩:=s;obtain⟨hl,hb,h⟩:=h;have f1:=zd0;have f2:=zdY;unfold Builtin.«dict.__ne__»;wp_walk using wpAny_loadPart' hl,wpAny_loadPart' hb;exact⟨_,rfl,h⟩
theorem zdz(l b:Addr)(es:Array DictEntry)(ep:Nat)(items:Array Value)(n:Nat)(dd dd2:Option Addr)(sl sl2:Array (Option Value)):
 Meets (Builtin.«tuple.__ne__» ⟨[.ref l, .ref b],[]⟩) (λ_ R s=>s.heap.get? l=some {cls:= .type "tuple",dict:=dd,data:= .seq items n,slots:=sl}/\s.heap.get? b=some {cls:= .type "dict",dict:=dd2,data:= .dict es ep,slots:=sl2}/\R (.ok (.ret .notImplemented)) s):=
 .of_wp λprog w A R s h=>by obtain⟨hp,g,d,tk,os⟩:=s;obtain⟨hl,hb,h⟩:=h;have f1:=zdY;wp_walk using wpAny_loadPart' hl,wpAny_loadPart' hb;exact⟨_,rfl,h⟩
theorem ne_dict_tuple{A:Around}{s:Shared}{prog:Program}{w:World}{E:Value->Shared->Prop}{Q:Value->Shared->Prop}{l b:Addr}{es:Array DictEntry}{ep:Nat}{items2:Array Value}{o:Obj}(ho':s.heap.get? l=some o)(hc':o.cls= .type "dict")(hd':o.data= .dict es ep)(hb:s.heap.IsTuple b items2)(hu:A.units<cLine)(h:Q (.bool true) s):wpAny (model prog w) A (compareOp .NotEq (.ref l) (.ref b)) Q E s:=by
 have hne:l≠b:=λz=>by
  obtain⟨o2,h2,c2,_⟩:=hb
  rw[z,h2] at ho'
  cases ho'
  rw[c2] at hc'
  exact absurd hc' (by decide)
 obtain⟨cls,dd,data,sl⟩:=o
 obtain⟨⟨cls2,dd2,data2,sl2⟩,ho2,hc2,n2,hd2⟩:=id hb
 simp only at hc' hd' hc2 hd2
 subst hc' hd' hc2 hd2
 exact(rc_ne_decline_or (k:=false) ⟨_,ho',rfl⟩ ⟨_,ho2,rfl⟩ (by decide) zd0 F.slot_dict_ne F.slot_tuple_ne_refl
  (λ_ hq=>call_meets F.slot_dict_ne ⟨_,ho',rfl⟩ F.entry_dict_ne (F.args_dict_ne_2 _ _) (zdp l b es ep items2 n2 dd dd2 sl sl2) ⟨ho',ho2,hq⟩)
  (λ_ hq=>call_meets F.slot_tuple_ne_refl ⟨_,ho2,rfl⟩ F.entry_tuple_ne (F.args_tuple_ne_2 _ _) (zdz b l es ep items2 n2 dd2 dd sl2 sl) ⟨ho2,ho',hq⟩)
  (λ_ hq=>wpAny_isSame_ref_other hne ho' ho2 (by simp) hq) (.inr hu) h)
end HT
namespace L2
open PySem PySem.W PySem.Spec PyProof.Rows PyProof.V
section
variable{X:Cx}
theorem zfE(ns:List Int):∀n,preSum (λk=>ns.getD k 0) n=(ns.take n).sum
 |0=>rfl
 |n+1=>by
  have ih:=zfE ns n
  show preSum _ n+ns.getD n 0=_
  rw[ih]
  rcases Nat.lt_or_ge n ns.length with h|h
  ·rw[List.take_add_one,List.sum_append,List.getElem?_eq_getElem h]
   simp only[List.getD,List.getElem?_eq_getElem h,Option.getD_some,Option.toList_some,List.sum_cons,List.sum_nil,Int.add_zero]
  ·rw[List.take_of_length_le h,List.take_of_length_le (by omega)]
   simp[List.getD,List.getElem?_eq_none h]
theorem zl9(hc:X.calm=true):CallR X (.builtin "sum") (λxs H Q=>∃(l:Addr) (ns:List Int),xs=[.ref l]/\H l=some (.lst (ns.map V.int))/\Q (.int ns.sum) H):=by
 intro pins s σ H xs us Q I r h
 obtain⟨l,ns,rfl,hH,q⟩:=h
 obtain⟨u,rfl,ru⟩:=zdl r
 cases ru
 obtain⟨z,its,n,rv,ho⟩:=I.hok l _ hH
 have el:its.toArray.size=ns.length:=by have:=rv.length;rw[List.length_map] at this;simp[←this]
 have hl1:s.heap.IsList l its.toArray:=⟨_,ho,rfl,n,rfl⟩
 have llt:l<s.heap.objs.size:=Heap.lt_size ho
 refine call_sum_walkG (wpAny_pyIter_list hl1 ?_)
 refine⟨s.heap.objs.size,_,_,_,_,_,λk=>ns.getD k 0,rfl,Walks.list (A:=X.A.in1) (show X.A.in1.handled=none from I.ok.hd hc) s.heap.objs.size l (Nat.ne_of_lt llt) its.toArray,⟨⟨_,Heap.get?_push_size _ rfl,rfl,rfl⟩,hl1.push _⟩,?_,?_,?_⟩
 ·intro b hb
  simp only[List.mem_cons,List.not_mem_nil,or_false] at hb
  rcases hb with rfl|rfl
  ·show s.heap.objs.size<(s.heap.push _).objs.size;rw[Heap.size_push];exact Nat.lt_succ_self _
  ·show _<(s.heap.push _).objs.size;rw[Heap.size_push];exact Nat.lt_succ_of_lt llt
 ·intro k x ex
  rw[List.getElem?_toArray] at ex
  have hk:k<ns.length:=by
   rcases Nat.lt_or_ge k its.length with z|z
   ·have:=rv.length;rw[List.length_map] at this;omega
   ·rw[List.getElem?_eq_none z] at ex;cases ex
  obtain⟨u,hu,ru⟩:=rv.get (i:=k) (x:= .int ns[k]) (by rw[List.getElem?_map,List.getElem?_eq_getElem hk];rfl)
  rw[ex] at hu
  cases hu
  obtain⟨t,rfl⟩:=ru
  exact⟨t,by simp[List.getD,hk]⟩
 ·intro h' tk t' kk
  refine⟨.int ns.sum,H,I.kept (t':=tk) λb o e=>kk b o ?_ (Heap.get?_push_of_some _ e),⟨t',?_⟩,q⟩
  ·intro hb
   have:b=s.heap.objs.size:=by simpa using hb
   exact absurd (Heap.lt_size e) (by rw[this];exact Nat.lt_irrefl _)
  ·rw[el,zfE,List.take_length]
end
end L2
namespace RW
open PySem PySem.Spec PyProof.Rows L2
section
variable{X:Cx}
noncomputable def zrT:R2:=λx y H Q=>zpt x y H Q\/∃p q,x= .ref p/\y= .ref q/\H p=some (.dK [])/\H q=some (.tup [])/\Q (.bl true) H
theorem zqz(hu:X.A.units+64<cLine):OpR X (compareOp .NotEq) zrT:=by
 intro pins s σ H x y v u Q I rx ry h
 rcases h with h|⟨p,q,rfl,rfl,hp,hq,k⟩
 ·exact zig hu pins s σ H x y v u Q I rx ry h
 ·cases rx
  cases ry
  obtain⟨its,rv,ht,_⟩:=I.tuple (SqT.of hq)
  obtain⟨_,_,vs,rel,o,es,ep,ho,hx,hd,_⟩:=zpZ I.hok hp
  exact HT.ne_dict_tuple ho hx.1 hd ht (by omega) ⟨.bl true,H,I,rfl,k⟩
end
theorem zoa{a b:Str}(h1:leS a b=true)(h2:leS b a=true):a=b:=by
 unfold leS at *
 rw[Bool.not_eq_true'] at *
 by_cases e:a=b
 ·exact e
 ·rw[zdv e h2] at h1;cases h1
theorem zhF:∀{ts:List Str},sortedS ts=true->ts.Pairwise (λa b=>leS a b=true)
 |[],_=> .nil
 |[a],_=>List.pairwise_singleton _ _
 |a::b::ts,h=>by
  have h':(!ltCps b.cps.toList a.cps.toList&&risingS b ts)=true:=h
  rw[Bool.and_eq_true] at h'
  have hr:sortedS (b::ts)=true:=h'.2
  have hab:leS a b=true:=by
   have h1:ltS b a=false:=by
    have:=h'.1
    rw[ltCps_eq] at this
    simpa using this
   unfold leS
   rw[h1];rfl
  have ih:=zhF hr
  refine List.pairwise_cons.mpr ⟨λz hz=>?_,ih⟩
  rcases List.mem_cons.mp hz with rfl|hz
  ·exact hab
  ·exact zkJ a b z hab ((List.pairwise_cons.mp ih).1 z hz)
theorem zli{ts l:List Str}(hp:ts.Perm l)(hs:sortedS ts=true):ts=srt l:=
 (hp.trans (zc6 l).symm).eq_of_pairwise (λa b _ _ h1 h2=>zoa h1 h2) (zhF hs) (List.pairwise_mergeSort zkJ zk0 l)
noncomputable def zhB:Sp:=λvs H Q _=>∃(pm:Addr) (v:V) (t:List Str) (w m:Str),vs=[.ref pm,v]/\H pm=some (.tup (t.map V.str))/\Rep H v (.tup [.str w, .str m])/\(∀x∈t,zi x=true)/\zi m=true/\t.length<=60/\∀(p:Addr) (H':Hp),H' p=some (.tup ((ze3 t w m).map V.str))->Same H H'->Q (.ref p) H'
def zgr(rs:List D):Prop:=rs.length<=90/\∀r∈rs,∃cs x,r= .tup [.tup cs,x]/\(∀c∈cs,zQ c=true)/\(x= .tup [.str "keep"]\/∃w m,x= .tup [.str w, .str m]/\(w="put"\/w="strike")/\zi m=true)
theorem zkz{d:D}(h:zea d=true):∃rs,d= .tup rs/\zgr rs:=by
 cases d with
 |tup rs=>
  have h:(decide (rs.length<=90)&&rs.all zcC)=true:=h
  rw[Bool.and_eq_true] at h
  refine⟨rs,rfl,of_decide_eq_true h.1,λr hr=>?_⟩
  obtain⟨cs,x,rfl,h4,hc,hx⟩:=zll (List.all_eq_true.mp h.2 r hr)
  exact⟨cs,x,rfl,hc,zon hx⟩
 |_=>cases h
structure Mst(rs:List D)(Pr:Nat->List Str->Prop):Prop where
 skip:∀i t,Pr i t->Pr (i+1) t
 next:∀i t w m cs,Pr i t->rs[i]?=some (.tup [.tup cs, .tup [.str w, .str m]])->Pr (i+1) (ze3 t w m)
 ok:∀i t,i<=rs.length->Pr i t->(∀y∈t,zi y=true)/\t.length<=60
noncomputable def zdb:Sp:=λvs H Q _=>∃(v:V) (pw pm:Addr) (vt:V) (x:Str) (ws ms:List Str) (to:Option Str) (g:Str) (hs:List Str) (ps:List (Str×Str)) (lks hds:List D) (j:Nat) (rs:List D) (Pr:Nat->List Str->Prop),vs=[v, .ref pw, .ref pm,vt]/\Rep H v (zcn g hs ps lks hds)/\TownOk g hs ps lks hds/\hs[j]?=some x/\hds[j]?=some (.tup rs)/\zgr rs/\Mst rs Pr/\Pr 0 ms/\H pw=some (.tup ((x::ws).map V.str))/\H pm=some (.tup (ms.map V.str))/\TO vt to/\(∀y∈x::ws,zi y=true)/\ws.length<=90/\∀(u:V) (H':Hp),zqw H' u (zD (x::ws) to rs ms)->Same H H'->Q u H'
theorem zmg{O:List Str}{rs:List D}(h:zds O rs)(hn:∀x∈O,zi x=true):zgr rs:=⟨h.1,λr hr=>by
 obtain⟨cs,x,e,hc,hx⟩:=h.2 r hr
 exact⟨cs,x,e,hc,hx.imp id λ⟨w,m,e1,hw,hm⟩=>⟨w,m,e1,hw,hn m hm⟩⟩⟩
theorem zq7{O:List Str}{rs:List D}(h:zds O rs)(hO:O.length<=14)(hn:∀x∈O,zi x=true):Mst rs (λ_ t=>Mk O t) where
 skip:=λ_ _ h=>h
 next:=λi t w m cs M e=>by
  obtain⟨cs',x,e1,_,hx⟩:=h.2 _ (List.mem_of_getElem? e)
  cases e1
  rcases hx with z|⟨w',m',e2,_,hm⟩
  ·cases z
  ·cases e2;exact M.next hm
 ok:=λi t _ M=>⟨λy hy=>hn y (M.mem y hy),Nat.le_trans (M.len hO) (by decide)⟩
theorem zku{vs:List V}{H:Hp}{Q:VK}{E:XK}(h:zgh vs H Q E):zdb vs H Q E:=by
 obtain⟨v,pw,pm,vt,x,ws,ms,to,g,hs,ps,lks,hds,j,rs,O,e,hv,T,hj,hdj,hk,O14,On,M,r⟩:=h
 exact⟨v,pw,pm,vt,x,ws,ms,to,g,hs,ps,lks,hds,j,rs,_,e,hv,T,hj,hdj,zmg hk On,zq7 hk O14 On,M,r⟩
theorem zn0{t:List Str}{w m:Str}:(ze3 t w m).length<=t.length+1:=by
 unfold ze3
 rw[(zc6 _).length_eq]
 unfold zaH
 rw[List.length_append]
 have:=List.length_filter_le (λx=>!decide (x=m)) t
 split<;>simp<;>omega
theorem ziC{t:List Str}{w m y:Str}(h:y∈ze3 t w m):y∈t\/y=m:=by
 unfold ze3 at h
 rw[(zc6 _).mem_iff] at h
 unfold zaH at h
 rcases List.mem_append.mp h with h|h
 ·exact .inl (List.mem_filter.mp h).1
 ·split at h
  ·exact .inr (List.mem_singleton.mp h)
  ·cases h
def Mn(c i:Nat)(t:List Str):Prop:=(∀y∈t,zi y=true)/\t.length<=c+i
theorem zrw{rs:List D}{c:Nat}(h:zgr rs)(hc:c+rs.length<=60):Mst rs (Mn c) where
 skip:=λi t h=>⟨h.1,by have:=h.2;omega⟩
 next:=λi t w m cs M e=>by
  obtain⟨cs',x,e1,_,hx⟩:=h.2 _ (List.mem_of_getElem? e)
  cases e1
  rcases hx with z|⟨w',m',e2,_,hm⟩
  ·cases z
  ·cases e2
   refine⟨λy hy=>?_,by have:=zn0 (t:=t) (w:=w) (m:=m);have:=M.2;omega⟩
   rcases ziC hy with h|h
   ·exact M.1 y h
   ·rw[h];exact hm
 ok:=λi t hi M=>⟨M.1,by have:=M.2;omega⟩
theorem zdD{ws:List Str}{to:Option Str}:∀{rs:List D} {ms t:List Str},(∀r∈rs,∃cs x,r= .tup [.tup cs,x]/\(∀c∈cs,zQ c=true)/\(x= .tup [.str "keep"]\/∃w m,x= .tup [.str w, .str m]/\(w="put"\/w="strike")/\zi m=true))->(∀y∈ms,zi y=true)->zD ws to rs ms=some t->∀y∈t,zi y=true
 |[],ms,t,_,h,e=>by rw[zD] at e;cases e;exact h
 |r::rs,ms,t,hr,h,e=>by
  obtain⟨cs,x,rfl,_,hx⟩:=hr r List.mem_cons_self
  have hr':=λr h=>hr r (List.mem_cons_of_mem _ h)
  rw[zD] at e
  split at e
  ·rcases hx with rfl|⟨w,m,rfl,_,hm⟩
   ·cases e
   ·exact zdD hr' (λy hy=>(ziC hy).elim (h y) λz=>by rw[z];exact hm) e
  ·exact zdD hr' h e
section
variable{g:Str}{hs:List Str}{ps:List (Str×Str)}{lks hds:List D}
theorem zjJ{qs:List Pp}:(zbp qs).length=qs.length+1:=by unfold zbp;rw[List.length_append,List.length_map];rfl
theorem all_so_iff{f:Pp}{qs:List Pp}:zel hs lks hds f qs=true↔∀k,k<qs.length+1->soB hs lks hds ((f::qs).getD k f) ((zbp qs).getD k [])=true:=by
 unfold zel
 rw[List.all_eq_true]
 have lz:((f::qs).zip (zbp qs)).length=qs.length+1:=by
  rw[List.length_zip,zjJ,List.length_cons,Nat.min_self]
 have at_:∀k (hk:k<qs.length+1),((f::qs).zip (zbp qs))[k]?=some ((f::qs).getD k f,(zbp qs).getD k []):=λk hk=>by
  have h1:k<(f::qs).length:=hk
  have h2:k<(zbp qs).length:=by rw[zjJ];exact hk
  rw[List.getElem?_zip_eq_some]
  constructor
  ·simp only[List.getD,List.getElem?_eq_getElem h1,Option.getD_some]
  ·simp only[List.getD,List.getElem?_eq_getElem h2,Option.getD_some]
 constructor
 ·intro h k hk
  exact h _ (List.mem_of_getElem? (at_ k hk))
 ·intro h z hz
  obtain⟨k,hk,e⟩:=List.getElem_of_mem hz
  have hk':k<qs.length+1:=by rw[←lz];exact hk
  have e2:=at_ k hk'
  rw[List.getElem?_eq_getElem hk,e] at e2
  cases e2
  exact h k hk'
theorem fits_iff{w:List Str}{qs:List Pp}:zcV w qs qs.length=true↔∀k q,qs[k]?=some q->(q.one=w.getD (k+1) ""/\q.to=w.getD k "")/\q.way=some (w.drop (k+1)):=by
 unfold zcV
 rw[List.all_eq_true]
 have key:∀k q,zez w q k=true↔(q.one=w.getD (k+1) ""/\q.to=w.getD k "")/\q.way=some (w.drop (k+1)):=λk q=>by
  unfold zez
  rw[Bool.and_eq_true,decide_eq_true_iff,decide_eq_true_iff]
 constructor
 ·intro h k q e
  have hk:k<qs.length:=by
   rcases Nat.lt_or_ge k qs.length with z|z
   ·exact z
   ·rw[List.getElem?_eq_none z] at e;cases e
  have:=h k (List.mem_range.mpr hk)
  rw[e] at this
  exact(key k q).mp this
 ·intro h k _
  cases e:qs[k]? with
  |none=>rfl
  |some q=>exact (key k q).mpr (h k q e)
theorem zkO{f:Pp}{qs:List Pp}{k:Nat}{q:Pp}(e:qs[k]?=some q):(f::qs).getD (k+1) f=q:=by
 show(qs[k]?).getD f=q
 rw[e];rfl
end
mutual
noncomputable def zah:D->Nat
 | .tup ds=>1+zbQ ds
 | .non=>1
 | .bl _=>1
 | .int _=>1
 | .str _=>1
 | .oth=>1
noncomputable def zbQ:List D->Nat
 |[]=>0
 |d::ds=>zah d+zbQ ds
end
mutual
noncomputable def zU:D->Int->D->D×Int
 | .tup ds,k,e=>if k -1= -1 then(e,k -1)else let r:=za8 ds (k -1) e;(.tup r.1,r.2)
 | .non,k,e=>if k -1= -1 then(e,k -1)else(.non,k -1)
 | .bl b,k,e=>if k -1= -1 then(e,k -1)else(.bl b,k -1)
 | .int i,k,e=>if k -1= -1 then(e,k -1)else(.int i,k -1)
 | .str x,k,e=>if k -1= -1 then(e,k -1)else(.str x,k -1)
 | .oth,k,e=>if k -1= -1 then(e,k -1)else(.oth,k -1)
noncomputable def za8:List D->Int->D->List D×Int
 |[],k,_=>([],k)
 |d::ds,k,e=>let r:=zU d k e;let r':=za8 ds r.2 e;(r.1::r'.1,r'.2)
end
mutual
theorem zpg:∀(d:D) (k:Int) (e:D),k<0->(zU d k e).1=d/\(zU d k e).2<0
 | .tup ds,k,e,h=>by
   rw[zU,if_neg (by omega)]
   obtain⟨h1,h2⟩:=zeR ds (k -1) e (by omega)
   exact⟨by show D.tup _=_;rw[h1],h2⟩
 | .non,k,e,h=>by rw[zU,if_neg (by omega)];exact⟨rfl,by show k -1<0;omega⟩
 | .bl _,k,e,h=>by rw[zU,if_neg (by omega)];exact⟨rfl,by show k -1<0;omega⟩
 | .int _,k,e,h=>by rw[zU,if_neg (by omega)];exact⟨rfl,by show k -1<0;omega⟩
 | .str _,k,e,h=>by rw[zU,if_neg (by omega)];exact⟨rfl,by show k -1<0;omega⟩
 | .oth,k,e,h=>by rw[zU,if_neg (by omega)];exact⟨rfl,by show k -1<0;omega⟩
theorem zeR:∀(ds:List D) (k:Int) (e:D),k<0->(za8 ds k e).1=ds/\(za8 ds k e).2<0
 |[],k,e,h=>by rw[za8];exact⟨rfl,h⟩
 |d::ds,k,e,h=>by
  rw[za8]
  obtain⟨h1,h2⟩:=zpg d k e h
  obtain⟨h3,h4⟩:=zeR ds (zU d k e).2 e h2
  exact⟨by show(zU d k e).1::(za8 ds (zU d k e).2 e).1=_;rw[h1,h3],h4⟩
end
mutual
theorem zhK:∀(d:D) (k:Int) (e:D),0<=k->((k<zah d->(zU d k e).2<0)/\((zah d:Int)<=k->(zU d k e).2=k -zah d/\(zU d k e).1=d))
 | .tup ds,k,e,h=>by
   rw[zU,zah]
   by_cases hk:k -1= -1
   ·rw[if_pos hk]
    exact⟨λ_=>by show k -1<0;omega,λz=>by push_cast at z;omega⟩
   ·rw[if_neg hk]
    obtain⟨h1,h2⟩:=zjG ds (k -1) e (by omega)
    refine⟨λz=>h1 (by push_cast at z;omega),λz=>?_⟩
    obtain⟨h3,h4⟩:=h2 (by push_cast at z;omega)
    exact⟨by show(za8 ds (k -1) e).2=_;rw[h3];push_cast;omega,by show D.tup (za8 ds (k -1) e).1=_;rw[h4]⟩
 | .non,k,e,h=>by rw[zU,zah];split<;>exact ⟨λz=>by show k -1<0;omega,λz=>by first|omega|exact⟨rfl,rfl⟩⟩
 | .bl _,k,e,h=>by rw[zU,zah];split<;>exact ⟨λz=>by show k -1<0;omega,λz=>by first|omega|exact⟨rfl,rfl⟩⟩
 | .int _,k,e,h=>by rw[zU,zah];split<;>exact ⟨λz=>by show k -1<0;omega,λz=>by first|omega|exact⟨rfl,rfl⟩⟩
 | .str _,k,e,h=>by rw[zU,zah];split<;>exact ⟨λz=>by show k -1<0;omega,λz=>by first|omega|exact⟨rfl,rfl⟩⟩
 | .oth,k,e,h=>by rw[zU,zah];split<;>exact ⟨λz=>by show k -1<0;omega,λz=>by first|omega|exact⟨rfl,rfl⟩⟩
theorem zjG:∀(ds:List D) (k:Int) (e:D),0<=k->((k<zbQ ds->(za8 ds k e).2<0)/\((zbQ ds:Int)<=k->(za8 ds k e).2=k -zbQ ds/\(za8 ds k e).1=ds))
 |[],k,e,h=>by rw[za8,zbQ];exact⟨λz=>by omega,λ_=>⟨by show k=k -((0:Nat):Int);omega,rfl⟩⟩
 |d::ds,k,e,h=>by
  rw[za8,zbQ]
  obtain⟨h1,h2⟩:=zhK d k e h
  by_cases hk:k<zah d
  ·have hn:=h1 hk
   obtain⟨_,h4⟩:=zeR ds (zU d k e).2 e hn
   exact⟨λ_=>h4,λz=>by push_cast at z;omega⟩
  ·obtain ⟨h3,h4⟩:=h2 (by omega)
   obtain⟨h5,h6⟩:=zjG ds (zU d k e).2 e (by omega)
   refine⟨λz=>h5 (by push_cast at z;omega),λz=>?_⟩
   obtain⟨h7,h8⟩:=h6 (by push_cast at z;omega)
   exact⟨by show(za8 ds (zU d k e).2 e).2=_;rw[h7,h3];push_cast;omega,by show(zU d k e).1::(za8 ds (zU d k e).2 e).1=_;rw[h4,h8]⟩
end
theorem ziS{e:D}:∀{ds:List D} {k:Int},0<=k->k<zbQ ds->∃(j:Nat) (d:D) (k':Int),ds[j]?=some d/\0<=k'/\k'<zah d/\(za8 ds k e).1=ds.take j ++(zU d k' e).1::ds.drop (j+1)
 |[],k,h,z=>by rw[zbQ] at z;omega
 |d::ds,k,h,z=>by
  rw[zbQ] at z
  by_cases hk:k<zah d
  ·refine ⟨0,d,k,rfl,h,hk,?_⟩
   rw[za8]
   obtain⟨h3,_⟩:=zeR ds (zU d k e).2 e ((zhK d k e h).1 hk)
   show(zU d k e).1::(za8 ds (zU d k e).2 e).1=_
   rw[h3];rfl
  ·obtain ⟨h3,h4⟩:=(zhK d k e h).2 (by omega)
   obtain⟨j,d',k',e1,e2,e3,e4⟩:=ziS (e:=e) (ds:=ds) (k:=(zU d k e).2) (by omega) (by push_cast at z;omega)
   refine⟨j+1,d',k',e1,e2,e3,?_⟩
   rw[za8]
   show(zU d k e).1::(za8 ds (zU d k e).2 e).1=_
   rw[h4,e4];rfl
theorem zio{x:Str}{k:Int}{e:D}(h:0<=k)(h1:k<zah (.str x)):(zU (.str x) k e).1=e:=by
 rw[zah] at h1
 rw[zU,if_pos (by omega)]
theorem zo8{x:Int}{k:Int}{e:D}(h:0<=k)(h1:k<zah (.int x)):(zU (.int x) k e).1=e:=by
 rw[zah] at h1
 rw[zU,if_pos (by omega)]
theorem zf1{ds:List D}{k:Int}{e:D}(h:0<=k)(h1:k<zah (.tup ds)):(zU (.tup ds) k e).1=e\/∃(j:Nat) (d:D) (k':Int),ds[j]?=some d/\0<=k'/\k'<zah d/\(zU (.tup ds) k e).1= .tup (ds.take j ++(zU d k' e).1::ds.drop (j+1)):=by
 rw[zah] at h1
 rw[zU]
 by_cases hk:k -1= -1
 ·rw[if_pos hk];exact .inl rfl
 ·rw[if_neg hk]
  obtain⟨j,d,k',e1,e2,e3,e4⟩:=ziS (e:=e) (ds:=ds) (k:=k -1) (by omega) (by push_cast at h1;omega)
  exact .inr ⟨j,d,k',e1,e2,e3,by show D.tup (za8 ds (k -1) e).1=_;rw[e4]⟩
structure OddE(hs:List Str)(ps:List (Str×Str))(e:D):Prop where
 nam:zW e=false
 num:zca e=false
 pap:zo hs ps e=false
 row:∀ds,e= .tup ds->ds.all (zo hs ps)=false
 nms:zv e 0 90=true->e= .tup [.str "nowhere"]
theorem znE{hs:List Str}{ps:List (Str×Str)}{e:D}(O:OddE hs ps e){w:List Str}{j:Nat}{lo hi:Int}:zv (.tup ((w.map D.str).take j ++e::(w.map D.str).drop (j+1))) lo hi=false:=by
 unfold zv
 have:allB zW (.tup ((w.map D.str).take j ++e::(w.map D.str).drop (j+1)))=false:=all_bad (d:=e) (by simp) O.nam
 rw[this,Bool.and_false]
theorem zjP{hs:List Str}{ps:List (Str×Str)}{e:D}(O:OddE hs ps e){w:List Str}{k:Int}(h:0<=k)(h1:k<zah (tD w)):(zU (tD w) k e).1=e\/((∀lo hi,zv (zU (tD w) k e).1 lo hi=false)/\zac (zU (tD w) k e).1=false):=by
 rcases zf1 h h1 with z|⟨j,d,k',e1,e2,e3,e4⟩
 ·exact .inl z
 ·refine .inr ?_
  rw[List.getElem?_map] at e1
  obtain⟨x,_,rfl⟩:∃x,w[j]?=some x/\d= .str x:=by
   cases ex:w[j]? with
   |none=>rw[ex] at e1;cases e1
   |some x=>rw[ex] at e1;cases e1;exact⟨x,rfl,rfl⟩
  rw[zio e2 e3] at e4
  have e4:(zU (tD w) k e).1= .tup ((w.map D.str).take j ++e::(w.map D.str).drop (j+1)):=e4
  rw[e4]
  exact⟨λlo hi=>znE O,rfl⟩
theorem zhz{hs:List Str}{ps:List (Str×Str)}{e:D}(O:OddE hs ps e){p:Pp}(hp:PpOk hs ps p){k:Int}(h:0<=k)(h1:k<zah (ppD p))(hw:∃w,p.way=some w):
 zo hs ps (zU (ppD p) k e).1=false\/(e= .non/\(zU (ppD p) k e).1=ppD {p with way:=none})\/(zU (ppD p) k e).1=ppD {p with way:=some ["nowhere"]}\/(zU (ppD p) k e).1=ppD {p with marks:=["nowhere"]}:=by
 obtain⟨w,ew⟩:=hw
 have E:ppD p= .tup [.str p.one, .str p.to, .int p.nr,tD w,tD p.marks]:=by unfold ppD;rw[ew];rfl
 rw[E] at h1⊢
 have hb:zC hs e=false:=by unfold zC;rw[O.nam];rfl
 rcases zf1 h h1 with z|⟨j,d,k',e1,e2,e3,e4⟩
 ·rw[z];exact .inl O.pap
 rw[e4]
 match j,e1 with
 |0,e1=>
  cases e1
  rw[zio e2 e3]
  refine .inl ?_
  show((zC hs e&&_)&&_)=false
  rw[hb];rfl
 |1,e1=>
  cases e1
  rw[zio e2 e3]
  refine .inl ?_
  show((zC hs (.str p.one)&&(zC hs e&&_))&&_)=false
  rw[hb];simp
 |2,e1=>
  cases e1
  rw[zo8 e2 e3]
  refine .inl ?_
  show(_&&((zca e&&_)&&_))=false
  rw[O.num];simp
 |3,e1=>
  cases e1
  rcases zjP O e2 e3 with z|⟨z,z2⟩
  ·rw[z]
   by_cases hn:zac e=true
   ·have en:e= .non:=by cases e<;>first|rfl|cases hn
    subst en
    exact .inr (.inl ⟨rfl,rfl⟩)
   ·by_cases ha:zv e 1 10=true
    ·refine .inr (.inr (.inl ?_))
     have h0:zv e 0 90=true:=by
      obtain⟨xs,rfl,x1,x2,x3⟩:=zdq ha
      exact zf9 (by omega) (by omega) x3
     rw[O.nms h0];rfl
    ·refine .inl ?_
     show(_&&(_&&(if zac e=true then _ else zv e 1 10)))=false
     rw[if_neg hn,show zv e 1 10=false by simpa using ha];simp
  ·refine .inl ?_
   show(_&&(_&&(if zac (zU (tD w) k' e).1=true then _ else zv (zU (tD w) k' e).1 1 10)))=false
   rw[z2,if_neg (by decide),z];simp
 |4,e1=>
  cases e1
  rcases zjP O e2 e3 with z|⟨z,z2⟩
  ·rw[z]
   by_cases ha:zv e 0 90=true
   ·refine .inr (.inr (.inr ?_))
    rw[O.nms ha]
    unfold ppD
    rw[ew];rfl
   ·refine .inl ?_
    show(_&&((_&&(_&&zv e 0 90))&&_))=false
    rw[show zv e 0 90=false by simpa using ha];simp
  ·refine .inl ?_
   show(_&&((_&&(_&&zv (zU (tD p.marks) k' e).1 0 90))&&_))=false
   rw[z];simp
 |n+5,e1=>cases e1
section
variable{g:Str}{hs:List Str}{ps:List (Str×Str)}{lks hds:List D}{f:Pp}{qs:List Pp}{w:List Str}
theorem zcI(ew:f.way=some w):za5 g hs ps lks hds f qs=true↔zaV g hs ps (tD w)=true/\w.headD ""=f.one/\qs.length+1=w.length/\zcV w qs qs.length=true/\zel hs lks hds f qs=true:=by
 unfold za5
 rw[ew]
 simp only[Bool.and_eq_true,decide_eq_true_eq,and_assoc]
theorem ziT{p:Pp}{ms m:List Str}(h1:soB hs lks hds p ms=true)(h2:soB hs lks hds {p with marks:=m} ms=true):m=p.marks:=by
 obtain⟨one,to,nr,way,marks⟩:=p
 cases way with
 |none=>cases h1
 |some w=>
  have h1:=of_decide_eq_true ((Bool.and_eq_true _ _).mp h1).2
  have h2:=of_decide_eq_true ((Bool.and_eq_true _ _).mp h2).2
  exact Option.some.inj (h2.symm.trans h1)
theorem zd3{b:Bool}(h:b=true->False):b=false:=by cases b;rfl;exact(h rfl).elim
theorem zfQ(h:("nowhere":Str)∉hs):za5 g hs ps lks hds {f with way:=some ["nowhere"]} qs=false:=zd3 λz=>by
 have:=((zcI (f:={f with way:=some ["nowhere"]}) rfl).mp z).1
 have this:zaV g hs ps (.tup [D.str "nowhere"])=true:=this
 rw[zra (hs:=hs) (ds:=[D.str "nowhere"]) List.mem_cons_self (by
  cases e:zC hs (.str "nowhere")with
  |false=>rfl
  |true=>obtain ⟨x,ex,hx⟩:=zbD e;cases ex;exact(h hx).elim)] at this
 cases this
theorem zfh(h:qs≠ []):za5 g hs ps lks hds {f with way:=none} qs=false:=by
 cases qs with
 |nil=>exact (h rfl).elim
 |cons q qs=>rfl
theorem zeC(R:za5 g hs ps lks hds f qs=true)(ew:f.way=some w){m:List Str}(hm:m≠f.marks):za5 g hs ps lks hds {f with marks:=m} qs=false:=zd3 λz=>by
 have h1:=all_so_iff.mp ((zcI ew).mp R).2.2.2.2 0 (Nat.succ_pos _)
 have h2:=all_so_iff.mp ((zcI (f:={f with marks:=m}) ew).mp z).2.2.2.2 0 (Nat.succ_pos _)
 exact hm (ziT h1 h2)
theorem zny{α:Type}{j:Nat}{xs:List α}{x y:α}(h:xs[j]?=some x):xs.take j ++y::xs.drop (j+1)=xs.set j y:=by
 obtain⟨hj,_⟩:=List.getElem?_eq_some_iff.mp h
 rw[List.set_eq_take_append_cons_drop,if_pos hj]
theorem zdF(ew:f.way=some w){j:Nat}{q:Pp}(hq:qs[j]?=some q){o:Option (List Str)}(ho:∀k,o≠some (w.drop k)):za5 g hs ps lks hds f (qs.set j {q with way:=o})=false:=zd3 λz=>by
 obtain⟨hj,_⟩:=List.getElem?_eq_some_iff.mp hq
 have h2:=fits_iff.mp ((zcI ew).mp z).2.2.2.1 j {q with way:=o} (by rw[List.getElem?_set_self hj])
 exact ho _ h2.2
theorem zeH(R:za5 g hs ps lks hds f qs=true)(ew:f.way=some w){j:Nat}{q:Pp}(hq:qs[j]?=some q){m:List Str}(hm:m≠q.marks):za5 g hs ps lks hds f (qs.set j {q with marks:=m})=false:=zd3 λz=>by
 obtain⟨hj,_⟩:=List.getElem?_eq_some_iff.mp hq
 have h1:=all_so_iff.mp ((zcI ew).mp R).2.2.2.2 (j+1) (by omega)
 have h2:=all_so_iff.mp ((zcI ew).mp z).2.2.2.2 (j+1) (by rw[List.length_set];omega)
 rw[zkO hq] at h1
 rw[zkO (q:={q with marks:=m}) (List.getElem?_set_self hj)] at h2
 have ec:(zbp (qs.set j {q with marks:=m})).getD (j+1) []=(zbp qs).getD (j+1) []:=by
  unfold zbp
  rw[List.map_set,←List.set_append_left _ _ (by rw[List.length_map];exact hj),List.getD_eq_getElem?_getD,List.getD_eq_getElem?_getD,List.getElem?_set_ne (by omega)]
 rw[ec] at h2
 exact hm (ziT h1 h2)
def zfv(g:Str)(hs:List Str)(ps:List (Str×Str))(lks hds:List D)(d:D):Prop:=zK hs ps d=false\/∃f qs,d=zby f qs/\za5 g hs ps lks hds f qs=false/\∀p∈f::qs,p.marks.length<=40
theorem zeZ{d e:D}(h:zo hs ps d=false):zK hs ps (.tup [d,e])=false:=by
 cases e with
 |tup es=>show (zo hs ps d&&_)=false;rw[h];rfl
 |_=>rfl
theorem zce{d:D}{es:List D}(h:es.all (zo hs ps)=false):zK hs ps (.tup [d, .tup es])=false:=by
 show(_&&(_&&es.all (zo hs ps)))=false
 rw[h];simp
theorem zmi{e:D}(hn:("nowhere":Str)∉hs)(O:OddE hs ps e)(hsl:zK hs ps e=false)(hf:PpOk hs ps f)(hq:∀q∈qs,PpOk hs ps q)(ew:f.way=some w)(hw:∀q∈qs,∃w,q.way=some w)(ww:∀x∈w,x∈hs)(hm:∀p∈f::qs,("nowhere":Str)∉p.marks/\p.marks.length<=40)(R:za5 g hs ps lks hds f qs=true)(hnon:e= .non->qs≠ []){k:Int}(h:0<=k)(h1:k<zah (zby f qs)):zfv g hs ps lks hds (zU (zby f qs) k e).1:=by
 have m1:∀p∈f::qs,(["nowhere"]:List Str)≠p.marks:=λp hp z=>(hm p hp).1 (by rw[←z];exact List.mem_singleton.mpr rfl)
 unfold zby at h1
 rcases zf1 h h1 with z|⟨j,d,k',e1,e2,e3,e4⟩
 ·unfold zby;rw[z];exact .inl hsl
 unfold zby
 rw[e4]
 match j,e1 with
 |0,e1=>
  cases e1
  show zfv g hs ps lks hds (.tup [(zU (ppD f) k' e).1, .tup (qs.map ppD)])
  rcases zhz O hf e2 e3 ⟨w,ew⟩with z|⟨en,z⟩|z|z
  ·exact .inl (zeZ z)
  ·rw[z]
   refine .inr ⟨_,qs,rfl,zfh (hnon en),λp hp=>?_⟩
   rcases List.mem_cons.mp hp with rfl|hp
   ·exact (hm f List.mem_cons_self).2
   ·exact (hm p (List.mem_cons_of_mem _ hp)).2
  ·rw[z]
   refine .inr ⟨_,qs,rfl,zfQ hn,λp hp=>?_⟩
   rcases List.mem_cons.mp hp with rfl|hp
   ·exact (hm f List.mem_cons_self).2
   ·exact (hm p (List.mem_cons_of_mem _ hp)).2
  ·rw[z]
   refine .inr ⟨_,qs,rfl,zeC R ew (m1 f List.mem_cons_self),λp hp=>?_⟩
   rcases List.mem_cons.mp hp with rfl|hp
   ·show 1<=40;decide
   ·exact (hm p (List.mem_cons_of_mem _ hp)).2
 |1,e1=>
  cases e1
  show zfv g hs ps lks hds (.tup [ppD f,(zU (.tup (qs.map ppD)) k' e).1])
  rcases zf1 e2 e3 with z|⟨j,d,k2,x1,x2,x3,x4⟩
  ·rw[z]
   refine .inl ?_
   cases e with
   |tup es=>exact zce (O.row es rfl)
   |_=>rfl
  ·rw[List.getElem?_map] at x1
   obtain⟨q,hqj,rfl⟩:∃q,qs[j]?=some q/\d=ppD q:=by
    cases ex:qs[j]? with
    |none=>rw[ex] at x1;cases x1
    |some q=>rw[ex] at x1;cases x1;exact⟨q,rfl,rfl⟩
   have hqm:=List.mem_of_getElem? hqj
   rw[x4]
   have mk:∀q':Pp,(qs.map ppD).take j ++ppD q'::(qs.map ppD).drop (j+1)=(qs.set j q').map ppD:=λq'=>by
    rw[←zny hqj,List.map_append,List.map_cons,List.map_take,List.map_drop]
   have ml:∀q':Pp,q'.marks.length<=40->∀p∈f::qs.set j q',p.marks.length<=40:=λq' h' p hp=>by
    rcases List.mem_cons.mp hp with rfl|hp
    ·exact (hm p List.mem_cons_self).2
    ·rcases List.mem_or_eq_of_mem_set hp with hp|rfl
     ·exact (hm p (List.mem_cons_of_mem _ hp)).2
     ·exact h'
   rcases zhz O (hq q hqm) x2 x3 (hw q hqm)with z|⟨en,z⟩|z|z
   ·refine .inl (zce ?_)
    rw[List.all_append,List.all_cons,z];simp
   ·rw[z,mk]
    exact .inr ⟨f,_,rfl,zdF ew hqj (λk z=>by cases z),ml _ (hm q (List.mem_cons_of_mem _ hqm)).2⟩
   ·rw[z,mk]
    refine .inr ⟨f,_,rfl,zdF ew hqj (λk z=>?_),ml _ (hm q (List.mem_cons_of_mem _ hqm)).2⟩
    have z:=Option.some.inj z
    exact hn (ww _ (List.mem_of_mem_drop (i:=k) (by rw[←z];exact List.mem_singleton.mpr rfl)))
   ·rw[z,mk]
    exact .inr ⟨f,_,rfl,zeH R ew hqj (m1 q (List.mem_cons_of_mem _ hqm)),ml _ (by show 1<=40;decide)⟩
 |j+2,e1=>cases e1
end
end RW
namespace K72
open PySem PySem.Spec PyProof.Rows L2
noncomputable def top(i:Nat):Stmt:=PySem.Challenge.pw_restways_k72_sealed_of_anything.main.body.getD i (.Pass ⟨0,0,0,0⟩)
noncomputable abbrev zb3:Stmt:=top 3
noncomputable abbrev zhA:List Str:=["thing"]
noncomputable abbrev zcL:List Str:=["thing"]
theorem zmt:FnScope zhA zcL (zg zb3):=⟨rfl,rfl,rfl,by decide +kernel,rfl,by decide +kernel,by decide +kernel⟩
noncomputable def ziE:Scope:={kind:= .function,names:=[(".0", .local),("sign", .local)],isGenerator:=false,isCoroutine:=false,more:=[]}
theorem o_is_name_1:CompOk zhA (zg zb3) ["sign"] [none] ziE:=⟨rfl,by decide +kernel,by decide +kernel,by decide +kernel,by decide +kernel,rfl,by decide +kernel⟩
noncomputable abbrev zbL:Stmt:=top 5
noncomputable abbrev zjt:List Str:=["thing"]
noncomputable abbrev zcq:List Str:=["thing"]
theorem ziN:FnScope zjt zcq (zg zbL):=⟨rfl,rfl,rfl,by decide +kernel,rfl,by decide +kernel,by decide +kernel⟩
noncomputable abbrev zdn:Stmt:=top 6
noncomputable abbrev znM:List Str:=["thing","fewest","most"]
noncomputable abbrev zcp:List Str:=["thing","fewest","most"]
theorem zmR:FnScope znM zcp (zg zdn):=⟨rfl,rfl,rfl,by decide +kernel,rfl,by decide +kernel,by decide +kernel⟩
noncomputable abbrev zbd:Stmt:=top 7
noncomputable abbrev zfI:List Str:=["things"]
noncomputable abbrev zcu:List Str:=["things"]
theorem ziK:FnScope zfI zcu (zg zbd):=⟨rfl,rfl,rfl,by decide +kernel,rfl,by decide +kernel,by decide +kernel⟩
noncomputable def zhd:Scope:={kind:= .function,names:=[(".0", .local),("k", .local),("things", .free)],isGenerator:=false,isCoroutine:=false,more:=[]}
theorem o_is_rising_1:CompOk zfI (zg zbd) ["k","things"] [none,some 0] zhd:=⟨rfl,by decide +kernel,by decide +kernel,by decide +kernel,by decide +kernel,rfl,by decide +kernel⟩
noncomputable abbrev zd6:Stmt:=top 9
noncomputable abbrev zoO:List Str:=["cond","way","marks","to","word","about"]
noncomputable abbrev zcD:List Str:=["cond","way","marks","to"]
theorem c_holds:FnScope zoO zcD (zg zd6):=⟨rfl,rfl,rfl,by decide +kernel,rfl,by decide +kernel,by decide +kernel⟩
noncomputable abbrev zb0:Stmt:=top 10
noncomputable abbrev zkM:List Str:=["conds","way","marks","to","cond"]
noncomputable abbrev zbA:List Str:=["conds","way","marks","to"]
theorem c_all_hold:FnScope zkM zbA (zg zb0):=⟨rfl,rfl,rfl,by decide +kernel,rfl,by decide +kernel,by decide +kernel⟩
noncomputable abbrev zb5:Stmt:=top 12
noncomputable abbrev zko:List Str:=["houses","thing"]
noncomputable abbrev zb6:List Str:=["houses","thing"]
theorem zkf:FnScope zko zb6 (zg zb5):=⟨rfl,rfl,rfl,by decide +kernel,rfl,by decide +kernel,by decide +kernel⟩
noncomputable abbrev zbk:Stmt:=top 13
noncomputable abbrev zie:List Str:=["town","house"]
noncomputable abbrev zbX:List Str:=["town","house"]
theorem zhZ:FnScope zie zbX (zg zbk):=⟨rfl,rfl,rfl,by decide +kernel,rfl,by decide +kernel,by decide +kernel⟩
noncomputable abbrev zcd:Stmt:=top 14
noncomputable abbrev zka:List Str:=["town","house"]
noncomputable abbrev zcQ:List Str:=["town","house"]
theorem zj7:FnScope zka zcQ (zg zcd):=⟨rfl,rfl,rfl,by decide +kernel,rfl,by decide +kernel,by decide +kernel⟩
noncomputable abbrev zdI:Stmt:=top 15
noncomputable abbrev zkw:List Str:=["town","house","ties"]
noncomputable abbrev zfo:List Str:=["town","house"]
theorem c_tied:FnScope zkw zfo (zg zdI):=⟨rfl,rfl,rfl,by decide +kernel,rfl,by decide +kernel,by decide +kernel⟩
noncomputable def znd:Scope:={kind:= .function,names:=[(".0", .local),("a", .local),("b", .local),("house", .free)],isGenerator:=false,isCoroutine:=false,more:=[]}
theorem o_tied_1:CompOk zkw (zg zdI) ["a","b","house"] [none,none,some 1] znd:=⟨rfl,by decide +kernel,by decide +kernel,by decide +kernel,by decide +kernel,rfl,by decide +kernel⟩
noncomputable def znc:Scope:={kind:= .function,names:=[(".0", .local),("a", .local),("b", .local),("house", .free)],isGenerator:=false,isCoroutine:=false,more:=[]}
theorem o_tied_2:CompOk zkw (zg zdI) ["a","b","house"] [none,none,some 1] znc:=⟨rfl,by decide +kernel,by decide +kernel,by decide +kernel,by decide +kernel,rfl,by decide +kernel⟩
noncomputable abbrev zco:Stmt:=top 16
noncomputable abbrev zgK:List Str:=["town","thing","goal","houses"]
noncomputable abbrev zdZ:List Str:=["town","thing"]
theorem c_is_way:FnScope zgK zdZ (zg zco):=⟨rfl,rfl,rfl,by decide +kernel,rfl,by decide +kernel,by decide +kernel⟩
noncomputable def zkD:Scope:={kind:= .function,names:=[(".0", .local),("house", .local),("is_house", .globalImplicit),("houses", .free)],isGenerator:=false,isCoroutine:=false,more:=[]}
theorem o_is_way_1:CompOk zgK (zg zco) ["house","houses"] [none,some 3] zkD:=⟨rfl,by decide +kernel,by decide +kernel,by decide +kernel,by decide +kernel,rfl,by decide +kernel⟩
noncomputable def zky:Scope:={kind:= .function,names:=[(".0", .local),("k", .local),("tied", .globalImplicit),("thing", .free),("town", .free)],isGenerator:=false,isCoroutine:=false,more:=[]}
theorem o_is_way_2:CompOk zgK (zg zco) ["k","thing","town"] [none,some 1,some 0] zky:=⟨rfl,by decide +kernel,by decide +kernel,by decide +kernel,by decide +kernel,rfl,by decide +kernel⟩
noncomputable abbrev zay:Stmt:=top 18
noncomputable abbrev zdH:List Str:=["marks","act","word","mark","others"]
noncomputable abbrev zbe:List Str:=["marks","act"]
theorem c_marks_behind:FnScope zdH zbe (zg zay):=⟨rfl,rfl,rfl,by decide +kernel,rfl,by decide +kernel,by decide +kernel⟩
noncomputable def zfe:Scope:={kind:= .function,names:=[(".0", .local),("one", .local),("mark", .free)],isGenerator:=false,isCoroutine:=false,more:=[]}
theorem o_marks_behind_1:CompOk zdH (zg zay) ["one","mark"] [none,some 3] zfe:=⟨rfl,by decide +kernel,by decide +kernel,by decide +kernel,by decide +kernel,rfl,by decide +kernel⟩
noncomputable abbrev zdf:Stmt:=top 19
noncomputable abbrev zmS:List Str:=["town","way","marks","to","told","conds","act"]
noncomputable abbrev zdJ:List Str:=["town","way","marks","to"]
theorem c_handed:FnScope zmS zdJ (zg zdf):=⟨rfl,rfl,rfl,by decide +kernel,rfl,by decide +kernel,by decide +kernel⟩
noncomputable abbrev zeg:Stmt:=top 21
noncomputable abbrev zpu:List Str:=["town","way","marks","conds","told"]
noncomputable abbrev zeN:List Str:=["town","way","marks"]
theorem c_worth:FnScope zpu zeN (zg zeg):=⟨rfl,rfl,rfl,by decide +kernel,rfl,by decide +kernel,by decide +kernel⟩
noncomputable abbrev zbj:Stmt:=top 26
noncomputable abbrev zfN:List Str:=["thing","fewest","most"]
noncomputable abbrev zck:List Str:=["thing","fewest","most"]
theorem ziW:FnScope zfN zck (zg zbj):=⟨rfl,rfl,rfl,by decide +kernel,rfl,by decide +kernel,by decide +kernel⟩
noncomputable def zhb:Scope:={kind:= .function,names:=[(".0", .local),("name", .local),("is_name", .globalImplicit)],isGenerator:=false,isCoroutine:=false,more:=[]}
theorem o_are_names_1:CompOk zfN (zg zbj) ["name"] [none] zhb:=⟨rfl,by decide +kernel,by decide +kernel,by decide +kernel,by decide +kernel,rfl,by decide +kernel⟩
noncomputable abbrev zb1:Stmt:=top 27
noncomputable abbrev zjU:List Str:=["town","thing","one","to","nr","way","marks"]
noncomputable abbrev zcX:List Str:=["town","thing"]
theorem c_is_paper:FnScope zjU zcX (zg zb1):=⟨rfl,rfl,rfl,by decide +kernel,rfl,by decide +kernel,by decide +kernel⟩
noncomputable abbrev zbi:Stmt:=top 28
noncomputable abbrev zfF:List Str:=["town","thing"]
noncomputable abbrev zcj:List Str:=["town","thing"]
theorem zjg:FnScope zfF zcj (zg zbi):=⟨rfl,rfl,rfl,by decide +kernel,rfl,by decide +kernel,by decide +kernel⟩
noncomputable def zg5:Scope:={kind:= .function,names:=[(".0", .local),("paper", .local),("is_paper", .globalImplicit),("town", .free)],isGenerator:=false,isCoroutine:=false,more:=[]}
theorem o_is_sealed_1:CompOk zfF (zg zbi) ["paper","town"] [none,some 0] zg5:=⟨rfl,by decide +kernel,by decide +kernel,by decide +kernel,by decide +kernel,rfl,by decide +kernel⟩
noncomputable abbrev zaz:Stmt:=top 29
noncomputable abbrev zfR:List Str:=["town","paper","marks","one","to","nr","way","told"]
noncomputable abbrev za0:List Str:=["town","paper","marks"]
theorem c_was_handed_so:FnScope zfR za0 (zg zaz):=⟨rfl,rfl,rfl,by decide +kernel,rfl,by decide +kernel,by decide +kernel⟩
noncomputable abbrev zba:Stmt:=top 30
noncomputable abbrev zer:List Str:=["town","thing","first","papers","way","k","paper","came"]
noncomputable abbrev zcM:List Str:=["town","thing"]
theorem c_is_right:FnScope zer zcM (zg zba):=⟨rfl,rfl,rfl,by decide +kernel,rfl,by decide +kernel,by decide +kernel⟩
noncomputable def ziy:Scope:={kind:= .function,names:=[(".0", .local),("paper", .local)],isGenerator:=false,isCoroutine:=false,more:=[]}
theorem o_is_right_1:CompOk zer (zg zba) ["paper"] [none] ziy:=⟨rfl,by decide +kernel,by decide +kernel,by decide +kernel,by decide +kernel,rfl,by decide +kernel⟩
noncomputable def zia:Scope:={kind:= .function,names:=[(".0", .local),("paper", .local),("marks", .local),("was_handed_so", .globalImplicit),("town", .free)],isGenerator:=false,isCoroutine:=false,more:=[]}
theorem o_is_right_2:CompOk zer (zg zba) ["paper","marks","town"] [none,none,some 0] zia:=⟨rfl,by decide +kernel,by decide +kernel,by decide +kernel,by decide +kernel,rfl,by decide +kernel⟩
noncomputable abbrev zbI:Stmt:=top 32
noncomputable abbrev zjl:List Str:=["_law_script","_law_k","_law_cell"]
noncomputable abbrev zcl:List Str:=["_law_script","_law_k"]
theorem c__law_hand:FnScope zjl zcl (zg zbI):=⟨rfl,rfl,rfl,by decide +kernel,rfl,by decide +kernel,by decide +kernel⟩
noncomputable abbrev zbJ:Stmt:=top 33
noncomputable abbrev zjQ:List Str:=["_law_hand_here","_law_many","_law_digit","_law_turn","_law_mixed","_law_rest_here"]
noncomputable abbrev zai:List Str:=["_law_hand_here","_law_many"]
theorem c__law_take:FnScope zjQ zai (zg zbJ):=⟨rfl,rfl,rfl,by decide +kernel,rfl,by decide +kernel,by decide +kernel⟩
noncomputable abbrev zbE:Stmt:=top 34
noncomputable abbrev zjs:List Str:=["_law_hand_here","_law_some"]
noncomputable abbrev zan:List Str:=["_law_hand_here","_law_some"]
theorem zjF:FnScope zjs zan (zg zbE):=⟨rfl,rfl,rfl,by decide +kernel,rfl,by decide +kernel,by decide +kernel⟩
noncomputable abbrev zaZ:Stmt:=top 35
noncomputable abbrev zeG:List Str:=["_law_hand_here","_law_many","_law_letters","_law_first","_law_step","_law_names_here","_law_kept","_law_spot","_law_k"]
noncomputable abbrev zbW:List Str:=["_law_hand_here","_law_many"]
theorem c__law_names:FnScope zeG zbW (zg zaZ):=⟨rfl,rfl,rfl,by decide +kernel,rfl,by decide +kernel,by decide +kernel⟩
noncomputable def zge:Scope:={kind:= .function,names:=[(".0", .local),("_law_k", .local),("_law_first", .free),("_law_letters", .free),("_law_step", .free)],isGenerator:=false,isCoroutine:=false,more:=[]}
theorem o__law_names_1:CompOk zeG (zg zaZ) ["_law_k","_law_first","_law_letters","_law_step"] [none,some 3,some 2,some 4] zge:=⟨rfl,by decide +kernel,by decide +kernel,by decide +kernel,by decide +kernel,rfl,by decide +kernel⟩
noncomputable abbrev zbG:Stmt:=top 36
noncomputable abbrev zjf:List Str:=["_law_hand_here","_law_houses","_law_marks","_law_to","_law_way","_law_cond_here"]
noncomputable abbrev zcs:List Str:=["_law_hand_here","_law_houses","_law_marks","_law_to"]
theorem c__law_cond:FnScope zjf zcs (zg zbG):=⟨rfl,rfl,rfl,by decide +kernel,rfl,by decide +kernel,by decide +kernel⟩
noncomputable abbrev zaX:Stmt:=top 37
noncomputable abbrev zeW:List Str:=["_law_hand_here","_law_houses","_law_marks","_law_to","_law_many"]
noncomputable abbrev zbY:List Str:=["_law_hand_here","_law_houses","_law_marks","_law_to"]
theorem c__law_conds:FnScope zeW zbY (zg zaX):=⟨rfl,rfl,rfl,by decide +kernel,rfl,by decide +kernel,by decide +kernel⟩
noncomputable def zgV:Scope:={kind:= .function,names:=[(".0", .local),("_law_k", .local),("_law_cond", .globalImplicit),("_law_hand_here", .free),("_law_houses", .free),("_law_marks", .free),("_law_to", .free)],isGenerator:=false,isCoroutine:=false,more:=[]}
theorem o__law_conds_1:CompOk zeW (zg zaX) ["_law_k","_law_hand_here","_law_houses","_law_marks","_law_to"] [none,some 0,some 1,some 2,some 3] zgV:=⟨rfl,by decide +kernel,by decide +kernel,by decide +kernel,by decide +kernel,rfl,by decide +kernel⟩
noncomputable abbrev zbN:Stmt:=top 38
noncomputable abbrev ziY:List Str:=["_law_hand_here","_law_houses","_law_more","_law_ties_here","_law_k","_law_a","_law_b"]
noncomputable abbrev zcr:List Str:=["_law_hand_here","_law_houses","_law_more"]
theorem c__law_ties:FnScope ziY zcr (zg zbN):=⟨rfl,rfl,rfl,by decide +kernel,rfl,by decide +kernel,by decide +kernel⟩
noncomputable abbrev zae:Stmt:=top 39
noncomputable abbrev zcc:List Str:=["_law_hand_here","_law_many","_law_names_here","_law_houses","_law_marks","_law_ties_here_here","_law_likings","_law_hands","_law_house","_law_worths","_law_some","_law_acts"]
noncomputable abbrev zaN:List Str:=["_law_hand_here"]
theorem c__law_mild_town:FnScope zcc zaN (zg zae):=⟨rfl,rfl,rfl,by decide +kernel,rfl,by decide +kernel,by decide +kernel⟩
noncomputable def zes:Scope:={kind:= .function,names:=[(".0", .local),("_law_k", .local),("_law_conds", .globalImplicit),("_law_pick", .globalImplicit),("_law_hand_here", .free),("_law_marks", .free),("_law_names_here", .free),("_law_worths", .free)],isGenerator:=false,isCoroutine:=false,more:=[]}
theorem o__law_mild_town_1:CompOk zcc (zg zae) ["_law_k","_law_hand_here","_law_marks","_law_names_here","_law_worths"] [none,some 0,some 4,some 2,some 9] zes:=⟨rfl,by decide +kernel,by decide +kernel,by decide +kernel,by decide +kernel,rfl,by decide +kernel⟩
noncomputable def zep:Scope:={kind:= .function,names:=[(".0", .local),("_law_k", .local),("_law_conds", .globalImplicit),("_law_pick", .globalImplicit),("_law_acts", .free),("_law_hand_here", .free),("_law_marks", .free),("_law_names_here", .free)],isGenerator:=false,isCoroutine:=false,more:=[]}
theorem o__law_mild_town_2:CompOk zcc (zg zae) ["_law_k","_law_acts","_law_hand_here","_law_marks","_law_names_here"] [none,some 11,some 0,some 4,some 2] zep:=⟨rfl,by decide +kernel,by decide +kernel,by decide +kernel,by decide +kernel,rfl,by decide +kernel⟩
noncomputable abbrev zab:Stmt:=top 40
noncomputable abbrev zbz:List Str:=["_law_hand_here","_law_town","_law_way","_law_k","_law_others"]
noncomputable abbrev za2:List Str:=["_law_hand_here","_law_town"]
theorem c__law_some_way:FnScope zbz za2 (zg zab):=⟨rfl,rfl,rfl,by decide +kernel,rfl,by decide +kernel,by decide +kernel⟩
noncomputable def zeS:Scope:={kind:= .function,names:=[(".0", .local),("_law_pair", .local),("_law_way", .free)],isGenerator:=false,isCoroutine:=false,more:=[]}
theorem o__law_some_way_1:CompOk zbz (zg zab) ["_law_pair","_law_way"] [none,some 2] zeS:=⟨rfl,by decide +kernel,by decide +kernel,by decide +kernel,by decide +kernel,rfl,by decide +kernel⟩
noncomputable def zeM:Scope:={kind:= .function,names:=[(".0", .local),("_law_pair", .local),("_law_way", .free)],isGenerator:=false,isCoroutine:=false,more:=[]}
theorem o__law_some_way_2:CompOk zbz (zg zab) ["_law_pair","_law_way"] [none,some 2] zeM:=⟨rfl,by decide +kernel,by decide +kernel,by decide +kernel,by decide +kernel,rfl,by decide +kernel⟩
noncomputable def ze5:Scope:={kind:= .function,names:=[(".0", .local),("_law_house", .local),("_law_way", .free)],isGenerator:=false,isCoroutine:=false,more:=[]}
theorem o__law_some_way_3:CompOk zbz (zg zab) ["_law_house","_law_way"] [none,some 2] ze5:=⟨rfl,by decide +kernel,by decide +kernel,by decide +kernel,by decide +kernel,rfl,by decide +kernel⟩
noncomputable abbrev zaa:Stmt:=top 41
noncomputable abbrev zbZ:List Str:=["_law_cond_here","_law_way","_law_marks","_law_to"]
noncomputable abbrev zZ:List Str:=["_law_cond_here","_law_way","_law_marks","_law_to"]
theorem zc2:FnScope zbZ zZ (zg zaa):=⟨rfl,rfl,rfl,by decide +kernel,rfl,by decide +kernel,by decide +kernel⟩
noncomputable def zeh:Scope:={kind:= .function,names:=[(".0", .local),("_law_house", .local),("_law_cond_here", .free)],isGenerator:=false,isCoroutine:=false,more:=[]}
theorem o__law_cond_holds_1:CompOk zbZ (zg zaa) ["_law_house","_law_cond_here"] [none,some 0] zeh:=⟨rfl,by decide +kernel,by decide +kernel,by decide +kernel,by decide +kernel,rfl,by decide +kernel⟩
noncomputable def zei:Scope:={kind:= .function,names:=[(".0", .local),("_law_mark", .local),("_law_cond_here", .free)],isGenerator:=false,isCoroutine:=false,more:=[]}
theorem o__law_cond_holds_2:CompOk zbZ (zg zaa) ["_law_mark","_law_cond_here"] [none,some 0] zei:=⟨rfl,by decide +kernel,by decide +kernel,by decide +kernel,by decide +kernel,rfl,by decide +kernel⟩
noncomputable abbrev zaB:Stmt:=top 42
noncomputable abbrev zfW:List Str:=["_law_conds_here","_law_way","_law_marks","_law_to","_law_cond_here"]
noncomputable abbrev zaA:List Str:=["_law_conds_here","_law_way","_law_marks","_law_to"]
theorem c__law_all_hold:FnScope zfW zaA (zg zaB):=⟨rfl,rfl,rfl,by decide +kernel,rfl,by decide +kernel,by decide +kernel⟩
noncomputable abbrev zaF:Stmt:=top 43
noncomputable abbrev zdE:List Str:=["_law_town","_law_way","_law_marks","_law_at","_law_held"]
noncomputable abbrev zbU:List Str:=["_law_town","_law_way","_law_marks"]
theorem c__law_worth:FnScope zdE zbU (zg zaF):=⟨rfl,rfl,rfl,by decide +kernel,rfl,by decide +kernel,by decide +kernel⟩
noncomputable def zgI:Scope:={kind:= .function,names:=[(".0", .local),("_law_k", .local),("_law_house", .local),("_law_way", .free)],isGenerator:=false,isCoroutine:=false,more:=[]}
theorem o__law_worth_1:CompOk zdE (zg zaF) ["_law_k","_law_house","_law_way"] [none,none,some 1] zgI:=⟨rfl,by decide +kernel,by decide +kernel,by decide +kernel,by decide +kernel,rfl,by decide +kernel⟩
noncomputable def zgd:Scope:={kind:= .function,names:=[(".0", .local),("_law_conds_here", .local),("_law_number", .local),("_law_all_hold", .globalImplicit),("_law_marks", .free),("_law_way", .free)],isGenerator:=false,isCoroutine:=false,more:=[]}
theorem o__law_worth_2:CompOk zdE (zg zaF) ["_law_conds_here","_law_number","_law_marks","_law_way"] [none,none,some 2,some 1] zgd:=⟨rfl,by decide +kernel,by decide +kernel,by decide +kernel,by decide +kernel,rfl,by decide +kernel⟩
noncomputable abbrev zau:Stmt:=top 44
noncomputable abbrev zc3:List Str:=["_law_town","_law_way","_law_marks","_law_to","_law_at","_law_now","_law_conds_here","_law_act"]
noncomputable abbrev za3:List Str:=["_law_town","_law_way","_law_marks","_law_to"]
theorem c__law_handed:FnScope zc3 za3 (zg zau):=⟨rfl,rfl,rfl,by decide +kernel,rfl,by decide +kernel,by decide +kernel⟩
noncomputable def zfX:Scope:={kind:= .function,names:=[(".0", .local),("_law_k", .local),("_law_house", .local),("_law_way", .free)],isGenerator:=false,isCoroutine:=false,more:=[]}
theorem o__law_handed_1:CompOk zc3 (zg zau) ["_law_k","_law_house","_law_way"] [none,none,some 1] zfX:=⟨rfl,by decide +kernel,by decide +kernel,by decide +kernel,by decide +kernel,rfl,by decide +kernel⟩
noncomputable def zfU:Scope:={kind:= .function,names:=[(".0", .local),("_law_mark", .local),("_law_act", .free)],isGenerator:=false,isCoroutine:=false,more:=[]}
theorem o__law_handed_2:CompOk zc3 (zg zau) ["_law_mark","_law_act"] [none,some 7] zfU:=⟨rfl,by decide +kernel,by decide +kernel,by decide +kernel,by decide +kernel,rfl,by decide +kernel⟩
noncomputable abbrev zbK:Stmt:=top 45
noncomputable abbrev ziZ:List Str:=["_law_town","_law_one","_law_other"]
noncomputable abbrev zct:List Str:=["_law_town","_law_one","_law_other"]
theorem ziL:FnScope ziZ zct (zg zbK):=⟨rfl,rfl,rfl,by decide +kernel,rfl,by decide +kernel,by decide +kernel⟩
noncomputable abbrev zbc:Stmt:=top 46
noncomputable abbrev zfL:List Str:=["_law_town","_law_house"]
noncomputable abbrev zch:List Str:=["_law_town","_law_house"]
theorem ziI:FnScope zfL zch (zg zbc):=⟨rfl,rfl,rfl,by decide +kernel,rfl,by decide +kernel,by decide +kernel⟩
noncomputable def zha:Scope:={kind:= .function,names:=[(".0", .local),("_law_other", .local),("_law_tied", .globalImplicit),("_law_house", .free),("_law_town", .free)],isGenerator:=false,isCoroutine:=false,more:=[]}
theorem o__law_near_1:CompOk zfL (zg zbc) ["_law_other","_law_house","_law_town"] [none,some 1,some 0] zha:=⟨rfl,by decide +kernel,by decide +kernel,by decide +kernel,by decide +kernel,rfl,by decide +kernel⟩
noncomputable abbrev za4:Stmt:=top 47
noncomputable abbrev zg8:List Str:=["_law_hand_here","_law_town","_law_way","_law_to","_law_marks","_law_papers_here","_law_k","_law_piece","_law_whom"]
noncomputable abbrev zbw:List Str:=["_law_hand_here","_law_town","_law_way","_law_to"]
theorem c__law_papers:FnScope zg8 zbw (zg za4):=⟨rfl,rfl,rfl,by decide +kernel,rfl,by decide +kernel,by decide +kernel⟩
noncomputable abbrev zM:Stmt:=top 48
noncomputable abbrev zak:List Str:=["_law_sealed","_law_first","_law_papers_here","_law_one","_law_to","_law_nr","_law_way","_law_marks","_law_houses","_law_some","_law_eleven","_law_ways","_law_none","_law_found"]
noncomputable abbrev zbP:List Str:=["_law_sealed"]
theorem c__law_forms:FnScope zak zbP (zg zM):=⟨rfl,rfl,rfl,by decide +kernel,rfl,by decide +kernel,by decide +kernel⟩
noncomputable def zgl:Scope:={kind:= .function,names:=[(".0", .local),("_law_bad", .local),("_law_to", .free)],isGenerator:=false,isCoroutine:=false,more:=[]}
theorem o__law_forms_1:CompOk zak (zg zM) ["_law_bad","_law_to"] [none,some 4] zgl:=⟨rfl,by decide +kernel,by decide +kernel,by decide +kernel,by decide +kernel,rfl,by decide +kernel⟩
noncomputable def zgN:Scope:={kind:= .function,names:=[(".0", .local),("_law_bad", .local),("_law_one", .free)],isGenerator:=false,isCoroutine:=false,more:=[]}
theorem o__law_forms_2:CompOk zak (zg zM) ["_law_bad","_law_one"] [none,some 3] zgN:=⟨rfl,by decide +kernel,by decide +kernel,by decide +kernel,by decide +kernel,rfl,by decide +kernel⟩
noncomputable def zgT:Scope:={kind:= .function,names:=[(".0", .local),("_law_pair", .local),("_law_marks", .free),("_law_nr", .free),("_law_way", .free)],isGenerator:=false,isCoroutine:=false,more:=[]}
theorem o__law_forms_3:CompOk zak (zg zM) ["_law_pair","_law_marks","_law_nr","_law_way"] [none,some 7,some 5,some 6] zgT:=⟨rfl,by decide +kernel,by decide +kernel,by decide +kernel,by decide +kernel,rfl,by decide +kernel⟩
noncomputable def zf8:Scope:={kind:= .function,names:=[(".0", .local),("_law_bad", .local),("_law_marks", .free),("_law_one", .free),("_law_to", .free),("_law_way", .free)],isGenerator:=false,isCoroutine:=false,more:=[]}
theorem o__law_forms_4:CompOk zak (zg zM) ["_law_bad","_law_marks","_law_one","_law_to","_law_way"] [none,some 7,some 3,some 4,some 6] zf8:=⟨rfl,by decide +kernel,by decide +kernel,by decide +kernel,by decide +kernel,rfl,by decide +kernel⟩
noncomputable def zgC:Scope:={kind:= .function,names:=[(".0", .local),("_law_letter", .local)],isGenerator:=false,isCoroutine:=false,more:=[]}
theorem o__law_forms_5:CompOk zak (zg zM) ["_law_letter"] [none] zgC:=⟨rfl,by decide +kernel,by decide +kernel,by decide +kernel,by decide +kernel,rfl,by decide +kernel⟩
noncomputable def zgW:Scope:={kind:= .function,names:=[(".0", .local),("_law_bad", .local),("_law_marks", .free),("_law_nr", .free),("_law_one", .free),("_law_to", .free)],isGenerator:=false,isCoroutine:=false,more:=[]}
theorem o__law_forms_6:CompOk zak (zg zM) ["_law_bad","_law_marks","_law_nr","_law_one","_law_to"] [none,some 7,some 5,some 3,some 4] zgW:=⟨rfl,by decide +kernel,by decide +kernel,by decide +kernel,by decide +kernel,rfl,by decide +kernel⟩
noncomputable def zgj:Scope:={kind:= .function,names:=[(".0", .local),("_law_bad", .local),("_law_nr", .free),("_law_one", .free),("_law_to", .free),("_law_way", .free)],isGenerator:=false,isCoroutine:=false,more:=[]}
theorem o__law_forms_7:CompOk zak (zg zM) ["_law_bad","_law_nr","_law_one","_law_to","_law_way"] [none,some 5,some 3,some 4,some 6] zgj:=⟨rfl,by decide +kernel,by decide +kernel,by decide +kernel,by decide +kernel,rfl,by decide +kernel⟩
noncomputable def zgo:Scope:={kind:= .function,names:=[(".0", .local),("_law_bad", .local),("_law_papers_here", .free)],isGenerator:=false,isCoroutine:=false,more:=[]}
theorem o__law_forms_8:CompOk zak (zg zM) ["_law_bad","_law_papers_here"] [none,some 2] zgo:=⟨rfl,by decide +kernel,by decide +kernel,by decide +kernel,by decide +kernel,rfl,by decide +kernel⟩
noncomputable def zgP:Scope:={kind:= .function,names:=[(".0", .local),("_law_bad", .local),("_law_first", .free)],isGenerator:=false,isCoroutine:=false,more:=[]}
theorem o__law_forms_9:CompOk zak (zg zM) ["_law_bad","_law_first"] [none,some 1] zgP:=⟨rfl,by decide +kernel,by decide +kernel,by decide +kernel,by decide +kernel,rfl,by decide +kernel⟩
noncomputable abbrev zb4:Stmt:=top 49
noncomputable abbrev zkF:List Str:=["_law_hand_here","_law_deep","_law_k","_law_some"]
noncomputable abbrev zcO:List Str:=["_law_hand_here"]
theorem c__law_any:FnScope zkF zcO (zg zb4):=⟨rfl,rfl,rfl,by decide +kernel,rfl,by decide +kernel,by decide +kernel⟩
noncomputable abbrev zbb:Stmt:=top 50
noncomputable abbrev zfM:List Str:=["_law_thing"]
noncomputable abbrev zaQ:List Str:=["_law_thing"]
theorem zfO:FnScope zfM zaQ (zg zbb):=⟨rfl,rfl,rfl,by decide +kernel,rfl,by decide +kernel,by decide +kernel⟩
noncomputable def zg7:Scope:={kind:= .function,names:=[(".0", .local),("_law_one", .local),("_law_size", .globalImplicit)],isGenerator:=false,isCoroutine:=false,more:=[]}
theorem o__law_size_1:CompOk zfM (zg zbb) ["_law_one"] [none] zg7:=⟨rfl,by decide +kernel,by decide +kernel,by decide +kernel,by decide +kernel,rfl,by decide +kernel⟩
noncomputable abbrev zbB:Stmt:=top 51
noncomputable abbrev zgO:List Str:=["_law_thing","_law_spot","_law_other"]
noncomputable abbrev zbh:List Str:=["_law_thing","_law_spot","_law_other"]
theorem zgz:FnScope zgO zbh (zg zbB):=⟨rfl,rfl,rfl,by decide +kernel,rfl,by decide +kernel,by decide +kernel⟩
noncomputable def zhS:Scope:={kind:= .function,names:=[(".0", .local),("_law_one", .local),("_law_put", .globalImplicit),("_law_other", .free),("_law_spot", .free)],isGenerator:=false,isCoroutine:=false,more:=[]}
theorem o__law_put_1:CompOk zgO (zg zbB) ["_law_one","_law_other","_law_spot"] [none,some 2,some 1] zhS:=⟨rfl,by decide +kernel,by decide +kernel,by decide +kernel,by decide +kernel,rfl,by decide +kernel⟩
noncomputable abbrev zdR:Stmt:=top 52
noncomputable abbrev zqj:List Str:=["_law_script","_law_k","_law_hand_here","_law_town","_law_turn","_law_way","_law_to","_law_sealed","_law_some","_law_j","_law_other"]
noncomputable abbrev zk3:List Str:=["_law_script"]
theorem c_law:FnScope zqj zk3 (zg zdR):=⟨rfl,rfl,rfl,by decide +kernel,rfl,by decide +kernel,by decide +kernel⟩
noncomputable def zpG:Scope:={kind:= .function,names:=[(".0", .local),("_law_one", .local),("is_right", .globalImplicit),("_law_town", .free)],isGenerator:=false,isCoroutine:=false,more:=[]}
theorem o_law_1:CompOk zqj (zg zdR) ["_law_one","_law_town"] [none,some 3] zpG:=⟨rfl,by decide +kernel,by decide +kernel,by decide +kernel,by decide +kernel,rfl,by decide +kernel⟩
set_option genInjectivity false in
set_option genSizeOfSpec false in
set_option genSizeOf false in
structure Ev(K:PySem.W.Frag)(mg:Str->Option Value) where
 a_is_name:Addr
 d_is_name:FuncData
 is_name:RW.At K mg "is_name" zb3 zcL a_is_name d_is_name
 a_is_number:Addr
 d_is_number:FuncData
 is_number:RW.At K mg "is_number" zbL zcq a_is_number d_is_number
 a_is_row:Addr
 d_is_row:FuncData
 is_row:RW.At K mg "is_row" zdn zcp a_is_row d_is_row
 a_is_rising:Addr
 d_is_rising:FuncData
 is_rising:RW.At K mg "is_rising" zbd zcu a_is_rising d_is_rising
 a_holds:Addr
 d_holds:FuncData
 holds:RW.AtD K mg "holds" zd6 zcD a_holds d_holds
 a_all_hold:Addr
 d_all_hold:FuncData
 all_hold:RW.AtD K mg "all_hold" zb0 zbA a_all_hold d_all_hold
 a_is_house:Addr
 d_is_house:FuncData
 is_house:RW.At K mg "is_house" zb5 zb6 a_is_house d_is_house
 a_likings_of:Addr
 d_likings_of:FuncData
 likings_of:RW.At K mg "likings_of" zbk zbX a_likings_of d_likings_of
 a_hands_of:Addr
 d_hands_of:FuncData
 hands_of:RW.At K mg "hands_of" zcd zcQ a_hands_of d_hands_of
 a_tied:Addr
 d_tied:FuncData
 tied:RW.At K mg "tied" zdI zfo a_tied d_tied
 a_is_way:Addr
 d_is_way:FuncData
 is_way:RW.At K mg "is_way" zco zdZ a_is_way d_is_way
 a_marks_behind:Addr
 d_marks_behind:FuncData
 marks_behind:RW.At K mg "marks_behind" zay zbe a_marks_behind d_marks_behind
 a_handed:Addr
 d_handed:FuncData
 handed:RW.At K mg "handed" zdf zdJ a_handed d_handed
 a_worth:Addr
 d_worth:FuncData
 worth:RW.At K mg "worth" zeg zeN a_worth d_worth
 a_are_names:Addr
 d_are_names:FuncData
 are_names:RW.At K mg "are_names" zbj zck a_are_names d_are_names
 a_is_paper:Addr
 d_is_paper:FuncData
 is_paper:RW.At K mg "is_paper" zb1 zcX a_is_paper d_is_paper
 a_is_sealed:Addr
 d_is_sealed:FuncData
 is_sealed:RW.At K mg "is_sealed" zbi zcj a_is_sealed d_is_sealed
 a_was_handed_so:Addr
 d_was_handed_so:FuncData
 was_handed_so:RW.At K mg "was_handed_so" zaz za0 a_was_handed_so d_was_handed_so
 a_is_right:Addr
 d_is_right:FuncData
 is_right:RW.At K mg "is_right" zba zcM a_is_right d_is_right
 a__law_hand:Addr
 d__law_hand:FuncData
 _law_hand:RW.At K mg "_law_hand" zbI zcl a__law_hand d__law_hand
 a__law_take:Addr
 d__law_take:FuncData
 _law_take:RW.At K mg "_law_take" zbJ zai a__law_take d__law_take
 a__law_pick:Addr
 d__law_pick:FuncData
 _law_pick:RW.At K mg "_law_pick" zbE zan a__law_pick d__law_pick
 a__law_names:Addr
 d__law_names:FuncData
 _law_names:RW.At K mg "_law_names" zaZ zbW a__law_names d__law_names
 a__law_cond:Addr
 d__law_cond:FuncData
 _law_cond:RW.At K mg "_law_cond" zbG zcs a__law_cond d__law_cond
 a__law_conds:Addr
 d__law_conds:FuncData
 _law_conds:RW.At K mg "_law_conds" zaX zbY a__law_conds d__law_conds
 a__law_ties:Addr
 d__law_ties:FuncData
 _law_ties:RW.At K mg "_law_ties" zbN zcr a__law_ties d__law_ties
 a__law_mild_town:Addr
 d__law_mild_town:FuncData
 _law_mild_town:RW.At K mg "_law_mild_town" zae zaN a__law_mild_town d__law_mild_town
 a__law_some_way:Addr
 d__law_some_way:FuncData
 _law_some_way:RW.At K mg "_law_some_way" zab za2 a__law_some_way d__law_some_way
 a__law_cond_holds:Addr
 d__law_cond_holds:FuncData
 _law_cond_holds:RW.At K mg "_law_cond_holds" zaa zZ a__law_cond_holds d__law_cond_holds
 a__law_all_hold:Addr
 d__law_all_hold:FuncData
 _law_all_hold:RW.At K mg "_law_all_hold" zaB zaA a__law_all_hold d__law_all_hold
 a__law_worth:Addr
 d__law_worth:FuncData
 _law_worth:RW.At K mg "_law_worth" zaF zbU a__law_worth d__law_worth
 a__law_handed:Addr
 d__law_handed:FuncData
 _law_handed:RW.At K mg "_law_handed" zau za3 a__law_handed d__law_handed
 a__law_tied:Addr
 d__law_tied:FuncData
 _law_tied:RW.At K mg "_law_tied" zbK zct a__law_tied d__law_tied
 a__law_near:Addr
 d__law_near:FuncData
 _law_near:RW.At K mg "_law_near" zbc zch a__law_near d__law_near
 a__law_papers:Addr
 d__law_papers:FuncData
 _law_papers:RW.At K mg "_law_papers" za4 zbw a__law_papers d__law_papers
 a__law_forms:Addr
 d__law_forms:FuncData
 _law_forms:RW.At K mg "_law_forms" zM zbP a__law_forms d__law_forms
 a__law_any:Addr
 d__law_any:FuncData
 _law_any:RW.At K mg "_law_any" zb4 zcO a__law_any d__law_any
 a__law_size:Addr
 d__law_size:FuncData
 _law_size:RW.At K mg "_law_size" zbb zaQ a__law_size d__law_size
 a__law_put:Addr
 d__law_put:FuncData
 _law_put:RW.At K mg "_law_put" zbB zbh a__law_put d__law_put
 a_law:Addr
 d_law:FuncData
 law:RW.At K mg "law" zdR zk3 a_law d_law
 v_LONGEST:Value
 m_LONGEST:mg "LONGEST"=some v_LONGEST
 r_LONGEST:RelV (.int 8) v_LONGEST
 v_LONGEST_WAY:Value
 m_LONGEST_WAY:mg "LONGEST_WAY"=some v_LONGEST_WAY
 r_LONGEST_WAY:RelV (.int 10) v_LONGEST_WAY
 v_MOST_MARKS:Value
 m_MOST_MARKS:mg "MOST_MARKS"=some v_MOST_MARKS
 r_MOST_MARKS:RelV (.int 90) v_MOST_MARKS
 v_MOST_PAPERS:Value
 m_MOST_PAPERS:mg "MOST_PAPERS"=some v_MOST_PAPERS
 r_MOST_PAPERS:RelV (.int 10) v_MOST_PAPERS
 a_TAKEN:Addr
 m_TAKEN:mg "TAKEN"=some (.ref a_TAKEN)
 t_TAKEN:∀H,SqT K H a_TAKEN [.str "if", .str "and", .str "not", .str "never"]
 isinstance:mg "isinstance"=none
 str:mg "str"=none
 len:mg "len"=none
 all:mg "all"=none
 int:mg "int"=none
 bool:mg "bool"=none
 tuple:mg "tuple"=none
 range:mg "range"=none
 max:mg "max"=none
 min:mg "min"=none
 sorted:mg "sorted"=none
 enumerate:mg "enumerate"=none
 zip:mg "zip"=none
 list:mg "list"=none
 sum:mg "sum"=none
end K72
namespace K72
open PySem PySem.Spec PyProof.Rows L2 RW
local macro_rules | `(tactic|walk_at "cond")=> `(tactic|first|assumption|decide|omega|exact few rfl|exact .inl ⟨by decide,by decide⟩|exact .inr ⟨by decide,by decide⟩|exact .inl ⟨by omega,by omega⟩|exact .inr ⟨by omega,by omega⟩|exact⟨by omega,by omega⟩|exact⟨by assumption,by assumption⟩|exact⟨by decide,by decide,by decide⟩|exact .inr ⟨by split<;>decide,by split<;>decide⟩)
local macro_rules | `(tactic|walk_at "rd")=> `(tactic|first|with_reducible_and_instances refine⟨_,rfl,?_⟩|refine⟨_,rfl,?_⟩|refine⟨_,_,rfl,rfl,?_⟩|refine⟨_,_,_,_,rfl,rfl,SqL.of (by assumption),rfl,?_⟩|refine⟨_,_,_,_,rfl,rfl,(by assumption),rfl,?_⟩|refine .inl ⟨_,rfl,?_⟩|refine .inr ⟨_,rfl,?_⟩|refine .inl ⟨_,_,rfl, .inl (by assumption),?_⟩|refine⟨(by walk_at "cond"),?_⟩)
local macro_rules | `(tactic|walk_at "dsp")=> `(tactic|repeat' (first|exact zaU (by decide)|exact zcE|exact zeu|exact zaS|exact zh7|exact zp|exact ze2|exact dsp_disp rfl|exact zt rfl (by assumption)|refine ze ?_ ?_|refine zE ?_ ?_|refine dsp_lst' ?_|refine n_cons ?_ ?_|exact n_nil|exact v_c|exact v_var rfl|refine v_tup ?_|refine dspl_lst ?_ ?_|refine dspl_cat ?_ ?_ ?_|exact dspl_var rfl (by assumption) (by assumption)|exact Nat.le_of_ble_eq_true rfl))
local macro_rules | `(tactic|walk_at "each")=> `(tactic|repeat' (first|exact forall_nil|refine List.forall_mem_append.mpr ⟨?_,?_⟩|refine List.forall_mem_cons.mpr ⟨?_,?_⟩))
section
variable{P:Program}{w:World}{K:PySem.W.Frag}{mg:Str->Option Value}{base:Heap}
noncomputable def ziG:Sp:=λvs H Q _=>∃v d lo hi,vs=[v, .int lo, .int hi]/\Rep H v d/\∀H',Same H H'->Q (.bl (zaJ d lo hi)) H'
theorem zd7(Y:Ev K mg):FnOk P w K mg base CX0 1 Y.a_is_row Y.d_is_row zcp ziG:=by
 refine Y.is_row.fn.okQ zmR (λvs H Q E h=>?_) (λcdv A outer s H vs Q E hr h=>?_)
 ·obtain ⟨v,d,lo,hi,rfl,_⟩:=h;rfl
 ·obtain ⟨v,d,lo,hi,rfl,hd,q⟩:=h
  have q:=q H (Same.refl H)
  obtain⟨t,ht,h1,h2,h3,h4⟩:=hd.isi (K:=K)
  refine⟨_,(zl (zA (zfP (zx zcR Y.isinstance zaK (zb (qv 0) (zb (zkC Y.tuple zax) zc))) (zeB (zld zle zle (qv 1) (zx zS Y.len zaO (zb (qv 0) zc)) (qv 2)))))),?_⟩
  refine⟨_,rfl,_,_,_,_,rfl,ht,h1,_,rfl,zbx (λe=>?_) (λe=>?_)⟩
  ·cases hd with
   | @tup p vs ds hp l b r=>
     refine⟨_,rfl,_,rfl, .inl ⟨p,vs,rfl, .inr (.inl (.inl hp)),_,_,rfl,rfl,_,rfl,zbx (λe1=>?_) (λe1=>?_)⟩⟩
     ·refine ⟨_,rfl,_,_,rfl,rfl,?_⟩
      have:zaJ (.tup ds) lo hi=decide ((vs.length:Int)<=hi):=by show(decide (lo<=(ds.length:Int))&&decide ((ds.length:Int)<=hi))=_;rw[←l,e1];rfl
      rw[this] at q;exact q
     ·have:zaJ (.tup ds) lo hi=false:=by show(decide (lo<=(ds.length:Int))&&decide ((ds.length:Int)<=hi))=_;rw[←l,tru e1];rfl
      rw[this] at q;exact q
   |_=>cases e
  ·have:zaJ d lo hi=false:=by cases d<;>first|rfl|exact absurd rfl e
   rw[this] at q;exact q
end
section
variable{P:Program}{w:World}{K:PySem.W.Frag}{mg:Str->Option Value}{base:Heap}
theorem zgu(Y:Ev K mg):FnOk P w K mg base CX0 1 Y.a_is_name Y.d_is_name zcL (ziU zW):=by
 refine Y.is_name.fn.okQ zmt (λvs H Q E h=>?_) (λcdv A outer s H vs Q E hr h=>?_)
 ·obtain ⟨v,d,rfl,_⟩:=h;rfl
 ·obtain ⟨v,d,rfl,hd,q⟩:=h
  refine⟨_,(zj (zaq (t_w (zfr (zbt (za7 (zx zcR Y.isinstance zaK (zb (qv 0) (zb (zkC Y.str zrA) zc))))) (zem (zbt (zoz zle zle zh (zx zS Y.len zaO (zb (qv 0) zc)) (zga Y.m_LONGEST Y.r_LONGEST)))))) (zl (zA zbv)) zT)
   (zl (zA (zfP (zx (zbM rfl) Y.all zdK (zb (zaj (src:=[none]) o_is_name_1 rfl rfl (zp4 (qv 0)) (λ_ _ _ _ _=>(zn 0 o_is_name_1.nd)) (λ_ _ _ _ _=>za6) (λ_ _ _ _ _=>(zld zhg zhg zY (qv 0) zY))) zc)) (zeB (zaR zdr (qv 0) (zga (v:= .ref Y.a_TAKEN) Y.m_TAKEN rfl))))))),?_⟩
  obtain⟨t,ht,_,_,_,h4⟩:=hd.isi (K:=K)
  refine⟨_,rfl,_,_,_,_,rfl,ht,h4,_,rfl,?_⟩
  cases hd with
  |str x hx=>
   have hz:x.length<=sizeLine:=Nat.le_of_lt (zm hx)
   refine⟨_,rfl, .inr ⟨x,rfl,hz,_,_,rfl,rfl,_,rfl,?_⟩⟩
   refine zbx (λh1=>?_) (λh1=>?_)
   ·have h1':1<=x.length:=by
     have:=of_decide_eq_true h1
     omega
    refine⟨_,_,rfl,rfl,_,rfl,?_⟩
    cases h8:decide ((x.length:Int)<=8)with
    |false=>
     have e:zi x=false:=by
      have h8':=of_decide_eq_false h8
      have:decide (x.length<=8)=false:=decide_eq_false (by omega)
      unfold zi
      rw[this]
      simp
     have q:=q H (Same.refl H)
     rw[zcN] at q
     rw[e] at q
     exact q
    |true=>
     have h8':x.length<=8:=by
      have:=of_decide_eq_true h8
      omega
     refine⟨_,rfl,x,rfl,?_⟩
     refine zaY znY (λl i ys σ' H'=>(∃o,σ'=[o])/\ys=(x.cps.toList.take i).map (λc=>V.bl (zaW c))/\H'=upd H l (.lst ys)) ?_ (λ_ _ _ _ _ _ _=>trivial) ?_ ?_
     ·exact λl hl=>⟨⟨_,rfl⟩,rfl,rfl⟩
     ·rintro l i y ys σ' H' hl hi ⟨c,hc,rfl⟩ ⟨⟨o,rfl⟩,rfl,rfl⟩ hl'
      repeat walk_at "rd"
      have hc':x.cps.toList[i]?=some c:=by simpa using hc
      have tk:(x.cps.toList.take i).map (λc=>V.bl (zaW c))++ [V.bl (zaW c)]=(x.cps.toList.take (i+1)).map (λc=>V.bl (zaW c)):=by
       rw[List.take_add_one,hc']
       simp
      have ll:((x.cps.toList.take i).map (λc=>V.bl (zaW c))).length<sizeLine:=Nat.lt_of_le_of_lt (by rw[List.length_map,List.length_take];omega) (zm (n:=8) (by decide))
      rw[zss]
      refine zbx (λha=>⟨_,_,rfl,rfl,hl',ll,⟨_,rfl⟩,?_,zlB⟩) (λha=>⟨hl',ll,⟨_,rfl⟩,?_,zlB⟩)
      ·rw[zsu,←tk]
       congr 2
       unfold zaW
       have ha':¬c<97:=by simpa using ha
       by_cases hq:122<c
       ·rw[decide_eq_true hq,decide_eq_false (show¬c<=122 by omega)];simp
       ·rw[decide_eq_false hq,decide_eq_true (show c<=122 by omega),decide_eq_true (show 97<=c by omega)];rfl
      ·rw[←tk]
       congr 2
       unfold zaW
       have ha':c<97:=by simpa using ha
       rw[decide_eq_false (show¬97<=c by omega)];rfl
     ·rintro l ys σ' H' hl ⟨⟨o,rfl⟩,rfl,rfl⟩ hl'
      have tk:(x.cps.toList.take x.length).map (λc=>V.bl (zaW c))=(x.cps.toList.map zaW).map V.bl:=by
       rw[List.take_of_length_le (by simp[Str.length]),List.map_map]
       rfl
      rw[tk] at hl'
      rw[tk]
      refine⟨l,_,rfl,SqL.of hl',_,rfl,?_⟩
      have sm:Same H (upd H l (.lst ((x.cps.toList.map zaW).map V.bl))):=Same.new hl
      have ea:(x.cps.toList.map zaW).all id=x.cps.toList.all zaW:=by rw[List.all_map];rfl
      rw[ea]
      refine zbx (λhA=>?_) (λhA=>?_)
      ·refine ⟨_,rfl,Y.a_TAKEN,_,rfl, .inr (Y.t_TAKEN _),rfl,rfl,?_⟩
       have e:zi x=!inV (.str x) (takenL.map V.str):=by
        unfold zi inV
        rw[hA,decide_eq_true h1',decide_eq_true h8',List.any_map]
        simp only[Bool.true_and]
        congr 2
       have q:=q _ sm
       rw[zcN] at q
       rw[e] at q
       exact q
      ·have e:zi x=false:=by
        unfold zi
        have:x.cps.toList.all zaW=false:=by simpa using hA
        rw[this]
        simp
       have q:=q _ sm
       rw[zcN] at q
       rw[e] at q
       exact q
   ·have e:zi x=false:=by
     have h1':¬(1:Int)<=(x.length:Int):=λz=>h1 (decide_eq_true z)
     have:decide (1<=x.length)=false:=decide_eq_false (by omega)
     unfold zi
     rw[this]
     simp
    have q:=q H (Same.refl H)
    rw[zcN] at q
    rw[e] at q
    exact⟨_,rfl,q⟩
  |_=>exact q H (Same.refl H)
end
section
variable{P:Program}{w:World}{K:PySem.W.Frag}{mg:Str->Option Value}{base:Heap}
theorem zh9(Y:Ev K mg):FnOk P w K mg base CX0 1 Y.a_is_number Y.d_is_number zcq (ziU zca):=by
 refine Y.is_number.fn.okQ ziN (λvs H Q E h=>?_) (λcdv A outer s H vs Q E hr h=>?_)
 ·obtain ⟨v,d,rfl,_⟩:=h;rfl
 ·obtain ⟨v,d,rfl,hd,q⟩:=h
  obtain⟨t,ht,h1,h2,h3,h4⟩:=hd.isi (K:=K)
  have q:=q H (Same.refl H)
  refine⟨_,(zl (zA (zfP (zx zcR Y.isinstance zaK (zb (qv 0) (zb (zkC Y.int zev) zc))) (zeB (znD (zx zcR Y.isinstance zaK (zb (qv 0) (zb (zkC Y.bool zoZ) zc)))))))),?_⟩
  refine⟨_,rfl,_,_,_,_,rfl,ht,h2,_,rfl,?_⟩
  refine zbx (λe=>?_) (λe=>?_)
  ·refine ⟨_,rfl,_,_,_,_,rfl,ht,h3,_,rfl,?_⟩
   cases d<;>first|exact q|cases e
  ·cases d<;>first|exact q|exact absurd rfl e
end
section
variable{P:Program}{w:World}{K:PySem.W.Frag}{mg:Str->Option Value}{base:Heap}
noncomputable def zhX:Sp:=λvs H Q _=>∃u v d hs,vs=[u,v]/\HsAt H u hs/\Rep H v d/\∀H',Same H H'->Q (.bl (zC hs d)) H'
theorem zfz(Y:Ev K mg):FnOk P w K mg base CX0 2 Y.a_is_house Y.d_is_house zb6 zhX:=by
 have G_is_name:FnOk P w K mg base CX0 1 Y.a_is_name Y.d_is_name zcL (ziU zW):=zgu Y
 refine Y.is_house.fn.okQ zkf (λvs H Q E h=>?_) (λcdv A outer s H vs Q E hr h=>?_)
 ·obtain ⟨u,v,d,hs,rfl,_⟩:=h;rfl
 ·obtain ⟨u,v,d,hs,rfl,⟨p,rfl,hp,hl,hn⟩,hd,q⟩:=h
  refine⟨_,(zl (zA (zfP (zk G_is_name (hr.mono (by decide)) Y.is_name.mg Y.is_name.kp Y.is_name.b .nil zr (zb (qv 1) zc)) (zeB (zaR zd5 (qv 1) (qv 0)))))),?_⟩
  refine⟨_,rfl,v,d,rfl,hd,λH1 s1=>⟨_,rfl,zbx (λe=>?_) (λe=>?_)⟩⟩
  ·cases d with
   |str x=>
    cases hd
    refine⟨_,rfl,_,rfl,p,_,rfl, .inr (.inl (.inl (s1 _ _ hp))),rfl,zcH,?_⟩
    have q:=q H1 s1
    have ea:zC hs (.str x)=inV (.str x) (hs.map V.str):=by
     show(zi x&&hs.any λy=>decide (y=x))=_
     rw[zd9,show zi x=true from e];rfl
    rw[ea] at q
    exact q
   |_=>cases e
  ·have q:=q H1 s1
   have ea:zC hs d=false:=by
    show(zW d&&inD hs d)=false
    rw[tru e];rfl
   rw[ea] at q
   exact q
end
section
variable{P:Program}{w:World}{K:PySem.W.Frag}{mg:Str->Option Value}{base:Heap}
noncomputable def zkN:Sp:=λvs H Q _=>∃(v:V) (x:Str) (g:Str) (hs:List Str) (ps:List (Str×Str)) (lks hds:List D),vs=[v, .str x]/\Rep H v (zcn g hs ps lks hds)/\TownOk g hs ps lks hds/\∀(l:Addr) (ts:List Str) (H':Hp),H l=none->H' l=some (.lst (ts.map V.str))->ts.Perm (zaD ps x)->sortedS ts=true->Same H H'->Q (.ref l) H'
theorem zlf(Y:Ev K mg):FnOk P w K mg base CX0 1 Y.a_tied Y.d_tied zfo zkN:=by
 refine Y.tied.fn.okQ c_tied (λvs H Q E h=>?_) (λcdv A outer s H vs Q E hr h=>?_)
 ·obtain ⟨v,x,g,hs,ps,lks,hds,rfl,_⟩:=h;rfl
 ·obtain ⟨v,x,g,hs,ps,lks,hds,rfl,hv,T,q⟩:=h
  obtain⟨p,pr,pt,pl,pa,vt,vl,va,rfl,hp,hpr,hpt,rt,hpl,rl,hpa,ra⟩:=zcg hv
  have TP:=T.lp
  refine⟨_,(zj (zL 2 c_tied.nd (zF ix_tup (qv 0) zh))
   (zl (zA (zx zcG Y.sorted zcJ (zb (zN zbV (zaj (src:=[none,none,some 1]) o_tied_1 rfl rfl (zaP (qv 2)) (λ_ _ _ _ _=>(zfl (K:=K) 2 rfl rfl (zz (zn 0 o_tied_1.nd) (zz (zn 1 o_tied_1.nd) zaT)))) (λ_ _ _ _ _=>(zc9 (zJ zas (qv 1) (qc 2)))) (λ_ _ _ _ _=>(qv 0))) (zaj (src:=[none,none,some 1]) o_tied_2 rfl rfl (zaP (qv 2)) (λ_ _ _ _ _=>(zfl (K:=K) 2 rfl rfl (zz (zn 0 o_tied_2.nd) (zz (zn 1 o_tied_2.nd) zaT)))) (λ_ _ _ _ _=>(zc9 (zJ zas (qv 0) (qc 2)))) (λ_ _ _ _ _=>(qv 1)))) zc))))),?_⟩
  refine⟨_,rfl,p,_,2,_,rfl,rfl, .inl (.inl hp),zG (j:=2) rfl,?_⟩
  refine⟨_,rfl,pt,rfl,⟨_, .inl (.inl hpt)⟩,?_⟩
  refine zeE (ps:=ps) (sel:=λp=>decide (p.2=x)) (f:=(·.1)) (λσ'=>∃o1 o2,σ'=[o1,o2,some (.str x)]) (zaG (K:=K)) (λH' s'=> .inl (.inl (s' _ _ hpt))) rt (by omega) ⟨_,_,rfl⟩ ?_ λl1 H1 s1 hl1 e1=>?_
  ·rintro q p σ' H1 A B ⟨o1,o2,rfl⟩ s1 hq hp1 k
   refine⟨q,_,rfl, .inl (.inl hq),rfl,_,_,rfl,_,_,rfl,rfl,_,rfl,_,rfl,rfl,_,rfl,?_⟩
   have k:=k [some (.str p.1),some (.str p.2),some (.str x)] ⟨_,_,rfl⟩
   rw[zag]
   cases e:decide (p.2=x)with
   |false=>rw[e] at k;exact k
   |true=>rw[e] at k;exact⟨_,rfl,k⟩
  refine⟨_,rfl,pt,rfl,⟨_, .inl (.inl (s1 _ _ hpt))⟩,?_⟩
  refine zeE (ps:=ps) (sel:=λp=>decide (p.1=x)) (f:=(·.2)) (λσ'=>∃o1 o2,σ'=[o1,o2,some (.str x)]) (zaG (K:=K)) (λH' s'=> .inl (.inl (s' _ _ (s1 _ _ hpt)))) (rt.mono (.of s1)) (by omega) ⟨_,_,rfl⟩ ?_ λl2 H2 s2 hl2 e2=>?_
  ·rintro q p σ' H1 A B ⟨o1,o2,rfl⟩ s1 hq hp1 k
   refine⟨q,_,rfl, .inl (.inl hq),rfl,_,_,rfl,_,_,rfl,rfl,_,rfl,_,rfl,rfl,_,rfl,?_⟩
   have k:=k [some (.str p.1),some (.str p.2),some (.str x)] ⟨_,_,rfl⟩
   rw[zag]
   cases e:decide (p.1=x)with
   |false=>rw[e] at k;exact k
   |true=>rw[e] at k;exact⟨_,rfl,k⟩
  have nl:=zm8 T x
  have nl':((ps.filter λp=>decide (p.2=x)).map (·.1)).length+((ps.filter λp=>decide (p.1=x)).map (·.2)).length<=10:=by rw[←List.length_append];exact nl
  refine⟨l1,l2,_,_,rfl,rfl,s2 _ _ e1,e2,Nat.le_of_lt (zm (by simp only[List.length_map] at nl'⊢;omega)),λl3 hl3=>?_⟩
  rw[←List.map_append]
  have S3:=Same.new (o:= .lst ((zaD ps x).map V.str)) hl3
  refine⟨l3,zaD ps x,rfl, .inl (SqL.of zd),by omega,λts l4 hp4 hs4 hl4=>q l4 ts _ ?_ zd hp4 hs4 (((s1.trans s2).trans S3).trans (Same.new hl4))⟩
  exact zcF ((s1.trans s2).trans S3) hl4
end
section
variable{P:Program}{w:World}{K:PySem.W.Frag}{mg:Str->Option Value}{base:Heap}
noncomputable def zlL:Sp:=λvs H Q _=>∃(l:Addr) (ws:List Str),vs=[.ref l]/\H l=some (.lst (ws.map V.str))/\ws.length<=64/\∀H',Same H H'->Q (.bl (zcf (ws.map D.str))) H'
theorem zi3(Y:Ev K mg):FnOk P w K mg base CX0 1 Y.a_is_rising Y.d_is_rising zcu zlL:=by
 refine Y.is_rising.fn.okQ ziK (λvs H Q E h=>?_) (λcdv A outer s H vs Q E hr h=>?_)
 ·obtain ⟨v,ds,rfl,_⟩:=h;rfl
 ·obtain ⟨p,ws,rfl,hp,hl,q⟩:=h
  refine⟨_,(zl (zA (zx (zbM rfl) Y.all zdK (zb (zaj (src:=[none,some 0]) o_is_rising_1 rfl rfl (zb7 Y.range (zb (zN zex (zx zS Y.len zaO (zb (qc 0) zc)) zh) zc)) (λ_ _ _ _ _=>(zn 0 o_is_rising_1.nd)) (λ_ _ _ _ _=>za6) (λ_ _ _ _ _=>(zaR (zrt hr.units0) (zF (zlD (K:=K) rfl) (qc 1) (qv 0)) (zF (zlD (K:=K) rfl) (qc 1) (zN zaI (qv 0) zh))))) zc)))),?_⟩
  refine⟨_,rfl, .inl ⟨p,_,rfl, .inl (SqL.of hp),_,_,rfl,rfl,_,rfl,?_,?_,?_⟩⟩
  ·rw[List.length_map];omega
  ·rw[List.length_map];omega
  have e:(((ws.map V.str).length:Int) -1).toNat=ws.length -1:=by rw[List.length_map];omega
  rw[e]
  refine zaY zcv (λl i ys σ' H'=>(∃o,σ'=[o,some (.ref p)])/\ys=((List.range i).map λk=>ltD ((ws.map D.str).getD k .non) ((ws.map D.str).getD (k+1) .non)).map V.bl/\Same H H') ?_ (λ_ _ _ _ _ _ _=>trivial) ?_ ?_
  ·exact λl hl=>⟨⟨_,rfl⟩,rfl,Same.new hl⟩
  ·rintro l i y ys σ' H1 hl' hi rfl ⟨⟨o,rfl⟩,rfl,s1⟩ hl1
   have hi0:i<ws.length:=by omega
   have hi1:i+1<ws.length:=by omega
   have hp1:=s1 _ _ hp
   have e0:atI (ws.map V.str) (0+(i:Int))=some (.str ws[i]):=by rw[Int.zero_add];exact zG (by simp[hi0])
   have e1:atI (ws.map V.str) (0+(i:Int)+1)=some (.str ws[i+1]):=by rw[Int.zero_add];exact zG (j:=i+1) (by simp[hi1])
   have g0:(ws.map D.str).getD i .non= .str ws[i]:=by simp[List.getD,hi0]
   have g1:(ws.map D.str).getD (i+1) .non= .str ws[i+1]:=by simp[List.getD,hi1]
   refine⟨_,rfl,_,rfl, .inl ⟨p,_,_,_,rfl,rfl,SqL.of hp1,e0,_,rfl,_,rfl,_,_,rfl,rfl, .inl ⟨p,_,_,_,rfl,rfl,SqL.of hp1,e1, .inl ⟨_,_,rfl,rfl,?_⟩⟩⟩⟩
   refine⟨hl1,?_,⟨_,rfl⟩,?_,?_⟩
   ·rw[List.length_map,List.length_map,List.length_range]
    exact zm (by omega)
   ·rw[List.range_succ,List.map_append,List.map_append,List.map_cons,g0,g1];rfl
   ·exact λc o e=>by
     rw[zq (zy e hl')]
     exact s1 _ _ e
  ·rintro l ys σ' H1 hl' ⟨⟨o,rfl⟩,rfl,s1⟩ hl1
   refine⟨l,_,rfl,SqL.of hl1,?_⟩
   have q:=q H1 s1
   unfold zcf at q
   rw[List.length_map] at q
   rw[zb2]
   exact q
noncomputable def zp2:Sp:=λvs H Q _=>∃(u v:V) (d:D) (g:Str) (hs:List Str) (ps:List (Str×Str)) (lks hds:List D),vs=[u,v]/\Rep H u (zcn g hs ps lks hds)/\TownOk g hs ps lks hds/\Rep H v d/\∀H',Same H H'->Q (.bl (zaV g hs ps d)) H'
theorem zl3(Y:Ev K mg):FnOk P w K mg base CX0 3 Y.a_is_way Y.d_is_way zdZ zp2:=by
 have G_is_row:FnOk P w K mg base CX0 1 Y.a_is_row Y.d_is_row zcp ziG:=zd7 Y
 have G_is_house:FnOk P w K mg base CX0 2 Y.a_is_house Y.d_is_house zb6 zhX:=zfz Y
 have G_is_rising:FnOk P w K mg base CX0 1 Y.a_is_rising Y.d_is_rising zcu zlL:=zi3 Y
 have G_tied:FnOk P w K mg base CX0 1 Y.a_tied Y.d_tied zfo zkN:=zlf Y
 refine Y.is_way.fn.okQ c_is_way (λvs H Q E h=>?_) (λcdv A outer s H vs Q E hr h=>?_)
 ·obtain ⟨u,v,d,g,hs,ps,lks,hds,rfl,_⟩:=h;rfl
 ·obtain ⟨u,v,d,g,hs,ps,lks,hds,rfl,hv,T,hd,q⟩:=h
  obtain⟨p,pr,pt,pl,pa,vt,vl,va,rfl,hp,hpr,hpt,rt,hpl,rl,hpa,ra⟩:=zcg hv
  have T10:=T.ten
  refine⟨_,(zj (zdc (zgM zdy (qc 0) zc5 (zcy zh)) (zc1 2 rfl (zz (zn 2 c_is_way.nd) (zz (zbO 3 c_is_way.nd) zaT))))
   (zj (zaq (t_w (zfr (zbt (za7 (zk G_is_row (hr.mono (by decide)) Y.is_row.mg Y.is_row.kp Y.is_row.b .nil zr (zb (qc 1) (zb zh (zb (zx zS Y.len zaO (zb (qc 3) zc)) zc)))))) (zem (zbt (za7 (zx (zbM rfl) Y.all zdK (zb (zaj (src:=[none,some 3]) o_is_way_1 rfl rfl (zaP (qc 1)) (λ_ _ _ _ _=>(zn 0 o_is_way_1.nd)) (λ_ _ _ _ _=>za6) (λ_ _ _ _ _=>(zk G_is_house (hr.mono (by decide)) Y.is_house.mg Y.is_house.kp Y.is_house.b .nil zr (zb (qc 1) (zb (qv 0) zc))))) zc))))))) (zl (zA zbv)) zT)
   (zj (zaq (t_w (zfr (zJ zho (zF ix_tup (qc 1) (zgf zcT zh)) (qv 2)) (zem (zbt (za7 (zk G_is_rising (hr.mono (by decide)) Y.is_rising.mg Y.is_rising.kp Y.is_rising.b .nil zr (zb (zx zcG Y.sorted zcJ (zb (qc 1) zc)) zc))))))) (zl (zA zbv)) zT)
   (zl (zA (zx (zbM rfl) Y.all zdK (zb (zaj (src:=[none,some 1,some 0]) o_is_way_2 rfl rfl (zb7 Y.range (zb (zN zex (zx zS Y.len zaO (zb (qc 1) zc)) zh) zc)) (λ_ _ _ _ _=>(zn 0 o_is_way_2.nd)) (λ_ _ _ _ _=>za6) (λ_ _ _ _ _=>(zaR (zke (K:=K) rfl) (zF (zaL (K:=K) rfl) (qc 1) (zN zaI (qv 0) zh)) (zk G_tied (hr.mono (by decide)) Y.tied.mg Y.tied.kp Y.tied.b .nil zr (zb (qc 2) (zb (zF (zaL (K:=K) rfl) (qc 1) (qv 0)) zc)))))) zc))))))),?_⟩
  refine⟨_,rfl,2,rfl,p,_,rfl, .inl (.inl hp),λz=>?_,λp2 hp2=>?_⟩
  ·have:=congrArg List.length z
   cases this
  have S2:=Same.new (o:= .tup [.str g, .ref pr]) hp2
  refine⟨p2,[.str g, .ref pr],rfl, .inl (.inl zd),rfl,_,_,rfl,_,_,rfl,rfl,?_⟩
  show zh2 _ _ _ _ (upd H p2 (.tup [.str g, .ref pr]))
  have hv2:=hv.same S2
  have hpr2:=S2 _ _ hpr
  have hd2:=hd.same S2
  generalize (upd H p2 (HO.tup [.str g, .ref pr]))=H2 at *
  refine⟨_,rfl,_,rfl, .inl ⟨pr,_,rfl, .inr (.inl (.inl hpr2)),v,d,1,_,rfl,hd2,λH3 s3=>⟨_,rfl,?_⟩⟩⟩
  rw[List.length_map]
  cases hrow:zaJ d 1 hs.length with
  |false=>
   have q:=q H3 (S2.trans s3)
   rw[zoR hrow] at q
   exact q
  |true=>
   refine zao rfl ?_
   obtain⟨ds,rfl,n1,nh⟩:=zmX hrow
   have hd3:=hd2.same s3
   obtain⟨pv,us,rfl,hpv,ru,_⟩:=hd3.ofT
   have hpr3:=s3 _ _ hpr2
   have HsA:HsAt H3 (.ref pr) hs:=⟨pr,rfl,hpr3,T10,T.names⟩
   refine⟨_,rfl,pv,rfl,⟨_, .inl (.inl hpv)⟩,?_⟩
   refine zdu (g:=zC hs) (σr:=[some (.ref pr)]) (zaG (K:=K)) (λH' s=> .inl (.inl (s _ _ hpv))) ru (by omega) rfl (λx d HA Q1 sA rx hd q1=>⟨_,rfl,_,rfl,_,x,d,hs,rfl,HsA.same sA,rx,q1⟩) (λl4 H4 s4 _ hl4=>?_)
   refine⟨l4,_,rfl,SqL.of hl4,_,rfl,?_⟩
   rw[zb2]
   cases hall:ds.all (zC hs)with
   |false=>
    have q:=q H4 ((S2.trans s3).trans s4)
    rw[zlj (show allB (zC hs) (.tup ds)=false from hall)] at q
    exact q
   |true=>
    refine zao rfl ?_
    obtain⟨ws,rfl,hw⟩:=zdX hall
    obtain⟨p',e',hpw⟩:=zbs hd3
    cases e'
    rw[List.length_map] at n1 nh
    obtain⟨w0,z,rfl⟩:∃w0 z,ws=w0 ++ [z]:=⟨ws.dropLast,ws.getLast (λz=>by rw[z] at n1;simp at n1),(List.dropLast_concat_getLast _).symm⟩
    have hpw4:=s4 _ _ hpw
    have hat:atI ((w0 ++ [z]).map V.str) (-1)=some (.str z):=by rw[List.map_append];exact zjo _ _
    have weq:=zqR (g:=g) (ps:=ps) hrow hall
    dsimp only[zaM]
    refine⟨_,rfl,1,rfl,pv,_,-1,_,rfl,rfl, .inl (.inl hpw4),hat,_,rfl,rfl,_,rfl,?_⟩
    rw[zag]
    cases hz:decide (z=g)with
    |false=>
     have q:=q H4 ((S2.trans s3).trans s4)
     rw[weq,hz] at q
     exact q
    |true=>
     refine zao rfl ?_
     refine⟨_,rfl,pv,w0 ++ [z],rfl, .inr (.inl (.inl hpw4)),by omega,λss l5 hp5 hs5 hl5=>?_⟩
     have S5:=Same.new (o:= .lst (ss.map V.str)) hl5
     refine⟨l5,ss,rfl,zd,by rw[hp5.length_eq];omega,λH6 s6=>⟨_,rfl,?_⟩⟩
     rw[zkc hp5 hs5]
     have S6:=S5.trans s6
     have sAll:=((S2.trans s3).trans s4).trans S6
     cases hnd:decide (w0 ++ [z]).Nodup with
     |false=>
      have q:=q H6 sAll
      rw[weq,hz,hnd] at q
      exact q
     |true=>
      refine zao rfl ?_
      have hpw6:=S6 _ _ hpw4
      have hv6:=hv2.same ((s3.trans s4).trans S6)
      refine⟨_,rfl, .inl ⟨pv,_,rfl, .inr (.inl (.inl hpw6)),_,_,rfl,rfl,_,rfl,?_,?_,?_⟩⟩
      ·rw[List.length_map];omega
      ·rw[List.length_map];omega
      have e:((((w0 ++ [z]).map V.str).length:Int) -1).toNat=(w0 ++ [z]).length -1:=by rw[List.length_map];omega
      rw[e]
      refine zaY zcv (λl i ys σ' H'=>(∃o,σ'=[o,some (.ref pv),some (.ref p)])/\ys=((List.range i).map λk=>decide ((w0 ++ [z]).getD (k+1) ""∈zaD ps ((w0 ++ [z]).getD k ""))).map V.bl/\Same H6 H') ?_ (λ_ _ _ _ _ _ _=>trivial) ?_ ?_
      ·exact λl hl=>⟨⟨_,rfl⟩,rfl,Same.new hl⟩
      ·rintro l i y ys σ' H7 hl' hi rfl ⟨⟨o,rfl⟩,rfl,s7⟩ hl7
       have hi0:i<(w0 ++ [z]).length:=by omega
       have hi1:i+1<(w0 ++ [z]).length:=by omega
       have e0:atI ((w0 ++ [z]).map V.str) (0+(i:Int))=some (.str (w0 ++ [z])[i]):=by rw[Int.zero_add];exact zG (by simp only[List.getElem?_map,List.getElem?_eq_getElem hi0];rfl)
       have e1:atI ((w0 ++ [z]).map V.str) (0+(i:Int)+1)=some (.str (w0 ++ [z])[i+1]):=by rw[Int.zero_add];exact zG (j:=i+1) (by simp only[List.getElem?_map,List.getElem?_eq_getElem hi1];rfl)
       have g0:(w0 ++ [z]).getD i ""=(w0 ++ [z])[i]:=by simp only[List.getD,List.getElem?_eq_getElem hi0,Option.getD_some]
       have g1:(w0 ++ [z]).getD (i+1) ""=(w0 ++ [z])[i+1]:=by simp only[List.getD,List.getElem?_eq_getElem hi1,Option.getD_some]
       have hpw7:=s7 _ _ hpw6
       refine⟨_,rfl,_,rfl,_,_,rfl,rfl,pv,_,_,_,rfl,rfl, .inl (.inl hpw7),e1,_,rfl,_,rfl,_,rfl,pv,_,_,_,rfl,rfl, .inl (.inl hpw7),e0,_,_,g,hs,ps,lks,hds,rfl,hv6.same s7,T,λl8 ts H8 hl8 e8 hp8 hs8 s8=>?_⟩
       refine⟨l8,_,rfl, .inl (SqL.of e8),rfl,zcH,?_⟩
       refine⟨s8 _ _ hl7,?_,⟨_,rfl⟩,?_,?_⟩
       ·rw[List.length_map,List.length_map,List.length_range]
        exact zm (by omega)
       ·rw[List.range_succ,List.map_append,List.map_append,List.map_cons,g0,g1]
        have hin:(if false=true then !inV (V.str (w0 ++ [z])[i+1]) (ts.map V.str)else inV (V.str (w0 ++ [z])[i+1]) (ts.map V.str))=decide ((w0 ++ [z])[i+1]∈zaD ps (w0 ++ [z])[i]):=by
         rw[if_neg (by decide),zd9,Bool.eq_iff_iff,decide_eq_true_iff,←hp8.mem_iff,List.any_eq_true]
         exact⟨λ⟨y,hy,e⟩=>by rw[←of_decide_eq_true e];exact hy,λh=>⟨_,h,decide_eq_true rfl⟩⟩
        rw[hin];rfl
       ·exact λc o e=>by
         rw[zq (zy e hl')]
         exact s8 _ _ (s7 _ _ e)
      ·rintro l ys σ' H7 hl' ⟨⟨o,rfl⟩,rfl,s7⟩ hl7
       refine⟨l,_,rfl,SqL.of hl7,?_⟩
       have q:=q H7 (sAll.trans s7)
       rw[weq,hz,hnd] at q
       rw[zb2]
       exact q
end
section
variable{P:Program}{w:World}{K:PySem.W.Frag}{mg:Str->Option Value}{base:Heap}
noncomputable def zdC:Sp:=λvs H Q _=>∃(a:Addr) (k n:Int),vs=[.ref a, .int k]/\Hand H a n/\n<2^40/\0<k/\k<1073741824/\∀d H',0<=d->d<k->Hand H' a (n+1)->Keep a H H'->Q (.int d) H'
theorem zcY(Y:Ev K mg):FnOk P w K mg base CX0 1 Y.a__law_take Y.d__law_take zai zdC:=by
 refine Y._law_take.fn.okQ c__law_take (λvs H Q E h=>?_) (λcdv A outer s H vs Q E hr h=>?_)
 ·obtain ⟨a,k,n,rfl,_⟩:=h
  rfl
 ·obtain ⟨a,k,n,rfl,⟨x,m,t,hH,m0,m1,t0,t1⟩,hn,k0,k1,q⟩:=h
  refine⟨_,(zj (zaq (zJ ze4 (zF ix_list (qv 0) zh) zh) (zj (zL 2 c__law_take.nd (zN zdB (zF ix_list (qv 0) zh) (qv 1)))
   (zj (zdc (zN zhQ (zF ix_list (qv 0) zh) (qv 1)) (zkR (qv 0) zh ze0))
   (zl (zA (qv 2))))) zT)
   (zj (zdc (zN zaI (zF ix_list (qv 0) zh) zh) (zkR (qv 0) zh ze0))
   (zj (zL 3 c__law_take.nd (zF ix_list (qv 0) zh))
   (zj (zL 4 c__law_take.nd (zN zdB (zN zcP (zF ix_list (qv 0) zh) (zN zaI (zN zaI zh (zN zcP (zN zcP zh (qv 3)) (qv 3))) (zN zcP zh (qv 3)))) zh))
   (zj (zL 5 c__law_take.nd (zN zaI (zN zaI (zN zdB (qv 4) zh) (zN zcP (qv 3) zh)) zh))
   (zj (zL 4 c__law_take.nd (zN zdB (zN zcP (qv 4) (qv 5)) zh))
   (zl (zA (zN zdB (zN zaI (zN zhQ (qv 4) zh) (zN zhQ (qv 4) zh)) (qv 1)))))))))),?_⟩
  repeat walk_at "rd"
  refine zbx (λhx=>?_) (λhx=>?_)
  ·repeat walk_at "rd"
   exact q _ _ (Int.emod_nonneg _ (by omega)) (Int.emod_lt_of_pos _ k0) ⟨_,m,t,zd,m0,m1,t0,by omega⟩ (Keep.upd _ _ _)
  ·refine ⟨_,rfl,a,_,_,_,rfl,rfl,SqL.of hH,rfl,_,_,rfl,rfl,_,rfl,a,_,_,_,rfl,rfl,hH,rfl,?_⟩
   have h2:upd H a (.lst [.int x, .int m, .int (t+1)]) a=some (.lst [.int x, .int m, .int (t+1)]):=zd
   repeat walk_at "rd"
   exact q _ _ (Int.emod_nonneg _ (by omega)) (Int.emod_lt_of_pos _ k0) ⟨_,m,_,zd,m0,m1,by omega,by omega⟩ (Keep.upd _ _ _)
noncomputable def zcA(K:PySem.W.Frag):Sp:=λvs H Q _=>∃(a:Addr) (n:Int),Hand H a n/\n<2^40/\
 ((∃(b:Addr) (xs:List V),vs=[.ref a, .ref b]/\b≠a/\SqL K H b xs/\0<xs.length/\xs.length<1000/\∀v H',v∈xs->Hand H' a (n+1)->Keep a H H'->Q v H')\/
  (∃z:Str,vs=[.ref a, .str z]/\0<z.length/\z.length<1000/\∀c H',c∈z.cps.toList->Hand H' a (n+1)->Keep a H H'->Q (.str (one c)) H'))
theorem zdx(Y:Ev K mg):FnOk P w K mg base CX0 2 Y.a__law_pick Y.d__law_pick zan (zcA K):=by
 have G__law_take:FnOk P w K mg base CX0 1 Y.a__law_take Y.d__law_take zai zdC:=zcY Y
 refine Y._law_pick.fn.okQ zjF (λvs H Q E h=>?_) (λcdv A outer s H vs Q E hr h=>?_)
 ·obtain ⟨a,n,_,_,⟨b,xs,rfl,_⟩|⟨z,rfl,_⟩⟩:=h<;>rfl
 ·obtain ⟨a,n,hH,hn,h⟩:=h
  have hl:∀m:Nat,m<1000->m<=sizeLine:=λm h=>Nat.le_of_lt (zm (Nat.le_of_lt h))
  rcases h with⟨b,xs,rfl,hb,hS,x0,x1,q⟩|⟨z,rfl,z0,z1,q⟩
  ·refine ⟨_,(zl (zA (zF zkk (qv 1) (zk G__law_take (hr.mono (by decide)) Y._law_take.mg Y._law_take.kp Y._law_take.b .nil zr (zb (qv 0) (zb (zx zS Y.len zaO (zb (qv 1) zc)) zc)))))),?_⟩
   refine⟨_,rfl,_,rfl,_,rfl, .inl ⟨b,xs,rfl, .inl hS,a,_,n,rfl,hH,hn,by omega,by omega,λd H' h0 h1 hH' kp=>?_⟩⟩
   obtain⟨v,e,hv⟩:=zeU h0 h1
   exact .inl ⟨b,xs,d,v,rfl,rfl,kp.sqL hb hS,e,q v H' hv hH' kp⟩
  ·refine ⟨_,(zl (zA (zF zkk (qv 1) (zk G__law_take (hr.mono (by decide)) Y._law_take.mg Y._law_take.kp Y._law_take.b .nil zr (zb (qv 0) (zb (zx zS Y.len zaO (zb (qv 1) zc)) zc)))))),?_⟩
   refine⟨_,rfl,_,rfl,_,rfl, .inr ⟨z,rfl,hl _ z1,a,_,n,rfl,hH,hn,by omega,by omega,λd H' h0 h1 hH' kp=>?_⟩⟩
   obtain⟨c,e,hc⟩:=zeU (xs:=z.cps.toList) h0 (by simpa[Str.length] using h1)
   exact .inr (.inr ⟨z,d,c,rfl,rfl,hl _ z1,e,q c H' hc hH' kp⟩)
noncomputable def zom(K:PySem.W.Frag):Sp:=λvs H Q _=>∃(b:Addr) (ns:List Int) (k:Int),vs=[.ref b, .int k]/\SqL K H b (ns.map V.int)/\0<=k/\k<1000/\∀a H',H a=none->Hand H' a 0->Same H H'->Q (.ref a) H'
theorem zoC(Y:Ev K mg):FnOk P w K mg base CX0 1 Y.a__law_hand Y.d__law_hand zcl (zom K):=by
 refine Y._law_hand.fn.okQ c__law_hand (λvs H Q E h=>?_) (λcdv A outer s H vs Q E hr h=>?_)
 ·obtain ⟨a,k,n,rfl,_⟩:=h
  rfl
 ·obtain ⟨b,ns,k,rfl,hS,k0,k1,q⟩:=h
  refine⟨_,(zj (zL 2 c__law_hand.nd zh)
   (zj (zaq (zJ zov (qv 1) (zx zS Y.len zaO (zb (qv 0) zc))) (zl (zL 2 c__law_hand.nd (zF ix_list (qv 0) (qv 1)))) zT)
   (zl (zA (za1 (zb (zN zcP (qv 2) (zX zda Y.int zev (zb (zaR zp5 (qv 2) (zN zn4 zh zh)) zc))) (zb (zN zaI (zN zaI (zN zdB (qv 2) zh) (zN zcP zh (qv 1))) zh) (zb zh zc)))))))),?_⟩
  refine⟨_,rfl,_,rfl, .inl ⟨b,_,rfl, .inl hS,_,_,rfl,rfl,_,rfl,?_⟩⟩
  refine zbx (λhx=>?_) (λhx=>?_)
  ·have hx':k<((ns.map V.int).length:Int):=of_decide_eq_true hx
   obtain⟨v,e,hv⟩:=zeU k0 hx'
   obtain⟨c,_,rfl⟩:=List.mem_map.mp hv
   refine⟨_,rfl,_,rfl,b,_,k,_,rfl,rfl,hS,e,?_⟩
   repeat walk_at "rd"
   intro p hp
   exact q p _ hp ⟨_,_,_,zd,by omega,by omega,by decide,by decide⟩ (λb' o hb'=>by rw[zq (zy hb' hp)];exact hb')
  ·repeat walk_at "rd"
   intro p hp
   exact q p _ hp ⟨_,_,_,zd,by omega,by omega,by decide,by decide⟩ (λb' o hb'=>by rw[zq (zy hb' hp)];exact hb')
end
section
variable{P:Program}{w:World}{K:PySem.W.Frag}{mg:Str->Option Value}{base:Heap}
noncomputable def zi0:Sp:=λvs H Q _=>∃(a:Addr) (n:Int) (m:Nat),vs=[.ref a, .int m]/\Hand H a n/\n<2^39/\4<=m/\m<=13/\∀(l:Addr) (xs:List Str) (H':Hp),H l=none->H' l=some (.lst (xs.map V.str))->xs.length=m->(∀x∈xs,zi x=true)->xs.Nodup->(∀x∈xs,x≠"nowhere")->Hand H' a (n+4)->Keep a H H'->Q (.ref l) H'
theorem zlU(Y:Ev K mg):FnOk P w K mg base CX0 3 Y.a__law_names Y.d__law_names zbW zi0:=by
 have G__law_take:FnOk P w K mg base CX0 1 Y.a__law_take Y.d__law_take zai zdC:=zcY Y
 have G__law_pick:FnOk P w K mg base CX0 2 Y.a__law_pick Y.d__law_pick zan (zcA K):=zdx Y
 refine Y._law_names.fn.okQ c__law_names (λvs H Q E h=>?_) (λcdv A outer s H vs Q E hr h=>?_)
 ·obtain ⟨a,n,m,rfl,_⟩:=h;rfl
 ·obtain ⟨a,n,m,rfl,hH,hn,m4,m13,q⟩:=h
  refine⟨_,(zj (zdw 2 c__law_names.nd zY)
   (zj (zdw 3 c__law_names.nd (zk G__law_take (hr.mono (by decide)) Y._law_take.mg Y._law_take.kp Y._law_take.b .nil zr (zb (qv 0) (zb zh zc))))
   (zj (zdw 4 c__law_names.nd (zk G__law_pick (hr.mono (by decide)) Y._law_pick.mg Y._law_pick.kp Y._law_pick.b .nil zr (zb (qv 0) (zb (zfg [V.int 1,V.int 3,V.int 5,V.int 7,V.int 9,V.int 11] (by decide +kernel)) zc))))
   (zj (zbm 5 (src:=[none,some 3,some 2,some 4]) o__law_names_1 rfl rfl c__law_names.nd (zb7 Y.range (zb (qv 1) zc)) (λ_ _ _ _ _=>(zn 0 o__law_names_1.nd)) (λ_ _ _ _ _=>za6) (λ_ _ _ _ _=>(zN zjA (zF znw (qc 2) (zN zdB (zN zaI (qc 1) (zN zcP (qc 3) (qv 0))) zh)) (zN zaI zh (zN zdB (zN zaI (zN zcP (qv 0) (qv 0)) (qc 1)) zh)))))
   (zcB (zaq (zJ zas (zk G__law_take (hr.mono (by decide)) Y._law_take.mg Y._law_take.kp Y._law_take.b .nil zr (zb (qv 0) (zb zh zc))) zh) (zj (zL 6 c__law_names.nd (zfg [V.str "goal",V.str "to",V.str "by",V.str "houses",V.str "tie",V.str "like",V.str "hand",V.str "keep",V.str "put",V.str "mark",V.str "long",V.str "from",V.str "strike"] (by decide +kernel)))
   (zj (zL 7 c__law_names.nd (zk G__law_take (hr.mono (by decide)) Y._law_take.mg Y._law_take.kp Y._law_take.b .nil zr (zb (qv 0) (zb zh zc))))
   (zl (zcm PassesOwn.never rfl (zb7 Y.range (zb (zx (zhp rfl) Y.min zin (zb (qv 1) (zb zh zc))) zc)) (zn 8 c__law_names.nd) (zl (zdc (zF ix_list (qv 6) (zN zdB (zN zaI (qv 7) (zN zcP zh (qv 8))) zh)) (zkR (qv 5) (qv 8) ze0))))))) zT)
   (zl (zA (qv 5)))))))),?_⟩
  refine⟨_,rfl,a,26,n,rfl,hH,by omega,by decide,by decide,λf' H1 f0 f26 hH1 k1=>?_⟩
  obtain⟨f,rfl⟩:∃f:Nat,f'=(f:Int):=⟨f'.toNat,by omega⟩
  refine⟨_,rfl,by decide,λpl hpl=>⟨a,n+1,hH1.new hpl,by omega, .inl ⟨pl,_,rfl,hH1.ne hpl,SqL.of zd,by decide,by decide,λv H2 hv hH2 k2=>?_⟩⟩⟩
  obtain⟨st,rfl,st0,st11⟩:∃st:Nat,v= .int (st:Int)/\st∈zoq/\st<=11:=by
   simp only[List.mem_cons,List.not_mem_nil,or_false] at hv
   rcases hv with rfl|rfl|rfl|rfl|rfl|rfl
   ·exact ⟨1,rfl,by decide,by decide⟩
   ·exact ⟨3,rfl,by decide,by decide⟩
   ·exact ⟨5,rfl,by decide,by decide⟩
   ·exact ⟨7,rfl,by decide,by decide⟩
   ·exact ⟨9,rfl,by decide,by decide⟩
   ·exact ⟨11,rfl,by decide,by decide⟩
  have kp2:Keep a H H2:=k1.trans ((Keep.new hpl).trans k2)
  refine⟨_,rfl,m,rfl,by omega,by omega,?_⟩
  refine zaY zcv (λl i ys σ' H'=>(∃o,σ'=[o,some (.int (f:Int)),some (.str lettersS),some (.int (st:Int))])/\ys=((List.range i).map (nmS f st)).map V.str/\Hand H' a (n+1+1)/\Keep a H2 H') ?_ (λ_ _ _ _ _ _ _=>trivial) ?_ ?_
  ·exact λl hl=>⟨⟨_,rfl⟩,rfl,hH2.new hl,Keep.new hl⟩
  ·rintro l i y ys σ' H' hl hi rfl ⟨⟨o,rfl⟩,rfl,hH',k'⟩ hl'
   have hi13:i<13:=by have:i<m:=by omega
                      omega
   have hr26:(f+st*i)%26<26:=Nat.mod_lt _ (by decide)
   have ei:((f:Int)+(st:Int)*(0+(i:Int)))%26=(((f+st*i)%26:Nat):Int):=by rw[Int.zero_add];push_cast;rfl
   have ec:atI lettersS.cps.toList (((f:Int)+(st:Int)*(0+(i:Int)))%26)=some (97+(f+st*i)%26):=by
    rw[ei];exact zG (zgY _ (List.mem_range.mpr hr26))
   have en:(1+((0+(i:Int))*(0+(i:Int))+(f:Int))%8)=((1+(i*i+f)%8:Nat):Int):=by rw[Int.zero_add];push_cast;rfl
   have g8:(i*i+f)%8<8:=Nat.mod_lt _ (by decide)
   refine⟨_,rfl,_,rfl,_,rfl,_,rfl,_,_,rfl,rfl, .inl ⟨by omega,by omega⟩,_,_,rfl,rfl,_,_,rfl,rfl,(by decide:(0:Int)<26),lettersS,_,_,rfl,rfl,by rw[ziX];decide,ec,_,rfl,_,rfl,_,_,rfl,rfl, .inl ⟨by omega,by omega⟩,_,rfl,_,_,rfl,rfl,_,_,rfl,rfl,(by decide:(0:Int)<8),_,_,rfl,rfl,one (97+(f+st*i)%26),_,rfl,rfl,by rw[en];omega,by rw[en];omega,by rw[zlt];decide,by rw[zlt];decide,?_⟩
   have nl:=hH2.ne hl
   refine⟨hl',?_,⟨_,rfl⟩,?_,hH'.updNe nl,k'.updNew hl⟩
   ·rw[List.length_map,List.length_map,List.length_range];exact zm (by omega)
   ·rw[en,Int.toNat_natCast,List.range_succ,List.map_append,List.map_append];rfl
  ·rintro l ys σ' H3 hl ⟨⟨o,rfl⟩,rfl,hH3,k3⟩ hl'
   have nl:=hH2.ne hl
   rw[Int.toNat_natCast] at hl'
   have e0:(List.range m).map (nmS f st)=(List.range m).map (zbS f st 0 0):=by
    apply List.map_congr_left
    intro k _
    unfold zbS
    rw[if_neg (by omega)]
   have hln:H l=none:=by
    cases e:H l with
    |none=>rfl
    |some o=>exact absurd (kp2 l o nl e) (by rw[hl];exact λz=>nomatch z)
   refine⟨λσ' H'=>(∃o6 o7 o8,σ'=[some (.ref a),some (.int m),some (.str lettersS),some (.int (f:Int)),some (.int (st:Int)),some (.ref l),o6,o7,o8])/\(∃sp j:Nat,H' l=some (.lst (((List.range m).map (zbS f st sp j)).map V.str))/\sp<13/\j<=4)/\Hand H' a (n+4)/\Keep a H H',?_,?_⟩
   ·refine ⟨_,rfl,a,6,n+1+1,rfl,hH3,by omega,by decide,by decide,λd H4 d0 d6 hH4 k4=>⟨rfl,_,rfl,zbx (λ_=>?_) (λ_=>?_)⟩⟩
    ·have hl4:=k4 _ _ nl hl'
     have kp4:Keep a H H4:=(kp2.trans k3).trans k4
     refine⟨by decide,λpk hpk=>?_⟩
     have npl:pk≠l:=λz=>by rw[z,hl4] at hpk;cases hpk
     have npa:=hH4.ne hpk
     refine⟨_,rfl,a,13,n+1+1+1,rfl,hH4.new hpk,by omega,by decide,by decide,λsp' H5 sp0 sp13 hH5 k5=>?_⟩
     obtain⟨sp,rfl⟩:∃f:Nat,sp'=(f:Int):=⟨sp'.toNat,by omega⟩
     refine⟨_,rfl,_,_,rfl,_,rfl,?_,?_,?_⟩
     ·split<;>omega
     ·split<;>omega
     have e4:(if(4:Int)<(m:Int)then(4:Int)else(m:Int)).toNat=4:=by split<;>omega
     rw[e4]
     refine zbq zcv (λi σ' H'=>(∃o8,σ'=[some (.ref a),some (.int m),some (.str lettersS),some (.int (f:Int)),some (.int (st:Int)),some (.ref l),some (.ref pk),some (.int (sp:Int)),o8])/\H' l=some (.lst (((List.range m).map (zbS f st sp i)).map V.str))/\Hand H' a (n+4)/\Keep a H H'/\H' pk=some (.lst (keptL.map V.str))) ?_ (λ_ _ _ _=>trivial) ?_ ?_
     ·refine ⟨⟨_,rfl⟩,?_,hH5.mono (by omega),kp4.trans ((Keep.new hpk).trans k5),k5 _ _ npa zd⟩
      have e0':(List.range m).map (nmS f st)=(List.range m).map (zbS f st sp 0):=by
       apply List.map_congr_left
       intro k _
       unfold zbS
       rw[if_neg (by omega)]
      rw[←e0']
      exact k5 _ _ nl (by rw[zq (Ne.symm npl)];exact hl4)
     ·rintro i y σ' H6 hi4 rfl ⟨⟨o8,rfl⟩,hz,hH6,k6,hp6⟩
      have ek:((sp:Int)+3*(0+(i:Int)))%13=(((sp+3*i)%13:Nat):Int):=by rw[Int.zero_add];push_cast;rfl
      have ev:atI (keptL.map V.str) (((sp:Int)+3*(0+(i:Int)))%13)=some (.str (kwS sp i)):=by
       rw[ek];exact zG (by rw[List.getElem?_map,zoX];rfl)
      have hix:ixN (((List.range m).map (zbS f st sp i)).map V.str).length (0+(i:Int))=some i:=by
       unfold ixN
       rw[if_pos (by omega),if_pos (by rw[List.length_map,List.length_map,List.length_range];omega)]
       congr 1
       omega
      refine⟨_,rfl,_,rfl,_,rfl,_,_,rfl,rfl, .inl ⟨by decide,by decide⟩,_,_,rfl,rfl,_,_,rfl,rfl,(by decide:(0:Int)<13),pk,_,_,_,rfl,rfl,SqL.of hp6,ev,_,rfl,_,rfl,l,_,_,i,rfl,rfl,hz,hix,?_⟩
      refine⟨⟨_,rfl⟩,?_,hH6.updNe nl,k6.updNew hln,by rw[zq npl];exact hp6⟩
      rw[zd,←List.map_set,zoy (by omega)]
     ·rintro σ' H6 ⟨⟨o8,rfl⟩,hz,hH6,k6,_⟩
      exact⟨⟨_,_,_,rfl⟩,⟨sp,4,hz,by omega,by decide⟩,hH6,k6⟩
    ·rw[e0] at hl'
     exact⟨⟨_,_,_,rfl⟩,⟨0,0,k4 _ _ nl hl',by decide,by decide⟩,hH4.mono (by omega),(kp2.trans k3).trans k4⟩
   ·rintro σ' H' ⟨⟨o6,o7,o8,rfl⟩,⟨sp,j,hz,hsp,hj⟩,hH',k'⟩
    refine⟨_,rfl,q l _ H' hln hz (by rw[List.length_map,List.length_range]) (λx hx=>?_) (zjD (by omega) st0 hsp hj m13) (λx hx=>?_) hH' k'⟩
    ·obtain ⟨k,_,rfl⟩:=List.mem_map.mp hx
     exact zpJ _ _ _ _ _
    ·obtain ⟨k,_,rfl⟩:=List.mem_map.mp hx
     exact zmv _ _ _ _ _
end
section
variable{P:Program}{w:World}{K:PySem.W.Frag}{mg:Str->Option Value}{base:Heap}
def NL(O:List Str)(H:Hp)(l:Addr):Prop:=∃xs:List Str,H l=some (.lst (xs.map V.str))/\0<xs.length/\xs.length<=100/\∀x∈xs,zi x=true/\x∈O
theorem NL.keep{O:List Str}{H H':Hp}{a l:Addr}(h:NL O H l)(k:Keep a H H')(n:l≠a):NL O H' l:=let⟨xs,e,r⟩:=h;⟨xs,k _ _ n e,r⟩
theorem NL.same{O:List Str}{H H':Hp}{l:Addr}(h:NL O H l)(k:Same H H'):NL O H' l:=let⟨xs,e,r⟩:=h;⟨xs,k _ _ e,r⟩
theorem zcK{O:List Str}{H:Hp}{a l:Addr}{n:Int}{Q:VK}(hH:Hand H a n)(hn:n<2^40)(hl:NL O H l)(hla:l≠a)(q:∀x H',(zi x=true/\x∈O)->Hand H' a (n+1)->Keep a H H'->Q (.str x) H'):zcA K [.ref a, .ref l] H Q E0:=by
 obtain⟨xs,e,x0,x1,hx⟩:=hl
 refine⟨a,n,hH,hn, .inl ⟨l,_,rfl,hla,SqL.of e,by rw[List.length_map];exact x0,by rw[List.length_map];omega,λv H' hv hH' k'=>?_⟩⟩
 obtain⟨x,hxx,rfl⟩:=List.mem_map.mp hv
 exact q x H' (hx x hxx) hH' k'
theorem zH{x:Str}(h:zi x=true):x.length<=1000:=by
 unfold zi at h
 simp only[Bool.and_eq_true,decide_eq_true_eq] at h
 omega
theorem zey{y x:Str}(hy:y∈namingL)(hx:zi x=true):zP (.tup [.str y, .str x])=true:=by
 have h1:¬y="long":=by
  intro z
  subst z
  revert hy
  decide +kernel
 have h2:(namingL.any λz=>decide (z=y))=true:=List.any_eq_true.mpr ⟨y,hy,decide_eq_true rfl⟩
 rw[zeQ,if_neg h1,h2,zcN,hx];rfl
theorem zkm{d:D}(h:zP d=true):zQ d=true:=by
 obtain⟨x,e,rfl⟩:=zcU d h
 by_cases hx:x="not"
 ·subst hx;rw[zdm] at h;cases h
 ·rw[zec,if_neg hx];exact h
theorem zkG{d:D}(h:zP d=true)(ha:zfC d=false):ze8 d=false:=by
 obtain⟨x,e,rfl⟩:=zcU d h
 by_cases hx:x="not"
 ·subst hx;rw[zdm] at h;cases h
 ·show (if x="not"then zfC e else decide (x="to"))=false
  rw[if_neg hx];exact ha
noncomputable def znH:Sp:=λvs H Q _=>∃(a h m:Addr) (n:Int) (to:Bool) (O:List Str),vs=[.ref a, .ref h, .ref m, .bl to]/\Hand H a n/\n<2^39/\NL O H h/\NL O H m/\h≠a/\m≠a/\∀v d H',Rep H' v d->(zQ d=true/\zb8 O d=true)->(to=false->ze8 d=false)->Hand H' a (n+4)->Keep a H H'->Q v H'
theorem zpa(Y:Ev K mg):FnOk P w K mg base CX0 3 Y.a__law_cond Y.d__law_cond zcs znH:=by
 have G__law_take:FnOk P w K mg base CX0 1 Y.a__law_take Y.d__law_take zai zdC:=zcY Y
 have G__law_pick:FnOk P w K mg base CX0 2 Y.a__law_pick Y.d__law_pick zan (zcA K):=zdx Y
 refine Y._law_cond.fn.okQ c__law_cond (λvs H Q E h=>?_) (λcdv A outer s H vs Q E hr h=>?_)
 ·obtain ⟨a,h,m,n,to,O,rfl,_⟩:=h;rfl
 ·obtain ⟨a,h,m,n,to,O,rfl,hH,hn,hh,hm,nh,nm,q⟩:=h
  refine⟨_,(zj (zL 4 c__law_cond.nd (zk G__law_take (hr.mono (by decide)) Y._law_take.mg Y._law_take.kp Y._law_take.b .nil zr (zb (qv 0) (zb (zN zaI zh (zX zda Y.int zev (zb (qv 3) zc))) zc))))
   (zj (zL 5 c__law_cond.nd (zB (zb zY (zb (zk G__law_pick (hr.mono (by decide)) Y._law_pick.mg Y._law_pick.kp Y._law_pick.b .nil zr (zb (qv 0) (zb (qv 1) zc))) zc))))
   (zcB (zaq (t_w (zfr (zJ zas (qv 4) zh) (zem (zJ zas (qv 4) zh)))) (zl (zL 5 c__law_cond.nd (zB (zb zY (zb (zk G__law_pick (hr.mono (by decide)) Y._law_pick.mg Y._law_pick.kp Y._law_pick.b .nil zr (zb (qv 0) (zb (qv 1) zc))) zc))))) (zl (zaq (zJ zas (qv 4) zh) (zl (zL 5 c__law_cond.nd (zB (zb zY (zb (zk G__law_pick (hr.mono (by decide)) Y._law_pick.mg Y._law_pick.kp Y._law_pick.b .nil zr (zb (qv 0) (zb (zfg [V.int 0,V.int 1,V.int 2,V.int 3,V.int 4,V.int 6,V.int 9,V.int 99] (by decide +kernel)) zc))) zc))))) (zl (zaq (zJ zas (qv 4) zh) (zl (zL 5 c__law_cond.nd (zB (zb zY (zb (zk G__law_pick (hr.mono (by decide)) Y._law_pick.mg Y._law_pick.kp Y._law_pick.b .nil zr (zb (qv 0) (zb (qv 2) zc))) zc))))) (zl (zaq (zJ zas (qv 4) zh) (zl (zL 5 c__law_cond.nd (zB (zb zY (zb (zk G__law_pick (hr.mono (by decide)) Y._law_pick.mg Y._law_pick.kp Y._law_pick.b .nil zr (zb (qv 0) (zb (qv 1) zc))) zc))))) zT)))))))
   (zcB (zaq (zJ zas (zk G__law_take (hr.mono (by decide)) Y._law_take.mg Y._law_take.kp Y._law_take.b .nil zr (zb (qv 0) (zb zh zc))) zh) (zl (zL 5 c__law_cond.nd (zB (zb zY (zb (qv 5) zc))))) zT)
   (zl (zA (qv 5))))))),?_⟩
  refine⟨_,rfl,_,rfl, .inr ⟨to,rfl,_,_,rfl,rfl,a,_,n,rfl,hH,by omega,by split<;>omega,by split<;>omega,λt H1 t0 t5 hH1 k1=>?_⟩⟩
  refine⟨_,rfl,_,rfl,zcK hH1 (by omega) (hh.keep k1 nh) nh λx H2 hx hH2 k2=>⟨few rfl,λp2 hp2=>?_⟩⟩
  have mk2:∀{H0:Hp} {p:Addr} {y x:Str},y.length<=1000->(zi x=true/\x∈O)->Rep (upd H0 p (.tup [.str y, .str x])) (.ref p) (.tup [.str y, .str x]):=λhy hx=> .mk2 zd (.str _ hy) (.str _ (zH hx.1))
  have hh2:NL O (upd H2 p2 (.tup [.str "by", .str x])) h:=((hh.keep k1 nh).keep k2 nh).same (Same.new hp2)
  have hm2:NL O (upd H2 p2 (.tup [.str "by", .str x])) m:=((hm.keep k1 nm).keep k2 nm).same (Same.new hp2)
  have hH2':=hH2.new (o:= .tup [.str "by", .str x]) hp2
  have kp2:Keep a H (upd H2 p2 (.tup [.str "by", .str x])):=(k1.trans k2).trans (Keep.new hp2)
  refine⟨λσ' H'=>∃v d,σ'=[some (.ref a),some (.ref h),some (.ref m),some (.bl to),some (.int t),some v]/\Rep H' v d/\(zP d=true/\zal O d=true)/\(to=false->zfC d=false)/\Hand H' a (n+3)/\Keep a H H',?_,?_⟩
  ·have ap:∀{y x:Str},¬y="to"->zfC (.tup [.str y, .str x])=false:=λh=>decide_eq_false h
   have br:∀{y:Str},y.length<=1000->y∈namingL->¬y="to"->∀(l:Addr),l≠a->NL O (upd H2 p2 (.tup [.str "by", .str x])) l->∀R:V->Hp->Prop,(∀v d H',Rep H' v d->(zP d=true/\zal O d=true)->(to=false->zfC d=false)->Hand H' a (n+3)->Keep a H H'->R v H')->
    zcA K [.ref a, .ref l] (upd H2 p2 (.tup [.str "by", .str x])) (λv H3=> [V.str y,v].length<=sizeLine/\∀p,H3 p=none->R (.ref p) (upd H3 p (.tup [V.str y,v]))) E0:=by
    intro y hy hyn hyt l nl hl R hR
    refine zcK hH2' (by omega) hl nl λx3 H3 hx3 hH3 k3=>⟨few rfl,λp3 hp3=>?_⟩
    exact hR _ _ _ (mk2 hy hx3) ⟨zey hyn hx3.1,zbf hx3.2⟩ (λ_=>ap hyt) ((hH3.new hp3).mono (by omega)) ((kp2.trans k3).trans (Keep.new hp3))
   have fin:∀v d H',Rep H' v d->(zP d=true/\zal O d=true)->(to=false->zfC d=false)->Hand H' a (n+3)->Keep a H H'->(λ(v:V) (H':Hp)=>∃v0 d,[some (V.ref a),some (.ref h),some (.ref m),some (.bl to),some (.int t),some v]=[some (.ref a),some (.ref h),some (.ref m),some (.bl to),some (.int t),some v0]/\Rep H' v0 d/\(zP d=true/\zal O d=true)/\(to=false->zfC d=false)/\Hand H' a (n+3)/\Keep a H H') v H':=
    λv d H' h1 h2 h3 h4 h5=>⟨v,d,rfl,h1,h2,h3,h4,h5⟩
   refine⟨_,rfl,rfl,_,rfl,zbx (λ_=>?_) (λ_=>⟨_,rfl,rfl,_,rfl,zbx (λ_=>?_) (λ_=>?_)⟩)⟩
   ·exact ⟨_,rfl,_,rfl,br (by decide) (by decide) (by decide +kernel) h nh hh2 _ fin⟩
   ·exact ⟨_,rfl,_,rfl,br (by decide) (by decide) (by decide +kernel) h nh hh2 _ fin⟩
   refine⟨_,rfl,rfl,_,rfl,zbx (λ_=>?_) (λ_=>⟨_,rfl,rfl,_,rfl,zbx (λ_=>?_) (λ_=>⟨_,rfl,rfl,_,rfl,zbx (λh5=>?_) (λ_=>?_)⟩)⟩)⟩
   ·refine ⟨_,rfl,by decide,λpl hpl=>⟨a,n+2,(hH2'.mono (by omega)).new hpl,by omega, .inl ⟨pl,_,rfl,hH2'.ne hpl,SqL.of zd,by decide,by decide,λv H3 hv hH3 k3=>⟨few rfl,λp3 hp3=>?_⟩⟩⟩⟩
    have hk:∃j:Int,v= .int j/\0<=j/\j<=99:=by
     simp only[List.mem_cons,List.not_mem_nil,or_false] at hv
     rcases hv with rfl|rfl|rfl|rfl|rfl|rfl|rfl|rfl<;>exact ⟨_,rfl,by decide,by decide⟩
    obtain⟨j,rfl,j0,j9⟩:=hk
    refine fin _ (.tup [.str "long", .int j]) _ (.mk2 zd (.str _ (by decide)) (.int _)) ?_ (λ_=>(by decide +kernel:decide (("long":Str)="to")=false)) ((hH3.new hp3).mono (by omega)) ((kp2.trans ((Keep.new hpl).trans k3)).trans (Keep.new hp3))
    refine⟨?_,rfl⟩
    rw[zeQ,if_pos rfl]
    show(decide (0<=j)&&decide (j<=99))=true
    rw[decide_eq_true j0,decide_eq_true j9];rfl
   ·exact ⟨_,rfl,_,rfl,br (by decide) (by decide) (by decide +kernel) m nm hm2 _ fin⟩
   ·refine ⟨_,rfl,_,rfl,zcK hH2' (by omega) hh2 nh λx3 H3 hx3 hH3 k3=>⟨few rfl,λp3 hp3=>?_⟩⟩
    refine fin _ _ _ (mk2 (by decide) hx3) ⟨zey (by decide) hx3.1,zbf hx3.2⟩ (λz=>?_) ((hH3.new hp3).mono (by omega)) ((kp2.trans k3).trans (Keep.new hp3))
    subst z
    have e5:t=5:=V.int.inj (of_decide_eq_true h5)
    simp at t5
    omega
   ·exact fin _ _ _ (mk2 (by decide) hx) ⟨zey (by decide) hx.1,zbf hx.2⟩ (λ_=>ap (by decide +kernel)) (hH2'.mono (by omega)) kp2
  ·rintro σ' H3 ⟨v,d,rfl,hv,hd,hto,hH3,k3⟩
   refine⟨λσ' H'=>∃v d,σ'=[some (.ref a),some (.ref h),some (.ref m),some (.bl to),some (.int t),some v]/\Rep H' v d/\(zQ d=true/\zb8 O d=true)/\(to=false->ze8 d=false)/\Hand H' a (n+4)/\Keep a H H',?_,?_⟩
   ·refine ⟨_,rfl,a,4,n+3,rfl,hH3,by omega,by decide,by decide,λd4 H4 _ _ hH4 k4=>⟨rfl,_,rfl,zbx (λ_=>?_) (λ_=>?_)⟩⟩
    ·have hv4:=hv.mono (Mono.keep k4 hH3 hH4)
     refine⟨_,rfl,few rfl,λp5 hp5=>⟨_, .tup [.str "not",d],rfl, .mk2 zd (.str _ (by decide)) (hv4.mono (.new hp5)),?_,?_,(hH4.new hp5).mono (by omega),(k3.trans k4).trans (Keep.new hp5)⟩⟩
     ·exact ⟨by rw[zec,if_pos rfl];exact hd.1,zj4 hd.2⟩
     ·exact λz=>hto z
    ·refine ⟨_,d,rfl,hv.mono (Mono.keep k4 hH3 hH4),⟨zkm hd.1,zlS hd.1 hd.2⟩,λz=>zkG hd.1 (hto z),hH4.mono (by omega),k3.trans k4⟩
   ·rintro σ' H4 ⟨v,d,rfl,hv,hd,hto,hH4,k4⟩
    exact⟨_,rfl,q v d H4 hv hd hto hH4 k4⟩
end
section
variable{P:Program}{w:World}{K:PySem.W.Frag}{mg:Str->Option Value}{base:Heap}
theorem zi8{ds:List D}(hl:ds.length<=4)(h:∀d∈ds,zQ d=true):zbl (.tup ds)=true:=by
 rw[ziM,decide_eq_true hl,List.all_eq_true.mpr h];rfl
theorem zgi{α:Type}{P:α->Prop}{ds:List α}(h:∀(i:Nat) (d:α),ds[i]?=some d->P d):∀d∈ds,P d:=λd hd=>by
 obtain⟨i,hi,e⟩:=List.getElem_of_mem hd
 exact h i d (by rw[List.getElem?_eq_getElem hi,e])
noncomputable def zlA:Sp:=λvs H Q _=>∃(a h m:Addr) (n:Int) (to:Bool) (O:List Str),vs=[.ref a, .ref h, .ref m, .bl to]/\Hand H a n/\n<2^38/\NL O H h/\NL O H m/\h≠a/\m≠a/\∀v ds H',Rep H' v (.tup ds)->ds.length<=4->(∀d∈ds,zQ d=true)->(∀d∈ds,zb8 O d=true)->(to=false->∀d∈ds,ze8 d=false)->Hand H' a (n+17)->Keep a H H'->Q v H'
theorem zoe(Y:Ev K mg):FnOk P w K mg base CX0 4 Y.a__law_conds Y.d__law_conds zbY zlA:=by
 have G__law_pick:FnOk P w K mg base CX0 2 Y.a__law_pick Y.d__law_pick zan (zcA K):=zdx Y
 have G__law_cond:FnOk P w K mg base CX0 3 Y.a__law_cond Y.d__law_cond zcs znH:=zpa Y
 refine Y._law_conds.fn.okQ c__law_conds (λvs H Q E h=>?_) (λcdv A outer s H vs Q E hr h=>?_)
 ·obtain ⟨a,h,m,n,to,O,rfl,_⟩:=h;rfl
 ·obtain ⟨a,h,m,n,to,O,rfl,hH,hn,hh,hm,nh,nm,q⟩:=h
  refine⟨_,(zj (zL 4 c__law_conds.nd (zk G__law_pick (hr.mono (by decide)) Y._law_pick.mg Y._law_pick.kp Y._law_pick.b .nil zr (zb (qc 0) (zb (zfg [V.int 1,V.int 1,V.int 1,V.int 2,V.int 0,V.int 4] (by decide +kernel)) zc))))
   (zl (zA (zX zV Y.tuple zax (zb (zaj (src:=[none,some 0,some 1,some 2,some 3]) o__law_conds_1 rfl rfl (zb7 Y.range (zb (qv 4) zc)) (λ_ _ _ _ _=>(zn 0 o__law_conds_1.nd)) (λ_ _ _ _ _=>za6) (λ_ _ _ _ _=>(zk G__law_cond (hr.mono (by decide)) Y._law_cond.mg Y._law_cond.kp Y._law_cond.b .nil zr (zb (qc 1) (zb (qc 2) (zb (qc 3) (zb (qc 4) zc))))))) zc))))),?_⟩
  refine⟨_,rfl,by decide,λpl hpl=>⟨a,n,hH.new hpl,by omega, .inl ⟨pl,_,rfl,hH.ne hpl,SqL.of zd,by decide,by decide,λv H1 hv hH1 k1=>?_⟩⟩⟩
  obtain⟨c,rfl,c4⟩:∃c:Nat,v= .int (c:Int)/\c<=4:=by
   simp only[List.mem_cons,List.not_mem_nil,or_false] at hv
   rcases hv with rfl|rfl|rfl|rfl|rfl|rfl
   ·exact ⟨1,rfl,by decide⟩
   ·exact ⟨1,rfl,by decide⟩
   ·exact ⟨1,rfl,by decide⟩
   ·exact ⟨2,rfl,by decide⟩
   ·exact ⟨0,rfl,by decide⟩
   ·exact ⟨4,rfl,by decide⟩
  have kp1:Keep a H H1:=(Keep.new hpl).trans k1
  have hh1:=(hh.same (Same.new (o:= .lst [V.int 1,V.int 1,V.int 1,V.int 2,V.int 0,V.int 4]) hpl)).keep k1 nh
  have hm1:=(hm.same (Same.new (o:= .lst [V.int 1,V.int 1,V.int 1,V.int 2,V.int 0,V.int 4]) hpl)).keep k1 nm
  refine⟨_,rfl,c,rfl,by omega,by omega,?_⟩
  rw[Int.toNat_natCast]
  refine zet (a:=a) (m:=n+1) (c:=4) (Pd:=λ_ d=>(zQ d=true/\zb8 O d=true)/\(to=false->ze8 d=false)) (σr:=[some (.ref a),some (.ref h),some (.ref m),some (.bl to)]) rfl hH1 (by omega) (by decide) (λj H2 Q1 hj hH2 k2 q1=>?_) (λl vs ds H2 hl hl2 r2 hds pd hH2 k2=>?_)
  ·exact ⟨_,rfl,_,rfl,_,rfl,_,rfl,a,h,m,_,to,O,rfl,hH2,by omega,hh1.keep k2 nh,hm1.keep k2 nm,nh,nm,λv d H3 rv hc ht hH3 k3=>q1 v d H3 rv ⟨hc,ht⟩ hH3 k3⟩
  ·refine ⟨l,vs,rfl, .inl ⟨SqL.of hl2,λp hp=>?_⟩⟩
   have pd':=zgi (P:=λd=>(zQ d=true/\zb8 O d=true)/\(to=false->ze8 d=false)) pd
   exact q _ ds _ (.mkL zd (by omega) (r2.mono (.new hp))) (by omega) (λd hd=>(pd' d hd).1.1) (λd hd=>(pd' d hd).1.2) (λz d hd=>(pd' d hd).2 z) ((hH2.new hp).mono (by omega)) ((kp1.trans k2).trans (Keep.new hp))
theorem zmb{ds:List D}{x:D}(hl:ds.length<=4)(h:∀d∈ds,zQ d=true)(ha:∀d∈ds,ze8 d=false)(hx:zdi x=true):zav (.tup [.tup ds,x])=true:=by
 rw[zmH,zi8 hl h,hx]
 have:zf4 (.tup ds)=false:=by
  show ds.any ze8=false
  rw[List.any_eq_false]
  exact λd hd z=>by rw[ha d hd] at z;cases z
 rw[this];rfl
end
section
variable{P:Program}{w:World}{K:PySem.W.Frag}{mg:Str->Option Value}{base:Heap}
theorem zo2{ds:List D}{x:D}(hl:ds.length<=4)(h:∀d∈ds,zQ d=true)(hx:zcS x=true):zcC (.tup [.tup ds,x])=true:=by
 rw[zo1,zi8 hl h,hx];rfl
theorem zh0{y x:Str}(hx:zi x=true)(hy:y="put"\/y="strike"):zcS (.tup [.str y, .str x])=true:=by
 rw[zqU,zcN,hx]
 rcases hy with rfl|rfl<;>decide +kernel
def TD(H:Hp)(d:Addr)(xs:List Str)(c:Nat):Prop:=∃(kvs:List (List Key×V)) (ps:List (Str×Str)),H d=some (.dT kvs)/\kvs.map (·.1)=ps.map zg0/\ps.length<=c/\∀p∈ps,p.1∈xs/\p.2∈xs/\ltS p.1 p.2=true
theorem zlY{kvs:List (List Key×V)}{k:List Key}{v:V}:(zeq kvs k v).map (·.1)=kvs.map (·.1)\/(zeq kvs k v).map (·.1)=kvs.map (·.1)++ [k]:=by
 unfold zeq
 by_cases h:(kvs.any λkv=>decide (kv.1=k))=true
 ·rw[if_pos h]
  refine .inl ?_
  rw[List.map_map]
  apply List.map_congr_left
  intro x _
  show(if x.1=k then(x.1,v)else x).1=x.1
  split<;>rfl
 ·rw[if_neg h,List.map_append]
  exact .inr rfl
theorem TD.put{H:Hp}{d:Addr}{xs:List Str}{c:Nat}{p:Str×Str}{v:V}{kvs:List (List Key×V)}{ps:List (Str×Str)}(h1:kvs.map (·.1)=ps.map zg0)(h2:ps.length<=c)(h3:∀p∈ps,p.1∈xs/\p.2∈xs/\ltS p.1 p.2=true)(hp:p.1∈xs/\p.2∈xs/\ltS p.1 p.2=true):
 TD (upd H d (.dT (zeq kvs (zg0 p) v))) d xs (c+1):=by
 rcases zlY (kvs:=kvs) (k:=zg0 p) (v:=v)with e|e
 ·exact ⟨_,ps,zd,e.trans h1,by omega,h3⟩
 ·refine ⟨_,ps ++ [p],zd,by rw[e,h1,List.map_append];rfl,by rw[List.length_append];show ps.length+1<=_;omega,λq hq=>?_⟩
  rcases List.mem_append.mp hq with hq|hq
  ·exact h3 q hq
  ·rw[List.mem_singleton.mp hq];exact hp
theorem TD.keep{H H':Hp}{a d:Addr}{xs:List Str}{c:Nat}(h:TD H d xs c)(k:Keep a H H')(n:d≠a):TD H' d xs c:=let⟨kvs,ps,e,r⟩:=h;⟨kvs,ps,k _ _ n e,r⟩
theorem TD.mono{H:Hp}{d:Addr}{xs:List Str}{c c':Nat}(h:TD H d xs c)(l:c<=c'):TD H d xs c':=let⟨kvs,ps,e,f,g,r⟩:=h;⟨kvs,ps,e,f,Nat.le_trans g l,r⟩
theorem zoi{x y:Str}(h:x≠y):ltS (if ltS y x=true then y else x) (if ltS x y=true then y else x)=true:=by
 cases e:ltS x y with
 |true=>rw[zhT e];simp only[Bool.false_eq_true,if_false,if_true];exact e
 |false=>
  have:=zdv h e
  rw[this];simp only[Bool.false_eq_true,if_false,if_true];exact this
noncomputable def zkW:Sp:=λvs H Q _=>∃(a h:Addr) (n:Int) (more:Nat) (xs:List Str),vs=[.ref a, .ref h, .int more]/\Hand H a n/\n<2^38/\H h=some (.lst (xs.map V.str))/\h≠a/\1<=xs.length/\xs.length<=10/\xs.Nodup/\(∀x∈xs,zi x=true)/\more<=30/\
 ∀(v:V) (ps:List (Str×Str)) (H':Hp),Rep H' v (.tup (ps.map pairD))->ps.Pairwise (λa b=>ltP a b=true)->(∀p∈ps,p.1∈xs/\p.2∈xs/\ltS p.1 p.2=true)->Hand H' a (n+100)->Keep a H H'->Q v H'
theorem zpk(Y:Ev K mg):FnOk P w K mg base CX0 3 Y.a__law_ties Y.d__law_ties zcr zkW:=by
 have G__law_take:FnOk P w K mg base CX0 1 Y.a__law_take Y.d__law_take zai zdC:=zcY Y
 have G__law_pick:FnOk P w K mg base CX0 2 Y.a__law_pick Y.d__law_pick zan (zcA K):=zdx Y
 refine Y._law_ties.fn.okQ c__law_ties (λvs H Q E h=>?_) (λcdv A outer s H vs Q E hr h=>?_)
 ·obtain ⟨a,h,n,more,xs,rfl,_⟩:=h;rfl
 ·obtain ⟨a,h,n,more,xs,rfl,hH,hn,hh,nh,x1,x10,hnd,hxn,hmore,q⟩:=h
  refine⟨_,(zj (zL 3 c__law_ties.nd zph)
   (zj (zcm PassesOwn.never rfl (zrq Y.range (zb zh (zb (zx zS Y.len zaO (zb (qv 1) zc)) zc))) (zn 4 c__law_ties.nd) (zj (zp7 5 6 c__law_ties.nd (zb (zF ix_list (qv 1) (qv 4)) (zb (zF ix_list (qv 1) (zk G__law_take (hr.mono (by decide)) Y._law_take.mg Y._law_take.kp Y._law_take.b .nil zr (zb (qv 0) (zb (qv 4) zc)))) zc)))
   (zl (zaq (zJ ze4 (zk G__law_take (hr.mono (by decide)) Y._law_take.mg Y._law_take.kp Y._law_take.b .nil zr (zb (qv 0) (zb zh zc))) zh) (zl (znj (hu1 hr) (qv 3) (zB (zb (zx (zgB rfl) Y.min zin (zb (qv 5) (zb (qv 6) zc))) (zb (zx (zgZ rfl) Y.max zkH (zb (qv 5) (zb (qv 6) zc))) zc))) zbv)) zT))))
   (zj (zcm PassesOwn.never rfl (zb7 Y.range (zb (qv 2) zc)) (zn 4 c__law_ties.nd) (zj (zp7 5 6 c__law_ties.nd (zb (zk G__law_pick (hr.mono (by decide)) Y._law_pick.mg Y._law_pick.kp Y._law_pick.b .nil zr (zb (qv 0) (zb (qv 1) zc))) (zb (zk G__law_pick (hr.mono (by decide)) Y._law_pick.mg Y._law_pick.kp Y._law_pick.b .nil zr (zb (qv 0) (zb (qv 1) zc))) zc)))
   (zl (zaq (zJ zho (qv 5) (qv 6)) (zl (znj (hu1 hr) (qv 3) (zB (zb (zx (zgB rfl) Y.min zin (zb (qv 5) (zb (qv 6) zc))) (zb (zx (zgZ rfl) Y.max zkH (zb (qv 5) (zb (qv 6) zc))) zc))) zbv)) zT))))
   (zl (zA (zX zV Y.tuple zax (zb (zx (zh3 rfl) Y.sorted zcJ (zb (qv 3) zc)) zc))))))),?_⟩
  intro d hd
  have nd:=hH.ne hd
  have ndh:d≠h:=λz=>by rw[z,hh] at hd;cases hd
  have hh0:upd H d (.dT []) h=some (.lst (xs.map V.str)):=by rw[zq (Ne.symm ndh)];exact hh
  refine⟨_,rfl, .inl ⟨h,_,rfl, .inl (SqL.of hh0),1,_,rfl,⟨by decide,by decide,by omega,by rw[List.length_map];omega⟩,?_⟩⟩
  have hN:(((xs.map V.str).length:Int) -1).toNat=xs.length -1:=by rw[List.length_map];omega
  rw[hN]
  refine zbq zcv (λi σ' H'=>(∃o1 o2 o3,σ'=[some (.ref a),some (.ref h),some (.int more),some (.ref d),o1,o2,o3])/\TD H' d xs i/\Hand H' a (n+2*i)/\Keep a H H') ?_ (λ_ _ _ _=>trivial) ?_ ?_
  ·exact ⟨⟨_,_,_,rfl⟩,⟨[],[],zd,rfl,Nat.le_refl _,λ_ z=>nomatch z⟩,(hH.new hd).mono (by omega),Keep.new hd⟩
  ·rintro i y σ' H1 hi rfl ⟨⟨o1,o2,o3,rfl⟩,td,hH1,k1⟩
   have hh1:=k1 _ _ nh hh
   have g1:atI (xs.map V.str) (1+(i:Int))=some (.str (xs.getD (i+1) "")):=by
    have hi1:i+1<xs.length:=by omega
    rw[Int.add_comm]
    exact zG (j:=i+1) (by simp[hi1,List.getD])
   refine⟨_,rfl,_,rfl,h,_,_,_,rfl,rfl,SqL.of hh1,g1,_,rfl,_,rfl,_,rfl,a,_,_,rfl,hH1,by omega,by omega,by omega,λt' H2 t0 t1 hH2 k2=>?_⟩
   obtain⟨t,rfl⟩:∃t:Nat,t'=(t:Int):=⟨t'.toNat,by omega⟩
   have hh2:=k2 _ _ nh hh1
   have ht:t<xs.length:=by omega
   have g2:atI (xs.map V.str) (t:Int)=some (.str (xs.getD t "")):=zG (by simp[ht,List.getD])
   have hne:xs.getD (i+1) ""≠xs.getD t "":=by
    have hi1:i+1<xs.length:=by omega
    have:=zno hnd hi1 ht (by omega)
    simpa[List.getD,hi1,ht] using this
   have mx1:xs.getD (i+1) ""∈xs:=by have hi1:i+1<xs.length:=by omega
                                    simp[List.getD,hi1]
   have mx2:xs.getD t ""∈xs:=by simp[List.getD,ht]
   generalize xs.getD (i+1) ""=x at *
   generalize xs.getD t ""=y at *
   refine⟨h,_,_,_,rfl,rfl,SqL.of hh2,g2,_,_,rfl,?_⟩
   have td2:=td.keep k2 nd
   refine⟨_,rfl,a,9,_,rfl,hH2,by omega,by decide,by decide,λu H3 u0 u9 hH3 k3=>⟨_,_,rfl,rfl,_,rfl,zbx (λ_=>?_) (λ_=>?_)⟩⟩
   ·obtain ⟨kvs,ps,hkv,hkk,hpl,hpg⟩:=td2.keep k3 nd
    refine⟨_,rfl,_,rfl,_,rfl,x,y,rfl,_,rfl,_,rfl,x,y,rfl,few rfl,λp hp=>?_⟩
    have hkv4:upd H3 p (.tup [.str (if ltS y x=true then y else x), .str (if ltS x y=true then y else x)]) d=some (.dT kvs):=by rw[zq (zy hkv hp)];exact hkv
    have hlk:kvs.length=ps.length:=by have:=congrArg List.length hkk;simpa using this
    refine⟨d,_,rfl,DPut.t (k:=zg0 (if ltS y x=true then y else x,if ltS x y=true then y else x)) hkv4 zd (zm (by omega)),⟨_,_,_,rfl⟩,TD.put hkk hpl hpg ⟨?_,?_,zoi hne⟩,?_,?_⟩
    ·dsimp only;split<;>assumption
    ·dsimp only;split<;>assumption
    ·exact ((hH3.new hp).updNe nd).mono (by rw[show((i+1:Nat):Int)=(i:Int)+1 by omega];omega)
    ·exact Keep.updNew (((k1.trans k2).trans k3).trans (Keep.new hp)) hd
   ·exact ⟨⟨_,_,_,rfl⟩,(td2.keep k3 nd).mono (by omega),hH3.mono (by rw[show((i+1:Nat):Int)=(i:Int)+1 by omega];omega),(k1.trans k2).trans k3⟩
  ·rintro σ' H1 ⟨⟨o1,o2,o3,rfl⟩,td,hH1,k1⟩
   refine⟨_,rfl,more,rfl,by omega,by omega,?_⟩
   rw[Int.toNat_natCast]
   refine zbq zcv (λi σ' H'=>(∃o1 o2 o3,σ'=[some (.ref a),some (.ref h),some (.int more),some (.ref d),o1,o2,o3])/\TD H' d xs (9+i)/\Hand H' a (n+20+2*i)/\Keep a H H') ?_ (λ_ _ _ _=>trivial) ?_ ?_
   ·exact ⟨⟨_,_,_,rfl⟩,td.mono (by omega),hH1.mono (by omega),k1⟩
   ·rintro i y σ' H2 hi rfl ⟨⟨o1,o2,o3,rfl⟩,td2,hH2,k2⟩
    have pk:∀{H0:Hp} {n0:Int} {R:VK},Hand H0 a n0->n0<2^40->H0 h=some (.lst (xs.map V.str))->(∀x H',x∈xs->Hand H' a (n0+1)->Keep a H0 H'->R (.str x) H')->zcA K [.ref a, .ref h] H0 R E0:=λhH0 hn0 e0 qq=>
     ⟨a,_,hH0,hn0, .inl ⟨h,_,rfl,nh,SqL.of e0,by rw[List.length_map];omega,by rw[List.length_map];omega,λv H' hv hH' k'=>by
       obtain⟨x,hx,rfl⟩:=List.mem_map.mp hv
       exact qq x H' hx hH' k'⟩⟩
    have hh2:=k2 _ _ nh hh
    refine⟨_,rfl,_,rfl,pk hH2 (by omega) hh2 λx H3 hx hH3 k3=>⟨_,rfl,_,rfl,pk hH3 (by omega) (k3 _ _ nh hh2) λy H4 hy hH4 k4=>⟨_,_,rfl,_,rfl,_,rfl,rfl,_,rfl,zbx (λhc=>?_) (λ_=>?_)⟩⟩⟩
    ·have hne:x≠y:=λz=>by rw[z] at hc;simp at hc
     obtain⟨kvs,ps,hkv,hkk,hpl,hpg⟩:=(td2.keep k3 nd).keep k4 nd
     refine⟨_,rfl,_,rfl,_,rfl,x,y,rfl,_,rfl,_,rfl,x,y,rfl,few rfl,λp hp=>?_⟩
     have hkv4:upd H4 p (.tup [.str (if ltS y x=true then y else x), .str (if ltS x y=true then y else x)]) d=some (.dT kvs):=by rw[zq (zy hkv hp)];exact hkv
     have hlk:kvs.length=ps.length:=by have:=congrArg List.length hkk;simpa using this
     refine⟨d,_,rfl,DPut.t (k:=zg0 (if ltS y x=true then y else x,if ltS x y=true then y else x)) hkv4 zd (zm (by omega)),⟨_,_,_,rfl⟩,TD.put hkk hpl hpg ⟨?_,?_,zoi hne⟩,?_,?_⟩
     ·dsimp only;split<;>assumption
     ·dsimp only;split<;>assumption
     ·exact ((hH4.new hp).updNe nd).mono (by rw[show((i+1:Nat):Int)=(i:Int)+1 by omega];omega)
     ·exact Keep.updNew (((k2.trans k3).trans k4).trans (Keep.new hp)) hd
    ·exact ⟨⟨_,_,_,rfl⟩,((td2.keep k3 nd).keep k4 nd).mono (by omega),hH4.mono (by rw[show((i+1:Nat):Int)=(i:Int)+1 by omega];omega),(k2.trans k3).trans k4⟩
   ·rintro σ' H2 ⟨⟨o1,o2,o3,rfl⟩,⟨kvs,ps,hkv,hkk,hpl,hpg⟩,hH2,k2⟩
    refine⟨_,rfl,d,kvs,ps,rfl,hkv,hkk,by omega,λps' vs l hperm hpw hpa hl=>⟨l,vs,rfl, .inl ⟨SqL.of zd,λp hp=>?_⟩⟩⟩
    have S:Same H2 (upd (upd H2 l (.lst vs)) p (.tup vs)):=(Same.new hl).trans (Same.new hp)
    refine q _ ps' _ (.mkL zd (by rw[List.length_map,hperm.length_eq];omega) ⟨by rw[List.length_map];exact hpa.1,λi v dd e1 e2=>?_⟩) hpw (λp hp=>hpg p (hperm.mem_iff.mp hp)) ((hH2.same S).mono (by omega)) (k2.trans (Keep.of S))
    rw[List.getElem?_map] at e2
    cases e3:ps'[i]? with
    |none=>rw[e3] at e2;cases e2
    |some pr=>
     rw[e3] at e2
     cases e2
     obtain⟨b,rfl,hb⟩:=hpa.2 i v pr e1 e3
     have hpr:=hpg pr (hperm.mem_iff.mp (List.mem_of_getElem? e3))
     exact .mk2 (S _ _ hb) (.str _ (zH (hxn _ hpr.1))) (.str _ (zH (hxn _ hpr.2.1)))
end
section
variable{P:Program}{w:World}{K:PySem.W.Frag}{mg:Str->Option Value}{base:Heap}
theorem zln{H:Hp}{a l:Addr}{n:Int}{vs:List V}{ds:List D}{Q:VK}(hH:Hand H a n)(hn:n<2^40)(e:H l=some (.lst vs))(r:RepL H vs ds)
 (q:∀v d H',d∈ds->Rep H' v d->Hand H' a (n+1)->Keep a H H'->Q v H') (hb:(Nat.ble 1 ds.length&&Nat.ble ds.length 900&&!(Nat.beq ds.length 3))=true:=by rfl):zcA K [.ref a, .ref l] H Q E0:=by
 have hl:=r.1
 simp only[Bool.and_eq_true] at hb
 have h0:=Nat.le_of_ble_eq_true hb.1.1
 have h9:=Nat.le_of_ble_eq_true hb.1.2
 have h3:ds.length≠3:=λz=>by rw[z] at hb;exact absurd hb.2 (by decide)
 refine⟨a,n,hH,hn, .inl ⟨l,_,rfl,zj0 hH e r h3,SqL.of e,by omega,by omega,λv H' hv hH' k'=>?_⟩⟩
 obtain⟨i,hi,ei⟩:=List.getElem_of_mem hv
 obtain⟨d,hd,rd⟩:=r.get (i:=i) (v:=v) (by rw[List.getElem?_eq_getElem hi,ei])
 exact q v d H' (List.mem_of_getElem? hd) (rd.mono (.keep k' hH hH')) hH' k'
end
section
variable{P:Program}{w:World}{K:PySem.W.Frag}{mg:Str->Option Value}{base:Heap}
noncomputable def zkx:D->Bool| .tup ds=>decide (ds.length<=3)|_=>false
noncomputable def zh1(d:D):Bool:=zea d&&zkx d
noncomputable def znQ:Sp:=λvs H Q _=>∃(a:Addr) (n:Int),vs=[.ref a]/\Hand H a n/\n<2^36/\∀(v:V) (g:Str) (hs:List Str) (ps:List (Str×Str)) (lks hds:List D) (H':Hp),Rep H' v (zcn g hs ps lks hds)->TownOk g hs ps lks hds->(∀x∈hs,x≠"nowhere")->(∃O,Pool hs lks hds O/\O.length<=13/\∀x∈O,x≠"nowhere")->(∀d∈hds,zkx d=true)->Hand H' a (n+9000)->Keep a H H'->Q v H'
theorem zhe{d:D}{ds:List D}(e:d= .tup ds)(h:ds.length<=12){O:List Str}(h2:∀d∈ds,zj3 O d=true):zcZ d=true/\zc0 O d=true:=by
 subst e
 refine⟨?_,List.all_eq_true.mpr λd hd=>((Bool.and_eq_true _ _).mp (h2 d hd)).2⟩
 show(decide (ds.length<=90)&&ds.all zav)=true
 rw[decide_eq_true (by omega),List.all_eq_true.mpr λd hd=>((Bool.and_eq_true _ _).mp (h2 d hd)).1];rfl
theorem zjq{d:D}{ds:List D}(e:d= .tup ds)(h:ds.length<=3){O:List Str}(h2:∀d∈ds,zkE O d=true):zh1 d=true/\zc0 O d=true:=by
 subst e
 refine⟨?_,List.all_eq_true.mpr λd hd=>((Bool.and_eq_true _ _).mp (h2 d hd)).2⟩
 show((decide (ds.length<=90)&&ds.all zcC)&&decide (ds.length<=3))=true
 rw[decide_eq_true (by omega),decide_eq_true h,List.all_eq_true.mpr λd hd=>((Bool.and_eq_true _ _).mp (h2 d hd)).1];rfl
def Rows(g:D->Bool)(O:List Str)(H':Hp)(ls:Addr)(i:Nat):Prop:=∃(zs:List V) (ds:List D),H' ls=some (.lst zs)/\RepL H' zs ds/\ds.length=i/\∀d∈ds,g d=true/\zc0 O d=true
theorem Rows.keep{g:D->Bool}{O:List Str}{H H':Hp}{a ls:Addr}{i:Nat}{n m:Int}(h:Rows g O H ls i)(k:Keep a H H')(hl:ls≠a)(h1:Hand H a n)(h2:Hand H' a m):Rows g O H' ls i:=let⟨zs,ds,e,r,l,q⟩:=h;⟨zs,ds,k _ _ hl e,r.mono (.keep k h1 h2),l,q⟩
theorem Rows.put{g:D->Bool}{O:List Str}{H:Hp}{ls:Addr}{i:Nat}{zs:List V}{ds:List D}{v:V}{d:D}(e:H ls=some (.lst zs))(r:RepL H zs ds)(l:ds.length=i)(q:∀d∈ds,g d=true/\zc0 O d=true)(rv:Rep H v d)(hd:g d=true/\zc0 O d=true):Rows g O (upd H ls (.lst (zs ++ [v]))) ls (i+1):=
 ⟨_,ds ++ [d],zd,(r.append (.cons rv .nil)).mono (.lset e),by rw[List.length_append,l];rfl,λx hx=>(List.mem_append.mp hx).elim (q x) λz=>by rw[List.mem_singleton.mp z];exact hd⟩
theorem zpU(Y:Ev K mg):FnOk P w K mg base CX0 5 Y.a__law_mild_town Y.d__law_mild_town zaN znQ:=by
 have G__law_take:FnOk P w K mg base CX0 1 Y.a__law_take Y.d__law_take zai zdC:=zcY Y
 have G__law_pick:FnOk P w K mg base CX0 2 Y.a__law_pick Y.d__law_pick zan (zcA K):=zdx Y
 have G__law_names:FnOk P w K mg base CX0 3 Y.a__law_names Y.d__law_names zbW zi0:=zlU Y
 have G__law_ties:FnOk P w K mg base CX0 3 Y.a__law_ties Y.d__law_ties zcr zkW:=zpk Y
 have G__law_conds:FnOk P w K mg base CX0 4 Y.a__law_conds Y.d__law_conds zbY zlA:=zoe Y
 refine Y._law_mild_town.fn.okQ c__law_mild_town (λvs H Q E h=>?_) (λcdv A outer s H vs Q E hr h=>?_)
 ·obtain ⟨a,n,rfl,_⟩:=h;rfl
 ·obtain ⟨a,n,rfl,hH,hn,q⟩:=h
  refine⟨_,(zj (zL 1 c__law_mild_town.nd (zF ix_list (za1 (zb zh (zb zh (zb zh (zb zh (zb zh (zb zh (zb zh (zb (zN zaI zh (zk G__law_take (hr.mono (by decide)) Y._law_take.mg Y._law_take.kp Y._law_take.b .nil zr (zb (qc 0) (zb zh zc)))) zc))))))))) (zk G__law_take (hr.mono (by decide)) Y._law_take.mg Y._law_take.kp Y._law_take.b .nil zr (zb (qc 0) (zb zh zc)))))
   (zj (zdw 2 c__law_mild_town.nd (zk G__law_names (hr.mono (by decide)) Y._law_names.mg Y._law_names.kp Y._law_names.b .nil zr (zb (qc 0) (zb (zN zaI (qv 1) zh) zc))))
   (zj (zdc (zB (zb (zgM zfY (qc 2) zc5 (zcy (qv 1))) (zb (zgM zfY (qc 2) (zcy (qv 1)) zc5) zc))) (zc1 2 rfl (zz (zn 3 c__law_mild_town.nd) (zz (zbO 4 c__law_mild_town.nd) zaT))))
   (zj (zL 5 c__law_mild_town.nd (zk G__law_ties (hr.mono (by decide)) Y._law_ties.mg Y._law_ties.kp Y._law_ties.b .nil zr (zb (qc 0) (zb (qv 3) (zb (zF ix_list (zfg [V.int 1,V.int 2,V.int 3,V.int 4] (by decide +kernel)) (zk G__law_take (hr.mono (by decide)) Y._law_take.mg Y._law_take.kp Y._law_take.b .nil zr (zb (qc 0) (zb zh zc)))) zc)))))
   (zj (zL 6 c__law_mild_town.nd (za1 zc))
   (zj (zL 7 c__law_mild_town.nd (za1 zc))
   (zj (zcm PassesOwn.never rfl (zdN (qv 3)) (zn 8 c__law_mild_town.nd) (zj (zdw 9 c__law_mild_town.nd (za1 (zb zh (zb zh (zb zh (zb (zgf zcT zh) (zb zh (zb (zF ix_list (za1 (zb zaE (zb zh zc))) (zX zda Y.int zev (zb (zaR ze4 (zk G__law_take (hr.mono (by decide)) Y._law_take.mg Y._law_take.kp Y._law_take.b .nil zr (zb (qc 0) (zb zh zc))) zh) zc))) zc))))))))
   (zj (zbm 10 (src:=[none,some 0,some 4,some 2,some 9]) o__law_mild_town_1 rfl rfl c__law_mild_town.nd (zb7 Y.range (zb (zk G__law_take (hr.mono (by decide)) Y._law_take.mg Y._law_take.kp Y._law_take.b .nil zr (zb (qc 0) (zb zh zc))) zc)) (λ_ _ _ _ _=>(zn 0 o__law_mild_town_1.nd)) (λ_ _ _ _ _=>za6) (λ_ _ _ _ _=>(zB (zb (zk G__law_conds (hr.mono (by decide)) Y._law_conds.mg Y._law_conds.kp Y._law_conds.b .nil zr (zb (qc 1) (zb (qc 3) (zb (qc 2) (zb zbv zc))))) (zb (zk G__law_pick (hr.mono (by decide)) Y._law_pick.mg Y._law_pick.kp Y._law_pick.b .nil zr (zb (qc 1) (zb (qc 4) zc))) zc)))))
   (zj (zfm (zjw PySem.F.plainAttrs_list PySem.F.slot_list_append PySem.F.type_list_append zbH (qv 6) (zb (zX zV Y.tuple zax (zb (qv 10) zc)) zc)))
   (zj (zdw 11 c__law_mild_town.nd (za1 (zb (zB (zb zY (zb (zk G__law_pick (hr.mono (by decide)) Y._law_pick.mg Y._law_pick.kp Y._law_pick.b .nil zr (zb (qc 0) (zb (qc 4) zc))) zc))) (zb (zB (zb zY (zb (zk G__law_pick (hr.mono (by decide)) Y._law_pick.mg Y._law_pick.kp Y._law_pick.b .nil zr (zb (qc 0) (zb (qc 4) zc))) zc))) (zb (zB (zb zY (zb (zk G__law_pick (hr.mono (by decide)) Y._law_pick.mg Y._law_pick.kp Y._law_pick.b .nil zr (zb (qc 0) (zb (qc 4) zc))) zc))) zc)))))
   (zj (zfm (zjw PySem.F.plainAttrs_list PySem.F.slot_list_append PySem.F.type_list_append zbH (qc 11) (zb (zF ix_list (za1 (zb (zB (zb zY zc)) (zb (zB (zb zY (zb (zF ix_list (qc 4) zh) zc))) zc))) (zX zda Y.int zev (zb (zaR ze4 (zk G__law_take (hr.mono (by decide)) Y._law_take.mg Y._law_take.kp Y._law_take.b .nil zr (zb (qc 0) (zb zh zc))) zh) zc))) zc)))
   (zj (zbm 10 (src:=[none,some 11,some 0,some 4,some 2]) o__law_mild_town_2 rfl rfl c__law_mild_town.nd (zb7 Y.range (zb (zk G__law_take (hr.mono (by decide)) Y._law_take.mg Y._law_take.kp Y._law_take.b .nil zr (zb (qc 0) (zb zh zc))) zc)) (λ_ _ _ _ _=>(zn 0 o__law_mild_town_2.nd)) (λ_ _ _ _ _=>za6) (λ_ _ _ _ _=>(zB (zb (zk G__law_conds (hr.mono (by decide)) Y._law_conds.mg Y._law_conds.kp Y._law_conds.b .nil zr (zb (qc 2) (zb (qc 4) (zb (qc 3) (zb zbv zc))))) (zb (zk G__law_pick (hr.mono (by decide)) Y._law_pick.mg Y._law_pick.kp Y._law_pick.b .nil zr (zb (qc 2) (zb (qc 1) zc))) zc)))))
   (zl (zfm (zjw PySem.F.plainAttrs_list PySem.F.slot_list_append PySem.F.type_list_append zbH (qv 7) (zb (zX zV Y.tuple zax (zb (qv 10) zc)) zc)))))))))))
   (zl (zA (zB (zb (zk G__law_pick (hr.mono (by decide)) Y._law_pick.mg Y._law_pick.kp Y._law_pick.b .nil zr (zb (qc 0) (zb (qv 3) zc))) (zb (zX zV Y.tuple zax (zb (zx zhU Y.sorted zcJ (zb (qv 3) zc)) zc)) (zb (qv 5) (zb (zX zV Y.tuple zax (zb (qv 6) zc)) (zb (zX zV Y.tuple zax (zb (qv 7) zc)) zc))))))))))))))),?_⟩
  refine⟨_,rfl,a,4,n,rfl,hH,by omega,by decide,by decide,λt H1 t0 t5 hH1 k1=>⟨_,_,rfl,rfl,few rfl,λpl hpl=>⟨_,rfl,a,8,n+1,rfl,hH1.new hpl,by omega,by decide,by decide,λu H2 u0 u8 hH2 k2=>?_⟩⟩⟩
  have hpl2:=k2 _ _ (hH1.ne hpl) (zd (o:= .lst [V.int 3,V.int 4,V.int 5,V.int 6,V.int 4,V.int 3,V.int 2,V.int (7+t)]))
  obtain⟨v,ev,hv⟩:=zeU (xs:=[V.int 3,V.int 4,V.int 5,V.int 6,V.int 4,V.int 3,V.int 2,V.int (7+t)]) u0 u8
  obtain⟨m,rfl,m1,m10⟩:∃m:Nat,v= .int (m:Int)/\1<=m/\m<=10:=by
   simp only[List.mem_cons,List.not_mem_nil,or_false] at hv
   rcases hv with rfl|rfl|rfl|rfl|rfl|rfl|rfl|rfl
   ·exact ⟨3,rfl,by decide,by decide⟩
   ·exact ⟨4,rfl,by decide,by decide⟩
   ·exact ⟨5,rfl,by decide,by decide⟩
   ·exact ⟨6,rfl,by decide,by decide⟩
   ·exact ⟨4,rfl,by decide,by decide⟩
   ·exact ⟨3,rfl,by decide,by decide⟩
   ·exact ⟨2,rfl,by decide,by decide⟩
   ·exact ⟨(7+t).toNat,by congr 1;omega,by omega,by omega⟩
  have kp2:Keep a H H2:=(k1.trans (Keep.new hpl)).trans k2
  refine⟨pl,_,_,_,rfl,rfl,SqL.of hpl2,ev,?_⟩
  refine⟨_,rfl,_,rfl,_,_,rfl,rfl,a,n+1+1,m+3,by push_cast;rfl,hH2,by omega,by omega,by omega,λln xs H3 hln hl3 hlen hxn hxd hxw hH3 k3=>?_⟩
  have nln:ln≠a:=hH2.ne hln
  refine⟨_,rfl,_,rfl,_,rfl,ln,_,rfl,SqL.of hl3,λp1 hp1=>?_⟩
  have S1:Same H3 (upd H3 p1 (.lst (zbu (xs.map V.str) none (some (m:Int))))):=Same.new hp1
  refine⟨_,rfl,_,rfl,_,rfl,ln,_,rfl,SqL.of (S1 _ _ hl3),λp2 hp2=>⟨few rfl,λp3 hp3=>?_⟩⟩
  have S2:=Same.new (o:= .lst (zbu (xs.map V.str) (some (m:Int)) none)) hp2
  have S3:=Same.new (o:= .tup [V.ref p1,V.ref p2]) hp3
  have S13:=(S1.trans S2).trans S3
  have hp1':=S3 _ _ (S2 _ _ (zd (H:=H3) (a:=p1) (o:= .lst (zbu (xs.map V.str) none (some (m:Int))))))
  have hp2':=S3 _ _ (zd (H:=upd H3 p1 (.lst (zbu (xs.map V.str) none (some (m:Int))))) (a:=p2) (o:= .lst (zbu (xs.map V.str) (some (m:Int)) none)))
  refine⟨p3,_,rfl, .inl (.inl zd),rfl,_,_,rfl,_,_,rfl,rfl,?_⟩
  have hl4:=S13 _ _ hl3
  have hH4:=hH3.same S13
  have np1:p1≠a:=hH3.ne hp1
  have np2:p2≠a:=(hH3.same S1).ne hp2
  have kp4:=(kp2.trans k3).trans (Keep.of S13)
  generalize (upd (upd (upd H3 p1 (HO.lst (zbu (xs.map V.str) none (some (m:Int))))) p2 (HO.lst (zbu (xs.map V.str) (some (m:Int)) none))) p3 (HO.tup [V.ref p1,V.ref p2]))=H4 at *
  rw[zeL,←List.map_take] at hp1'
  rw[zeX,←List.map_drop] at hp2'
  have hth:(xs.take m).length=m:=by rw[List.length_take];omega
  have htn:∀x∈xs.take m,zi x=true:=λx hx=>hxn x (List.mem_of_mem_take hx)
  have htw:∀x∈xs.take m,x≠"nowhere":=λx hx=>hxw x (List.mem_of_mem_take hx)
  have htd:(xs.take m).Nodup:=hxd.sublist (List.take_sublist m xs)
  have hdn:∀x∈xs.drop m,zi x=true:=λx hx=>hxn x (List.mem_of_mem_drop hx)
  have hdl:(xs.drop m).length=3:=by rw[List.length_drop];omega
  have hto:∀x∈xs.take m,x∈xs:=λx hx=>List.mem_of_mem_take hx
  have hdo:∀x∈xs.drop m,x∈xs:=λx hx=>List.mem_of_mem_drop hx
  generalize xs.take m=hs at *
  generalize xs.drop m=ms at *
  have NLn:NL xs H4 ln:=⟨xs,hl4,by omega,by omega,λx hx=>⟨hxn x hx,hx⟩⟩
  have NLm:NL xs H4 p2:=⟨ms,hp2',by omega,by omega,λx hx=>⟨hdn x hx,hdo x hx⟩⟩
  refine⟨_,rfl,_,rfl,few rfl,λpk hpk=>⟨_,rfl,a,4,_,rfl,hH4.new hpk,by omega,by decide,by decide,λu4 H5 u40 u44 hH5 k5=>?_⟩⟩
  have hpk5:=k5 _ _ (hH4.ne hpk) zd
  obtain⟨v4,ev4,hv4⟩:=zeU (xs:=[V.int 1,V.int 2,V.int 3,V.int 4]) u40 u44
  obtain⟨mo,rfl,mo30⟩:∃mo:Nat,v4= .int (mo:Int)/\mo<=30:=by
   simp only[List.mem_cons,List.not_mem_nil,or_false] at hv4
   rcases hv4 with rfl|rfl|rfl|rfl
   ·exact ⟨1,rfl,by decide⟩
   ·exact ⟨2,rfl,by decide⟩
   ·exact ⟨3,rfl,by decide⟩
   ·exact ⟨4,rfl,by decide⟩
  have k45:Keep a H4 H5:=(Keep.new hpk).trans k5
  have hp15:=k45 _ _ np1 hp1'
  refine⟨pk,_,_,_,rfl,rfl,SqL.of hpk5,ev4,?_⟩
  refine⟨a,p1,_,mo,hs,rfl,hH5,by omega,hp15,np1,by omega,by omega,htd,htn,mo30,λvt ps H6 rt hpw hpg hH6 k6=>?_⟩
  have hp16:=k6 _ _ np1 hp15
  refine⟨few rfl,λl6 hl6=>?_⟩
  refine⟨few rfl,λl7 hl7=>?_⟩
  have n6:l6≠a:=hH6.ne hl6
  have n7:l7≠a:=(hH6.new hl6).ne hl7
  have n67:l7≠l6:=λz=>by rw[z,zd] at hl7;cases hl7
  have hl76:H6 l7=none:=by rw[zq n67] at hl7;exact hl7
  have S8:Same H6 (upd (upd H6 l6 (.lst [])) l7 (.lst [])):=(Same.new hl6).trans (Same.new hl7)
  have e68:(upd (upd H6 l6 (.lst [])) l7 (.lst [])) l6=some (.lst []):=by rw[zq (Ne.symm n67)];exact zd
  have e78:(upd (upd H6 l6 (.lst [])) l7 (.lst [])) l7=some (.lst []):=zd
  have hH8:=hH6.same S8
  generalize (upd (upd H6 l6 (HO.lst [])) l7 (HO.lst []))=H8 at *
  have k46:Keep a H4 H6:=k45.trans k6
  refine⟨_,rfl,p1,rfl,⟨_,SqL.of (S8 _ _ hp16)⟩,?_⟩
  refine zbq (zdt (K:=K) (xs:=hs.map V.str)) (λi σ' H'=>(∃o8 o9 o10 o11,σ'=[some (.ref a),some (.int (m:Int)),some (.ref ln),some (.ref p1),some (.ref p2),some vt,some (.ref l6),some (.ref l7),o8,o9,o10,o11])/\Rows zcZ xs H' l6 i/\Rows zh1 xs H' l7 i/\Hand H' a (n+300+130*i)/\Keep a H6 H') ?_ ?_ ?_ ?_
  ·exact ⟨⟨_,_,_,_,rfl⟩,⟨[],[],e68,RepL.nil,rfl,λ_ z=>nomatch z⟩,⟨[],[],e78,RepL.nil,rfl,λ_ z=>nomatch z⟩,hH8.mono (by omega),Keep.of S8⟩
  ·exact λi σ' H' z=>SqL.of (z.2.2.2.2 _ _ np1 hp16)
  ·rintro i y σ' H9 hi hy ⟨⟨o8,o9,o10,o11,rfl⟩,R6,R7,hH9,k9⟩
   rw[List.length_map] at hi
   have NLn9:=(NLn.keep k46 nln).keep k9 nln
   have NLm9:=(NLm.keep k46 np2).keep k9 np2
   refine⟨3,rfl,few rfl,λpq hpq=>⟨_,rfl,a,3,_,rfl,hH9.new hpq,by omega,by decide,by decide,λt HA t0 t3 hHA kA=>⟨_,_,rfl,rfl,?_⟩⟩⟩
   have pqA:=kA _ _ (hH9.ne hpq) zd
   obtain⟨vx,dx,evx,hvx,hwx,hpx⟩:∃(vx:V) (dx:D),atI [V.non,V.int 2] (if decide (t>0)=true then(1:Int)else 0)=some vx/\(∀H:Hp,Rep H vx dx)/\zdi dx=true/\zal xs dx=true:=by
    by_cases h:t>0
    ·exact ⟨_, .int 2,by rw[if_pos (decide_eq_true h)];exact at1,λH=> .int 2,by decide,rfl⟩
    ·exact ⟨_, .non,by rw[if_neg (by simpa using h)];exact at0,λH=> .non,by decide,rfl⟩
   refine .inr ⟨_,rfl,pq,_,_,vx,rfl,rfl,SqL.of pqA,evx,few rfl,λpw hpw=>?_⟩
   have k9A:Keep a H9 (upd HA pw (.lst [V.int 5,V.int 1,V.int 5,V.int (-3),V.int 9,vx])):=((Keep.new hpq).trans kA).trans (Keep.new hpw)
   have hHB:=hHA.new (o:= .lst [V.int 5,V.int 1,V.int 5,V.int (-3),V.int 9,vx]) hpw
   have npw:pw≠a:=hHA.ne hpw
   have eB:(upd HA pw (.lst [V.int 5,V.int 1,V.int 5,V.int (-3),V.int 9,vx])) pw=some (.lst [V.int 5,V.int 1,V.int 5,V.int (-3),V.int 9,vx]):=zd
   show zh2 _ _ _ _ (upd HA pw (.lst [V.int 5,V.int 1,V.int 5,V.int (-3),V.int 9,vx]))
   generalize (upd HA pw (HO.lst [V.int 5,V.int 1,V.int 5,V.int (-3),V.int 9,vx]))=HB at *
   refine⟨_,rfl,a,4,_,rfl,hHB,by omega,by decide,by decide,λt2 HC t20 t24 hHC kC=>⟨_,rfl,by omega,by omega,?_⟩⟩
   have hN:t2.toNat<=3:=by omega
   generalize t2.toNat=N at *
   have k9C:=k9A.trans kC
   have NLnC:=NLn9.keep k9C nln
   have NLmC:=NLm9.keep k9C np2
   have eC:=kC _ _ npw eB
   refine zet (a:=a) (m:=n+300+130*i+1+1) (c:=18) (Pd:=λ_ d=>zj3 xs d=true) (σr:=[some (.ref a),some (.ref p2),some (.ref ln),some (.ref pw)]) rfl hHC (by omega) (by decide) (λj HD Q1 hj hHD kD q1=>?_) (λls vs ds HD hls hlsD rls hds pd hHD kD=>?_)
   ·refine ⟨_,rfl,_,rfl,_,rfl,a,ln,p2,_,false,xs,rfl,hHD,by omega,NLnC.keep kD nln,NLmC.keep kD np2,nln,np2,λvc dc HE rc lc hc hco hto hHE kE=>?_⟩
    have eE:=kE _ _ npw (kD _ _ npw eC)
    have rE:RepL HE [V.int 5,V.int 1,V.int 5,V.int (-3),V.int 9,vx] [.int 5, .int 1, .int 5, .int (-3), .int 9,dx]:= .cons (.int 5) (.cons (.int 1) (.cons (.int 5) (.cons (.int (-3)) (.cons (.int 9) (.cons (hvx HE) .nil)))))
    refine⟨_,rfl,_,rfl,zln hHE (by omega) eE rE λv d HF hd rv hHF kF=>⟨few rfl,λp7 hp7=>?_⟩⟩
    have hw:zdi d=true/\zal xs d=true:=by
     simp only[List.mem_cons,List.not_mem_nil,or_false] at hd
     rcases hd with rfl|rfl|rfl|rfl|rfl|rfl
     ·exact ⟨by decide,rfl⟩
     ·exact ⟨by decide,rfl⟩
     ·exact ⟨by decide,rfl⟩
     ·exact ⟨by decide,rfl⟩
     ·exact ⟨by decide,rfl⟩
     ·exact ⟨hwx,hpx⟩
    refine q1 _ (.tup [.tup dc,d]) _ (.mk2 zd ((rc.mono (.keep kF hHE hHF)).mono (.new hp7)) (rv.mono (.new hp7))) ?_ ((hHF.new hp7).mono (by omega)) ((kE.trans kF).trans (Keep.new hp7))
    exact Bool.and_eq_true _ _▸⟨zmb lc hc (hto rfl) hw.1,zhI hco hw.2⟩
   dsimp only[zaM]
   have pd':=zgi (P:=λd=>zj3 xs d=true) pd
   have k9D:=k9C.trans kD
   obtain⟨z6,d6,h6,r6,c6,q6⟩:=R6.keep k9D n6 hH9 hHD
   have R7D:=R7.keep k9D n7 hH9 hHD
   refine⟨_,rfl, .inl ⟨rfl,_,SqL.of h6⟩,_,rfl,ls,vs,rfl, .inl ⟨SqL.of hlsD,λpt hpt=>?_⟩⟩
   have ST:=Same.new (o:= .tup vs) hpt
   have h6T:=ST _ _ h6
   have RT:Rep (upd HD pt (.tup vs)) (.ref pt) (.tup ds):= .mkL zd (by omega) (rls.mono (.new hpt))
   have hz6:=r6.1
   refine⟨l6,_,_,rfl,rfl,h6T,zm (by omega),?_⟩
   have R6U:Rows zcZ xs (upd (upd HD pt (.tup vs)) l6 (.lst (z6 ++ [.ref pt]))) l6 (i+1):=Rows.put h6T (r6.mono (.of ST)) c6 q6 RT (zhe rfl (by omega) pd')
   have hHT:=hHD.new (o:= .tup vs) hpt
   have hHU:=hHT.updNe (o:= .lst (z6 ++ [V.ref pt])) n6
   have kU:Keep a H6 (upd (upd HD pt (.tup vs)) l6 (.lst (z6 ++ [.ref pt]))):=Keep.updNew ((k9.trans k9D).trans (Keep.of ST)) hl6
   have R7U:Rows zh1 xs (upd (upd HD pt (.tup vs)) l6 (.lst (z6 ++ [.ref pt]))) l7 i:=by
    obtain⟨z7,d7,h7,r7,c7,q7⟩:=R7D
    exact⟨z7,d7,by rw[zq n67];exact ST _ _ h7,(r7.mono (.of ST)).mono (.lset h6T),c7,q7⟩
   show zh2 _ _ _ _ (upd (upd HD pt (.tup vs)) l6 (.lst (z6 ++ [.ref pt])))
   generalize (upd (upd HD pt (HO.tup vs)) l6 (HO.lst (z6 ++ [V.ref pt])))=HU at *
   have k4U:=k46.trans kU
   have NLmU:=NLm.keep k4U np2
   have NLnU:=NLn.keep k4U nln
   obtain⟨z7,d7,h7,r7,c7,q7⟩:=R7U
   refine⟨_,rfl,_,rfl,zcK hHU (by omega) NLmU np2 λx1 H11 hx1 hH11 k11=>⟨few rfl,λq1 hq1=>?_⟩⟩
   have NLm1:=(NLmU.keep k11 np2).same (Same.new (o:= .tup [V.str "put",V.str x1]) hq1)
   refine⟨_,rfl,_,rfl,zcK (hH11.new hq1) (by omega) NLm1 np2 λx2 H12 hx2 hH12 k12=>⟨few rfl,λq2 hq2=>?_⟩⟩
   have NLm2:=(NLm1.keep k12 np2).same (Same.new (o:= .tup [V.str "strike",V.str x2]) hq2)
   refine⟨_,rfl,_,rfl,zcK (hH12.new hq2) (by omega) NLm2 np2 λx3 H13 hx3 hH13 k13=>⟨few rfl,λq3 hq3=>⟨few rfl,λql hql=>?_⟩⟩⟩
   have M12:=Mono.keep k12 (hH11.new hq1) hH12
   have M13:=Mono.keep k13 (hH12.new hq2) hH13
   have S3:=Same.new (o:= .tup [V.str "put",V.str x3]) hq3
   have Sl:=Same.new (o:= .lst [V.ref q1,V.ref q2,V.ref q3]) hql
   have hH14:=(hH13.same S3).same Sl
   have kUe:Keep a HU (upd (upd H13 q3 (.tup [V.str "put",V.str x3])) ql (.lst [V.ref q1,V.ref q2,V.ref q3])):=((((k11.trans (Keep.new hq1)).trans k12).trans (Keep.new hq2)).trans k13).trans ((Keep.of S3).trans (Keep.of Sl))
   have r14:RepL (upd (upd H13 q3 (.tup [V.str "put",V.str x3])) ql (.lst [V.ref q1,V.ref q2,V.ref q3])) [V.ref q1,V.ref q2,V.ref q3] [.tup [.str "put", .str x1], .tup [.str "strike", .str x2], .tup [.str "put", .str x3]]:=
    .cons (Rep.mono (.mk2 zd (.str _ (by decide)) (.str _ (zH hx1.1))) (((M12.trans (.new hq2)).trans M13).trans ((Mono.of S3).trans (.of Sl)))) (.cons (Rep.mono (.mk2 zd (.str _ (by decide)) (.str _ (zH hx2.1))) (M13.trans ((Mono.of S3).trans (.of Sl)))) (.cons (Rep.mono (.mk2 zd (.str _ (by decide)) (.str _ (zH hx3.1))) (.of Sl)) .nil))
   have e14:(upd (upd H13 q3 (.tup [V.str "put",V.str x3])) ql (.lst [V.ref q1,V.ref q2,V.ref q3])) ql=some (.lst [V.ref q1,V.ref q2,V.ref q3]):=zd
   have nql:ql≠a:=(hH13.same S3).ne hql
   have hqlU:HU ql=none:=by
    cases e:HU ql with
    |none=>rfl
    |some o=>exact absurd (S3 _ _ (((((k11.trans (Keep.new hq1)).trans k12).trans (Keep.new hq2)).trans k13) ql o nql e)) (by rw[hql];exact λz=>nomatch z)
   show zh2 _ _ _ _ (upd (upd H13 q3 (.tup [V.str "put",V.str x3])) ql (.lst [V.ref q1,V.ref q2,V.ref q3]))
   generalize (upd (upd H13 q3 (HO.tup [V.str "put",V.str x3])) ql (HO.lst [V.ref q1,V.ref q2,V.ref q3]))=HV at *
   obtain⟨m0,mr,emr⟩:∃m0 mr,ms=m0::mr:=by
    match ms,hdl with
    |m0::mr,_=>exact ⟨m0,mr,rfl⟩
   have hp2V:=kUe _ _ np2 (k4U _ _ np2 hp2')
   have hm0:m0∈ms:=by rw[emr];exact List.mem_cons_self
   rw[emr] at hp2V
   refine⟨_,rfl, .inl ⟨rfl,_,SqL.of e14⟩,few rfl,λb1 hb1=>?_⟩
   have T1:=Same.new (o:= .tup [V.str "keep"]) hb1
   refine⟨_,rfl,p2,_,0,_,rfl,rfl,SqL.of (T1 _ _ hp2V),at0,few rfl,λb2 hb2=>⟨few rfl,λb3 hb3=>?_⟩⟩
   have T2:=Same.new (o:= .tup [V.str "put",V.str m0]) hb2
   have T3:=Same.new (o:= .lst [V.ref b1,V.ref b2]) hb3
   have T13:=(T1.trans T2).trans T3
   have ra1:=Rep.mono (H':=upd (upd (upd HV b1 (.tup [V.str "keep"])) b2 (.tup [V.str "put",V.str m0])) b3 (.lst [V.ref b1,V.ref b2])) (Rep.mk1 (zd (H:=HV) (a:=b1) (o:= .tup [V.str "keep"])) (.str "keep" (by decide))) (.of (T2.trans T3))
   have ra2:=Rep.mono (H':=upd (upd (upd HV b1 (.tup [V.str "keep"])) b2 (.tup [V.str "put",V.str m0])) b3 (.lst [V.ref b1,V.ref b2])) (Rep.mk2 (zd (H:=upd HV b1 (.tup [V.str "keep"])) (a:=b2) (o:= .tup [V.str "put",V.str m0])) (.str "put" (by decide)) (.str m0 (zH (hdn m0 hm0)))) (.of T3)
   have e3:=zd (H:=upd (upd HV b1 (.tup [V.str "keep"])) b2 (.tup [V.str "put",V.str m0])) (a:=b3) (o:= .lst [V.ref b1,V.ref b2])
   have nb3:b3≠a:=((hH14.same T1).same T2).ne hb3
   have hH15:=hH14.same T13
   generalize (upd (upd (upd HV b1 (HO.tup [V.str "keep"])) b2 (HO.tup [V.str "put",V.str m0])) b3 (HO.lst [V.ref b1,V.ref b2]))=HW at *
   refine⟨_,rfl,a,3,_,rfl,hH15,by omega,by decide,by decide,λt5 HX t50 t53 hHX kX=>⟨_,_,rfl,rfl,?_⟩⟩
   obtain⟨vy,dy,evy,hvy,hay,hpy⟩:∃(vy:V) (dy:D),atI [V.ref b1,V.ref b2] (if decide (t5>0)=true then(1:Int)else 0)=some vy/\Rep HX vy dy/\zcS dy=true/\zal xs dy=true:=by
    have MX:=Mono.keep kX hH15 hHX
    by_cases h:t5>0
    ·exact ⟨_,_,by rw[if_pos (decide_eq_true h)];exact at1,ra2.mono MX,zh0 (hdn m0 hm0) (.inl rfl),zbf (hdo m0 hm0)⟩
    ·exact ⟨_,_,by rw[if_neg (by simpa using h)];exact at0,ra1.mono MX,by decide +kernel,rfl⟩
   have e14X:=kX _ _ nql (T13 _ _ e14)
   have kVX:Keep a HV HX:=(Keep.of T13).trans kX
   have r14X:=r14.mono (.keep kVX hH14 hHX)
   refine .inr ⟨_,rfl,b3,_,_,vy,rfl,rfl,SqL.of (kX _ _ nb3 e3),evy,?_⟩
   refine⟨ql,_,_,rfl,rfl,e14X,zm (by decide:3<=1000),?_⟩
   have eY:(upd HX ql (.lst ([V.ref q1,V.ref q2,V.ref q3]++ [vy]))) ql=some (.lst ([V.ref q1,V.ref q2,V.ref q3]++ [vy])):=zd
   have rY:RepL (upd HX ql (.lst ([V.ref q1,V.ref q2,V.ref q3]++ [vy]))) ([V.ref q1,V.ref q2,V.ref q3]++ [vy]) [.tup [.str "put", .str x1], .tup [.str "strike", .str x2], .tup [.str "put", .str x3],dy]:=(r14X.append (.cons hvy .nil)).mono (.lset e14X)
   have hHY:=hHX.updNe (o:= .lst ([V.ref q1,V.ref q2,V.ref q3]++ [vy])) nql
   have kUY:Keep a HU (upd HX ql (.lst ([V.ref q1,V.ref q2,V.ref q3]++ [vy]))):=Keep.updNew (kUe.trans kVX) hqlU
   show zh2 _ _ _ _ (upd HX ql (.lst ([V.ref q1,V.ref q2,V.ref q3]++ [vy])))
   generalize (upd HX ql (HO.lst ([V.ref q1,V.ref q2,V.ref q3]++ [vy])))=HY at *
   refine⟨_,rfl,a,4,_,rfl,hHY,by omega,by decide,by decide,λt6 HZ t60 t64 hHZ kZ=>⟨_,rfl,by omega,by omega,?_⟩⟩
   have hN6:t6.toNat<=3:=by omega
   generalize t6.toNat=N6 at *
   have kUZ:=kUY.trans kZ
   have NLnZ:=NLnU.keep kUZ nln
   have NLmZ:=NLmU.keep kUZ np2
   have eZ:=kZ _ _ nql eY
   have rZ:=rY.mono (.keep kZ hHY hHZ)
   refine zet (a:=a) (m:=n+300+130*i+1+1+18*(N:Int)+1+1+1+1+1) (c:=18) (Pd:=λ_ d=>zkE xs d=true) (σr:=[some (.ref ql),some (.ref a),some (.ref p2),some (.ref ln)]) rfl hHZ (by omega) (by decide) (λj HE Q1 hj hHE kE q1=>?_) (λls2 vs2 ds2 HE hls2 hlsE rls2 hds2 pd2 hHE kE=>?_)
   ·refine ⟨_,rfl,_,rfl,_,rfl,a,ln,p2,_,true,xs,rfl,hHE,by omega,NLnZ.keep kE nln,NLmZ.keep kE np2,nln,np2,λvc dc HF rc lc hc hco hto hHF kF=>?_⟩
    have eF:=kF _ _ nql (kE _ _ nql eZ)
    have rF:=(rZ.mono (.keep kE hHZ hHE)).mono (.keep kF hHE hHF)
    refine⟨_,rfl,_,rfl,zln hHF (by omega) eF rF λv d HG hd rv hHG kG=>⟨few rfl,λp7 hp7=>?_⟩⟩
    have hw:zcS d=true/\zal xs d=true:=by
     simp only[List.mem_cons,List.not_mem_nil,or_false] at hd
     rcases hd with rfl|rfl|rfl|rfl
     ·exact ⟨zh0 hx1.1 (.inl rfl),zbf hx1.2⟩
     ·exact ⟨zh0 hx2.1 (.inr rfl),zbf hx2.2⟩
     ·exact ⟨zh0 hx3.1 (.inl rfl),zbf hx3.2⟩
     ·exact ⟨hay,hpy⟩
    refine q1 _ (.tup [.tup dc,d]) _ (.mk2 zd ((rc.mono (.keep kG hHF hHG)).mono (.new hp7)) (rv.mono (.new hp7))) ?_ ((hHG.new hp7).mono (by omega)) ((kF.trans kG).trans (Keep.new hp7))
    exact Bool.and_eq_true _ _▸⟨zo2 lc hc hw.1,zhI hco hw.2⟩
   dsimp only[zaM]
   have pd2':=zgi (P:=λd=>zkE xs d=true) pd2
   have kUE:=kUZ.trans kE
   have R7E:Rows zh1 xs HE l7 i:=Rows.keep ⟨z7,d7,h7,r7,c7,q7⟩ kUE n7 hHU hHE
   have R6E:=R6U.keep kUE n6 hHU hHE
   obtain⟨z8,d8,h8,r8,c8,q8⟩:=R7E
   have hz8:=r8.1
   refine⟨_,rfl, .inl ⟨rfl,_,SqL.of h8⟩,_,rfl,ls2,vs2,rfl, .inl ⟨SqL.of hlsE,λpt2 hpt2=>?_⟩⟩
   have ST2:=Same.new (o:= .tup vs2) hpt2
   have h8T:=ST2 _ _ h8
   have RT2:Rep (upd HE pt2 (.tup vs2)) (.ref pt2) (.tup ds2):= .mkL zd (by omega) (rls2.mono (.new hpt2))
   refine⟨l7,_,_,rfl,rfl,h8T,zm (by omega),⟨_,_,_,_,rfl⟩,?_,Rows.put h8T (r8.mono (.of ST2)) c8 q8 RT2 (zjq rfl (by omega) pd2'),?_,?_⟩
   ·obtain ⟨z9,d9,h9,r9,c9,q9⟩:=R6E
    exact⟨z9,d9,by rw[zq (Ne.symm n67)];exact ST2 _ _ h9,(r9.mono (.of ST2)).mono (.lset h8T),c9,q9⟩
   ·exact ((hHE.new hpt2).updNe n7).mono (by push_cast;omega)
   ·exact Keep.updNew ((kU.trans kUE).trans (Keep.of ST2)) hl76
  ·rintro σ' H9 ⟨⟨o8,o9,o10,o11,rfl⟩,R6,R7,hH9,k9⟩
   rw[List.length_map] at R6 R7 hH9
   have hp19:=k9 _ _ np1 hp16
   refine⟨_,rfl,_,rfl,a,_,hH9,by omega, .inl ⟨p1,_,rfl,np1,SqL.of hp19,by rw[List.length_map];omega,by rw[List.length_map];omega,λvg HA hvg hHA kA=>?_⟩⟩
   obtain⟨g,hg,rfl⟩:=List.mem_map.mp hvg
   have hp1A:=kA _ _ np1 hp19
   have R6A:=R6.keep kA n6 hH9 hHA
   have R7A:=R7.keep kA n7 hH9 hHA
   have rtA:=rt.mono (.keep (k9.trans kA) hH6 hHA)
   refine⟨_,rfl,p1,hs,rfl,SqL.of hp1A,by omega,htd,λhs' l hperm hrise hl=>⟨l,_,rfl, .inl ⟨SqL.of zd,λpr hpr=>?_⟩⟩⟩
   have SB:Same HA (upd (upd HA l (.lst (hs'.map V.str))) pr (.tup (hs'.map V.str))):=(Same.new hl).trans (Same.new hpr)
   have hprB:(upd (upd HA l (.lst (hs'.map V.str))) pr (.tup (hs'.map V.str))) pr=some (.tup (hs'.map V.str)):=zd
   have hHB:=hHA.same SB
   generalize (upd (upd HA l (HO.lst (hs'.map V.str))) pr (HO.tup (hs'.map V.str)))=HB at *
   obtain⟨z6,lks,h6,r6,c6,q6⟩:=R6A
   obtain⟨z7,hds,h7,r7,c7,q7⟩:=R7A
   refine⟨_,rfl,_,rfl,l6,z6,rfl, .inl ⟨SqL.of (SB _ _ h6),λpA hpA=>?_⟩⟩
   have SA:=Same.new (o:= .tup z6) hpA
   have hH10:=hHB.same SA
   have rlA:Rep (upd HB pA (.tup z6)) (.ref pA) (.tup lks):= .mkL zd (by omega) ((r6.mono (.of SB)).mono (.new hpA))
   refine⟨_,rfl,l7,z7,rfl, .inl ⟨SqL.of (SA _ _ (SB _ _ h7)),λpB hpB=>⟨few rfl,λpT hpT=>?_⟩⟩⟩
   have SC:=Same.new (o:= .tup z7) hpB
   have rhA:Rep (upd (upd HB pA (.tup z6)) pB (.tup z7)) (.ref pB) (.tup hds):= .mkL zd (by omega) (((r7.mono (.of SB)).mono (.of SA)).mono (.new hpB))
   have rlB:=rlA.same SC
   have hprC:=SC _ _ (SA _ _ hprB)
   have rtC:=((rtA.same SB).same SA).same SC
   have hHC:=hH10.same SC
   have hlen':hs'.length=m:=by rw[hperm.length_eq];exact hth
   have SBC:Same HA (upd (upd HB pA (.tup z6)) pB (.tup z7)):=(SB.trans SA).trans SC
   generalize (upd (upd HB pA (HO.tup z6)) pB (HO.tup z7))=HC at *
   have rr:Rep HC (.ref pr) (.tup (hs'.map D.str)):= .mkL hprC (by rw[List.length_map];omega) (zbr λx hx=>zH (htn x (hperm.mem_iff.mp hx)))
   have ST:=Mono.new (o:= .tup [.str g, .ref pr,vt, .ref pA, .ref pB]) hpT
   have rtown:=Rep.mkL (H:=upd HC pT (.tup [.str g, .ref pr,vt, .ref pA, .ref pB])) (p:=pT) (vs:=[.str g, .ref pr,vt, .ref pA, .ref pB]) (ds:=[.str g, .tup (hs'.map D.str), .tup (ps.map pairD), .tup lks, .tup hds]) zd (Nat.le_of_ble_eq_true rfl) (.cons (.str g (zH (htn g hg))) (.cons (rr.mono ST) (.cons (rtC.mono ST) (.cons (rlB.mono ST) (.cons (rhA.mono ST) .nil)))))
   refine q _ g hs' ps lks hds _ rtown ⟨hrise,by omega,by omega,λx hx=>htn x (hperm.mem_iff.mp hx),hperm.mem_iff.mpr hg,hpw,λp hp=>?_,by omega,by omega,λd hd=>(q6 d hd).1,λd hd=>((Bool.and_eq_true _ _).mp (q7 d hd).1).1⟩ (λx hx=>htw x (hperm.mem_iff.mp hx)) ⟨xs,⟨by omega,hxn,λx hx=>hto x (hperm.mem_iff.mp hx),λd hd=>(q6 d hd).2,λd hd=>(q7 d hd).2⟩,by omega,hxw⟩ (λd hd=>((Bool.and_eq_true _ _).mp (q7 d hd).1).2) ((hHC.new hpT).mono (by omega)) (((kp4.trans k46).trans (k9.trans kA)).trans ((Keep.of SBC).trans (Keep.new hpT)))
   obtain⟨h1,h2,h3⟩:=hpg p hp
   exact⟨hperm.mem_iff.mpr h1,hperm.mem_iff.mpr h2,h3⟩
end
section
variable{P:Program}{w:World}{K:PySem.W.Frag}{mg:Str->Option Value}{base:Heap}
noncomputable def zhD:Sp:=λvs H Q _=>∃(a:Addr) (n:Int) (v:V) (g:Str) (hs:List Str) (ps:List (Str×Str)) (lks hds:List D),vs=[.ref a,v]/\Hand H a n/\n<2^37/\Rep H v (zcn g hs ps lks hds)/\TownOk g hs ps lks hds/\∀(v':V) (ws:List Str) (H':Hp),Rep H' v' (.tup (ws.map D.str))->WayOk g hs ps ws->Hand H' a (n+10)->Keep a H H'->Q v' H'
theorem zjM(Y:Ev K mg):FnOk P w K mg base CX0 3 Y.a__law_some_way Y.d__law_some_way za2 zhD:=by
 have G__law_pick:FnOk P w K mg base CX0 2 Y.a__law_pick Y.d__law_pick zan (zcA K):=zdx Y
 refine Y._law_some_way.fn.okQ c__law_some_way (λvs H Q E h=>?_) (λcdv A outer s H vs Q E hr h=>?_)
 ·obtain ⟨a,n,v,g,hs,ps,lks,hds,rfl,_⟩:=h;rfl
 ·obtain ⟨a,n,v,g,hs,ps,lks,hds,rfl,hH,hn,hv,T,q⟩:=h
  obtain⟨p,pr,pt,pl,pa,vt,vl,va,rfl,hp,hpr,hpt,rt,hpl,rl,hpa,ra⟩:=zcg hv
  have TP:=T.lp
  have T10:=T.ten
  have gn:zi g=true:=T.names g T.goal
  have npa:∀{b o},H b=some (.tup o)->b≠a:=λ{b o} e z=>by obtain⟨_,_,_,e',_⟩:=hH;rw[z,e'] at e;cases e
  refine⟨_,(zj (zdw 2 c__law_some_way.nd (zB (zb (zF ix_tup (qv 1) zh) zc)))
   (zj (zcm PassesOwn.never rfl (zb7 Y.range (zb (zk G__law_pick (hr.mono (by decide)) Y._law_pick.mg Y._law_pick.kp Y._law_pick.b .nil zr (zb (qv 0) (zb (zfg [V.int 0,V.int 1,V.int 2,V.int 3,V.int 9,V.int 9] (by decide +kernel)) zc))) zc)) (zn 3 c__law_some_way.nd) (zj (zL 4 c__law_some_way.nd (zN zbV (zaj (src:=[none,some 2]) o__law_some_way_1 rfl rfl (zaP (zF ix_tup (qv 1) zh)) (λ_ _ _ _ _=>(zn 0 o__law_some_way_1.nd)) (λ_ _ _ _ _=>(zc9 (zJ zas (zF (zaL (K:=K) rfl) (qv 0) zh) (zF (zaL (K:=K) rfl) (qc 1) zh)))) (λ_ _ _ _ _=>(zF (zaL (K:=K) rfl) (qv 0) zh))) (zaj (src:=[none,some 2]) o__law_some_way_2 rfl rfl (zaP (zF ix_tup (qv 1) zh)) (λ_ _ _ _ _=>(zn 0 o__law_some_way_2.nd)) (λ_ _ _ _ _=>(zc9 (zJ zas (zF (zaL (K:=K) rfl) (qv 0) zh) (zF (zaL (K:=K) rfl) (qc 1) zh)))) (λ_ _ _ _ _=>(zF (zaL (K:=K) rfl) (qv 0) zh)))))
   (zj (zbm 4 (src:=[none,some 2]) o__law_some_way_3 rfl rfl c__law_some_way.nd (zdN (qv 4)) (λ_ _ _ _ _=>(zn 0 o__law_some_way_3.nd)) (λ_ _ _ _ _=>(zc9 (zJ (zg4 (K:=K) rfl) (qv 0) (qc 1)))) (λ_ _ _ _ _=>(qv 0)))
   (zj (zaq (zJ (zgL (zgQ hr)) (qv 4) (za1 zc)) (zl (zA (qc 2))) zT)
   (zl (zdw 2 c__law_some_way.nd (zN zed (zB (zb (zk G__law_pick (hr.mono (by decide)) Y._law_pick.mg Y._law_pick.kp Y._law_pick.b .nil zr (zb (qv 0) (zb (qv 4) zc))) zc)) (qc 2))))))))
   (zl (zA (qc 2))))),?_⟩
  refine⟨_,rfl,p,_,0,_,rfl,rfl, .inl (.inl hp),at0,few rfl,λpw hpw=>?_⟩
  have S1:=Same.new (o:= .tup [.str g]) hpw
  have rw1:Rep (upd H pw (.tup [.str g])) (.ref pw) (.tup ([g].map D.str)):= .mk1 zd (.str g (zH gn))
  have hH1:=hH.same S1
  generalize (upd H pw (HO.tup [V.str g]))=H1 at *
  refine⟨_,rfl,by decide,λpk hpk=>⟨a,_,hH1.new hpk,by omega, .inl ⟨pk,_,rfl,hH1.ne hpk,SqL.of zd,by decide,by decide,λv H2 hv2 hH2 k2=>?_⟩⟩⟩
  obtain⟨m,rfl,m9⟩:∃m:Nat,v= .int (m:Int)/\m<=9:=by
   simp only[List.mem_cons,List.not_mem_nil,or_false] at hv2
   rcases hv2 with rfl|rfl|rfl|rfl|rfl|rfl
   ·exact ⟨0,rfl,by decide⟩
   ·exact ⟨1,rfl,by decide⟩
   ·exact ⟨2,rfl,by decide⟩
   ·exact ⟨3,rfl,by decide⟩
   ·exact ⟨9,rfl,by decide⟩
   ·exact ⟨9,rfl,by decide⟩
  have k12:Keep a H1 H2:=(Keep.new hpk).trans k2
  have k02:Keep a H H2:=(Keep.of S1).trans k12
  have m12:Mono H1 H2:= .keep k12 hH1 hH2
  refine⟨_,rfl,by omega,by omega,?_⟩
  have em:((m:Int)).toNat=m:=by omega
  rw[em]
  refine zbq zcv (λi σ' H'=>(∃vw ws o3 o4,σ'=[some (.ref a),some (.ref p),some vw,o3,o4]/\Rep H' vw (.tup (ws.map D.str))/\WayOk g hs ps ws)/\Hand H' a (n+1+i)/\Keep a H H') ⟨⟨_,[g],_,_,rfl,rw1.mono m12, .one T.goal⟩,hH2.mono (by omega),k02⟩ (λ_ _ _ _=>trivial) ?_ ?_
  ·rintro i y σ' H3 hi rfl ⟨⟨vw,ws,o3,o4,rfl,rw3,W⟩,hH3,k3⟩
   obtain⟨w0,wr,rfl⟩:∃w0 wr,ws=w0::wr:=by
    match ws,W.len.1 with
    |w0::wr,_=>exact ⟨w0,wr,rfl⟩
   obtain⟨pw,rfl,hpw3⟩:=zbs rw3
   have hp3:=k3 _ _ (npa hp) hp
   have hpt3:=k3 _ _ (npa hpt) hpt
   have m03:Mono H H3:= .keep k3 hH hH3
   have rt3:=rt.mono m03
   have wl:=W.len
   have wn:∀x∈w0::wr,zi x=true:=λx hx=>T.names x (W.mem x hx)
   refine⟨_,rfl,p,_,2,_,rfl,rfl, .inl (.inl hp3),zG (j:=2) rfl,pt,rfl,⟨_, .inl (.inl hpt3)⟩,?_⟩
   refine zeE (ps:=ps) (sel:=λp=>decide (p.1=w0)) (f:=(·.2)) (λσ'=>∃o1,σ'=[o1,some (.ref pw)]) (zaG (K:=K)) (λH' s'=> .inl (.inl (s' _ _ hpt3))) rt3 (by omega) ⟨_,rfl⟩ ?_ λl4 H4 s4 hl4 e4=>?_
   ·rintro q p σ' HA A B ⟨o1,rfl⟩ sA hq hpA k
    refine⟨_,rfl,q,_,0,_,rfl,rfl, .inl (.inl hq),at0,_,rfl,pw,_,0,_,rfl,rfl, .inl (.inl (sA _ _ hpw3)),at0,rfl,_,rfl,?_⟩
    have k:=k [some (.ref q),some (.ref pw)] ⟨_,rfl⟩
    rw[zag]
    cases e:decide (p.1=w0)with
    |false=>rw[e] at k;exact k
    |true=>rw[e] at k;exact⟨_,rfl,q,_,1,_,rfl,rfl, .inl (.inl hq),at1,k⟩
   refine⟨_,rfl,p,_,2,_,rfl,rfl, .inl (.inl (s4 _ _ hp3)),zG (j:=2) rfl,pt,rfl,⟨_, .inl (.inl (s4 _ _ hpt3))⟩,?_⟩
   refine zeE (ps:=ps) (sel:=λp=>decide (p.2=w0)) (f:=(·.1)) (λσ'=>∃o1,σ'=[o1,some (.ref pw)]) (zaG (K:=K)) (λH' s'=> .inl (.inl (s' _ _ (s4 _ _ hpt3)))) (rt3.mono (.of s4)) (by omega) ⟨_,rfl⟩ ?_ λl5 H5 s5 hl5 e5=>?_
   ·rintro q p σ' HA A B ⟨o1,rfl⟩ sA hq hpA k
    refine⟨_,rfl,q,_,1,_,rfl,rfl, .inl (.inl hq),at1,_,rfl,pw,_,0,_,rfl,rfl, .inl (.inl (sA _ _ (s4 _ _ hpw3))),at0,rfl,_,rfl,?_⟩
    have k:=k [some (.ref q),some (.ref pw)] ⟨_,rfl⟩
    rw[zag]
    cases e:decide (p.2=w0)with
    |false=>rw[e] at k;exact k
    |true=>rw[e] at k;exact⟨_,rfl,q,_,0,_,rfl,rfl, .inl (.inl hq),at0,k⟩
   have ol:=znq ps w0
   have ol':(((ps.filter λp=>decide (p.1=w0)).map (·.2)).map V.str).length+(((ps.filter λp=>decide (p.2=w0)).map (·.1)).map V.str).length<=200:=by
    unfold zdS at ol
    rw[List.length_append] at ol
    simp only[List.length_map] at ol⊢
    omega
   refine⟨l4,l5,_,_,rfl,rfl,s5 _ _ e4,e5,Nat.le_of_lt (zm (by omega)),λl6 hl6=>?_⟩
   rw[←List.map_append]
   have S6:=Same.new (o:= .lst ((zdS ps w0).map V.str)) hl6
   have e6:(upd H5 l6 (.lst ((zdS ps w0).map V.str))) l6=some (.lst ((zdS ps w0).map V.str)):=zd
   have s36:=(s4.trans s5).trans S6
   show zh2 _ _ _ _ (upd H5 l6 (.lst ((zdS ps w0).map V.str)))
   generalize (upd H5 l6 (HO.lst ((zdS ps w0).map V.str)))=H6 at *
   have on:∀y∈zdS ps w0,y∈hs/\w0∈zaD ps y:=λy hy=>by
    rcases zm1 hy with h|h
    ·exact ⟨(T.ties _ h).2.1,mem_nbrs.mpr (.inl h)⟩
    ·exact ⟨(T.ties _ h).1,mem_nbrs.mpr (.inr h)⟩
   have r6:RepL H6 ((zdS ps w0).map V.str) ((zdS ps w0).map D.str):=zbr λx hx=>zH (T.names x (on x hx).1)
   have hpw6:=s36 _ _ hpw3
   refine⟨_,rfl,l6,rfl,⟨_,SqL.of e6⟩,?_⟩
   refine zef (g:=znZ (w0::wr)) (f:=λd=>d) (σr:=[some (.ref pw)]) (zdt (K:=K)) (λH' s'=>SqL.of (s' _ _ e6)) r6 (by rw[List.length_map];omega) rfl ?_ (λx d HA sA rx hd=>by walk_at "dsp") λl7 us H7 s7 hl7 e7 r7=>?_
   ·intro x d HA Q1 sA rx hd q1
    obtain⟨b,_,rfl⟩:=List.mem_map.mp hd
    cases rx with|str _ _=>
    refine⟨_,rfl,_,rfl,pw,_,rfl, .inr (.inl (.inl (sA _ _ hpw6))),rfl,zcH,_,rfl,?_⟩
    rw[if_pos rfl,zd9]
    exact q1 HA (Same.refl _)
   rw[List.map_id',zjr] at r7
   have eus:=zfu r7
   subst eus
   have s37:=s36.trans s7
   have hx7:∀y∈(zdS ps w0).filter (λx=>!((w0::wr).any λy=>decide (y=x))),y∈hs/\w0∈zaD ps y/\y∉w0::wr:=λy hy=>by
    obtain⟨h1,h2⟩:=List.mem_filter.mp hy
    refine⟨(on y h1).1,(on y h1).2,λz=>?_⟩
    rw[List.any_eq_true.mpr ⟨y,z,decide_eq_true rfl⟩] at h2
    cases h2
   have nl7:l7≠a:=(hH3.same s36).ne hl7
   have hlen7:((zdS ps w0).filter (λx=>!((w0::wr).any λy=>decide (y=x)))).length<=200:=by
    have:=List.length_filter_le (λx=>!((w0::wr).any λy=>decide (y=x))) (zdS ps w0)
    omega
   generalize ((zdS ps w0).filter (λx=>!((w0::wr).any λy=>decide (y=x))))=ys at *
   have hH7:=hH3.same s37
   have hpw7:=s37 _ _ hpw3
   have rw7:=rw3.same s37
   refine⟨_,rfl,few rfl,λpe hpe=>?_⟩
   have se:=Same.new (o:= .lst []) hpe
   refine⟨_,_,zoN (se _ _ e7) (λx hx=>zI (T.names x (hx7 x hx).1)),zoh zd,Nat.le_trans (Nat.min_le_right _ _) (by decide),_,rfl,?_⟩
   have k38:Keep a H3 (upd H7 pe (.lst [])):=(Keep.of s37).trans (Keep.of se)
   have hH8:=hH7.same se
   have rw8:=rw7.same se
   have hpw8:=se _ _ hpw7
   have e8:=se _ _ e7
   generalize (upd H7 pe (HO.lst []))=H8 at *
   cases ys with
   |nil=>
    refine zap (by unfold zaw;rfl) ?_
    exact⟨_,rfl,q _ _ H8 rw8 W (hH8.mono (by omega)) (k3.trans k38)⟩
   |cons y0 yr=>
    refine zao (by unfold zaw;rw[List.map_cons,PyData.eqv];rfl) ?_
    refine⟨_,rfl,_,rfl,a,_,hH8,by omega, .inl ⟨l7,_,rfl,nl7,SqL.of e8,by rw[List.length_map];simp,by rw[List.length_map];omega,λv9 H9 hv9 hH9 k9=>⟨few rfl,λp9 hp9=>?_⟩⟩⟩
    obtain⟨x,hx,rfl⟩:=List.mem_map.mp hv9
    obtain⟨x1,x2,x3⟩:=hx7 x hx
    have m89:Mono H8 H9:= .keep k9 hH8 hH9
    have S9:=Same.new (o:= .tup [V.str x]) hp9
    have hpw9:(upd H9 p9 (.tup [V.str x])) pw=some (.tup ((w0::wr).map V.str)):=S9 _ _ (m89.tup _ _ hpw8)
    refine⟨_,rfl,p9,pw,[.str x],_,rfl,rfl, .inl (.inl zd), .inl (.inl hpw9),Nat.le_of_lt (zm (by rw[List.length_map];show 1+_<=_;omega)),(λz=>by cases z),(λ_ z=>by cases z),λ_ _ pX hpX=>?_⟩
    have SX:=Same.new (o:= .tup ([V.str x]++(w0::wr).map V.str)) hpX
    refine⟨⟨_,x::w0::wr,_,_,rfl,?_,W.more x1 x3 x2⟩,?_,?_⟩
    ·refine .mkL (vs:=(x::w0::wr).map V.str) zd (by rw[List.length_map,List.length_cons];omega) (zbr λz hz=>?_)
     rcases List.mem_cons.mp hz with rfl|hz
     ·exact zH (T.names _ x1)
     ·exact zH (wn z hz)
    ·exact ((hH9.new hp9).new hpX).mono (by push_cast;omega)
    ·exact ((k3.trans k38).trans k9).trans ((Keep.of S9).trans (Keep.of SX))
  ·rintro σ' H3 ⟨⟨vw,ws,o3,o4,rfl,rw3,W⟩,hH3,k3⟩
   exact⟨_,rfl,q _ ws H3 rw3 W (hH3.mono (by omega)) k3⟩
end
section
variable{P:Program}{w:World}{K:PySem.W.Frag}{mg:Str->Option Value}{base:Heap}
theorem zen{k:Nat}{c:D->Bool}{g:List Str->List Str->Option Str->D->Bool}(Y:Ev K mg)(G_holds:FnOk P w K mg base CX0 k Y.a_holds Y.d_holds zcD (zeP c g))(c':D->Bool)(g':List Str->List Str->Option Str->D->Bool)
 (hc:∀d,c' d=true->∃x e,d= .tup [.str x,e]) (h1:∀ws ms to x e,c' (.tup [.str x,e])=true->x="not"->c e=true/\(!g ws ms to e)=g' ws ms to (.tup [.str x,e]))
 (h2:∀x e,c' (.tup [.str x,e])=true->¬x="not"->zP (.tup [.str x,e])=true/\∀ws ms to,phB ws ms to x e=g' ws ms to (.tup [.str x,e])):
 FnOk P w K mg base CX0 (k+1) Y.a_holds Y.d_holds zcD (zeP c' g'):=by
 refine Y.holds.fn.okQ c_holds (λvs H Q E h=>?_) (λcdv A outer s H vs Q E hr h=>?_)
 ·obtain ⟨v,d,pw,pm,vt,ws,ms,to,rfl,_⟩:=h;rfl
 ·obtain ⟨v,d,pw,pm,vt,ws,ms,to,rfl,hd,hcd,hpw,hpm,hto,nw,nm,w1,lw,lm,q⟩:=h
  obtain⟨x,e,rfl⟩:=hc d hcd
  obtain⟨p,v0,v1,rfl,hp,r0,r1⟩:=hd.of2
  cases r0 with
  |str _ hx=>
  refine⟨_,(zj (zdc (qv 0) (zc1 2 rfl (zz (zn 4 c_holds.nd) (zz (zn 5 c_holds.nd) zaT))))
   (zj (zaq (zJ zas (qv 4) zY) (zl (zA (znD (zk G_holds hr Y.holds.mg Y.holds.kp Y.holds.b .nil zr (zb (qv 5) (zb (qv 1) (zb (qv 2) (zb (qv 3) zc)))))))) zT)
   (zj (zaq (zJ zas (qv 4) zY) (zl (zA (zaR zd5 (qv 5) (qv 1)))) zT)
   (zj (zaq (zJ zas (qv 4) zY) (zl (zA (zfP (zaR ze4 (zx zS Y.len zaO (zb (qv 1) zc)) zh) (zeB (zaR zas (zF ix_tup (qv 1) zh) (qv 5)))))) zT)
   (zj (zaq (zJ zas (qv 4) zY) (zl (zA (zaR zas (qv 3) (qv 5)))) zT)
   (zj (zaq (zJ zas (qv 4) zY) (zl (zA (zaR zd5 (qv 5) (qv 2)))) zT)
   (zl (zA (zaR zp5 (zN zex (zx zS Y.len zaO (zb (qv 1) zc)) zh) (qv 5)))))))))),?_⟩
  refine⟨_,rfl,p,_,rfl, .inl (.inl hp),rfl,_,_,rfl,_,_,rfl,rfl,?_⟩
  refine⟨_,rfl,rfl,_,rfl,zbx (λel=>?_) (λel=>?_)⟩
  ·obtain ⟨ce,ge⟩:=h1 ws ms to x e hcd (V.str.inj (of_decide_eq_true el))
   refine⟨_,rfl,_,rfl,_,rfl,_,rfl,v1,e,pw,pm,vt,ws,ms,to,rfl,r1,ce,hpw,hpm,hto,nw,nm,w1,lw,lm,λH' s'=>⟨_,rfl,?_⟩⟩
   have q:=q H' s'
   rw[←ge] at q
   exact q
  have q:=q H (Same.refl H)
  obtain⟨hpl,ge⟩:=h2 x e hcd λz=>el (decide_eq_true (by rw[z]))
  rw[←ge ws ms to] at q
  have bad:∀{y z:Str},y=z->¬decide (V.str y=V.str z)=true->False:=λe h=>h (by rw[e];exact decide_eq_true rfl)
  refine⟨_,rfl,rfl,_,rfl,zbx (λe1=>?_) (λe1=>?_)⟩
  ·have e1:=V.str.inj (of_decide_eq_true e1)
   subst e1
   rcases zat hpl with⟨z,_⟩|⟨_,y,rfl,ny⟩
   ·exact absurd z (by decide +kernel)
   cases r1 with|str _ _=>
   rw[zqo,←zd9] at q
   exact⟨_,rfl,_,rfl,pw,_,rfl, .inr (.inl (.inl hpw)),rfl,zcH,q⟩
  refine⟨_,rfl,rfl,_,rfl,zbx (λe2=>?_) (λe2=>?_)⟩
  ·have e2:=V.str.inj (of_decide_eq_true e2)
   subst e2
   rcases zat hpl with⟨z,_⟩|⟨_,y,rfl,ny⟩
   ·exact absurd z (by decide +kernel)
   cases r1 with|str _ _=>
   rw[zlK] at q
   refine⟨_,rfl, .inl ⟨pw,_,rfl, .inr (.inl (.inl hpw)),_,_,rfl,rfl,_,rfl,?_⟩⟩
   match ws,hpw,q with
   |[],hpw,q=>exact zao rfl q
   |[a],hpw,q=>exact zao rfl q
   |a::b::r,hpw,q=>
    refine zap (decide_eq_true (by rw[List.length_map,List.length_cons,List.length_cons];omega)) ?_
    refine⟨_,rfl,pw,_,1,_,rfl,rfl, .inl (.inl hpw),at1,_,rfl,rfl,?_⟩
    rw[zag]
    have eb:decide ((a::b::r)[1]?=some y)=decide (b=y):=by
     rw[Bool.eq_iff_iff,decide_eq_true_iff,decide_eq_true_iff];simp
    rw[eb] at q
    exact q
  refine⟨_,rfl,rfl,_,rfl,zbx (λe3=>?_) (λe3=>?_)⟩
  ·have e3:=V.str.inj (of_decide_eq_true e3)
   subst e3
   rcases zat hpl with⟨z,_⟩|⟨_,y,rfl,ny⟩
   ·exact absurd z (by decide +kernel)
   cases r1 with|str _ _=>
   obtain⟨hsc,hde⟩:=hto.eq (y:=y)
   rw[zp8,←hde] at q
   exact⟨_,rfl,_,rfl,hsc,q⟩
  refine⟨_,rfl,rfl,_,rfl,zbx (λe4=>?_) (λe4=>?_)⟩
  ·have e4:=V.str.inj (of_decide_eq_true e4)
   subst e4
   rcases zat hpl with⟨z,_⟩|⟨_,y,rfl,ny⟩
   ·exact absurd z (by decide +kernel)
   cases r1 with|str _ _=>
   rw[zhL,←zd9] at q
   exact⟨_,rfl,_,rfl,pm,_,rfl, .inr (.inl (.inl hpm)),rfl,zcH,q⟩
  rcases zat hpl with⟨rfl,i,rfl,i0,i9⟩|⟨hn,y,rfl,ny⟩
  ·cases r1 with|int _=>
   rw[zlI] at q
   refine⟨_,rfl, .inl ⟨pw,_,rfl, .inr (.inl (.inl hpw)),_,_,rfl,rfl,_,rfl,_,_,rfl,rfl,?_⟩⟩
   have eb:decide (i<=((ws.map V.str).length:Int) -1)=decide (i<(ws.length:Int)):=by
    rw[Bool.eq_iff_iff,decide_eq_true_iff,decide_eq_true_iff,List.length_map];omega
   rw[←eb] at q
   exact q
  ·rcases zeY hn with z|z|z|z
   ·exact (bad z e1).elim
   ·exact (bad z e2).elim
   ·exact (bad z e3).elim
   ·exact (bad z e4).elim
theorem zl8(Y:Ev K mg):FnOk P w K mg base CX0 1 Y.a_holds Y.d_holds zcD (zeP (λ_=>false) (λ_ _ _ _=>false)):=by
 refine Y.holds.fn.okQ c_holds (λvs H Q E h=>?_) (λcdv A outer s H vs Q E hr h=>?_)
 ·obtain ⟨v,d,_,_,_,_,_,_,rfl,_,z,_⟩:=h;cases z
 ·obtain ⟨v,d,_,_,_,_,_,_,rfl,_,z,_⟩:=h;cases z
theorem zok(Y:Ev K mg):FnOk P w K mg base CX0 3 Y.a_holds Y.d_holds zcD (zeP zQ za9):=by
 refine zen (c:=zP) (g:=zcW) Y ?_ zQ za9 zhH ?_ ?_
 ·refine zen Y (zl8 Y) zP zcW zcU ?_ ?_
  ·intro ws ms to x e h z
   subst z
   exact absurd h (by rw[zdm];exact Bool.false_ne_true)
  ·exact λx e h _=>⟨h,λ_ _ _=>rfl⟩
 ·intro ws ms to x e h z
  subst z
  rw[zec,if_pos rfl] at h
  exact⟨h,by show(!zcW ws ms to e)=(if("not":Str)="not"then !zcW ws ms to e else phB ws ms to "not" e);rw[if_pos rfl]⟩
 ·intro x e h z
  rw[zec,if_neg z] at h
  exact⟨h,λws ms to=>by show phB ws ms to x e=(if x="not"then !zcW ws ms to e else phB ws ms to x e);rw[if_neg z]⟩
end
section
variable{P:Program}{w:World}{K:PySem.W.Frag}{mg:Str->Option Value}{base:Heap}
theorem zfG(Y:Ev K mg):FnOk P w K mg base CX0 4 Y.a_all_hold Y.d_all_hold zbA zkI:=by
 have G_holds:FnOk P w K mg base CX0 3 Y.a_holds Y.d_holds zcD (zeP zQ za9):=zok Y
 refine Y.all_hold.fn.okQ c_all_hold (λvs H Q E h=>?_) (λcdv A outer s H vs Q E hr h=>?_)
 ·obtain ⟨v,cs,pw,pm,vt,ws,ms,to,rfl,_⟩:=h;rfl
 ·obtain ⟨v,cs,pw,pm,vt,ws,ms,to,rfl,hd,hcs,hpw,hpm,hto,nw,nm,w1,lw,lm,q⟩:=h
  obtain⟨pc,uc,rfl,hpc,rc,_⟩:=hd.ofT
  refine⟨_,(zj (zcm PassesOwn.never rfl (zaP (qv 0)) (zn 4 c_all_hold.nd) (zl (zaq (zbt (za7 (zk G_holds (hr.mono (by decide)) Y.holds.mg Y.holds.kp Y.holds.b .nil zr (zb (qv 4) (zb (qv 1) (zb (qv 2) (zb (qv 3) zc))))))) (zl (zA zbv)) zT)))
   (zl (zA zbv))),?_⟩
  refine⟨_,rfl,pc,rfl,⟨_, .inl (.inl hpc)⟩,?_⟩
  refine zbq (zaG (K:=K) (xs:=uc)) (λi σ' H'=>(∃o4,σ'=[some (.ref pc),some (.ref pw),some (.ref pm),some vt,o4])/\(cs.take i).all (za9 ws ms to)=true/\Same H H') ⟨⟨_,rfl⟩,rfl,Same.refl _⟩ (λi σ' H' z=> .inl (.inl (z.2.2 _ _ hpc))) ?_ ?_
  ·rintro i y σ' H1 hi hy ⟨⟨o4,rfl⟩,ha,s1⟩
   obtain⟨c,hc,rcc⟩:=rc.get hy
   have hcm:=List.mem_of_getElem? hc
   have tk:(cs.take (i+1)).all (za9 ws ms to)=((cs.take i).all (za9 ws ms to)&&za9 ws ms to c):=by
    rw[List.take_add_one,hc,List.all_append];simp
   refine⟨_,rfl,_,rfl,_,rfl,_,rfl,y,c,pw,pm,vt,ws,ms,to,rfl,rcc.same s1,hcs c hcm,s1 _ _ hpw,s1 _ _ hpm,hto,nw,nm,w1,lw,lm,λH2 s2=>⟨_,rfl,?_⟩⟩
   cases hb:za9 ws ms to c with
   |false=>
    have e:zcw ws ms to cs=false:=List.all_eq_false.mpr ⟨c,hcm,by rw[hb];decide⟩
    have q:=q H2 (s1.trans s2)
    rw[e] at q
    exact zap rfl q
   |true=>exact zao rfl ⟨⟨_,rfl⟩,by rw[tk,ha,hb];rfl,s1.trans s2⟩
  ·rintro σ' H1 ⟨⟨o4,rfl⟩,ha,s1⟩
   rw[rc.1,List.take_length] at ha
   have q:=q H1 s1
   have e:zcw ws ms to cs=true:=ha
   rw[e] at q
   exact q
theorem zg3(Y:Ev K mg):FnOk P w K mg base CX0 1 Y.a_likings_of Y.d_likings_of zbX zrH:=by
 refine Y.likings_of.fn.okQ zhZ (λvs H Q E h=>?_) (λcdv A outer s H vs Q E hr h=>?_)
 ·obtain ⟨v,x,g,hs,ps,lks,hds,j,rfl,_⟩:=h;rfl
 ·obtain ⟨v,x,g,hs,ps,lks,hds,j,rfl,hv,T,hj,q⟩:=h
  obtain⟨p,pr,pt,pl,pa,vt,vl,va,rfl,hp,hpr,hpt,rt,hpl,rl,hpa,ra⟩:=zcg hv
  have hjl:j<hs.length:=by
   rcases Nat.lt_or_ge j hs.length with y|y
   ·exact y
   ·rw[List.getElem?_eq_none y] at hj;cases hj
  have hjk:j<lks.length:=by rw[T.ll];exact hjl
  have hjv:j<vl.length:=by rw[rl.1];exact hjk
  refine⟨_,(zl (zA (zF ix_tup (zF ix_tup (qv 0) zh) (zjw PySem.F.plainAttrs_tuple PySem.F.slot_tuple_index PySem.F.type_tuple_index zhy (zF ix_tup (qv 0) zh) (zb (qv 1) zc))))),?_⟩
  refine⟨_,rfl,p,_,3,_,rfl,rfl, .inl (.inl hp),zG (j:=3) rfl,?_⟩
  refine⟨_,rfl,p,_,1,_,rfl,rfl, .inl (.inl hp),zG (j:=1) rfl,?_⟩
  refine⟨.inr (.inr (.inr (.inr ⟨rfl,_,hpr⟩))),_,rfl,pr,hs,x,j,rfl,rfl, .inl (.inl hpr),hj,zi9 T.hs_nd hj,?_⟩
  exact⟨pl,_,_,vl[j],rfl,rfl, .inl (.inl hpl),zG (by simp[hjv]),q _ lks[j] (List.getElem?_eq_getElem hjk) (rl.2 j _ _ (List.getElem?_eq_getElem hjv) (List.getElem?_eq_getElem hjk))⟩
theorem znv(Y:Ev K mg):FnOk P w K mg base CX0 5 Y.a_worth Y.d_worth zeN zf6:=by
 have G_all_hold:FnOk P w K mg base CX0 4 Y.a_all_hold Y.d_all_hold zbA zkI:=zfG Y
 have G_likings_of:FnOk P w K mg base CX0 1 Y.a_likings_of Y.d_likings_of zbX zrH:=zg3 Y
 refine Y.worth.fn.okQ c_worth (λvs H Q E h=>?_) (λcdv A outer s H vs Q E hr h=>?_)
 ·obtain ⟨v,pw,pm,x,ws,ms,g,hs,ps,lks,hds,j,rs,rfl,_⟩:=h;rfl
 ·obtain ⟨v,pw,pm,x,ws,ms,g,hs,ps,lks,hds,j,rs,rfl,hv,T,hj,hlj,hpw,hpm,nw,nm,lw,lm,q⟩:=h
  have hlk:rs.length<=90/\∀r∈rs,zav r=true:=by
   have h:=T.likes _ (List.mem_of_getElem? hlj)
   have h:(decide (rs.length<=90)&&rs.all zav)=true:=h
   rw[Bool.and_eq_true] at h
   exact⟨of_decide_eq_true h.1,List.all_eq_true.mp h.2⟩
  refine⟨_,(zj (zcm PassesOwn.never rfl (zaP (zk G_likings_of (hr.mono (by decide)) Y.likings_of.mg Y.likings_of.kp Y.likings_of.b .nil zr (zb (qv 0) (zb (zF ix_tup (qv 1) zh) zc)))) (zc1 2 rfl (zz (zn 3 c_worth.nd) (zz (zn 4 c_worth.nd) zaT))) (zl (zaq (za7 (zk G_all_hold (hr.mono (by decide)) Y.all_hold.mg Y.all_hold.kp Y.all_hold.bd (.cons (a:=V.non) rfl .nil) zr (zb (qv 3) (zb (qv 1) (zb (qv 2) zc))))) (zl (zA (qv 4))) zT)))
   (zl (zA zh))),?_⟩
  refine⟨_,rfl,_,rfl,pw,_,0,_,rfl,rfl, .inl (.inl hpw),at0,v,x,g,hs,ps,lks,hds,j,rfl,hv,T,hj,λvr d hd rd=>?_⟩
  rw[hlj] at hd
  cases hd
  obtain⟨pq,us,rfl,hpq,ru,_⟩:=rd.ofT
  refine⟨pq,rfl,⟨_, .inl (.inl hpq)⟩,?_⟩
  refine zbq (zaG (K:=K) (xs:=us)) (λi σ' H'=>(∃o3 o4,σ'=[some v,some (.ref pw),some (.ref pm),o3,o4])/\zaf (x::ws) ms rs=zaf (x::ws) ms (rs.drop i)/\Same H H') ⟨⟨_,_,rfl⟩,rfl,Same.refl _⟩ (λi σ' H' z=> .inl (.inl (z.2.2 _ _ hpq))) ?_ ?_
  ·rintro i y σ' H1 hi hy ⟨⟨o3,o4,rfl⟩,hw,s1⟩
   obtain⟨r,hr',rr⟩:=ru.get hy
   obtain⟨cs,t,rfl,c4,hcs,ht⟩:=zfk (hlk.2 r (List.mem_of_getElem? hr'))
   obtain⟨q0,v0,v1,rfl,hq0,r0,r1⟩:=(rr.same s1).of2
   refine⟨q0,_,rfl, .inl (.inl hq0),rfl,_,_,rfl,_,_,rfl,rfl,?_⟩
   refine⟨_,rfl,_,rfl,_,rfl,v0,cs,pw,pm, .non,x::ws,ms,none,rfl,r0,hcs,s1 _ _ hpw,s1 _ _ hpm, .inl ⟨rfl,rfl⟩,nw,nm,by simp,by simp;omega,lm,λH2 s2=>⟨_,rfl,?_⟩⟩
   rw[ziq hr',zaf] at hw
   have er:zcw (x::ws) ms none (zde (.tup [.tup cs,t]))=zcw (x::ws) ms none cs:=rfl
   rw[er] at hw
   cases hb:zcw (x::ws) ms none cs with
   |true=>
    rw[hb,if_pos rfl] at hw
    exact zap rfl ⟨_,rfl,q _ H2 (by rw[hw];exact r1.same s2) (s1.trans s2)⟩
   |false=>
    rw[hb,if_neg (by decide)] at hw
    exact zao rfl ⟨⟨_,_,rfl⟩,hw,s1.trans s2⟩
  ·rintro σ' H1 ⟨⟨o3,o4,rfl⟩,hw,s1⟩
   rw[ru.1,List.drop_length,zaf] at hw
   exact q _ H1 (by rw[hw];exact .int 0) s1
theorem zjc(Y:Ev K mg):FnOk P w K mg base CX0 1 Y.a_hands_of Y.d_hands_of zcQ zrZ:=by
 refine Y.hands_of.fn.okQ zj7 (λvs H Q E h=>?_) (λcdv A outer s H vs Q E hr h=>?_)
 ·obtain ⟨v,x,g,hs,ps,lks,hds,j,rfl,_⟩:=h;rfl
 ·obtain ⟨v,x,g,hs,ps,lks,hds,j,rfl,hv,T,hj,q⟩:=h
  obtain⟨p,pr,pt,pl,pa,vt,vl,va,rfl,hp,hpr,hpt,rt,hpl,rl,hpa,ra⟩:=zcg hv
  have hjl:j<hs.length:=by
   rcases Nat.lt_or_ge j hs.length with y|y
   ·exact y
   ·rw[List.getElem?_eq_none y] at hj;cases hj
  have hjk:j<hds.length:=by rw[T.lh];exact hjl
  have hjv:j<va.length:=by rw[ra.1];exact hjk
  refine⟨_,(zl (zA (zF ix_tup (zF ix_tup (qv 0) zh) (zjw PySem.F.plainAttrs_tuple PySem.F.slot_tuple_index PySem.F.type_tuple_index zhy (zF ix_tup (qv 0) zh) (zb (qv 1) zc))))),?_⟩
  refine⟨_,rfl,p,_,4,_,rfl,rfl, .inl (.inl hp),zG (j:=4) rfl,?_⟩
  refine⟨_,rfl,p,_,1,_,rfl,rfl, .inl (.inl hp),zG (j:=1) rfl,?_⟩
  refine⟨.inr (.inr (.inr (.inr ⟨rfl,_,hpr⟩))),_,rfl,pr,hs,x,j,rfl,rfl, .inl (.inl hpr),hj,zi9 T.hs_nd hj,?_⟩
  exact⟨pa,_,_,va[j],rfl,rfl, .inl (.inl hpa),zG (by simp[hjv]),q _ hds[j] (List.getElem?_eq_getElem hjk) (ra.2 j _ _ (List.getElem?_eq_getElem hjv) (List.getElem?_eq_getElem hjk))⟩
theorem zfV(Y:Ev K mg):FnOk P w K mg base CX0 1 Y.a_marks_behind Y.d_marks_behind zbe zhB:=by
 refine Y.marks_behind.fn.okQ c_marks_behind (λvs H Q E h=>?_) (λcdv A outer s H vs Q E hr h=>?_)
 ·obtain ⟨pm,v,t,w',m,rfl,_⟩:=h;rfl
 ·obtain ⟨pm,v,t,w',m,rfl,hpm,hv,tn,mn,l13,q⟩:=h
  obtain⟨pa,v0,v1,rfl,hpa,r0,r1⟩:=hv.of2
  cases r0 with|str _ _=>
  cases r1 with|str _ _=>
  refine⟨_,(zj (zdc (qv 1) (zc1 2 rfl (zz (zn 2 c_marks_behind.nd) (zz (zbO 3 c_marks_behind.nd) zaT))))
   (zj (zbm 4 (src:=[none,some 3]) o_marks_behind_1 rfl rfl c_marks_behind.nd (zaP (qv 0)) (λ_ _ _ _ _=>(zn 0 o_marks_behind_1.nd)) (λ_ _ _ _ _=>(zc9 (zJ zho (qv 0) (qc 1)))) (λ_ _ _ _ _=>(qv 0)))
   (zj (zaq (zJ zas (qv 2) zY) (zl (zfm (zjw PySem.F.plainAttrs_list PySem.F.slot_list_append PySem.F.type_list_append zbH (qv 4) (zb (qc 3) zc)))) zT)
   (zl (zA (zX zV Y.tuple zax (zb (zx zcG Y.sorted zcJ (zb (qv 4) zc)) zc))))))),?_⟩
  refine⟨_,rfl,pa,_,rfl, .inl (.inl hpa),rfl,_,_,rfl,_,_,rfl,rfl,?_⟩
  refine⟨_,rfl,pm,rfl,⟨_, .inl (.inl hpm)⟩,?_⟩
  refine zef (g:=neD m) (f:=λd=>d) (σr:=[some (.str m)]) (zaG (K:=K)) (λH' s'=> .inl (.inl (s' _ _ hpm))) (zbr λy hy=>zH (tn y hy)) (by rw[List.length_map];omega) rfl ?_ (λx d HA sA rx hd=>by walk_at "dsp") λl1 us H1 s1 hl1 e1 r1=>?_
  ·intro z d HA Q1 sA rz hd q1
   obtain⟨b,_,rfl⟩:=List.mem_map.mp hd
   cases rz with|str _ _=>
   refine⟨_,rfl,_,rfl,rfl,_,rfl,?_⟩
   rw[zag]
   exact q1 HA (Same.refl _)
  rw[zoj] at r1
  have eus:=zfu r1
  subst eus
  have lf:=List.length_filter_le (λx=>!decide (x=m)) t
  dsimp only[zaM]
  have fin:∀(H2:Hp),H2 l1=some (.lst ((zaH t w' m).map V.str))->Same H H2->∀(ss:List Str) (l2:Addr),ss.Perm (zaH t w' m)->sortedS ss=true->H2 l2=none->∃p ys,[V.ref l2]=[.ref p]/\((SqL K (upd H2 l2 (.lst (ss.map V.str))) p ys/\∀l,upd H2 l2 (.lst (ss.map V.str)) l=none->Q (.ref l) (upd (upd H2 l2 (.lst (ss.map V.str))) l (.tup ys)))\/(SqT K (upd H2 l2 (.lst (ss.map V.str))) p ys/\Q (.ref p) (upd H2 l2 (.lst (ss.map V.str))))):=λH2 e2 s2 ss l2 hp2 hs2 hl2=>⟨l2,_,rfl, .inl ⟨SqL.of zd,λp hp=>by
   have es:=zli hp2 hs2
   subst es
   exact q p _ zd ((s2.trans (Same.new hl2)).trans (Same.new hp))⟩⟩
  refine⟨_,rfl,rfl,_,rfl,zbx (λe=>?_) (λe=>?_)⟩
  ·have ew:=V.str.inj (of_decide_eq_true e)
   have eb:zaH t w' m=t.filter (λx=>!decide (x=m))++ [m]:=by unfold zaH;rw[if_pos ew]
   refine⟨_,rfl, .inl ⟨rfl,_,SqL.of e1⟩,_,rfl,l1,_,_,rfl,rfl,e1,zm (by rw[List.length_map];omega),?_⟩
   have e2:(upd H1 l1 (.lst ((t.filter λx=>!decide (x=m)).map V.str ++ [V.str m]))) l1=some (.lst ((zaH t w' m).map V.str)):=by rw[zd,eb,List.map_append];rfl
   have s2:Same H (upd H1 l1 (.lst ((t.filter λx=>!decide (x=m)).map V.str ++ [V.str m]))):=λc o z=>by rw[zq (zy z hl1)];exact s1 _ _ z
   generalize (upd H1 l1 (HO.lst ((t.filter λx=>!decide (x=m)).map V.str ++ [V.str m])))=H2 at *
   exact⟨_,rfl,l1,zaH t w' m,rfl, .inl (SqL.of e2),by rw[eb,List.length_append,List.length_singleton];omega,fin H2 e2 s2⟩
  ·have ew:¬w'="put":=λz=>e (decide_eq_true (by rw[z]))
   have eb:zaH t w' m=t.filter (λx=>!decide (x=m)):=by unfold zaH;rw[if_neg ew,List.append_nil]
   have e2:H1 l1=some (.lst ((zaH t w' m).map V.str)):=by rw[eb];exact e1
   exact⟨_,rfl,l1,zaH t w' m,rfl, .inl (SqL.of e2),by rw[eb];omega,fin H1 e2 s1⟩
theorem zkv(Y:Ev K mg):FnOk P w K mg base CX0 5 Y.a_handed Y.d_handed zdJ zdb:=by
 have G_all_hold:FnOk P w K mg base CX0 4 Y.a_all_hold Y.d_all_hold zbA zkI:=zfG Y
 have G_hands_of:FnOk P w K mg base CX0 1 Y.a_hands_of Y.d_hands_of zcQ zrZ:=zjc Y
 have G_marks_behind:FnOk P w K mg base CX0 1 Y.a_marks_behind Y.d_marks_behind zbe zhB:=zfV Y
 refine Y.handed.fn.okQ c_handed (λvs H Q E h=>?_) (λcdv A outer s H vs Q E hr h=>?_)
 ·obtain ⟨v,pw,pm,vt,x,ws,ms,to,g,hs,ps,lks,hds,j,rs,Pr,rfl,_⟩:=h;rfl
 ·obtain ⟨v,pw,pm,vt,x,ws,ms,to,g,hs,ps,lks,hds,j,rs,Pr,rfl,hv,T,hj,hdj,HO',MS,M0,hpw,hpm,hto,nw,lw,q⟩:=h
  refine⟨_,(zj (zL 4 c_handed.nd (qv 2))
   (zj (zcm PassesOwn.never rfl (zaP (zk G_hands_of (hr.mono (by decide)) Y.hands_of.mg Y.hands_of.kp Y.hands_of.b .nil zr (zb (qv 0) (zb (zF ix_tup (qv 1) zh) zc)))) (zc1 2 rfl (zz (zn 5 c_handed.nd) (zz (zn 6 c_handed.nd) zaT))) (zj (zaq (zbt (za7 (zk G_all_hold (hr.mono (by decide)) Y.all_hold.mg Y.all_hold.kp Y.all_hold.b .nil zr (zb (qv 5) (zb (qv 1) (zb (qv 4) (zb (qv 3) zc))))))) (zl zop) zT)
   (zj (zaq (zJ zas (zF ix_tup (qv 6) zh) zY) (zl (zA zaE)) zT)
   (zl (zL 4 c_handed.nd (zk G_marks_behind (hr.mono (by decide)) Y.marks_behind.mg Y.marks_behind.kp Y.marks_behind.b .nil zr (zb (qv 4) (zb (qv 6) zc))))))))
   (zl (zA (qv 4))))),?_⟩
  refine⟨_,rfl,?_⟩
  refine⟨_,rfl,_,rfl,pw,_,0,_,rfl,rfl, .inl (.inl hpw),at0,v,x,g,hs,ps,lks,hds,j,rfl,hv,T,hj,λvr d hd rd=>?_⟩
  rw[hdj] at hd
  cases hd
  obtain⟨pq,us,rfl,hpq,ru,_⟩:=rd.ofT
  refine⟨pq,rfl,⟨_, .inl (.inl hpq)⟩,?_⟩
  refine zbq (zaG (K:=K) (xs:=us)) (λi σ' H'=>(∃pt t o5 o6,σ'=[some v,some (.ref pw),some (.ref pm),some vt,some (.ref pt),o5,o6]/\H' pt=some (.tup (t.map V.str))/\Pr i t/\zD (x::ws) to rs ms=zD (x::ws) to (rs.drop i) t)/\Same H H') ⟨⟨pm,ms,_,_,rfl,hpm,M0,rfl⟩,Same.refl _⟩ (λi σ' H' z=> .inl (.inl (z.2 _ _ hpq))) ?_ ?_
  ·rintro i y σ' H1 hi hy ⟨⟨pt,t,o5,o6,rfl,hpt,Mt,he⟩,s1⟩
   obtain⟨r,hr',rr⟩:=ru.get hy
   obtain⟨cs,xa,rfl,hcs,hx⟩:=HO'.2 r (List.mem_of_getElem? hr')
   obtain⟨q0,v0,v1,rfl,hq0,r0,r1⟩:=(rr.same s1).of2
   have lu:=ru.1
   obtain⟨tn,tl⟩:=MS.ok i t (by omega) Mt
   refine⟨q0,_,rfl, .inl (.inl hq0),rfl,_,_,rfl,_,_,rfl,rfl,?_⟩
   refine⟨_,rfl,_,rfl,_,rfl,_,rfl,v0,cs,pw,pt,vt,x::ws,t,to,rfl,r0,hcs,s1 _ _ hpw,hpt,hto,nw,tn,by simp,by simp;omega,Nat.le_trans tl (by decide),λH2 s2=>⟨_,rfl,?_⟩⟩
   rw[ziq hr',zD] at he
   have er:zcw (x::ws) t to (zde (.tup [.tup cs,xa]))=zcw (x::ws) t to cs:=rfl
   have et:zci (.tup [.tup cs,xa])=xa:=rfl
   rw[er,et] at he
   cases hb:zcw (x::ws) t to cs with
   |false=>
    rw[hb,if_neg (by decide)] at he
    exact zap rfl ⟨⟨pt,t,_,_,rfl,s2 _ _ hpt,MS.skip i t Mt,he⟩,s1.trans s2⟩
   |true=>
    rw[hb,if_pos rfl] at he
    refine zao rfl ?_
    rcases hx with rfl|⟨w1,m1,rfl,hw1,hm1⟩
    ·obtain ⟨pa,ua,rfl,hpa,ra',_⟩:=(r1.same s2).ofT
     have la:ua.length=1:=ra'.1
     obtain⟨u0,rfl⟩:∃u0,ua=[u0]:=by
      match ua,la with
      |[u0],_=>exact ⟨u0,rfl⟩
     have h0:=ra'.head.1
     cases h0 with|str _ _=>
     refine⟨_,rfl,pa,_,0,_,rfl,rfl, .inl (.inl hpa),at0,rfl,_,rfl,zap (by rw[decide_eq_true rfl]) ?_⟩
     exact q .non H2 (by rw[he];rfl) (s1.trans s2)
    ·obtain ⟨pa,z0,z1,rfl,hpa,rz0,rz1⟩:=(r1.same s2).of2
     cases rz0 with|str _ _=>
     have nk:decide (V.str w1=V.str "keep")=false:=by
      rw[zag]
      rcases hw1 with rfl|rfl<;>decide +kernel
     refine⟨_,rfl,pa,_,0,_,rfl,rfl, .inl (.inl hpa),at0,rfl,_,rfl,zao nk ?_⟩
     refine⟨_,rfl,_,rfl,pt, .ref pa,t,w1,m1,rfl,s2 _ _ hpt,r1.same s2,tn,hm1,tl,λp3 H3 e3 s3=>?_⟩
     exact⟨⟨p3,_,_,_,rfl,e3,MS.next i t w1 m1 cs Mt hr',he⟩,(s1.trans s2).trans s3⟩
  ·rintro σ' H1 ⟨⟨pt,t,o5,o6,rfl,hpt,Mt,he⟩,s1⟩
   rw[ru.1,List.drop_length,zD] at he
   exact⟨_,rfl,q _ H1 (by rw[he];exact⟨pt,rfl,hpt⟩) s1⟩
end
section
variable{P:Program}{w:World}{K:PySem.W.Frag}{mg:Str->Option Value}{base:Heap}
def MsAt(H:Hp)(pm:Addr)(ms:List Str):Prop:=H pm=some (.tup (ms.map V.str))\/H pm=some (.lst (ms.map V.str))
theorem MsAt.same{H H':Hp}{pm:Addr}{ms:List Str}(h:MsAt H pm ms)(s:Same H H'):MsAt H' pm ms:=h.imp (s _ _) (s _ _)
noncomputable def zdQ(c:D->Bool)(g:List Str->List Str->Option Str->D->Bool):Sp:=λvs H Q _=>∃(v:V) (d:D) (pw pm:Addr) (vt:V) (ws ms:List Str) (to:Option Str),vs=[v, .ref pw, .ref pm,vt]/\Rep H v d/\c d=true/\H pw=some (.tup (ws.map V.str))/\MsAt H pm ms/\TO vt to/\(∀x∈ws,zi x=true)/\(∀x∈ms,zi x=true)/\1<=ws.length/\ws.length<=100/\ms.length<=100/\∀H',Same H H'->Q (.bl (g ws ms to d)) H'
noncomputable def ziu:Sp:=λvs H Q _=>∃(v:V) (cs:List D) (pw pm:Addr) (vt:V) (ws ms:List Str) (to:Option Str),vs=[v, .ref pw, .ref pm,vt]/\Rep H v (.tup cs)/\(∀c∈cs,zQ c=true)/\H pw=some (.tup (ws.map V.str))/\MsAt H pm ms/\TO vt to/\(∀x∈ws,zi x=true)/\(∀x∈ms,zi x=true)/\1<=ws.length/\ws.length<=100/\ms.length<=100/\∀H',Same H H'->Q (.bl (zcw ws ms to cs)) H'
theorem zdU{k:Nat}{c:D->Bool}{g:List Str->List Str->Option Str->D->Bool}(Y:Ev K mg)(G__law_cond_holds:FnOk P w K mg base CX0 k Y.a__law_cond_holds Y.d__law_cond_holds zZ (zdQ c g))(c':D->Bool)(g':List Str->List Str->Option Str->D->Bool)
 (hc:∀d,c' d=true->∃x e,d= .tup [.str x,e]) (h1:∀ws ms to x e,c' (.tup [.str x,e])=true->x="not"->c e=true/\(!g ws ms to e)=g' ws ms to (.tup [.str x,e]))
 (h2:∀x e,c' (.tup [.str x,e])=true->¬x="not"->zP (.tup [.str x,e])=true/\∀ws ms to,phB ws ms to x e=g' ws ms to (.tup [.str x,e])):
 FnOk P w K mg base CX0 (k+1) Y.a__law_cond_holds Y.d__law_cond_holds zZ (zdQ c' g'):=by
 refine Y._law_cond_holds.fn.okQ zc2 (λvs H Q E h=>?_) (λcdv A outer s H vs Q E hr h=>?_)
 ·obtain ⟨v,d,pw,pm,vt,ws,ms,to,rfl,_⟩:=h;rfl
 ·obtain ⟨v,d,pw,pm,vt,ws,ms,to,rfl,hd,hcd,hpw,hpm,hto,nw,nm,w1,lw,lm,q⟩:=h
  obtain⟨x,e,rfl⟩:=hc d hcd
  obtain⟨p,v0,v1,rfl,hp,r0,r1⟩:=hd.of2
  cases r0 with
  |str _ hx=>
  refine⟨_,(zj (zaq (zJ zas (zF ix_tup (qc 0) zh) zY) (zl (zA (znD (zk G__law_cond_holds hr Y._law_cond_holds.mg Y._law_cond_holds.kp Y._law_cond_holds.b .nil zr (zb (zF ix_tup (qc 0) zh) (zb (qv 1) (zb (qv 2) (zb (qv 3) zc)))))))) zT)
   (zj (zaq (zJ zas (zF ix_tup (qc 0) zh) zY) (zl (zA (zaR ze4 (zx zS Y.len zaO (zb (zaj (src:=[none,some 0]) o__law_cond_holds_1 rfl rfl (zaP (qv 1)) (λ_ _ _ _ _=>(zn 0 o__law_cond_holds_1.nd)) (λ_ _ _ _ _=>(zc9 (zJ zas (qv 0) (zF (zaL (K:=K) rfl) (qc 1) zh)))) (λ_ _ _ _ _=>(qv 0))) zc)) zh))) zT)
   (zj (zaq (zJ zas (zF ix_tup (qc 0) zh) zY) (zl (zA (zaR (zgL (zgQ hr)) (zgM zdy (qv 1) (zcy zh) (zcy zh)) (zB (zb (zF ix_tup (qc 0) zh) zc))))) zT)
   (zj (zaq (zJ zas (zF ix_tup (qc 0) zh) zY) (zl (zA (zfP (zaR zlq (qv 3) zaE) (zeB (zaR zas (qv 3) (zF ix_tup (qc 0) zh)))))) zT)
   (zj (zaq (zJ zas (zF ix_tup (qc 0) zh) zY) (zl (zA (zaR ze4 (zx zS Y.len zaO (zb (zaj (src:=[none,some 0]) o__law_cond_holds_2 rfl rfl (zrg (qv 2)) (λ_ _ _ _ _=>(zn 0 o__law_cond_holds_2.nd)) (λ_ _ _ _ _=>(zc9 (zJ zas (qv 0) (zF (zaL (K:=K) rfl) (qc 1) zh)))) (λ_ _ _ _ _=>(qv 0))) zc)) zh))) zT)
   (zl (zA (zaR ze4 (zx zS Y.len zaO (zb (qv 1) zc)) (zF ix_tup (qc 0) zh))))))))),?_⟩
  refine⟨_,rfl,p,_,0,_,rfl,rfl, .inl (.inl hp),at0,rfl,_,rfl,zbx (λel=>?_) (λel=>?_)⟩
  ·obtain ⟨ce,ge⟩:=h1 ws ms to x e hcd (V.str.inj (of_decide_eq_true el))
   refine⟨_,rfl,p,_,1,_,rfl,rfl, .inl (.inl hp),at1,_,rfl,_,rfl,_,rfl,v1,e,pw,pm,vt,ws,ms,to,rfl,r1,ce,hpw,hpm,hto,nw,nm,w1,lw,lm,λH' s'=>⟨_,rfl,?_⟩⟩
   have q:=q H' s'
   rw[←ge] at q
   exact q
  obtain⟨hpl,ge⟩:=h2 x e hcd λz=>el (decide_eq_true (by rw[z]))
  rw[←ge ws ms to] at q
  have bad:∀{y z:Str},y=z->¬decide (V.str y=V.str z)=true->False:=λe h=>h (by rw[e];exact decide_eq_true rfl)
  refine⟨_,rfl,p,_,0,_,rfl,rfl, .inl (.inl hp),at0,rfl,_,rfl,zbx (λe1=>?_) (λe1=>?_)⟩
  ·have e1:=V.str.inj (of_decide_eq_true e1)
   subst e1
   rcases zat hpl with⟨z,_⟩|⟨_,y,rfl,ny⟩
   ·exact absurd z (by decide +kernel)
   cases r1 with|str _ _=>
   refine⟨_,rfl,pw,rfl,⟨_, .inl (.inl hpw)⟩,?_⟩
   refine zef (g:=eqD y) (f:=λd=>d) (σr:=[some (.ref p)]) (zaG (K:=K)) (λH' s'=> .inl (.inl (s' _ _ hpw))) (zbr λy hy=>zH (nw y hy)) (by rw[List.length_map];omega) rfl ?_ (λx d HA sA rx hd=>by walk_at "dsp") λl7 us H7 s7 hl7 e7 r7=>?_
   ·intro z d HA Q1 sA rz hd q1
    obtain⟨b,_,rfl⟩:=List.mem_map.mp hd
    cases rz with|str _ _=>
    refine⟨_,rfl,_,rfl,p,_,1,_,rfl,rfl, .inl (.inl (sA _ _ hp)),at1,rfl,_,rfl,?_⟩
    rw[zag]
    exact q1 HA (Same.refl _)
   refine .inl ⟨l7,_,rfl, .inl (SqL.of e7),_,_,rfl,rfl,?_⟩
   have q:=q H7 s7
   rw[zqo,←zih r7] at q
   exact q
  refine⟨_,rfl,p,_,0,_,rfl,rfl, .inl (.inl hp),at0,rfl,_,rfl,zbx (λe2=>?_) (λe2=>?_)⟩
  ·have e2:=V.str.inj (of_decide_eq_true e2)
   subst e2
   rcases zat hpl with⟨z,_⟩|⟨_,y,rfl,ny⟩
   ·exact absurd z (by decide +kernel)
   cases r1 with|str _ _=>
   refine⟨_,rfl,1,rfl,2,rfl,pw,_,rfl, .inl (.inl hpw),λz=>?_,λp2 hp2=>?_⟩
   ·rw[zn8 (by rw[List.length_map];exact w1)] at z
    have:=congrArg List.length z
    rw[List.length_take,List.length_drop,List.length_map] at this
    omega
   rw[zn8 (by rw[List.length_map];exact w1),←List.map_drop,←List.map_take]
   have S2:=Same.new (o:= .tup (((ws.drop 1).take 1).map V.str)) hp2
   refine⟨_,rfl,p,_,1,_,rfl,rfl, .inl (.inl (S2 _ _ hp)),at1,few rfl,λp3 hp3=>?_⟩
   have S3:=Same.new (o:= .tup [V.str y]) hp3
   refine⟨_,_,zcx (xs:=(ws.drop 1).take 1) (S3 _ _ zd) (λx hx=>zI (nw x (List.mem_of_mem_drop (List.mem_of_mem_take hx)))),zcx (xs:=[y]) zd (λx hx=>by rw[List.mem_singleton.mp hx];exact zI ny),Nat.le_trans (Nat.min_le_left _ _) zbg,?_⟩
   have q:=q _ (S2.trans S3)
   rw[zlK,←zmk,←zdg] at q
   exact q
  refine⟨_,rfl,p,_,0,_,rfl,rfl, .inl (.inl hp),at0,rfl,_,rfl,zbx (λe3=>?_) (λe3=>?_)⟩
  ·have e3:=V.str.inj (of_decide_eq_true e3)
   subst e3
   rcases zat hpl with⟨z,_⟩|⟨_,y,rfl,ny⟩
   ·exact absurd z (by decide +kernel)
   cases r1 with|str _ _=>
   have q:=q H (Same.refl H)
   rw[zp8] at q
   rcases hto.notN with⟨rfl,rfl⟩|⟨x,rfl,rfl⟩
   ·exact ⟨_,rfl,rfl,_,rfl,zao rfl q⟩
   ·refine ⟨_,rfl,rfl,_,rfl,zap rfl ⟨_,rfl,_,rfl,p,_,1,_,rfl,rfl, .inl (.inl hp),at1,rfl,?_⟩⟩
    have eb:decide (some x=some y)=decide (x=y):=by rw[Bool.eq_iff_iff,decide_eq_true_iff,decide_eq_true_iff,Option.some.injEq]
    rw[eb,←zag] at q
    exact q
  refine⟨_,rfl,p,_,0,_,rfl,rfl, .inl (.inl hp),at0,rfl,_,rfl,zbx (λe4=>?_) (λe4=>?_)⟩
  ·have e4:=V.str.inj (of_decide_eq_true e4)
   subst e4
   rcases zat hpl with⟨z,_⟩|⟨_,y,rfl,ny⟩
   ·exact absurd z (by decide +kernel)
   cases r1 with|str _ _=>
   rcases hpm with hpm|hpm
   ·refine .inl ⟨_,rfl,pm,rfl,⟨_, .inl (.inl hpm)⟩,?_⟩
    refine zef (g:=eqD y) (f:=λd=>d) (σr:=[some (.ref p)]) (zaG (K:=K)) (λH' s'=> .inl (.inl (s' _ _ hpm))) (zbr λy hy=>zH (nm y hy)) (by rw[List.length_map];omega) rfl ?_ (λx d HA sA rx hd=>by walk_at "dsp") λl7 us H7 s7 hl7 e7 r7=>?_
    ·intro z d HA Q1 sA rz hd q1
     obtain⟨b,_,rfl⟩:=List.mem_map.mp hd
     cases rz with|str _ _=>
     refine⟨_,rfl,_,rfl,p,_,1,_,rfl,rfl, .inl (.inl (sA _ _ hp)),at1,rfl,_,rfl,?_⟩
     rw[zag]
     exact q1 HA (Same.refl _)
    refine .inl ⟨l7,_,rfl, .inl (SqL.of e7),_,_,rfl,rfl,?_⟩
    have q:=q H7 s7
    rw[zhL,←zih r7] at q
    exact q
   ·refine .inr ⟨_,rfl,pm,rfl,⟨_,SqL.of hpm⟩,?_⟩
    refine zef (g:=eqD y) (f:=λd=>d) (σr:=[some (.ref p)]) (zdt (K:=K)) (λH' s'=>SqL.of (s' _ _ hpm)) (zbr λy hy=>zH (nm y hy)) (by rw[List.length_map];omega) rfl ?_ (λx d HA sA rx hd=>by walk_at "dsp") λl7 us H7 s7 hl7 e7 r7=>?_
    ·intro z d HA Q1 sA rz hd q1
     obtain⟨b,_,rfl⟩:=List.mem_map.mp hd
     cases rz with|str _ _=>
     refine⟨_,rfl,_,rfl,p,_,1,_,rfl,rfl, .inl (.inl (sA _ _ hp)),at1,rfl,_,rfl,?_⟩
     rw[zag]
     exact q1 HA (Same.refl _)
    refine .inl ⟨l7,_,rfl, .inl (SqL.of e7),_,_,rfl,rfl,?_⟩
    have q:=q H7 s7
    rw[zhL,←zih r7] at q
    exact q
  rcases zat hpl with⟨rfl,i,rfl,i0,i9⟩|⟨hn,y,rfl,ny⟩
  ·cases r1 with|int _=>
   have q:=q H (Same.refl H)
   rw[zlI] at q
   refine⟨_,rfl, .inl ⟨pw,_,rfl, .inr (.inl (.inl hpw)),_,rfl,p,_,1,_,rfl,rfl, .inl (.inl hp),at1,_,_,rfl,rfl,?_⟩⟩
   rw[List.length_map]
   exact q
  ·rcases zeY hn with z|z|z|z
   ·exact (bad z e1).elim
   ·exact (bad z e2).elim
   ·exact (bad z e3).elim
   ·exact (bad z e4).elim
theorem zjZ(Y:Ev K mg):FnOk P w K mg base CX0 1 Y.a__law_cond_holds Y.d__law_cond_holds zZ (zdQ (λ_=>false) (λ_ _ _ _=>false)):=by
 refine Y._law_cond_holds.fn.okQ zc2 (λvs H Q E h=>?_) (λcdv A outer s H vs Q E hr h=>?_)
 ·obtain ⟨v,d,_,_,_,_,_,_,rfl,_,z,_⟩:=h;cases z
 ·obtain ⟨v,d,_,_,_,_,_,_,rfl,_,z,_⟩:=h;cases z
theorem zmK(Y:Ev K mg):FnOk P w K mg base CX0 3 Y.a__law_cond_holds Y.d__law_cond_holds zZ (zdQ zQ za9):=by
 refine zdU (c:=zP) (g:=zcW) Y ?_ zQ za9 zhH ?_ ?_
 ·refine zdU Y (zjZ Y) zP zcW zcU ?_ ?_
  ·intro ws ms to x e h z
   subst z
   exact absurd h (by rw[zdm];exact Bool.false_ne_true)
  ·exact λx e h _=>⟨h,λ_ _ _=>rfl⟩
 ·intro ws ms to x e h z
  subst z
  rw[zec,if_pos rfl] at h
  exact⟨h,by show(!zcW ws ms to e)=(if("not":Str)="not"then !zcW ws ms to e else phB ws ms to "not" e);rw[if_pos rfl]⟩
 ·intro x e h z
  rw[zec,if_neg z] at h
  exact⟨h,λws ms to=>by show phB ws ms to x e=(if x="not"then !zcW ws ms to e else phB ws ms to x e);rw[if_neg z]⟩
theorem zeT(Y:Ev K mg):FnOk P w K mg base CX0 4 Y.a__law_all_hold Y.d__law_all_hold zaA ziu:=by
 have G__law_cond_holds:FnOk P w K mg base CX0 3 Y.a__law_cond_holds Y.d__law_cond_holds zZ (zdQ zQ za9):=zmK Y
 refine Y._law_all_hold.fn.okQ c__law_all_hold (λvs H Q E h=>?_) (λcdv A outer s H vs Q E hr h=>?_)
 ·obtain ⟨v,cs,pw,pm,vt,ws,ms,to,rfl,_⟩:=h;rfl
 ·obtain ⟨v,cs,pw,pm,vt,ws,ms,to,rfl,hd,hcs,hpw,hpm,hto,nw,nm,w1,lw,lm,q⟩:=h
  obtain⟨pc,uc,rfl,hpc,rc,_⟩:=hd.ofT
  refine⟨_,(zj (zcm PassesOwn.never rfl (zaP (qv 0)) (zn 4 c__law_all_hold.nd) (zl (zaq (zbt (za7 (zk G__law_cond_holds (hr.mono (by decide)) Y._law_cond_holds.mg Y._law_cond_holds.kp Y._law_cond_holds.b .nil zr (zb (qv 4) (zb (qv 1) (zb (qv 2) (zb (qv 3) zc))))))) (zl (zA zbv)) zT)))
   (zl (zA zbv))),?_⟩
  refine⟨_,rfl,pc,rfl,⟨_, .inl (.inl hpc)⟩,?_⟩
  refine zbq (zaG (K:=K) (xs:=uc)) (λi σ' H'=>(∃o4,σ'=[some (.ref pc),some (.ref pw),some (.ref pm),some vt,o4])/\(cs.take i).all (za9 ws ms to)=true/\Same H H') ⟨⟨_,rfl⟩,rfl,Same.refl _⟩ (λi σ' H' z=> .inl (.inl (z.2.2 _ _ hpc))) ?_ ?_
  ·rintro i y σ' H1 hi hy ⟨⟨o4,rfl⟩,ha,s1⟩
   obtain⟨c,hc,rcc⟩:=rc.get hy
   have hcm:=List.mem_of_getElem? hc
   have tk:(cs.take (i+1)).all (za9 ws ms to)=((cs.take i).all (za9 ws ms to)&&za9 ws ms to c):=by
    rw[List.take_add_one,hc,List.all_append];simp
   refine⟨_,rfl,_,rfl,_,rfl,_,rfl,y,c,pw,pm,vt,ws,ms,to,rfl,rcc.same s1,hcs c hcm,s1 _ _ hpw,hpm.same s1,hto,nw,nm,w1,lw,lm,λH2 s2=>⟨_,rfl,?_⟩⟩
   cases hb:za9 ws ms to c with
   |false=>
    have e:zcw ws ms to cs=false:=List.all_eq_false.mpr ⟨c,hcm,by rw[hb];decide⟩
    have q:=q H2 (s1.trans s2)
    rw[e] at q
    exact zap rfl q
   |true=>exact zao rfl ⟨⟨_,rfl⟩,by rw[tk,ha,hb];rfl,s1.trans s2⟩
  ·rintro σ' H1 ⟨⟨o4,rfl⟩,ha,s1⟩
   rw[rc.1,List.take_length] at ha
   have q:=q H1 s1
   have e:zcw ws ms to cs=true:=ha
   rw[e] at q
   exact q
theorem zjy(Y:Ev K mg):FnOk P w K mg base CX0 5 Y.a__law_handed Y.d__law_handed za3 zdb:=by
 have G__law_all_hold:FnOk P w K mg base CX0 4 Y.a__law_all_hold Y.d__law_all_hold zaA ziu:=zeT Y
 refine Y._law_handed.fn.okQ c__law_handed (λvs H Q E h=>?_) (λcdv A outer s H vs Q E hr h=>?_)
 ·obtain ⟨v,pw,pm,vt,x,ws,ms,to,g,hs,ps,lks,hds,j,rs,Pr,rfl,_⟩:=h;rfl
 ·obtain ⟨v,pw,pm,vt,x,ws,ms,to,g,hs,ps,lks,hds,j,rs,Pr,rfl,hv,T,hj,hdj,HO',MS,M0,hpw,hpm,hto,nw,lw,q⟩:=h
  obtain⟨p,pr,pt,pl,pa,vtt,vl,va,rfl,hp,hpr,hpt,rt,hpl,rl,hpa,ra⟩:=zcg hv
  have T10:=T.ten
  have hjl:j<hs.length:=by
   rcases Nat.lt_or_ge j hs.length with y|y
   ·exact y
   ·rw[List.getElem?_eq_none y] at hj;cases hj
  have hjk:j<hds.length:=by rw[T.lh];exact hjl
  have hjv:j<va.length:=by rw[ra.1];exact hjk
  refine⟨_,(zj (zL 4 c__law_handed.nd (zF ix_list (zaj (src:=[none,none,some 1]) o__law_handed_1 rfl rfl (zj2 Y.enumerate (zb (zF ix_tup (qv 0) zh) zc)) (λ_ _ _ _ _=>(zfl (K:=K) 2 rfl rfl (zz (zn 0 o__law_handed_1.nd) (zz (zn 1 o__law_handed_1.nd) zaT)))) (λ_ _ _ _ _=>(zc9 (zJ zas (qv 1) (zF (zaL (K:=K) rfl) (qc 2) zh)))) (λ_ _ _ _ _=>(qv 0))) zh))
   (zj (zL 5 c__law_handed.nd (zX zbT Y.list zeV (zb (qv 2) zc)))
   (zj (zcm PassesOwn.never rfl (zaP (zF ix_tup (zF ix_tup (qv 0) zh) (qv 4))) (zc1 2 rfl (zz (zn 6 c__law_handed.nd) (zz (zbO 7 c__law_handed.nd) zaT))) (zl (zaq (za7 (zk G__law_all_hold (hr.mono (by decide)) Y._law_all_hold.mg Y._law_all_hold.kp Y._law_all_hold.b .nil zr (zb (qv 6) (zb (qc 1) (zb (qv 5) (zb (qv 3) zc)))))) (zj (zaq (zJ zas (zF ix_tup (qc 7) zh) zY) (zl (zA zaE)) zT)
   (zl (zL 5 c__law_handed.nd (zx zcG Y.sorted zcJ (zb (zN zbV (zaj (src:=[none,some 7]) o__law_handed_2 rfl rfl (zdN (qv 5)) (λ_ _ _ _ _=>(zn 0 o__law_handed_2.nd)) (λ_ _ _ _ _=>(zc9 (zJ zho (qv 0) (zF (zaL (K:=K) rfl) (qc 1) zh)))) (λ_ _ _ _ _=>(qv 0))) (zN zrz (za1 (zb (zF ix_tup (qc 7) zh) zc)) (zX zda Y.int zev (zb (zaR zas (zF ix_tup (qc 7) zh) zY) zc)))) zc))))) zT)))
   (zl (zA (zX zV Y.tuple zax (zb (qv 5) zc))))))),?_⟩
  refine⟨_,rfl,p,_,1,_,rfl,rfl, .inl (.inl hp),zG (j:=1) rfl,pr,_,rfl, .inl (.inl hpr),?_⟩
  refine zjx (K:=K) (x:=x) (λσ'=>∃o0 o1,σ'=[o0,o1,some (.ref pw)]) (λH' s'=> .inl (.inl (s' _ _ hpr))) (by omega) ⟨_,_,rfl⟩ ?_ λl1 H1 s1 hl1 e1=>?_
  ·rintro T0 i y σ' HA A B ⟨o0,o1,rfl⟩ sA hT0 k
   refine⟨T0,_,rfl, .inl (.inl hT0),rfl,_,_,rfl,_,_,rfl,rfl,_,rfl,_,rfl,pw,_,0,_,rfl,rfl, .inl (.inl (sA _ _ hpw)),at0,rfl,_,rfl,?_⟩
   have k:=k [some (.int (i:Int)),some (.str y),some (.ref pw)] ⟨_,_,rfl⟩
   rw[zag]
   cases e:decide (y=x)with
   |false=>rw[e] at k;exact k
   |true=>rw[e] at k;exact⟨_,rfl,k⟩
  rw[zje T.hs_nd hj _ hjl] at e1
  refine⟨l1,_,0,_,rfl,rfl,SqL.of e1,at0,?_⟩
  refine⟨_,rfl,pm,_,rfl, .inr (.inl (.inl (s1 _ _ hpm))),λl2 hl2=>?_⟩
  have S2:=Same.new (o:= .lst (ms.map V.str)) hl2
  have e2:=zd (H:=H1) (a:=l2) (o:= .lst (ms.map V.str))
  have s02:=s1.trans S2
  generalize (upd H1 l2 (HO.lst (ms.map V.str)))=H2 at *
  have hp2:=s02 _ _ hp
  have hpa2:=s02 _ _ hpa
  have rj:=(ra.2 j _ _ (List.getElem?_eq_getElem hjv) hdj).same s02
  obtain⟨pq,us,epq,hpq,ru,_⟩:=rj.ofT
  refine⟨_,rfl,p,_,4,_,rfl,rfl, .inl (.inl hp2),zG (j:=4) rfl,_,rfl,pa,_,_, .ref pq,rfl,rfl, .inl (.inl hpa2),(by rw[←epq];exact zG (by simp[hjv])),pq,rfl,⟨_, .inl (.inl hpq)⟩,?_⟩
  refine zbq (zaG (K:=K) (xs:=us)) (λi σ' H'=>(∃ln t o6 o7,σ'=[some (.ref p),some (.ref pw),some (.ref pm),some vt,some (.int (j:Int)),some (.ref ln),o6,o7]/\H' ln=some (.lst (t.map V.str))/\Pr i t/\zD (x::ws) to rs ms=zD (x::ws) to (rs.drop i) t)/\Same H2 H') ⟨⟨l2,ms,_,_,rfl,e2,M0,rfl⟩,Same.refl _⟩ (λi σ' H' z=> .inl (.inl (z.2 _ _ hpq))) ?_ ?_
  ·rintro i y σ' H3 hi hy ⟨⟨ln,t,o6,o7,rfl,hln,Mt,he⟩,s3⟩
   obtain⟨r,hr',rr⟩:=ru.get hy
   obtain⟨cs,xa,rfl,hcs,hx⟩:=HO'.2 r (List.mem_of_getElem? hr')
   obtain⟨q0,v0,v1,rfl,hq0,r0,r1⟩:=(rr.same s3).of2
   have lu:=ru.1
   obtain⟨tn,tl⟩:=MS.ok i t (by omega) Mt
   refine⟨q0,_,rfl, .inl (.inl hq0),rfl,_,_,rfl,_,_,rfl,rfl,?_⟩
   refine⟨_,rfl,_,rfl,_,rfl,_,rfl,v0,cs,pw,ln,vt,x::ws,t,to,rfl,r0,hcs,s3 _ _ (s02 _ _ hpw), .inr hln,hto,nw,tn,by simp,by simp;omega,Nat.le_trans tl (by decide),λH4 s4=>⟨_,rfl,?_⟩⟩
   rw[ziq hr',zD] at he
   have er:zcw (x::ws) t to (zde (.tup [.tup cs,xa]))=zcw (x::ws) t to cs:=rfl
   have et:zci (.tup [.tup cs,xa])=xa:=rfl
   rw[er,et] at he
   cases hb:zcw (x::ws) t to cs with
   |false=>
    rw[hb,if_neg (by decide)] at he
    exact zao rfl ⟨⟨ln,t,_,_,rfl,s4 _ _ hln,MS.skip i t Mt,he⟩,s3.trans s4⟩
   |true=>
    rw[hb,if_pos rfl] at he
    refine zap rfl ?_
    rcases hx with rfl|⟨w1,m1,rfl,hw1,hm1⟩
    ·obtain ⟨pac,ua,rfl,hpac,ra',_⟩:=(r1.same s4).ofT
     have la:ua.length=1:=ra'.1
     obtain⟨u0,rfl⟩:∃u0,ua=[u0]:=by
      match ua,la with
      |[u0],_=>exact ⟨u0,rfl⟩
     have h0:=ra'.head.1
     cases h0 with|str _ _=>
     refine⟨_,rfl,pac,_,0,_,rfl,rfl, .inl (.inl hpac),at0,rfl,_,rfl,zap (by rw[decide_eq_true rfl]) ?_⟩
     exact q .non H4 (by rw[he];rfl) ((s02.trans s3).trans s4)
    ·obtain ⟨pac,z0,z1,rfl,hpac,rz0,rz1⟩:=(r1.same s4).of2
     cases rz0 with|str _ _=>
     cases rz1 with|str _ _=>
     have nk:decide (V.str w1=V.str "keep")=false:=by
      rw[zag]
      rcases hw1 with rfl|rfl<;>decide +kernel
     refine⟨_,rfl,pac,_,0,_,rfl,rfl, .inl (.inl hpac),at0,rfl,_,rfl,zao nk ?_⟩
     have hln4:=s4 _ _ hln
     refine⟨_,rfl,ln,rfl,⟨_,SqL.of hln4⟩,?_⟩
     refine zef (g:=neD m1) (f:=λd=>d) (σr:=[some (.ref pac)]) (zdt (K:=K)) (λH' s'=>SqL.of (s' _ _ hln4)) (zbr λy hy=>zH (tn y hy)) (by rw[List.length_map];omega) rfl ?_ (λx d HA sA rx hd=>by walk_at "dsp") λl5 us5 H5 s5 hl5 e5 r5=>?_
     ·intro z d HA Q1 sA rz hd q1
      obtain⟨b,_,rfl⟩:=List.mem_map.mp hd
      cases rz with|str _ _=>
      refine⟨_,rfl,_,rfl,pac,_,1,_,rfl,rfl, .inl (.inl (sA _ _ hpac)),at1,rfl,_,rfl,?_⟩
      rw[zag]
      exact q1 HA (Same.refl _)
     rw[zoj] at r5
     have eus:=zfu r5
     subst eus
     have lf:=List.length_filter_le (λx=>!decide (x=m1)) t
     have hpac5:=s5 _ _ hpac
     refine⟨_,rfl,pac,_,1,_,rfl,rfl, .inl (.inl hpac5),at1,few rfl,λp6 hp6=>?_⟩
     have S6:=Same.new (o:= .lst [V.str m1]) hp6
     refine⟨_,rfl,pac,_,0,_,rfl,rfl, .inl (.inl (S6 _ _ hpac5)),at0,rfl, .inr ⟨_,rfl,p6,_,_,rfl,rfl,zd,?_,?_,?_,λp7 hp7=>?_⟩⟩
     ·split<;>decide
     ·split<;>decide
     ·refine Nat.le_trans (Nat.mul_le_mul_left _ (show _<=1 by split<;>decide)) (by show 1*1<=sizeLine;decide)
     have S7:=Same.new (o:= .lst (List.replicate (if decide (V.str w1=V.str "put")=true then(1:Int)else 0).toNat [V.str m1]).flatten) hp7
     have e7:=zd (H:=upd H5 p6 (.lst [V.str m1])) (a:=p7) (o:= .lst (List.replicate (if decide (V.str w1=V.str "put")=true then(1:Int)else 0).toNat [V.str m1]).flatten)
     have eb:(t.filter λx=>!decide (x=m1)).map V.str ++(List.replicate (if decide (V.str w1=V.str "put")=true then(1:Int)else 0).toNat [V.str m1]).flatten=(zaH t w1 m1).map V.str:=by
      unfold zaH
      rw[List.map_append,zag]
      by_cases z:w1="put"
      ·rw[decide_eq_true z,if_pos rfl,if_pos z];rfl
      ·rw[decide_eq_false z,if_neg (by decide),if_neg z];rfl
     have lb:(List.replicate (if decide (V.str w1=V.str "put")=true then(1:Int)else 0).toNat [V.str m1]).flatten.length<=1:=by split<;>exact Nat.le_of_ble_eq_true rfl
     have S57:=S6.trans S7
     have e57:=S57 _ _ e5
     generalize (upd (upd H5 p6 (HO.lst [V.str m1])) p7 (HO.lst (List.replicate (if decide (V.str w1=V.str "put")=true then(1:Int)else 0).toNat [V.str m1]).flatten))=H7 at *
     refine⟨l5,p7,_,_,rfl,rfl,e57,e7,Nat.le_of_lt (zm (by rw[List.length_map];omega)),λp8 hp8=>?_⟩
     have S8:=Same.new (o:= .lst ((t.filter λx=>!decide (x=m1)).map V.str ++(List.replicate (if decide (V.str w1=V.str "put")=true then(1:Int)else 0).toNat [V.str m1]).flatten)) hp8
     have lbb:(zaH t w1 m1).length<64:=by
      have:=congrArg List.length eb
      rw[List.length_append,List.length_map,List.length_map] at this
      omega
     refine⟨p8,zaH t w1 m1,rfl, .inl (SqL.of (by rw[zd,eb])),lbb,λss l9 hp9 hs9 hl9=>?_⟩
     have es:=zli hp9 hs9
     refine⟨⟨l9,ss,_,_,rfl,zd,by rw[es];exact MS.next i t w1 m1 cs Mt hr',by rw[es];exact he⟩,((((s3.trans s4).trans s5).trans S57).trans S8).trans (Same.new hl9)⟩
  ·rintro σ' H3 ⟨⟨ln,t,o6,o7,rfl,hln,Mt,he⟩,s3⟩
   rw[ru.1,List.drop_length,zD] at he
   exact⟨_,rfl,ln,_,rfl, .inl ⟨SqL.of hln,λp9 hp9=>q _ _ (by rw[he];exact⟨p9,rfl,zd⟩) ((s02.trans s3).trans (Same.new hp9))⟩⟩
theorem zkb(Y:Ev K mg):FnOk P w K mg base CX0 5 Y.a__law_handed Y.d__law_handed za3 zgh:=(zjy Y).imp λ_ _ _ _ h=>zku h
theorem zmw(Y:Ev K mg):FnOk P w K mg base CX0 5 Y.a__law_worth Y.d__law_worth zbU zf6:=by
 have G__law_all_hold:FnOk P w K mg base CX0 4 Y.a__law_all_hold Y.d__law_all_hold zaA ziu:=zeT Y
 refine Y._law_worth.fn.okQ c__law_worth (λvs H Q E h=>?_) (λcdv A outer s H vs Q E hr h=>?_)
 ·obtain ⟨v,pw,pm,x,ws,ms,g,hs,ps,lks,hds,j,rs,rfl,_⟩:=h;rfl
 ·obtain ⟨v,pw,pm,x,ws,ms,g,hs,ps,lks,hds,j,rs,rfl,hv,T,hj,hlj,hpw,hpm,nw,nm,lw,lm,q⟩:=h
  obtain⟨p,pr,pt,pl,pa,vt,vl,va,rfl,hp,hpr,hpt,rt,hpl,rl,hpa,ra⟩:=zcg hv
  have T10:=T.ten
  have hlk:rs.length<=90/\∀r∈rs,zav r=true:=by
   have h:=T.likes _ (List.mem_of_getElem? hlj)
   have h:(decide (rs.length<=90)&&rs.all zav)=true:=h
   rw[Bool.and_eq_true] at h
   exact⟨of_decide_eq_true h.1,List.all_eq_true.mp h.2⟩
  have hjl:j<hs.length:=by
   rcases Nat.lt_or_ge j hs.length with y|y
   ·exact y
   ·rw[List.getElem?_eq_none y] at hj;cases hj
  have hjk:j<lks.length:=by rw[T.ll];exact hjl
  have hjv:j<vl.length:=by rw[rl.1];exact hjk
  refine⟨_,(zj (zL 3 c__law_worth.nd (zF ix_list (zaj (src:=[none,none,some 1]) o__law_worth_1 rfl rfl (zj2 Y.enumerate (zb (zF ix_tup (qv 0) zh) zc)) (λ_ _ _ _ _=>(zfl (K:=K) 2 rfl rfl (zz (zn 0 o__law_worth_1.nd) (zz (zn 1 o__law_worth_1.nd) zaT)))) (λ_ _ _ _ _=>(zc9 (zJ zas (qv 1) (zF (zaL (K:=K) rfl) (qc 2) zh)))) (λ_ _ _ _ _=>(qv 0))) zh))
   (zj (zbm 4 (src:=[none,none,some 2,some 1]) o__law_worth_2 rfl rfl c__law_worth.nd (zaP (zF ix_tup (zF ix_tup (qv 0) zh) (qv 3))) (λ_ _ _ _ _=>(zfl (K:=K) 2 rfl rfl (zz (zn 0 o__law_worth_2.nd) (zz (zn 1 o__law_worth_2.nd) zaT)))) (λ_ _ _ _ _=>(zc9 (za7 (zk G__law_all_hold (hr.mono (by decide)) Y._law_all_hold.mg Y._law_all_hold.kp Y._law_all_hold.b .nil zr (zb (qv 0) (zb (qc 3) (zb (qc 2) (zb zaE zc)))))))) (λ_ _ _ _ _=>(qv 1)))
   (zl (zA (zF ix_list (zN zbV (qv 4) (za1 (zb zh zc))) zh))))),?_⟩
  refine⟨_,rfl,p,_,1,_,rfl,rfl, .inl (.inl hp),zG (j:=1) rfl,pr,_,rfl, .inl (.inl hpr),?_⟩
  refine zjx (K:=K) (x:=x) (λσ'=>∃o0 o1,σ'=[o0,o1,some (.ref pw)]) (λH' s'=> .inl (.inl (s' _ _ hpr))) (by omega) ⟨_,_,rfl⟩ ?_ λl1 H1 s1 hl1 e1=>?_
  ·rintro T0 i y σ' HA A B ⟨o0,o1,rfl⟩ sA hT0 k
   refine⟨T0,_,rfl, .inl (.inl hT0),rfl,_,_,rfl,_,_,rfl,rfl,_,rfl,_,rfl,pw,_,0,_,rfl,rfl, .inl (.inl (sA _ _ hpw)),at0,rfl,_,rfl,?_⟩
   have k:=k [some (.int (i:Int)),some (.str y),some (.ref pw)] ⟨_,_,rfl⟩
   rw[zag]
   cases e:decide (y=x)with
   |false=>rw[e] at k;exact k
   |true=>rw[e] at k;exact⟨_,rfl,k⟩
  rw[zje T.hs_nd hj _ hjl] at e1
  refine⟨l1,_,0,_,rfl,rfl,SqL.of e1,at0,?_⟩
  have hp1:=s1 _ _ hp
  have hpl1:=s1 _ _ hpl
  have rj:=(rl.2 j _ _ (List.getElem?_eq_getElem hjv) hlj).same s1
  obtain⟨pq,us,epq,hpq,ru,_⟩:=rj.ofT
  refine⟨_,rfl,p,_,3,_,rfl,rfl, .inl (.inl hp1),zG (j:=3) rfl,_,rfl,pl,_,_, .ref pq,rfl,rfl, .inl (.inl hpl1),(by rw[←epq];exact zG (by simp[hjv])),pq,rfl,⟨_, .inl (.inl hpq)⟩,?_⟩
  refine zkh (rs:=rs) (sel:=λr=>zcw (x::ws) ms none (zde r)) (λσ'=>∃o0 o1,σ'=[o0,o1,some (.ref pm),some (.ref pw)]) (zaG (K:=K) (xs:=us)) (λH' s'=> .inl (.inl (s' _ _ hpq))) ru (by omega) ⟨_,_,rfl⟩ (λd hd=>by obtain⟨cs,t,e,_⟩:=zfk (hlk.2 d hd);exact⟨cs,t,e⟩) ?_ λl2 us2 H2 s2 hl2 e2 r2=>?_
  ·rintro q0 d v0 v1 σ' HA A B ⟨o0,o1,rfl⟩ sA hd hq0 r0 r1 k
   obtain⟨cs,t,rfl,c4,hcs,ht⟩:=zfk (hlk.2 d hd)
   refine⟨q0,_,rfl, .inl (.inl hq0),rfl,_,_,rfl,_,_,rfl,rfl,?_⟩
   refine⟨_,rfl,_,rfl,_,rfl,v0,cs,pw,pm, .non,x::ws,ms,none,rfl,r0,hcs,sA _ _ (s1 _ _ hpw), .inl (sA _ _ (s1 _ _ hpm)), .inl ⟨rfl,rfl⟩,nw,nm,by simp,by simp;omega,lm,λHB sB=>⟨_,rfl,?_⟩⟩
   have k:=k [some v0,some v1,some (.ref pm),some (.ref pw)] HB ⟨_,_,rfl⟩ sB
   cases e:zcw (x::ws) ms none cs with
   |false=>
    have e':zcw (x::ws) ms none (zde (.tup [.tup cs,t]))=false:=e
    rw[e'] at k
    exact k
   |true=>
    have e':zcw (x::ws) ms none (zde (.tup [.tup cs,t]))=true:=e
    rw[e'] at k
    exact⟨_,rfl,k⟩
  dsimp only[zaM]
  refine⟨_,rfl,few rfl,λpz hpz=>?_⟩
  have Sz:=Same.new (o:= .lst [V.int 0]) hpz
  have l2':=r2.1
  have lf:=List.length_filter_le (λr=>zcw (x::ws) ms none (zde r)) rs
  rw[List.length_map] at l2'
  refine⟨l2,pz,_,_,rfl,rfl,Sz _ _ e2,zd,Nat.le_of_lt (zm (by show _+1<=_;omega)),λpx hpx=>?_⟩
  have rA:RepL (upd (upd H2 pz (.lst [V.int 0])) px (.lst (us2 ++ [V.int 0]))) (us2 ++ [V.int 0]) ((rs.filter λr=>zcw (x::ws) ms none (zde r)).map zci ++ [.int 0]):=((r2.mono ((Mono.new hpz).trans (.new hpx))).append (.cons (.int 0) .nil))
  obtain⟨es,ees⟩:=zgm (ws:=x::ws) (ms:=ms) (rs:=rs)
  rw[ees] at rA
  obtain⟨u0,ur,eu⟩:∃u0 ur,us2 ++ [V.int 0]=u0::ur:=by
   cases us2 with
   |nil=>exact ⟨_,_,rfl⟩
   |cons a b=>exact ⟨_,_,rfl⟩
  rw[eu] at rA⊢
  refine⟨px,_,0,_,rfl,rfl,SqL.of zd,at0,?_⟩
  have S:=((s1.trans s2).trans Sz).trans (Same.new (o:= .lst (u0::ur)) hpx)
  exact q u0 _ rA.head.1 S
end
section
variable{P:Program}{w:World}{K:PySem.W.Frag}{mg:Str->Option Value}{base:Heap}
noncomputable def zqm:Sp:=λvs H Q _=>∃v d lo hi,vs=[v, .int lo, .int hi]/\Rep H v d/\∀H',Same H H'->Q (.bl (zv d lo hi)) H'
theorem zhW(Y:Ev K mg):FnOk P w K mg base CX0 2 Y.a_are_names Y.d_are_names zck zqm:=by
 have G_is_row:FnOk P w K mg base CX0 1 Y.a_is_row Y.d_is_row zcp ziG:=zd7 Y
 have G_is_name:FnOk P w K mg base CX0 1 Y.a_is_name Y.d_is_name zcL (ziU zW):=zgu Y
 refine Y.are_names.fn.okQ ziW (λvs H Q E h=>?_) (λcdv A outer s H vs Q E hr h=>?_)
 ·obtain ⟨v,d,lo,hi,rfl,_⟩:=h;rfl
 ·obtain ⟨v,d,lo,hi,rfl,hd,q⟩:=h
  refine⟨_,(zl (zA (zfP (zk G_is_row (hr.mono (by decide)) Y.is_row.mg Y.is_row.kp Y.is_row.b .nil zr (zb (qv 0) (zb (qv 1) (zb (qv 2) zc)))) (zeB (zx (zbM rfl) Y.all zdK (zb (zaj (src:=[none]) o_are_names_1 rfl rfl (zaP (qv 0)) (λ_ _ _ _ _=>(zn 0 o_are_names_1.nd)) (λ_ _ _ _ _=>za6) (λ_ _ _ _ _=>(zk G_is_name (hr.mono (by decide)) Y.is_name.mg Y.is_name.kp Y.is_name.b .nil zr (zb (qv 0) zc)))) zc)))))),?_⟩
  refine⟨_,rfl,_,rfl,_,rfl,v,d,lo,hi,rfl,hd,λH1 s1=>⟨_,rfl,?_⟩⟩
  cases e:zaJ d lo hi with
  |false=>
   have q:=q H1 s1
   rw[show zv d lo hi=false by unfold zv;rw[e];rfl] at q
   exact zao (by decide) q
  |true=>
   cases d with
   |tup ds=>
    obtain⟨p,vs,rfl,hp,r,b⟩:=(hd.same s1).ofT
    refine zap rfl ⟨_,rfl,p,rfl,⟨vs, .inl (.inl hp)⟩,?_⟩
    refine zi2 (g:=zW) (ok:=λH=>SqT K H p vs) zaG (λH' s=> .inl (.inl (s _ _ hp))) r b rfl (λx d H2 Q1 s2 rx _ q1=>⟨_,rfl,x,d,rfl,rx,q1⟩) (λl H2 s2 _ hl=>?_)
    refine⟨l,_,rfl,SqL.of hl,?_⟩
    rw[zb2]
    have q:=q H2 (s1.trans s2)
    rw[show zv (.tup ds) lo hi=ds.all zW by unfold zv;rw[e];rfl] at q
    exact q
   |_=>cases e
noncomputable def zlO:Sp:=λvs H Q _=>∃(u v:V) (d:D) (g:Str) (hs:List Str) (ps:List (Str×Str)) (lks hds:List D),vs=[u,v]/\Rep H u (zcn g hs ps lks hds)/\TownOk g hs ps lks hds/\Rep H v d/\∀H',Same H H'->Q (.bl (zo hs ps d)) H'
theorem zlX{hs:List Str}{ps:List (Str×Str)}{d:D}(h:zaJ d 5 5=false):zo hs ps d=false:=by
 cases e:zo hs ps d with
 |false=>rfl
 |true=>obtain ⟨p,rfl,_⟩:=zew e;cases h
theorem zsx{d:D}(h:zaJ d 5 5=true):∃a b c e f,d= .tup [a,b,c,e,f]:=by
 cases d with
 |tup ds=>
  have h:(decide ((5:Int)<=(ds.length:Int))&&decide ((ds.length:Int)<=5))=true:=h
  rw[Bool.and_eq_true,decide_eq_true_iff,decide_eq_true_iff] at h
  have hl:ds.length=5:=by omega
  match ds,hl with
  |[a,b,c,e,f],_=>exact ⟨a,b,c,e,f,rfl⟩
 |_=>cases h
theorem znm{ms:List Str}:zfb (tD ms)=decide (ms=[]):=by cases ms<;>rfl
theorem zjN(Y:Ev K mg):FnOk P w K mg base CX0 3 Y.a_is_paper Y.d_is_paper zcX zlO:=by
 have G_is_row:FnOk P w K mg base CX0 1 Y.a_is_row Y.d_is_row zcp ziG:=zd7 Y
 have G_is_house:FnOk P w K mg base CX0 2 Y.a_is_house Y.d_is_house zb6 zhX:=zfz Y
 have G_tied:FnOk P w K mg base CX0 1 Y.a_tied Y.d_tied zfo zkN:=zlf Y
 have G_is_number:FnOk P w K mg base CX0 1 Y.a_is_number Y.d_is_number zcq (ziU zca):=zh9 Y
 have G_are_names:FnOk P w K mg base CX0 2 Y.a_are_names Y.d_are_names zck zqm:=zhW Y
 refine Y.is_paper.fn.okQ c_is_paper (λvs H Q E h=>?_) (λcdv A outer s H vs Q E hr h=>?_)
 ·obtain ⟨u,v,d,g,hs,ps,lks,hds,rfl,_⟩:=h;rfl
 ·obtain ⟨u,v,d,g,hs,ps,lks,hds,rfl,hu,T,hd,q⟩:=h
  obtain⟨p,pr,pt,pl,pa,vt,vl,va,rfl,hp,hpr,hpt,rt,hpl,rl,hpa,ra⟩:=zcg hu
  refine⟨_,(zj (zaq (zbt (za7 (zk G_is_row (hr.mono (by decide)) Y.is_row.mg Y.is_row.kp Y.is_row.b .nil zr (zb (qv 1) (zb zh (zb zh zc)))))) (zl (zA zbv)) zT)
   (zj (zdc (qv 1) (zc1 5 rfl (zz (zn 2 c_is_paper.nd) (zz (zn 3 c_is_paper.nd) (zz (zn 4 c_is_paper.nd) (zz (zn 5 c_is_paper.nd) (zz (zn 6 c_is_paper.nd) zaT)))))))
   (zj (zaq (t_w (zfr (zbt (za7 (zk G_is_house (hr.mono (by decide)) Y.is_house.mg Y.is_house.kp Y.is_house.b .nil zr (zb (zF ix_tup (qv 0) zh) (zb (qv 2) zc))))) (zfr (zbt (za7 (zk G_is_house (hr.mono (by decide)) Y.is_house.mg Y.is_house.kp Y.is_house.b .nil zr (zb (zF ix_tup (qv 0) zh) (zb (qv 3) zc))))) (zem (zJ zdr (qv 3) (zk G_tied (hr.mono (by decide)) Y.tied.mg Y.tied.kp Y.tied.b .nil zr (zb (qv 0) (zb (qv 2) zc)))))))) (zl (zA zbv)) zT)
   (zj (zaq (t_w (zfr (zbt (za7 (zk G_is_number (hr.mono (by decide)) Y.is_number.mg Y.is_number.kp Y.is_number.b .nil zr (zb (qv 4) zc)))) (zfr (zJ zov (qv 4) zh) (zem (zbt (za7 (zk G_are_names (hr.mono (by decide)) Y.are_names.mg Y.are_names.kp Y.are_names.b .nil zr (zb (qv 6) (zb zh (zb (zga Y.m_MOST_MARKS Y.r_MOST_MARKS) zc)))))))))) (zl (zA zbv)) zT)
   (zl (zA (zso (zJ zfd (qv 5) zaE) (zaR (zgL (zgQ hr)) (qv 6) (zB zc)) (zk G_are_names (hr.mono (by decide)) Y.are_names.mg Y.are_names.kp Y.are_names.b .nil zr (zb (qv 5) (zb zh (zb (zga Y.m_LONGEST_WAY Y.r_LONGEST_WAY) zc))))))))))),?_⟩
  refine⟨_,rfl,v,d,5,5,rfl,hd,λH1 s1=>⟨_,rfl,?_⟩⟩
  cases e5:zaJ d 5 5 with
  |false=>
   have q:=q H1 s1
   rw[zlX e5] at q
   exact zap rfl q
  |true=>
   obtain⟨d1,d2,d3,d4,d5,rfl⟩:=zsx e5
   obtain⟨pd,x1,x2,x3,x4,x5,rfl,hpd,r1,r2,r3,r4,r5⟩:=zkj (hd.same s1)
   refine zao rfl ⟨_,rfl,pd,_,rfl, .inl (.inl hpd),rfl,_,_,rfl,_,_,rfl,_,_,rfl,_,_,rfl,_,_,rfl,rfl,?_⟩
   have hp1:=s1 _ _ hp
   have HsA:HsAt H1 (.ref pr) hs:=⟨pr,rfl,s1 _ _ hpr,T.ten,T.names⟩
   have eq0:zo hs ps (.tup [d1,d2,d3,d4,d5])=((zC hs d1&&(zC hs d2&&zfD ps d1 d2))&&((zca d3&&(zkp d3&&zv d5 0 90))&&(if zac d4=true then zfb d5 else zv d4 1 10))):=rfl
   rw[eq0] at q
   refine⟨_,rfl,p,_,1,_,rfl,rfl, .inl (.inl hp1),zG (j:=1) rfl,_,rfl,_,x1,d1,hs,rfl,HsA,r1,λH2 s2=>⟨_,rfl,?_⟩⟩
   cases e1:zC hs d1 with
   |false=>
    have q:=q H2 (s1.trans s2)
    rw[e1] at q
    exact zap rfl (zap rfl q)
   |true=>
   rw[e1] at q
   obtain⟨y1,rfl,hy1⟩:=zbD e1
   cases r1 with|str _ _=>
   refine zao rfl ⟨_,rfl,p,_,1,_,rfl,rfl, .inl (.inl (s2 _ _ hp1)),zG (j:=1) rfl,_,rfl,_,x2,d2,hs,rfl,HsA.same s2,r2.same s2,λH3 s3=>⟨_,rfl,?_⟩⟩
   have s03:=(s1.trans s2).trans s3
   have s13:=s2.trans s3
   cases e2:zC hs d2 with
   |false=>
    have q:=q H3 s03
    rw[e2] at q
    exact zap rfl (zap rfl q)
   |true=>
   rw[e2] at q
   obtain⟨y2,rfl,hy2⟩:=zbD e2
   cases r2 with|str _ _=>
   refine zao rfl ⟨_,rfl,_,rfl,_,rfl,_,_,g,hs,ps,lks,hds,rfl,hu.same s03,T,λl8 ts H8 hl8 e8 hp8 hs8 s8=>?_⟩
   refine⟨l8,_,rfl, .inl (SqL.of e8),rfl,zcH,_,rfl,?_⟩
   have s08:=s03.trans s8
   have s18:=s13.trans s8
   have hin:(if true=true then !inV (V.str y2) (ts.map V.str)else inV (V.str y2) (ts.map V.str))=!zfD ps (.str y1) (.str y2):=by
    rw[if_pos rfl,zd9]
    congr 1
    show _=decide (y2∈zaD ps y1)
    rw[Bool.eq_iff_iff,decide_eq_true_iff,←hp8.mem_iff,List.any_eq_true]
    exact⟨λ⟨y,hy,e⟩=>by rw[←of_decide_eq_true e];exact hy,λh=>⟨_,h,decide_eq_true rfl⟩⟩
   rw[hin]
   cases e3:zfD ps (.str y1) (.str y2)with
   |false=>
    have q:=q H8 s08
    rw[e3] at q
    exact zap rfl q
   |true=>
   rw[e3] at q
   refine zao rfl ?_
   have r38:=r3.same s18
   refine⟨_,rfl,_,d3,rfl,r38,λH9 s9=>⟨_,rfl,?_⟩⟩
   have s09:=s08.trans s9
   have s19:=s18.trans s9
   cases e4:zca d3 with
   |false=>
    have q:=q H9 s09
    rw[e4] at q
    exact zap rfl (zap rfl q)
   |true=>
   rw[e4] at q
   cases d3 with
   |int i=>
    cases r3 with|int _=>
    refine zao rfl ⟨_,rfl,_,_,rfl,rfl,_,rfl,?_⟩
    have ep:zkp (.int i)=!decide (i<1):=rfl
    cases e6:decide (i<1)with
    |true=>
     have q:=q H9 s09
     rw[ep,e6] at q
     exact zap rfl (zap rfl q)
    |false=>
    rw[ep,e6] at q
    refine zao (by decide) ⟨_,rfl,_,d5,0,90,rfl,r5.same s19,λHA sA=>⟨_,rfl,?_⟩⟩
    have s0A:=s09.trans sA
    have s1A:=s19.trans sA
    cases e7:zv d5 0 90 with
    |false=>
     have q:=q HA s0A
     rw[e7] at q
     exact zap rfl q
    |true=>
    rw[e7] at q
    refine zao rfl ⟨_,rfl,rfl,_,rfl,?_⟩
    have r4A:=r4.same s1A
    rw[zeD r4A]
    cases e8':zac d4 with
    |true=>
     rw[e8',if_pos rfl] at q
     obtain⟨ms,rfl,m1,m2,m3⟩:=zdq e7
     obtain⟨p5,rfl,hp5⟩:=zbs r5
     refine zap rfl ⟨_,rfl,few rfl,λpe hpe=>?_⟩
     have Se:=Same.new (o:= .tup []) hpe
     refine⟨_,_,zcx (xs:=ms) (Se _ _ (s1A _ _ hp5)) (λx hx=>zI (m3 x hx)),zcx (xs:=[]) zd (λ_ z=>nomatch z),Nat.le_trans (Nat.min_le_left _ _) zbg,?_⟩
     rw[zdg,←znm]
     exact q _ (s0A.trans Se)
    |false=>
     rw[e8',if_neg (by decide)] at q
     exact zao (by decide) ⟨_,rfl,_,d4,1,10,rfl,r4A,λHB sB=>q HB (s0A.trans sB)⟩
   |_=>cases e4
noncomputable def ziO:Sp:=λvs H Q _=>∃(u v:V) (d:D) (g:Str) (hs:List Str) (ps:List (Str×Str)) (lks hds:List D),vs=[u,v]/\Rep H u (zcn g hs ps lks hds)/\TownOk g hs ps lks hds/\Rep H v d/\∀H',Same H H'->Q (.bl (zK hs ps d)) H'
theorem zmj{hs:List Str}{ps:List (Str×Str)}{p x:D}:zK hs ps (.tup [p,x])=(zo hs ps p&&(zaJ x 0 10&&allB (zo hs ps) x)):=by
 cases x with
 |tup qs=>
  show(zo hs ps p&&(decide (qs.length<=10)&&qs.all (zo hs ps)))=(zo hs ps p&&((decide ((0:Int)<=(qs.length:Int))&&decide ((qs.length:Int)<=10))&&qs.all (zo hs ps)))
  rw[decide_eq_true (show(0:Int)<=(qs.length:Int) by omega),Bool.true_and]
  congr 2
  rw[Bool.eq_iff_iff,decide_eq_true_iff,decide_eq_true_iff]
  omega
 |_=>show false=(zo hs ps p&&_);cases zo hs ps p<;>rfl
theorem zjX{hs:List Str}{ps:List (Str×Str)}{d:D}(h:zaJ d 2 2=false):zK hs ps d=false:=by
 cases e:zK hs ps d with
 |false=>rfl
 |true=>obtain ⟨f,qs,rfl,_⟩:=zfK e;cases h
theorem zsm{d:D}(h:zaJ d 2 2=true):∃a b,d= .tup [a,b]:=by
 cases d with
 |tup ds=>
  have h:(decide ((2:Int)<=(ds.length:Int))&&decide ((ds.length:Int)<=2))=true:=h
  rw[Bool.and_eq_true,decide_eq_true_iff,decide_eq_true_iff] at h
  have hl:ds.length=2:=by omega
  match ds,hl with
  |[a,b],_=>exact ⟨a,b,rfl⟩
 |_=>cases h
theorem zh5(Y:Ev K mg):FnOk P w K mg base CX0 4 Y.a_is_sealed Y.d_is_sealed zcj ziO:=by
 have G_is_row:FnOk P w K mg base CX0 1 Y.a_is_row Y.d_is_row zcp ziG:=zd7 Y
 have G_is_paper:FnOk P w K mg base CX0 3 Y.a_is_paper Y.d_is_paper zcX zlO:=zjN Y
 refine Y.is_sealed.fn.okQ zjg (λvs H Q E h=>?_) (λcdv A outer s H vs Q E hr h=>?_)
 ·obtain ⟨u,v,d,g,hs,ps,lks,hds,rfl,_⟩:=h;rfl
 ·obtain ⟨u,v,d,g,hs,ps,lks,hds,rfl,hu,T,hd,q⟩:=h
  refine⟨_,(zj (zaq (t_w (zfr (zbt (za7 (zk G_is_row (hr.mono (by decide)) Y.is_row.mg Y.is_row.kp Y.is_row.b .nil zr (zb (qv 1) (zb zh (zb zh zc)))))) (zem (zbt (za7 (zk G_is_paper (hr.mono (by decide)) Y.is_paper.mg Y.is_paper.kp Y.is_paper.b .nil zr (zb (qc 0) (zb (zF ix_tup (qv 1) zh) zc)))))))) (zl (zA zbv)) zT)
   (zl (zA (zfP (zk G_is_row (hr.mono (by decide)) Y.is_row.mg Y.is_row.kp Y.is_row.b .nil zr (zb (zF ix_tup (qv 1) zh) (zb zh (zb (zga Y.m_MOST_PAPERS Y.r_MOST_PAPERS) zc)))) (zeB (zx (zbM rfl) Y.all zdK (zb (zaj (src:=[none,some 0]) o_is_sealed_1 rfl rfl (zaP (zF ix_tup (qv 1) zh)) (λ_ _ _ _ _=>(zn 0 o_is_sealed_1.nd)) (λ_ _ _ _ _=>za6) (λ_ _ _ _ _=>(zk G_is_paper (hr.mono (by decide)) Y.is_paper.mg Y.is_paper.kp Y.is_paper.b .nil zr (zb (qc 1) (zb (qv 0) zc))))) zc))))))),?_⟩
  refine⟨_,rfl,v,d,2,2,rfl,hd,λH1 s1=>⟨_,rfl,?_⟩⟩
  cases e2:zaJ d 2 2 with
  |false=>
   have q:=q H1 s1
   rw[zjX e2] at q
   exact zap rfl (zap rfl q)
  |true=>
  obtain⟨d1,d2,rfl⟩:=zsm e2
  rw[zmj] at q
  obtain⟨pd,x1,x2,rfl,hpd,r1,r2⟩:=(hd.same s1).of2
  refine zao rfl ⟨_,rfl,_,rfl,pd,_,0,_,rfl,rfl, .inl (.inl hpd),at0,u,x1,d1,g,hs,ps,lks,hds,rfl,hu.same s1,T,r1,λH2 s2=>⟨_,rfl,?_⟩⟩
  cases e3:zo hs ps d1 with
  |false=>
   have q:=q H2 (s1.trans s2)
   rw[e3] at q
   exact zap rfl q
  |true=>
  rw[e3] at q
  refine zao rfl ⟨_,rfl,pd,_,1,_,rfl,rfl, .inl (.inl (s2 _ _ hpd)),at1,x2,d2,0,10,rfl,r2.same s2,λH3 s3=>⟨_,rfl,?_⟩⟩
  have s03:=(s1.trans s2).trans s3
  cases e4:zaJ d2 0 10 with
  |false=>
   have q:=q H3 s03
   rw[e4] at q
   exact zao (by decide) q
  |true=>
  rw[e4] at q
  cases d2 with
  |tup ds=>
   obtain⟨p2,vs,rfl,hp2,r,b⟩:=((r2.same s2).same s3).ofT
   refine zap rfl ⟨_,rfl,pd,_,1,_,rfl,rfl, .inl (.inl (s3 _ _ (s2 _ _ hpd))),at1,p2,rfl,⟨vs, .inl (.inl hp2)⟩,?_⟩
   refine zdu (g:=zo hs ps) (σr:=[some u]) (zaG (K:=K)) (λH' s=> .inl (.inl (s _ _ hp2))) r b rfl (λx d HA Q1 sA rx hd q1=>⟨_,rfl,_,rfl,u,x,d,g,hs,ps,lks,hds,rfl,hu.same (s03.trans sA),T,rx,q1⟩) (λl4 H4 s4 _ hl4=>?_)
   refine⟨l4,_,rfl,SqL.of hl4,?_⟩
   rw[zb2]
   exact q H4 (s03.trans s4)
  |_=>cases e4
end
section
variable{P:Program}{w:World}{K:PySem.W.Frag}{mg:Str->Option Value}{base:Heap}
theorem zlW{K:PySem.W.Frag}{a:Addr}{xs:List V}{lo hi:Option Int}{H:Hp}{Q:VK}(h:H a=some (.tup xs))(k:∀p H',H' p=some (.tup (zbu xs lo hi))->Same H H'->Q (.ref p) H'):zm2 K (.ref a) lo hi H Q:=
 ⟨a,xs,rfl, .inl (.inl h),λz=>k a H (by rw[z];exact h) (Same.refl _),λp hp=>k p _ zd (Same.new hp)⟩
theorem zf7{K:PySem.W.Frag}{a b:Addr}{xs ys:List V}{H:Hp}{Q:VK}(ha:H a=some (.tup xs))(hb:H b=some (.tup ys))(hl:xs.length+ys.length<=1000)(k:∀p H',H' p=some (.tup (xs ++ys))->Same H H'->Q (.ref p) H'):zox K (.ref a) (.ref b) H Q:=
 ⟨a,b,xs,ys,rfl,rfl, .inl (.inl ha), .inl (.inl hb),Nat.le_of_lt (zm hl),λz=>k b H (by rw[z];exact hb) (Same.refl _),λ_ z=>k a H (by rw[z,List.append_nil];exact ha) (Same.refl _),λ_ _ p hp=>k p _ zd (Same.new hp)⟩
noncomputable def zni:D->Bool| .tup ds=>decide (ds.length<=12)|_=>false
theorem zrx{d:D}(h:zkx d=true):zni d=true:=by
 cases d with
 |tup ds=>exact decide_eq_true (Nat.le_trans (of_decide_eq_true (show decide (ds.length<=3)=true from h)) (by decide))
 |_=>cases h
theorem zsi{g:Str}{hs:List Str}{ps:List (Str×Str)}{lks hds:List D}(T:TownOk g hs ps lks hds)(hf:∀d∈hds,zni d=true){x:Str}(h:x∈hs):∃(j:Nat) (rs:List D),hs[j]?=some x/\hds[j]?=some (.tup rs)/\zad hs hds x=rs/\zgr rs/\rs.length<=12:=by
 obtain⟨j,d,e1,e2,hm⟩:=znu T h
 obtain⟨rs,rfl,hk⟩:=zkz (T.hands d hm)
 exact⟨j,rs,e1,e2,zf5 T.hs_nd e1 e2,hk,of_decide_eq_true (show decide (rs.length<=12)=true from hf _ hm)⟩
noncomputable def zr1:Sp:=λvs H Q _=>∃(u v:V) (pm:Addr) (p:Pp) (x:Str) (ws ms:List Str) (g:Str) (hs:List Str) (ps:List (Str×Str)) (lks hds:List D),vs=[u,v, .ref pm]/\Rep H u (zcn g hs ps lks hds)/\TownOk g hs ps lks hds/\(∀d∈hds,zni d=true)/\Rep H v (ppD p)/\p.way=some (x::ws)/\(∀y∈x::ws,y∈hs)/\ws.length<=9/\p.to∈hs/\(∀y∈p.marks,zi y=true)/\H pm=some (.tup (ms.map V.str))/\(∀y∈ms,zi y=true)/\ms.length<=40/\∀H',Same H H'->Q (.bl (soB hs lks hds p ms)) H'
theorem zqh{g:Str}{hs:List Str}{ps:List (Str×Str)}{lks hds:List D}(T:TownOk g hs ps lks hds){x:Str}(h:x∈hs):∃(j:Nat) (rs:List D),hs[j]?=some x/\lks[j]?=some (.tup rs)/\zad hs lks x=rs:=by
 obtain⟨j,rs,e1,e2,_⟩:=zqO T h
 exact⟨j,rs,e1,e2,zf5 T.hs_nd e1 e2⟩
theorem zp9{g:Str}{hs:List Str}{ps:List (Str×Str)}{lks hds:List D}{O:List Str}(T:TownOk g hs ps lks hds)(PO:Pool hs lks hds O){x:Str}(h:x∈hs):∃(j:Nat) (rs:List D),hs[j]?=some x/\hds[j]?=some (.tup rs)/\zad hs hds x=rs/\zds O rs:=by
 obtain⟨j,d,e1,e2,hm⟩:=znu T h
 obtain⟨rs,rfl,hk⟩:=zlT (T.hands d hm) (PO.hd d hm)
 exact⟨j,rs,e1,e2,zf5 T.hs_nd e1 e2,hk⟩
theorem zfc(Y:Ev K mg):FnOk P w K mg base CX0 6 Y.a_was_handed_so Y.d_was_handed_so za0 zr1:=by
 have G_worth:FnOk P w K mg base CX0 5 Y.a_worth Y.d_worth zeN zf6:=znv Y
 have G_handed:FnOk P w K mg base CX0 5 Y.a_handed Y.d_handed zdJ zdb:=zkv Y
 refine Y.was_handed_so.fn.okQ c_was_handed_so (λvs H Q E h=>?_) (λcdv A outer s H vs Q E hr h=>?_)
 ·obtain ⟨u,v,pm,p,x,ws,ms,g,hs,ps,lks,hds,rfl,_⟩:=h;rfl
 ·obtain ⟨u,v,pm,p,x,ws,ms,g,hs,ps,lks,hds,rfl,hu,T,hf12,hv,ew,hw,lw,hto,hmk,hpm,Mn0,l40,q⟩:=h
  obtain⟨pd,x1,x2,x3,x4,x5,rfl,hpd,r1,r2,r3,r4,r5⟩:=zkj hv
  cases r1 with|str _ _=>
  cases r2 with|str _ _=>
  rw[ew] at r4
  obtain⟨pw,rfl,hpw⟩:=zbs r4
  obtain⟨p5,rfl,hp5⟩:=zbs r5
  obtain⟨j,rs,hj,hdj,er,hk,rs12⟩:=zsi T hf12 (hw x List.mem_cons_self)
  obtain⟨j2,rs2,hj2,hlj2,er2⟩:=zqh T (hw x List.mem_cons_self)
  have hn:∀y∈x::ws,zi y=true:=λy hy=>T.names y (hw y hy)
  have eq0:soB hs lks hds p ms=(!(decide (1<(x::ws).length)&&zac (zaf (x::ws) ms rs2))&&decide (zD (x::ws) (some p.to) rs ms=some p.marks)):=by
   unfold soB
   rw[ew]
   show(!(decide (1<(x::ws).length)&&zac (zaf (x::ws) ms (zad hs lks x)))&&decide (zD (x::ws) (some p.to) (zad hs hds x) ms=some p.marks))=_
   rw[er,er2]
  rw[eq0] at q
  have last:∀(H1:Hp),Same H H1->(!(decide (1<(x::ws).length)&&zac (zaf (x::ws) ms rs2)))=true->zrd (tOp zrO (znA zdb [] E0 (zdG (zc7 0) (zdG (zc7 6) (zdG (zc7 2) (zdG (zc7 4) zgg))))) (zc7 7)) {nx:=λ_ H'=>Q .non H',rt:=Q} [some u,some (.ref pd),some (.ref pm),some (.str p.one),some (.str p.to),some x3,some (.ref pw),some (.ref p5)] H1:=by
   intro H1 s1 hb
   rw[hb] at q
   refine⟨_,rfl,_,rfl,_,rfl,_,rfl,u,pw,pm, .str p.to,x,ws,ms,some p.to,g,hs,ps,lks,hds,j,rs,Mn 40,rfl,hu.same s1,T,hj,hdj,hk,zrw hk (by omega),⟨Mn0,l40⟩,s1 _ _ hpw,s1 _ _ hpm, .inr ⟨_,rfl,rfl,T.names _ hto⟩,hn,by omega,λv2 H2 tv s2=>?_⟩
   have hp52:=(s1.trans s2) _ _ hp5
   have q:=q H2 (s1.trans s2)
   cases e:zD (x::ws) (some p.to) rs ms with
   |none=>
    rw[e] at tv q
    cases(show v2= .non from tv)
    refine⟨_,rfl,_,_,Tr.non,zcx (xs:=p.marks) hp52 (λy hy=>zI (hmk y hy)),Nat.le_trans (Nat.min_le_right _ _) zbg,?_⟩
    exact q
   |some t=>
    rw[e] at tv q
    obtain⟨pt,rfl,hpt⟩:=tv
    have hm:∀y∈t,zi y=true:=zdD hk.2 Mn0 e
    refine⟨_,rfl,_,_,zcx (xs:=t) hpt (λy hy=>zI (hm y hy)),zcx (xs:=p.marks) hp52 (λy hy=>zI (hmk y hy)),Nat.le_trans (Nat.min_le_right _ _) zbg,?_⟩
    rw[zdg]
    have eb:decide (some t=some p.marks)=decide (t=p.marks):=by rw[Bool.eq_iff_iff,decide_eq_true_iff,decide_eq_true_iff,Option.some.injEq]
    rw[eb] at q
    exact q
  refine⟨_,(zj (zdc (qv 1) (zc1 5 rfl (zz (zn 3 c_was_handed_so.nd) (zz (zn 4 c_was_handed_so.nd) (zz (zn 5 c_was_handed_so.nd) (zz (zn 6 c_was_handed_so.nd) (zz (zn 7 c_was_handed_so.nd) zaT)))))))
   (zj (zaq (t_w (zlE (zJ ze4 (zx zS Y.len zaO (zb (qv 6) zc)) zh) (zkA (zJ zfd (zk G_worth (hr.mono (by decide)) Y.worth.mg Y.worth.kp Y.worth.b .nil zr (zb (qv 0) (zb (qv 6) (zb (qv 2) zc)))) zaE)))) (zl (zA zbv)) zT)
   (zl (zA (zaR (zgL (zgQ hr)) (zk G_handed (hr.mono (by decide)) Y.handed.mg Y.handed.kp Y.handed.b .nil zr (zb (qv 0) (zb (qv 6) (zb (qv 2) (zb (qv 4) zc))))) (qv 7)))))),?_⟩
  refine⟨_,rfl,pd,_,rfl, .inl (.inl hpd),rfl,_,_,rfl,_,_,rfl,_,_,rfl,_,_,rfl,_,_,rfl,rfl,?_⟩
  refine⟨_,rfl, .inl ⟨pw,_,rfl, .inr (.inl (.inl hpw)),_,_,rfl,rfl,_,rfl,?_⟩⟩
  rw[List.length_map]
  by_cases h1:1<(x::ws).length
  ·refine zap (decide_eq_true (by omega)) ⟨_,rfl,_,rfl,_,rfl,u,pw,pm,x,ws,ms,g,hs,ps,lks,hds,j2,rs2,rfl,hu,T,hj2,hlj2,hpw,hpm,hn,Mn0,by omega,Nat.le_trans l40 (by decide),λv2 H2 rv s2=>⟨rfl,_,rfl,?_⟩⟩
   rw[zeD rv]
   cases eb:zac (zaf (x::ws) ms rs2)with
   |true=>
    have q:=q H2 s2
    rw[decide_eq_true h1,eb] at q
    exact zap rfl q
   |false=>exact zao (by decide) (last H2 s2 (by rw[eb,Bool.and_false];rfl))
  ·exact zao (by rw[decide_eq_false (by omega)]) (zao (by decide) (last H (Same.refl H) (by rw[decide_eq_false h1];rfl)))
end
section
variable{P:Program}{w:World}{K:PySem.W.Frag}{mg:Str->Option Value}{base:Heap}
theorem zf0{w:List Str}{i:Nat}(h:i<w.length):atI (w.map V.str) (i:Int)=some (.str (w.getD i "")):=zG (by rw[List.getElem?_map,List.getElem?_eq_getElem h];simp only[List.getD,List.getElem?_eq_getElem h];rfl)
theorem zqJ{g:Str}{hs:List Str}{ps:List (Str×Str)}{w:List Str}(h:zaV g hs ps (tD w)=true):(∀x∈w,x∈hs)/\1<=w.length/\w.length<=hs.length:=by
 unfold zaV at h
 rw[Bool.and_eq_true,Bool.and_eq_true] at h
 obtain⟨ds,e,l1,l2⟩:=zmX h.1.1
 have e:D.tup (w.map D.str)= .tup ds:=e
 cases e
 rw[List.length_map] at l1 l2
 refine⟨λx hx=>?_,l1,l2⟩
 have hb:=List.all_eq_true.mp (show(w.map D.str).all (zC hs)=true from h.1.2) (.str x) (List.mem_map.mpr ⟨x,hx,rfl⟩)
 obtain⟨y,ey,hy⟩:=zbD hb
 cases ey
 exact hy
theorem zjd{xs:List Str}(h:∀x∈xs,zi x=true):okD (tD xs)=true:=by
 show okD (.tup (xs.map D.str))=true
 rw[okD]
 refine zks λd hd=>?_
 obtain⟨x,hx,rfl⟩:=List.mem_map.mp hd
 rw[okD]
 exact zI (h x hx)
theorem zqC{hs:List Str}{ps:List (Str×Str)}(hn:∀x∈hs,zi x=true){p:Pp}(h:PpOk hs ps p):okD (ppD p)=true:=by
 show okD (.tup [.str p.one, .str p.to, .int p.nr,wyD p.way,tD p.marks])=true
 rw[okD,okL,okL,okL,okL,okL,okL,okD,okD,okD,zjd h.mnm,zI (hn _ h.one),zI (hn _ h.to)]
 have:okD (wyD p.way)=true:=by
  cases e:p.way with
  |none=>show okD .non=true;rw[okD]
  |some w=>exact zjd (h.way w e).2.2
 rw[this];rfl
theorem zl6{w:List Str}{qs:List Pp}{n:Nat}{q:Pp}(h:qs[n]?=some q):zcV w qs (n+1)=(zcV w qs n&&zez w q n):=by
 unfold zcV
 rw[List.range_succ,List.all_append]
 simp[h]
theorem znV{w:List Str}{qs:List Pp}{n:Nat}{q:Pp}(h:qs[n]?=some q)(e:zez w q n=false):zcV w qs qs.length=false:=by
 have hn:n<qs.length:=by
  rcases Nat.lt_or_ge n qs.length with z|z
  ·exact z
  ·rw[List.getElem?_eq_none z] at h;cases h
 unfold zcV
 rw[List.all_eq_false]
 exact⟨n,List.mem_range.mpr hn,by rw[h];show¬zez w q n=true;rw[e];decide⟩
theorem zoJ{w:List Str}{qs:List Pp}(h:zcV w qs qs.length=true){n:Nat}{q:Pp}(e:qs[n]?=some q):q.way=some (w.drop (n+1)):=by
 have hn:n<qs.length:=by
  rcases Nat.lt_or_ge n qs.length with z|z
  ·exact z
  ·rw[List.getElem?_eq_none z] at e;cases e
 have h:=List.all_eq_true.mp h n (List.mem_range.mpr hn)
 rw[e] at h
 have h:zez w q n=true:=h
 unfold zez at h
 rw[Bool.and_eq_true] at h
 exact of_decide_eq_true h.2
theorem zjm{α β:Type}{f:α->β}{l:List α}{i:Nat}{x:α}(h:l[i]?=some x):((l.take (i+1)).map f)=((l.take i).map f)++ [f x]:=by
 rw[List.take_add_one,h,List.map_append];rfl
theorem zol{H:Hp}{ys:List V}{ls:List (List Str)}{l p:Addr}{m:List Str}(T:zdO H ys ls)(hl:H l=some (.lst ys))(hp:H p=some (.tup (m.map V.str))):zdO (upd H l (.lst (ys ++ [.ref p]))) (ys ++ [.ref p]) (ls ++ [m]):=by
 refine⟨by rw[List.length_append,List.length_append,T.1];rfl,λj v q e1 e2=>?_⟩
 have upl:∀{b o},H b=some (.tup o)->(upd H l (.lst (ys ++ [.ref p]))) b=some (.tup o):=λ{b o} h=>by rw[zq (λz=>by rw[z,hl] at h;cases h)];exact h
 rcases Nat.lt_or_ge j ys.length with hj|hj
 ·rw[List.getElem?_append_left hj] at e1
  rw[List.getElem?_append_left (by rw[←T.1];exact hj)] at e2
  obtain⟨b,rfl,hb⟩:=T.2 j v q e1 e2
  exact⟨b,rfl,upl hb⟩
 ·have ej:j=ys.length:=by
   rcases Nat.lt_or_ge j (ys ++ [V.ref p]).length with z|z
   ·rw[List.length_append,List.length_singleton] at z;omega
   ·rw[List.getElem?_eq_none z] at e1;cases e1
  subst ej
  rw[List.getElem?_append_right (Nat.le_refl _),Nat.sub_self] at e1
  rw[List.getElem?_append_right (by rw[T.1];exact Nat.le_refl _),T.1,Nat.sub_self] at e2
  cases e1
  cases e2
  exact⟨p,rfl,upl hp⟩
theorem zgk{H H':Hp}{vs:List V}{ls:List (List Str)}(t:zdO H vs ls)(s:Same H H'):zdO H' vs ls:=⟨t.1,λi v q e1 e2=>let ⟨b,e,hb⟩:=t.2 i v q e1 e2;⟨b,e,s _ _ hb⟩⟩
theorem zmc{H:Hp}{ys:List V}{ls:List (List Str)}{p:Addr}{m:List Str}(T:zdO H ys ls)(hp:H p=some (.tup (m.map V.str))):zdO H (ys ++ [.ref p]) (ls ++ [m]):=by
 refine⟨by rw[List.length_append,List.length_append,T.1];rfl,λj v q e1 e2=>?_⟩
 rcases Nat.lt_or_ge j ys.length with hj|hj
 ·rw[List.getElem?_append_left hj] at e1
  rw[List.getElem?_append_left (by rw[←T.1];exact hj)] at e2
  exact T.2 j v q e1 e2
 ·have ej:j=ys.length:=by
   rcases Nat.lt_or_ge j (ys ++ [V.ref p]).length with z|z
   ·rw[List.length_append,List.length_singleton] at z;omega
   ·rw[List.getElem?_eq_none z] at e1;cases e1
  subst ej
  rw[List.getElem?_append_right (Nat.le_refl _),Nat.sub_self] at e1
  rw[List.getElem?_append_right (by rw[T.1];exact Nat.le_refl _),T.1,Nat.sub_self] at e2
  cases e1
  cases e2
  exact⟨p,rfl,hp⟩
noncomputable def zlv:Sp:=λvs H Q _=>∃(u v:V) (d:D) (g:Str) (hs:List Str) (ps:List (Str×Str)) (lks hds:List D),vs=[u,v]/\Rep H u (zcn g hs ps lks hds)/\TownOk g hs ps lks hds/\(∀d∈hds,zni d=true)/\Rep H v d/\(zK hs ps d=true->∀f qs,d=zby f qs->∀p∈f::qs,p.marks.length<=40)/\
 ∀(b:Bool) (H':Hp),(zK hs ps d=false->b=false)->(∀f qs,d=zby f qs->zK hs ps d=true->b=za5 g hs ps lks hds f qs)->Same H H'->Q (.bl b) H'
theorem zjb(Y:Ev K mg):FnOk P w K mg base CX0 7 Y.a_is_right Y.d_is_right zcM zlv:=by
 have G_is_sealed:FnOk P w K mg base CX0 4 Y.a_is_sealed Y.d_is_sealed zcj ziO:=zh5 Y
 have G_is_way:FnOk P w K mg base CX0 3 Y.a_is_way Y.d_is_way zdZ zp2:=zl3 Y
 have G_was_handed_so:FnOk P w K mg base CX0 6 Y.a_was_handed_so Y.d_was_handed_so za0 zr1:=zfc Y
 refine Y.is_right.fn.okQ c_is_right (λvs H Q E h=>?_) (λcdv A outer s H vs Q E hr h=>?_)
 ·obtain ⟨u,v,d,g,hs,ps,lks,hds,rfl,_⟩:=h;rfl
 ·obtain ⟨u,v,d,g,hs,ps,lks,hds,rfl,hu,T,hf12,hd,hmk,q⟩:=h
  have T10:=T.ten
  refine⟨_,(zj (zaq (zbt (za7 (zk G_is_sealed (hr.mono (by decide)) Y.is_sealed.mg Y.is_sealed.kp Y.is_sealed.b .nil zr (zb (qc 0) (zb (qv 1) zc))))) (zl (zA zbv)) zT)
   (zj (zdc (qv 1) (zc1 2 rfl (zz (zn 2 c_is_right.nd) (zz (zn 3 c_is_right.nd) zaT))))
   (zj (zL 4 c_is_right.nd (zF ix_tup (qv 2) zh))
   (zj (zaq (zJ zfd (qv 4) zaE) (zl (zA (zaR (zgL (zgQ hr)) (qv 3) (zB zc)))) zT)
   (zj (zaq (t_w (zfr (zbt (za7 (zk G_is_way (hr.mono (by decide)) Y.is_way.mg Y.is_way.kp Y.is_way.b .nil zr (zb (qc 0) (zb (qv 4) zc))))) (zfr (zJ zho (zF ix_tup (qv 4) zh) (zF ix_tup (qv 2) zh)) (zem (zJ zho (zx zS Y.len zaO (zb (qv 3) zc)) (zN zex (zx zS Y.len zaO (zb (qv 4) zc)) zh)))))) (zl (zA zbv)) zT)
   (zj (zcm PassesOwn.never rfl (zj2 Y.enumerate (zb (qv 3) zc)) (zc1 2 rfl (zz (zn 5 c_is_right.nd) (zz (zn 6 c_is_right.nd) zaT))) (zl (zaq (t_w (zfr (zJ (zig (zgQ hr)) (zgM zdy (qv 6) zc5 (zcy zh)) (zB (zb (zF ix_tup (qv 4) (zN zaI (qv 5) zh)) (zb (zF ix_tup (qv 4) (qv 5)) zc)))) (zem (zJ (zig (zgQ hr)) (zF ix_tup (qv 6) zh) (zgM zdy (qv 4) (zcy (zN zaI (qv 5) zh)) zc5))))) (zl (zA zbv)) zT)))
   (zj (zL 7 c_is_right.nd (zN zbV (zaj (src:=[none]) o_is_right_1 rfl rfl (zaP (qv 3)) (λ_ _ _ _ _=>(zn 0 o_is_right_1.nd)) (λ_ _ _ _ _=>za6) (λ_ _ _ _ _=>(zF (zaL (K:=K) rfl) (qv 0) zh))) (za1 (zb (zB zc) zc))))
   (zl (zA (zx (zbM rfl) Y.all zdK (zb (zaj (src:=[none,none,some 0]) o_is_right_2 rfl rfl (zrM Y.zip (zb (zN zed (zB (zb (qv 2) zc)) (qv 3)) (zb (qv 7) zc))) (λ_ _ _ _ _=>(zfl (K:=K) 2 rfl rfl (zz (zn 0 o_is_right_2.nd) (zz (zn 1 o_is_right_2.nd) zaT)))) (λ_ _ _ _ _=>za6) (λ_ _ _ _ _=>(zk G_was_handed_so (hr.mono (by decide)) Y.was_handed_so.mg Y.was_handed_so.kp Y.was_handed_so.b .nil zr (zb (qc 2) (zb (qv 0) (zb (qv 1) zc)))))) zc))))))))))),?_⟩
  refine⟨_,rfl,_,rfl,u,v,d,g,hs,ps,lks,hds,rfl,hu,T,hd,λH1 s1=>⟨_,rfl,?_⟩⟩
  cases eS:zK hs ps d with
  |false=>exact zap rfl (q false H1 (λ_=>rfl) (λf qs _ z=>by rw[eS] at z;cases z) s1)
  |true=>
  obtain⟨f,qs,rfl,hf,hq,lq⟩:=zfK eS
  have hmk:=hmk eS f qs rfl
  have q:∀(H':Hp),Same H H'->Q (.bl (za5 g hs ps lks hds f qs)) H':=λH' s'=>q _ H' (λz=>by rw[eS] at z;cases z) (λf' qs' e _=>by obtain⟨rfl,rfl⟩:=ze1 e;rfl) s'
  obtain⟨pd,xf,xq,rfl,hpd,rf,rq⟩:=(hd.same s1).of2
  obtain⟨pf,y1,y2,y3,y4,y5,rfl,hpf,r1,r2,r3,r4,r5⟩:=zkj rf
  obtain⟨pq,us,rfl,hpq,ru,_⟩:=rq.ofT
  cases r1 with|str _ _=>
  cases r2 with|str _ _=>
  refine zao rfl ⟨_,rfl,pd,_,rfl, .inl (.inl hpd),rfl,_,_,rfl,_,_,rfl,rfl,?_⟩
  refine⟨_,rfl,pf,_,3,_,rfl,rfl, .inl (.inl hpf),zG (j:=3) rfl,?_⟩
  refine⟨_,rfl,rfl,_,rfl,?_⟩
  rw[zeD r4]
  have lu:=ru.1
  rw[List.length_map] at lu
  cases ew:f.way with
  |none=>
   refine zap (by rfl) ⟨_,rfl,few rfl,λpe hpe=>?_⟩
   have Se:=Same.new (o:= .tup []) hpe
   have trq:=zlH (rq.same Se) (by rw[okD];exact zks λd hd=>by obtain⟨p,hp,rfl⟩:=List.mem_map.mp hd;exact zqC T.names (hq p hp))
   rw[pyD] at trq
   refine⟨_,_,trq,zeK zd,Nat.le_trans (Nat.min_le_right _ _) zqy,?_⟩
   rw[zou]
   have q:=q _ (s1.trans Se)
   unfold za5 at q
   rw[ew] at q
   have e:qs.isEmpty=decide (qs.map ppD=[]):=by cases qs<;>rfl
   have q:Q (.bl qs.isEmpty) _:=q
   rw[e] at q
   exact q
  |some w=>
  rw[ew] at r4
  obtain⟨pw,rfl,hpw⟩:=zbs r4
  have eR:za5 g hs ps lks hds f qs=(zaV g hs ps (tD w)&&decide (w.headD ""=f.one)&&decide (qs.length+1=w.length)&&zcV w qs qs.length&&zel hs lks hds f qs):=by
   unfold za5;rw[ew]
  rw[eR] at q
  refine zao rfl ⟨_,rfl,_,rfl,u,_,tD w,g,hs,ps,lks,hds,rfl,hu.same s1,T,r4,λH2 s2=>⟨_,rfl,?_⟩⟩
  have s02:=s1.trans s2
  cases eW:zaV g hs ps (tD w)with
  |false=>
   have q:=q H2 s02
   rw[eW] at q
   exact zap rfl (zap rfl q)
  |true=>
  rw[eW] at q
  obtain⟨hw,w1,w10⟩:=zqJ eW
  have hpw2:=s2 _ _ hpw
  have hpf2:=s2 _ _ hpf
  have hpq2:=s2 _ _ hpq
  obtain⟨x,ws,rfl⟩:∃x ws,w=x::ws:=by
   match w,w1 with
   |x::ws,_=>exact ⟨x,ws,rfl⟩
  refine zao rfl ⟨_,rfl,pw,_,0,_,rfl,rfl, .inl (.inl hpw2),at0,_,rfl,pf,_,0,_,rfl,rfl, .inl (.inl hpf2),at0,rfl,_,rfl,?_⟩
  rw[zag]
  have eH:decide ((x::ws).headD ""=f.one)=decide (x=f.one):=rfl
  rw[eH] at q
  cases eh:decide (x=f.one)with
  |false=>
   have q:=q H2 s02
   rw[eh] at q
   exact zap rfl (zap rfl q)
  |true=>
  rw[eh] at q
  refine zao rfl ⟨_,rfl, .inl ⟨pq,_,rfl, .inr (.inl (.inl hpq2)),_,rfl, .inl ⟨pw,_,rfl, .inr (.inl (.inl hpw2)),_,_,rfl,rfl,rfl,_,rfl,?_⟩⟩⟩
  have eL:decide (V.int (us.length:Int)=V.int ((((x::ws).map V.str).length:Int) -1))=decide (qs.length+1=(x::ws).length):=by
   rw[Bool.eq_iff_iff,decide_eq_true_iff,decide_eq_true_iff,V.int.injEq,List.length_map]
   omega
  show(if(!decide (V.int (us.length:Int)=V.int ((((x::ws).map V.str).length:Int) -1)))=true then _ else _)
  rw[eL]
  cases el:decide (qs.length+1=(x::ws).length)with
  |false=>
   have q:=q H2 s02
   rw[el] at q
   exact zap rfl q
  |true=>
  rw[el] at q
  have el':=of_decide_eq_true el
  have wn:∀y∈x::ws,zi y=true:=λy hy=>T.names y (hw y hy)
  have ru2:=ru.mono (.of s2)
  refine zao rfl ⟨_,rfl,pq,us,rfl, .inl (.inl hpq2),?_⟩
  refine zpF (n:=us.length) (λi σ' H'=>(∃o5 o6 o7,σ'=[some u,some (.ref pd),some (.ref pf),some (.ref pq),some (.ref pw),o5,o6,o7])/\zcV (x::ws) qs i=true/\Same H2 H') ⟨⟨_,_,_,rfl⟩,rfl,Same.refl _⟩ (λi σ' H' hi z=>⟨us,us[i], .inl (.inl (z.2.2 _ _ hpq2)),rfl,List.getElem?_eq_getElem hi⟩) (λσ' H' z=>⟨us, .inl (.inl (z.2.2 _ _ hpq2)),rfl,Nat.le_refl _⟩) ?_ ?_
  ·rintro i z σ' H3 H4 hi ⟨⟨o5,o6,o7,rfl⟩,hfit,s3⟩ ⟨T0,y,rfl,hT0,hy,rfl⟩
   have hy:=hy us (.inl (.inl (s3 _ _ hpq2)))
   obtain⟨d0,hd0,rd0⟩:=ru2.get hy
   rw[List.getElem?_map] at hd0
   cases hqi:qs[i]? with
   |none=>rw[hqi] at hd0;cases hd0
   |some p0=>
   rw[hqi] at hd0
   cases hd0
   have hp0:=hq p0 (List.mem_of_getElem? hqi)
   have S4:=Same.new (o:= .tup [V.int (i:Int),y]) hT0
   have s24:=s3.trans S4
   obtain⟨pp,z1,z2,z3,z4,z5,rfl,hpp,t1,t2,t3,t4,t5⟩:=zkj (rd0.same s24)
   cases t1 with|str _ _=>
   cases t2 with|str _ _=>
   refine⟨T0,_,rfl, .inl (.inl zd),rfl,_,_,rfl,_,_,rfl,rfl,?_⟩
   show zrn _ _ _ _ _ (upd H3 T0 (.tup [V.int (i:Int), .ref pp]))
   have hpw4:=s24 _ _ hpw2
   generalize (upd H3 T0 (HO.tup [V.int (i:Int),V.ref pp]))=H4 at *
   have hi1:i+1<(x::ws).length:=by omega
   have a0:=zf0 (w:=x::ws) (i:=i) (by omega)
   have a1:atI ((x::ws).map V.str) ((i:Int)+1)=some (.str ((x::ws).getD (i+1) "")):=zf0 (w:=x::ws) (i:=i+1) hi1
   have ec:zbu [V.str p0.one,V.str p0.to,z3,z4,z5] none (some 2)=[p0.one,p0.to].map V.str:=zeL (n:=2)
   refine⟨_,rfl,_,rfl,pp,_,rfl, .inl (.inl hpp),λhlen=>?_,λp2 hp2=>?_⟩
   ·rw[ec] at hlen
    exact absurd (congrArg List.length hlen) (by simp)
   rw[ec]
   have S5:=Same.new (o:= .tup ([p0.one,p0.to].map V.str)) hp2
   refine⟨_,rfl,_,rfl,_,_,rfl,rfl,pw,_,_,_,rfl,rfl, .inl (.inl (S5 _ _ hpw4)),a1,_,rfl,_,rfl,pw,_,_,_,rfl,rfl, .inl (.inl (S5 _ _ hpw4)),a0,few rfl,λp3 hp3=>?_⟩
   have S6:=Same.new (o:= .tup [V.str ((x::ws).getD (i+1) ""),V.str ((x::ws).getD i "")]) hp3
   have wi:∀k,k<(x::ws).length->zi ((x::ws).getD k "")=true:=λk hk=>wn _ (by simp only[List.getD,List.getElem?_eq_getElem hk,Option.getD_some];exact List.getElem_mem hk)
   refine⟨_,_,zcx (xs:=[p0.one,p0.to]) (S6 _ _ zd) (λy hy=>?_),zcx (xs:=[(x::ws).getD (i+1) "",(x::ws).getD i ""]) zd (λy hy=>?_),Nat.le_trans (Nat.min_le_left _ _) zbg,_,rfl,?_⟩
   ·simp only[List.mem_cons,List.not_mem_nil,or_false] at hy
    rcases hy with rfl|rfl
    ·exact zI (T.names _ hp0.one)
    ·exact zI (T.names _ hp0.to)
   ·simp only[List.mem_cons,List.not_mem_nil,or_false] at hy
    rcases hy with rfl|rfl
    ·exact zI (wi _ hi1)
    ·exact zI (wi _ (by omega))
   have s06:Same H (upd (upd H4 p2 (.tup ([p0.one,p0.to].map V.str))) p3 (.tup [V.str ((x::ws).getD (i+1) ""),V.str ((x::ws).getD i "")])):=((s02.trans s24).trans S5).trans S6
   have s26:=(s24.trans S5).trans S6
   have hpp6:=S6 _ _ (S5 _ _ hpp)
   have hpw6:=S6 _ _ (S5 _ _ hpw4)
   have t46:=(t4.same S5).same S6
   have eqv:decide ([p0.one,p0.to]=[(x::ws).getD (i+1) "",(x::ws).getD i ""])=decide (p0.one=(x::ws).getD (i+1) ""/\p0.to=(x::ws).getD i ""):=by
    rw[Bool.eq_iff_iff,decide_eq_true_iff,decide_eq_true_iff]
    simp
   rw[zdg,eqv]
   generalize (upd (upd H4 p2 (HO.tup ([p0.one,p0.to].map V.str))) p3 (HO.tup [V.str ((x::ws).getD (i+1) ""),V.str ((x::ws).getD i "")]))=H6 at *
   have bad:zez (x::ws) p0 i=false->∀H',Same H H'->Q (.bl false) H':=λe H' s'=>by
    have q:=q H' s'
    rw[znV hqi e] at q
    exact q
   cases ea:decide (p0.one=(x::ws).getD (i+1) ""/\p0.to=(x::ws).getD i "")with
   |false=>exact zap rfl (zap rfl (bad (by unfold zez;rw[ea];rfl) H6 s06))
   |true=>
   refine zao rfl ⟨_,rfl,pp,_,3,z4,rfl,rfl, .inl (.inl hpp6),zG (j:=3) rfl,_,rfl,_,rfl,_,_,rfl,rfl,_,rfl,pw,_,rfl, .inl (.inl hpw6),λhlen=>?_,λp4 hp4=>?_⟩
   ·have e1:((i:Int)+1)=((i+1:Nat):Int):=by omega
    rw[e1,zeX] at hlen
    have:=congrArg List.length hlen
    rw[List.length_drop,List.length_map] at this
    omega
   have ec2:zbu ((x::ws).map V.str) (some ((i:Int)+1)) none=((x::ws).drop (i+1)).map V.str:=by
    rw[show((i:Int)+1)=((i+1:Nat):Int) by omega,zeX,List.map_drop]
   rw[ec2]
   have S7:=Same.new (o:= .tup (((x::ws).drop (i+1)).map V.str)) hp4
   have hp47:(upd H6 p4 (.tup (((x::ws).drop (i+1)).map V.str))) p4=some (.tup (((x::ws).drop (i+1)).map V.str)):=zd
   have t47:=t46.same S7
   have s07:=s06.trans S7
   have s27:=s26.trans S7
   have td:∀y∈(x::ws).drop (i+1),PyData.strOk y=true:=λy hy=>zI (wn y (List.mem_of_mem_drop hy))
   generalize (upd H6 p4 (HO.tup (((x::ws).drop (i+1)).map V.str)))=H7 at *
   cases ey:p0.way with
   |none=>
    rw[ey] at t47
    have ez:z4= .non:=by cases t47;rfl
    subst ez
    refine⟨_,_,Tr.non,zcx hp47 td,Nat.le_trans (Nat.min_le_right _ _) zbg,_,rfl,zap rfl ?_⟩
    exact bad (by unfold zez;rw[ey,show decide (none=some ((x::ws).drop (i+1)))=false from rfl,Bool.and_false]) H7 s07
   |some w2=>
    rw[ey] at t47
    obtain⟨p5,rfl,hp5⟩:=zbs t47
    refine⟨_,_,zcx hp5 (λy hy=>zI ((hp0.way w2 ey).2.2 y hy)),zcx hp47 td,Nat.le_trans (Nat.min_le_right _ _) zbg,_,rfl,?_⟩
    rw[zdg]
    have e5:decide (p0.way=some ((x::ws).drop (i+1)))=decide (w2=(x::ws).drop (i+1)):=by
     rw[ey,Bool.eq_iff_iff,decide_eq_true_iff,decide_eq_true_iff,Option.some.injEq]
    cases eb:decide (w2=(x::ws).drop (i+1))with
    |false=>exact zap rfl (bad (by unfold zez;rw[e5,eb,Bool.and_false]) H7 s07)
    |true=>
     refine zao rfl ⟨⟨_,_,_,rfl⟩,?_,s27⟩
     rw[zl6 hqi,hfit]
     unfold zez
     rw[ea,e5,eb];rfl
  ·rintro σ' H3 ⟨⟨o5,o6,o7,rfl⟩,hfit,s3⟩
   rw[lu] at hfit
   rw[hfit] at q
   have hpq3:=s3 _ _ hpq2
   have ru3:=ru2.mono (.of s3)
   refine⟨_,rfl,pq,rfl,⟨us, .inl (.inl hpq3)⟩,?_⟩
   refine zaY (zaG (K:=K) (a:=pq) (xs:=us)) (λl i ys σ' H'=>(∃o,σ'=[o])/\zdO H' ys ((qs.take i).map (·.marks))/\Same H3 H') ?_ ?_ ?_ ?_
   ·exact λl hl=>⟨⟨_,rfl⟩,⟨rfl,λi v q e=>by cases e⟩,Same.new hl⟩
   ·exact λl i ys σ' H' _ z=> .inl (.inl (z.2.2 _ _ hpq3))
   ·rintro l i y ys σ' H4 hl' hi hy ⟨⟨o,rfl⟩,T4,s4⟩ hl4
    obtain⟨d0,hd0,rd0⟩:=ru3.get hy
    rw[List.getElem?_map] at hd0
    cases hqi:qs[i]? with
    |none=>rw[hqi] at hd0;cases hd0
    |some p0=>
    rw[hqi] at hd0
    cases hd0
    obtain⟨pp,z1,z2,z3,z4,z5,rfl,hpp,t1,t2,t3,t4,t5⟩:=zkj (rd0.same s4)
    obtain⟨p5,rfl,hp5⟩:=zbs t5
    refine⟨_,rfl,pp,_,4,_,rfl,rfl, .inl (.inl hpp),zG (j:=4) rfl,hl4,?_,⟨_,rfl⟩,?_,?_⟩
    ·have:=T4.1
     rw[List.length_map,List.length_take] at this
     exact zm (by omega)
    ·have tk:(qs.take (i+1)).map (·.marks)=(qs.take i).map (·.marks)++ [p0.marks]:=zjm hqi
     rw[tk]
     exact zol T4 hl4 hp5
    ·exact λc o e=>by
      rw[zq (zy e hl')]
      exact s4 _ _ e
   rintro l ys σ' H4 hl' ⟨_,T4,s4⟩ hl4
   rw[lu,List.take_length] at T4
   have ly:=T4.1
   rw[List.length_map] at ly
   refine⟨few rfl,λp0 hp0=>⟨few rfl,λpl hpl=>?_⟩⟩
   have S5:=Same.new (o:= .tup []) hp0
   have S6:=Same.new (o:= .lst [V.ref p0]) hpl
   have hp06:=S6 _ _ (zd (H:=H4) (a:=p0) (o:= .tup []))
   refine⟨l,pl,_,_,rfl,rfl,S6 _ _ (S5 _ _ hl4),zd,Nat.le_of_lt (zm (by show _+1<=_;omega)),λlc hlc=>?_⟩
   have S7:=Same.new (o:= .lst (ys ++ [V.ref p0])) hlc
   have s47:=(S5.trans S6).trans S7
   have T7:zdO (upd (upd (upd H4 p0 (.tup [])) pl (.lst [V.ref p0])) lc (.lst (ys ++ [V.ref p0]))) (ys ++ [V.ref p0]) (zbp qs):=zmc (zgk T4 s47) (S7 _ _ hp06)
   have hlc7:(upd (upd (upd H4 p0 (.tup [])) pl (.lst [V.ref p0])) lc (.lst (ys ++ [V.ref p0]))) lc=some (.lst (ys ++ [V.ref p0])):=zd
   have s37:=s4.trans s47
   dsimp only[zaM]
   generalize (upd (upd (upd H4 p0 (HO.tup [])) pl (HO.lst [V.ref p0])) lc (HO.lst (ys ++ [V.ref p0])))=H7 at *
   have s27:=s3.trans s37
   have s07:=s02.trans s27
   have hpq7:=s27 _ _ hpq2
   refine⟨_,rfl,few rfl,λq1 hq1=>⟨_,rfl,zf7 (xs:=[V.ref pf]) (ys:=us) zd (Same.new hq1 _ _ hpq7) (by show 1+_<=_;omega) λq2 H9 hq29 S9=>?_⟩⟩
   have S8:=Same.new (o:= .tup [V.ref pf]) hq1
   have s79:=S8.trans S9
   have hq29:H9 q2=some (.tup (.ref pf::us)):=hq29
   have hlc9:=s79 _ _ hlc7
   have s29:=s27.trans s79
   have s19:=s2.trans s29
   have s09:=s1.trans s19
   have T9:=zgk T7 s79
   have rP:RepL H9 (.ref pf::us) ((f::qs).map ppD):= .cons (rf.same s19) (ru.mono (.of s19))
   have lc1:(ys ++ [V.ref p0]).length=qs.length+1:=by rw[List.length_append,ly];rfl
   have lp1:(V.ref pf::us).length=qs.length+1:=by rw[List.length_cons,lu]
   refine⟨_,rfl,q2,lc,true,false,_,_,rfl,hq29,hlc9,?_⟩
   rw[lc1,lp1,Nat.min_self]
   have lz:((f::qs).zip (zbp qs)).length=qs.length+1:=by
    unfold zbp
    rw[List.length_zip,List.length_append,List.length_map,List.length_cons]
    exact Nat.min_self _
   have hP:∀(i:Nat) (p:Pp),(f::qs)[i]?=some p->p.way=some ((x::ws).drop i)/\PpOk hs ps p:=λi p e=>by
    cases i with
    |zero=>cases e;exact⟨ew,hf⟩
    |succ i=>exact ⟨zoJ hfit e,hq p (List.mem_of_getElem? e)⟩
   have hM:∀(i:Nat) (m:List Str),(zbp qs)[i]?=some m->(∀y∈m,zi y=true)/\m.length<=40:=λi m e=>by
    have:=List.mem_of_getElem? e
    unfold zbp at this
    rcases List.mem_append.mp this with h|h
    ·obtain ⟨p,hp,rfl⟩:=List.mem_map.mp h
     exact⟨(hq p hp).mnm,hmk p (List.mem_cons_of_mem _ hp)⟩
    ·rw[List.mem_singleton.mp h]
     exact⟨(λ_ z=>nomatch z),Nat.zero_le _⟩
   refine zn2 (n:=qs.length+1) (λl i ys σ' H'=>(∃o0 o1,σ'=[o0,o1,some u])/\ys=((((f::qs).zip (zbp qs)).take i).map λz=>soB hs lks hds z.1 z.2).map V.bl/\Same H9 H') ?_ ?_ ?_ ?_ ?_
   ·exact λl hl=>⟨⟨_,_,rfl⟩,rfl,Same.new hl⟩
   ·intro l i zs σ' H' hl hi z
    exact⟨_,_,_,_,z.2.2 _ _ hq29,z.2.2 _ _ hlc9,by rw[lc1,lp1,Nat.min_self],List.getElem?_eq_getElem (by rw[lp1];exact hi),List.getElem?_eq_getElem (by rw[lc1];exact hi)⟩
   ·intro l zs σ' H' hl z
    exact⟨_,_,z.2.2 _ _ hq29,z.2.2 _ _ hlc9,by rw[lc1,lp1,Nat.min_self],Nat.le_refl _⟩
   ·rintro l i z zs σ' HA HB hl hi ⟨⟨o0,o1,rfl⟩,rfl,sA⟩ hl' ⟨T0,xs',ys',vx,vy,hx',hy',rfl,hT0,ex,ey,rfl⟩
    have e1:xs'= .ref pf::us:=SqZ.inj (t:=true) hx' (sA _ _ hq29)
    have e2:ys'=ys ++ [V.ref p0]:=SqZ.inj (t:=false) hy' (sA _ _ hlc9)
    subst e1 e2
    have SB:=Same.new (o:= .tup [vx,vy]) hT0
    obtain⟨d0,hd0,rd0⟩:=rP.get ex
    rw[List.getElem?_map] at hd0
    cases hpi:(f::qs)[i]? with
    |none=>rw[hpi] at hd0;cases hd0
    |some p1=>
    rw[hpi] at hd0
    cases hd0
    have hci:i<(zbp qs).length:=by unfold zbp;rw[List.length_append,List.length_map];exact hi
    have hmi:=List.getElem?_eq_getElem hci
    generalize (zbp qs)[i]=m1 at hmi
    obtain⟨b1,rfl,hb1⟩:=T9.2 i vy m1 ey hmi
    obtain⟨hw1,ok1⟩:=hP i p1 hpi
    have hiw:i<(x::ws).length:=by omega
    obtain⟨x1,w1',ew1⟩:∃x1 w1',(x::ws).drop i=x1::w1':=by rw[List.drop_eq_getElem_cons hiw];exact⟨_,_,rfl⟩
    rw[ew1] at hw1
    have lw1:w1'.length<=9:=by
     have:=congrArg List.length ew1
     have w10':ws.length+1<=hs.length:=w10
     simp only[List.length_drop,List.length_cons] at this
     omega
    have hm1:∀y∈x1::w1',y∈hs:=λy hy=>hw y (List.mem_of_mem_drop (by rw[ew1];exact hy))
    have sAB:=sA.trans SB
    have hzi:((f::qs).zip (zbp qs))[i]?=some (p1,m1):=by
     rw[List.getElem?_zip_eq_some]
     exact⟨hpi,hmi⟩
    refine⟨T0,_,rfl, .inl (.inl zd),rfl,_,_,rfl,_,_,rfl,rfl,?_⟩
    refine⟨_,rfl,_,rfl,_,rfl,u,vx,b1,p1,x1,w1',m1,g,hs,ps,lks,hds,rfl,hu.same (s09.trans sAB),T,hf12,rd0.same sAB,hw1,hm1,lw1,ok1.to,ok1.mnm,sAB _ _ hb1,(hM i m1 hmi).1,(hM i m1 hmi).2,λHC sC=>?_⟩
    have hlB:=SB _ _ hl'
    refine⟨sC _ _ hlB,?_,⟨_,_,rfl⟩,?_,?_⟩
    ·rw[List.length_map,List.length_map,List.length_take]
     exact zm (by omega)
    ·rw[zjm hzi,List.map_append];rfl
    ·exact λc o e=>by
      rw[zq (zy e hl)]
      exact sC _ _ (sAB _ _ e)
   ·rintro l zs σ' HA hl ⟨_,rfl,sA⟩ hlA
    refine⟨l,_,rfl,SqL.of hlA,?_⟩
    rw[←lz,List.take_length]
    have q:=q HA (s09.trans sA)
    have e:(((f::qs).zip (zbp qs)).map λz=>soB hs lks hds z.1 z.2).all id=zel hs lks hds f qs:=by rw[List.all_map];rfl
    rw[e]
    exact q
end
section
variable{P:Program}{w:World}{K:PySem.W.Frag}{mg:Str->Option Value}{base:Heap}
theorem znz{xs:List V}{x:V}:zbu (xs ++ [x]) none (some (-1))=xs:=by
 unfold zbu
 have e1:HT.sIx (xs ++ [x]).length 0 none=0:=rfl
 have e2:HT.sIx (xs ++ [x]).length (xs ++ [x]).length (some (-1))=xs.length:=by
  unfold HT.sIx
  simp only[List.length_append,List.length_singleton]
  rw[if_pos (by decide)]
  omega
 rw[e1,e2,List.drop_zero,Nat.sub_zero,List.take_left']
 rfl
noncomputable def zls:Sp:=λvs H Q _=>∃(v:V) (a b:Str) (g:Str) (hs:List Str) (ps:List (Str×Str)) (lks hds:List D),vs=[v, .str a, .str b]/\Rep H v (zcn g hs ps lks hds)/\TownOk g hs ps lks hds/\zi a=true/\zi b=true/\∀H',Same H H'->Q (.bl (decide (b∈zaD ps a))) H'
theorem zm5(Y:Ev K mg):FnOk P w K mg base CX0 1 Y.a__law_tied Y.d__law_tied zct zls:=by
 refine Y._law_tied.fn.okQ ziL (λvs H Q E h=>?_) (λcdv A outer s H vs Q E hr h=>?_)
 ·obtain ⟨v,a,b,g,hs,ps,lks,hds,rfl,_⟩:=h;rfl
 ·obtain ⟨v,a,b,g,hs,ps,lks,hds,rfl,hv,T,na,nb,q⟩:=h
  obtain⟨p,pr,pt,pl,pa,vt,vl,va,rfl,hp,hpr,hpt,rt,hpl,rl,hpa,ra⟩:=zcg hv
  have TP:Rep H (.ref pt) (.tup (ps.map pairD)):= .mkL hpt (by have:=T.lp;rw[List.length_map];omega) rt
  refine⟨_,(zl (zA (zsp (zaR (znO (zgQ hr)) (zB (zb (qv 1) (zb (qv 2) zc))) (zF ix_tup (qv 0) zh)) (zeB (zaR (znO (zgQ hr)) (zB (zb (qv 2) (zb (qv 1) zc))) (zF ix_tup (qv 0) zh)))))),?_⟩
  refine⟨_,rfl,_,rfl,few rfl,λp1 hp1=>?_⟩
  have S1:=Same.new (o:= .tup [V.str a,V.str b]) hp1
  refine⟨_,rfl,p,_,2,_,rfl,rfl, .inl (.inl (S1 _ _ hp)),zG (j:=2) rfl,_,_,zm9 zd na nb, .inr (zjj (TP.same S1) T.tn),zgE _,_,rfl,?_⟩
  rw[zi1]
  cases e1:decide ((a,b)∈ps)with
  |true=>
   have q:=q _ S1
   rw[decide_eq_true (mem_nbrs.mpr (.inr (of_decide_eq_true e1)))] at q
   exact zap rfl q
  |false=>
   refine zao (by decide) ⟨_,rfl,_,rfl,few rfl,λp2 hp2=>?_⟩
   have S2:=Same.new (o:= .tup [V.str b,V.str a]) hp2
   have S12:=S1.trans S2
   refine⟨_,rfl,p,_,2,_,rfl,rfl, .inl (.inl (S12 _ _ hp)),zG (j:=2) rfl,_,_,zm9 zd nb na, .inr (zjj (TP.same S12) T.tn),zgE _,?_⟩
   rw[zi1]
   have q:=q _ S12
   have e2:decide (b∈zaD ps a)=decide ((b,a)∈ps):=by
    rw[Bool.eq_iff_iff,decide_eq_true_iff,decide_eq_true_iff,mem_nbrs]
    exact⟨λh=>h.resolve_right (of_decide_eq_false e1), .inl⟩
   rw[e2] at q
   exact q
noncomputable def zn1:Sp:=λvs H Q _=>∃(v:V) (x:Str) (g:Str) (hs:List Str) (ps:List (Str×Str)) (lks hds:List D),vs=[v, .str x]/\Rep H v (zcn g hs ps lks hds)/\TownOk g hs ps lks hds/\x∈hs/\∀(l:Addr) (H':Hp),H l=none->H' l=some (.lst ((hs.filter λy=>decide (y∈zaD ps x)).map V.str))->Same H H'->Q (.ref l) H'
theorem zoL(Y:Ev K mg):FnOk P w K mg base CX0 2 Y.a__law_near Y.d__law_near zch zn1:=by
 have G__law_tied:FnOk P w K mg base CX0 1 Y.a__law_tied Y.d__law_tied zct zls:=zm5 Y
 refine Y._law_near.fn.okQ ziI (λvs H Q E h=>?_) (λcdv A outer s H vs Q E hr h=>?_)
 ·obtain ⟨v,x,g,hs,ps,lks,hds,rfl,_⟩:=h;rfl
 ·obtain ⟨v,x,g,hs,ps,lks,hds,rfl,hv,T,hx,q⟩:=h
  have T10:=T.ten
  obtain⟨p,pr,pt,pl,pa,vt,vl,va,rfl,hp,hpr,hpt,rt,hpl,rl,hpa,ra⟩:=zcg hv
  refine⟨_,(zl (zA (zaj (src:=[none,some 1,some 0]) o__law_near_1 rfl rfl (zaP (zF ix_tup (qc 0) zh)) (λ_ _ _ _ _=>(zn 0 o__law_near_1.nd)) (λ_ _ _ _ _=>(zc9 (za7 (zk G__law_tied (hr.mono (by decide)) Y._law_tied.mg Y._law_tied.kp Y._law_tied.b .nil zr (zb (qc 2) (zb (qc 1) (zb (qv 0) zc))))))) (λ_ _ _ _ _=>(qv 0))))),?_⟩
  refine⟨_,rfl,p,_,1,_,rfl,rfl, .inl (.inl hp),zG (j:=1) rfl,pr,rfl,⟨_, .inl (.inl hpr)⟩,?_⟩
  refine zaY (zaG (K:=K) (xs:=hs.map V.str)) (λl i ys σ' H'=>(∃o,σ'=[o,some (.str x),some (.ref p)])/\ys=((hs.take i).filter λy=>decide (y∈zaD ps x)).map V.str/\Same H H') ?_ (λl i ys σ' H' hl z=> .inl (.inl (z.2.2 _ _ hpr))) ?_ ?_
  ·exact λl hl=>⟨⟨_,rfl⟩,rfl,Same.new hl⟩
  ·rintro l i y0 ys σ' H1 hl' hi hy ⟨⟨o,rfl⟩,rfl,s1⟩ hl1
   rw[List.length_map] at hi
   rw[List.getElem?_map] at hy
   obtain⟨y,ey,rfl⟩:∃y,hs[i]?=some y/\y0= .str y:=by
    cases e:hs[i]? with
    |none=>rw[e] at hy;cases hy
    |some y=>rw[e] at hy;cases hy;exact⟨y,rfl,rfl⟩
   have hym:=List.mem_of_getElem? ey
   refine⟨_,rfl,_,rfl,_,rfl,_,x,y,g,hs,ps,lks,hds,rfl,hv.same s1,T,T.names x hx,T.names y hym,λH2 s2=>⟨_,rfl,?_⟩⟩
   have tk:(hs.take (i+1)).filter (λy=>decide (y∈zaD ps x))=(hs.take i).filter (λy=>decide (y∈zaD ps x))++ [y].filter (λy=>decide (y∈zaD ps x)):=by rw[List.take_add_one,ey,List.filter_append];rfl
   cases e:decide (y∈zaD ps x)with
   |false=>exact zao (by decide) ⟨s2 _ _ hl1,⟨_,rfl⟩,by rw[tk];simp[e],s1.trans s2⟩
   |true=>
    refine zap rfl ⟨_,rfl,s2 _ _ hl1,?_,⟨_,rfl⟩,by rw[tk];simp[e],?_⟩
    ·rw[List.length_map]
     have:=List.length_filter_le (λy=>decide (y∈zaD ps x)) (hs.take i)
     rw[List.length_take] at this
     exact zm (by omega)
    ·exact λc o e=>by
      rw[zq (zy e hl')]
      exact s2 _ _ (s1 _ _ e)
  ·rintro l ys σ' H1 hl' ⟨_,rfl,s1⟩ hl1
   rw[show hs.take (hs.map V.str).length=hs by rw[List.length_map];exact List.take_length] at hl1
   exact q l H1 hl' hl1 s1
end
section
variable{P:Program}{w:World}{K:PySem.W.Frag}{mg:Str->Option Value}{base:Heap}
noncomputable def zjC:Sp:=λvs H Q _=>∃(a pw:Addr) (n:Int) (v:V) (to:Str) (w:List Str) (g:Str) (hs:List Str) (ps:List (Str×Str)) (lks hds:List D) (O:List Str),vs=[.ref a,v, .ref pw, .str to]/\Hand H a n/\n<2^37/\Rep H v (zcn g hs ps lks hds)/\TownOk g hs ps lks hds/\Pool hs lks hds O/\H pw=some (.tup (w.map V.str))/\WayOk g hs ps w/\to∈hs/\
 (cmM hs lks hds to w=none->∀H',Hand H' a (n+10)->Keep a H H'->Q .non H')/\(∀(v':V) (f:Pp) (qs:List Pp) (H':Hp),Ch hs lks hds to w (f::qs)->Rep H' v' (zby f qs)->Hand H' a (n+10)->Keep a H H'->Q v' H')
theorem zrs{H:Hp}{p:Addr}{x y:Str}{nr:Int}{pw pm:Addr}{w m:List Str}(e:H p=some (.tup [.str x, .str y, .int nr, .ref pw, .ref pm]))(hx:zi x=true)(hy:zi y=true)(hw:H pw=some (.tup (w.map V.str)))(hm:H pm=some (.tup (m.map V.str)))(nw:∀z∈w,zi z=true)(nm:∀z∈m,zi z=true)(lw:w.length<=1000)(lm:m.length<=1000):Rep H (.ref p) (ppD ⟨x,y,nr,some w,m⟩):=
 .mkL (vs:=[.str x, .str y, .int nr, .ref pw, .ref pm]) e (Nat.le_of_ble_eq_true rfl) (.cons (.str _ (zH hx)) (.cons (.str _ (zH hy)) (.cons (.int nr) (.cons (.mkL hw (by rw[List.length_map];exact lw) (zbr λz hz=>zH (nw z hz))) (.cons (.mkL hm (by rw[List.length_map];exact lm) (zbr λz hz=>zH (nm z hz))) .nil)))))
theorem zlQ{H:Hp}{vs:List V}{ds:List D}{d:D}(r:RepL H vs (ds ++ [d])):∃va v,vs=va ++ [v]/\RepL H va ds/\Rep H v d:=by
 have l:=r.1
 rw[List.length_append,List.length_singleton] at l
 obtain⟨va,v,rfl⟩:∃va v,vs=va ++ [v]:=⟨vs.dropLast,vs.getLast (λz=>by rw[z] at l;simp at l),(List.dropLast_concat_getLast _).symm⟩
 have la:va.length=ds.length:=by rw[List.length_append,List.length_singleton] at l;omega
 refine⟨va,v,rfl,⟨la,λi x e h1 h2=>?_⟩,?_⟩
 ·have hi:i<va.length:=by
   rcases Nat.lt_or_ge i va.length with z|z
   ·exact z
   ·rw[List.getElem?_eq_none z] at h1;cases h1
  exact r.2 i x e (by rw[List.getElem?_append_left hi];exact h1) (by rw[List.getElem?_append_left (by omega)];exact h2)
 ·exact r.2 va.length v d (by rw[List.getElem?_append_right (Nat.le_refl _),Nat.sub_self];rfl) (by rw[la,List.getElem?_append_right (Nat.le_refl _),Nat.sub_self];rfl)
theorem ziQ{H:Hp}:∀{vs:List V} {ds:List D},RepL H vs ds->RepL H vs.reverse ds.reverse
 |[],[],_=> .nil
 |[],_::_,r=>absurd r.1 (by simp)
 |_::_,[],r=>absurd r.1 (by simp)
 |v::vs,d::ds,r=>by
  rw[List.reverse_cons,List.reverse_cons]
  exact(ziQ r.head.2).append (.cons r.head.1 .nil)
def Pg(hs:List Str)(lks hds:List D)(to:Str)(w:List Str)(O:List Str)(i:Nat)(ms:List Str)(P:List Pp):Prop:=
 (i=0/\ms=[]/\P=[])\/(∃f qs,P=f::qs/\f.marks=ms/\Ch hs lks hds ((to::w).getD (w.length -i) "") (w.drop (w.length -i)) P/\cmM hs lks hds ((to::w).getD (w.length -i) "") (w.drop (w.length -i))=some ms/\Mr O ms/\0<i)
theorem zlR(Y:Ev K mg):FnOk P w K mg base CX0 6 Y.a__law_papers Y.d__law_papers zbw zjC:=by
 have G__law_take:FnOk P w K mg base CX0 1 Y.a__law_take Y.d__law_take zai zdC:=zcY Y
 have G__law_worth:FnOk P w K mg base CX0 5 Y.a__law_worth Y.d__law_worth zbU zf6:=zmw Y
 have G__law_handed:FnOk P w K mg base CX0 5 Y.a__law_handed Y.d__law_handed za3 zgh:=zkb Y
 refine Y._law_papers.fn.okQ c__law_papers (λvs H Q E h=>?_) (λcdv A outer s H vs Q E hr h=>?_)
 ·obtain ⟨a,pw,n,v,to,w,g,hs,ps,lks,hds,O,rfl,_⟩:=h;rfl
 ·obtain ⟨a,pw,n,v,to,w,g,hs,ps,lks,hds,O,rfl,hH,hn,hv,T,PO,hpw,W,hto,qN,qS⟩:=h
  obtain⟨wl1,wlh⟩:=W.len
  have T10:=T.ten
  have wn:∀y∈w,zi y=true:=λy hy=>T.names y (W.mem y hy)
  have npa:∀{b o},H b=some (.tup o)->b≠a:=λ{b o} e z=>by obtain⟨_,_,_,e',_⟩:=hH;rw[z,e'] at e;cases e
  refine⟨_,(zj (zL 4 c__law_papers.nd (zB zc))
   (zj (zL 5 c__law_papers.nd (za1 zc))
   (zj (zcm PassesOwn.never rfl (zrv Y.range (zb (zN zex (zx zS Y.len zaO (zb (qv 2) zc)) zh) (zb (zgf zcT zh) (zb (zgf zcT zh) zc)))) (zn 6 c__law_papers.nd) (zj (zL 7 c__law_papers.nd (zgM zdy (qv 2) (zcy (qv 6)) zc5))
   (zcB (zaq (t_w (zlE (zJ zov (qv 6) (zN zex (zx zS Y.len zaO (zb (qv 2) zc)) zh)) (zkA (zJ zfd (zk G__law_worth (hr.mono (by decide)) Y._law_worth.mg Y._law_worth.kp Y._law_worth.b .nil zr (zb (qv 1) (zb (qv 7) (zb (qv 4) zc)))) zaE)))) (zl (zA zaE)) zT)
   (zj (zL 8 c__law_papers.nd (zN zed (zB (zb (qv 3) zc)) (qv 2)))
   (zj (zL 4 c__law_papers.nd (zk G__law_handed (hr.mono (by decide)) Y._law_handed.mg Y._law_handed.kp Y._law_handed.b .nil zr (zb (qv 1) (zb (qv 7) (zb (qv 4) (zb (zF ix_tup (qv 8) (qv 6)) zc))))))
   (zj (zaq (zJ zfd (qv 4) zaE) (zl (zA zaE)) zT)
   (zl (zfm (zjw PySem.F.plainAttrs_list PySem.F.slot_list_append PySem.F.type_list_append zbH (qv 5) (zb (zB (zb (zF ix_tup (qv 2) (qv 6)) (zb (zF ix_tup (qv 8) (qv 6)) (zb (zN zaI zh (zk G__law_take (hr.mono (by decide)) Y._law_take.mg Y._law_take.kp Y._law_take.b .nil zr (zb (qv 0) (zb zh zc)))) (zb (qv 7) (zb (qv 4) zc)))))) zc))))))))))
   (zl (zA (zB (zb (zF ix_list (qv 5) (zgf zcT zh)) (zb (zX zV Y.tuple zax (zb (zq8 (zgM zfY (qv 5) zc5 (zcy (zgf zcT zh))) (zgf zcT zh)) zc)) zc)))))))),?_⟩
  refine⟨few rfl,λp0 hp0=>?_⟩
  refine⟨few rfl,λlp hlp=>?_⟩
  have S0:=Same.new (o:= .tup []) hp0
  have S1:=Same.new (o:= .lst []) hlp
  have hlpH:H lp=none:=zcF S0 hlp
  have S01:=S0.trans S1
  have hp01:=S1 _ _ (zd (H:=H) (a:=p0) (o:= .tup []))
  have hlp1:(upd (upd H p0 (.tup [])) lp (.lst [])) lp=some (.lst []):=zd
  have hH1:=hH.same S01
  have nlp:lp≠a:=(hH.same S0).ne hlp
  generalize (upd (upd H p0 (HO.tup [])) lp (HO.lst []))=H1 at *
  have npw:pw≠a:=npa hpw
  refine⟨_,rfl, .inl ⟨pw,_,rfl, .inr (.inl (.inl (S01 _ _ hpw))),_,_,rfl,rfl,1,rfl,1,rfl,w.length,by rw[List.length_map],by omega,?_⟩⟩
  refine zbq zpn (λi σ' H'=>(∃pm ms P zs o6 o7 o8,σ'=[some (.ref a),some v,some (.ref pw),some (.str to),some (.ref pm),some (.ref lp),o6,o7,o8]/\H' pm=some (.tup (ms.map V.str))/\Pg hs lks hds to w O i ms P/\H' lp=some (.lst zs)/\RepL H' zs (P.reverse.map ppD)/\P.length=i)/\Hand H' a (n+i)/\Keep a H H') ?_ (λ_ _ _ _=>trivial) ?_ ?_
  ·exact ⟨⟨p0,[],[],[],_,_,_,rfl,hp01, .inl ⟨rfl,rfl,rfl⟩,hlp1, .nil,rfl⟩,hH1.mono (by omega),Keep.of S01⟩
  ·rintro i y σ' H2 hi rfl ⟨⟨pm,ms,P,zs,o6,o7,o8,rfl,hpm,hPg,hzs,rz,lP⟩,hH2,k2⟩
   obtain⟨k,hk⟩:∃k:Nat,k=w.length -1 -i:=⟨_,rfl⟩
   have ek:((w.length:Int) -1 -(i:Int))=(k:Int):=by omega
   rw[ek]
   have hkl:k<w.length:=by omega
   have hpw2:=k2 _ _ npw hpw
   have hv2:=hv.mono (.keep k2 hH hH2)
   have gd:zbu (w.map V.str) (some (k:Int)) none=(w.drop k).map V.str:=by rw[zeX,List.map_drop]
   refine⟨_,rfl,_,rfl,_,rfl,?_⟩
   dsimp only[zee]
   refine zlW hpw2 λpp H3 hpp s3=>?_
   rw[gd] at hpp
   dsimp only[zaM]
   obtain⟨x,ws,ew⟩:∃x ws,w.drop k=x::ws:=by rw[List.drop_eq_getElem_cons hkl];exact⟨_,_,rfl⟩
   have ex:x=w.getD k "":=by
    rw[List.drop_eq_getElem_cons hkl] at ew
    injection ew with e1 _
    rw[←e1]
    simp[List.getD,hkl]
   rw[ew] at hpp
   have hxm:∀z∈x::ws,z∈hs:=λz hz=>W.mem z (List.mem_of_mem_drop (by rw[ew];exact hz))
   have hxn:∀z∈x::ws,zi z=true:=λz hz=>T.names z (hxm z hz)
   have lws:ws.length+1+k=w.length:=by
    have:=congrArg List.length ew
    rw[List.length_drop,List.length_cons] at this
    omega
   have hH3:=hH2.same s3
   have k3:=k2.trans (Keep.of s3)
   have hv3:=hv2.same s3
   have hpm3:=s3 _ _ hpm
   have Mm:Mr O ms:=by
    rcases hPg with⟨_,rfl,_⟩|⟨_,_,_,_,_,_,M,_⟩
    ·exact Mr.nil
    ·exact M
   obtain⟨j2,rs2,hj2,hlj2,er2⟩:=zqh T (hxm x List.mem_cons_self)
   obtain⟨j,rs,hj,hdj,er,hk'⟩:=zp9 T PO (hxm x List.mem_cons_self)
   have wm:(0<i->zac (zaf (x::ws) ms rs2)=false)->zcz hs lks hds (w.drop k)=some ms:=λhb=>by
    rcases hPg with⟨rfl,rfl,_⟩|⟨f,qs,_,_,c,hc,_,i0⟩
    ·have:ws=[]:=List.eq_nil_of_length_eq_zero (by omega)
     rw[ew,this,zcz]
    ·have ei:w.length -i=k+1:=by omega
     rw[ei] at hc
     obtain⟨x',ws',e'⟩:∃x' ws',ws=x'::ws':=by
      match ws,lws with
      |[],l=>exact absurd l (by simp only[List.length_nil];omega)
      |x'::ws',_=>exact ⟨_,_,rfl⟩
     have ed:w.drop (k+1)=ws:=by
      have:=congrArg (List.drop 1) ew
      rw[List.drop_drop] at this
      simpa[Nat.add_comm] using this
     have et:(to::w).getD (k+1) ""=x:=ex.symm
     rw[et,ed] at hc
     rw[ew,e',zdV,←e',hc]
     show(if zac (zaf (x::ws) ms (zad hs lks x))=true then none else some ms)=some ms
     rw[er2,hb i0,if_neg (by decide)]
   refine⟨λσ' H4=>σ'=[some (.ref a),some v,some (.ref pw),some (.str to),some (.ref pm),some (.ref lp),some (.int (k:Int)),some (.ref pp),o8]/\Same H3 H4/\(0<i->zac (zaf (x::ws) ms rs2)=false),?_,?_⟩
   ·refine ⟨_,rfl,_,rfl, .inl ⟨pw,_,rfl, .inr (.inl (.inl (s3 _ _ hpw2))),_,_,rfl,rfl,_,_,rfl,rfl,_,rfl,?_⟩⟩
    rw[List.length_map]
    by_cases h0:0<i
    ·refine zap (decide_eq_true (by omega)) ⟨_,rfl,_,rfl,_,rfl,v,pp,pm,x,ws,ms,g,hs,ps,lks,hds,j2,rs2,rfl,hv3,T,hj2,hlj2,hpp,hpm3,hxn,λy hy=>PO.nm y (Mm.mem y hy),by omega,Nat.le_trans (Mm.toMk.len PO.few) (by decide),λv2 H4 rv s4=>⟨rfl,_,rfl,?_⟩⟩
     rw[zeD rv]
     cases eb:zac (zaf (x::ws) ms rs2)with
     |false=>exact zao (by decide) ⟨rfl,s4,λ_=>rfl⟩
     |true=>
      refine zap rfl (qN ?_ H4 ((hH3.same s4).mono (by omega)) (k3.trans (Keep.of s4)))
      rcases hPg with⟨z,_⟩|⟨f,qs,_,_,c,hc,_,i0⟩
      ·omega
      ·have ei:w.length -i=k+1:=by omega
       rw[ei] at hc
       obtain⟨x',ws',e'⟩:∃x' ws',ws=x'::ws':=by
        match ws,lws with
        |[],l=>exact absurd l (by simp only[List.length_nil];omega)
        |x'::ws',_=>exact ⟨_,_,rfl⟩
       have ed:w.drop (k+1)=ws:=by
        have:=congrArg (List.drop 1) ew
        rw[List.drop_drop] at this
        simpa[Nat.add_comm] using this
       have et:(to::w).getD (k+1) ""=x:=ex.symm
       rw[et,ed] at hc
       have hm:zcz hs lks hds (w.drop k)=none:=by
        rw[ew,e',zdV,←e',hc]
        show(if zac (zaf (x::ws) ms (zad hs lks x))=true then none else some ms)=none
        rw[er2,eb,if_pos rfl]
       unfold cmM
       rw[zdW hkl hm]
    ·exact zao (by rw[decide_eq_false (by omega)]) (zao (by decide) ⟨rfl,Same.refl _,λz=>absurd z h0⟩)
   rintro σ' H4 ⟨rfl,s4,hb⟩
   have hmw:=wm hb
   have hH4:=hH3.same s4
   have k4:=k3.trans (Keep.of s4)
   have s34:=s4
   have hv4:=hv3.same s4
   have hpw4:=s4 _ _ (s3 _ _ hpw2)
   have hpp4:=s4 _ _ hpp
   have hpm4:=s4 _ _ hpm3
   have hzs4:=s4 _ _ (s3 _ _ hzs)
   have rz4:=(rz.mono (.of s3)).mono (.of s4)
   refine⟨_,rfl,few rfl,λq1 hq1=>?_⟩
   have T1:=Same.new (o:= .tup [V.str to]) hq1
   refine⟨_,rfl,zf7 (xs:=[V.str to]) (ys:=w.map V.str) zd (T1 _ _ hpw4) (by rw[List.length_map];show 1+_<=_;omega) λq2 H5 hq2 s5=>?_⟩
   have s45:=T1.trans s5
   have hq2:H5 q2=some (.tup ((to::w).map V.str)):=hq2
   have aw:=zf0 (w:=to::w) (i:=k) (by simp only[List.length_cons];omega)
   generalize eto:(to::w).getD k ""=wh at *
   have hwh:wh∈hs:=by
    rw[←eto]
    have:(to::w).getD k ""∈to::w:=by
     have hk1:k<(to::w).length:=by simp only[List.length_cons];omega
     simp only[List.getD,List.getElem?_eq_getElem hk1,Option.getD_some]
     exact List.getElem_mem hk1
    rcases List.mem_cons.mp this with h|h
    ·rw[h];exact hto
    ·exact W.mem _ h
   dsimp only[zaM]
   refine⟨_,rfl,_,rfl,_,rfl,_,rfl,_,rfl,q2,_,_,_,rfl,rfl, .inl (.inl hq2),aw,v,pp,pm, .str wh,x,ws,ms,some wh,g,hs,ps,lks,hds,j,rs,O,rfl,hv4.same s45,T,hj,hdj,hk',PO.few,PO.nm,Mm.toMk,s45 _ _ hpp4,s45 _ _ hpm4, .inr ⟨_,rfl,rfl,T.names _ hwh⟩,hxn,by omega,λu H6 tu s6=>?_⟩
   have s46:=s45.trans s6
   have k6:=k4.trans (Keep.of s46)
   have hH6:=hH4.same s46
   have ecm:cmM hs lks hds wh (w.drop k)=zD (x::ws) (some wh) rs ms:=by
    unfold cmM
    rw[hmw]
    show zD (w.drop k) (some wh) (zad hs hds ((w.drop k).headD "")) ms=_
    rw[ew]
    show zD (x::ws) (some wh) (zad hs hds x) ms=_
    rw[er]
   cases eh:zD (x::ws) (some wh) rs ms with
   |none=>
    rw[eh] at tu
    cases(show u= .non from tu)
    refine⟨_,rfl,rfl,_,rfl,zap rfl (qN ?_ H6 (hH6.mono (by omega)) k6)⟩
    exact zpm (k:=k) hkl (by rw[eto,ecm,eh])
   |some t=>
   rw[eh] at tu
   obtain⟨pt,rfl,hpt⟩:=tu
   have Mt:=zdj hk'.2 Mm eh
   have hpw6:=s46 _ _ hpw4
   have hq26:=s6 _ _ hq2
   have hpp6:=s46 _ _ hpp4
   have hzs6:=s46 _ _ hzs4
   have a0:=zf0 (w:=w) (i:=k) hkl
   rw[←ex] at a0
   refine⟨_,rfl,rfl,_,rfl,zao rfl ⟨_,rfl, .inl ⟨rfl,_,SqL.of hzs6⟩,_,rfl,_,rfl,pw,_,_,_,rfl,rfl, .inl (.inl hpw6),a0,_,rfl,_,rfl,q2,_,_,_,rfl,rfl, .inl (.inl hq26),aw,?_⟩⟩
   refine⟨_,rfl,a,9,_,rfl,hH6,by omega,by decide,by decide,λt9 H7 t90 t99 hH7 k7=>⟨_,_,rfl,rfl,_,rfl,_,rfl,few rfl,λpn hpn=>?_⟩⟩
   have M67:=Mono.keep k7 hH6 hH7
   have hzs7:=k7 _ _ nlp hzs6
   have Sn:=Same.new (o:= .tup [V.str x,V.str wh,V.int (1+t9),V.ref pp,V.ref pt]) hpn
   have rn:Rep (upd H7 pn (.tup [V.str x,V.str wh,V.int (1+t9),V.ref pp,V.ref pt])) (.ref pn) (ppD ⟨x,wh,1+t9,some (x::ws),t⟩):=zrs zd (hxn x List.mem_cons_self) (T.names _ hwh) (Sn _ _ (M67.tup _ _ hpp6)) (Sn _ _ (M67.tup _ _ hpt)) hxn (λz hz=>PO.nm z (Mt.mem z hz)) (by simp only[List.length_cons];omega) (Nat.le_trans (Mt.toMk.len PO.few) (by decide))
   have rz8:=((rz4.mono (.of s46)).mono M67).mono (.of Sn)
   have hzs8:=Sn _ _ hzs7
   have lz:=rz.1
   rw[List.length_map,List.length_reverse] at lz
   have ei1:w.length -(i+1)=k:=by omega
   refine⟨lp,_,_,rfl,rfl,hzs8,zm (by omega),⟨pt,t,⟨x,wh,1+t9,some (x::ws),t⟩::P,_,_,_,_,rfl,?_, .inr ⟨_,_,rfl,rfl,?_,?_,Mt,by omega⟩,zd,?_,by rw[List.length_cons,lP]⟩,?_,?_⟩
   ·have hpt8:=Sn _ _ (M67.tup _ _ hpt)
    have ne:pt≠lp:=λz=>by
     subst z
     rw[hpt8] at hzs8
     cases hzs8
    rw[zq ne]
    exact hpt8
   ·rw[ei1,ew,eto]
    rcases hPg with⟨rfl,rfl,rfl⟩|⟨f,qs,rfl,hfm,c,hc,_,i0⟩
    ·have:ws=[]:=List.eq_nil_of_length_eq_zero (by omega)
     subst this
     exact .one (by omega) (by rw[er];exact eh)
    ·have ei:w.length -i=k+1:=by omega
     rw[ei] at c
     obtain⟨x',ws',e'⟩:∃x' ws',ws=x'::ws':=by
      match ws,lws with
      |[],l=>exact absurd l (by simp only[List.length_nil];omega)
      |x'::ws',_=>exact ⟨_,_,rfl⟩
     have ed:w.drop (k+1)=ws:=by
      have:=congrArg (List.drop 1) ew
      rw[List.drop_drop] at this
      simpa[Nat.add_comm] using this
     have et:(to::w).getD (k+1) ""=x:=ex.symm
     rw[et,ed,e'] at c
     subst e'
     exact .more c (by rw[hfm,er2];exact hb i0) (by omega) (by rw[hfm,er];exact eh)
   ·rw[ei1,eto,ecm,eh]
   ·rw[List.reverse_cons,List.map_append]
    exact RepL.mono (rz8.append (.cons rn .nil)) (.lset hzs8)
   ·exact ((hH7.new hpn).updNe nlp).mono (by push_cast;omega)
   ·exact Keep.updNew ((k6.trans k7).trans (Keep.new hpn)) hlpH
  ·rintro σ' H2 ⟨⟨pm,ms,P,zs,o6,o7,o8,rfl,hpm,hPg,hzs,rz,lP⟩,hH2,k2⟩
   rcases hPg with⟨z,_⟩|⟨f,qs,rfl,hfm,c,hc,_,i0⟩
   ·omega
   rw[Nat.sub_self,List.drop_zero] at c
   have c:Ch hs lks hds to w (f::qs):=c
   rw[List.reverse_cons,List.map_append] at rz
   obtain⟨za,zf,rfl,ra,rf⟩:=zlQ rz
   have lq:qs.length+1=w.length:=lP
   refine⟨_,rfl,1,rfl,lp,_,-1,_,rfl,rfl,SqL.of hzs,zjo _ _,_,rfl,1,rfl,_,rfl,lp,_,rfl,SqL.of hzs,λp1 hp1=>⟨p1,_,rfl,SqL.of zd,λp2 hp2=>⟨p2,_,rfl, .inl ⟨SqL.of zd,λp3 hp3=>⟨few rfl,λp4 hp4=>?_⟩⟩⟩⟩⟩
   have ec:zbu (za ++ [zf]) none (some (-1))=za:=znz
   rw[ec] at hp2 hp3 hp4⊢
   have S1:=Same.new (o:= .lst za) hp1
   have S2:=Same.new (o:= .lst za.reverse) hp2
   have S3:=Same.new (o:= .tup za.reverse) hp3
   have S4:=Same.new (o:= .tup [zf, .ref p3]) hp4
   have s14:=((S1.trans S2).trans S3).trans S4
   refine qS _ f qs _ c ?_ ((hH2.same s14).mono (by omega)) (k2.trans (Keep.of s14))
   have ra4:=(ziQ ra).mono (.of s14)
   rw[←List.map_reverse,List.reverse_reverse] at ra4
   exact .mk2 zd (rf.same s14) (.mkL (S4 _ _ zd) (by rw[List.length_map];omega) ra4)
end
section
variable{P:Program}{w:World}{K:PySem.W.Frag}{mg:Str->Option Value}{base:Heap}
theorem zre:bootBuiltins "sum"=some (.builtin "sum"):=by decide +kernel
def Dp:Nat->D->Prop
 |0,_=>False
 |n+1,d=>∀ds,d= .tup ds->ds.length<=900/\∀e∈ds,Dp n e
noncomputable def zgt(n:Nat):Sp:=λvs H Q _=>∃(v:V) (d:D),vs=[v]/\Rep H v d/\Dp n d/\∀H',Same H H'->Q (.int (zah d)) H'
theorem zm4{d:D}(h:zhV d=false):zah d=1:=by cases d<;>first|rfl|cases h
theorem zju{H:Hp}{f:D->Int}:∀{us:List V} {ds:List D},RepL H us (ds.map λd=> .int (f d))->us=(ds.map f).map V.int
 |[],[],_=>rfl
 |[],d::ds,r=>by have:=r.1;simp at this
 |u::us,[],r=>by have:=r.1;simp at this
 |u::us,d::ds,r=>by
  obtain⟨r0,r1⟩:=RepL.head (d:=D.int (f d)) (ds:=ds.map λd=> .int (f d)) r
  cases r0
  rw[zju r1];rfl
theorem zhq:∀ds:List D,(ds.map λd=>(zah d:Int)).sum=(zbQ ds:Int)
 |[]=>rfl
 |d::ds=>by rw[List.map_cons,List.sum_cons,zhq ds];show _=((zah d+zbQ ds:Nat):Int);push_cast;rfl
theorem zbo{k n:Nat}(Y:Ev K mg)(G__law_size:FnOk P w K mg base CX0 k Y.a__law_size Y.d__law_size zaQ (zgt n)):FnOk P w K mg base CX0 (k+1) Y.a__law_size Y.d__law_size zaQ (zgt (n+1)):=by
 refine Y._law_size.fn.okQ zfO (λvs H Q E h=>?_) (λcdv A outer s H vs Q E hr h=>?_)
 ·obtain ⟨v,d,rfl,_⟩:=h;rfl
 ·obtain ⟨v,d,rfl,hd,hn,q⟩:=h
  obtain⟨t,ht,h1,_⟩:=hd.isi (K:=K)
  refine⟨_,(zj (zaq (zbt (za7 (zx zcR Y.isinstance zaK (zb (qv 0) (zb (zkC Y.tuple zax) zc))))) (zl (zA zh)) zT)
   (zl (zA (zN zaI zh (zx (zl9 rfl) Y.sum zre (zb (zaj (src:=[none]) o__law_size_1 rfl rfl (zaP (qv 0)) (λ_ _ _ _ _=>(zn 0 o__law_size_1.nd)) (λ_ _ _ _ _=>za6) (λ_ _ _ _ _=>(zk G__law_size hr Y._law_size.mg Y._law_size.kp Y._law_size.b .nil zr (zb (qv 0) zc)))) zc)))))),?_⟩
  refine⟨_,rfl,_,_,_,_,rfl,ht,h1,_,rfl,?_⟩
  refine zbx (λe=>?_) (λe=>?_)
  ·have q:=q H (Same.refl H)
   rw[zm4 (by simpa using e)] at q
   exact q
  ·cases d with
   |tup ds=>
    obtain⟨p,vs,rfl,hp,r,b⟩:=hd.ofT
    obtain⟨b9,hm⟩:=hn ds rfl
    refine⟨_,rfl,p,rfl,⟨vs, .inl (.inl hp)⟩,?_⟩
    refine zgy (f:=λd=> .int (zah d)) (σr:=[]) (ok:=λH=>SqT K H p vs) zaG (λH' s=> .inl (.inl (s _ _ hp))) r b9 rfl (λx d H2 s2 rx hd H3 Q1 s3 q1=>⟨_,rfl,x,d,rfl,rx.same s3,hm d hd,λH4 s4=>q1 _ H4 s4 (.int _)⟩) (λl us H2 s2 _ hl ru=>?_)
    have eu:=zju (f:=λd=>(zah d:Int)) ru
    rw[eu] at hl
    refine⟨l,_,rfl,hl,_,_,rfl,rfl,?_⟩
    rw[zhq]
    exact q H2 s2
   |_=>exact absurd rfl e
theorem znL(Y:Ev K mg):FnOk P w K mg base CX0 1 Y.a__law_size Y.d__law_size zaQ (zgt 0):=by
 refine Y._law_size.fn.okQ zfO (λvs H Q E h=>?_) (λcdv A outer s H vs Q E hr h=>?_)
 ·obtain ⟨v,d,_,_,z,_⟩:=h;cases z
 ·obtain ⟨v,d,_,_,z,_⟩:=h;cases z
theorem zpK(Y:Ev K mg):FnOk P w K mg base CX0 7 Y.a__law_size Y.d__law_size zaQ (zgt 6):=zbo Y (zbo Y (zbo Y (zbo Y (zbo Y (zbo Y (znL Y))))))
end
section
variable{P:Program}{w:World}{K:PySem.W.Frag}{mg:Str->Option Value}{base:Heap}
theorem Mono.keepL{H H':Hp}{a:Addr}{xs ys:List V}(k:Keep a H H')(h:H a=some (.lst xs))(h':H' a=some (.lst ys)):Mono H H':=by
 refine⟨λq zs e=>?_,λq zs e=>?_,λq zs e=>?_⟩
 ·exact k q _ (λhq=>by subst hq;rw[h] at e;cases e) e
 ·by_cases hq:q=a
  ·subst hq;exact⟨_,h'⟩
  ·exact ⟨zs,k q _ hq e⟩
 ·exact ⟨zs,k q _ (λhq=>by subst hq;rw[h] at e;cases e) e⟩
noncomputable def zi4(n:Nat):Sp:=λvs H Q _=>∃(v u:V) (a:Addr) (d e:D) (k:Int),vs=[v, .ref a,u]/\Rep H v d/\Rep H u e/\Dp n d/\H a=some (.lst [.int k])/\∀v' H',Keep a H H'->H' a=some (.lst [.int (zU d k e).2])->Rep H' v' (zU d k e).1->Q v' H'
theorem zi7{d:D}{k:Int}{e:D}(h:k -1= -1):zU d k e=(e,k -1):=by cases d<;>unfold zU<;>rw[if_pos h]
theorem zlN{d:D}{k:Int}{e:D}(t:zhV d=false)(h:¬k -1= -1):zU d k e=(d,k -1):=by cases d<;>first|(cases t;done)|(unfold zU;rw[if_neg h])
theorem zkU{ds:List D}{k:Int}{e:D}(h:¬k -1= -1):zU (.tup ds) k e=(.tup (za8 ds (k -1) e).1,(za8 ds (k -1) e).2):=by unfold zU;rw[if_neg h]
theorem zfa{e:D}:∀(ds:List D) (d:D) (k:Int),za8 (ds ++ [d]) k e=((za8 ds k e).1 ++ [(zU d (za8 ds k e).2 e).1],(zU d (za8 ds k e).2 e).2)
 |[],d,k=>by show(([(zU d k e).1],(zU d k e).2):List D×Int)=_;rfl
 |c::ds,d,k=>by
  show((((zU c k e).1::(za8 (ds ++ [d]) (zU c k e).2 e).1),(za8 (ds ++ [d]) (zU c k e).2 e).2):List D×Int)=_
  rw[zfa ds d];rfl
theorem zgq{e:D}:∀(ds:List D) (k:Int),(za8 ds k e).1.length=ds.length
 |[],k=>rfl
 |c::ds,k=>by show(_::(za8 ds _ e).1).length=_;rw[List.length_cons,zgq ds];rfl
theorem zbF{k n:Nat}(Y:Ev K mg)(G__law_put:FnOk P w K mg base CX0 k Y.a__law_put Y.d__law_put zbh (zi4 n)):FnOk P w K mg base CX0 (k+1) Y.a__law_put Y.d__law_put zbh (zi4 (n+1)):=by
 refine Y._law_put.fn.okQ zgz (λvs H Q E h=>?_) (λcdv A outer s H vs Q E hr h=>?_)
 ·obtain ⟨v,u,a,d,e,i,rfl,_⟩:=h;rfl
 ·obtain ⟨v,u,a,d,e,i,rfl,hd,he,hn,ha,q⟩:=h
  refine⟨_,(zj (zdc (zN zex (zF ix_list (qc 1) zh) zh) (zkR (qc 1) zh ze0))
   (zj (zaq (zJ zas (zF ix_list (qc 1) zh) (zgf zcT zh)) (zl (zA (qc 2))) zT)
   (zj (zaq (zbt (za7 (zx zcR Y.isinstance zaK (zb (qv 0) (zb (zkC Y.tuple zax) zc))))) (zl (zA (qv 0))) zT)
   (zl (zA (zX zV Y.tuple zax (zb (zaj (src:=[none,some 2,some 1]) o__law_put_1 rfl rfl (zaP (qv 0)) (λ_ _ _ _ _=>(zn 0 o__law_put_1.nd)) (λ_ _ _ _ _=>za6) (λ_ _ _ _ _=>(zk G__law_put hr Y._law_put.mg Y._law_put.kp Y._law_put.b .nil zr (zb (qv 0) (zb (qc 2) (zb (qc 1) zc)))))) zc))))))),?_⟩
  refine⟨_,rfl,a,_,0,_,rfl,rfl,SqL.of ha,at0,_,_,rfl,rfl,?_⟩
  refine⟨_,rfl,a,_,0,0,rfl,rfl,ha,rfl,?_⟩
  have hH1:upd H a (.lst [V.int (i -1)]) a=some (.lst [.int (i -1)]):=zd
  have k1:Keep a H (upd H a (.lst [V.int (i -1)])):=Keep.upd _ _ _
  have m1:Mono H (upd H a (.lst [V.int (i -1)])):=Mono.keepL k1 ha hH1
  refine⟨_,rfl,a,_,0,_,rfl,rfl,SqL.of zd,at0,1,rfl,rfl,_,rfl,zbx (λe1=>?_) (λe1=>?_)⟩
  ·have e1:i -1= -1:=V.int.inj (of_decide_eq_true e1)
   refine⟨_,rfl,q u _ k1 ?_ ?_⟩
   ·rw[zi7 e1];exact zd
   ·rw[zi7 e1];exact he.mono m1
  have e1:¬i -1= -1:=λz=>e1 (decide_eq_true (congrArg V.int z))
  obtain⟨t,ht,h1,_⟩:=(hd.mono m1).isi (K:=K)
  refine⟨_,rfl,_,_,_,_,rfl,ht,h1,_,rfl,?_⟩
  refine zbx (λe2=>?_) (λe2=>?_)
  ·have e2:zhV d=false:=by simpa using e2
   refine⟨_,rfl,q v _ k1 ?_ ?_⟩
   ·rw[zlN e2 e1];exact zd
   ·rw[zlN e2 e1];exact hd.mono m1
  cases d with
  |tup ds=>
   obtain⟨p,vs,rfl,hp,r,b⟩:=(hd.mono m1).ofT
   obtain⟨b9,hm⟩:=hn ds rfl
   have pa:p≠a:=λz=>by rw[z,zd] at hp;cases hp
   refine⟨_,rfl,p,rfl,⟨vs, .inl (.inl hp)⟩,?_⟩
   refine zaY (ok:=λH=>SqT K H p vs) (zaG (K:=K)) (λl j ys σ' H'=>(∃o,σ'=[o,some u,some (.ref a)])/\RepL H' ys (za8 (ds.take j) (i -1) e).1/\Keep a (upd H a (.lst [V.int (i -1)])) H'/\H' a=some (.lst [.int (za8 (ds.take j) (i -1) e).2])) ?_ ?_ ?_ ?_
   ·exact λl hl=>⟨⟨none,rfl⟩,RepL.nil,Keep.new hl,(Same.new hl) _ _ zd⟩
   ·exact λl j ys σ' H' _ p3=> .inl (.inl (p3.2.2.1 _ _ pa hp))
   ·rintro l j y ys σ' H' hl hj hy ⟨⟨o,rfl⟩,ry,k2,ha2⟩ hl'
    have m2:=Mono.keepL k2 zd ha2
    obtain⟨d,hdj,rd⟩:=r.get hy
    have la:l≠a:=λz=>by rw[z,zd] at hl;cases hl
    refine⟨_,rfl,_,rfl,_,rfl,y,u,a,d,e,_,rfl,rd.mono m2,(he.mono m1).mono m2,hm d (List.mem_of_getElem? hdj),ha2,λv' H3 k3 ha3 rv=>?_⟩
    have ey:ys.length<sizeLine:=by have:=ry.1;rw[zgq,List.length_take] at this;exact zm (by omega)
    have hl3:=k3 _ _ la hl'
    have m3:=(Mono.keepL k3 ha2 ha3).trans (Mono.lset (ys:=ys ++ [v']) hl3)
    refine⟨hl3,ey,⟨_,rfl⟩,?_,(k2.trans k3).updNew hl,?_⟩
    ·rw[List.take_add_one,hdj]
     show RepL _ _ (za8 (ds.take j ++ [d]) (i -1) e).1
     rw[zfa]
     exact(ry.mono m3).append (.cons (rv.mono (.lset hl3)) .nil)
    ·rw[zq la.symm,ha3,List.take_add_one,hdj]
     show _=some (HO.lst [V.int (za8 (ds.take j ++ [d]) (i -1) e).2])
     rw[zfa]
   ·rintro l ys σ' H' hl ⟨_,ry,k2,ha2⟩ hl'
    have ed:ds.take vs.length=ds:=List.take_of_length_le (by rw[r.1];exact Nat.le_refl _)
    rw[ed] at ry ha2
    refine⟨l,ys,rfl, .inl ⟨SqL.of hl',λp3 hp3=>q (.ref p3) _ ((k1.trans k2).trans (Keep.new hp3)) ?_ ?_⟩⟩
    ·rw[zkU e1];exact(Same.new hp3) _ _ ha2
    ·rw[zkU e1];exact .mkL zd (by rw[zgq];exact b) (ry.mono (.new hp3))
  |_=>exact absurd rfl e2
theorem zoU(Y:Ev K mg):FnOk P w K mg base CX0 1 Y.a__law_put Y.d__law_put zbh (zi4 0):=by
 refine Y._law_put.fn.okQ zgz (λvs H Q E h=>?_) (λcdv A outer s H vs Q E hr h=>?_)
 ·obtain ⟨v,u,a,d,e,i,_,_,_,z,_⟩:=h;cases z
 ·obtain ⟨v,u,a,d,e,i,_,_,_,z,_⟩:=h;cases z
theorem zqG(Y:Ev K mg):FnOk P w K mg base CX0 7 Y.a__law_put Y.d__law_put zbh (zi4 6):=zbF Y (zbF Y (zbF Y (zbF Y (zbF Y (zbF Y (zoU Y))))))
end
section
variable{P:Program}{w:World}{K:PySem.W.Frag}{mg:Str->Option Value}{base:Heap}
noncomputable def zfs:D->Bool
 | .tup []=>true
 |_=>false
def NeI(H:Hp)(v:V)(b:Bool):Prop:=∀(q:Addr) (Q:VK),H q=some (.tup [])->Q (.bl b) H->zrT v (.ref q) H Q
theorem zlu(d:D)(h:okD d=true):(pyD d).eqv (.tuple [])=zfs d:=by
 cases d with
 |tup ds=>cases ds with
  |nil=>rfl
  |cons d ds=>rfl
 |oth=>cases h
 |_=>rfl
theorem zqL{H:Hp}{v:V}{d:D}(r:Rep H v d)(ok:okD d=true):NeI H v (!zfs d):=λq Q hq k=>
 .inl ⟨_,_,zlH r ok,zeK hq,Nat.le_trans (Nat.min_le_right _ _) (by decide +kernel),by rw[zlu d ok];exact k⟩
def Od(H:Hp)(v:V)(d:D):Prop:=Rep H v d/\(okD d=true\/(d= .oth/\∃p,v= .ref p/\(H p=some (.dK [])\/H p=some (.lst [])\/∃q,H p=some (.lst [.ref q])/\H q=some (.tup []))))
theorem Od.same{H H':Hp}{v:V}{d:D}(h:Od H v d)(s:Same H H'):Od H' v d:=by
 obtain⟨r,h⟩:=h
 refine⟨r.same s,h.imp id ?_⟩
 rintro⟨e,p,rfl,h|h|⟨q,h,h2⟩⟩
 ·exact ⟨e,p,rfl, .inl (s _ _ h)⟩
 ·exact ⟨e,p,rfl, .inr (.inl (s _ _ h))⟩
 ·exact ⟨e,p,rfl, .inr (.inr ⟨q,s _ _ h,s _ _ h2⟩)⟩
theorem Od.keep{H H':Hp}{v:V}{d:D}{a:Addr}{n m:Int}(h:Od H v d)(k:Keep a H H')(hH:Hand H a n)(hH':Hand H' a m):Od H' v d:=by
 obtain⟨r,h⟩:=h
 refine⟨r.mono (.keep k hH hH'),h.imp id ?_⟩
 obtain⟨x,y,z,ha,_⟩:=hH
 have ne:∀{q:Addr} {o:HO},H q=some o->o≠ .lst [.int x, .int y, .int z]->H' q=some o:=λe ho=>k _ _ (λhq=>by subst hq;rw[ha] at e;exact ho (Option.some.inj e).symm) e
 rintro⟨e,p,rfl,h|h|⟨q,h,h2⟩⟩
 ·exact ⟨e,p,rfl, .inl (ne h (by intro z;cases z))⟩
 ·exact ⟨e,p,rfl, .inr (.inl (ne h (by intro z;cases z)))⟩
 ·exact ⟨e,p,rfl, .inr (.inr ⟨q,ne h (by intro z;cases z),ne h2 (by intro z;cases z)⟩)⟩
theorem Od.ne{H:Hp}{v:V}{d:D}(h:Od H v d):NeI H v (!zfs d):=by
 obtain⟨r,h|⟨rfl,p,rfl,h|h|⟨q,h,h2⟩⟩⟩:=h
 ·exact zqL r h
 ·exact λq Q hq k=> .inr ⟨p,q,rfl,rfl,h,hq,k⟩
 ·exact λq Q hq k=> .inl ⟨_,_,zoh h,zeK hq,Nat.le_trans (Nat.min_le_right _ _) (by decide +kernel),k⟩
 ·exact λq2 Q hq k=> .inl ⟨_,_,zpl (ds:=[.tup []]) h (.cons (.mkL (vs:=[]) h2 (Nat.zero_le _) .nil) .nil) (λd hd=>by rw[List.mem_singleton.mp hd];rfl),zeK hq,Nat.le_trans (Nat.min_le_right _ _) (by decide +kernel),k⟩
def znp(te:TE)(σ:L2.St)(H:Hp)(d:D):Prop:=∀(H1:Hp) (Q:VK),Same H H1->(∀v H2,Same H1 H2->Od H2 v d->Q v H2)->te σ H1 Q
def OdL(H:Hp)(vs:List V)(ds:List D):Prop:=vs.length=ds.length/\∀v∈vs,∃d∈ds,Od H v d
def zlc(ta:TA)(σ:L2.St)(H:Hp)(ds:List D):Prop:=∀(H1:Hp) (Q:List V->Hp->Prop),Same H H1->(∀vs H2,Same H1 H2->OdL H2 vs ds->Q vs H2)->ta σ H1 Q
section
variable{te:TE}{ta:TA}{σ:L2.St}{H:Hp}{d:D}{ds:List D}
theorem zc8(h:Dsp te σ H d)(ok:okD d=true):znp te σ H d:=λH1 Q s q=>h H1 Q s λv H2 s2 r=>q v H2 s2 ⟨r, .inl ok⟩
theorem zoY:znp ziz σ H .oth:=λH1 Q s q=>λp hp=>q _ _ (Same.new hp) ⟨.dK zd, .inr ⟨rfl,p,rfl, .inl zd⟩⟩
theorem zrI:znp (zj6 zgg) σ H .oth:=λH1 Q s q=>⟨few rfl,λp hp=>q _ _ (Same.new hp) ⟨.lst zd, .inr ⟨rfl,p,rfl, .inr (.inl zd)⟩⟩⟩
theorem zsf:znp (zj6 (zdG (zn6 zgg) zgg)) σ H .oth:=λH1 Q s q=>⟨few rfl,λp hp=>⟨few rfl,λp2 hp2=>q _ _ ((Same.new hp).trans (Same.new hp2)) ⟨.lst zd, .inr ⟨rfl,p2,rfl, .inr (.inr ⟨p,zd,(Same.new hp2) _ _ zd⟩)⟩⟩⟩⟩
theorem zoM:zlc zgg σ H []:=λH1 Q s q=>q [] H1 (Same.refl _) ⟨rfl,λv hv=>by cases hv⟩
theorem zar(h:znp te σ H d)(g:zlc ta σ H ds):zlc (zdG te ta) σ H (d::ds):=λH1 Q s q=>
 h H1 _ s λv H2 s2 o=>g H2 _ (s.trans s2) λvs H3 s3 ol=>q (v::vs) H3 (s2.trans s3) ⟨by rw[List.length_cons,List.length_cons,ol.1],λx hx=>by
  rcases List.mem_cons.mp hx with rfl|hx
  ·exact ⟨d,List.mem_cons_self,o.same s3⟩
  ·obtain ⟨e,he,oe⟩:=ol.2 x hx
   exact⟨e,List.mem_cons_of_mem _ he,oe⟩⟩
theorem zsc{k:Nat}{De:Ends}(h:zlc ta σ H ds)(hl:ds.length<=900)(q:∀vs H2 l,Same H H2->OdL H2 vs ds->H2 l=none->De.nx (σ.set k (some (.ref l))) (upd H2 l (.lst vs))):zg6 (zj6 ta) (zaM k) De σ H:=h H _ (Same.refl H) λvs H2 s2 o=>⟨Nat.le_of_lt (zm (by have:=o.1;omega)),λl hl=>q vs H2 l s2 o hl⟩
theorem zpb{i:Int}{j:Int}(c:zqx i j):Dsp (tOp (rI zqx λi j=> .int (i^j.toNat)) (tC (.int i)) (tC (.int j))) σ H (.int (i^j.toNat)):=λH1 Q s q=>⟨i,j,rfl,rfl,c,q _ H1 (Same.refl _) (.int _)⟩
end
noncomputable def zfy:Nat->D
 |0=> .non
 |n+1=> .tup [zfy n]
theorem zh4:∀n,okD (zfy n)=true
 |0=>rfl
 |n+1=>by show(okD (zfy n)&&true)=true;rw[zh4 n];rfl
noncomputable def zoS:List D:=[.non, .bl true, .int 0, .int (-1), .str "", .str "Z", .tup [], .oth, .oth, .tup [.tup []], .oth, .int (10^5), .tup [.str "nowhere"], .tup [.bl true, .bl false], .str "if"]
def zmV(d:D):Prop:=d∈zoS\/∃k,d=zfy k
theorem zqY{k:Nat}{d:D}(h:d∈ [.non, .bl true, .int 0, .int (-1), .str "", .str "Z", .tup [], .oth, .oth, .tup [.tup []],zfy k, .oth, .int (10^5), .tup [.str "nowhere"], .tup [.bl true, .bl false], .str "if"]):zmV d:=by
 simp only[List.mem_cons,List.not_mem_nil,or_false] at h
 unfold zmV zoS
 simp only[List.mem_cons,List.not_mem_nil,or_false]
 rcases h with h|h|h|h|h|h|h|h|h|h|h|h|h|h|h|h
 case inr.inr.inr.inr.inr.inr.inr.inr.inr.inr.inl=>exact .inr ⟨k,h⟩
 all_goals (subst h;simp)
noncomputable def zqs:Sp:=λvs H Q _=>∃(a:Addr) (n:Int),vs=[.ref a]/\Hand H a n/\n<2^39/\∀v d H',Od H' v d->zmV d->Hand H' a (n+2)->Keep a H H'->Q v H'
theorem zqu(Y:Ev K mg):FnOk P w K mg base CX0 3 Y.a__law_any Y.d__law_any zcO zqs:=by
 have G__law_take:FnOk P w K mg base CX0 1 Y.a__law_take Y.d__law_take zai zdC:=zcY Y
 have G__law_pick:FnOk P w K mg base CX0 2 Y.a__law_pick Y.d__law_pick zan (zcA K):=zdx Y
 refine Y._law_any.fn.okQ c__law_any (λvs H Q E h=>?_) (λcdv A outer s H vs Q E hr h=>?_)
 ·obtain ⟨a,n,rfl,_⟩:=h;rfl
 ·obtain ⟨a,n,rfl,hH,hn,q⟩:=h
  refine⟨_,(zj (zL 1 c__law_any.nd zaE)
   (zj (zcm PassesOwn.never rfl (zb7 Y.range (zb (zk G__law_take (hr.mono (by decide)) Y._law_take.mg Y._law_take.kp Y._law_take.b .nil zr (zb (qv 0) (zb zh zc))) zc)) (zn 2 c__law_any.nd) (zl (zL 1 c__law_any.nd (zB (zb (qv 1) zc)))))
   (zj (zL 3 c__law_any.nd (za1 (zb zaE (zb zbv (zb zh (zb (zgf zcT zh) (zb zY (zb zY (zb (zB zc) (zb (za1 zc) (zb zil (zb (zB (zb (zB zc) zc)) (zb (qv 1) (zb (za1 (zb (zB zc) zc)) (zb (zN zn4 zh zh) (zb (zB (zb zY zc)) (zb (zB (zb zbv (zb zbv zc))) (zb zY zc))))))))))))))))))
   (zl (zA (zk G__law_pick (hr.mono (by decide)) Y._law_pick.mg Y._law_pick.kp Y._law_pick.b .nil zr (zb (qv 0) (zb (qv 3) zc)))))))),?_⟩
  refine⟨_,rfl,a,40,n,rfl,hH,by omega,by decide,by decide,λt H1 t0 t4 hH1 k1=>⟨t,rfl,by omega,by omega,?_⟩⟩
  refine zbq zcv (λi σ' H'=>(∃v o2,σ'=[some (.ref a),some v,o2,none]/\∃k,Rep H' v (zfy k))/\Hand H' a (n+1)/\Keep a H H') ⟨⟨_,_,rfl,0, .non⟩,hH1,k1⟩ (λ_ _ _ _=>trivial) ?_ ?_
  ·rintro i y σ' H2 hi rfl ⟨⟨v,o2,rfl,k,rv⟩,hH2,k2⟩
   refine⟨_,rfl,few rfl,λp hp=>⟨⟨_,_,rfl,k+1, .mk1 zd (rv.mono (.new hp))⟩,hH2.new hp,k2.trans (Keep.new hp)⟩⟩
  ·rintro σ' H2 ⟨⟨v,o2,rfl,k,rv⟩,hH2,k2⟩
   have od:Od H2 v (zfy k):=⟨rv, .inl (zh4 k)⟩
   dsimp only[zh2]
   refine zsc (ds:=[.non, .bl true, .int 0, .int (-1), .str "", .str "Z", .tup [], .oth, .oth, .tup [.tup []],zfy k, .oth, .int (10^5), .tup [.str "nowhere"], .tup [.bl true, .bl false], .str "if"]) ?_ (Nat.le_of_ble_eq_true rfl) λvs H3 l s3 o3 hl=>?_
   ·exact zar (zc8 zaS rfl) (zar (zc8 zeu rfl) (zar (zc8 zcE rfl) (zar (zc8 zh7 rfl) (zar (zc8 (zaU (by decide)) (by decide +kernel)) (zar (zc8 (zaU (by decide)) (by decide +kernel)) (zar (zc8 (zE zp (Nat.zero_le _)) rfl) (zar zrI (zar zoY (zar (zc8 (zE (ze (zE zp (Nat.zero_le _)) zp) (Nat.le_of_ble_eq_true rfl)) rfl) (zar (zc8 (zt rfl rv) (zh4 k)) (zar zsf (zar (zc8 (zpb ⟨by decide,by decide,by decide⟩) rfl) (zar (zc8 (zE (ze (zaU (by decide)) zp) (Nat.le_of_ble_eq_true rfl)) (by decide +kernel)) (zar (zc8 (zE (ze zeu (ze zeu zp)) (Nat.le_of_ble_eq_true rfl)) rfl) (zar (zc8 (zaU (by decide)) (by decide +kernel)) zoM)))))))))))))))
   have hl3:vs.length=16:=o3.1
   refine⟨_,rfl,_,rfl,a,n+1,(hH2.same s3).new hl,by omega, .inl ⟨l,vs,rfl,(hH2.same s3).ne hl,SqL.of zd,by omega,by omega,λv4 H4 hv4 hH4 k4=>?_⟩⟩
   obtain⟨d4,hd4,o4⟩:=o3.2 v4 hv4
   refine q v4 d4 H4 ((o4.same (Same.new hl)).keep k4 ((hH2.same s3).new hl) hH4) (zqY hd4) (hH4.mono (by omega)) (((k2.trans (Keep.of s3)).trans (Keep.new hl)).trans k4)
end
section
variable{P:Program}{w:World}{K:PySem.W.Frag}{mg:Str->Option Value}{base:Heap}
section
variable{te tf:TE}{ta:TA}{σ:L2.St}{H:Hp}{d:D}{ds es:List D}{K:PySem.W.Frag}
theorem zkn{i:Nat}{l:Addr}{vs:List V}(hv:σ[i]?=some (some (.ref l)))(e:H l=some (.lst vs))(r:RepL H vs ds):zg1 (zc7 i) σ H ds:=λH1 Q s q=>⟨_,hv,q l vs H1 (Same.refl _) (s _ _ e) (r.mono (.of s))⟩
theorem zkK(h:zmE ta σ H ds)(hl:ds.length<=900):zg1 (zj6 ta) σ H ds:=λH1 Q s q=>h H1 _ s λvs H2 s2 r=>⟨Nat.le_of_lt (zm (by have:=r.1;omega)),λl hl2=>q l vs _ (s2.trans (Same.new hl2)) zd (r.mono (.new hl2))⟩
theorem zoc(h:zg1 te σ H ds)(g:zg1 tf σ H es)(hl:ds.length+es.length<=900):zg1 (tOp zrb te tf) σ H (ds ++es):=λH1 Q s q=>
 h H1 _ s λl vs H2 s2 e2 r2=>g H2 _ (s.trans s2) λb us H3 s3 e3 r3=>⟨l,b,vs,us,rfl,rfl,s3 _ _ e2,e3,Nat.le_of_lt (zm (by have:=r2.1;have:=r3.1;omega)),λp hp=>q p _ _ ((s2.trans s3).trans (Same.new hp)) zd (((r2.mono (.of s3)).append r3).mono (.new hp))⟩
theorem zd8{src:List (Option Nat)}{σr:L2.St}{f:D->D}(h:Dsp tf σ H (.tup ds))(hl:ds.length<=900)(e:zdo src σ=none::σr)(he:∀(x:V) (d:D) (H1:Hp),Same H H1->Rep H1 x d->d∈ds->Dsp te (some x::σr) H1 (f d)):zg1 (zhr (zpv K tf) (zaM 0) zik te src) σ H (ds.map f):=λH1 Q s q=>
 h H1 _ s λv H2 s2 rv=>by
  obtain⟨p,vs,rfl,hp,r,b⟩:=rv.ofT
  refine⟨p,rfl,⟨vs, .inl (.inl hp)⟩,?_⟩
  exact zgy (ok:=λH=>SqT K H p vs) zaG (λH' s'=> .inl (.inl (s' _ _ hp))) r hl e (λx d H3 s3=>he x d H3 ((s.trans s2).trans s3)) λl us H3 s3 _ e3 r3=>q l us H3 (s2.trans s3) e3 r3
theorem zjS{src:List (Option Nat)}{σr:L2.St}{f:D->D}(h:zg1 tf σ H ds)(hl:ds.length<=900)(e:zdo src σ=none::σr)(he:∀(x:V) (d:D) (H1:Hp),Same H H1->Rep H1 x d->d∈ds->Dsp te (some x::σr) H1 (f d)):zg1 (zhr (zlz K tf) (zaM 0) zik te src) σ H (ds.map f):=λH1 Q s q=>
 h H1 _ s λl vs H2 s2 e2 r=>by
  refine⟨l,rfl,⟨vs,SqL.of e2⟩,?_⟩
  exact zgy (ok:=λH=>SqL K H l vs) zdt (λH' s'=>SqL.of (s' _ _ e2)) r hl e (λx d H3 s3=>he x d H3 ((s.trans s2).trans s3)) λl us H3 s3 _ e3 r3=>q l us H3 (s2.trans s3) e3 r3
theorem zis{k:Nat}{De:Ends}(h:zg1 te σ H ds)(q:∀l vs H2,Same H H2->H2 l=some (.lst vs)->RepL H2 vs ds->De.nx (σ.set k (some (.ref l))) H2):zg6 te (zaM k) De σ H:=h H _ (Same.refl H) q
theorem zqq{k:Nat}{De:Ends}(h:Dsp te σ H d)(q:∀v H2,Same H H2->Rep H2 v d->De.nx (σ.set k (some v)) H2):zg6 te (zaM k) De σ H:=h H _ (Same.refl H) q
end
section
variable{hs:List Str}{ps:List (Str×Str)}
theorem zgx{d:D}(h:zmV d):zK hs ps d=false:=by
 rcases h with h|⟨k,rfl⟩
 ·unfold zoS at h
  simp only[List.mem_cons,List.not_mem_nil,or_false] at h
  rcases h with rfl|rfl|rfl|rfl|rfl|rfl|rfl|rfl|rfl|rfl|rfl|rfl|rfl|rfl|rfl<;>rfl
 ·cases k<;>rfl
theorem zdM{d:D}(h1:zW d=false)(h2:zca d=false)(h3:zo hs ps d=false)(h4:∀ds,d= .tup ds->ds.all (zo hs ps)=false)(h5:zv d 0 90=false):OddE hs ps d:=⟨h1,h2,h3,h4,λz=>by rw[h5] at z;cases z⟩
theorem zlG{e:D}(h:zW e=false)(hp:zo hs ps e=false):OddE hs ps (.tup [e]):=
 zdM rfl rfl rfl (λds z=>by cases z;show(zo hs ps e&&true)=false;rw[hp];rfl) (by show(_&&(zW e&&true))=false;rw[h];simp)
theorem zoE{d:D}(h:zmV d)(h1:zfs d=false)(h2:zif d=false):OddE hs ps d:=by
 have hstr:∀x:Str,zW (.str x)=false->OddE hs ps (.str x):=λx hx=>zdM hx rfl rfl (λds z=>by cases z) rfl
 rcases h with h|⟨k,rfl⟩
 ·unfold zoS at h
  simp only[List.mem_cons,List.not_mem_nil,or_false] at h
  rcases h with rfl|rfl|rfl|rfl|rfl|rfl|rfl|rfl|rfl|rfl|rfl|rfl|rfl|rfl|rfl
  ·exact zdM rfl rfl rfl (λds z=>by cases z) rfl
  ·cases h2
  ·cases h2
  ·cases h2
  ·exact hstr _ (by decide +kernel)
  ·exact hstr _ (by decide +kernel)
  ·cases h1
  ·exact zdM rfl rfl rfl (λds z=>by cases z) rfl
  ·exact zdM rfl rfl rfl (λds z=>by cases z) rfl
  ·exact zlG rfl rfl
  ·exact zdM rfl rfl rfl (λds z=>by cases z) rfl
  ·cases h2
  ·exact ⟨rfl,rfl,rfl,λds z=>by cases z;rfl,λ_=>rfl⟩
  ·exact zdM rfl rfl rfl (λds z=>by cases z;rfl) (by decide +kernel)
  ·exact hstr _ (by decide +kernel)
 ·cases k with
  |zero=>exact zdM rfl rfl rfl (λds z=>by cases z) rfl
  |succ k=>exact zlG (by cases k<;>rfl) (by cases k<;>rfl)
theorem zr8{a b n w m:D}(h:zC hs a=false):zo hs ps (.tup [a,b,n,w,m])=false:=by show((zC hs a&&_)&&_)=false;rw[h];rfl
theorem znI{a b n w m:D}(h:zC hs b=false):zo hs ps (.tup [a,b,n,w,m])=false:=by show((_&&(zC hs b&&_))&&_)=false;rw[h];simp
theorem zr4{a b n w m:D}(h:zfD ps a b=false):zo hs ps (.tup [a,b,n,w,m])=false:=by show((_&&(_&&zfD ps a b))&&_)=false;rw[h];simp
theorem zrW{a b n w m:D}(h:(zca n&&zkp n)=false):zo hs ps (.tup [a,b,n,w,m])=false:=by
 show(_&&((zca n&&(zkp n&&_))&&_))=false
 rw[←Bool.and_assoc (zca n),h];simp
theorem zrU{a b n w m:D}(h0:zac w=false)(h:zv w 1 10=false):zo hs ps (.tup [a,b,n,w,m])=false:=by
 show(_&&(_&&(if zac w=true then _ else zv w 1 10)))=false
 rw[h0,if_neg (by decide),h];simp
theorem zr2{a b n w m:D}(h:zv m 0 90=false):zo hs ps (.tup [a,b,n,w,m])=false:=by
 show(_&&((_&&(_&&zv m 0 90))&&_))=false
 rw[h];simp
theorem zqc{a b n m:D}(h:zfb m=false):zo hs ps (.tup [a,b,n, .non,m])=false:=by
 show(_&&(_&&(if zac .non=true then zfb m else _)))=false
 rw[if_pos (show zac D.non=true from rfl),h];simp
theorem zi5{d:D}(h:∀x,d= .str x->x∉hs):zC hs d=false:=zd3 λz=>let ⟨x,e,hx⟩:=zbD z;h x e hx
theorem zd2{a:D}{p:Pp}:zK hs ps (.tup [a,ppD p])=false:=zce (by show(zo hs ps (.str p.one)&&_)=false;rfl)
theorem ziD{qs:List Pp}:zK hs ps (.tup (qs.map ppD))=false:=by
 match qs with
 |[]=>rfl
 |[p]=>rfl
 |[p,q]=>exact zd2
 |p::q::r::qs=>rfl
end
end
section
variable{P:Program}{w:World}{K:PySem.W.Frag}{mg:Str->Option Value}{base:Heap}
noncomputable def zlr:Sp:=λvs H Q _=>∃(v:V) (f:Pp) (qs:List Pp) (hs:List Str) (ps:List (Str×Str)) (w:List Str),vs=[v]/\Rep H v (zby f qs)/\PpOk hs ps f/\f.way=some w/\qs.length<=10/\("nowhere":Str)∉hs/\(∀x∈hs,zi x=true)/\f.one∉zaD ps f.one/\∀l H',H l=none->BadL (zK hs ps) H' l 100->Same H H'->Q (.ref l) H'
def FS(v v1 v2 v6 v7:V)(f:Pp)(H:Hp)(R:Option V->Option V->Option V->Option V->Option V->Option V->Hp->Prop)(σ':L2.St)(H':Hp):Prop:=∃o8 o9 o10 o11 o12 o13,σ'=[some v,some v1,some v2,some (.str f.one),some (.str f.to),some (.int f.nr),some v6,some v7,o8,o9,o10,o11,o12,o13]/\R o8 o9 o10 o11 o12 o13 H'/\Same H H'
theorem zeb{te:TE}{σ:L2.St}{H:Hp}{g:D->Bool}{es:List D}{i m n:Nat}{l:Addr}{Q:VK}(hσ:σ[i]?=some (some (.ref l)))(b:BadL g H l m)(h:zg1 te σ H es)(he:es.length=n)(hb:∀d∈es,g d=false)(hm:m+n<=900)(q:∀l' H2,H l'=none->Same H H2->BadL g H2 l' (m+n)->Q (.ref l') H2):tOp zrb (zc7 i) te σ H Q:=by
 obtain⟨vs,ds,e,r,c,bd⟩:=b
 refine⟨_,hσ,h H _ (Same.refl H) λb us H3 s3 e3 r3=>⟨l,b,vs,us,rfl,rfl,s3 _ _ e,e3,Nat.le_of_lt (zm (by have:=r.1;have:=r3.1;omega)),λp hp=>?_⟩⟩
 exact q p _ (zcF s3 hp) (s3.trans (Same.new hp)) ⟨_,ds ++es,zd,((r.mono (.of s3)).append r3).mono (.new hp),by rw[List.length_append];omega,λd hd=>(List.mem_append.mp hd).elim (bd d) (hb d)⟩
noncomputable def pr5(n w m:D):D->D
 | .tup [a,b]=> .tup [a,b,n,w,m]
 |d=>d
theorem zn3(Y:Ev K mg):FnOk P w K mg base CX0 1 Y.a__law_forms Y.d__law_forms zbP zlr:=by
 refine Y._law_forms.fn.okQ c__law_forms (λvs H Q E h=>?_) (λcdv A outer s H vs Q E hr h=>?_)
 ·obtain ⟨v,f,qs,hs,ps,w,rfl,_⟩:=h;rfl
 ·obtain ⟨v,f,qs,hs,ps,w,rfl,hv,hf,ew,lq,hno,hn,hir,q⟩:=h
  obtain⟨pd,v1,v2,rfl,hpd,rf,rq⟩:=hv.of2
  have rf0:=rf
  obtain⟨pf,z1,z2,z3,v6,v7,rfl,hpf,t1,t2,t3,t6,t7⟩:=zkj rf
  cases t1 with|str _ l1=>
  cases t2 with|str _ l2=>
  cases t3 with|int _=>
  rw[ew] at t6
  refine⟨_,(zj (zdc (qv 0) (zc1 2 rfl (zz (zbO 1 c__law_forms.nd) (zz (zbO 2 c__law_forms.nd) zaT))))
   (zj (zdc (qc 1) (zc1 5 rfl (zz (zbO 3 c__law_forms.nd) (zz (zbO 4 c__law_forms.nd) (zz (zbO 5 c__law_forms.nd) (zz (zbO 6 c__law_forms.nd) (zz (zbO 7 c__law_forms.nd) zaT)))))))
   (zcB (zbm 8 (src:=[none,some 4]) o__law_forms_1 rfl rfl c__law_forms.nd (zaP (zB (zb zY (zb zaE (zb zh (zb (zB (zb (qc 3) zc)) (zb zY zc))))))) (λ_ _ _ _ _=>(zn 0 o__law_forms_1.nd)) (λ_ _ _ _ _=>za6) (λ_ _ _ _ _=>(zB (zb (qv 0) (zb (qc 1) zc)))))
   (zcB (zL 8 c__law_forms.nd (zN zbV (qv 8) (zaj (src:=[none,some 3]) o__law_forms_2 rfl rfl (zaP (zB (zb zY (zb zaE (zb (qc 3) (zb (za1 (zb (qc 4) zc)) zc)))))) (λ_ _ _ _ _=>(zn 0 o__law_forms_2.nd)) (λ_ _ _ _ _=>za6) (λ_ _ _ _ _=>(zB (zb (qc 1) (zb (qv 0) zc)))))))
   (zcB (zbm 9 (src:=[none,some 7,some 5,some 6]) o__law_forms_3 rfl rfl c__law_forms.nd (zdN (qv 8)) (λ_ _ _ _ _=>(zn 0 o__law_forms_3.nd)) (λ_ _ _ _ _=>za6) (λ_ _ _ _ _=>(zB (zb (zF (zaL (K:=K) rfl) (qv 0) zh) (zb (zF (zaL (K:=K) rfl) (qv 0) zh) (zb (qc 2) (zb (qc 3) (zb (qc 1) zc))))))))
   (zcB (zL 9 c__law_forms.nd (zN zbV (qv 9) (zaj (src:=[none,some 7,some 3,some 4,some 6]) o__law_forms_4 rfl rfl (zaP (zB (zb zh (zb (zgf zcT zh) (zb zbv (zb zbv (zb zaE (zb zY (zb (zB (zb zh zc)) (zb (za1 (zb zh zc)) zc)))))))))) (λ_ _ _ _ _=>(zn 0 o__law_forms_4.nd)) (λ_ _ _ _ _=>za6) (λ_ _ _ _ _=>(zB (zb (qc 2) (zb (qc 3) (zb (qv 0) (zb (qc 4) (zb (qc 1) zc))))))))))
   (zcB (zL 10 c__law_forms.nd (zX zV Y.tuple zax (zb (zaj (src:=[none]) o__law_forms_5 rfl rfl (zp4 zY) (λ_ _ _ _ _=>(zn 0 o__law_forms_5.nd)) (λ_ _ _ _ _=>za6) (λ_ _ _ _ _=>(zN zjY zY (qv 0)))) zc)))
   (zcB (zL 11 c__law_forms.nd (zB (zb (zB zc) (zb (qv 10) (zb (zX zbT Y.list zeV (zb (qc 6) zc)) (zb zY (zb zh (zb zbv (zb (zN zed (zgM zdy (qc 6) zc5 (zcy (zgf zcT zh))) (zB (zb zaE zc))) (zb zil zc))))))))))
   (zcB (zL 9 c__law_forms.nd (zN zbV (qv 9) (zaj (src:=[none,some 7,some 5,some 3,some 4]) o__law_forms_6 rfl rfl (zaP (qv 11)) (λ_ _ _ _ _=>(zn 0 o__law_forms_6.nd)) (λ_ _ _ _ _=>za6) (λ_ _ _ _ _=>(zB (zb (qc 3) (zb (qc 4) (zb (qc 2) (zb (qv 0) (zb (qc 1) zc))))))))))
   (zcB (zL 12 c__law_forms.nd (zB (zb zaE (zb (zX zbT Y.list zeV (zb (qc 7) zc)) (zb (zB (zb zY zc)) (zb (zB (zb zh zc)) (zb (zN zlF (zB (zb zY zc)) zh) (zb zY (zb (zB (zb zaE zc)) (zb zil zc))))))))))
   (zcB (zL 9 c__law_forms.nd (zN zbV (qv 9) (zaj (src:=[none,some 5,some 3,some 4,some 6]) o__law_forms_7 rfl rfl (zaP (qv 12)) (λ_ _ _ _ _=>(zn 0 o__law_forms_7.nd)) (λ_ _ _ _ _=>za6) (λ_ _ _ _ _=>(zB (zb (qc 2) (zb (qc 3) (zb (qc 1) (zb (qc 4) (zb (qv 0) zc))))))))))
   (zcB (zL 9 c__law_forms.nd (zN zbV (qv 9) (za1 (zb (zB (zb (qc 3) (zb (qc 4) (zb (qc 5) (zb zaE (zb (zB (zb zY zc)) zc)))))) (zb (zB (zb (qc 3) (zb (qc 4) (zb (qc 5) (zb zaE (zb (za1 zc) zc)))))) (zb (zgM zdy (qc 1) zc5 (zcy zh)) (zb (zN zed (qc 1) (zB (zb (zB zc) zc))) zc)))))))
   (zcB (zbm 13 (src:=[none,some 2]) o__law_forms_8 rfl rfl c__law_forms.nd (zdN (zN zbV (qv 9) (za1 (zb (zX zbT Y.list zeV (zb (qc 1) zc)) (zb zaE (zb (zB zc) zc)))))) (λ_ _ _ _ _=>(zn 0 o__law_forms_8.nd)) (λ_ _ _ _ _=>za6) (λ_ _ _ _ _=>(zB (zb (qv 0) (zb (qc 1) zc)))))
   (zcB (zL 13 c__law_forms.nd (zN zbV (qv 13) (zaj (src:=[none,some 1]) o__law_forms_9 rfl rfl (zaP (zB (zb zaE (zb (zX zbT Y.list zeV (zb (qc 2) zc)) (zb (zN zed (qc 2) (zB (zb zaE zc))) (zb (zN zlF (zB (zb (qc 1) zc)) zh) (zb zil (zb zY (zb (qc 1) (zb zh zc)))))))))) (λ_ _ _ _ _=>(zn 0 o__law_forms_9.nd)) (λ_ _ _ _ _=>za6) (λ_ _ _ _ _=>(zB (zb (qc 1) (zb (qv 0) zc)))))))
   (zl (zA (zN zbV (qv 13) (za1 (zb (zB (zb (qc 1) zc)) (zb (zB (zb (qc 1) (zb (qc 2) (zb (zB zc) zc)))) (zb (za1 (zb (qc 1) (zb (qc 2) zc))) (zb (qc 1) (zb (qc 2) (zb (zB (zb (qc 2) (zb (qc 1) zc))) (zb (zB (zb zaE (zb zaE zc))) zc))))))))))))))))))))))))),?_⟩
  refine⟨_,rfl,pd,_,rfl, .inl (.inl hpd),rfl,_,_,rfl,_,_,rfl,rfl,?_⟩
  refine⟨_,rfl,pf,_,rfl, .inl (.inl hpf),rfl,_,_,rfl,_,_,rfl,_,_,rfl,_,_,rfl,_,_,rfl,rfl,?_⟩
  have nb:∀x:Str,x="nowhere"->zC hs (.str x)=false:=λx hx=>zi5 λy hy=>by cases hy;rw[hx];exact hno
  have S1:=Same.refl H
  refine⟨FS (.ref pd) (.ref pf) v2 v6 v7 f H (λo8 _ _ _ _ _ H'=>∃l vs ds,o8=some (.ref l)/\H' l=some (.lst vs)/\RepL H' vs ds/\ds.length=5/\∀d∈ds,∃a b,d= .tup [a,b]/\∀n w m,zo hs ps (.tup [a,b,n,w,m])=false),?_,?_⟩
  ·refine zis (zd8 (σr:=[some (.str f.to)]) (f:=λd=> .tup [d, .str f.to]) (zE (ze (zaU (Nat.le_of_ble_eq_true rfl)) (ze zaS (ze zcE (ze (zE (ze (zt rfl (.str _ l1)) zp) (Nat.le_of_ble_eq_true rfl)) (ze (zaU (Nat.le_of_ble_eq_true rfl)) zp))))) (Nat.le_of_ble_eq_true rfl)) (Nat.le_of_ble_eq_true rfl) rfl (λx d H1 s1 rx hd=>zE (ze (zt rfl rx) (ze (zt rfl (.str _ l2)) zp)) (Nat.le_of_ble_eq_true rfl))) λl vs H2 s2 e2 r2=>?_
   refine⟨_,_,_,_,_,_,rfl,⟨l,vs,_,rfl,e2,r2,rfl,λd hd=>?_⟩,s2⟩
   obtain⟨e,he,rfl⟩:=List.mem_map.mp hd
   refine⟨_,_,rfl,λn w m=>zr8 ?_⟩
   simp only[List.mem_cons,List.not_mem_nil,or_false] at he
   rcases he with rfl|rfl|rfl|rfl|rfl
   ·exact nb _ rfl
   ·rfl
   ·rfl
   ·rfl
   ·exact zi5 λy hy hm=>by cases hy;exact absurd (hn _ hm) (by decide +kernel)
  rintro σ' H1 ⟨o8,o9,o10,o11,o12,o13,rfl,⟨l,vs,ds,rfl,e1,r1,n1,b1⟩,S1⟩
  refine⟨FS (.ref pd) (.ref pf) v2 v6 v7 f H (λo8 _ _ _ _ _ H'=>∃l vs ds,o8=some (.ref l)/\H' l=some (.lst vs)/\RepL H' vs ds/\ds.length=9/\∀d∈ds,∃a b,d= .tup [a,b]/\∀n w m,zo hs ps (.tup [a,b,n,w,m])=false),?_,?_⟩
  ·refine zis (zoc (zkn rfl e1 r1) (zd8 (σr:=[some (.str f.one)]) (f:=λd=> .tup [.str f.one,d]) (zE (ze (zaU (Nat.le_of_ble_eq_true rfl)) (ze zaS (ze (zt rfl (.str _ l1)) (ze (zfZ (ze (zt rfl (.str _ l2)) zp) (Nat.le_of_ble_eq_true rfl)) zp)))) (Nat.le_of_ble_eq_true rfl)) (Nat.le_of_ble_eq_true rfl) rfl (λx d H1 s1 rx hd=>(zE (ze (zt rfl (.str _ l1)) (ze (zt rfl rx) zp)) (Nat.le_of_ble_eq_true rfl)))) (by rw[n1];exact Nat.le_of_ble_eq_true rfl)) λl vs H2 s2 e2 r2=>?_
   refine⟨_,_,_,_,_,_,rfl,⟨l,vs,_,rfl,e2,r2,by rw[List.length_append,n1];rfl,λd hd=>?_⟩,S1.trans s2⟩
   rcases List.mem_append.mp hd with hd|hd
   ·exact b1 d hd
   obtain⟨e,he,rfl⟩:=List.mem_map.mp hd
   refine⟨_,_,rfl,λn w m=>?_⟩
   simp only[List.mem_cons,List.not_mem_nil,or_false] at he
   rcases he with rfl|rfl|rfl|rfl
   ·exact znI (nb _ rfl)
   ·exact znI rfl
   ·exact zr4 (decide_eq_false hir)
   ·exact znI rfl
  rintro σ' H1 ⟨o8,o9,o10,o11,o12,o13,rfl,⟨l,vs,ds,rfl,e1,r1,n1,b1⟩,S1⟩
  refine⟨FS (.ref pd) (.ref pf) v2 v6 v7 f H (λ_ o9 _ _ _ _ H'=>∃l,o9=some (.ref l)/\BadL (zo hs ps) H' l 9),?_,?_⟩
  ·refine zis (zjS (σr:=[some v7,some (.int f.nr),some v6]) (f:=pr5 (.int f.nr) (wyD (some w)) (tD f.marks)) (zkn rfl e1 r1) (by rw[n1];exact Nat.le_of_ble_eq_true rfl) rfl (λx d H2 s2 rx hd=>?_)) λl vs H2 s2 e2 r2=>?_
   ·obtain ⟨a,b,rfl,_⟩:=b1 d hd
    exact(zE (ze (zo4 rfl rx) (ze (zpp (n:=1) rfl rx rfl) (ze (zt rfl (.int _)) (ze (zt rfl (t6.same (S1.trans s2))) (ze (zt rfl (t7.same (S1.trans s2))) zp))))) (Nat.le_of_ble_eq_true rfl))
   refine⟨_,_,_,_,_,_,rfl,⟨l,rfl,vs,_,e2,r2,by rw[List.length_map,n1];exact Nat.le_refl _,λd hd=>?_⟩,S1.trans s2⟩
   obtain⟨e,he,rfl⟩:=List.mem_map.mp hd
   obtain⟨a,b,rfl,hb⟩:=b1 e he
   exact hb _ _ _
  rintro σ' H1 ⟨o8,o9,o10,o11,o12,o13,rfl,⟨l,rfl,b1⟩,S1⟩
  refine⟨FS (.ref pd) (.ref pf) v2 v6 v7 f H (λ_ o9 _ _ _ _ H'=>∃l,o9=some (.ref l)/\BadL (zo hs ps) H' l 17),?_,?_⟩
  ·refine zeb (n:=8) rfl b1 (zd8 (σr:=[some v7,some (.str f.one),some (.str f.to),some v6]) (f:=λd=> .tup [.str f.one, .str f.to,d,wyD (some w),tD f.marks]) (zE (ze zcE (ze zh7 (ze zeu (ze zeu (ze zaS (ze (zaU (Nat.le_of_ble_eq_true rfl)) (ze (zE (ze zcE zp) (Nat.le_of_ble_eq_true rfl)) (ze (zfZ (ze zcE zp) (Nat.le_of_ble_eq_true rfl)) zp)))))))) (Nat.le_of_ble_eq_true rfl)) (Nat.le_of_ble_eq_true rfl) rfl (λx d H2 s2 rx hd=>(zE (ze (zt rfl (.str _ l1)) (ze (zt rfl (.str _ l2)) (ze (zt rfl rx) (ze (zt rfl (t6.same (S1.trans s2))) (ze (zt rfl (t7.same (S1.trans s2))) zp))))) (Nat.le_of_ble_eq_true rfl)))) rfl (λd hd=>?_) (Nat.le_of_ble_eq_true rfl) λl H2 hl s2 b2=>⟨_,_,_,_,_,_,rfl,⟨l,rfl,b2⟩,S1.trans s2⟩
   obtain⟨e,he,rfl⟩:=List.mem_map.mp hd
   refine zrW ?_
   simp only[List.mem_cons,List.not_mem_nil,or_false] at he
   rcases he with rfl|rfl|rfl|rfl|rfl|rfl|rfl|rfl<;>rfl
  rintro σ' H1 ⟨o8,o9,o10,o11,o12,o13,rfl,⟨l,rfl,b1⟩,S1⟩
  refine⟨FS (.ref pd) (.ref pf) v2 v6 v7 f H (λ_ o9 o10 _ _ _ H'=>(∃l,o9=some (.ref l)/\BadL (zo hs ps) H' l 17)/\∃v10 es,o10=some v10/\Rep H' v10 (.tup es)/\es.length=11),?_,?_⟩
  ·refine ⟨_,rfl,?_⟩
   refine znG (f:=λc=>"aa"++⟨#[c]⟩) (σr:=[]) (Nat.le_of_ble_eq_true rfl) rfl (λc=>?_) (λc H1 Q1 h1=>⟨_,rfl,_,_,rfl,rfl,?_,h1⟩) λl1 us1 ds1 H2 s2 hl1 e2 r2 n1=>?_
   ·show ("aa"++(⟨#[c]⟩:Str)).cps.size<=1000
    have:("aa"++(⟨#[c]⟩:Str)).cps.size=("aa":Str).cps.size+1:=Array.size_append
    rw[this]
    exact Nat.le_of_ble_eq_true rfl
   ·exact Nat.le_of_ble_eq_true rfl
   refine⟨l1,us1,rfl, .inl ⟨SqL.of e2,λp2 hp2=>?_⟩⟩
   have n11:ds1.length=11:=n1
   have S2:=s2.trans (Same.new (o:= .tup us1) hp2)
   exact⟨_,_,_,_,_,_,rfl,⟨⟨l,rfl,b1.same S2⟩,_,ds1,rfl, .mkL zd (by omega) (r2.mono (.new hp2)),n11⟩,S1.trans S2⟩
  rintro σ' H1 ⟨o8,o9,o10,o11,o12,o13,rfl,⟨⟨l,rfl,b1⟩,v10,es,rfl,r10,n10⟩,S1⟩
  refine⟨FS (.ref pd) (.ref pf) v2 v6 v7 f H (λ_ o9 _ o11 _ _ H'=>(∃l,o9=some (.ref l)/\BadL (zo hs ps) H' l 17)/\∃v11 es,o11=some v11/\Rep H' v11 (.tup es)/\es.length=8/\∀d∈es,zac d=false/\zv d 1 10=false),?_,?_⟩
  ·refine zqq (d:= .tup [.tup [], .tup es, .oth, .str "goal", .int 0, .bl true, .tup ((w.map D.str).take ((w.map D.str).length -1)++ [.non]), .oth]) (zE (ze (zE zp (Nat.le_of_ble_eq_true rfl)) (ze (zt rfl r10) (ze (zd4 rfl (t6.same S1)) (ze (zaU (Nat.le_of_ble_eq_true rfl)) (ze zcE (ze zeu (ze (zgR (znW rfl (t6.same S1)) (zE (ze zaS zp) (Nat.le_of_ble_eq_true rfl)) (by have:=(hf.way w ew).2.1;rw[List.length_take,List.length_map];show _+1<=_;omega)) (ze ze2 zp)))))))) (Nat.le_of_ble_eq_true rfl)) λv11 H2 s2 r2=>⟨_,_,_,_,_,_,rfl,⟨⟨l,rfl,b1.same s2⟩,v11,_,rfl,r2,rfl,λd hd=>?_⟩,S1.trans s2⟩
   simp only[List.mem_cons,List.not_mem_nil,or_false] at hd
   rcases hd with rfl|rfl|rfl|rfl|rfl|rfl|rfl|rfl
   ·exact ⟨rfl,rfl⟩
   ·refine ⟨rfl,?_⟩
    show((decide ((1:Int)<=(es.length:Int))&&decide ((es.length:Int)<=10))&&_)=false
    rw[n10];rfl
   ·exact ⟨rfl,rfl⟩
   ·exact ⟨rfl,rfl⟩
   ·exact ⟨rfl,rfl⟩
   ·exact ⟨rfl,rfl⟩
   ·refine ⟨rfl,?_⟩
    show(_&&allB zW (.tup _))=false
    rw[show RW.allB zW (.tup ((w.map D.str).take ((w.map D.str).length -1)++ [.non]))=false from RW.all_bad (d:= .non) (by simp) rfl];simp
   ·exact ⟨rfl,rfl⟩
  rintro σ' H1 ⟨o8,o9,o10,o11,o12,o13,rfl,⟨⟨l,rfl,b1⟩,v11,es,rfl,r11,n11,w11⟩,S1⟩
  refine⟨FS (.ref pd) (.ref pf) v2 v6 v7 f H (λ_ o9 _ _ _ _ H'=>∃l,o9=some (.ref l)/\BadL (zo hs ps) H' l 25),?_,?_⟩
  ·refine zeb (n:=8) rfl b1 (zd8 (σr:=[some v7,some (.int f.nr),some (.str f.one),some (.str f.to)]) (f:=λd=> .tup [.str f.one, .str f.to, .int f.nr,d,tD f.marks]) (zt rfl r11) (by rw[n11];exact Nat.le_of_ble_eq_true rfl) rfl (λx d H2 s2 rx hd=>(zE (ze (zt rfl (.str _ l1)) (ze (zt rfl (.str _ l2)) (ze (zt rfl (.int _)) (ze (zt rfl rx) (ze (zt rfl (t7.same (S1.trans s2))) zp))))) (Nat.le_of_ble_eq_true rfl)))) (by rw[List.length_map];exact n11) (λd hd=>?_) (Nat.le_of_ble_eq_true rfl) λl H2 hl s2 b2=>⟨_,_,_,_,_,_,rfl,⟨l,rfl,b2⟩,S1.trans s2⟩
   obtain⟨e,he,rfl⟩:=List.mem_map.mp hd
   exact zrU (w11 e he).1 (w11 e he).2
  rintro σ' H1 ⟨o8,o9,o10,o11,o12,o13,rfl,⟨l,rfl,b1⟩,S1⟩
  refine⟨FS (.ref pd) (.ref pf) v2 v6 v7 f H (λ_ o9 _ _ o12 _ H'=>(∃l,o9=some (.ref l)/\BadL (zo hs ps) H' l 25)/\∃v12 es,o12=some v12/\Rep H' v12 (.tup es)/\es.length=8/\∀d∈es,zv d 0 90=false),?_,?_⟩
  ·refine zqq (d:= .tup [.non, .oth, .tup [.str "if"], .tup [.int 7], .tup (List.replicate (91:Int).toNat [D.str "a"]).flatten, .str "a", .tup [.non], .oth]) (zE (ze zaS (ze (zd4 rfl (t7.same S1)) (ze (zE (ze (zaU (Nat.le_of_ble_eq_true rfl)) zp) (Nat.le_of_ble_eq_true rfl)) (ze (zE (ze zcE zp) (Nat.le_of_ble_eq_true rfl)) (ze (zkT (zE (ze (zaU (Nat.le_of_ble_eq_true rfl)) zp) (Nat.le_of_ble_eq_true rfl)) (by intro z;cases z) (by decide) (by decide) (by decide) (Nat.le_of_ble_eq_true rfl)) (ze (zaU (Nat.le_of_ble_eq_true rfl)) (ze (zE (ze zaS zp) (Nat.le_of_ble_eq_true rfl)) (ze ze2 zp)))))))) (Nat.le_of_ble_eq_true rfl)) λv12 H2 s2 r2=>⟨_,_,_,_,_,_,rfl,⟨⟨l,rfl,b1.same s2⟩,v12,_,rfl,r2,rfl,λd hd=>?_⟩,S1.trans s2⟩
   simp only[List.mem_cons,List.not_mem_nil,or_false] at hd
   rcases hd with rfl|rfl|rfl|rfl|rfl|rfl|rfl|rfl
   ·rfl
   ·rfl
   ·decide +kernel
   ·rfl
   ·decide +kernel
   ·rfl
   ·rfl
   ·rfl
  rintro σ' H1 ⟨o8,o9,o10,o11,o12,o13,rfl,⟨⟨l,rfl,b1⟩,v12,es,rfl,r12,n12,w12⟩,S1⟩
  refine⟨FS (.ref pd) (.ref pf) v2 v6 v7 f H (λ_ o9 _ _ _ _ H'=>∃l,o9=some (.ref l)/\BadL (zo hs ps) H' l 33),?_,?_⟩
  ·refine zeb (n:=8) rfl b1 (zd8 (σr:=[some (.int f.nr),some (.str f.one),some (.str f.to),some v6]) (f:=λd=> .tup [.str f.one, .str f.to, .int f.nr,wyD (some w),d]) (zt rfl r12) (by rw[n12];exact Nat.le_of_ble_eq_true rfl) rfl (λx d H2 s2 rx hd=>(zE (ze (zt rfl (.str _ l1)) (ze (zt rfl (.str _ l2)) (ze (zt rfl (.int _)) (ze (zt rfl (t6.same (S1.trans s2))) (ze (zt rfl rx) zp))))) (Nat.le_of_ble_eq_true rfl)))) (by rw[List.length_map];exact n12) (λd hd=>?_) (Nat.le_of_ble_eq_true rfl) λl H2 hl s2 b2=>⟨_,_,_,_,_,_,rfl,⟨l,rfl,b2⟩,S1.trans s2⟩
   obtain⟨e,he,rfl⟩:=List.mem_map.mp hd
   exact zr2 (w12 e he)
  rintro σ' H1 ⟨o8,o9,o10,o11,o12,o13,rfl,⟨l,rfl,b1⟩,S1⟩
  refine⟨FS (.ref pd) (.ref pf) v2 v6 v7 f H (λ_ o9 _ _ _ _ H'=>∃l,o9=some (.ref l)/\BadL (zo hs ps) H' l 37),?_,?_⟩
  ·refine zeb (n:=4) (es:=[.tup [.str f.one, .str f.to, .int f.nr, .non, .tup [.str "a"]], .tup [.str f.one, .str f.to, .int f.nr, .non, .oth], .tup ([.str f.one, .str f.to, .int f.nr,wyD f.way,tD f.marks].take 4), .tup ([.str f.one, .str f.to, .int f.nr,wyD f.way,tD f.marks]++ [.tup []])]) rfl b1 (zkK (ze (zE (ze (zt rfl (.str _ l1)) (ze (zt rfl (.str _ l2)) (ze (zt rfl (.int _)) (ze zaS (ze (zE (ze (zaU (Nat.le_of_ble_eq_true rfl)) zp) (Nat.le_of_ble_eq_true rfl)) zp))))) (Nat.le_of_ble_eq_true rfl)) (ze (zE (ze (zt rfl (.str _ l1)) (ze (zt rfl (.str _ l2)) (ze (zt rfl (.int _)) (ze zaS (ze (zfZ zp (Nat.zero_le _)) zp))))) (Nat.le_of_ble_eq_true rfl)) (ze (zlP (n:=4) rfl (rf0.same S1)) (ze (zgR (zt rfl (rf0.same S1)) (zE (ze (zE zp (Nat.le_of_ble_eq_true rfl)) zp) (Nat.le_of_ble_eq_true rfl)) (Nat.le_of_ble_eq_true rfl)) zp)))) (Nat.le_of_ble_eq_true rfl)) rfl (λd hd=>?_) (Nat.le_of_ble_eq_true rfl) λl H2 hl s2 b2=>⟨_,_,_,_,_,_,rfl,⟨l,rfl,b2⟩,S1.trans s2⟩
   simp only[List.mem_cons,List.not_mem_nil,or_false] at hd
   rcases hd with rfl|rfl|rfl|rfl
   ·exact zqc rfl
   ·exact zqc rfl
   ·rfl
   ·rfl
  rintro σ' H1 ⟨o8,o9,o10,o11,o12,o13,rfl,⟨l,rfl,b1⟩,S1⟩
  refine⟨FS (.ref pd) (.ref pf) v2 v6 v7 f H (λ_ _ _ _ _ o13 H'=>∃l,o13=some (.ref l)/\BadL (zK hs ps) H' l 40),?_,?_⟩
  ·obtain ⟨vs9,ds9,e9,r9,n9,b9⟩:=b1
   refine zis (zjS (σr:=[some v2]) (f:=λd=> .tup [d, .tup (qs.map ppD)]) (zoc (es:=[.oth, .non, .tup []]) (zkn rfl e9 r9) (zkK (ze (zd4 rfl (rf0.same S1)) (ze zaS (ze (zE zp (Nat.le_of_ble_eq_true rfl)) zp))) (Nat.le_of_ble_eq_true rfl)) (by show _+3<=_;omega)) (by rw[List.length_append];show _+3<=_;omega) rfl (λx d H2 s2 rx hd=>(zE (ze (zt rfl rx) (ze (zt rfl (rq.same (S1.trans s2))) zp)) (Nat.le_of_ble_eq_true rfl)))) λl vs H2 s2 e2 r2=>?_
   refine⟨_,_,_,_,_,_,rfl,⟨l,rfl,vs,_,e2,r2,by rw[List.length_map,List.length_append];show _+3<=_;omega,λd hd=>?_⟩,S1.trans s2⟩
   obtain⟨e,he,rfl⟩:=List.mem_map.mp hd
   refine zeZ ?_
   rcases List.mem_append.mp he with he|he
   ·exact b9 e he
   simp only[List.mem_cons,List.not_mem_nil,or_false] at he
   rcases he with rfl|rfl|rfl<;>rfl
  rintro σ' H1 ⟨o8,o9,o10,o11,o12,o13,rfl,⟨l,rfl,b1⟩,S1⟩
  refine⟨FS (.ref pd) (.ref pf) v2 v6 v7 f H (λ_ _ _ _ _ o13 H'=>∃l,o13=some (.ref l)/\BadL (zK hs ps) H' l 48),?_,?_⟩
  ·refine zeb (n:=8) rfl b1 (zd8 (ds:=[.non, .oth, .tup (qs.map ppD ++ [.non]), .tup (List.replicate (11:Int).toNat [ppD f]).flatten, .oth, .str "",ppD f, .int 0]) (σr:=[some (.ref pf)]) (f:=λd=> .tup [ppD f,d]) (zE (ze zaS (ze (zd4 rfl (rq.same S1)) (ze (zgR (zt rfl (rq.same S1)) (zE (ze zaS zp) (Nat.le_of_ble_eq_true rfl)) (by rw[List.length_map];show _+1<=_;omega)) (ze (zkT (zE (ze (zt rfl (rf0.same S1)) zp) (Nat.le_of_ble_eq_true rfl)) (by intro z;cases z) (by decide) (by decide) (Nat.le_of_ble_eq_true rfl) (Nat.le_of_ble_eq_true rfl)) (ze ze2 (ze (zaU (Nat.le_of_ble_eq_true rfl)) (ze (zt rfl (rf0.same S1)) (ze zcE zp)))))))) (Nat.le_of_ble_eq_true rfl)) (Nat.le_of_ble_eq_true rfl) rfl (λx d H2 s2 rx hd=>(zE (ze (zt rfl (rf0.same (S1.trans s2))) (ze (zt rfl rx) zp)) (Nat.le_of_ble_eq_true rfl)))) rfl (λd hd=>?_) (Nat.le_of_ble_eq_true rfl) λl H2 hl s2 b2=>⟨_,_,_,_,_,_,rfl,⟨l,rfl,b2⟩,S1.trans s2⟩
   obtain⟨e,he,rfl⟩:=List.mem_map.mp hd
   simp only[List.mem_cons,List.not_mem_nil,or_false] at he
   rcases he with rfl|rfl|rfl|rfl|rfl|rfl|rfl|rfl
   ·rfl
   ·rfl
   ·exact zce (by rw[List.all_append];show(_&&(zo hs ps .non&&true))=false;simp[zo])
   ·show (_&&(decide (_<=10)&&_))=false
    rw[decide_eq_false (by show¬11<=10;decide)];simp
   ·rfl
   ·rfl
   ·exact zd2
   ·rfl
  rintro σ' H1 ⟨o8,o9,o10,o11,o12,o13,rfl,⟨l,rfl,b1⟩,S1⟩
  refine zeb (n:=7) (es:=[.tup [ppD f], .tup [ppD f, .tup (qs.map ppD), .tup []], .oth,ppD f, .tup (qs.map ppD), .tup [.tup (qs.map ppD),ppD f], .tup [.non, .non]]) rfl b1 (zkK (ze (zE (ze (zt rfl (rf0.same S1)) zp) (Nat.le_of_ble_eq_true rfl)) (ze (zE (ze (zt rfl (rf0.same S1)) (ze (zt rfl (rq.same S1)) (ze (zE zp (Nat.le_of_ble_eq_true rfl)) zp))) (Nat.le_of_ble_eq_true rfl)) (ze (zfZ (ze (zt rfl (rf0.same S1)) (ze (zt rfl (rq.same S1)) zp)) (Nat.le_of_ble_eq_true rfl)) (ze (zt rfl (rf0.same S1)) (ze (zt rfl (rq.same S1)) (ze (zE (ze (zt rfl (rq.same S1)) (ze (zt rfl (rf0.same S1)) zp)) (Nat.le_of_ble_eq_true rfl)) (ze (zE (ze zaS (ze zaS zp)) (Nat.le_of_ble_eq_true rfl)) zp))))))) (Nat.le_of_ble_eq_true rfl)) rfl (λd hd=>?_) (Nat.le_of_ble_eq_true rfl) λl H2 hl s2 b2=>q l H2 (zcF S1 hl) (let⟨vs,ds,e,r,n,b⟩:=b2;⟨vs,ds,e,r,Nat.le_trans n (Nat.le_of_ble_eq_true rfl),b⟩) (S1.trans s2)
  simp only[List.mem_cons,List.not_mem_nil,or_false] at hd
  rcases hd with rfl|rfl|rfl|rfl|rfl|rfl|rfl
  ·rfl
  ·rfl
  ·rfl
  ·rfl
  ·exact ziD
  ·exact zd2
  ·rfl
end
section
variable{P:Program}{w:World}{K:PySem.W.Frag}{mg:Str->Option Value}{base:Heap}
theorem zft:∀w:List Str,zbQ (w.map D.str)=w.length
 |[]=>rfl
 |x::w=>by show 1+zbQ (w.map D.str)=_;rw[zft w,List.length_cons];omega
theorem zk7{hs:List Str}{ps:List (Str×Str)}{p:Pp}(h:PpOk hs ps p):zah (ppD p)<=200:=by
 have h1:zah (wyD p.way)<=11:=by
  cases e:p.way with
  |none=>exact Nat.le_of_ble_eq_true rfl
  |some w=>show 1+zbQ (w.map D.str)<=11;rw[zft];have:=(h.way w e).2.1;omega
 have h2:zah (tD p.marks)<=91:=by show 1+zbQ (p.marks.map D.str)<=91;rw[zft];have:=h.ml;omega
 show 1+(1+(1+(1+(zah (wyD p.way)+(zah (tD p.marks)+0)))))<=200
 omega
theorem ziF{hs:List Str}{ps:List (Str×Str)}:∀{qs:List Pp},(∀q∈qs,PpOk hs ps q)->zbQ (qs.map ppD)<=200*qs.length
 |[],_=>Nat.le_refl _
 |q::qs,h=>by
  have h1:=zk7 (h q List.mem_cons_self)
  have h2:=ziF (qs:=qs) λq hq=>h q (List.mem_cons_of_mem _ hq)
  show zah (ppD q)+zbQ (qs.map ppD)<=_
  rw[List.length_cons];omega
theorem zmh{hs:List Str}{ps:List (Str×Str)}{f:Pp}{qs:List Pp}(h:∀p∈f::qs,PpOk hs ps p)(l:qs.length<=10):0<zah (zby f qs)/\zah (zby f qs)<=3000:=by
 have h1:=zk7 (h f List.mem_cons_self)
 have h2:=ziF (qs:=qs) λq hq=>h q (List.mem_cons_of_mem _ hq)
 have e:zah (zby f qs)=1+(zah (ppD f)+(1+zbQ (qs.map ppD)+0)):=rfl
 omega
theorem zgA{n:Nat}{d:D}(h:∀ds,d≠ .tup ds):Dp (n+1) d:=λds e=>(h ds e).elim
theorem zlh{n:Nat}{w:List Str}(h:w.length<=900):Dp (n+2) (tD w):=λds e=>by
 cases e
 refine⟨by rw[List.length_map];exact h,λe he=>?_⟩
 obtain⟨x,_,rfl⟩:=List.mem_map.mp he
 exact zgA λds z=>by cases z
theorem zql{hs:List Str}{ps:List (Str×Str)}{n:Nat}{p:Pp}(h:PpOk hs ps p):Dp (n+3) (ppD p):=λds e=>by
 cases e
 refine⟨Nat.le_of_ble_eq_true rfl,λe he=>?_⟩
 simp only[List.mem_cons,List.not_mem_nil,or_false] at he
 rcases he with rfl|rfl|rfl|rfl|rfl
 ·exact zgA λds z=>by cases z
 ·exact zgA λds z=>by cases z
 ·exact zgA λds z=>by cases z
 ·cases ew:p.way with
  |none=>exact zgA λds z=>by cases z
  |some w=>exact zlh (by have:=(h.way w ew).2.1;omega)
 ·exact zlh (by have:=h.ml;omega)
theorem zk5{hs:List Str}{ps:List (Str×Str)}{f:Pp}{qs:List Pp}(h:∀p∈f::qs,PpOk hs ps p)(l:qs.length<=10):Dp 6 (zby f qs):=λds e=>by
 cases e
 refine⟨Nat.le_of_ble_eq_true rfl,λe he=>?_⟩
 simp only[List.mem_cons,List.not_mem_nil,or_false] at he
 rcases he with rfl|rfl
 ·exact zql (h f List.mem_cons_self)
 ·intro ds e
  cases e
  refine⟨by rw[List.length_map];omega,λe he=>?_⟩
  obtain⟨p,hp,rfl⟩:=List.mem_map.mp he
  exact zql (h p (List.mem_cons_of_mem _ hp))
theorem zo9{g:Str}{hs:List Str}{ps:List (Str×Str)}{lks hds:List D}(T:TownOk g hs ps lks hds){x:Str}:x∉zaD ps x:=λh=>by
 have hx:(x,x)∈ps:=(mem_nbrs.mp h).elim id id
 have:=(T.ties _ hx).2.2
 rw[zf2] at this
 cases this
def WL(g:Str)(hs:List Str)(ps:List (Str×Str))(lks hds:List D)(H:Hp)(l:Addr)(m:Nat):Prop:=∃vs ds,H l=some (.lst vs)/\RepL H vs ds/\ds.length<=m/\∀d∈ds,zfv g hs ps lks hds d
theorem WL.mk{g:Str}{hs:List Str}{ps:List (Str×Str)}{lks hds:List D}{H:Hp}{l:Addr}{m:Nat}(b:BadL (zK hs ps) H l m):WL g hs ps lks hds H l m:=let⟨vs,ds,e,r,n,b⟩:=b;⟨vs,ds,e,r,n,λd hd=> .inl (b d hd)⟩
theorem WL.keep{g:Str}{hs:List Str}{ps:List (Str×Str)}{lks hds:List D}{H H':Hp}{a l:Addr}{m:Nat}{i j:Int}(b:WL g hs ps lks hds H l m)(k:Keep a H H')(nl:l≠a)(h1:Hand H a i)(h2:Hand H' a j):WL g hs ps lks hds H' l m:=let⟨vs,ds,e,r,n,b⟩:=b;⟨vs,ds,k _ _ nl e,r.mono (.keep k h1 h2),n,b⟩
theorem WL.same{g:Str}{hs:List Str}{ps:List (Str×Str)}{lks hds:List D}{H H':Hp}{l:Addr}{m:Nat}(b:WL g hs ps lks hds H l m)(s:Same H H'):WL g hs ps lks hds H' l m:=let⟨vs,ds,e,r,n,b⟩:=b;⟨vs,ds,s _ _ e,r.mono (.of s),n,b⟩
theorem zpD{H:Hp}{v:V}{d:D}{q:Addr}{Q:VK}(r:Rep H v d)(ok:okD d=true)(hq:H q=some (.tup []))(k:Q (.bl (!zfs d)) H):zpt v (.ref q) H Q:=
 ⟨_,_,zlH r ok,zeK hq,Nat.le_trans (Nat.min_le_right _ _) (by decide +kernel),by rw[zlu d ok];exact k⟩
theorem zix:∀{w:List Str},(∀x∈w,zi x=true)->okL (w.map D.str)=true
 |[],_=>rfl
 |x::w,h=>by show(PyData.strOk x&&okL (w.map D.str))=true;rw[zI (h x List.mem_cons_self),zix λy hy=>h y (List.mem_cons_of_mem _ hy)];rfl
theorem zqA{hs:List Str}{ps:List (Str×Str)}(hn:∀x∈hs,zi x=true){p:Pp}(h:PpOk hs ps p):okD (ppD p)=true:=by
 have h1:okD (wyD p.way)=true:=by
  cases e:p.way with
  |none=>rfl
  |some w=>exact zix (h.way w e).2.2
 have h2:okD (tD p.marks)=true:=zix h.mnm
 show(PyData.strOk p.one&&(PyData.strOk p.to&&(true&&(okD (wyD p.way)&&(okD (tD p.marks)&&true)))))=true
 rw[zI (hn _ h.one),zI (hn _ h.to),h1,h2];rfl
theorem zlM{hs:List Str}{ps:List (Str×Str)}(hn:∀x∈hs,zi x=true):∀{qs:List Pp},(∀q∈qs,PpOk hs ps q)->okL (qs.map ppD)=true
 |[],_=>rfl
 |q::qs,h=>by show(okD (ppD q)&&okL (qs.map ppD))=true;rw[zqA hn (h q List.mem_cons_self),zlM hn λy hy=>h y (List.mem_cons_of_mem _ hy)];rfl
theorem zsb{σ:L2.St}{HE:Hp}{vo v':V}{d:D}{f:Pp}{qs:List Pp}{k:Bool->Hp->Prop}(h10:σ[10]?=some (some vo))(h7:σ[7]?=some (some v'))(od:Rep HE vo d)(rv:Rep HE v' (zby f qs))(okq:okD (.tup (qs.map ppD))=true)(hk:∀b HF,Same HE HF->(b=true->zif d=false/\(d= .non->qs≠ []))->k b HF):
 zrc (zqS (tB (tCB (λxs H_1 Q=>∃x T t b,xs=[x,V.ty T]/\TyOf K H_1 x t/\PySem.W.kitOne K t (.type T)=some b/\Q (.bl b) H_1) (zdG (zc7 10) (zdG (tC (.ty "int")) zgg))))) (tOr (zhu (tOp (λx y H Q=>y=V.non/\Q (.bl !decide (x=V.non)) H) (zc7 10) (tC .non))) (zhu (tOp zpt (tOp (zmq K) (zc7 7) (tC (.int 1))) (zn6 zgg)))) σ HE k:=by
 obtain⟨t,ht,_,h2,_⟩:=od.isi (K:=K)
 refine⟨_,h10,_,_,_,_,rfl,ht,h2,_,rfl,?_⟩
 cases hI:zif d with
 |true=>exact zao (by decide) (hk false HE (Same.refl _) (λz=>by cases z))
 |false=>
  refine zap rfl ⟨_,h10,rfl,_,rfl,?_⟩
  by_cases hv:vo= .non
  ·subst hv
   obtain⟨p,x,y,rfl,hp,rx,ry⟩:=rv.of2
   refine zao (by decide) ⟨_,h7,p,_,1,_,rfl,rfl, .inl (.inl hp),at1,few rfl,λq hq=>?_⟩
   have S1:=Same.new (o:= .tup []) hq
   refine zpD (ry.same S1) okq zd ⟨_,rfl,hk _ _ S1 λz=>⟨hI,λ_ e=>?_⟩⟩
   subst e
   cases z
  ·exact zap (by rw[decide_eq_false hv];rfl) (hk true HE (Same.refl _) λ_=>⟨hI,λe=>by subst e;cases od;exact(hv rfl).elim⟩)
end
section
variable{P:Program}{w:World}{K:PySem.W.Frag}{mg:Str->Option Value}{base:Heap}
theorem zpz{hs:List Str}{lks hds:List D}{to:Str}{w:List Str}{P:List Pp}(c:Ch hs lks hds to w P):∀p∈P,∃w,p.way=some w:=by
 induction c with
 |one h1 h2=>exact λp hp=>by rw[List.mem_singleton.mp hp];exact⟨_,rfl⟩
 |more h h0 h1 h2 ih=>exact λp hp=>(List.mem_cons.mp hp).elim (λe=>by rw[e];exact⟨_,rfl⟩) (ih p)
noncomputable def zk4(K:PySem.W.Frag):Sp:=λvs H Q _=>∃(a:Addr) (ns:List Int),vs=[.ref a]/\SqL K H a (ns.map V.int)/\ns.length<=63/\∀H',Q (.bl true) H'
theorem zma(Y:Ev K mg){fl:Addr}{fdl:FuncData}(FL:Fun K "law" "law" zdR fl fdl):FnOk P w K mg base CX0 8 fl fdl zk3 (zk4 K):=by
 have G__law_hand:FnOk P w K mg base CX0 1 Y.a__law_hand Y.d__law_hand zcl (zom K):=zoC Y
 have G__law_mild_town:FnOk P w K mg base CX0 5 Y.a__law_mild_town Y.d__law_mild_town zaN znQ:=zpU Y
 have G__law_some_way:FnOk P w K mg base CX0 3 Y.a__law_some_way Y.d__law_some_way za2 zhD:=zjM Y
 have G__law_near:FnOk P w K mg base CX0 2 Y.a__law_near Y.d__law_near zch zn1:=zoL Y
 have G__law_papers:FnOk P w K mg base CX0 6 Y.a__law_papers Y.d__law_papers zbw zjC:=zlR Y
 have G_is_right:FnOk P w K mg base CX0 7 Y.a_is_right Y.d_is_right zcM zlv:=zjb Y
 have G__law_forms:FnOk P w K mg base CX0 1 Y.a__law_forms Y.d__law_forms zbP zlr:=zn3 Y
 have G__law_any:FnOk P w K mg base CX0 3 Y.a__law_any Y.d__law_any zcO zqs:=zqu Y
 have G__law_size:FnOk P w K mg base CX0 7 Y.a__law_size Y.d__law_size zaQ (zgt 6):=zpK Y
 have G__law_put:FnOk P w K mg base CX0 7 Y.a__law_put Y.d__law_put zbh (zi4 6):=zqG Y
 have G__law_take:FnOk P w K mg base CX0 1 Y.a__law_take Y.d__law_take zai zdC:=zcY Y
 refine FL.okQ c_law (λvs H Q E h=>?_) (λcdv A outer s H vs Q E hr h=>?_)
 ·obtain ⟨a,ns,rfl,_⟩:=h;rfl
 ·obtain ⟨b,ns,rfl,hS,hns,q⟩:=h
  refine⟨_,(zj (zcm PassesOwn.never rfl (zb7 Y.range (zb (zx (zmn rfl) Y.max zkH (zb zh (zb (zx (zhp rfl) Y.min zin (zb zh (zb (zx zS Y.len zaO (zb (qv 0) zc)) zc))) zc))) zc)) (zn 1 c_law.nd) (zj (zL 2 c_law.nd (zk G__law_hand (hr.mono (by decide)) Y._law_hand.mg Y._law_hand.kp Y._law_hand.b .nil zr (zb (qv 0) (zb (qv 1) zc))))
   (zj (zdw 3 c_law.nd (zk G__law_mild_town (hr.mono (by decide)) Y._law_mild_town.mg Y._law_mild_town.kp Y._law_mild_town.b .nil zr (zb (qv 2) zc)))
   (zl (zcm PassesOwn.never rfl (zb7 Y.range (zb zh zc)) (zn 4 c_law.nd) (zj (zL 5 c_law.nd (zk G__law_some_way (hr.mono (by decide)) Y._law_some_way.mg Y._law_some_way.kp Y._law_some_way.b .nil zr (zb (qv 2) (zb (qc 3) zc))))
   (zl (zcm PassesOwn.never rfl (zdN (zgM zfY (zk G__law_near (hr.mono (by decide)) Y._law_near.mg Y._law_near.kp Y._law_near.b .nil zr (zb (qc 3) (zb (zF ix_tup (qv 5) zh) zc))) zc5 (zcy zh))) (zn 6 c_law.nd) (zj (zL 7 c_law.nd (zk G__law_papers (hr.mono (by decide)) Y._law_papers.mg Y._law_papers.kp Y._law_papers.b .nil zr (zb (qv 2) (zb (qc 3) (zb (qv 5) (zb (qv 6) zc))))))
   (zj (zaq (zJ zfd (qv 7) zaE) (zl zop) zT)
   (zj (zaq (zJ zhs (zk G_is_right (hr.mono (by decide)) Y.is_right.mg Y.is_right.kp Y.is_right.b .nil zr (zb (qc 3) (zb (qv 7) zc))) zbv) (zl (zA zbv)) zT)
   (zj (zL 8 c_law.nd (zk G__law_forms (hr.mono (by decide)) Y._law_forms.mg Y._law_forms.kp Y._law_forms.b .nil zr (zb (qv 7) zc)))
   (zj (zcm PassesOwn.never rfl (zb7 Y.range (zb zh zc)) (zn 9 c_law.nd) (zj (zL 10 c_law.nd (zk G__law_any (hr.mono (by decide)) Y._law_any.mg Y._law_any.kp Y._law_any.b .nil zr (zb (qv 2) zc)))
   (zl (zaq (t_w (zlE (zJ (zqz (zgQ hr)) (qv 10) (zB zc)) (zlE (zbt (za7 (zx zcR Y.isinstance zaK (zb (qv 10) (zb (zkC Y.int zev) zc))))) (zkA (t_w (zfr (zJ zlq (qv 10) zaE) (zem (zJ (zig (zgQ hr)) (zF ix_tup (qv 7) zh) (zB zc))))))))) (zl (zfm (zjw PySem.F.plainAttrs_list PySem.F.slot_list_append PySem.F.type_list_append zbH (qv 8) (zb (zk G__law_put (hr.mono (by decide)) Y._law_put.mg Y._law_put.kp Y._law_put.b .nil zr (zb (qv 7) (zb (za1 (zb (zk G__law_take (hr.mono (by decide)) Y._law_take.mg Y._law_take.kp Y._law_take.b .nil zr (zb (qv 2) (zb (zk G__law_size (hr.mono (by decide)) Y._law_size.mg Y._law_size.kp Y._law_size.b .nil zr (zb (qv 7) zc)) zc))) zc)) (zb (qv 10) zc)))) zc)))) zT))))
   (zj (zaq (zbt (za7 (zx (zbM rfl) Y.all zdK (zb (zaj (src:=[none,some 3]) o_law_1 rfl rfl (zdN (zN zbV (qv 8) (za1 (zb (zk G__law_any (hr.mono (by decide)) Y._law_any.mg Y._law_any.kp Y._law_any.b .nil zr (zb (qv 2) zc)) zc)))) (λ_ _ _ _ _=>(zn 0 o_law_1.nd)) (λ_ _ _ _ _=>za6) (λ_ _ _ _ _=>(zaR zqB (zk G_is_right (hr.mono (by decide)) Y.is_right.mg Y.is_right.kp Y.is_right.b .nil zr (zb (qc 1) (zb (qv 0) zc))) zbv))) zc)))) (zl (zA zbv)) zT)
   (zl (zaq (zJ zhs (zk G_is_right (hr.mono (by decide)) Y.is_right.mg Y.is_right.kp Y.is_right.b .nil zr (zb (qc 3) (zb (qv 7) zc))) zbv) (zl (zA zbv)) zT))))))))))))))))
   (zl (zA zbv))),?_⟩
  refine⟨_,rfl, .inl ⟨b,_,rfl, .inl hS,_,_,rfl,_,_,rfl,_,rfl,?_,?_,?_⟩⟩
  ·split<;>(try split)<;>omega
  ·rw[List.length_map]
   split<;>(try split)<;>omega
  refine zbq zcv (λi σ' H'=>(∃o1 o2 o3 o4 o5 o6 o7 o8 o9 o10,σ'=[some (.ref b),o1,o2,o3,o4,o5,o6,o7,o8,o9,o10])/\Same H H') ⟨⟨_,_,_,_,_,_,_,_,_,_,rfl⟩,Same.refl H⟩ (λ_ _ _ _=>trivial) ?_ ?_
  ·rintro i y σ' H0 hi rfl ⟨⟨o1,o2,o3,o4,o5,o6,o7,o8,o9,o10,rfl⟩,s0⟩
   have hi':i<1000:=by
    refine Nat.lt_of_lt_of_le hi ?_
    rw[List.length_map]
    split<;>(try split)<;>omega
   refine⟨_,rfl,_,rfl,b,ns,_,rfl,s0.seq hS,by omega,by omega,λa H1 ha hH1 s1=>?_⟩
   refine⟨_,rfl,a,0,rfl,hH1,by decide,λv g hs ps lks hds H2 hv T hw hP hSh hH2 k2=>?_⟩
   obtain⟨O,PO,O13,On⟩:=hP
   have T10:=T.ten
   have fw:∀d∈hds,zni d=true:=λd hd=>zrx (hSh d hd)
   refine⟨3,rfl,by decide,by decide,?_⟩
   refine zbq zcv (λj σ' H'=>(∃o1 o4 o5 o6 o7 o8 o9 o10,σ'=[some (.ref b),o1,some (.ref a),some v,o4,o5,o6,o7,o8,o9,o10])/\Hand H' a (9000+200*j)/\Keep a H2 H') ⟨⟨_,_,_,_,_,_,_,_,rfl⟩,hH2.mono (by decide),Keep.refl _ _⟩ (λ_ _ _ _=>trivial) ?_ ?_
   ·rintro j y σ' H5 hj rfl ⟨⟨o1,o4,o5,o6,o7,o8,o9,o10,rfl⟩,hH5,k5⟩
    have hj4:j<3:=hj
    have hv5:=hv.mono (.keep k5 hH2 hH5)
    refine⟨_,rfl,_,rfl,a,_,v,g,hs,ps,lks,hds,rfl,hH5,by omega,hv5,T,λvw ws H6 rw6 W hH6 k6=>?_⟩
    have k26:=k5.trans k6
    have hv6:=hv5.mono (.keep k6 hH5 hH6)
    obtain⟨pw,rfl,hpw⟩:=zbs rw6
    obtain⟨w1,w2⟩:=W.len
    have wn:∀x∈ws,zi x=true:=λx hx=>T.names x (W.mem x hx)
    obtain⟨x0,wr,rfl⟩:∃x0' wr,ws=x0'::wr:=by
     match ws,w1 with
     |a::b,_=>exact ⟨a,b,rfl⟩
    have hx0:x0∈hs:=W.mem _ List.mem_cons_self
    have lw:wr.length<=9:=by rw[List.length_cons] at w2;omega
    have npw:pw≠a:=λz=>by obtain⟨_,_,_,e',_⟩:=hH6;rw[z,e'] at hpw;cases hpw
    refine⟨_,rfl,_,rfl,pw,_,0,_,rfl,rfl, .inl (.inl hpw),at0,v,x0,g,hs,ps,lks,hds,rfl,hv6,T,hx0,λl0 H7' hl0 el0 s7'=>?_⟩
    refine⟨_,rfl,l0,_,rfl,SqL.of el0,λl hl=>⟨l,rfl,⟨_,SqL.of zd⟩,?_⟩⟩
    have ect:zbu ((hs.filter λy=>decide (y∈zaD ps x0)).map V.str) none (some 2)=((hs.filter λy=>decide (y∈zaD ps x0)).take 2).map V.str:=by rw[show(2:Int)=((2:Nat):Int)from rfl,zeL,List.map_take]
    rw[ect]
    have el:(upd H7' l (.lst (((hs.filter λy=>decide (y∈zaD ps x0)).take 2).map V.str))) l=some (.lst (((hs.filter λy=>decide (y∈zaD ps x0)).take 2).map V.str)):=zd
    have s7:=s7'.trans (Same.new (o:= .lst (((hs.filter λy=>decide (y∈zaD ps x0)).take 2).map V.str)) hl)
    have nl:l≠a:=(hH6.same s7').ne hl
    generalize (upd H7' l (HO.lst (((hs.filter λy=>decide (y∈zaD ps x0)).take 2).map V.str)))=H7 at *
    have hH7:=hH6.same s7
    have hv7:=hv6.same s7
    have hpw7:=s7 _ _ hpw
    have hT:∀to∈(hs.filter (λy=>decide (y∈zaD ps x0))).take 2,to∈hs/\to∈zaD ps x0:=λto h=>by
     obtain⟨h1,h2⟩:=List.mem_filter.mp (List.mem_of_mem_take h)
     exact⟨h1,of_decide_eq_true h2⟩
    have lT:((hs.filter (λy=>decide (y∈zaD ps x0))).take 2).length<=2:=by rw[List.length_take];omega
    generalize (hs.filter (λy=>decide (y∈zaD ps x0))).take 2=ts at *
    refine zbq (zdt (K:=K) (xs:=ts.map V.str)) (λm σ' H'=>(∃o1 o6 o7 o8 o9 o10,σ'=[some (.ref b),o1,some (.ref a),some v,some (.int (0+(j:Int))),some (.ref pw),o6,o7,o8,o9,o10])/\Hand H' a (9000+200*j+10+60*m)/\Keep a H7 H') ⟨⟨_,_,_,_,_,_,rfl⟩,hH7.mono (by omega),Keep.refl _ _⟩ (λm σ' H' z=>SqL.of (z.2.2 _ _ nl el)) ?_ ?_
    ·rintro m z σ' H8 hm hz ⟨⟨o1,o6,o7,o8,o9,o10,rfl⟩,hH8,k8⟩
     rw[List.length_map] at hm
     rw[List.getElem?_map,List.getElem?_eq_getElem hm] at hz
     cases hz
     obtain⟨hto,htn⟩:=hT ts[m] (List.getElem_mem hm)
     generalize ts[m]=to at *
     have hv8:=hv7.mono (.keep k8 hH7 hH8)
     have hpw8:=k8 _ _ npw hpw7
     refine⟨_,rfl,_,rfl,_,rfl,_,rfl,a,pw,_,v,to,x0::wr,g,hs,ps,lks,hds,O,rfl,hH8,by omega,hv8,T,PO,hpw8,W,hto,λhc H9 hH9 k9=>?_,λv' f qs H9 c rv hH9 k9=>?_⟩
     ·exact ⟨_,rfl,rfl,_,rfl,zap rfl ⟨⟨_,_,_,_,_,_,rfl⟩,hH9.mono (by push_cast;omega),k8.trans k9⟩⟩
     ·have hv9:=hv8.mono (.keep k9 hH8 hH9)
      have hpw9:=k9 _ _ npw hpw8
      have hkx:∀x∈x0::wr,zds O (zad hs hds x):=λx hx=>by
       obtain⟨_,rs,_,_,er,hk⟩:=zp9 T PO (W.mem x hx)
       rw[er];exact hk
      have cM:=c.marks hkx
      have cP:=c.pp T.names T10 PO.few PO.nm W hto htn cM
      obtain⟨_,_,eh,h1',h2',ew,_,lc⟩:=c.head
      cases eh
      have lq:qs.length<=9:=by rw[List.length_cons,List.length_cons] at lc;omega
      have cw:=zpz c
      have R:=c.right (ps:=ps) T.names W rfl
      have ml:∀p∈f::qs,p.marks.length<=40:=λp hp=>Nat.le_trans ((cM p hp).toMk.len PO.few) (by decide)
      have mn:∀p∈f::qs,("nowhere":Str)∉p.marks/\p.marks.length<=40:=λp hp=>⟨λz=>On _ ((cM p hp).toMk.mem _ z) rfl,ml p hp⟩
      have hno:("nowhere":Str)∉hs:=λz=>hw _ z rfl
      have hsl:=zl2 (hs:=hs) (ps:=ps) T.names (cP f List.mem_cons_self) (λq hq=>cP q (List.mem_cons_of_mem _ hq)) (by omega)
      have nn:decide (v'=V.non)=false:=by rw[zeD rv];rfl
      refine⟨_,rfl,rfl,_,rfl,zao nn ?_⟩
      refine⟨_,rfl,_,rfl,v,v',_,g,hs,ps,lks,hds,rfl,hv9,T,fw,rv,λ_ f2 qs2 e p hp=>?_,λbb HA h1 h2 sA=>?_⟩
      ·obtain ⟨rfl,rfl⟩:=ze1 e
       exact ml p hp
      have hbb:bb=true:=by rw[h2 _ _ rfl hsl];exact R
      subst hbb
      refine⟨_,_,rfl,rfl,_,rfl,zao rfl ?_⟩
      have hHA:=hH9.same sA
      have rvA:=rv.same sA
      have hvA:=hv9.same sA
      refine⟨_,rfl,v',f,qs,hs,ps,x0::wr,rfl,rvA,cP f List.mem_cons_self,ew,by omega,hno,T.names,zo9 T,λl8 HB hl8 bl8 sB=>?_⟩
      have n8:l8≠a:=hHA.ne hl8
      refine⟨8,rfl,by decide,by decide,?_⟩
      refine zbq zcv (λi σ' H'=>(∃o9 o10,σ'=[some (.ref b),o1,some (.ref a),some v,some (.int (0+(j:Int))),some (.ref pw),some (.str to),some v',some (.ref l8),o9,o10])/\WL g hs ps lks hds H' l8 (100+i)/\Hand H' a (9000+200*j+10+60*m+10+3*i)/\Keep a HA H') ⟨⟨_,_,rfl⟩,WL.mk bl8,(hHA.same sB).mono (by omega),Keep.of sB⟩ (λ_ _ _ _=>trivial) ?_ ?_
      ·rintro i y σ' HC hi rfl ⟨⟨o9,o10,rfl⟩,wl,hHC,kC⟩
       have hi8:i<8:=hi
       refine⟨_,rfl,a,_,rfl,hHC,by omega,λvo d HD od ad hHD kD=>?_⟩
       have wlD:=wl.keep kD n8 hHC hHD
       have kAD:=kC.trans kD
       refine⟨_,rfl,few rfl,λp hp=>?_⟩
       have S1:=Same.new (o:= .tup []) hp
       have odE:=od.same S1
       have hHE:=hHD.same S1
       have wlE:=wlD.same S1
       have kAE:=kAD.trans (Keep.of S1)
       refine odE.ne p _ zd ?_
       generalize (upd HD p (HO.tup []))=HE at *
       have skip:((∃o9 o10,[some (V.ref b),o1,some (.ref a),some v,some (.int (0+(j:Int))),some (.ref pw),some (.str to),some v',some (.ref l8),some (.int (0+(i:Int))),some vo]=[some (.ref b),o1,some (.ref a),some v,some (.int (0+(j:Int))),some (.ref pw),some (.str to),some v',some (.ref l8),o9,o10])/\WL g hs ps lks hds HE l8 (100+(i+1))/\Hand HE a (9000+200*j+10+60*m+10+3*((i+1:Nat):Int))/\Keep a HA HE):=⟨⟨_,_,rfl⟩,let⟨vs,ds,e,r,n,w⟩:=wlE;⟨vs,ds,e,r,by omega,w⟩,hHE.mono (by push_cast;omega),kAE⟩
       refine⟨_,rfl,?_⟩
       cases hN:zfs d with
       |true=>exact zao rfl skip
       |false=>
        refine zap rfl ?_
        have mE:Mono HA HE:= .keep kAE hHA hHE
        have rvE:=rvA.mono mE
        refine zsb rfl rfl odE.1 rvE (zlM T.names λq hq=>cP q (List.mem_cons_of_mem _ hq)) λbb HF sF hb=>?_
        cases bb with
        |false=>exact zao (by decide) ⟨skip.1,skip.2.1.same sF,skip.2.2.1.same sF,skip.2.2.2.trans (Keep.of sF)⟩
        |true=>
         refine zap rfl ?_
         obtain⟨hI,hnn⟩:=hb rfl
         obtain⟨z0,z1⟩:=zmh cP (by omega)
         have hHF:=hHE.same sF
         have rvF:=rvE.same sF
         obtain⟨vs8,ds8,e8,r8,c8,w8⟩:=wlE
         refine⟨_,rfl, .inl ⟨rfl,vs8,SqL.of (sF _ _ e8)⟩,_,rfl,_,rfl,_,rfl,v',_,rfl,rvF,zk5 cP (by omega),λHG sG=>?_⟩
         refine⟨a,_,_,rfl,hHF.same sG,by omega,by omega,by omega,λt HI t0 t1 hHI kI=>⟨few rfl,λp3 hp3=>?_⟩⟩
         have S3:=Same.new (o:= .lst [V.int t]) hp3
         have n3:p3≠a:=hHI.ne hp3
         have mFI:Mono HF HI:=(Mono.of sG).trans (.keep kI (hHF.same sG) hHI)
         have rvI:=(rvF.mono mFI).same S3
         have roI:=((odE.1.same sF).mono mFI).same S3
         refine⟨_,rfl,v',vo,p3,_,d,t,rfl,rvI,roI,zk5 cP (by omega),zd,λv9 HJ kJ eJ rJ=>?_⟩
         have e8I:=kI _ _ n8 (sG _ _ (sF _ _ e8))
         have e8J:=kJ _ _ (zy e8I hp3) (S3 _ _ e8I)
         have mJ:Mono HE HJ:=(((Mono.of sF).trans mFI).trans (.of S3)).trans (Mono.keepL kJ zd eJ)
         have kAI:Keep a HA HI:=((kAE.trans (Keep.of sF)).trans (Keep.of sG)).trans kI
         have kAJ:Keep a HA HJ:=λc o nc ec=>kJ c o (zy (kAI c o nc ec) hp3) (S3 _ _ (kAI c o nc ec))
         have hHJ:Hand HJ a _:=let⟨x,y,z,h,r⟩:=hHI.same S3;⟨x,y,z,kJ a _ n3.symm h,r⟩
         have WJ:zfv g hs ps lks hds (zU (zby f qs) t d).1:=zmi hno (zoE ad hN hI) (zgx ad) (cP f List.mem_cons_self) (λq hq=>cP q (List.mem_cons_of_mem _ hq)) ew (λq hq=>cw q (List.mem_cons_of_mem _ hq)) W.mem mn R hnn t0 t1
         have lr8:=r8.1
         refine⟨l8,vs8,v9,rfl,rfl,e8J,zm (by omega),⟨_,_,rfl⟩,⟨_,ds8 ++ [_],zd,((r8.mono mJ).append (.cons rJ .nil)).mono (.lset e8J),by rw[List.length_append];show _+1<=_;omega,λd hd=>(List.mem_append.mp hd).elim (w8 d) λz=>by rw[List.mem_singleton.mp z];exact WJ⟩,?_,kAJ.updNew hl8⟩
         obtain⟨x,y,z,h,r⟩:=hHJ.mono (show _<=9000+200*(j:Int)+10+60*m+10+3*((i+1:Nat):Int) by push_cast;omega)
         exact⟨x,y,z,by rw[zq n8.symm];exact h,r⟩
      ·rintro σ' HC ⟨⟨o9,o10,rfl⟩,wl,hHC,kC⟩
       obtain⟨vs8,ds8,e8,r8,c8,w8⟩:=wl
       have c8:ds8.length<=108:=c8
       refine⟨_,rfl,_,rfl,a,_,rfl,hHC,by omega,λvo d HD od ad hHD kD=>⟨few rfl,λp1 hp1=>?_⟩⟩
       have S1:=Same.new (o:= .lst [vo]) hp1
       have e8D:=kD _ _ n8 e8
       have lr8:=r8.1
       refine⟨l8,p1,_,_,rfl,rfl,S1 _ _ e8D,zd,Nat.le_of_lt (zm (by show _+1<=_;omega)),λl9 hl9=>⟨l9,rfl,⟨_,SqL.of zd⟩,?_⟩⟩
       have S9:=S1.trans (Same.new (o:= .lst (vs8 ++ [vo])) hl9)
       have mC:Mono HA HC:= .keep kC hHA hHC
       have mD:Mono HC HD:= .keep kD hHC hHD
       have r9:RepL (upd (upd HD p1 (.lst [vo])) l9 (.lst (vs8 ++ [vo]))) (vs8 ++ [vo]) (ds8 ++ [d]):=RepL.mono ((r8.mono mD).append (.cons od.1 .nil)) (.of S9)
       have e9:(upd (upd HD p1 (.lst [vo])) l9 (.lst (vs8 ++ [vo]))) l9=some (.lst (vs8 ++ [vo])):=zd
       have w9:∀x∈ds8 ++ [d],zfv g hs ps lks hds x:=λx hx=>(List.mem_append.mp hx).elim (w8 x) λz=>by rw[List.mem_singleton.mp z];exact .inl (zgx ad)
       generalize (upd (upd HD p1 (HO.lst [vo])) l9 (HO.lst (vs8 ++ [vo])))=HE at *
       have hvE:=((hvA.mono mC).mono mD).same S9
       have rvE:=((rvA.mono mC).mono mD).same S9
       have hHE:=hHD.same S9
       refine zdu (g:=λ_=>true) (σr:=[some v]) (zdt (K:=K)) (λH' s=>SqL.of (s _ _ e9)) r9 (by rw[List.length_append];show _+1<=_;omega) rfl (λx d HX Q1 sX rx hd q1=>?_) (λl6 HX sX _ hl6=>?_)
       ·have wd:=w9 d hd
        refine⟨_,rfl,_,rfl,v,x,d,g,hs,ps,lks,hds,rfl,hvE.same sX,T,fw,rx,λhs1 f2 qs2 e p hp=>?_,λbb HY h1 h2 sY=>?_⟩
        ·rcases wd with z|⟨f3,qs3,rfl,_,hm3⟩
         ·rw[z] at hs1;cases hs1
         ·obtain ⟨rfl,rfl⟩:=ze1 e
          exact hm3 p hp
        have hbb:bb=false:=by
         rcases wd with z|⟨f3,qs3,rfl,hr3,_⟩
         ·exact h1 z
         ·cases e:zK hs ps (zby f3 qs3)with
          |false=>exact h1 e
          |true=>rw[h2 _ _ rfl e];exact hr3
        subst hbb
        exact⟨_,_,rfl,rfl,q1 HY sY⟩
       refine⟨l6,_,rfl,SqL.of hl6,_,rfl,?_⟩
       rw[zb2]
       have ea:∀ds:List D,ds.all (λ_=>true)=true:=λds=>List.all_eq_true.mpr λ_ _=>rfl
       rw[ea]
       refine zao rfl ⟨_,rfl,_,rfl,v,v',_,g,hs,ps,lks,hds,rfl,hvE.same sX,T,fw,rvE.same sX,λ_ f2 qs2 e p hp=>?_,λbb HY h1 h2 sY=>?_⟩
       ·obtain ⟨rfl,rfl⟩:=ze1 e
        exact ml p hp
       have hbb:bb=true:=by rw[h2 _ _ rfl hsl];exact R
       subst hbb
       refine⟨_,_,rfl,rfl,_,rfl,zao rfl ⟨⟨_,_,_,_,_,_,rfl⟩,((hHE.same sX).same sY).mono ?_,(k8.trans k9).trans ((Keep.of sA).trans ((kC.trans kD).trans (Keep.of ((S9.trans sX).trans sY))))⟩⟩
       show _+3*((8:Nat):Int)+2<=_
       push_cast
       omega
    ·rintro σ' H8 ⟨⟨o1,o6,o7,o8,o9,o10,rfl⟩,hH8,k8⟩
     rw[List.length_map] at hH8
     exact⟨⟨_,_,_,_,_,_,_,_,rfl⟩,hH8.mono (by push_cast;omega),(k26.trans (Keep.of s7)).trans k8⟩
   ·rintro σ' H5 ⟨⟨o1,o4,o5,o6,o7,o8,o9,o10,rfl⟩,hH5,k5⟩
    exact⟨⟨_,_,_,_,_,_,_,_,_,_,rfl⟩,λc o e=>k5 c o (zy (s0 c o e) ha) (k2 c o (zy (s0 c o e) ha) (s1 c o (s0 c o e)))⟩
  ·rintro σ' H0 ⟨⟨o1,o2,o3,o4,o5,o6,o7,o8,o9,o10,rfl⟩,s0⟩
   exact q H0
end
theorem walk{l:PySem.W.OpenLaw}{q:Program}{loose:List Str}{XP:(Str->Option Value)->Heap->Prop}{YP:World->Heap->Prop}{d:DefRec}{K:Params->PySem.W.Frag}(hn:l.most=some 63)(hdf:d.params.defaults=[])
 (hY:∀(w:World) (h:Heap),YP w h->(K w.params).In h)
 (F:∀(w:World) (mg:Str->Option Value) (fa:Addr) (h:Heap),(K w.params).In h->h.Ns mainGlobals mg->mg d.name=some (.ref fa)->
   ∃fd:FuncData,(∀(s:Shared) (u:Value),BindsTo s fd ⟨[u],[]⟩ [("_law_script",u)])/\∀base:Heap,(K w.params).In base->base.Ns mainGlobals mg->FnOk l.prog w (K w.params) mg base CX0 8 fa fd ["_law_script"] (zk4 (K w.params))):
 PySem.W.WalkO q loose XP YP l.row.toRowW d [] (λf vs=>PySem.call f vs):=
 L2.walk_of (n:=63) (k:=8) (x:="_law_script") (CX:=λ_=>CX0) (sp:=λw=>zk4 (K w.params)) hn (by decide) hdf ⟨rfl,by decide,by decide,rfl⟩ hY F (λ_ _ a ns hl _ hS=>⟨a,ns,rfl,hS,hl,λ_=>rfl⟩) λ_ _ _ _ _ z=>z
theorem all_mk{l:PySem.W.OpenLaw}{w:World}{K:PySem.W.Frag}{h:Heap}{mg:Str->Option Value}{fa:Addr}(X:K.In h)(G:h.Ns mainGlobals mg)(hfa:mg "law"=some (.ref fa))
 {f1:Addr} {od1 an1:Option Addr} {sl1:Array (Option Value)} {oc1 kV1 dc1 pm1 cd1 ct1:Value}
 (a1:PySem.W.nsIn K mainGlobals "is_name"=some (some (.ref f1))) (l1:K.lookup f1=some ⟨oc1,od1, .func (PySem.W.fnOf "is_name" "is_name" (zw zb3) (zu zb3) (zg zb3) .none kV1 dc1 pm1 an1 cd1 ct1),sl1⟩) (c1:PySem.W.codeIn K cd1 "is_name"=true) (k1:PySem.W.keepIn K (.ref f1)=true)
 {f2:Addr} {od2 an2:Option Addr} {sl2:Array (Option Value)} {oc2 kV2 dc2 pm2 cd2 ct2:Value}
 (a2:PySem.W.nsIn K mainGlobals "is_number"=some (some (.ref f2))) (l2:K.lookup f2=some ⟨oc2,od2, .func (PySem.W.fnOf "is_number" "is_number" (zw zbL) (zu zbL) (zg zbL) .none kV2 dc2 pm2 an2 cd2 ct2),sl2⟩) (c2:PySem.W.codeIn K cd2 "is_number"=true) (k2:PySem.W.keepIn K (.ref f2)=true)
 {f3:Addr} {od3 an3:Option Addr} {sl3:Array (Option Value)} {oc3 kV3 dc3 pm3 cd3 ct3:Value}
 (a3:PySem.W.nsIn K mainGlobals "is_row"=some (some (.ref f3))) (l3:K.lookup f3=some ⟨oc3,od3, .func (PySem.W.fnOf "is_row" "is_row" (zw zdn) (zu zdn) (zg zdn) .none kV3 dc3 pm3 an3 cd3 ct3),sl3⟩) (c3:PySem.W.codeIn K cd3 "is_row"=true) (k3:PySem.W.keepIn K (.ref f3)=true)
 {f4:Addr} {od4 an4:Option Addr} {sl4:Array (Option Value)} {oc4 kV4 dc4 pm4 cd4 ct4:Value}
 (a4:PySem.W.nsIn K mainGlobals "is_rising"=some (some (.ref f4))) (l4:K.lookup f4=some ⟨oc4,od4, .func (PySem.W.fnOf "is_rising" "is_rising" (zw zbd) (zu zbd) (zg zbd) .none kV4 dc4 pm4 an4 cd4 ct4),sl4⟩) (c4:PySem.W.codeIn K cd4 "is_rising"=true) (k4:PySem.W.keepIn K (.ref f4)=true)
 {f5:Addr} {od5 an5:Option Addr} {sl5:Array (Option Value)} {oc5 kV5 dc5 pm5 cd5 ct5:Value}
 {dt5:Addr} {odd5:Option Addr} {nd5:Nat} {sld5:Array (Option Value)}
 (a5:PySem.W.nsIn K mainGlobals "holds"=some (some (.ref f5))) (l5:K.lookup f5=some ⟨oc5,od5, .func (PySem.W.fnOf "holds" "holds" (zw zd6) (zu zd6) (zg zd6) (.ref dt5) kV5 dc5 pm5 an5 cd5 ct5),sl5⟩) (c5:PySem.W.codeIn K cd5 "holds"=true) (k5:PySem.W.keepIn K (.ref f5)=true)
 (ld5:K.lookup dt5=some ⟨.type "tuple",odd5, .seq #[.none] nd5,sld5⟩)
 {f6:Addr} {od6 an6:Option Addr} {sl6:Array (Option Value)} {oc6 kV6 dc6 pm6 cd6 ct6:Value}
 {dt6:Addr} {odd6:Option Addr} {nd6:Nat} {sld6:Array (Option Value)}
 (a6:PySem.W.nsIn K mainGlobals "all_hold"=some (some (.ref f6))) (l6:K.lookup f6=some ⟨oc6,od6, .func (PySem.W.fnOf "all_hold" "all_hold" (zw zb0) (zu zb0) (zg zb0) (.ref dt6) kV6 dc6 pm6 an6 cd6 ct6),sl6⟩) (c6:PySem.W.codeIn K cd6 "all_hold"=true) (k6:PySem.W.keepIn K (.ref f6)=true)
 (ld6:K.lookup dt6=some ⟨.type "tuple",odd6, .seq #[.none] nd6,sld6⟩)
 {f7:Addr} {od7 an7:Option Addr} {sl7:Array (Option Value)} {oc7 kV7 dc7 pm7 cd7 ct7:Value}
 (a7:PySem.W.nsIn K mainGlobals "is_house"=some (some (.ref f7))) (l7:K.lookup f7=some ⟨oc7,od7, .func (PySem.W.fnOf "is_house" "is_house" (zw zb5) (zu zb5) (zg zb5) .none kV7 dc7 pm7 an7 cd7 ct7),sl7⟩) (c7:PySem.W.codeIn K cd7 "is_house"=true) (k7:PySem.W.keepIn K (.ref f7)=true)
 {f8:Addr} {od8 an8:Option Addr} {sl8:Array (Option Value)} {oc8 kV8 dc8 pm8 cd8 ct8:Value}
 (a8:PySem.W.nsIn K mainGlobals "likings_of"=some (some (.ref f8))) (l8:K.lookup f8=some ⟨oc8,od8, .func (PySem.W.fnOf "likings_of" "likings_of" (zw zbk) (zu zbk) (zg zbk) .none kV8 dc8 pm8 an8 cd8 ct8),sl8⟩) (c8:PySem.W.codeIn K cd8 "likings_of"=true) (k8:PySem.W.keepIn K (.ref f8)=true)
 {f9:Addr} {od9 an9:Option Addr} {sl9:Array (Option Value)} {oc9 kV9 dc9 pm9 cd9 ct9:Value}
 (a9:PySem.W.nsIn K mainGlobals "hands_of"=some (some (.ref f9))) (l9:K.lookup f9=some ⟨oc9,od9, .func (PySem.W.fnOf "hands_of" "hands_of" (zw zcd) (zu zcd) (zg zcd) .none kV9 dc9 pm9 an9 cd9 ct9),sl9⟩) (c9:PySem.W.codeIn K cd9 "hands_of"=true) (k9:PySem.W.keepIn K (.ref f9)=true)
 {f10:Addr} {od10 an10:Option Addr} {sl10:Array (Option Value)} {oc10 kV10 dc10 pm10 cd10 ct10:Value}
 (a10:PySem.W.nsIn K mainGlobals "tied"=some (some (.ref f10))) (l10:K.lookup f10=some ⟨oc10,od10, .func (PySem.W.fnOf "tied" "tied" (zw zdI) (zu zdI) (zg zdI) .none kV10 dc10 pm10 an10 cd10 ct10),sl10⟩) (c10:PySem.W.codeIn K cd10 "tied"=true) (k10:PySem.W.keepIn K (.ref f10)=true)
 {f11:Addr} {od11 an11:Option Addr} {sl11:Array (Option Value)} {oc11 kV11 dc11 pm11 cd11 ct11:Value}
 (a11:PySem.W.nsIn K mainGlobals "is_way"=some (some (.ref f11))) (l11:K.lookup f11=some ⟨oc11,od11, .func (PySem.W.fnOf "is_way" "is_way" (zw zco) (zu zco) (zg zco) .none kV11 dc11 pm11 an11 cd11 ct11),sl11⟩) (c11:PySem.W.codeIn K cd11 "is_way"=true) (k11:PySem.W.keepIn K (.ref f11)=true)
 {f12:Addr} {od12 an12:Option Addr} {sl12:Array (Option Value)} {oc12 kV12 dc12 pm12 cd12 ct12:Value}
 (a12:PySem.W.nsIn K mainGlobals "marks_behind"=some (some (.ref f12))) (l12:K.lookup f12=some ⟨oc12,od12, .func (PySem.W.fnOf "marks_behind" "marks_behind" (zw zay) (zu zay) (zg zay) .none kV12 dc12 pm12 an12 cd12 ct12),sl12⟩) (c12:PySem.W.codeIn K cd12 "marks_behind"=true) (k12:PySem.W.keepIn K (.ref f12)=true)
 {f13:Addr} {od13 an13:Option Addr} {sl13:Array (Option Value)} {oc13 kV13 dc13 pm13 cd13 ct13:Value}
 (a13:PySem.W.nsIn K mainGlobals "handed"=some (some (.ref f13))) (l13:K.lookup f13=some ⟨oc13,od13, .func (PySem.W.fnOf "handed" "handed" (zw zdf) (zu zdf) (zg zdf) .none kV13 dc13 pm13 an13 cd13 ct13),sl13⟩) (c13:PySem.W.codeIn K cd13 "handed"=true) (k13:PySem.W.keepIn K (.ref f13)=true)
 {f14:Addr} {od14 an14:Option Addr} {sl14:Array (Option Value)} {oc14 kV14 dc14 pm14 cd14 ct14:Value}
 (a14:PySem.W.nsIn K mainGlobals "worth"=some (some (.ref f14))) (l14:K.lookup f14=some ⟨oc14,od14, .func (PySem.W.fnOf "worth" "worth" (zw zeg) (zu zeg) (zg zeg) .none kV14 dc14 pm14 an14 cd14 ct14),sl14⟩) (c14:PySem.W.codeIn K cd14 "worth"=true) (k14:PySem.W.keepIn K (.ref f14)=true)
 {f15:Addr} {od15 an15:Option Addr} {sl15:Array (Option Value)} {oc15 kV15 dc15 pm15 cd15 ct15:Value}
 (a15:PySem.W.nsIn K mainGlobals "are_names"=some (some (.ref f15))) (l15:K.lookup f15=some ⟨oc15,od15, .func (PySem.W.fnOf "are_names" "are_names" (zw zbj) (zu zbj) (zg zbj) .none kV15 dc15 pm15 an15 cd15 ct15),sl15⟩) (c15:PySem.W.codeIn K cd15 "are_names"=true) (k15:PySem.W.keepIn K (.ref f15)=true)
 {f16:Addr} {od16 an16:Option Addr} {sl16:Array (Option Value)} {oc16 kV16 dc16 pm16 cd16 ct16:Value}
 (a16:PySem.W.nsIn K mainGlobals "is_paper"=some (some (.ref f16))) (l16:K.lookup f16=some ⟨oc16,od16, .func (PySem.W.fnOf "is_paper" "is_paper" (zw zb1) (zu zb1) (zg zb1) .none kV16 dc16 pm16 an16 cd16 ct16),sl16⟩) (c16:PySem.W.codeIn K cd16 "is_paper"=true) (k16:PySem.W.keepIn K (.ref f16)=true)
 {f17:Addr} {od17 an17:Option Addr} {sl17:Array (Option Value)} {oc17 kV17 dc17 pm17 cd17 ct17:Value}
 (a17:PySem.W.nsIn K mainGlobals "is_sealed"=some (some (.ref f17))) (l17:K.lookup f17=some ⟨oc17,od17, .func (PySem.W.fnOf "is_sealed" "is_sealed" (zw zbi) (zu zbi) (zg zbi) .none kV17 dc17 pm17 an17 cd17 ct17),sl17⟩) (c17:PySem.W.codeIn K cd17 "is_sealed"=true) (k17:PySem.W.keepIn K (.ref f17)=true)
 {f18:Addr} {od18 an18:Option Addr} {sl18:Array (Option Value)} {oc18 kV18 dc18 pm18 cd18 ct18:Value}
 (a18:PySem.W.nsIn K mainGlobals "was_handed_so"=some (some (.ref f18))) (l18:K.lookup f18=some ⟨oc18,od18, .func (PySem.W.fnOf "was_handed_so" "was_handed_so" (zw zaz) (zu zaz) (zg zaz) .none kV18 dc18 pm18 an18 cd18 ct18),sl18⟩) (c18:PySem.W.codeIn K cd18 "was_handed_so"=true) (k18:PySem.W.keepIn K (.ref f18)=true)
 {f19:Addr} {od19 an19:Option Addr} {sl19:Array (Option Value)} {oc19 kV19 dc19 pm19 cd19 ct19:Value}
 (a19:PySem.W.nsIn K mainGlobals "is_right"=some (some (.ref f19))) (l19:K.lookup f19=some ⟨oc19,od19, .func (PySem.W.fnOf "is_right" "is_right" (zw zba) (zu zba) (zg zba) .none kV19 dc19 pm19 an19 cd19 ct19),sl19⟩) (c19:PySem.W.codeIn K cd19 "is_right"=true) (k19:PySem.W.keepIn K (.ref f19)=true)
 {f20:Addr} {od20 an20:Option Addr} {sl20:Array (Option Value)} {oc20 kV20 dc20 pm20 cd20 ct20:Value}
 (a20:PySem.W.nsIn K mainGlobals "_law_hand"=some (some (.ref f20))) (l20:K.lookup f20=some ⟨oc20,od20, .func (PySem.W.fnOf "_law_hand" "_law_hand" (zw zbI) (zu zbI) (zg zbI) .none kV20 dc20 pm20 an20 cd20 ct20),sl20⟩) (c20:PySem.W.codeIn K cd20 "_law_hand"=true) (k20:PySem.W.keepIn K (.ref f20)=true)
 {f21:Addr} {od21 an21:Option Addr} {sl21:Array (Option Value)} {oc21 kV21 dc21 pm21 cd21 ct21:Value}
 (a21:PySem.W.nsIn K mainGlobals "_law_take"=some (some (.ref f21))) (l21:K.lookup f21=some ⟨oc21,od21, .func (PySem.W.fnOf "_law_take" "_law_take" (zw zbJ) (zu zbJ) (zg zbJ) .none kV21 dc21 pm21 an21 cd21 ct21),sl21⟩) (c21:PySem.W.codeIn K cd21 "_law_take"=true) (k21:PySem.W.keepIn K (.ref f21)=true)
 {f22:Addr} {od22 an22:Option Addr} {sl22:Array (Option Value)} {oc22 kV22 dc22 pm22 cd22 ct22:Value}
 (a22:PySem.W.nsIn K mainGlobals "_law_pick"=some (some (.ref f22))) (l22:K.lookup f22=some ⟨oc22,od22, .func (PySem.W.fnOf "_law_pick" "_law_pick" (zw zbE) (zu zbE) (zg zbE) .none kV22 dc22 pm22 an22 cd22 ct22),sl22⟩) (c22:PySem.W.codeIn K cd22 "_law_pick"=true) (k22:PySem.W.keepIn K (.ref f22)=true)
 {f23:Addr} {od23 an23:Option Addr} {sl23:Array (Option Value)} {oc23 kV23 dc23 pm23 cd23 ct23:Value}
 (a23:PySem.W.nsIn K mainGlobals "_law_names"=some (some (.ref f23))) (l23:K.lookup f23=some ⟨oc23,od23, .func (PySem.W.fnOf "_law_names" "_law_names" (zw zaZ) (zu zaZ) (zg zaZ) .none kV23 dc23 pm23 an23 cd23 ct23),sl23⟩) (c23:PySem.W.codeIn K cd23 "_law_names"=true) (k23:PySem.W.keepIn K (.ref f23)=true)
 {f24:Addr} {od24 an24:Option Addr} {sl24:Array (Option Value)} {oc24 kV24 dc24 pm24 cd24 ct24:Value}
 (a24:PySem.W.nsIn K mainGlobals "_law_cond"=some (some (.ref f24))) (l24:K.lookup f24=some ⟨oc24,od24, .func (PySem.W.fnOf "_law_cond" "_law_cond" (zw zbG) (zu zbG) (zg zbG) .none kV24 dc24 pm24 an24 cd24 ct24),sl24⟩) (c24:PySem.W.codeIn K cd24 "_law_cond"=true) (k24:PySem.W.keepIn K (.ref f24)=true)
 {f25:Addr} {od25 an25:Option Addr} {sl25:Array (Option Value)} {oc25 kV25 dc25 pm25 cd25 ct25:Value}
 (a25:PySem.W.nsIn K mainGlobals "_law_conds"=some (some (.ref f25))) (l25:K.lookup f25=some ⟨oc25,od25, .func (PySem.W.fnOf "_law_conds" "_law_conds" (zw zaX) (zu zaX) (zg zaX) .none kV25 dc25 pm25 an25 cd25 ct25),sl25⟩) (c25:PySem.W.codeIn K cd25 "_law_conds"=true) (k25:PySem.W.keepIn K (.ref f25)=true)
 {f26:Addr} {od26 an26:Option Addr} {sl26:Array (Option Value)} {oc26 kV26 dc26 pm26 cd26 ct26:Value}
 (a26:PySem.W.nsIn K mainGlobals "_law_ties"=some (some (.ref f26))) (l26:K.lookup f26=some ⟨oc26,od26, .func (PySem.W.fnOf "_law_ties" "_law_ties" (zw zbN) (zu zbN) (zg zbN) .none kV26 dc26 pm26 an26 cd26 ct26),sl26⟩) (c26:PySem.W.codeIn K cd26 "_law_ties"=true) (k26:PySem.W.keepIn K (.ref f26)=true)
 {f27:Addr} {od27 an27:Option Addr} {sl27:Array (Option Value)} {oc27 kV27 dc27 pm27 cd27 ct27:Value}
 (a27:PySem.W.nsIn K mainGlobals "_law_mild_town"=some (some (.ref f27))) (l27:K.lookup f27=some ⟨oc27,od27, .func (PySem.W.fnOf "_law_mild_town" "_law_mild_town" (zw zae) (zu zae) (zg zae) .none kV27 dc27 pm27 an27 cd27 ct27),sl27⟩) (c27:PySem.W.codeIn K cd27 "_law_mild_town"=true) (k27:PySem.W.keepIn K (.ref f27)=true)
 {f28:Addr} {od28 an28:Option Addr} {sl28:Array (Option Value)} {oc28 kV28 dc28 pm28 cd28 ct28:Value}
 (a28:PySem.W.nsIn K mainGlobals "_law_some_way"=some (some (.ref f28))) (l28:K.lookup f28=some ⟨oc28,od28, .func (PySem.W.fnOf "_law_some_way" "_law_some_way" (zw zab) (zu zab) (zg zab) .none kV28 dc28 pm28 an28 cd28 ct28),sl28⟩) (c28:PySem.W.codeIn K cd28 "_law_some_way"=true) (k28:PySem.W.keepIn K (.ref f28)=true)
 {f29:Addr} {od29 an29:Option Addr} {sl29:Array (Option Value)} {oc29 kV29 dc29 pm29 cd29 ct29:Value}
 (a29:PySem.W.nsIn K mainGlobals "_law_cond_holds"=some (some (.ref f29))) (l29:K.lookup f29=some ⟨oc29,od29, .func (PySem.W.fnOf "_law_cond_holds" "_law_cond_holds" (zw zaa) (zu zaa) (zg zaa) .none kV29 dc29 pm29 an29 cd29 ct29),sl29⟩) (c29:PySem.W.codeIn K cd29 "_law_cond_holds"=true) (k29:PySem.W.keepIn K (.ref f29)=true)
 {f30:Addr} {od30 an30:Option Addr} {sl30:Array (Option Value)} {oc30 kV30 dc30 pm30 cd30 ct30:Value}
 (a30:PySem.W.nsIn K mainGlobals "_law_all_hold"=some (some (.ref f30))) (l30:K.lookup f30=some ⟨oc30,od30, .func (PySem.W.fnOf "_law_all_hold" "_law_all_hold" (zw zaB) (zu zaB) (zg zaB) .none kV30 dc30 pm30 an30 cd30 ct30),sl30⟩) (c30:PySem.W.codeIn K cd30 "_law_all_hold"=true) (k30:PySem.W.keepIn K (.ref f30)=true)
 {f31:Addr} {od31 an31:Option Addr} {sl31:Array (Option Value)} {oc31 kV31 dc31 pm31 cd31 ct31:Value}
 (a31:PySem.W.nsIn K mainGlobals "_law_worth"=some (some (.ref f31))) (l31:K.lookup f31=some ⟨oc31,od31, .func (PySem.W.fnOf "_law_worth" "_law_worth" (zw zaF) (zu zaF) (zg zaF) .none kV31 dc31 pm31 an31 cd31 ct31),sl31⟩) (c31:PySem.W.codeIn K cd31 "_law_worth"=true) (k31:PySem.W.keepIn K (.ref f31)=true)
 {f32:Addr} {od32 an32:Option Addr} {sl32:Array (Option Value)} {oc32 kV32 dc32 pm32 cd32 ct32:Value}
 (a32:PySem.W.nsIn K mainGlobals "_law_handed"=some (some (.ref f32))) (l32:K.lookup f32=some ⟨oc32,od32, .func (PySem.W.fnOf "_law_handed" "_law_handed" (zw zau) (zu zau) (zg zau) .none kV32 dc32 pm32 an32 cd32 ct32),sl32⟩) (c32:PySem.W.codeIn K cd32 "_law_handed"=true) (k32:PySem.W.keepIn K (.ref f32)=true)
 {f33:Addr} {od33 an33:Option Addr} {sl33:Array (Option Value)} {oc33 kV33 dc33 pm33 cd33 ct33:Value}
 (a33:PySem.W.nsIn K mainGlobals "_law_tied"=some (some (.ref f33))) (l33:K.lookup f33=some ⟨oc33,od33, .func (PySem.W.fnOf "_law_tied" "_law_tied" (zw zbK) (zu zbK) (zg zbK) .none kV33 dc33 pm33 an33 cd33 ct33),sl33⟩) (c33:PySem.W.codeIn K cd33 "_law_tied"=true) (k33:PySem.W.keepIn K (.ref f33)=true)
 {f34:Addr} {od34 an34:Option Addr} {sl34:Array (Option Value)} {oc34 kV34 dc34 pm34 cd34 ct34:Value}
 (a34:PySem.W.nsIn K mainGlobals "_law_near"=some (some (.ref f34))) (l34:K.lookup f34=some ⟨oc34,od34, .func (PySem.W.fnOf "_law_near" "_law_near" (zw zbc) (zu zbc) (zg zbc) .none kV34 dc34 pm34 an34 cd34 ct34),sl34⟩) (c34:PySem.W.codeIn K cd34 "_law_near"=true) (k34:PySem.W.keepIn K (.ref f34)=true)
 {f35:Addr} {od35 an35:Option Addr} {sl35:Array (Option Value)} {oc35 kV35 dc35 pm35 cd35 ct35:Value}
 (a35:PySem.W.nsIn K mainGlobals "_law_papers"=some (some (.ref f35))) (l35:K.lookup f35=some ⟨oc35,od35, .func (PySem.W.fnOf "_law_papers" "_law_papers" (zw za4) (zu za4) (zg za4) .none kV35 dc35 pm35 an35 cd35 ct35),sl35⟩) (c35:PySem.W.codeIn K cd35 "_law_papers"=true) (k35:PySem.W.keepIn K (.ref f35)=true)
 {f36:Addr} {od36 an36:Option Addr} {sl36:Array (Option Value)} {oc36 kV36 dc36 pm36 cd36 ct36:Value}
 (a36:PySem.W.nsIn K mainGlobals "_law_forms"=some (some (.ref f36))) (l36:K.lookup f36=some ⟨oc36,od36, .func (PySem.W.fnOf "_law_forms" "_law_forms" (zw zM) (zu zM) (zg zM) .none kV36 dc36 pm36 an36 cd36 ct36),sl36⟩) (c36:PySem.W.codeIn K cd36 "_law_forms"=true) (k36:PySem.W.keepIn K (.ref f36)=true)
 {f37:Addr} {od37 an37:Option Addr} {sl37:Array (Option Value)} {oc37 kV37 dc37 pm37 cd37 ct37:Value}
 (a37:PySem.W.nsIn K mainGlobals "_law_any"=some (some (.ref f37))) (l37:K.lookup f37=some ⟨oc37,od37, .func (PySem.W.fnOf "_law_any" "_law_any" (zw zb4) (zu zb4) (zg zb4) .none kV37 dc37 pm37 an37 cd37 ct37),sl37⟩) (c37:PySem.W.codeIn K cd37 "_law_any"=true) (k37:PySem.W.keepIn K (.ref f37)=true)
 {f38:Addr} {od38 an38:Option Addr} {sl38:Array (Option Value)} {oc38 kV38 dc38 pm38 cd38 ct38:Value}
 (a38:PySem.W.nsIn K mainGlobals "_law_size"=some (some (.ref f38))) (l38:K.lookup f38=some ⟨oc38,od38, .func (PySem.W.fnOf "_law_size" "_law_size" (zw zbb) (zu zbb) (zg zbb) .none kV38 dc38 pm38 an38 cd38 ct38),sl38⟩) (c38:PySem.W.codeIn K cd38 "_law_size"=true) (k38:PySem.W.keepIn K (.ref f38)=true)
 {f39:Addr} {od39 an39:Option Addr} {sl39:Array (Option Value)} {oc39 kV39 dc39 pm39 cd39 ct39:Value}
 (a39:PySem.W.nsIn K mainGlobals "_law_put"=some (some (.ref f39))) (l39:K.lookup f39=some ⟨oc39,od39, .func (PySem.W.fnOf "_law_put" "_law_put" (zw zbB) (zu zbB) (zg zbB) .none kV39 dc39 pm39 an39 cd39 ct39),sl39⟩) (c39:PySem.W.codeIn K cd39 "_law_put"=true) (k39:PySem.W.keepIn K (.ref f39)=true)
 {f40:Addr} {od40 an40:Option Addr} {sl40:Array (Option Value)} {oc40 kV40 dc40 pm40 cd40 ct40:Value}
 (a40:PySem.W.nsIn K mainGlobals "law"=some (some (.ref f40))) (l40:K.lookup f40=some ⟨oc40,od40, .func (PySem.W.fnOf "law" "law" (zw zdR) (zu zdR) (zg zdR) .none kV40 dc40 pm40 an40 cd40 ct40),sl40⟩) (c40:PySem.W.codeIn K cd40 "law"=true) (k40:PySem.W.keepIn K (.ref f40)=true)
 {tk_LONGEST:Tok} (g_LONGEST:PySem.W.nsIn K mainGlobals "LONGEST"=some (some (.int 8 tk_LONGEST)))
 {tk_LONGEST_WAY:Tok} (g_LONGEST_WAY:PySem.W.nsIn K mainGlobals "LONGEST_WAY"=some (some (.int 10 tk_LONGEST_WAY)))
 {tk_MOST_MARKS:Tok} (g_MOST_MARKS:PySem.W.nsIn K mainGlobals "MOST_MARKS"=some (some (.int 90 tk_MOST_MARKS)))
 {tk_MOST_PAPERS:Tok} (g_MOST_PAPERS:PySem.W.nsIn K mainGlobals "MOST_PAPERS"=some (some (.int 10 tk_MOST_PAPERS)))
 {aT_TAKEN:Addr} {odT_TAKEN:Option Addr} {slT_TAKEN:Array (Option Value)} {nT_TAKEN:Nat} {t0_TAKEN t1_TAKEN t2_TAKEN t3_TAKEN:Tok} (g_TAKEN:PySem.W.nsIn K mainGlobals "TAKEN"=some (some (.ref aT_TAKEN))) (l_TAKEN:K.lookup aT_TAKEN=some ⟨.type "tuple",odT_TAKEN, .seq #[.str "if" t0_TAKEN, .str "and" t1_TAKEN, .str "not" t2_TAKEN, .str "never" t3_TAKEN] nT_TAKEN,slT_TAKEN⟩)
 (z_isinstance:PySem.W.nsIn K mainGlobals "isinstance"=some none)
 (z_str:PySem.W.nsIn K mainGlobals "str"=some none)
 (z_len:PySem.W.nsIn K mainGlobals "len"=some none)
 (z_all:PySem.W.nsIn K mainGlobals "all"=some none)
 (z_int:PySem.W.nsIn K mainGlobals "int"=some none)
 (z_bool:PySem.W.nsIn K mainGlobals "bool"=some none)
 (z_tuple:PySem.W.nsIn K mainGlobals "tuple"=some none)
 (z_range:PySem.W.nsIn K mainGlobals "range"=some none)
 (z_max:PySem.W.nsIn K mainGlobals "max"=some none)
 (z_min:PySem.W.nsIn K mainGlobals "min"=some none)
 (z_sorted:PySem.W.nsIn K mainGlobals "sorted"=some none)
 (z_enumerate:PySem.W.nsIn K mainGlobals "enumerate"=some none)
 (z_zip:PySem.W.nsIn K mainGlobals "zip"=some none)
 (z_list:PySem.W.nsIn K mainGlobals "list"=some none)
 (z_sum:PySem.W.nsIn K mainGlobals "sum"=some none)
 :∃fd:FuncData,(∀(s:Shared) (v:Value),BindsTo s fd ⟨[v],[]⟩ [("_law_script",v)])/\∀base:Heap,K.In base->base.Ns mainGlobals mg->FnOk l.prog w K mg base CX0 8 fa fd ["_law_script"] (zk4 K):=by
 have e:=hfa.symm.trans (PySem.W.mg_of X G a40)
 cases e
 have F1:=zO (st:=zb3) l1 c1 k1
 have F2:=zO (st:=zbL) l2 c2 k2
 have F3:=zO (st:=zdn) l3 c3 k3
 have F4:=zO (st:=zbd) l4 c4 k4
 have F5:=zkX (st:=zd6) l5 ld5 c5 k5
 have F6:=zkX (st:=zb0) l6 ld6 c6 k6
 have F7:=zO (st:=zb5) l7 c7 k7
 have F8:=zO (st:=zbk) l8 c8 k8
 have F9:=zO (st:=zcd) l9 c9 k9
 have F10:=zO (st:=zdI) l10 c10 k10
 have F11:=zO (st:=zco) l11 c11 k11
 have F12:=zO (st:=zay) l12 c12 k12
 have F13:=zO (st:=zdf) l13 c13 k13
 have F14:=zO (st:=zeg) l14 c14 k14
 have F15:=zO (st:=zbj) l15 c15 k15
 have F16:=zO (st:=zb1) l16 c16 k16
 have F17:=zO (st:=zbi) l17 c17 k17
 have F18:=zO (st:=zaz) l18 c18 k18
 have F19:=zO (st:=zba) l19 c19 k19
 have F20:=zO (st:=zbI) l20 c20 k20
 have F21:=zO (st:=zbJ) l21 c21 k21
 have F22:=zO (st:=zbE) l22 c22 k22
 have F23:=zO (st:=zaZ) l23 c23 k23
 have F24:=zO (st:=zbG) l24 c24 k24
 have F25:=zO (st:=zaX) l25 c25 k25
 have F26:=zO (st:=zbN) l26 c26 k26
 have F27:=zO (st:=zae) l27 c27 k27
 have F28:=zO (st:=zab) l28 c28 k28
 have F29:=zO (st:=zaa) l29 c29 k29
 have F30:=zO (st:=zaB) l30 c30 k30
 have F31:=zO (st:=zaF) l31 c31 k31
 have F32:=zO (st:=zau) l32 c32 k32
 have F33:=zO (st:=zbK) l33 c33 k33
 have F34:=zO (st:=zbc) l34 c34 k34
 have F35:=zO (st:=za4) l35 c35 k35
 have F36:=zO (st:=zM) l36 c36 k36
 have F37:=zO (st:=zb4) l37 c37 k37
 have F38:=zO (st:=zbb) l38 c38 k38
 have F39:=zO (st:=zbB) l39 c39 k39
 have F40:=zO (st:=zdR) l40 c40 k40
 have b1:=F1.binds (ps:=zcL) λ_ _ _ _ _ _=>of1 (λ_=>rfl)
 have b2:=F2.binds (ps:=zcq) λ_ _ _ _ _ _=>of1 (λ_=>rfl)
 have b3:=F3.binds (ps:=zcp) λ_ _ _ _ _ _=>of3 (λ_ _ _=>rfl)
 have b4:=F4.binds (ps:=zcu) λ_ _ _ _ _ _=>of1 (λ_=>rfl)
 have b5:=F5.binds (ps:=zcD) (ds:=[]) 4 rfl λ_ _ _ _ _ _ _=>of4 (λ_ _ _ _=>⟨_,rfl,rfl⟩)
 have e5:=F5.binds (ps:=zcD) (ds:=[.none]) 3 rfl λ_ _ _ _ _ _ _=>of3 (λ_ _ _=>⟨_,rfl,rfl⟩)
 have b6:=F6.binds (ps:=zbA) (ds:=[]) 4 rfl λ_ _ _ _ _ _ _=>of4 (λ_ _ _ _=>⟨_,rfl,rfl⟩)
 have e6:=F6.binds (ps:=zbA) (ds:=[.none]) 3 rfl λ_ _ _ _ _ _ _=>of3 (λ_ _ _=>⟨_,rfl,rfl⟩)
 have b7:=F7.binds (ps:=zb6) λ_ _ _ _ _ _=>of2 (λ_ _=>rfl)
 have b8:=F8.binds (ps:=zbX) λ_ _ _ _ _ _=>of2 (λ_ _=>rfl)
 have b9:=F9.binds (ps:=zcQ) λ_ _ _ _ _ _=>of2 (λ_ _=>rfl)
 have b10:=F10.binds (ps:=zfo) λ_ _ _ _ _ _=>of2 (λ_ _=>rfl)
 have b11:=F11.binds (ps:=zdZ) λ_ _ _ _ _ _=>of2 (λ_ _=>rfl)
 have b12:=F12.binds (ps:=zbe) λ_ _ _ _ _ _=>of2 (λ_ _=>rfl)
 have b13:=F13.binds (ps:=zdJ) λ_ _ _ _ _ _=>of4 (λ_ _ _ _=>rfl)
 have b14:=F14.binds (ps:=zeN) λ_ _ _ _ _ _=>of3 (λ_ _ _=>rfl)
 have b15:=F15.binds (ps:=zck) λ_ _ _ _ _ _=>of3 (λ_ _ _=>rfl)
 have b16:=F16.binds (ps:=zcX) λ_ _ _ _ _ _=>of2 (λ_ _=>rfl)
 have b17:=F17.binds (ps:=zcj) λ_ _ _ _ _ _=>of2 (λ_ _=>rfl)
 have b18:=F18.binds (ps:=za0) λ_ _ _ _ _ _=>of3 (λ_ _ _=>rfl)
 have b19:=F19.binds (ps:=zcM) λ_ _ _ _ _ _=>of2 (λ_ _=>rfl)
 have b20:=F20.binds (ps:=zcl) λ_ _ _ _ _ _=>of2 (λ_ _=>rfl)
 have b21:=F21.binds (ps:=zai) λ_ _ _ _ _ _=>of2 (λ_ _=>rfl)
 have b22:=F22.binds (ps:=zan) λ_ _ _ _ _ _=>of2 (λ_ _=>rfl)
 have b23:=F23.binds (ps:=zbW) λ_ _ _ _ _ _=>of2 (λ_ _=>rfl)
 have b24:=F24.binds (ps:=zcs) λ_ _ _ _ _ _=>of4 (λ_ _ _ _=>rfl)
 have b25:=F25.binds (ps:=zbY) λ_ _ _ _ _ _=>of4 (λ_ _ _ _=>rfl)
 have b26:=F26.binds (ps:=zcr) λ_ _ _ _ _ _=>of3 (λ_ _ _=>rfl)
 have b27:=F27.binds (ps:=zaN) λ_ _ _ _ _ _=>of1 (λ_=>rfl)
 have b28:=F28.binds (ps:=za2) λ_ _ _ _ _ _=>of2 (λ_ _=>rfl)
 have b29:=F29.binds (ps:=zZ) λ_ _ _ _ _ _=>of4 (λ_ _ _ _=>rfl)
 have b30:=F30.binds (ps:=zaA) λ_ _ _ _ _ _=>of4 (λ_ _ _ _=>rfl)
 have b31:=F31.binds (ps:=zbU) λ_ _ _ _ _ _=>of3 (λ_ _ _=>rfl)
 have b32:=F32.binds (ps:=za3) λ_ _ _ _ _ _=>of4 (λ_ _ _ _=>rfl)
 have b33:=F33.binds (ps:=zct) λ_ _ _ _ _ _=>of3 (λ_ _ _=>rfl)
 have b34:=F34.binds (ps:=zch) λ_ _ _ _ _ _=>of2 (λ_ _=>rfl)
 have b35:=F35.binds (ps:=zbw) λ_ _ _ _ _ _=>of4 (λ_ _ _ _=>rfl)
 have b36:=F36.binds (ps:=zbP) λ_ _ _ _ _ _=>of1 (λ_=>rfl)
 have b37:=F37.binds (ps:=zcO) λ_ _ _ _ _ _=>of1 (λ_=>rfl)
 have b38:=F38.binds (ps:=zaQ) λ_ _ _ _ _ _=>of1 (λ_=>rfl)
 have b39:=F39.binds (ps:=zbh) λ_ _ _ _ _ _=>of3 (λ_ _ _=>rfl)
 have b40:=F40.binds (ps:=zk3) λ_ _ _ _ _ _=>of1 (λ_=>rfl)
 have Y:Ev K mg:={
  a_is_name:=f1,d_is_name:=_,is_name:=⟨F1,b1,PySem.W.mg_of X G a1,k1⟩,
  a_is_number:=f2,d_is_number:=_,is_number:=⟨F2,b2,PySem.W.mg_of X G a2,k2⟩,
  a_is_row:=f3,d_is_row:=_,is_row:=⟨F3,b3,PySem.W.mg_of X G a3,k3⟩,
  a_is_rising:=f4,d_is_rising:=_,is_rising:=⟨F4,b4,PySem.W.mg_of X G a4,k4⟩,
  a_holds:=f5,d_holds:=_,holds:=⟨F5,b5,e5,PySem.W.mg_of X G a5,k5⟩,
  a_all_hold:=f6,d_all_hold:=_,all_hold:=⟨F6,b6,e6,PySem.W.mg_of X G a6,k6⟩,
  a_is_house:=f7,d_is_house:=_,is_house:=⟨F7,b7,PySem.W.mg_of X G a7,k7⟩,
  a_likings_of:=f8,d_likings_of:=_,likings_of:=⟨F8,b8,PySem.W.mg_of X G a8,k8⟩,
  a_hands_of:=f9,d_hands_of:=_,hands_of:=⟨F9,b9,PySem.W.mg_of X G a9,k9⟩,
  a_tied:=f10,d_tied:=_,tied:=⟨F10,b10,PySem.W.mg_of X G a10,k10⟩,
  a_is_way:=f11,d_is_way:=_,is_way:=⟨F11,b11,PySem.W.mg_of X G a11,k11⟩,
  a_marks_behind:=f12,d_marks_behind:=_,marks_behind:=⟨F12,b12,PySem.W.mg_of X G a12,k12⟩,
  a_handed:=f13,d_handed:=_,handed:=⟨F13,b13,PySem.W.mg_of X G a13,k13⟩,
  a_worth:=f14,d_worth:=_,worth:=⟨F14,b14,PySem.W.mg_of X G a14,k14⟩,
  a_are_names:=f15,d_are_names:=_,are_names:=⟨F15,b15,PySem.W.mg_of X G a15,k15⟩,
  a_is_paper:=f16,d_is_paper:=_,is_paper:=⟨F16,b16,PySem.W.mg_of X G a16,k16⟩,
  a_is_sealed:=f17,d_is_sealed:=_,is_sealed:=⟨F17,b17,PySem.W.mg_of X G a17,k17⟩,
  a_was_handed_so:=f18,d_was_handed_so:=_,was_handed_so:=⟨F18,b18,PySem.W.mg_of X G a18,k18⟩,
  a_is_right:=f19,d_is_right:=_,is_right:=⟨F19,b19,PySem.W.mg_of X G a19,k19⟩,
  a__law_hand:=f20,d__law_hand:=_,_law_hand:=⟨F20,b20,PySem.W.mg_of X G a20,k20⟩,
  a__law_take:=f21,d__law_take:=_,_law_take:=⟨F21,b21,PySem.W.mg_of X G a21,k21⟩,
  a__law_pick:=f22,d__law_pick:=_,_law_pick:=⟨F22,b22,PySem.W.mg_of X G a22,k22⟩,
  a__law_names:=f23,d__law_names:=_,_law_names:=⟨F23,b23,PySem.W.mg_of X G a23,k23⟩,
  a__law_cond:=f24,d__law_cond:=_,_law_cond:=⟨F24,b24,PySem.W.mg_of X G a24,k24⟩,
  a__law_conds:=f25,d__law_conds:=_,_law_conds:=⟨F25,b25,PySem.W.mg_of X G a25,k25⟩,
  a__law_ties:=f26,d__law_ties:=_,_law_ties:=⟨F26,b26,PySem.W.mg_of X G a26,k26⟩,
  a__law_mild_town:=f27,d__law_mild_town:=_,_law_mild_town:=⟨F27,b27,PySem.W.mg_of X G a27,k27⟩,
  a__law_some_way:=f28,d__law_some_way:=_,_law_some_way:=⟨F28,b28,PySem.W.mg_of X G a28,k28⟩,
  a__law_cond_holds:=f29,d__law_cond_holds:=_,_law_cond_holds:=⟨F29,b29,PySem.W.mg_of X G a29,k29⟩,
  a__law_all_hold:=f30,d__law_all_hold:=_,_law_all_hold:=⟨F30,b30,PySem.W.mg_of X G a30,k30⟩,
  a__law_worth:=f31,d__law_worth:=_,_law_worth:=⟨F31,b31,PySem.W.mg_of X G a31,k31⟩,
  a__law_handed:=f32,d__law_handed:=_,_law_handed:=⟨F32,b32,PySem.W.mg_of X G a32,k32⟩,
  a__law_tied:=f33,d__law_tied:=_,_law_tied:=⟨F33,b33,PySem.W.mg_of X G a33,k33⟩,
  a__law_near:=f34,d__law_near:=_,_law_near:=⟨F34,b34,PySem.W.mg_of X G a34,k34⟩,
  a__law_papers:=f35,d__law_papers:=_,_law_papers:=⟨F35,b35,PySem.W.mg_of X G a35,k35⟩,
  a__law_forms:=f36,d__law_forms:=_,_law_forms:=⟨F36,b36,PySem.W.mg_of X G a36,k36⟩,
  a__law_any:=f37,d__law_any:=_,_law_any:=⟨F37,b37,PySem.W.mg_of X G a37,k37⟩,
  a__law_size:=f38,d__law_size:=_,_law_size:=⟨F38,b38,PySem.W.mg_of X G a38,k38⟩,
  a__law_put:=f39,d__law_put:=_,_law_put:=⟨F39,b39,PySem.W.mg_of X G a39,k39⟩,
  a_law:=fa,d_law:=_,law:=⟨F40,b40,PySem.W.mg_of X G a40,k40⟩,
  v_LONGEST:=_,m_LONGEST:=PySem.W.mg_of X G g_LONGEST,r_LONGEST:=⟨tk_LONGEST,rfl⟩,
  v_LONGEST_WAY:=_,m_LONGEST_WAY:=PySem.W.mg_of X G g_LONGEST_WAY,r_LONGEST_WAY:=⟨tk_LONGEST_WAY,rfl⟩,
  v_MOST_MARKS:=_,m_MOST_MARKS:=PySem.W.mg_of X G g_MOST_MARKS,r_MOST_MARKS:=⟨tk_MOST_MARKS,rfl⟩,
  v_MOST_PAPERS:=_,m_MOST_PAPERS:=PySem.W.mg_of X G g_MOST_PAPERS,r_MOST_PAPERS:=⟨tk_MOST_PAPERS,rfl⟩,
  a_TAKEN:=_,m_TAKEN:=PySem.W.mg_of X G g_TAKEN,t_TAKEN:=λH=> .inr ⟨_,_,nT_TAKEN,l_TAKEN,rfl,rfl,by show 4<=sizeLine;decide,(.cons ⟨t0_TAKEN,rfl⟩ (.cons ⟨t1_TAKEN,rfl⟩ (.cons ⟨t2_TAKEN,rfl⟩ (.cons ⟨t3_TAKEN,rfl⟩ .nil))))⟩,
  isinstance:=PySem.W.mg_none_of X G z_isinstance,
  str:=PySem.W.mg_none_of X G z_str,
  len:=PySem.W.mg_none_of X G z_len,
  all:=PySem.W.mg_none_of X G z_all,
  int:=PySem.W.mg_none_of X G z_int,
  bool:=PySem.W.mg_none_of X G z_bool,
  tuple:=PySem.W.mg_none_of X G z_tuple,
  range:=PySem.W.mg_none_of X G z_range,
  max:=PySem.W.mg_none_of X G z_max,
  min:=PySem.W.mg_none_of X G z_min,
  sorted:=PySem.W.mg_none_of X G z_sorted,
  enumerate:=PySem.W.mg_none_of X G z_enumerate,
  zip:=PySem.W.mg_none_of X G z_zip,
  list:=PySem.W.mg_none_of X G z_list,
  sum:=PySem.W.mg_none_of X G z_sum}
 exact⟨PySem.W.fnOf "law" "law" (zw zdR) (zu zdR) (zg zdR) .none kV40 dc40 pm40 an40 cd40 ct40,λs v=> .of_eq rfl,λbase _ _=>zma Y F40⟩
noncomputable def vw:Program:={PySem.Challenge.pw_restways_k72_sealed_of_anything with main:={PySem.Challenge.pw_restways_k72_sealed_of_anything.main with body:=([1,2,3,5,6,7,12,13,14,15,16,18,19,21,23,24,25,26,27,28,29,30,32,33,34,35,36,37,38,39,40,41,42,43,44,45,46,47,48,49,50,51,52]:List Nat).filterMap λi=>PySem.Challenge.pw_restways_k72_sealed_of_anything.main.body[i]?}}
end K72
open PySem PySem.W PyProof.Rows
local macro_rules | `(tactic|o_head $H)=> `(tactic|(
 refine holds_open (N:=2720) (q:=K72.vw) (loose:=[(PySem.Str.ofString "holds"),(PySem.Str.ofString "all_hold")]) (YP:=Hook.says $H) (Ya:=Hook.val $H) (Yf:=Hook.obs $H) (XP:=XL K72.vw [])
  (Xt:=λz=>xlAt K72.vw [] z&&recOk [] z) (λw=>by kernel_rfl) (Hook.of $H) (Hook.keeps $H) (λz e=>xl_of z (Bool.and_eq_true_iff.mp e).1) XL.keeps
  (by rfl) (by rfl) (by rfl) (λz e=>recFacts_of (Bool.and_eq_true_iff.mp e).2) (by rfl) (by first|assumption|decide +kernel) (by decide +kernel)
  ⟨rfl,rfl,rfl,rfl,rfl,by decide +kernel⟩ ?hw ?hc))
set_option maxRecDepth 100000 in
set_option maxHeartbeats 0 in
theorem PySem.Challenge.cw_restways_k72_sealed_of_anything_holds : PySem.Challenge.rw_restways_k72_sealed_of_anything.Holds := by
 w_on;o_law;k_head;(case hw=>w_witness2)
 k_fill
 refine K72.walk (l:=PySem.Challenge.rw_restways_k72_sealed_of_anything) rfl rfl (λw h Y=>PySem.W.kIn_of Y) ?F
 case F=>
  intro w mg fa h KX G hmg
  refine' K72.all_mk KX G hmg ?a1 ?l1 ?c1 ?k1 ?a2 ?l2 ?c2 ?k2 ?a3 ?l3 ?c3 ?k3 ?a4 ?l4 ?c4 ?k4 ?a5 ?l5 ?c5 ?k5 ?ld5 ?a6 ?l6 ?c6 ?k6 ?ld6 ?a7 ?l7 ?c7 ?k7 ?a8 ?l8 ?c8 ?k8 ?a9 ?l9 ?c9 ?k9 ?a10 ?l10 ?c10 ?k10 ?a11 ?l11 ?c11 ?k11 ?a12 ?l12 ?c12 ?k12 ?a13 ?l13 ?c13 ?k13 ?a14 ?l14 ?c14 ?k14 ?a15 ?l15 ?c15 ?k15 ?a16 ?l16 ?c16 ?k16 ?a17 ?l17 ?c17 ?k17 ?a18 ?l18 ?c18 ?k18 ?a19 ?l19 ?c19 ?k19 ?a20 ?l20 ?c20 ?k20 ?a21 ?l21 ?c21 ?k21 ?a22 ?l22 ?c22 ?k22 ?a23 ?l23 ?c23 ?k23 ?a24 ?l24 ?c24 ?k24 ?a25 ?l25 ?c25 ?k25 ?a26 ?l26 ?c26 ?k26 ?a27 ?l27 ?c27 ?k27 ?a28 ?l28 ?c28 ?k28 ?a29 ?l29 ?c29 ?k29 ?a30 ?l30 ?c30 ?k30 ?a31 ?l31 ?c31 ?k31 ?a32 ?l32 ?c32 ?k32 ?a33 ?l33 ?c33 ?k33 ?a34 ?l34 ?c34 ?k34 ?a35 ?l35 ?c35 ?k35 ?a36 ?l36 ?c36 ?k36 ?a37 ?l37 ?c37 ?k37 ?a38 ?l38 ?c38 ?k38 ?a39 ?l39 ?c39 ?k39 ?a40 ?l40 ?c40 ?k40 ?g_LONGEST ?g_LONGEST_WAY ?g_MOST_MARKS ?g_MOST_PAPERS ?g_TAKEN ?l_TAKEN ?z_isinstance ?z_str ?z_len ?z_all ?z_int ?z_bool ?z_tuple ?z_range ?z_max ?z_min ?z_sorted ?z_enumerate ?z_zip ?z_list ?z_sum
  (case a1=>k_is)
  (case l1=>k_is)
  (case c1=>k_is)
  (case k1=>k_is)
  (case a2=>k_is)
  (case l2=>k_is)
  (case c2=>k_is)
  (case k2=>k_is)
  (case a3=>k_is)
  (case l3=>k_is)
  (case c3=>k_is)
  (case k3=>k_is)
  (case a4=>k_is)
  (case l4=>k_is)
  (case c4=>k_is)
  (case k4=>k_is)
  (case a5=>k_is)
  (case l5=>k_is)
  (case c5=>k_is)
  (case k5=>k_is)
  (case ld5=>k_is)
  (case a6=>k_is)
  (case l6=>k_is)
  (case c6=>k_is)
  (case k6=>k_is)
  (case ld6=>k_is)
  (case a7=>k_is)
  (case l7=>k_is)
  (case c7=>k_is)
  (case k7=>k_is)
  (case a8=>k_is)
  (case l8=>k_is)
  (case c8=>k_is)
  (case k8=>k_is)
  (case a9=>k_is)
  (case l9=>k_is)
  (case c9=>k_is)
  (case k9=>k_is)
  (case a10=>k_is)
  (case l10=>k_is)
  (case c10=>k_is)
  (case k10=>k_is)
  (case a11=>k_is)
  (case l11=>k_is)
  (case c11=>k_is)
  (case k11=>k_is)
  (case a12=>k_is)
  (case l12=>k_is)
  (case c12=>k_is)
  (case k12=>k_is)
  (case a13=>k_is)
  (case l13=>k_is)
  (case c13=>k_is)
  (case k13=>k_is)
  (case a14=>k_is)
  (case l14=>k_is)
  (case c14=>k_is)
  (case k14=>k_is)
  (case a15=>k_is)
  (case l15=>k_is)
  (case c15=>k_is)
  (case k15=>k_is)
  (case a16=>k_is)
  (case l16=>k_is)
  (case c16=>k_is)
  (case k16=>k_is)
  (case a17=>k_is)
  (case l17=>k_is)
  (case c17=>k_is)
  (case k17=>k_is)
  (case a18=>k_is)
  (case l18=>k_is)
  (case c18=>k_is)
  (case k18=>k_is)
  (case a19=>k_is)
  (case l19=>k_is)
  (case c19=>k_is)
  (case k19=>k_is)
  (case a20=>k_is)
  (case l20=>k_is)
  (case c20=>k_is)
  (case k20=>k_is)
  (case a21=>k_is)
  (case l21=>k_is)
  (case c21=>k_is)
  (case k21=>k_is)
  (case a22=>k_is)
  (case l22=>k_is)
  (case c22=>k_is)
  (case k22=>k_is)
  (case a23=>k_is)
  (case l23=>k_is)
  (case c23=>k_is)
  (case k23=>k_is)
  (case a24=>k_is)
  (case l24=>k_is)
  (case c24=>k_is)
  (case k24=>k_is)
  (case a25=>k_is)
  (case l25=>k_is)
  (case c25=>k_is)
  (case k25=>k_is)
  (case a26=>k_is)
  (case l26=>k_is)
  (case c26=>k_is)
  (case k26=>k_is)
  (case a27=>k_is)
  (case l27=>k_is)
  (case c27=>k_is)
  (case k27=>k_is)
  (case a28=>k_is)
  (case l28=>k_is)
  (case c28=>k_is)
  (case k28=>k_is)
  (case a29=>k_is)
  (case l29=>k_is)
  (case c29=>k_is)
  (case k29=>k_is)
  (case a30=>k_is)
  (case l30=>k_is)
  (case c30=>k_is)
  (case k30=>k_is)
  (case a31=>k_is)
  (case l31=>k_is)
  (case c31=>k_is)
  (case k31=>k_is)
  (case a32=>k_is)
  (case l32=>k_is)
  (case c32=>k_is)
  (case k32=>k_is)
  (case a33=>k_is)
  (case l33=>k_is)
  (case c33=>k_is)
  (case k33=>k_is)
  (case a34=>k_is)
  (case l34=>k_is)
  (case c34=>k_is)
  (case k34=>k_is)
  (case a35=>k_is)
  (case l35=>k_is)
  (case c35=>k_is)
  (case k35=>k_is)
  (case a36=>k_is)
  (case l36=>k_is)
  (case c36=>k_is)
  (case k36=>k_is)
  (case a37=>k_is)
  (case l37=>k_is)
  (case c37=>k_is)
  (case k37=>k_is)
  (case a38=>k_is)
  (case l38=>k_is)
  (case c38=>k_is)
  (case k38=>k_is)
  (case a39=>k_is)
  (case l39=>k_is)
  (case c39=>k_is)
  (case k39=>k_is)
  (case a40=>k_is)
  (case l40=>k_is)
  (case c40=>k_is)
  (case k40=>k_is)
  (case g_LONGEST=>k_is)
  (case g_LONGEST_WAY=>k_is)
  (case g_MOST_MARKS=>k_is)
  (case g_MOST_PAPERS=>k_is)
  (case g_TAKEN=>k_is)
  (case l_TAKEN=>k_is)
  (case z_isinstance=>k_is)
  (case z_str=>k_is)
  (case z_len=>k_is)
  (case z_all=>k_is)
  (case z_int=>k_is)
  (case z_bool=>k_is)
  (case z_tuple=>k_is)
  (case z_range=>k_is)
  (case z_max=>k_is)
  (case z_min=>k_is)
  (case z_sorted=>k_is)
  (case z_enumerate=>k_is)
  (case z_zip=>k_is)
  (case z_list=>k_is)
  (case z_sum=>k_is)
