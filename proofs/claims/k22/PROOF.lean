import PyProof.Rows.All
import Wide.All
import OpenK.AllK
import Wide.FinOn
import Lean
import PyProof.EqAt
import PyProof.EqKinds
import PyProof.TupleCall
import KE.KSortTup
import KE.KDictSum
import PyProof.Rows.SortStr
import PyProof.AutoSeq1
import PyProof.ZipIter
import PyProof.Rows.FStr
import PyProof.Rows.FStrParts
import PyProof.AttrMissHeap
import KE.KDictOf
import PyProof.StrCalls
import KE.KStrOpen
import KE.KRevIter
import PyProof.WalkInts
import KE.KDictList
import PyProof.Rows.SetFrom
import PyProof.SetRoads
import PyProof.DictCompW
import PyProof.DictItems
import KE.KPairComp
import KE.KEqDict
import PySem.Challenge.RW_restways_k22_what_is_a_rest
set_option Elab.async false
set_option linter.all false
set_option maxRecDepth 100000
namespace L2
open PySem PySem.Spec PyProof.Rows
abbrev Key:=Sum Int Str
def zfq:Key->Value->Bool
 | .inl k,v=>Value.isInt k v
 | .inr x,v=>Value.isStrOf x v
def zrR(w:World):Key->Int
 | .inl k=>hashInt k
 | .inr x=>hashStr w x
theorem z8:∀{k:Key} {v:Value},zfq k v=true->(∃i t,k=Sum.inl i/\v=Value.int i t)\/(∃x t,k=Sum.inr x/\v=Value.str x t)
 | .inl i,v,h=>by
   obtain⟨t,e⟩:=Value.isInt_shape (k:=i) (v:=v) h
   exact .inl ⟨i,t,rfl,e⟩
 | .inr x,v,h=>by
   obtain⟨t,e⟩:=Value.isStrOf_shape (x:=x) (v:=v) h
   exact .inr ⟨x,t,rfl,e⟩
theorem zlV(i:Int)(t:Tok):zfq (.inl i) (.int i t)=true:=by simp[zfq,Value.isInt]
theorem zlo(x:Str)(t:Tok):zfq (.inr x) (.str x t)=true:=by simp[zfq,Value.isStrOf]
theorem zqA(a b:Int):decide ((Sum.inl a:Key)=Sum.inl b)=(a==b):=by
 by_cases e:a=b
 ·subst e;simp
 ·have h:¬(Sum.inl a:Key)=Sum.inl b:=λq=>e (Sum.inl.inj q)
  rw[decide_eq_false h]
  exact(beq_eq_false_iff_ne.mpr e).symm
theorem zqe(a b:Str):decide ((Sum.inr a:Key)=Sum.inr b)=decide (a=b):=by
 by_cases e:a=b
 ·subst e;simp
 ·have h:¬(Sum.inr a:Key)=Sum.inr b:=λq=>e (Sum.inr.inj q)
  rw[decide_eq_false h,decide_eq_false e]
theorem zqQ(a:Int)(b:Str):decide ((Sum.inl a:Key)=Sum.inr b)=false:=decide_eq_false (λq=>nomatch q)
theorem zqj(a:Str)(b:Int):decide ((Sum.inr a:Key)=Sum.inl b)=false:=decide_eq_false (λq=>nomatch q)
def zZ(prog:Program)(w:World):PySem.KeyKind prog w Key where
 is:=zfq
 hash:=zrR w
 inj:=λv a b ha hb=>by
  rcases z8 ha with⟨i,t,rfl,rfl⟩|⟨x,t,rfl,rfl⟩
  ·rcases z8 hb with⟨j,u,rfl,e⟩|⟨y,u,rfl,e⟩
   ·injection e with e1 _;rw[e1]
   ·exact nomatch e
  ·rcases z8 hb with⟨j,u,rfl,e⟩|⟨y,u,rfl,e⟩
   ·exact nomatch e
   ·injection e with e1 _;rw[e1]
 byValue:=λk v h=>by
   rcases z8 h with⟨i,t,rfl,rfl⟩|⟨x,t,rfl,rfl⟩<;>rfl
 pyHash:=λhv h=>by
  rcases z8 hv with⟨i,t,rfl,rfl⟩|⟨x,t,rfl,rfl⟩
  ·exact wpAny_pyHash_int h
  ·exact wpAny_pyHash_str h
 eqBool:=λhu hv h=>by
  rcases z8 hu with⟨i,t,rfl,rfl⟩|⟨x,t,rfl,rfl⟩
  ·rcases z8 hv with⟨j,u,rfl,rfl⟩|⟨y,u,rfl,rfl⟩
   ·rw[zqA] at h;exact wpAny_eqBool_int h
   ·rw[zqQ] at h;exact SeqAt.EqAt.int_str i t y u _ _ _ _ h
  ·rcases z8 hv with⟨j,u,rfl,rfl⟩|⟨y,u,rfl,rfl⟩
   ·rw[zqj] at h;exact SeqAt.EqAt.str_int x t j u _ _ _ _ h
   ·rw[zqe] at h;exact wpAny_eqBool_str h
 «strs»:=λk x t v h=>by
  rcases z8 h with⟨i,u,rfl,e⟩|⟨y,u,rfl,e⟩
  ·exact nomatch e
  ·injection e with e1 _
   subst e1
   cases v<;>rfl
theorem zhX(prog:Program)(w:World)(i:Int)(t:Tok):(zZ prog w).is (.inl i) (.int i t)=true:=zlV i t
theorem zdb(prog:Program)(w:World)(x:Str)(t:Tok):(zZ prog w).is (.inr x) (.str x t)=true:=zlo x t
inductive V where
 |non|bl (b:Bool)|int (i:Int)|str (x:Str)|byt (b:Array UInt8)|flt (b:UInt64)|ref (a:Addr)|ty (n:String)
 deriving DecidableEq
def RelV:V->Value->Prop
 | .non,u=>u=Value.none
 | .bl b,u=>u=Value.bool b
 | .int i,u=>∃t,u=Value.int i t
 | .str x,u=>∃t,u=Value.str x t
 | .byt b,u=>∃t,u=Value.bytes b t
 | .flt b,u=>∃t,u=Value.float b t
 | .ref a,u=>u=Value.ref a
 | .ty n,u=>u=Value.type n
abbrev Vals:List V->List Value->Prop:=Paired RelV
theorem Vals.length{xs:List V}{us:List Value}(r:Vals xs us):xs.length=us.length:=Paired.length r
theorem Vals.get:∀{xs:List V} {us:List Value} {i:Nat} {x:V},Vals xs us->xs[i]?=some x->∃u,us[i]?=some u/\RelV x u
 |_,_,_,_, .nil,e=>by simp at e
 |_,_,0,_, .cons r _,e=>by simp at e;subst e;exact⟨_,rfl,r⟩
 |_,_,i+1,x, .cons _ t,e=>by
  obtain⟨u,h1,h2⟩:=Vals.get (i:=i) (x:=x) t (by simpa using e)
  exact⟨u,by simpa using h1,h2⟩
theorem Vals.set{x:V}{u:Value}(r:RelV x u):∀{xs:List V} {us:List Value} (i:Nat),Vals xs us->Vals (xs.set i x) (us.set i u)
 |_,_,_, .nil=> .nil
 |_,_,0, .cons _ t=> .cons r t
 |_,_,i+1, .cons q t=> .cons q (Vals.set r i t)
theorem Vals.append:∀{xs ys:List V} {us ws:List Value},Vals xs us->Vals ys ws->Vals (xs ++ys) (us ++ws)
 |_,_,_,_, .nil,s=>s
 |_,_,_,_, .cons r t,s=> .cons r (Vals.append t s)
theorem Vals.take:∀{xs:List V} {us:List Value} (n:Nat),Vals xs us->Vals (xs.take n) (us.take n)
 |_,_,0,_=> .nil
 |_,_,_+1, .nil=> .nil
 |_,_,n+1, .cons r t=> .cons r (Vals.take n t)
theorem Vals.drop:∀{xs:List V} {us:List Value} (n:Nat),Vals xs us->Vals (xs.drop n) (us.drop n)
 |_,_,0,r=>r
 |_,_,_+1, .nil=> .nil
 |_,_,n+1, .cons _ t=>Vals.drop n t
def RelO:Option V->Option Value->Prop
 |some v,some u=>RelV v u
 |none,none=>True
 |_,_=>False
def KV{κ:Type}:List (κ×V)->List (κ×Value)->Prop:=Paired λ(p:κ×V) (q:κ×Value)=>p.1=q.1/\RelV p.2 q.2
def kV:Key->V
 | .inl i=> .int i
 | .inr x=> .str x
inductive HO where
 |lst (xs:List V)
 |tup (xs:List V)
 |dK (kvs:List (Key×V))|dT (kvs:List (List Key×V))
 |set (S:Int->Bool) (n:Nat)
 |ins (C dx:Addr) (fs:List (Str×V))
 |own (x:Addr)
 |xd (fs:List (Str×V))
 |met (f x:Addr)
 |rng (lo hi:Int)
 |frz (o:Obj) (u:HO)
 |tbl (ps:Array Value)
 |ext (φ:Heap->Prop)
abbrev Hp:=Addr->Option HO
def upd(H:Hp)(a:Addr)(o:HO):Hp:=λb=>if b=a then some o else H b
theorem zb{H:Hp}{a:Addr}{o:HO}:upd H a o a=some o:=by unfold upd;rw[if_pos rfl]
theorem zi{H:Hp}{a b:Addr}{o:HO}(h:b≠a):upd H a o b=H b:=by unfold upd;rw[if_neg h]
theorem zkf{H:Hp}{a:Addr}{o u:HO}:upd (upd H a o) a u=upd H a u:=by
 funext b;unfold upd;split<;>rfl
theorem zbd{H:Hp}{a b:Addr}{o u:HO}(h:H a=some o)(h':H b=some u)(d:o≠u):a≠b:=by
 intro e;subst e;rw[h] at h';exact d (Option.some.inj h')
theorem zl{H:Hp}{a b:Addr}{o:HO}(h:H a=some o)(h':H b=none):a≠b:=by
 intro e;subst e;rw[h] at h';cases h'
section
variable(P:Program)(w:World)
def NoDict(h:Heap)(a:Addr):Prop:=∀o,h.get? a=some o->o.dict=none
theorem NoDict.new{h:Heap}{o:Obj}(e:o.dict=none)(f:(h.push o).get? h.objs.size=some o):NoDict (h.push o) h.objs.size:=λo' z=>by rw[f] at z;cases z;exact e
def ObjOk(H:Hp)(h:Heap)(a:Addr):HO->Prop
 | .lst xs=>xs.length<=sizeLine/\∃(its:List Value) (n:Nat),Vals xs its/\h.get? a=some {cls:= .type "list",data:= .seq its.toArray n}
 | .tup xs=>xs.length<=sizeLine/\∃its:List Value,Vals xs its/\IsTup h a its.toArray/\NoDict h a
 | .dK kvs=>kvs.length<=sizeLine/\(a==sysModules)=false/\∃vs,KV kvs vs/\h.DictOf (zZ P w) a vs
 | .dT kvs=>kvs.length<=sizeLine/\(a==sysModules)=false/\∃xs:List (List Key×Addr×Value),
    Paired (λ(p:List Key×V) (q:List Key×Addr×Value)=>p.1=q.1/\H q.2.1=some (.tup (p.1.map kV))/\RelV p.2 q.2.2) kvs xs/\
    ∃o es ep,h.get? a=some o/\o.ExactDict/\o.data= .dict es ep/\es.toList=xs.map (entryOfKey (tupleKind (zZ P w)))/\(xs.map (·.1)).Nodup
 | .set S n=>h.SetOf (intKind P w) a S n
 | .ins C dx fs=>H dx=some (.own a)/\fs.length<=1000/\dx≠a/\h.get? a=some (PySem.W.instObj C dx)/\
    ∃mA,h.Ns1 dx mA/\(∀f,RelO (fs.lookup f) (mA f))/\PySem.Within mA (fs.map (·.1))
 | .own _=>∃o,h.get? a=some o
 | .xd fs=>∃mA,h.Ns1 a mA/\∀f,RelO (fs.lookup f) (mA f)
 | .rng lo hi=>∃t u v,h.get? a=some {cls:= .type "range",data:= .fields #[.int lo t, .int hi u, .int 1 v]}
 | .frz o u=>h.get? a=some o/\ObjOk H h a u
 | .tbl ps=>h.get? a=some {cls:= .none,data:= .fields ps}
 | .met f x=>h.get? a=some (PySem.W.methodObj (.ref f) (.ref x))
 | .ext φ=>φ h/\(∃o,h.get? a=some o)/\∀h1 h2:Heap,φ h1->(∀o,h1.get? a=some o->h2.get? a=some o)->φ h2
def HOk(H:Hp)(h:Heap):Prop:=∀a o,H a=some o->ObjOk P w H h a o
end
section
variable{P:Program}{w:World}{H H':Hp}{h h':Heap}{a:Addr}{o:HO}
theorem ObjOk.lt(x:ObjOk P w H h a o):a<h.objs.size:=by
 cases o with
 |lst xs=>obtain ⟨_,_,_,_,e⟩:=x;exact Heap.lt_size e
 |tup xs=>obtain ⟨_,_,_,p,_⟩:=x;exact p.lt
 |dK kvs=>obtain ⟨_,_,_,_,o,_,_,e,_⟩:=x;exact Heap.lt_size e
 |dT kvs=>obtain ⟨_,_,_,_,o,_,_,e,_⟩:=x;exact Heap.lt_size e
 |set S n=>obtain ⟨o,_,_,_,e,_⟩:=x;exact Heap.lt_size e
 |ins C dx fs=>obtain ⟨_,_,_,e,_⟩:=x;exact Heap.lt_size e
 |own y=>obtain ⟨_,e⟩:=x;exact Heap.lt_size e
 |xd fs=>obtain ⟨_,⟨_,_,_,e,_⟩,_⟩:=x;exact Heap.lt_size e
 |rng lo hi=>obtain ⟨_,_,_,e⟩:=x;exact Heap.lt_size e
 |frz ob u=>obtain ⟨e,_⟩:=x;exact Heap.lt_size e
 |tbl ps=>exact Heap.lt_size (show h.get? a=some _ from x)
 |met f y=>exact Heap.lt_size (show h.get? a=some _ from x)
 |ext φ=>obtain ⟨_,⟨_,e⟩,_⟩:=x;exact Heap.lt_size e
theorem Paired.mapP{α β:Type}{F G:α->β->Prop}:∀{l₁:List α} {l₂:List β},Paired F l₁ l₂->(∀a b,F a b->G a b)->Paired G l₁ l₂
 |_,_, .nil,_=> .nil
 |_,_, .cons r t,f=> .cons (f _ _ r) (Paired.mapP t f)
theorem ObjOk.stay(x:ObjOk P w H h a o)(k:∀b u,(b=a\/H b=some (.own a))->h.get? b=some u->h'.get? b=some u)
 (ho:∀b,H b=some (.own a)->H' b=some (.own a)) (ht:∀b xs,H b=some (.tup xs)->H' b=some (.tup xs)):ObjOk P w H' h' a o:=by
 induction o with
 |lst xs=>obtain ⟨z,its,n,r,e⟩:=x;exact⟨z,its,n,r,k _ _ (.inl rfl) e⟩
 |tup xs=>obtain ⟨z,its,r,⟨ob,e,c⟩,nd⟩:=x;exact⟨z,its,r,⟨ob,k _ _ (.inl rfl) e,c⟩,λo q=>by rw[k _ _ (.inl rfl) e] at q;cases q;exact nd _ e⟩
 |dK kvs=>obtain ⟨z,y,vs,r,ob,es,ep,e,c⟩:=x;exact⟨z,y,vs,r,ob,es,ep,k _ _ (.inl rfl) e,c⟩
 |dT kvs=>
  obtain⟨z,y,xs,r,ob,es,ep,e,c⟩:=x
  exact⟨z,y,xs,Paired.mapP r λp q z=>⟨z.1,ht _ _ z.2.1,z.2.2⟩,ob,es,ep,k _ _ (.inl rfl) e,c⟩
 |set S n=>obtain ⟨ob,es,ep,t,e,c⟩:=x;exact⟨ob,es,ep,t,k _ _ (.inl rfl) e,c⟩
 |ins C dx fs=>
  obtain⟨d,z,ne,e,mA,⟨od,es,ep,e2,c⟩,r⟩:=x
  exact⟨ho _ d,z,ne,k _ _ (.inl rfl) e,mA,⟨od,es,ep,k _ _ (.inr d) e2,c⟩,r⟩
 |own y=>obtain ⟨ob,e⟩:=x;exact⟨ob,k _ _ (.inl rfl) e⟩
 |xd fs=>obtain ⟨mA,⟨od,es,ep,e,c⟩,r⟩:=x;exact⟨mA,⟨od,es,ep,k _ _ (.inl rfl) e,c⟩,r⟩
 |rng lo hi=>obtain ⟨t,u,v,e⟩:=x;exact⟨t,u,v,k _ _ (.inl rfl) e⟩
 |frz ob u ih=>obtain ⟨e,q⟩:=x;exact⟨k _ _ (.inl rfl) e,ih q⟩
 |tbl ps=>
  have e:h.get? a=some {cls:= .none,data:= .fields ps}:=x
  show h'.get? a=some {cls:= .none,data:= .fields ps}
  exact k a _ (.inl rfl) e
 |met f y=>
  have e:h.get? a=some (PySem.W.methodObj (.ref f) (.ref y)):=x
  show h'.get? a=some (PySem.W.methodObj (.ref f) (.ref y))
  exact k a _ (.inl rfl) e
 |ext φ=>obtain ⟨p,⟨o,e⟩,st⟩:=x;exact⟨st _ _ p λo q=>k _ _ (.inl rfl) q,⟨o,k _ _ (.inl rfl) e⟩,st⟩
theorem HOk.lt(x:HOk P w H h)(e:H a=some o):a<h.objs.size:=(x a o e).lt
theorem HOk.fresh(x:HOk P w H h)(e:h.objs.size<=a):H a=none:=by
 cases q:H a with
 |none=>rfl
 |some u=>exact absurd (Nat.lt_of_lt_of_le (x.lt q) e) (Nat.lt_irrefl _)
theorem HOk.kept(x:HOk P w H h)(k:∀b u,h.get? b=some u->h'.get? b=some u):HOk P w H h':=λa o e=>
 (x a o e).stay (λb u _ q=>k b u q) (λ_ q=>q) λ_ _ q=>q
theorem HOk.laid(x:HOk P w H h)(k:∀b u,h.get? b=some u->h'.get? b=some u)(hp:h.objs.size<=a)(new:ObjOk P w (upd H a o) h' a o):HOk P w (upd H a o) h':=λb u e=>by
 have hn:=x.fresh hp
 by_cases hb:b=a
 ·subst hb;rw[zb] at e;cases e;exact new
 ·rw[zi hb] at e
  exact(x b u e).stay (λc v _ q=>k c v q) (λc q=>by rw[zi (zl q hn)];exact q) λc xs q=>by rw[zi (zl q hn)];exact q
end
def Rd(H:Hp)(a:Addr)(u:HO):Prop:=H a=some u\/∃o,H a=some (.frz o u)
theorem Rd.ok{P:Program}{w:World}{H:Hp}{h:Heap}{a:Addr}{u:HO}(r:Rd H a u)(x:HOk P w H h):ObjOk P w H h a u:=by
 rcases r with r|⟨o,r⟩
 ·exact x a u r
 ·obtain ⟨_,q⟩:=x a _ r
  exact q
def Mut:Option HO->Prop
 |some (.lst _)=>True
 |some (.dK _)=>True
 |some (.dT _)=>True
 |some (.set _ _)=>True
 |some (.ins _ _ _)=>True
 |some (.ext _)=>True
 |_=>False
section
variable{P:Program}{w:World}{H:Hp}{h h':Heap}{x e:Addr}{o':HO}
theorem HOk.write(ok:HOk P w H h)(mu:Mut (H x))(he:e=x\/H e=some (.own x))(k:∀b u,b≠e->h.get? b=some u->h'.get? b=some u)(heo:∃u,h'.get? e=some u)
 (new:ObjOk P w (upd H x o') h' x o'):HOk P w (upd H x o') h':=λb u q=>by
 have nown:∀c y,H c=some (.own y)->c≠x:=λc y r z=>by subst z;rw[r] at mu;exact mu
 have ntup:∀c xs,H c=some (.tup xs)->c≠x:=λc xs r z=>by subst z;rw[r] at mu;exact mu
 by_cases hb:b=x
 ·subst hb;rw[zb] at q;cases q;exact new
 ·rw[zi hb] at q
  by_cases hbe:b=e
  ·have q':H b=some (.own x):=by
    rcases he with z|z
    ·exact absurd (hbe.trans z) hb
    ·rw[hbe];exact z
   rw[q] at q';cases q'
   obtain⟨v,hv⟩:=heo
   exact⟨v,by rw[hbe];exact hv⟩
  ·refine (ok b u q).stay (λc v hc r=>k c v ?_ r) (λc r=>by rw[zi (nown c b r)];exact r) λc xs r=>by rw[zi (ntup c xs r)];exact r
   rcases hc with rfl|hc
   ·exact hbe
   ·rintro rfl
    rcases he with z|z
    ·exact nown c b hc z
    ·rw[hc] at z;cases z;exact hb rfl
end
structure Un(fs ex:List Addr)(H H':Hp)(h h':Heap):Prop where
 keep:∀b o,h.get? b=some o->H b=none->b∉fs->b∉ex->h'.get? b=some o
 slot:∀b o,h.get? b=some o->H b=none->b∈fs->b∉ex->∃sl,h'.get? b=some {o with slots:=sl}
 free:∀b o,h.get? b=some o->H b=none->b∉ex->H' b=none
 there:∀b o,h.get? b=some o->b∉ex->∃o',h'.get? b=some o'
 tups:∀b xs,H b=some (.tup xs)->H' b=some (.tup xs)
 frzs:∀b o u,H b=some (.frz o u)->H' b=some (.frz o u)
 tbls:∀b ps,H b=some (.tbl ps)->∃more,H' b=some (.tbl (ps ++more))
section
variable{fs fs' ex ex':List Addr}{H H1 H2:Hp}{h h1 h2 h':Heap}{a x e:Addr}{o:HO}
theorem Un.any(u:Un fs ex H H1 h h1){b:Addr}{ob:Obj}(q:h.get? b=some ob)(n:H b=none)(hx:b∉ex):∃sl,h1.get? b=some {ob with slots:=sl}:=by
 by_cases hb:b∈fs
 ·exact u.slot b ob q n hb hx
 ·exact ⟨ob.slots,u.keep b ob q n hb hx⟩
theorem Un.kept(k:∀b u,h.get? b=some u->h'.get? b=some u):Un fs ex H H h h':=
 ⟨λb ob q _ _ _=>k b ob q,λb ob q _ _ _=>⟨ob.slots,k b ob q⟩,λ_ _ _ n _=>n,λb ob q _=>⟨ob,k b ob q⟩,λ_ _ q=>q,λ_ _ _ q=>q,λ_ ps q=>⟨#[],by rw[q];simp⟩⟩
theorem Un.refl:Un fs ex H H h h:=Un.kept λ_ _ q=>q
theorem Un.laid(k:∀b u,h.get? b=some u->h'.get? b=some u)(hp:h.objs.size<=a)(hn:H a=none):Un fs ex H (upd H a o) h h' where
 keep:=λb u q _ _ _=>k b u q
 slot:=λb u q _ _ _=>⟨u.slots,k b u q⟩
 free:=λb u q n _=>by rw[zi (Nat.ne_of_lt (Nat.lt_of_lt_of_le (Heap.lt_size q) hp))];exact n
 there:=λb u q _=>⟨u,k b u q⟩
 tups:=λb xs q=>by rw[zi (zl q hn)];exact q
 frzs:=λb u xs q=>by rw[zi (zl q hn)];exact q
 tbls:=λb ps q=>⟨#[],by rw[zi (zl q hn),q];simp⟩
theorem Un.write(mu:Mut (H x))(he:e=x\/H e=some (.own x))(k:∀b u,b≠e->h.get? b=some u->h'.get? b=some u)(heo:∃u,h'.get? e=some u):Un fs ex H (upd H x o) h h':=by
 have hx:∀b,H b=none->b≠x:=λb n z=>by subst z;rw[n] at mu;exact mu
 have hb:∀b,H b=none->b≠e:=λb n z=>by
  subst z
  rcases he with r|r
  ·exact hx b n r
  ·rw[n] at r;cases r
 have hm:∀b u,H b=some u->¬Mut (some u)->b≠x:=λb u q nm z=>by subst z;rw[q] at mu;exact nm mu
 refine⟨λb u q n _ _=>k b u (hb b n) q,λb u q n _ _=>⟨u.slots,k b u (hb b n) q⟩,λb u q n _=>by rw[zi (hx b n)];exact n,λb u q _=>?_,
  λb xs q=>by rw[zi (hm b _ q λz=>z)];exact q,λb u xs q=>by rw[zi (hm b _ q λz=>z)];exact q,λb ps q=>⟨#[],by rw[zi (hm b _ q λz=>z),q];simp⟩⟩
 by_cases hbe:b=e
 ·subst hbe;exact heo
 ·exact ⟨u,k b u hbe q⟩
end
def trk(h:Heap)(H:Hp):List Addr:=(List.range h.objs.size).filter λa=>(H a).isSome
def zhk(h:Heap)(H:Hp):Heap:=PySem.W.hideAll h (trk h H)
theorem zlf(h:Heap)(H:Hp):(zhk h H).objs.size=h.objs.size:=PySem.W.hideAll_size _ _
theorem znv{h:Heap}{H:Hp}{b:Addr}{o:Obj}(e:h.get? b=some o)(n:H b=none):(zhk h H).get? b=some o:=
 PySem.W.hideAll_get _ e λhm=>by
  have q:(H b).isSome=true:=(List.mem_filter.mp hm).2
  rw[n] at q;simp at q
theorem zo0{h:Heap}{H:Hp}{b:Addr}{o:Obj}(e:(zhk h H).get? b=some o):h.get? b=some o/\H b=none:=by
 have e':h.get? b=some o:=PySem.W.of_hideAll (trk h H) e
 refine⟨e',?_⟩
 cases q:H b with
 |none=>rfl
 |some x=>
  have hm:b∈trk h H:=List.mem_filter.mpr ⟨List.mem_range.mpr (Heap.lt_size e'),by simp[q]⟩
  have z:(zhk h H).get? b=none:=PySem.W.hideAll_none (trk h H) hm
  rw[z] at e;cases e
structure Mod(K:PySem.W.Frag)(mg:Str->Option Value)(base:Heap):Prop where
 kin:K.In base
 glob:base.Ns mainGlobals mg
 blt:∃mb,base.Ns builtinsNs mb/\∀x:Str,x≠"__name__"->mb x=bootBuiltins x
 nolimit:base.NoLimit
structure Cx where
 prog:Program
 w:World
 K:PySem.W.Frag
 mg:Str->Option Value
 base:Heap
 A:Around
 N:List Str
 s₀:Shared
 H₀:Hp
 env:Env
 outer:List Env
 stack:List Env
 ex:List Addr
 fn:Str->Bool
 calm:Bool
 pn:List (Addr×Obj)
 xe:Value->Shared->Prop
def frs(l:List Env):List Addr:=l.filterMap (·.frame)
abbrev Cx.fs(X:Cx):List Addr:=frs X.outer
def Vis(sc:Scope)(x:Str):Prop:=sc.names.lookup x=some .local\/sc.names.lookup x=some .cell\/sc.names.lookup x=some .free
def Loc(sc:Scope)(x:Str):Prop:=sc.names.lookup x=some .local\/sc.names.lookup x=some .cell
def zr2(env:Env)(h:Heap)(m:Str->Option Value)(x:Str)(u:Value):Prop:=
 (env.kindOf x=some .local/\m x=some u)\/((env.kindOf x=some .cell\/env.kindOf x=some .free)/\∃c,env.cells.lookup x=some c/\h.IsCell c (some u))
structure Cx.Ok(X:Cx):Prop where
 mod:Mod X.K X.mg X.base
 kind:X.env.scope.kind= .function
 glob:X.env.globals=mainGlobals
 blt:X.env.builtins=builtinsNs
 above:X.s₀.heap.objs.size<=X.env.locals
 inj:∀x y c,X.env.cells.lookup x=some c->X.env.cells.lookup y=some c->x=y
 has:∀x,(X.env.kindOf x=some .cell\/X.env.kindOf x=some .free)->∃c,X.env.cells.lookup x=some c
 cab:∀x c,X.fn x=true->X.env.cells.lookup x=some c->X.s₀.heap.objs.size<=c
 hd:X.calm=true->X.A.handled=none
 frames:X.A.frames=some X.stack
 stk:X.stack=X.outer\/(X.stack=X.env::X.outer/\X.env.frame=some X.env.locals)
 exf:∀b∈X.ex,b≠X.env.locals/\∀x c,X.env.cells.lookup x=some c->c≠b
 bs:∀b o,X.base.get? b=some o->X.s₀.heap.get? b=some o/\X.H₀ b=none
 bsz:X.base.objs.size<=X.s₀.heap.objs.size
 noex:∀b o,X.base.get? b=some o->b∉X.ex
 exfs:∀b∈X.ex,b∉X.fs
 funs:X.s₀.heap.FunFrames X.base X.outer
 frf:∀b∈X.fs,X.H₀ b=none
structure Inv(X:Cx)(pins:List (Addr×Obj))(σ:List (Option V))(H:Hp)(s:Shared):Prop where
 ok:X.Ok
 os:s.os=X.s₀.os
 bare:AllBare s.gens
 base:Un X.fs X.ex X.H₀ H X.s₀.heap s.heap
 loc:∃m,s.heap.Ns X.env.locals m/\∀(i:Nat) (x:Str) (v:V),X.N[i]?=some x->σ[i]?=some (some v)->Vis X.env.scope x->∃u,RelV v u/\zr2 X.env s.heap m x u
 cell:∀x c,X.env.cells.lookup x=some c->∃v,s.heap.IsCell c v
 free:H X.env.locals=none
 freeC:∀x c,X.env.cells.lookup x=some c->H c=none
 pin:∀p∈X.pn ++pins,s.heap.get? p.1=some p.2/\H p.1=none/\p.1≠X.env.locals/\p.1∉X.fs/\∀v,p.2.data≠ .cell v
 hok:HOk X.prog X.w H s.heap
 len:σ.length=X.N.length
section
variable{X:Cx}{pins:List (Addr×Obj)}{σ:List (Option V)}{H H':Hp}{s:Shared}{h':Heap}
theorem Cx.Ok.nofr(ok:X.Ok){b:Addr}{o:Obj}(e:X.base.get? b=some o):b∉X.fs:=λhb=>by
 have:=(ok.funs.mem hb).1
 rw[e] at this;cases this
theorem Inv.bs(I:Inv X pins σ H s):∀b o,X.base.get? b=some o->s.heap.get? b=some o/\H b=none:=λb o e=>
 ⟨I.base.keep b o (I.ok.bs b o e).1 (I.ok.bs b o e).2 (I.ok.nofr e) (I.ok.noex b o e),I.base.free b o (I.ok.bs b o e).1 (I.ok.bs b o e).2 (I.ok.noex b o e)⟩
theorem Inv.bk(I:Inv X pins σ H s):∀b o,X.base.get? b=some o->s.heap.get? b=some o:=λb o e=>(I.bs b o e).1
theorem Inv.mod(I:Inv X pins σ H s):Mod X.K X.mg X.base:=I.ok.mod
theorem Inv.kIn(I:Inv X pins σ H s):X.K.In s.heap:=I.ok.mod.kin.keeps I.bk
theorem Inv.lt(I:Inv X pins σ H s):X.env.locals<s.heap.objs.size:=let⟨_,hn,_⟩:=I.loc;hn.lt
theorem Inv.sz(I:Inv X pins σ H s):X.s₀.heap.objs.size<=s.heap.objs.size:=Nat.le_trans I.ok.above (Nat.le_of_lt I.lt)
theorem Inv.nofs(I:Inv X pins σ H s){a:Addr}(h:s.heap.objs.size<=a):a∉X.fs:=λhb=>by
 obtain⟨_,o,ho,_⟩:=I.ok.funs.mem hb
 exact absurd (Nat.lt_of_lt_of_le (Heap.lt_size ho) (Nat.le_trans I.sz h)) (Nat.lt_irrefl _)
theorem Inv.cne(I:Inv X pins σ H s):∀x c,X.env.cells.lookup x=some c->c≠X.env.locals:=λx c e z=>by
 obtain⟨v,o,ho,hd⟩:=I.cell x c e
 obtain⟨m,⟨o',es,ep,ho',hd',_⟩,_⟩:=I.loc
 rw[z,ho'] at ho;cases ho;rw[hd'] at hd;cases hd
theorem Inv.funs(I:Inv X pins σ H s):s.heap.FunFrames X.base X.outer:=by
 have all:∀(l:List Env),(∀b∈frs l,b∈X.fs)->X.s₀.heap.FunFrames X.base l->s.heap.FunFrames X.base l:=by
  intro l
  induction l with
  |nil=>intro _ _;trivial
  |cons env r ih=>
   intro hs hl
   obtain⟨hk,⟨L,o,hf,hn,ho,hd⟩,hr⟩:=hl
   have hL:L∈X.fs:=hs L (by unfold frs;rw[List.filterMap_cons,hf];exact List.mem_cons_self)
   obtain⟨sl,e⟩:=I.base.slot L o ho (I.ok.frf L hL) hL λz=>I.ok.exfs L z hL
   exact⟨hk,⟨L,_,hf,hn,e,hd⟩,ih (λb hb=>hs b (by unfold frs;rw[List.filterMap_cons,hf];exact List.mem_cons_of_mem _ hb)) hr⟩
 exact all X.outer (λ_ hb=>hb) I.ok.funs
theorem Inv.stack(I:Inv X pins σ H s):s.heap.FunFrames X.base X.stack:=by
 rcases I.ok.stk with e|⟨e,hf⟩
 ·rw[e];exact I.funs
 ·rw[e]
  obtain⟨m,hn,_⟩:=I.loc
  refine .cons (by rw[I.ok.kind];decide) hf hn ?_ I.funs
  exact Heap.get?_none_of_le (Nat.le_trans I.ok.bsz I.ok.above)
theorem Inv.stkSub(I:Inv X pins σ H s):∀b∈frs X.stack,b∈X.env.locals::X.fs:=λb hb=>by
 rcases I.ok.stk with e|⟨e,hf⟩
 ·rw[e] at hb;exact List.mem_cons_of_mem _ hb
 ·rw[e] at hb
  unfold frs at hb
  rw[List.filterMap_cons,hf] at hb
  exact hb
theorem Inv.stkFree(I:Inv X pins σ H s):∀b∈frs X.stack,H b=none:=λb hb=>by
 rcases List.mem_cons.mp (I.stkSub b hb)with e|hb
 ·rw[e];exact I.free
 ·obtain ⟨_,o,ho,_⟩:=I.ok.funs.mem hb
  exact I.base.free b o ho (I.ok.frf b hb) λz=>I.ok.exfs b z hb
theorem Inv.step{g':Array GenState}{t':Nat}{d':Drawn}{ch:List Addr}(I:Inv X pins σ H s)
 (hch:∀b∈ch,(b∈X.ex\/X.s₀.heap.objs.size<=b)/\b≠X.env.locals/\(∀x c,X.env.cells.lookup x=some c->c≠b)/\∀p∈X.pn ++pins,p.1≠b)
 (keep:∀b o,b≠X.env.locals->b∉X.fs->b∉ch->s.heap.get? b=some o->H b=none->h'.get? b=some o)
 (slot:∀b o,b≠X.env.locals->b∈X.fs->b∉ch->s.heap.get? b=some o->H b=none->∃sl,h'.get? b=some {o with slots:=sl}) (free:∀b o,b∉ch->s.heap.get? b=some o->H b=none->H' b=none)
 (there:∀b o,b∉ch->s.heap.get? b=some o->∃o',h'.get? b=some o')
 (tups:∀b xs,H b=some (.tup xs)->H' b=some (.tup xs)) (frzs:∀b o u,H b=some (.frz o u)->H' b=some (.frz o u)) (tbls:∀b ps,H b=some (.tbl ps)->∃more,H' b=some (.tbl (ps ++more)))
 (ns:∀m,s.heap.Ns X.env.locals m->h'.Ns X.env.locals m) (hok:HOk X.prog X.w H' h') (hg:AllBare g'):
 Inv X pins σ H' {s with heap:=h',gens:=g',drawn:=d',toks:=t'}:=by
 have neL:∀b o,X.s₀.heap.get? b=some o->b≠X.env.locals:=λb o e=>Nat.ne_of_lt (Nat.lt_of_lt_of_le (Heap.lt_size e) I.ok.above)
 have neC:∀b o,X.s₀.heap.get? b=some o->b∉X.ex->b∉ch:=λb o e hx hb=>by
  rcases(hch b hb).1 with z|z
  ·exact hx z
  ·exact absurd (Nat.lt_of_lt_of_le (Heap.lt_size e) z) (Nat.lt_irrefl _)
 have cellK:∀x c,X.env.cells.lookup x=some c->∀v,s.heap.IsCell c v->h'.IsCell c v:=λx c e v ⟨o,ho,hd⟩=>by
  have nch:c∉ch:=λz=>(hch c z).2.2.1 x c e rfl
  by_cases hc:c∈X.fs
  ·obtain ⟨sl,q⟩:=slot c o (I.cne x c e) hc nch ho (I.freeC x c e)
   exact⟨_,q,hd⟩
  ·exact ⟨o,keep c o (I.cne x c e) hc nch ho (I.freeC x c e),hd⟩
 refine⟨I.ok,I.os,hg,⟨λb o e n hb hx=>?_,λb o e n hb hx=>?_,λb o e n hx=>?_,λb o e hx=>?_,λb xs e=>tups b xs (I.base.tups b xs e),λb o xs e=>frzs b o xs (I.base.frzs b o xs e),λb ps e=>?_⟩,?_,λx c e=>?_,?_,λx c e=>?_,λp hp=>?_,hok,I.len⟩
 ·exact keep b o (neL b o e) hb (neC b o e hx) (I.base.keep b o e n hb hx) (I.base.free b o e n hx)
 ·obtain ⟨sl,e1⟩:=I.base.slot b o e n hb hx
  obtain⟨sl',e2⟩:=slot b _ (neL b o e) hb (neC b o e hx) e1 (I.base.free b o e n hx)
  exact⟨sl',e2⟩
 ·obtain ⟨o',e1⟩:=I.base.there b o e hx
  exact free b o' (neC b o e hx) e1 (I.base.free b o e n hx)
 ·obtain ⟨o',e1⟩:=I.base.there b o e hx
  exact there b o' (neC b o e hx) e1
 ·obtain ⟨m1,e1⟩:=I.base.tbls b ps e
  obtain⟨m2,e2⟩:=tbls b _ e1
  exact⟨m1 ++m2,by rw[e2,Array.append_assoc]⟩
 ·obtain ⟨m,hn,hl⟩:=I.loc
  refine⟨m,ns m hn,λi x v e1 e2 e3=>?_⟩
  obtain⟨u,r,l⟩:=hl i x v e1 e2 e3
  refine⟨u,r,?_⟩
  rcases l with l|⟨k,c,e,z⟩
  ·exact .inl l
  ·exact .inr ⟨k,c,e,cellK x c e _ z⟩
 ·obtain ⟨v,z⟩:=I.cell x c e
  exact⟨v,cellK x c e v z⟩
 ·obtain ⟨m,⟨o,_,_,ho,_⟩,_⟩:=I.loc
  exact free _ o (λz=>(hch _ z).2.1 rfl) ho I.free
 ·obtain ⟨v,o,ho,hd⟩:=I.cell x c e
  exact free c o (λz=>(hch c z).2.2.1 x c e rfl) ho (I.freeC x c e)
 ·obtain ⟨e,n,ne,nf,d⟩:=I.pin p hp
  have nch:p.1∉ch:=λz=>(hch p.1 z).2.2.2 p hp rfl
  exact⟨keep p.1 p.2 ne nf nch e n,free p.1 p.2 nch e n,ne,nf,d⟩
theorem Inv.un{t':Nat}(I:Inv X pins σ H s)(u:Un X.fs [] H H' s.heap h')(hok:HOk X.prog X.w H' h'):Inv X pins σ H' {s with heap:=h',toks:=t'}:=by
 obtain⟨m,⟨o,es,ep,ho,r⟩,_⟩:=id I.loc
 obtain⟨sl,hL⟩:=u.any ho I.free (by simp)
 exact I.step (g':=s.gens) (d':=s.drawn) (ch:=[]) (λ_ z=>nomatch z) (λb o _ hb _ e n=>u.keep b o e n hb (by simp)) (λb o _ hb _ e n=>u.slot b o e n hb (by simp)) (λb o _ e n=>u.free b o e n (by simp)) (λb o _ e=>u.there b o e (by simp)) u.tups u.frzs u.tbls (λm' hm=>by
  obtain⟨o',es',ep',ho',r'⟩:=hm
  rw[ho] at ho';cases ho'
  exact⟨_,es',ep',hL,r'⟩) hok I.bare
theorem Inv.call{g':Array GenState}{t':Nat}{d':Drawn}{ch:List Addr}(I:Inv X pins σ H s)(u:Un (frs X.stack) ch H H' s.heap h')(hok:HOk X.prog X.w H' h')(hg:AllBare g')
 (hch:∀b∈ch,(b∈X.ex\/X.s₀.heap.objs.size<=b)/\b≠X.env.locals/\(∀x c,X.env.cells.lookup x=some c->c≠b)/\∀p∈X.pn ++pins,p.1≠b):
 Inv X pins σ H' {s with heap:=h',gens:=g',drawn:=d',toks:=t'}:=by
 obtain⟨m,⟨o,es,ep,ho,r⟩,_⟩:=id I.loc
 obtain⟨sl,hL⟩:=u.any ho I.free λz=>(hch _ z).2.1 rfl
 exact I.step (ch:=ch) hch (λb o hL hb hc e n=>u.keep b o e n (λz=>(List.mem_cons.mp (I.stkSub b z)).elim hL hb) hc) (λb o _ _ hc e n=>u.any e n hc) (λb o hc e n=>u.free b o e n hc) (λb o hc e=>u.there b o e hc) u.tups u.frzs u.tbls (λm' hm=>by
  obtain⟨o',es',ep',ho',r'⟩:=hm
  rw[ho] at ho';cases ho'
  exact⟨_,es',ep',hL,r'⟩) hok hg
theorem Inv.turned{t':Nat}{it:Addr}(I:Inv X pins σ H s)(k:∀b o,b≠it->s.heap.get? b=some o->h'.get? b=some o)(hn:H it=none)(hL:it≠X.env.locals)
 (h1:it∈X.ex\/X.s₀.heap.objs.size<=it) (h2:∀x c,X.env.cells.lookup x=some c->c≠it) (h3:∀p∈X.pn ++pins,p.1≠it):Inv X pins σ H {s with heap:=h',toks:=t'}:=by
 have nit:∀b u,H b=some u->b≠it:=λb u e z=>by rw[z,hn] at e;cases e
 refine I.step (g':=s.gens) (d':=s.drawn) (ch:=[it]) (λb hb=>?_) (λb o _ _ hc e _=>k b o (λz=>hc (by simp[z])) e) (λb o _ _ hc e _=>⟨o.slots,k b o (λz=>hc (by simp[z])) e⟩) (λ_ _ _ _ n=>n)
  (λb o hc e=>⟨o,k b o (λz=>hc (by simp[z])) e⟩) (λ_ _ e=>e) (λ_ _ _ e=>e) (λb ps e=>⟨#[],by rw[e];simp⟩) (λm hm=>?_) (λb u e=>?_) I.bare
 ·have e:b=it:=by simpa using hb
  subst e
  exact⟨h1,hL,h2,h3⟩
 ·obtain ⟨o,es,ep,ho,r⟩:=hm
  exact⟨o,es,ep,k _ o (Ne.symm hL) ho,r⟩
 ·refine (I.hok b u e).stay (λc v hc q=>k c v ?_ q) (λ_ q=>q) λ_ _ q=>q
  rcases hc with z|z
  ·rw[z];exact nit b u e
  ·exact nit c _ z
theorem Inv.tok(I:Inv X pins σ H s)(t:Nat):Inv X pins σ H {s with toks:=t}:=I.un (h':=s.heap) (t':=t) Un.refl I.hok
theorem Inv.kept{t':Nat}(I:Inv X pins σ H s)(k:∀b u,s.heap.get? b=some u->h'.get? b=some u):Inv X pins σ H {s with heap:=h',toks:=t'}:=I.un (Un.kept k) (I.hok.kept k)
theorem Inv.laid{a:Addr}{o:HO}{t':Nat}(I:Inv X pins σ H s)(k:∀b u,s.heap.get? b=some u->h'.get? b=some u)(hp:s.heap.objs.size<=a)(new:ObjOk X.prog X.w (upd H a o) h' a o):
 Inv X pins σ (upd H a o) {s with heap:=h',toks:=t'}:=I.un (Un.laid k hp (I.hok.fresh hp)) (I.hok.laid k hp new)
theorem Inv.write{x e:Addr}{o:HO}{t':Nat}(I:Inv X pins σ H s)(mu:Mut (H x))(he:e=x\/H e=some (.own x))(k:∀b u,b≠e->s.heap.get? b=some u->h'.get? b=some u)(heo:∃u,h'.get? e=some u)
 (new:ObjOk X.prog X.w (upd H x o) h' x o):Inv X pins σ (upd H x o) {s with heap:=h',toks:=t'}:=I.un (Un.write mu he k heo) (I.hok.write mu he k heo new)
theorem Inv.pins_of{pins':List (Addr×Obj)}(I:Inv X pins σ H s)(h:∀p∈pins',s.heap.get? p.1=some p.2/\H p.1=none/\p.1≠X.env.locals/\p.1∉X.fs/\∀v,p.2.data≠ .cell v):Inv X pins' σ H s:=
 ⟨I.ok,I.os,I.bare,I.base,I.loc,I.cell,I.free,I.freeC,λp hp=>(List.mem_append.mp hp).elim (λz=>I.pin p (List.mem_append_left _ z)) (h p),I.hok,I.len⟩
theorem zic{N:List Str}(hN:N.Nodup){i j:Nat}{x:Str}(a:N[i]?=some x)(b:N[j]?=some x):i=j:=by
 obtain⟨h1,e1⟩:=List.getElem?_eq_some_iff.mp a
 obtain⟨h2,e2⟩:=List.getElem?_eq_some_iff.mp b
 exact(List.getElem_inj hN).mp (e1.trans e2.symm)
theorem zk9{M:Model}{A:Around}{E:Value->Shared->Prop}{i:Nat}{x:Str}{v:V}{u:Value}{Q:Unit->Shared->Prop}(I:Inv X pins σ H s)(hN:X.N.Nodup)(hi:X.N[i]?=some x)(hx:Loc X.env.scope x)(r:RelV v u)
 (h:∀s',Inv X pins (σ.set i (some v)) H s'->(∃a,Heap.SameBut a s.heap s'.heap/\(a=X.env.locals\/X.env.cells.lookup x=some a))->Q () s') (hf:X.fn x=true\/X.env.scope.names.lookup x=some .local:=by first|exact .inl rfl|exact .inr rfl|assumption):wpAny M A (storeName X.env x u) Q E s:=by
 obtain⟨m,hn,hl⟩:=id I.loc
 have hcls:(X.env.scope.kind== .class||(X.env.scope.kind== .module&&X.env.locals !=X.env.globals))=false:=by rw[I.ok.kind];rfl
 have hiσ:i<σ.length:=by rw[I.len];exact(List.getElem?_eq_some_iff.mp hi).1
 have cne:=I.cne
 have tracked:∀{a:Addr} {h':Heap},(∃o,s.heap.get? a=some o/\H a=none)->Heap.SameBut a s.heap h'->HOk X.prog X.w H h':=λ{a h'} ha hs b ob e=>by
  obtain⟨_,_,hfree⟩:=ha
  refine(I.hok b ob e).stay (λc w' hc q=>(hs.2 c ?_).trans q) (λ_ q=>q) λ_ _ q=>q
  rintro rfl
  rcases hc with rfl|hc
  ·rw[hfree] at e;cases e
  ·rw[hfree] at hc;cases hc
 rcases hx with hk|hk
 ·refine wpAny_storeName_local hk hn (λh' hn' hs=>?_) hcls
  obtain⟨oL,_,_,hoL,_⟩:=id hn
  refine h _ ⟨I.ok,I.os,I.bare,⟨λb o e n hb hx=>?_,λb o e n hb hx=>?_,I.base.free,λb o e hx=>?_,I.base.tups,I.base.frzs,I.base.tbls⟩,⟨_,hn',λj y v' e1 e2 e3=>?_⟩,λy c e=>?_,I.free,I.freeC,λp hp=>?_,tracked ⟨oL,hoL,I.free⟩ hs,by simpa using I.len⟩ ⟨_,hs, .inl rfl⟩
  ·exact (hs.2 b (Nat.ne_of_lt (Nat.lt_of_lt_of_le (Heap.lt_size e) I.ok.above))).trans (I.base.keep b o e n hb hx)
  ·obtain ⟨sl,e1⟩:=I.base.slot b o e n hb hx
   exact⟨sl,(hs.2 b (Nat.ne_of_lt (Nat.lt_of_lt_of_le (Heap.lt_size e) I.ok.above))).trans e1⟩
  ·obtain ⟨o',e1⟩:=I.base.there b o e hx
   exact⟨o',(hs.2 b (Nat.ne_of_lt (Nat.lt_of_lt_of_le (Heap.lt_size e) I.ok.above))).trans e1⟩
  ·by_cases hj:j=i
   ·subst hj
    rw[hi] at e1;cases e1
    rw[List.getElem?_set_self hiσ] at e2
    cases e2
    exact⟨u,r, .inl ⟨hk,by simp⟩⟩
   ·rw[List.getElem?_set_ne (Ne.symm hj)] at e2
    obtain⟨u',r',q⟩:=hl j y v' e1 e2 e3
    refine⟨u',r',?_⟩
    rcases q with⟨k,e⟩|⟨k,c,e,z⟩
    ·refine .inl ⟨k,?_⟩
     have:y≠x:=λe=>hj (zic hN e1 (e▸hi))
     simp[this,e]
    ·exact .inr ⟨k,c,e,z.sameBut hs (cne y c e)⟩
  ·obtain ⟨w',z⟩:=I.cell y c e
   exact⟨w',z.sameBut hs (cne y c e)⟩
  ·obtain ⟨e,n,ne,nf,d⟩:=I.pin p hp
   exact⟨(hs.2 p.1 ne).trans e,n,ne,nf,d⟩
 ·have hfn:X.fn x=true:=by
   rcases hf with z|z
   ·exact z
   ·rw[z] at hk;cases hk
  obtain⟨c,hc⟩:=I.ok.has x (.inl hk)
  obtain⟨w',z⟩:=I.cell x c hc
  refine wpAny_storeName_cell I.ok.kind hk hc z (λh' hc' hs=>?_)
  obtain⟨oc,hoc,hocd⟩:=id z
  refine h {s with heap:=h'} ⟨I.ok,I.os,I.bare,⟨λb o e n hb hx=>?_,λb o e n hb hx=>?_,I.base.free,λb o e hx=>?_,I.base.tups,I.base.frzs,I.base.tbls⟩,⟨m,hn.sameBut hs (Ne.symm (cne x c hc)),λj y v' e1 e2 e3=>?_⟩,λy c' e=>?_,I.free,I.freeC,λp hp=>?_,tracked ⟨oc,hoc,I.freeC x c hc⟩ hs,by simpa using I.len⟩ ⟨c,hs, .inr hc⟩
  ·exact (hs.2 b (Nat.ne_of_lt (Nat.lt_of_lt_of_le (Heap.lt_size e) (I.ok.cab x c hfn hc)))).trans (I.base.keep b o e n hb hx)
  ·obtain ⟨sl,e1⟩:=I.base.slot b o e n hb hx
   exact⟨sl,(hs.2 b (Nat.ne_of_lt (Nat.lt_of_lt_of_le (Heap.lt_size e) (I.ok.cab x c hfn hc)))).trans e1⟩
  ·obtain ⟨o',e1⟩:=I.base.there b o e hx
   exact⟨o',(hs.2 b (Nat.ne_of_lt (Nat.lt_of_lt_of_le (Heap.lt_size e) (I.ok.cab x c hfn hc)))).trans e1⟩
  ·by_cases hj:j=i
   ·subst hj
    rw[hi] at e1;cases e1
    rw[List.getElem?_set_self hiσ] at e2
    cases e2
    exact⟨u,r, .inr ⟨.inl hk,c,hc,hc'⟩⟩
   ·rw[List.getElem?_set_ne (Ne.symm hj)] at e2
    obtain⟨u',r',q⟩:=hl j y v' e1 e2 e3
    refine⟨u',r',?_⟩
    rcases q with q|⟨k,c',e,z'⟩
    ·exact .inl q
    ·refine .inr ⟨k,c',e,z'.sameBut hs ?_⟩
     rintro rfl
     exact hj (zic hN e1 (I.ok.inj _ _ _ e hc▸hi))
  ·by_cases hcc:c'=c
   ·subst hcc;exact⟨_,hc'⟩
   ·obtain ⟨w2,z2⟩:=I.cell y c' e
    exact⟨w2,z2.sameBut hs hcc⟩
  ·obtain ⟨e,n,ne,nf,d⟩:=I.pin p hp
   refine⟨(hs.2 p.1 ?_).trans e,n,ne,nf,d⟩
   intro q
   rw[q,hoc] at e
   have q':oc=p.2:=Option.some.inj e
   exact d w' (by rw[←q'];exact hocd)
theorem zdn{M:Model}{A:Around}{E:Value->Shared->Prop}{i:Nat}{x:Str}{v:V}{u:Value}{Q:Unit->Shared->Prop}(I:Inv X pins σ H s)(hN:X.N.Nodup)(hi:X.N[i]?=some x)(hx:Loc X.env.scope x)(r:RelV v u)
 (h:∀s',Inv X pins (σ.set i (some v)) H s'->Q () s') (hf:X.fn x=true\/X.env.scope.names.lookup x=some .local:=by first|exact .inl rfl|exact .inr rfl|assumption):wpAny M A (storeName X.env x u) Q E s:=
 zk9 I hN hi hx r (λs' I' _=>h s' I') hf
theorem Inv.call'{s':Shared}{ch:List Addr}(I:Inv X pins σ H s)(ho:s'.os=s.os)(u:Un (frs X.stack) ch H H' s.heap s'.heap)(hok:HOk X.prog X.w H' s'.heap)(hg:AllBare s'.gens)
 (hch:∀b∈ch,(b∈X.ex\/X.s₀.heap.objs.size<=b)/\b≠X.env.locals/\(∀x c,X.env.cells.lookup x=some c->c≠b)/\∀p∈X.pn ++pins,p.1≠b):Inv X pins σ H' s':=by
 obtain⟨h',g',d',t',o'⟩:=s'
 have e:o'=s.os:=ho
 subst e
 exact I.call (g':=g') (t':=t') (d':=d') u hok hg hch
end
abbrev XK:=Value->Option Addr->Hp->Prop
abbrev St:=List (Option V)
abbrev VK:=V->Hp->Prop
abbrev TE:=St->Hp->VK->Prop
abbrev TT:=St->Hp->(Bool->Hp->Prop)->Prop
abbrev TA:=St->Hp->(List V->Hp->Prop)->Prop
structure Ends where
 nx:St->Hp->Prop
 rt:VK
 bk:St->Hp->Prop:=λ_ _=>False
 ct:St->Hp->Prop:=λ_ _=>False
abbrev TS:=Ends->St->Hp->Prop
def EP(X:Cx)(pins:List (Addr×Obj))(σ:St)(Q:VK)(u:Value)(s':Shared):Prop:=∃v H',Inv X pins σ H' s'/\RelV v u/\Q v H'
def TP(X:Cx)(pins:List (Addr×Obj))(σ:St)(Q:Bool->Hp->Prop)(b:Bool)(s':Shared):Prop:=∃H',Inv X pins σ H' s'/\Q b H'
def AP(X:Cx)(pins:List (Addr×Obj))(σ:St)(Q:List V->Hp->Prop)(us:List Value)(s':Shared):Prop:=∃vs H',Inv X pins σ H' s'/\Vals vs us/\Q vs H'
def SP(X:Cx)(pins:List (Addr×Obj))(D:Ends)(f:Flow)(s':Shared):Prop:=
 match f with
 | .next=>∃σ' H',Inv X pins σ' H' s'/\D.nx σ' H'
 | .brk=>∃σ' H',Inv X pins σ' H' s'/\D.bk σ' H'
 | .cont=>∃σ' H',Inv X pins σ' H' s'/\D.ct σ' H'
 | .ret u=>∃v σ' H',Inv X pins σ' H' s'/\RelV v u/\D.rt v H'
def PE(X:Cx)(e:Expr)(t:TE):Prop:=
 ∀(pins:List (Addr×Obj)) (s:Shared) (σ:St) (H:Hp) (Q:VK),Inv X pins σ H s->t σ H Q->wpAny (model X.prog X.w) X.A (eval e X.env) (EP X pins σ Q) X.xe s
def PT(X:Cx)(e:Expr)(t:TT):Prop:=
 ∀(pins:List (Addr×Obj)) (s:Shared) (σ:St) (H:Hp) (Q:Bool->Hp->Prop),Inv X pins σ H s->t σ H Q->wpAny (model X.prog X.w) X.A (isTrue e X.env (eval e X.env)) (TP X pins σ Q) X.xe s
def PW(X:Cx)(e:Expr)(t:TT):Prop:=
 ∀(whole:Sem Value) (pins:List (Addr×Obj)) (s:Shared) (σ:St) (H:Hp) (Q:Bool->Hp->Prop),Inv X pins σ H s->t σ H Q->wpAny (model X.prog X.w) X.A (isTrue e X.env whole) (TP X pins σ Q) X.xe s
theorem PW.pt{X:Cx}{e:Expr}{t:TT}(h:PW X e t):PT X e t:=h _
def PA(X:Cx)(es:List Expr)(t:TA):Prop:=
 ∀(pos:Pos) (pins:List (Addr×Obj)) (s:Shared) (σ:St) (H:Hp) (Q:List V->Hp->Prop),Inv X pins σ H s->t σ H Q->wpAny (model X.prog X.w) X.A (spliced (backTo pos (starEach es X.env))) (AP X pins σ Q) X.xe s
def PS(X:Cx)(st:Stmt)(t:TS):Prop:=
 ∀(pins:List (Addr×Obj)) (s:Shared) (σ:St) (H:Hp) (D:Ends),Inv X pins σ H s->t D σ H->wpAny (model X.prog X.w) X.A (exec st X.env) (SP X pins D) X.xe s
def PSs(X:Cx)(st:List Stmt)(t:TS):Prop:=
 ∀(pins:List (Addr×Obj)) (s:Shared) (σ:St) (H:Hp) (D:Ends),Inv X pins σ H s->t D σ H->wpAny (model X.prog X.w) X.A (execs st X.env) (SP X pins D) X.xe s
theorem thn{α:Type}{t:Sem α}{Q Q':α->Shared->Prop}{M:Model}{A:Around}{E:Value->Shared->Prop}{s:Shared}(h:wpAny M A t Q E s)(hQ:∀a s,Q a s->Q' a s):wpAny M A t Q' E s:=wpAny_mono h hQ λ_ _ x=>x
section
variable{X:Cx}
theorem bin{a b:Expr}{ta tb:TE}(ha:PE X a ta)(hb:PE X b tb){pins:List (Addr×Obj)}{s:Shared}{σ:St}{H:Hp}{R:V->V->Hp->Prop}(I:Inv X pins σ H s)(h:ta σ H λx H1=>tb σ H1 λy H2=>R x y H2)
 {α:Type} {Q:α->Shared->Prop} {f:Value->Value->Sem α}
 (hf:∀v u s2 x y H2,Inv X pins σ H2 s2->RelV x v->RelV y u->R x y H2->wpAny (model X.prog X.w) X.A (f v u) Q X.xe s2):
 wpAny (model X.prog X.w) X.A (eval a X.env) (λv s₁=>wpAny (model X.prog X.w) X.A (eval b X.env) (λu s₂=>wpAny (model X.prog X.w) X.A (f v u) Q X.xe s₂) X.xe s₁) X.xe s:=by
 refine thn (ha pins s σ H _ I h) λv s1 ⟨x,H1,I1,r1,q1⟩=>?_
 refine thn (hb pins s1 σ H1 _ I1 q1) λu s2 ⟨y,H2,I2,r2,q2⟩=>?_
 exact hf v u s2 x y H2 I2 r1 r2 q2
def zlT(i:Nat):TE:=λσ H Q=>∃v,σ[i]?=some (some v)/\Q v H
def tC(v:V):TE:=λ_ H Q=>Q v H
theorem zmQ{i:Nat}{x:Str}{pos:Pos}(hN:X.N[i]?=some x)(hv:Vis X.env.scope x)(hd:(x==("__debug__":Str))=false:=by decide)(hcd:(x==("__classdict__":Str))=false:=by decide):PE X (.Name x pos) (zlT i):=by
 intro pins s σ H Q I h
 obtain⟨v,e,h⟩:=h
 obtain⟨m,hn,hl⟩:=I.loc
 obtain⟨u,r,l⟩:=hl i x v hN e hv
 have fin:EP X pins σ Q u s:=⟨v,H,I,r,h⟩
 rcases l with⟨hk,hm⟩|⟨hk,c,hc,hcell⟩
 ·exact wpAny_Name (wpAny_loadName_local I.ok.kind hk hn hm fin) hd
 ·rcases hk with hk|hk
  ·exact wpAny_Name (wpAny_loadName_cell I.ok.kind hk hc hcell fin) hd
  ·exact wpAny_Name (wpAny_loadName_free I.ok.kind hk hc hcell fin hcd) hd
theorem znD{i j pos}:PE X (.Constant (.int i) j pos) (tC (.int i)):=λ_ _ _ H _ I h=>wpAny_Constant_int ⟨.int i,H,I.tok _,⟨_,rfl⟩,h⟩
theorem zpV{b j pos}:PE X (.Constant (.bool b) j pos) (tC (.bl b)):=λ_ _ _ H _ I h=>Constant_bool ⟨.bl b,H,I,rfl,h⟩
theorem zl4{j pos}:PE X (.Constant .none j pos) (tC .non):=λ_ _ _ H _ I h=>Constant_none ⟨.non,H,I,rfl,h⟩
theorem znz{x j pos}:PE X (.Constant (.str x) j pos) (tC (.str x)):=λ_ _ _ H _ I h=>Calls.Constant_str ⟨.str x,H,I.tok _,⟨_,rfl⟩,h⟩
def Gl(X:Cx)(x:Str):Prop:=X.env.kindOf x=some .globalImplicit
theorem zkR{E:Value->Shared->Prop}{pins:List (Addr×Obj)}{s:Shared}{σ:St}{H:Hp}{x:Str}{u:Value}{pos:Pos}{Q:Value->Shared->Prop}(I:Inv X pins σ H s)(hg:Gl X x)(hm:X.mg x=some u)(h:Q u s)
 (hd:(x==("__debug__":Str))=false:=by decide):wpAny (model X.prog X.w) X.A (eval (.Name x pos) X.env) Q E s:=
 Calls.Name_function_global I.ok.kind hg (Calls.loadGlobal_global (by rw[I.ok.glob];exact I.mod.glob.keeps I.bk) hm h) hd
theorem zcT{E:Value->Shared->Prop}{pins:List (Addr×Obj)}{s:Shared}{σ:St}{H:Hp}{x:Str}{u:Value}{pos:Pos}{Q:Value->Shared->Prop}(I:Inv X pins σ H s)(hg:Gl X x)(hm:X.mg x=none)(hv:bootBuiltins x=some u)(h:Q u s)
 (hn:x≠"__name__":=by decide) (hd:(x==("__debug__":Str))=false:=by decide):wpAny (model X.prog X.w) X.A (eval (.Name x pos) X.env) Q E s:=by
 obtain⟨mb,h1,h2⟩:=I.mod.blt
 exact Calls.Name_function_global I.ok.kind hg (Calls.loadGlobal_builtin (by rw[I.ok.glob];exact I.mod.glob.keeps I.bk) hm (by rw[I.ok.blt];exact h1.keeps I.bk) ((h2 x hn).trans hv) h) hd
theorem zn2{x:Str}{v:V}{u:Value}{pos:Pos}(hg:Gl X x)(hm:X.mg x=some u)(r:RelV v u)(hd:(x==("__debug__":Str))=false:=by decide):PE X (.Name x pos) (tC v):=
 λ_ _ _ H _ I h=>zkR I hg hm ⟨v,H,I,r,h⟩ hd
theorem zoN{x:Str}{v:V}{u:Value}{pos:Pos}(hg:Gl X x)(hm:X.mg x=none)(hv:bootBuiltins x=some u)(r:RelV v u)(hn:x≠"__name__":=by decide)(hd:(x==("__debug__":Str))=false:=by decide):PE X (.Name x pos) (tC v):=
 λ_ _ _ H _ I h=>zcT I hg hm hv ⟨v,H,I,r,h⟩ hn hd
variable{a b:Expr}{ta tb:TE}{pos:Pos}
def PC(X:Cx)(op:CmpOp)(a b:Expr)(t:TE):Prop:=
 ∀(pins:List (Addr×Obj)) (s:Shared) (σ:St) (H:Hp) (Q:VK),Inv X pins σ H s->t σ H Q->
  wpAny (model X.prog X.w) X.A (eval a X.env) (λv s₁=>wpAny (model X.prog X.w) X.A (eval b X.env) (λu s₂=>wpAny (model X.prog X.w) X.A (compareOp op v u) (EP X pins σ Q) X.xe s₂) X.xe s₁) X.xe s
def tB(t:TE):TT:=λσ H Q=>t σ H λx H1=>∃c,x= .bl c/\Q c H1
theorem pt_cmp{op:CmpOp}{t:TE}(h:PC X op a b t)(h1:behindInMarks op b=false:=by first|exact nobehind _ (by decide) (by decide)|rfl):PT X (.Compare a [op] [b] pos) (tB t):=by
 intro pins s σ H Q I hw
 refine wpAny_isTrue_Compare1 (thn (h pins s σ H _ I hw) λv s1 h1=>thn h1 λu s2 h2=>thn h2 λc s3 ⟨x,H1,I1,r1,q1⟩=>?_) h1
 obtain⟨d,rfl,q⟩:=q1
 cases r1
 exact wpAny_truthy_bool ⟨H1,I1,q⟩
theorem zqV{e:Expr}{t:TE}(h:PE X e t)(he:∀whole,isTrue e X.env whole=(do let v ←whole;standAt e.pos;holding [v] (truthy v)):=by intro _;rfl):PT X e (tB t):=by
 intro pins s σ H Q I hw
 refine isTrue_plain (thn (h pins s σ H _ I hw) λv s1 ⟨x,H1,I1,r1,q1⟩=>?_) (he _)
 obtain⟨d,rfl,q⟩:=q1
 cases r1
 exact wpAny_truthy_bool ⟨H1,I1,q⟩
variable{tA tB':TT}{rest:List Expr}
def zra(t u:TT):TT:=λσ H Q=>t σ H λc H1=>if c=true then u σ H1 Q else Q false H1
def tOr(t u:TT):TT:=λσ H Q=>t σ H λc H1=>if c=true then Q true H1 else u σ H1 Q
def zq9(t:TT):TT:=λσ H Q=>t σ H λc H1=>Q (!c) H1
theorem zom(ha:PT X a tA):PW X (.BoolOp .And [a] pos) tA:=by
 intro wh pins s σ H Q I h
 refine isTrue_and (thn (ha pins s σ H Q I h) λc s1 e=>?_)
 cases c with
 |true=>exact isTrue_and_nil e
 |false=>exact e
theorem zqK(ha:PT X a tA):PW X (.BoolOp .Or [a] pos) tA:=by
 intro wh pins s σ H Q I h
 refine isTrue_or (thn (ha pins s σ H Q I h) λc s1 e=>?_)
 cases c with
 |false=>exact isTrue_or_nil e
 |true=>exact e
theorem zpY(ha:PT X a tA)(hb:PW X (.BoolOp .And (b::rest) pos) tB'):PW X (.BoolOp .And (a::b::rest) pos) (zra tA tB'):=by
 intro wh pins s σ H Q I h
 refine isTrue_and (thn (ha pins s σ H _ I h) λc s1 ⟨H1,I1,q1⟩=>?_)
 cases c with
 |true=>exact hb wh pins s1 σ H1 Q I1 q1
 |false=>exact ⟨H1,I1,q1⟩
theorem zrp(ha:PT X a tA)(hb:PW X (.BoolOp .Or (b::rest) pos) tB'):PW X (.BoolOp .Or (a::b::rest) pos) (tOr tA tB'):=by
 intro wh pins s σ H Q I h
 refine isTrue_or (thn (ha pins s σ H _ I h) λc s1 ⟨H1,I1,q1⟩=>?_)
 cases c with
 |true=>exact ⟨H1,I1,q1⟩
 |false=>exact hb wh pins s1 σ H1 Q I1 q1
theorem zqT(ha:PT X a tA):PT X (.UnaryOp .Not a pos) (zq9 tA):=by
 intro pins s σ H Q I h
 exact isTrue_not (ha pins s σ H (λc H1=>Q (!c) H1) I h)
def zpJ(ta tb:TE):TE:=λσ H Q=>ta σ H λx H1=>∃c,x= .bl c/\if c=true then tb σ H1 Q else Q (.bl false) H1
def zpI(ta:TE):TE:=λσ H Q=>ta σ H λx H1=>∃c,x= .bl c/\Q (.bl (!c)) H1
theorem zqq{op}{t:TE}(h:PE X a t):PE X (.BoolOp op [a] pos) t:=λpins s σ H Q I hw=>BoolOp_one (h pins s σ H Q I hw)
theorem zqN(ha:PE X a ta)(hb:PE X (.BoolOp .And (b::rest) pos) tb):PE X (.BoolOp .And (a::b::rest) pos) (zpJ ta tb):=by
 intro pins s σ H Q I h
 refine BoolOp_and (thn (ha pins s σ H _ I h) λv s1 ⟨x,H1,I1,r1,q1⟩=>?_)
 obtain⟨c,rfl,q1⟩:=q1
 cases r1
 refine wpAny_truthy_bool ?_
 cases c with
 |true=>exact hb pins s1 σ H1 Q I1 q1
 |false=>exact ⟨.bl false,H1,I1,rfl,q1⟩
theorem zqt(ha:PE X a ta):PE X (.UnaryOp .Not a pos) (zpI ta):=by
 intro pins s σ H Q I h
 refine UnaryOp_ (thn (ha pins s σ H _ I h) λv s1 ⟨x,H1,I1,r1,q1⟩=>?_)
 obtain⟨c,rfl,q1⟩:=q1
 cases r1
 exact not_of (wpAny_truthy_bool ⟨.bl (!c),H1,I1,rfl,q1⟩)
def tIf(t:TT)(ta tb:TE):TE:=λσ H Q=>t σ H λc H1=>if c=true then ta σ H1 Q else tb σ H1 Q
theorem zma{c:Expr}(hc:PT X c tA)(ha:PE X a ta)(hb:PE X b tb):PE X (.IfExp c a b pos) (tIf tA ta tb):=by
 intro pins s σ H Q I h
 refine wpAny_IfExp (thn (hc pins s σ H _ I h) λd s1 ⟨H1,I1,q1⟩=>?_)
 cases d with
 |true=>exact ha pins s1 σ H1 Q I1 q1
 |false=>exact hb pins s1 σ H1 Q I1 q1
end
def SqL(K:PySem.W.Frag)(H:Hp)(a:Addr)(xs:List V):Prop:=
 Rd H a (.lst xs)\/
  ∃(o:Obj) (its:Array Value) (n:Nat),K.lookup a=some o/\o.cls= .type "list"/\o.dict=none/\o.data= .seq its n/\its.size<=sizeLine/\Vals xs its.toList
def SqT(K:PySem.W.Frag)(H:Hp)(a:Addr)(xs:List V):Prop:=
 Rd H a (.tup xs)\/
  ∃(o:Obj) (its:Array Value) (n:Nat),K.lookup a=some o/\o.cls= .type "tuple"/\o.data= .seq its n/\its.size<=sizeLine/\Vals xs its.toList
def zrL:Value->Option V
 | .none=>some .non
 | .bool b=>some (.bl b)
 | .int i _=>some (.int i)
 | .str x _=>some (.str x)
 | .bytes b _=>some (.byt b)
 | .float b _=>some (.flt b)
 | .ref a=>some (.ref a)
 | .type n=>some (.ty n)
 |_=>none
theorem RelV.abs{x:V}{u:Value}(r:RelV x u):zrL u=some x:=by
 cases x with
 |non=>cases r;rfl
 |bl _=>cases r;rfl
 |int _=>obtain ⟨t,rfl⟩:=r;rfl
 |str _=>obtain ⟨t,rfl⟩:=r;rfl
 |byt _=>obtain ⟨t,rfl⟩:=r;rfl
 |flt _=>obtain ⟨t,rfl⟩:=r;rfl
 |ref _=>cases r;rfl
 |ty _=>cases r;rfl
theorem RelV.inj{x y:V}{u:Value}(r:RelV x u)(q:RelV y u):x=y:=Option.some.inj (r.abs.symm.trans q.abs)
theorem Vals.inj:∀{xs ys:List V} {us:List Value},Vals xs us->Vals ys us->xs=ys
 |_,_,_, .nil, .nil=>rfl
 |_,_,_, .cons r t, .cons r' t'=>by rw[r.inj r',Vals.inj t t']
section
variable{X:Cx}{pins:List (Addr×Obj)}{σ:St}{H:Hp}{s:Shared}{a:Addr}{xs ys:List V}
theorem SqL.of{K:PySem.W.Frag}(h:H a=some (.lst xs)):SqL K H a xs:= .inl (.inl h)
theorem SqT.of{K:PySem.W.Frag}(h:H a=some (.tup xs)):SqT K H a xs:= .inl (.inl h)
theorem Inv.list(I:Inv X pins σ H s)(h:SqL X.K H a xs):∃its:List Value,Vals xs its/\PlainL s.heap a its.toArray/\xs.length<=sizeLine:=by
 rcases h with h|⟨o,its,n,hk,hc,hd,hs,hz,r⟩
 ·obtain ⟨z,its,n,r,e⟩:=h.ok I.hok
  exact⟨its,r,⟨_,n,e,rfl,rfl,rfl⟩,z⟩
 ·refine ⟨its.toList,r,⟨o,n,I.kIn a o hk,hc,hd,by simpa using hs⟩,?_⟩
  have e:=r.length
  simp only[Array.length_toList] at e
  omega
theorem Inv.tuple(I:Inv X pins σ H s)(h:SqT X.K H a xs):∃its:List Value,Vals xs its/\IsTup s.heap a its.toArray/\xs.length<=sizeLine:=by
 rcases h with h|⟨o,its,n,hk,hc,hs,hz,r⟩
 ·obtain ⟨z,its,r,p,_⟩:=h.ok I.hok
  exact⟨its,r,p,z⟩
 ·refine ⟨its.toList,r,⟨o,I.kIn a o hk,hc,n,by simpa using hs⟩,?_⟩
  have e:=r.length
  simp only[Array.length_toList] at e
  omega
theorem Inv.list_inj(I:Inv X pins σ H s)(h:SqL X.K H a xs)(h':SqL X.K H a ys):xs=ys:=by
 obtain⟨its,r,⟨o,n,e,_,_,d⟩,_⟩:=I.list h
 obtain⟨its',r',⟨o',n',e',_,_,d'⟩,_⟩:=I.list h'
 rw[e] at e';cases e'
 rw[d] at d'
 injection d' with d1 _
 have:its=its':=by simpa using congrArg Array.toList d1
 subst this
 exact r.inj r'
theorem Inv.tuple_inj(I:Inv X pins σ H s)(h:SqT X.K H a xs)(h':SqT X.K H a ys):xs=ys:=by
 obtain⟨its,r,⟨o,e,_,n,d⟩,_⟩:=I.tuple h
 obtain⟨its',r',⟨o',e',_,n',d'⟩,_⟩:=I.tuple h'
 rw[e] at e';cases e'
 rw[d] at d'
 injection d' with d1 _
 have:its=its':=by simpa using congrArg Array.toList d1
 subst this
 exact r.inj r'
end
abbrev Cx.wish(X:Cx)(E:Value->Shared->Prop):Cx:={X with xe:=E}
abbrev Cx.nox(X:Cx):Cx:=X.wish λ_ _=>False
theorem Cx.Ok.wish{X:Cx}(ok:X.Ok)(E:Value->Shared->Prop):(X.wish E).Ok:=
 ⟨ok.mod,ok.kind,ok.glob,ok.blt,ok.above,ok.inj,ok.has,ok.cab,ok.hd,ok.frames,ok.stk,ok.exf,ok.bs,ok.bsz,ok.noex,ok.exfs,ok.funs,ok.frf⟩
theorem Cx.Ok.unwish{X:Cx}{E:Value->Shared->Prop}(ok:(X.wish E).Ok):X.Ok:=
 ⟨ok.mod,ok.kind,ok.glob,ok.blt,ok.above,ok.inj,ok.has,ok.cab,ok.hd,ok.frames,ok.stk,ok.exf,ok.bs,ok.bsz,ok.noex,ok.exfs,ok.funs,ok.frf⟩
section
variable{X:Cx}{pins:List (Addr×Obj)}{σ:St}{H:Hp}{s:Shared}{E:Value->Shared->Prop}
theorem Inv.wish(I:Inv X pins σ H s)(E:Value->Shared->Prop):Inv (X.wish E) pins σ H s:=⟨I.ok.wish E,I.os,I.bare,I.base,I.loc,I.cell,I.free,I.freeC,I.pin,I.hok,I.len⟩
theorem Inv.unwish(I:Inv (X.wish E) pins σ H s):Inv X pins σ H s:=⟨I.ok.unwish,I.os,I.bare,I.base,I.loc,I.cell,I.free,I.freeC,I.pin,I.hok,I.len⟩
theorem SP.unwish{D:Ends}{f:Flow}{s':Shared}(h:SP (X.wish E) pins D f s'):SP X pins D f s':=by
 cases f with
 |next=>obtain ⟨σ',H',I,q⟩:=h;exact⟨σ',H',I.unwish,q⟩
 |brk=>obtain ⟨σ',H',I,q⟩:=h;exact⟨σ',H',I.unwish,q⟩
 |cont=>obtain ⟨σ',H',I,q⟩:=h;exact⟨σ',H',I.unwish,q⟩
 |ret u=>obtain ⟨v,σ',H',I,r,q⟩:=h;exact⟨v,σ',H',I.unwish,r,q⟩
theorem PSs.nox{st:List Stmt}{t:TS}(h:PSs X.nox st t):PSs X st t:=λpins s σ H D I hw=>
 wpAny_mono (h pins s σ H D (I.wish _) hw) (λ_ _ q=>q.unwish) λ_ _ z=>False.elim z
end
section
variable{X:Cx}{st:Stmt}{rest:List Stmt}{t u:TS}{e:Expr}{te:TE}{pos:Pos}
def zpO:TS:=λD σ H=>D.nx σ H
def zql(t u:TS):TS:=λD σ H=>t {D with nx:=u D} σ H
theorem zo8:PSs X [] zpO:=λ_ _ σ H _ I h=>wpAny_execs_nil ⟨σ,H,I,h⟩
theorem zis(h1:PS X st t)(h2:PSs X rest u):PSs X (st::rest) (zql t u):=by
 intro pins s σ H D I h
 refine wpAny_execs_cons (thn (h1 pins s σ H {D with nx:=u D} I h) λf s1 q=>?_)
 cases f with
 |next=>
  obtain⟨σ',H',I',q⟩:=q
  exact h2 pins s1 σ' H' D I' q
 |ret v=>exact q
 |brk=>exact q
 |cont=>exact q
theorem zoU(h1:PS X st t):PSs X [st] t:=by
 intro pins s σ H D I h
 refine wpAny_execs_cons (thn (h1 pins s σ H D I h) λf s1 q=>?_)
 cases f with
 |next=>exact wpAny_execs_nil q
 |ret v=>exact q
 |brk=>exact q
 |cont=>exact q
def zpq:TS:=λD σ H=>D.ct σ H
theorem ziK:PS X (.Continue pos) zpq:=λ_ _ σ H _ I h=>wpAny_Continue ⟨σ,H,I,h⟩
theorem Inv.quiet{pins:List (Addr×Obj)}{σ:St}{H:Hp}{s:Shared}(I:Inv X pins σ H s):interactive X.env=false:=by simp[interactive,I.ok.kind]
def zpT(te:TE):TS:=λD σ H=>te σ H λ_ H1=>D.nx σ H1
theorem zow(he:PE X e te)(hs:swapsWith e none pos.line X.env=pure false:=by rfl):PS X (.Expr e pos) (zpT te):=by
 intro pins s σ H D I h
 exact wpAny_Expr_any (thn (he pins s σ H _ I h) λv s1 ⟨x,H1,I1,r1,q1⟩=>⟨σ,H1,I1,q1⟩) I.quiet hs
def zrF(te:TE):TS:=λD σ H=>te σ H D.rt
theorem zq6(he:PE X e te):PS X (.Return (some e) pos) (zrF te):=by
 intro pins s σ H D I h
 exact wpAny_Return_some (thn (he pins s σ H _ I h) λv s1 ⟨x,H1,I1,r1,q1⟩=>⟨x,σ,H1,I1,r1,q1⟩)
def zq8(c:TT)(t u:TS):TS:=λD σ H=>c σ H λb H1=>if b=true then t D σ H1 else u D σ H1
theorem zrb{c:Expr}{a b:List Stmt}{tc:TT}(hc:PT X c tc)(ha:PSs X a t)(hb:PSs X b u):PS X (.If c a b pos) (zq8 tc t u):=by
 intro pins s σ H D I h
 refine wpAny_If (thn (hc pins s σ H _ I h) λd s1 ⟨H1,I1,q1⟩=>?_)
 cases d with
 |true=>exact ha pins s1 σ H1 D I1 q1
 |false=>exact hb pins s1 σ H1 D I1 q1
end
abbrev TG:=V->St->Hp->(St->Hp->Prop)->Prop
abbrev TGs:=List V->St->Hp->(St->Hp->Prop)->Prop
def PG(X:Cx)(target:Expr)(t:TG):Prop:=
 ∀(pins:List (Addr×Obj)) (s:Shared) (σ:St) (H:Hp) (v:V) (u:Value) (Q:St->Hp->Prop),Inv X pins σ H s->RelV v u->t v σ H Q->
  wpAny (model X.prog X.w) X.A (assign target X.env u) (λ_ s'=>∃σ' H',Inv X pins σ' H' s'/\Q σ' H') X.xe s
def PGs(X:Cx)(ts:List Expr)(t:TGs):Prop:=
 ∀(pins:List (Addr×Obj)) (s:Shared) (σ:St) (H:Hp) (vs:List V) (us:List Value) (Q:St->Hp->Prop),Inv X pins σ H s->Vals vs us->t vs σ H Q->
  wpAny (model X.prog X.w) X.A (assignInOrder ((assignEach ts X.env).map (·.2)) us) (λ_ s'=>∃σ' H',Inv X pins σ' H' s'/\Q σ' H') X.xe s
abbrev zn0:=V->V->V->Hp->(Hp->Prop)->Prop
def zqb(X:Cx)(t:zn0):Prop:=
 ∀(pins:List (Addr×Obj)) (s:Shared) (σ:St) (H:Hp) (o i v:V) (ov iv u:Value) (Q:Hp->Prop),Inv X pins σ H s->RelV o ov->RelV i iv->RelV v u->t o i v H Q->
  wpAny (model X.prog X.w) X.A (setItem ov iv u) (λ_ s'=>∃H',Inv X pins σ H' s'/\Q H') X.xe s
section
variable{X:Cx}{pos:Pos}
def zap(i:Nat):TG:=λv σ H Q=>Q (σ.set i (some v)) H
theorem zj7{i:Nat}{x:Str}(hN:X.N.Nodup)(hi:X.N[i]?=some x)(hx:Loc X.env.scope x)(hf:X.fn x=true\/X.env.scope.names.lookup x=some .local:=by first|exact .inl rfl|exact .inr rfl|assumption):PG X (.Name x pos) (zap i):=by
 intro pins s σ H v u Q I r h
 exact wpAny_assign_Name (zdn I hN hi hx r (λs' I'=>⟨_,H,I',h⟩) hf)
def zrd:TGs:=λvs σ H Q=>vs=[]/\Q σ H
def zpP(t:TG)(u:TGs):TGs:=λvs σ H Q=>∃v r,vs=v::r/\t v σ H λσ' H'=>u r σ' H' Q
theorem zoQ:PGs X [] zrd:=by
 intro pins s σ H vs us Q I r h
 obtain⟨e,h⟩:=h
 subst e
 cases r
 exact assignInOrder_nil ⟨σ,H,I,h⟩
theorem zmY{e:Expr}{es:List Expr}{t:TG}{u:TGs}(h1:PG X e t)(h2:PGs X es u)
 (hs:(assignEach (e::es) X.env).map (·.2)=assign e X.env::(assignEach es X.env).map (·.2):=by rfl):PGs X (e::es) (zpP t u):=by
 intro pins s σ H vs us Q I r h
 obtain⟨v,vr,e1,h⟩:=h
 subst e1
 cases r with
 |cons r rr=>
  rw[hs]
  refine assignInOrder_cons (thn (h1 pins s σ H _ _ _ I r h) λ_ s1 ⟨σ1,H1,I1,q1⟩=>?_)
  exact h2 pins s1 σ1 H1 _ _ Q I1 rr q1
def zqH(K:PySem.W.Frag)(n:Nat)(t:TGs):TG:=λv σ H Q=>∃a xs,v= .ref a/\SqT K H a xs/\xs.length=n/\t xs σ H Q
theorem zq7{es:List Expr}{k:Nat}{t:TGs}{n:Nat}(hc:X.calm=true)(h:PGs X es t)
 (hn:(assignEach es X.env).length=n:=by rfl) (hst:(assignEach es X.env).findIdx? (·.1)=none:=by rfl):PG X (.Tuple es k pos) (zqH X.K n t):=by
 intro pins s σ H v u Q I r hw
 obtain⟨a,xs,e1,hq,hl,hw⟩:=hw
 subst e1
 cases r
 obtain⟨its,rv,ht,hz⟩:=I.tuple hq
 refine assign_Tuple_tuple (I.ok.hd hc) ht (by simp[hn,←hl,rv.length]) hst λh' hx=>?_
 have I1:Inv X pins σ H {s with heap:=h'}:=I.kept (t':=s.toks) λb o e=>hx b o (Nat.ne_of_lt (Heap.lt_size e)) e
 exact h pins _ σ H xs _ Q I1 (by simpa using rv) hw
def zrz(to ti:TE)(t:zn0):TG:=λv σ H Q=>to σ H λo H1=>ti σ H1 λi H2=>t o i v H2 λH3=>Q σ H3
theorem zp8{o i:Expr}{to ti:TE}{t:zn0}(ho:PE X o to)(hi:PE X i ti)(hs:zqb X t)
 (ha:∀v,assign (.Subscript o i pos) X.env v=(do
   let ov ←holding [v] (eval o X.env)
   let iv ←holding [v,ov] (eval i X.env)
   standAt pos
   holding [v,ov,iv] (setItem ov iv v)
   release [v,ov,iv] []):=by intro _;rfl):PG X (.Subscript o i pos) (zrz to ti t):=by
 intro pins s σ H v u Q I r h
 rw[ha]
 refine wpAny_bind (wpAny_holding (thn (ho pins s σ H _ I h) λov s1 ⟨x,H1,I1,r1,q1⟩=>?_))
 refine wpAny_bind (wpAny_holding (thn (hi pins s1 σ H1 _ I1 q1) λiv s2 ⟨y,H2,I2,r2,q2⟩=>?_))
 refine wpAny_bind (wpAny_standAt (wpAny_bind (wpAny_holding (thn (hs pins s2 σ H2 x y v ov iv u _ I2 r1 r2 r q2) λ_ s3 ⟨H3,I3,q3⟩=>?_))))
 exact wpAny_release ⟨σ,H3,I3,q3⟩
def zjM(te:TE)(g:TG):TS:=λD σ H=>te σ H λx H1=>g x σ H1 D.nx
theorem zqg{tg e:Expr}{te:TE}{g:TG}(he:PE X e te)(hg:PG X tg g)(hs:swapsWithSole [tg] e pos.line X.env=pure false:=by rfl)(hw:swappedStores [tg] e X.env=pure none:=by rfl)
 (h1:(assignEach [tg] X.env).map (·.2)=[assign tg X.env]:=by rfl):PS X (.Assign [tg] e pos) (zjM te g):=by
 intro pins s σ H D I h
 refine wpAny_Assign_stores (thn (he pins s σ H _ I h) λv s1 ⟨x,H1,I1,r1,q1⟩=>?_) hs hw
 rw[h1]
 exact thn (hg pins s1 σ H1 x v _ I1 r1 q1) λ_ s2 q=>q
theorem zmn{i:Nat}{x:Str}{e:Expr}{te:TE}{pos':Pos}(hN:X.N.Nodup)(hi:X.N[i]?=some x)(hx:Loc X.env.scope x)(he:PE X e te)(hs:swapsWith e (some (.Name x pos')) pos.line X.env=pure false:=by rfl)(hf:X.fn x=true\/X.env.scope.names.lookup x=some .local:=by first|exact .inl rfl|exact .inr rfl|assumption):
 PS X (.Assign [.Name x pos'] e pos) (zjM te (zap i)):=by
 intro pins s σ H D I h
 refine wpAny_Assign_Name (thn (he pins s σ H _ I h) λv s1 ⟨y,H1,I1,r1,q1⟩=>?_) hs
 exact zdn I1 hN hi hx r1 (λs2 I2=>⟨_,H1,I2,q1⟩) hf
def zrC(i j:Nat)(ta:TA):TS:=λD σ H=>ta σ H λvs H1=>∃v w,vs=[v,w]/\D.nx ((σ.set i (some v)).set j (some w)) H1
theorem zp1{i j:Nat}{x y:Str}{a b:Expr}{ta:TA}{px py pt:Pos}{kt k2 pt2}(hc:X.calm=true)(hN:X.N.Nodup)(hi:X.N[i]?=some x)(hj:X.N[j]?=some y)(hij:i≠j)
 (hx:X.env.scope.names.lookup x=some .local) (hy:X.env.scope.names.lookup y=some .local) (ha:PA X [a,b] ta)
 (hw:swappedStores [.Tuple [.Name x px, .Name y py] kt pt] (.Tuple [a,b] k2 pt2) X.env=pure (some [x,y]))
 (hs:swapsWithSole [.Tuple [.Name x px, .Name y py] kt pt] (.Tuple [a,b] k2 pt2) pos.line X.env=pure false:=by rfl):
 PS X (.Assign [.Tuple [.Name x px, .Name y py] kt pt] (.Tuple [a,b] k2 pt2) pos) (zrC i j ta):=by
 intro pins s σ H D I h
 rw[exec_Assign_arm]
 refine wpAny_bind (wpAny_standAt ?_)
 rw[hs]
 refine wpAny_bind (wpAny_pure ?_)
 rw[if_neg (by decide)]
 refine wpAny_bind (Tuple_ (thn (ha _ pins s σ H _ I h) λus s1 ⟨vs,H1,I1,r1,q1⟩=>?_))
 obtain⟨v,w,e1,q1⟩:=q1
 subst e1
 obtain⟨u1,u2,rfl,rv,rw'⟩:∃u1 u2,us=[u1,u2]/\RelV v u1/\RelV w u2:=by
  cases r1 with
  |cons p q=>
   cases q with
   |cons p' q'=>
    cases q'
    exact⟨_,_,rfl,p,p'⟩
 refine wpAny_newObj_type ?_ (by show 2<=sizeLine;decide)
 have I2:Inv X pins σ H1 {s1 with heap:=s1.heap.push {cls:= .type "tuple",data:= .seq [u1,u2].toArray}}:=I1.kept (t':=s1.toks) λb o e=>Heap.get?_push_of_some _ e
 rw[hw]
 refine wpAny_bind (wpAny_pure ?_)
 show wpAny (model X.prog X.w) X.A (do rule "assign.swapped-stores";let items ←unpackItems (.ref s1.heap.objs.size) 2 none;assignInOrder [λv=>bindName X.env y v,λv=>bindName X.env x v] items.reverse;pure Flow.next) _ _ _
 refine wpAny_bind (wpAny_rule (wpAny_bind (unpackItems_tuple (items:= #[u1,u2]) (I.ok.hd hc) (IsTup.new s1.heap _) λh' hx'=>?_)))
 have I3:=I2.kept (h':=h') (t':=s1.toks) λb o e=>hx' b o (Nat.ne_of_lt (Heap.lt_size e)) e
 show wpAny _ _ (assignInOrder [λv=>bindName X.env y v,λv=>bindName X.env x v] [u2,u1]>>=λ_=>pure Flow.next) _ _ _
 refine wpAny_bind (assignInOrder_cons (wpAny_bindName (zdn I3 hN hj (.inl hy) rw' (λs2 I4=>?_) (.inr hy))))
 refine assignInOrder_cons (wpAny_bindName (zdn I4 hN hi (.inl hx) rv (λs3 I5=>assignInOrder_nil (wpAny_pure ?_)) (.inr hx)))
 rw[List.set_comm _ _ (Ne.symm hij)] at I5
 exact⟨_,H1,I5,q1⟩
end
section
variable{X:Cx}{pos:Pos}
def zns(c:TT)(tb:TS):TS:=λD σ H=>∃W:Nat->St->Hp->Prop,(∃m,W m σ H)/\∀m σ H,W m σ H->
 c σ H λb H1=>if b=true then∃N:St->Hp->Prop,(∀σ' H',N σ' H'->∃m',m'<m/\W m' σ' H')/\tb {D with nx:=N,ct:=N,bk:=D.nx} σ H1 else D.nx σ H1
theorem znI{c:Expr}{body:List Stmt}{tc:TT}{tb:TS}(hp:PassesOwn (model X.prog X.w) X.A X.env X.xe)(hc:PT X c tc)(hb:PSs X body tb):PS X (.While c body [] pos) (zns tc tb):=by
 intro pins s σ H D I h
 obtain⟨W,⟨m0,w0⟩,turn⟩:=h
 refine wpAny_While (codeAny_whileLoop (λn s'=>∃σ' H',Inv X pins σ' H' s'/\W n σ' H') ?_ m0 ⟨σ,H,I,w0⟩)
 rintro n s1 ⟨σ1,H1,I1,w1⟩
 refine wpAny_passesOwn hp (thn (hc pins s1 σ1 H1 _ I1 (turn n σ1 H1 w1)) λb s2 ⟨H2,I2,q2⟩=>?_)
 cases b with
 |true=>
  obtain⟨N,hN,q2⟩:=q2
  rw[if_pos rfl]
  refine wpAny_passesOwn hp (thn (hb pins s2 σ1 H2 _ I2 q2) λf s3 q3=>?_)
  cases f with
  |next=>
   obtain⟨σ3,H3,I3,n3⟩:=q3
   obtain⟨m',hm,w3⟩:=hN σ3 H3 n3
   exact⟨m',hm,σ3,H3,I3,w3⟩
  |cont=>
   obtain⟨σ3,H3,I3,n3⟩:=q3
   obtain⟨m',hm,w3⟩:=hN σ3 H3 n3
   exact⟨m',hm,σ3,H3,I3,w3⟩
  |brk=>exact q3
  |ret v=>exact q3
 |false=>
  rw[if_neg Bool.false_ne_true]
  exact wpAny_execs_nil ⟨σ1,H2,I2,q2⟩
end
structure It where
 go:Nat->Hp->Prop
 yld:Nat->Hp->V->Hp->Prop
 stop:Nat->Hp->Prop
def zeA(X:Cx)(pins:List (Addr×Obj))(H:Hp)(b:Addr):Prop:=
 H b=none/\b≠X.env.locals/\b∉X.fs/\(b∈X.ex\/X.s₀.heap.objs.size<=b)/\(∀x c,X.env.cells.lookup x=some c->c≠b)/\∀p∈X.pn ++pins,p.1≠b
theorem Inv.fpOk{X:Cx}{pins:List (Addr×Obj)}{σ:St}{H H':Hp}{s:Shared}{b:Addr}(I:Inv X pins σ H s)(hb:s.heap.objs.size<=b)(hn:H' b=none):zeA X pins H' b:=by
 refine⟨hn,Nat.ne_of_gt (Nat.lt_of_lt_of_le I.lt hb),I.nofs hb, .inr (Nat.le_trans I.sz hb),λx c e z=>?_,λp hp z=>?_⟩
 ·obtain ⟨v,q⟩:=I.cell x c e
  exact absurd (Nat.lt_of_lt_of_le q.lt (by rw[z];exact hb)) (Nat.lt_irrefl _)
 ·exact absurd (Nat.lt_of_lt_of_le (Heap.lt_size (I.pin p hp).1) (by rw[z];exact hb)) (Nat.lt_irrefl _)
structure Turn(P:Program)(w:World)(K:PySem.W.Frag)(tg:Expr)(J:It)(fp:List Addr)(it:Addr)(tn:Nat->Heap->Prop):Prop where
 mem:it∈fp
 obj:∀i h,tn i h->∀b∈fp,∃o,h.get? b=some o/\∀v,o.data≠ .cell v
 keep:∀i h h',tn i h->(∀b∈fp,∀o,h.get? b=some o->h'.get? b=some o)->tn i h'
 item:∀(X:Cx),X.prog=P->X.w=w->X.K=K->X.calm=true->∀(i:Nat) (pins:List (Addr×Obj)) (s:Shared) (σ:St) (H:Hp) (E:Value->Shared->Prop),Inv X pins σ H s->(∀b∈fp,zeA X pins H b)->tn i s.heap->J.go i H->
  wpAny (model P w) X.A (pyNext (.ref it)) (λr s1=>∃u,r=some u/\
   wpAny (model P w) X.A (letOwnedTupleGo tg (.ref it) u) (λ_ s2=>∃x H',Inv X pins σ H' s2/\RelV x u/\J.yld i H x H'/\tn (i+1) s2.heap/\∀b∈fp,H' b=none) E s1) E s
 done:∀(X:Cx),X.prog=P->X.w=w->X.K=K->X.calm=true->∀(i:Nat) (pins:List (Addr×Obj)) (s:Shared) (σ:St) (H:Hp) (E:Value->Shared->Prop),Inv X pins σ H s->(∀b∈fp,zeA X pins H b)->tn i s.heap->J.stop i H->
   wpAny (model P w) X.A (pyNext (.ref it)) (λr s1=>r=none/\Inv X pins σ H s1) E s
 self:∀(A:Around) (i:Nat) (s:Shared) (Q:Value->Shared->Prop) (E:Value->Shared->Prop),tn i s.heap->Q (.ref it) s->wpAny (model P w) A (pyIter (.ref it)) Q E s
abbrev TI:=St->Hp->(It->Hp->Prop)->Prop
def PIE(X:Cx)(pins:List (Addr×Obj))(σ:St)(tg:Expr)(R:It->Hp->Prop)(itv:Value)(s2:Shared):Prop:=
 ∃(it:Addr) (fp:List Addr) (tn:Nat->Heap->Prop) (J:It) (H':Hp),itv= .ref it/\Inv X pins σ H' s2/\Turn X.prog X.w X.K tg J fp it tn/\tn 0 s2.heap/\(∀b∈fp,zeA X pins H' b)/\R J H'
def PI(X:Cx)(tg iter:Expr)(wi:TI):Prop:=
 ∀(pins:List (Addr×Obj)) (s:Shared) (σ:St) (H:Hp) (R:It->Hp->Prop),Inv X pins σ H s->wi σ H R->
  wpAny (model X.prog X.w) X.A (eval iter X.env) (λv s1=>wpAny (model X.prog X.w) X.A (pyIter v) (PIE X pins σ tg R) X.xe s1) X.xe s
theorem zgV{M:Model}{A:Around}{E:Value->Shared->Prop}{s:Shared}{tg:Expr}{it:Addr}{u:Value}{o:Obj}{n:String}{vs:Array Value}{Q:Unit->Shared->Prop}(ho:s.heap.get? it=some o)(hc:o.cls= .type n)(hd:o.data= .fields vs)
 (hn:["enumerate","zip","dict_itemiterator","dict_reverseitemiterator","odict_iterator","itertools.zip_longest","itertools.pairwise"].contains n=false) (hQ:Q () s):wpAny M A (letOwnedTupleGo tg (.ref it) u) Q E s:=by
 unfold letOwnedTupleGo
 cases tg<;>first
  |exact wpAny_pure hQ
  |(cases u<;>first
     |exact wpAny_pure hQ
     |(refine wpAny_bind (wpAny_load ho ?_)
       rw[hc,hd]
       show wpAny M A (if(["enumerate","zip","dict_itemiterator","dict_reverseitemiterator","odict_iterator","itertools.zip_longest","itertools.pairwise"].contains n&&vs[0]?==some (rawInt _))=true then _ else _) Q E s
       rw[if_neg (by intro h;rw[hn,Bool.false_and] at h;cases h)]
       exact wpAny_pure hQ))
def Itl(K:PySem.W.Frag)(a:Addr):It:=
 ⟨λi H=>∃xs x,SqL K H a xs/\xs[i]?=some x,λi H x H'=>H'=H/\∀xs,SqL K H a xs->xs[i]?=some x,λi H=>∃xs,SqL K H a xs/\xs.length<=i⟩
def Itt(K:PySem.W.Frag)(a:Addr):It:=
 ⟨λi H=>∃xs x,SqT K H a xs/\xs[i]?=some x,λi H x H'=>H'=H/\∀xs,SqT K H a xs->xs[i]?=some x,λi H=>∃xs,SqT K H a xs/\xs.length<=i⟩
def Itr(lo:Int)(n:Nat):It:=⟨λi _=>i<n,λi H x H'=>H'=H/\x= .int (lo+i),λi _=>n<=i⟩
theorem zlk{P:Program}{w:World}{K:PySem.W.Frag}{tg:Expr}(a it:Addr):Turn P w K tg (Itl K a) [it] it (λi h=>h.IsListIter it a i) where
 mem:=by simp
 obj:=λi h st b hb=>by
  have e:b=it:=by simpa using hb
  subst e
  obtain⟨o,e,c,d⟩:=st
  exact⟨o,e,λv z=>by rw[d] at z;cases z⟩
 keep:=λi h h' st k=>st.at λo e=>k it (by simp) o e
 item:=by
  intro X hP hw hK hc i pins s σ H E I hf st hg
  subst hP hw hK
  obtain⟨xs,x,hq,hx⟩:=hg
  obtain⟨its,rv,p,hz⟩:=I.list hq
  obtain⟨u,hu,ru⟩:=rv.get hx
  obtain⟨f0,f1,f2,f3,f4,f5⟩:=hf it (by simp)
  refine wpAny_pyNext_list_item st p.isList (x:=u) (by simpa using hu) λh' st' sb=>?_
  have I1:Inv X pins σ H {s with heap:=h'}:=I.turned (t':=s.toks) (λb o hb e=>(sb.2 b hb).trans e) f0 f1 f3 f4 f5
  obtain⟨o,e,c,d⟩:=id st'
  exact⟨u,rfl,zgV (s:={s with heap:=h'}) e c d (by decide) ⟨x,H,I1,ru,⟨rfl,λys hy=>by rw[I.list_inj hy hq];exact hx⟩,st',λb hb=>(hf b hb).1⟩⟩
 done:=by
   intro X hP hw hK hc i pins s σ H E I hf st hg
   subst hP hw hK
   obtain⟨xs,hq,hx⟩:=hg
   obtain⟨its,rv,p,hz⟩:=I.list hq
   obtain⟨f0,f1,f2,f3,f4,f5⟩:=hf it (by simp)
   have hl:=rv.length
   exact wpAny_pyNext_list_end (I.ok.hd hc) st p.isList (by simp;omega) λh' eb=>⟨rfl,I.turned (t':=s.toks) (λb o hb e=>eb b o hb e) f0 f1 f3 f4 f5⟩
 self:=λ_ _ _ _ _ st h=>wpAny_pyIter_listiter st h
theorem zjw{P:Program}{w:World}{K:PySem.W.Frag}{tg:Expr}(a it:Addr):Turn P w K tg (Itt K a) [it] it (λi h=>h.IsTupleIter it a i) where
 mem:=by simp
 obj:=λi h st b hb=>by
  have e:b=it:=by simpa using hb
  subst e
  obtain⟨o,e,c,d⟩:=st
  exact⟨o,e,λv z=>by rw[d] at z;cases z⟩
 keep:=λi h h' st k=>st.at λo e=>k it (by simp) o e
 item:=by
  intro X hP hw hK hc i pins s σ H E I hf st hg
  subst hP hw hK
  obtain⟨xs,x,hq,hx⟩:=hg
  obtain⟨its,rv,p,hz⟩:=I.tuple hq
  obtain⟨u,hu,ru⟩:=rv.get hx
  obtain⟨f0,f1,f2,f3,f4,f5⟩:=hf it (by simp)
  refine wpAny_pyNext_tuple_item st (show s.heap.IsTuple a its.toArray from p) (x:=u) (by simpa using hu) λh' st' sb=>?_
  have I1:Inv X pins σ H {s with heap:=h'}:=I.turned (t':=s.toks) (λb o hb e=>(sb.2 b hb).trans e) f0 f1 f3 f4 f5
  obtain⟨o,e,c,d⟩:=id st'
  exact⟨u,rfl,zgV (s:={s with heap:=h'}) e c d (by decide) ⟨x,H,I1,ru,⟨rfl,λys hy=>by rw[I.tuple_inj hy hq];exact hx⟩,st',λb hb=>(hf b hb).1⟩⟩
 done:=by
   intro X hP hw hK hc i pins s σ H E I hf st hg
   subst hP hw hK
   obtain⟨xs,hq,hx⟩:=hg
   obtain⟨its,rv,p,hz⟩:=I.tuple hq
   obtain⟨f0,f1,f2,f3,f4,f5⟩:=hf it (by simp)
   have hl:=rv.length
   exact wpAny_pyNext_tuple_end (I.ok.hd hc) st (show s.heap.IsTuple a its.toArray from p) (by simp;omega) λh' eb=>⟨rfl,I.turned (t':=s.toks) (λb o hb e=>eb b o hb e) f0 f1 f3 f4 f5⟩
 self:=λ_ _ _ _ _ st h=>wpAny_pyIter_tupleiter st h
theorem zi1{P:Program}{w:World}{K:PySem.W.Frag}{tg:Expr}(it:Addr)(lo:Int)(n:Nat):Turn P w K tg (Itr lo n) [it] it (λi h=>IsRangeIter h it (lo+(i:Nat)*1) ((n:Int) -(i:Nat)) 1) where
 mem:=by simp
 obj:=λi h st b hb=>by
  have e:b=it:=by simpa using hb
  subst e
  exact⟨_,st,λv z=>by
   have z':Data.fields _=Data.cell v:=z
   cases z'⟩
 keep:=λi h h' st k=>k it (by simp) _ st
 item:=by
  intro X hP hw hK hc i pins s σ H E I hf st hg
  subst hP hw hK
  obtain⟨f0,f1,f2,f3,f4,f5⟩:=hf it (by simp)
  have W:=Walks.range (prog:=X.prog) (w:=X.w) (I.ok.hd hc) it lo 1 n
  refine W.item i s _ _ hg st λv h' tk hv st' kk=>?_
  obtain⟨t,rfl⟩:=hv
  have I1:Inv X pins σ H {s with heap:=h',toks:=tk}:=I.turned (λb o hb e=>kk b o (by simpa using hb) e) f0 f1 f3 f4 f5
  refine⟨_,rfl,zgV (s:={s with heap:=h',toks:=tk}) (n:="range_iterator") st' rfl rfl (by decide) ⟨.int (lo+i),H,I1,⟨t,?_⟩,⟨rfl,rfl⟩,st',λb hb=>(hf b hb).1⟩⟩
  rw[Int.mul_one]
 done:=by
   intro X hP hw hK hc i pins s σ H E I hf st hg
   subst hP hw hK
   obtain⟨f0,f1,f2,f3,f4,f5⟩:=hf it (by simp)
   exact wpAny_pyNext_range_end (I.ok.hd hc) st (by have:n<=i:=hg;omega) λh' eb=>⟨rfl,I.turned (t':=s.toks) (λb o hb e=>eb b o hb e) f0 f1 f3 f4 f5⟩
 self:=λ_ _ _ _ _ st h=>wpAny_pyIter_rangeiter st h
section
variable{X:Cx}{tg:Expr}
def zio(K:PySem.W.Frag)(tl:TE):TI:=λσ H R=>tl σ H λx H1=>∃a,x= .ref a/\(∃xs,SqL K H1 a xs)/\R (Itl K a) H1
def zo3(K:PySem.W.Frag)(tl:TE):TI:=λσ H R=>tl σ H λx H1=>∃a,x= .ref a/\(∃xs,SqT K H1 a xs)/\R (Itt K a) H1
theorem zog{l:Expr}{tl:TE}(hl:PE X l tl):PI X tg l (zio X.K tl):=by
 intro pins s σ H R I h
 refine thn (hl pins s σ H _ I h) λv s1 ⟨x,H1,I1,r1,q1⟩=>?_
 obtain⟨a,e,⟨xs,hq⟩,q⟩:=q1
 subst e
 cases r1
 obtain⟨its,rv,p,hz⟩:=I1.list hq
 refine wpAny_pyIter_list p.isList ?_
 refine⟨s1.heap.objs.size,[s1.heap.objs.size],_,_,H1,rfl,I1.kept (t':=s1.toks) λb o e=>Heap.get?_push_of_some _ e,zlk a _,⟨_,Heap.get?_push_size _ rfl,rfl,rfl⟩,λb hb=>?_,q⟩
 have e:b=s1.heap.objs.size:=by simpa using hb
 subst e
 exact I1.fpOk (Nat.le_refl _) (I1.hok.fresh (Nat.le_refl _))
theorem zqp{l:Expr}{tl:TE}(hl:PE X l tl):PI X tg l (zo3 X.K tl):=by
 intro pins s σ H R I h
 refine thn (hl pins s σ H _ I h) λv s1 ⟨x,H1,I1,r1,q1⟩=>?_
 obtain⟨a,e,⟨xs,hq⟩,q⟩:=q1
 subst e
 cases r1
 obtain⟨its,rv,p,hz⟩:=I1.tuple hq
 refine wpAny_pyIter_tuple (show s1.heap.IsTuple a its.toArray from p) ?_
 refine⟨s1.heap.objs.size,[s1.heap.objs.size],_,_,H1,rfl,I1.kept (t':=s1.toks) λb o e=>Heap.get?_push_of_some _ e,zjw a _,⟨_,Heap.get?_push_size _ rfl,rfl,rfl⟩,λb hb=>?_,q⟩
 have e:b=s1.heap.objs.size:=by simpa using hb
 subst e
 exact I1.fpOk (Nat.le_refl _) (I1.hok.fresh (Nat.le_refl _))
theorem zir{pins:List (Addr×Obj)}{σ:St}{H:Hp}{s:Shared}{R:It->Hp->Prop}{E:Value->Shared->Prop}{lo hi:Int}{t u v:Tok}{tk:Nat}(I:Inv X pins σ H s)(h1: -(2^62)<=lo)(h2:lo<2^62)(h3: -(2^62)<=hi)(h4:hi<2^62)
 (q:R (Itr lo (hi -lo).toNat) H):wpAny (model X.prog X.w) X.A (pyIter (.ref s.heap.objs.size)) (PIE X pins σ tg R) E {s with heap:=s.heap.push {cls:= .type "range",data:= .fields #[.int lo t, .int hi u, .int 1 v]},toks:=tk}:=by
 refine wpAny_pyIter_range (IsRange.new ..) (small_one h1 h2 h3 h4) ?_
 have I1:Inv X pins σ H {s with heap:=s.heap.push {cls:= .type "range",data:= .fields #[.int lo t, .int hi u, .int 1 v]},toks:=tk}:=I.kept λb o e=>Heap.get?_push_of_some _ e
 refine⟨(s.heap.push {cls:= .type "range",data:= .fields #[.int lo t, .int hi u, .int 1 v]}).objs.size,[(s.heap.push {cls:= .type "range",data:= .fields #[.int lo t, .int hi u, .int 1 v]}).objs.size],_,_,H,rfl,
  I1.kept (t':=tk) λb o e=>Heap.get?_push_of_some _ e,zi1 _ lo (hi -lo).toNat,?_,λb hb=>?_,q⟩
 ·have e1:lo+((0:Nat):Int)*1=lo:=by simp
  have e2:(((hi -lo).toNat:Nat):Int) -((0:Nat):Int)=Builtin.Range.rangeSize lo hi 1:=by rw[rangeSize_one];split<;>omega
  show IsRangeIter _ _ (lo+((0:Nat):Int)*1) ((((hi -lo).toNat:Nat):Int) -((0:Nat):Int)) 1
  rw[e1,e2]
  exact Heap.get?_push_size _ rfl
 ·have e:b=(s.heap.push {cls:= .type "range",data:= .fields #[.int lo t, .int hi u, .int 1 v]}).objs.size:=by simpa using hb
  subst e
  exact I1.fpOk (Nat.le_refl _) (I1.hok.fresh (Nat.le_refl _))
def zpH(ta:TA):TI:=λσ H R=>ta σ H λvs H1=>∃j:Int,vs=[.int j]/\-(2^62)<=j/\j<2^62/\R (Itr 0 j.toNat) H1
def zpm(ta:TA):TI:=λσ H R=>ta σ H λvs H1=>∃i j:Int,vs=[.int i, .int j]/\(-(2^62)<=i/\i<2^62/\-(2^62)<=j/\j<2^62)/\R (Itr i (j -i).toNat) H1
theorem zls{a:Expr}{ta:TA}{p pos:Pos}(hg:Gl X "range")(hm:X.mg "range"=none)(ha:PA X [a] ta)(hs:starEach [a] X.env=[(false,eval a X.env)]:=by rfl):PI X tg (.Call (.Name "range" p) [a] [] pos) (zpH ta):=by
 intro pins s σ H R I h
 refine Call_ (zcT I hg hm boot_range (PyProof.Rows.callWith_type1 (thn (ha pos pins s σ H _ I h) λus s1 ⟨vs,H1,I1,r1,q1⟩=>?_) hs rfl))
 obtain⟨j,e,q1,q2,q⟩:=q1
 subst e
 cases r1 with
 |cons r rr=>
  cases rr
  obtain⟨t,rfl⟩:=r
  exact call_range_1 (zir I1 (by omega) (by omega) q1 q2 (by simpa using q))
theorem zlN{a b:Expr}{ta:TA}{p pos:Pos}(hg:Gl X "range")(hm:X.mg "range"=none)(ha:PA X [a,b] ta)(hs:starEach [a,b] X.env=[(false,eval a X.env),(false,eval b X.env)]:=by rfl)(hs2:starEach [b] X.env=[(false,eval b X.env)]:=by rfl):
 PI X tg (.Call (.Name "range" p) [a,b] [] pos) (zpm ta):=by
 intro pins s σ H R I h
 refine Call_ (zcT I hg hm boot_range (PyProof.Rows.callWith_type1 (thn (ha pos pins s σ H _ I h) λus s1 ⟨vs,H1,I1,r1,q1⟩=>?_) (by rw[hs,hs2]) (by rw[hs2];rfl)))
 obtain⟨i,j,e,⟨q1,q2,q3,q4⟩,q⟩:=q1
 subst e
 cases r1 with
 |cons r rr=>
  cases rr with
  |cons r' rr=>
   cases rr
   obtain⟨t,rfl⟩:=r
   obtain⟨t',rfl⟩:=r'
   exact call_range_2 (zir I1 q1 q2 q3 q4 q)
def zrP(wi:TI)(g:TG)(tb:TS):TS:=λD σ H=>wi σ H λJ H1=>∃W:Nat->Nat->St->Hp->Prop,(∃m,W 0 m σ H1)/\∀i m σ H,W i m σ H->
 (J.stop i H/\D.nx σ H)\/(J.go i H/\∃N:St->Hp->Prop,(∀σ' H',N σ' H'->∃m',m'<m/\W (i+1) m' σ' H')/\∀x H',J.yld i H x H'->g x σ H' λσ2 H2=>tb {D with nx:=N,ct:=N,bk:=D.nx} σ2 H2)
def zew(fp:List Addr)(h:Heap):List (Addr×Obj):=fp.filterMap λb=>(h.get? b).map λo=>(b,o)
theorem za9{fp:List Addr}{h:Heap}{b:Addr}{o:Obj}(hb:b∈fp)(e:h.get? b=some o):(b,o)∈zew fp h:=List.mem_filterMap.mpr ⟨b,hb,by rw[e];rfl⟩
theorem zln{fp:List Addr}{h:Heap}{p:Addr×Obj}(hp:p∈zew fp h):p.1∈fp/\h.get? p.1=some p.2:=by
 obtain⟨b,hb,e⟩:=List.mem_filterMap.mp hp
 cases q:h.get? b with
 |none=>rw[q] at e;cases e
 |some o=>
  rw[q] at e
  have e':(b,o)=p:=Option.some.inj e
  subst e'
  exact⟨hb,q⟩
theorem Inv.pinned{pins:List (Addr×Obj)}{σ:St}{H:Hp}{s:Shared}{fp:List Addr}(I:Inv X pins σ H s)(hf:∀b∈fp,zeA X pins H b)(ho:∀b∈fp,∃o,s.heap.get? b=some o/\∀v,o.data≠ .cell v):Inv X (pins ++zew fp s.heap) σ H s:=
 I.pins_of λp hp=>(List.mem_append.mp hp).elim (λz=>I.pin p (List.mem_append_right _ z)) λz=>by
  obtain⟨hb,e⟩:=zln z
  obtain⟨f0,f1,f2,_⟩:=hf p.1 hb
  obtain⟨o,e',d⟩:=ho p.1 hb
  rw[e] at e';cases e'
  exact⟨e,f0,f1,f2,d⟩
theorem Inv.unpinned{pins pl:List (Addr×Obj)}{σ:St}{H:Hp}{s:Shared}(I:Inv X (pins ++pl) σ H s):Inv X pins σ H s:=I.pins_of λp hp=>I.pin p (List.mem_append_right _ (List.mem_append_left _ hp))
theorem zqu{iter:Expr}{body:List Stmt}{wi:TI}{g:TG}{tb:TS}{pos:Pos}(hp:PassesOwn (model X.prog X.w) X.A X.env X.xe)(hc:X.calm=true)(hi:PI X tg iter wi)(hg:PG X tg g)(hb:PSs X body tb)
 (hs:∀x,foldedSetIterable iter X.env x=pure x:=by intro _;rfl):PS X (.For tg iter body [] pos) (zrP wi g tb):=by
 intro pins s σ H D I h
 refine wpAny_For (thn (hi pins s σ H _ I h) λv s1 h1=>thn h1 λitv s2 h2=>?_) hs
 obtain⟨it,fp,tn,J,H2,e,I2,T,st2,f2,W,⟨m0,w0⟩,turn⟩:=h2
 subst e
 have stat:∀{H':Hp},(∀b∈fp,H' b=none)->∀b∈fp,zeA X pins H' b:=λhn b hb=>⟨hn b hb,(f2 b hb).2⟩
 refine codeAny_forLoop_any (λn s'=>∃i σ' H',Inv X pins σ' H' s'/\tn i s'.heap/\(∀b∈fp,H' b=none)/\W i n σ' H') ?_ m0 ⟨0,σ,H2,I2,st2,λb hb=>(f2 b hb).1,w0⟩
 rintro n s3 ⟨i,σ3,H3,I3,st3,fr3,w3⟩
 rcases turn i n σ3 H3 w3 with⟨stop,qn⟩|⟨go,N,hN,step⟩
 ·refine wpAny_passesOwn hp (thn (T.done X rfl rfl rfl hc i pins s3 σ3 H3 X.xe I3 (stat fr3) st3 stop) λr s4 ⟨hr,I4⟩=>?_)
  subst hr
  exact wpAny_execs_nil ⟨σ3,H3,I4,qn⟩
 ·refine wpAny_passesOwn hp (thn (T.item X rfl rfl rfl hc i pins s3 σ3 H3 X.xe I3 (stat fr3) st3 go) λr s4 ⟨u,hr,h4⟩=>?_)
  subst hr
  refine wpAny_passesOwn hp (thn h4 λ_ s5 ⟨x,H5,I5,r5,y5,st5,fr5⟩=>?_)
  have I5':=I5.pinned (stat fr5) (T.obj _ _ st5)
  refine wpAny_passesOwn hp (thn (hg _ s5 σ3 H5 x u _ I5' r5 (step x H5 y5)) λ_ s6 ⟨σ6,H6,I6,q6⟩=>?_)
  refine wpAny_passesOwn hp (thn (hb _ s6 σ6 H6 _ I6 q6) λf s7 q7=>?_)
  have again:∀{σ7:St} {H7:Hp},Inv X (pins ++zew fp s5.heap) σ7 H7 s7->N σ7 H7->∃m,m<n/\∃i σ' H',Inv X pins σ' H' s7/\tn i s7.heap/\(∀b∈fp,H' b=none)/\W i m σ' H':=λ{σ7 H7} I7 n7=>by
   obtain⟨m',hm,w7⟩:=hN σ7 H7 n7
   refine⟨m',hm,i+1,σ7,H7,I7.unpinned,T.keep _ _ _ st5 λb hb o e=>(I7.pin (b,o) (List.mem_append_right _ (List.mem_append_right _ (za9 hb e)))).1,λb hb=>?_,w7⟩
   obtain⟨o,e,d⟩:=T.obj _ _ st5 b hb
   exact(I7.pin (b,o) (List.mem_append_right _ (List.mem_append_right _ (za9 hb e)))).2.1
  cases f with
  |next=>obtain ⟨σ7,H7,I7,n7⟩:=q7;exact again I7 n7
  |cont=>obtain ⟨σ7,H7,I7,n7⟩:=q7;exact again I7 n7
  |brk=>obtain ⟨σ7,H7,I7,q7⟩:=q7;exact⟨σ7,H7,I7.unpinned,q7⟩
  |ret v=>obtain ⟨x7,σ7,H7,I7,r7,q7⟩:=q7;exact⟨x7,σ7,H7,I7.unpinned,r7,q7⟩
end
abbrev R2:=V->V->Hp->VK->Prop
def OpR(X:Cx)(f:Value->Value->Sem Value)(r:R2):Prop:=
 ∀(pins:List (Addr×Obj)) (s:Shared) (σ:St) (H:Hp) (x y:V) (v u:Value) (Q:VK),Inv X pins σ H s->RelV x v->RelV y u->r x y H Q->
  wpAny (model X.prog X.w) X.A (f v u) (EP X pins σ Q) X.xe s
def UnR(X:Cx)(f:Value->Sem Value)(r:V->Hp->VK->Prop):Prop:=
 ∀(pins:List (Addr×Obj)) (s:Shared) (σ:St) (H:Hp) (x:V) (v:Value) (Q:VK),Inv X pins σ H s->RelV x v->r x H Q->
  wpAny (model X.prog X.w) X.A (f v) (EP X pins σ Q) X.xe s
def CallR(X:Cx)(f:Value)(r:List V->Hp->VK->Prop):Prop:=
 ∀(pins:List (Addr×Obj)) (s:Shared) (σ:St) (H:Hp) (xs:List V) (us:List Value) (Q:VK),Inv X pins σ H s->Vals xs us->r xs H Q->
  wpAny (model X.prog X.w) X.A (call f us) (EP X pins σ Q) X.xe s
def zrJ(X:Cx)(r:V->Hp->(Bool->Hp->Prop)->Prop):Prop:=
 ∀(pins:List (Addr×Obj)) (s:Shared) (σ:St) (H:Hp) (x:V) (v:Value) (Q:Bool->Hp->Prop),Inv X pins σ H s->RelV x v->r x H Q->
  wpAny (model X.prog X.w) X.A (truthy v) (TP X pins σ Q) X.xe s
def tOp(r:R2)(ta tb:TE):TE:=λσ H Q=>ta σ H λx H1=>tb σ H1 λy H2=>r x y H2 Q
def tUn(r:V->Hp->VK->Prop)(ta:TE):TE:=λσ H Q=>ta σ H λx H1=>r x H1 Q
def rI(C:Int->Int->Prop)(g:Int->Int->V):R2:=λx y H Q=>∃i j,x= .int i/\y= .int j/\C i j/\Q (g i j) H
def rI0(g:Int->Int->V):R2:=λx y H Q=>∃i j,x= .int i/\y= .int j/\Q (g i j) H
def rU(g:Int->V):V->Hp->VK->Prop:=λx H Q=>∃i,x= .int i/\Q (g i) H
section
variable{X:Cx}{a b c:Expr}{ta tb tc:TE}{pos:Pos}
theorem zqF(ha:PE X a ta)(hb:PE X b tb){pins:List (Addr×Obj)}{s:Shared}{σ:St}{H:Hp}{R:V->V->Hp->Prop}(I:Inv X pins σ H s)
 (h:ta σ H λx H1=>tb σ H1 λy H2=>R x y H2) {Q:Value->Shared->Prop} {f:Value->Value->Sem Value}
 (hf:∀v u s2 x y H2,Inv X pins σ H2 s2->RelV x v->RelV y u->R x y H2->wpAny (model X.prog X.w) X.A (f v u) Q X.xe s2):
 wpAny (model X.prog X.w) X.A (eval a X.env) (λv s₁=>wpAny (model X.prog X.w) X.A (eval b X.env) (λu s₂=>wpAny (model X.prog X.w) X.A (f v u) Q X.xe s₂) X.xe s₁) X.xe s:=by
 refine thn (ha pins s σ H _ I h) λv s1 ⟨x,H1,I1,r1,q1⟩=>?_
 refine thn (hb pins s1 σ H1 _ I1 q1) λu s2 ⟨y,H2,I2,r2,q2⟩=>?_
 exact hf v u s2 x y H2 I2 r1 r2 q2
theorem zrs{op:Operator}{r:R2}(ho:OpR X (binaryOp op) r)(ha:PE X a ta)(hb:PE X b tb):PE X (.BinOp a op b pos) (tOp r ta tb):=by
 intro pins s σ H Q I h
 exact wpAny_BinOp (zqF ha hb I h λv u s2 x y H2 I2 rx ry q=>ho pins s2 σ H2 x y v u Q I2 rx ry q)
theorem zrj{op:UnaryOp}{r:V->Hp->VK->Prop}(ho:UnR X (unaryOp op) r)(ha:PE X a ta):PE X (.UnaryOp op a pos) (tUn r ta):=by
 intro pins s σ H Q I h
 exact UnaryOp_ (thn (ha pins s σ H _ I h) λv s1 ⟨x,H1,I1,r1,q1⟩=>ho pins s1 σ H1 x v Q I1 r1 q1)
theorem opI{f:Value->Value->Sem Value}{C:Int->Int->Prop}{g:Int->Int->Int}
 (rule:∀(i j:Int) (t u:Tok) (s:Shared) (Q:Value->Shared->Prop) (E:Value->Shared->Prop),C i j->Q (.int (g i j) s.toks) {s with toks:=s.toks+1}->wpAny (model X.prog X.w) X.A (f (.int i t) (.int j u)) Q E s):
 OpR X f (rI C λi j=> .int (g i j)):=by
 intro pins s σ H x y v u Q I rx ry h
 obtain⟨i,j,rfl,rfl,hc,q⟩:=h
 obtain⟨t,rfl⟩:=rx
 obtain⟨t',rfl⟩:=ry
 exact rule i j t t' s _ _ hc ⟨.int (g i j),H,I.tok _,⟨_,rfl⟩,q⟩
theorem zri{f:Value->Value->Sem Value}{g:Int->Int->Int}
 (rule:∀(i j:Int) (t u:Tok) (s:Shared) (Q:Value->Shared->Prop) (E:Value->Shared->Prop),Q (.int (g i j) s.toks) {s with toks:=s.toks+1}->wpAny (model X.prog X.w) X.A (f (.int i t) (.int j u)) Q E s):
 OpR X f (rI0 λi j=> .int (g i j)):=by
 intro pins s σ H x y v u Q I rx ry h
 obtain⟨i,j,rfl,rfl,q⟩:=h
 obtain⟨t,rfl⟩:=rx
 obtain⟨t',rfl⟩:=ry
 exact rule i j t t' s _ _ ⟨.int (g i j),H,I.tok _,⟨_,rfl⟩,q⟩
theorem zo6{f:Value->Value->Sem Value}{g:Int->Int->Bool}
 (rule:∀(i j:Int) (t u:Tok) (s:Shared) (Q:Value->Shared->Prop) (E:Value->Shared->Prop),Q (.bool (g i j)) s->wpAny (model X.prog X.w) X.A (f (.int i t) (.int j u)) Q E s):
 OpR X f (rI0 λi j=> .bl (g i j)):=by
 intro pins s σ H x y v u Q I rx ry h
 obtain⟨i,j,rfl,rfl,q⟩:=h
 obtain⟨t,rfl⟩:=rx
 obtain⟨t',rfl⟩:=ry
 exact rule i j t t' s _ _ ⟨.bl (g i j),H,I,rfl,q⟩
def zrV(i j:Int):Prop:=0<j/\j<1073741824
def zrK(i j:Int):Prop:=0<=j/\j<=1000000/\i.natAbs<2^64
def CMul(i j:Int):Prop:=(-(2^64)<i/\i<2^64)\/(-(2^64)<j/\j<2^64)
theorem CMul.ok{i j:Int}(h:CMul i j):IntMulOk i j:=by
 rcases h with⟨h1,h2⟩|⟨h1,h2⟩
 ·exact .of_left (intBits_le_64 h1 h2)
 ·exact .of_right (intBits_le_64 h1 h2)
theorem zal:OpR X (binaryOp .Add) (rI0 λi j=> .int (i+j)):=zri λ_ _ _ _ _ _ _ q=>add_int q
theorem zfO:OpR X (binaryOp .Sub) (rI0 λi j=> .int (i -j)):=zri λ_ _ _ _ _ _ _ q=>sub_int q
theorem zbC:OpR X (binaryOp .Mult) (rI CMul λi j=> .int (i*j)):=opI λ_ _ _ _ _ _ _ hc q=>mul_int q hc.ok
theorem zhL:OpR X (binaryOp .FloorDiv) (rI zrV λi j=> .int (i/j)):=opI λi j _ _ _ _ _ hc q=>by
 have h1:(0:Int)<j:=hc.1
 have h2:j<1073741824:=hc.2
 exact floordiv_int (by omega) (by rw[Int.fdiv_eq_ediv_of_nonneg i (by omega)];exact q) (.inl (PyProof.noPylong_small (by omega)))
theorem zcY:OpR X (binaryOp .Mod) (rI (λ_ j=>0<j) λi j=> .int (i%j)):=opI λi j _ _ _ _ _ hc q=>by
 have h1:(0:Int)<j:=hc
 exact mod_int' (by omega) (by rw[Int.fmod_eq_emod_of_nonneg i (by omega)];exact q)
theorem zqx:OpR X (binaryOp .Pow) (rI zrK λi j=> .int (i^j.toNat)):=opI λ_ _ _ _ _ _ _ hc q=>pow_int_small hc.1 hc.2.1 hc.2.2 q
theorem unI{f:Value->Sem Value}{g:Int->Int}
 (rule:∀(i:Int) (t:Tok) (s:Shared) (Q:Value->Shared->Prop) (E:Value->Shared->Prop),Q (.int (g i) s.toks) {s with toks:=s.toks+1}->wpAny (model X.prog X.w) X.A (f (.int i t)) Q E s):
 UnR X f (rU λi=> .int (g i)):=by
 intro pins s σ H x v Q I rx h
 obtain⟨i,rfl,q⟩:=h
 obtain⟨t,rfl⟩:=rx
 exact rule i t s _ _ ⟨.int (g i),H,I.tok _,⟨_,rfl⟩,q⟩
theorem zfC:UnR X (unaryOp .USub) (rU λi=> .int (-i)):=unI λ_ _ _ _ _ q=>neg_int q
end
def zq4:V->V->Bool
 | .non, .non=>true| .non, .int _=>true| .int _, .non=>true| .non, .bl _=>true| .bl _, .non=>true| .non, .str _=>true| .str _, .non=>true
 | .int _, .int _=>true| .bl _, .bl _=>true| .str _, .str _=>true| .byt _, .byt _=>true
 | .int _, .str _=>true| .str _, .int _=>true| .bl _, .str _=>true| .str _, .bl _=>true
 |_,_=>false
def rEq:R2:=λx y H Q=>zq4 x y=true/\Q (.bl (decide (x=y))) H
def rNe:R2:=λx y H Q=>zq4 x y=true/\Q (.bl (!decide (x=y))) H
theorem zkN{i j:Int}:decide (V.int i=V.int j)=(i==j):=by
 rw[Bool.eq_iff_iff]
 simp
theorem zmP{i j:Bool}:decide (V.bl i=V.bl j)=(i==j):=by
 rw[Bool.eq_iff_iff]
 simp
theorem zkC{i j:Str}:decide (V.str i=V.str j)=(i==j):=by
 rw[Bool.eq_iff_iff]
 simp
theorem zkl{i j:Array UInt8}:decide (V.byt i=V.byt j)=(i.toList==j.toList):=by
 rw[Bool.eq_iff_iff]
 cases i
 cases j
 simp
section
variable{X:Cx}{a b c:Expr}{ta tb tc:TE}{pos:Pos}
theorem zF{pins:List (Addr×Obj)}{σ:St}{H:Hp}{s:Shared}{Q:VK}{k k':Bool}(I:Inv X pins σ H s)(q:Q (.bl k) H)(e:k=k'):EP X pins σ Q (.bool k') s:=by
 subst e
 exact⟨.bl k,H,I,rfl,q⟩
theorem zam:OpR X (compareOp .Eq) rEq:=by
 intro pins s σ H x y v u Q I rx ry h
 obtain⟨hs,q⟩:=h
 cases x with
 |non=>
  cases rx
  cases y with
  |non=>cases ry;exact PySem.EqNone.eq_none_none (zF I q (by simp))
  |bl j=>cases ry;exact PySem.EqNone.eq_none_bool (zF I q (by simp))
  |int j=>obtain ⟨t',rfl⟩:=ry;exact PySem.EqNone.eq_none_int (zF I q (by simp))
  |str j=>obtain ⟨t',rfl⟩:=ry;exact PySem.EqNone.eq_none_str (zF I q (by simp))
  |_=>exact absurd (show false=true from hs) Bool.false_ne_true
 |bl i=>
  cases rx
  cases y with
  |non=>cases ry;exact PySem.EqNone.eq_bool_none (zF I q (by simp))
  |bl j=>cases ry;exact eq_bool (zF I q zmP)
  |str j=>obtain ⟨t',rfl⟩:=ry;exact PySem.EqMixed.eq_bool_str (zF I q (by simp))
  |_=>exact absurd (show false=true from hs) Bool.false_ne_true
 |int i=>
  obtain⟨t,rfl⟩:=rx
  cases y with
  |non=>cases ry;exact PySem.EqNone.eq_int_none (zF I q (by simp))
  |int j=>obtain ⟨t',rfl⟩:=ry;exact eq_int (zF I q zkN)
  |str j=>obtain ⟨t',rfl⟩:=ry;exact PySem.EqMixed.eq_int_str (zF I q (by simp))
  |_=>exact absurd (show false=true from hs) Bool.false_ne_true
 |str i=>
  obtain⟨t,rfl⟩:=rx
  cases y with
  |non=>cases ry;exact PySem.EqNone.eq_str_none (zF I q (by simp))
  |bl j=>cases ry;exact PySem.EqMixed.eq_str_bool (zF I q (by simp))
  |int j=>obtain ⟨t',rfl⟩:=ry;exact PySem.EqMixed.eq_str_int (zF I q (by simp))
  |str j=>obtain ⟨t',rfl⟩:=ry;exact eq_str (zF I q zkC)
  |_=>exact absurd (show false=true from hs) Bool.false_ne_true
 |byt i=>
  obtain⟨t,rfl⟩:=rx
  cases y with
  |byt j=>obtain ⟨t',rfl⟩:=ry;exact PySem.W.eq_bytes (zF I q zkl)
  |_=>exact absurd (show false=true from hs) Bool.false_ne_true
 |_=>cases y<;>exact absurd (show false=true from hs) Bool.false_ne_true
theorem zgT:OpR X (compareOp .NotEq) rNe:=by
 intro pins s σ H x y v u Q I rx ry h
 obtain⟨hs,q⟩:=h
 cases x with
 |non=>
  cases rx
  cases y with
  |non=>cases ry;exact PySem.EqNone.ne_none_none (zF I q (by simp))
  |bl j=>cases ry;exact PySem.EqNone.ne_none_bool (zF I q (by simp))
  |int j=>obtain ⟨t',rfl⟩:=ry;exact PySem.EqNone.ne_none_int (zF I q (by simp))
  |str j=>obtain ⟨t',rfl⟩:=ry;exact PySem.EqNone.ne_none_str (zF I q (by simp))
  |_=>exact absurd (show false=true from hs) Bool.false_ne_true
 |bl i=>
  cases rx
  cases y with
  |non=>cases ry;exact PySem.EqNone.ne_bool_none (zF I q (by simp))
  |bl j=>cases ry;exact ne_bool (zF I q (congrArg not zmP))
  |str j=>obtain ⟨t',rfl⟩:=ry;exact PySem.EqMixed.ne_bool_str (zF I q (by simp))
  |_=>exact absurd (show false=true from hs) Bool.false_ne_true
 |int i=>
  obtain⟨t,rfl⟩:=rx
  cases y with
  |non=>cases ry;exact PySem.EqNone.ne_int_none (zF I q (by simp))
  |int j=>obtain ⟨t',rfl⟩:=ry;exact ne_int (zF I q (congrArg not zkN))
  |str j=>obtain ⟨t',rfl⟩:=ry;exact PySem.EqMixed.ne_int_str (zF I q (by simp))
  |_=>exact absurd (show false=true from hs) Bool.false_ne_true
 |str i=>
  obtain⟨t,rfl⟩:=rx
  cases y with
  |non=>cases ry;exact PySem.EqNone.ne_str_none (zF I q (by simp))
  |bl j=>cases ry;exact PySem.EqMixed.ne_str_bool (zF I q (by simp))
  |int j=>obtain ⟨t',rfl⟩:=ry;exact PySem.EqMixed.ne_str_int (zF I q (by simp))
  |str j=>obtain ⟨t',rfl⟩:=ry;exact ne_str (zF I q (congrArg not zkC))
  |_=>exact absurd (show false=true from hs) Bool.false_ne_true
 |byt i=>
  obtain⟨t,rfl⟩:=rx
  cases y with
  |byt j=>obtain ⟨t',rfl⟩:=ry;exact PySem.W.ne_bytes (zF I q (congrArg not zkl))
  |_=>exact absurd (show false=true from hs) Bool.false_ne_true
 |_=>cases y<;>exact absurd (show false=true from hs) Bool.false_ne_true
theorem zpu:OpR X (compareOp .Lt) (rI0 λi j=> .bl (decide (i<j))):=zo6 λ_ _ _ _ _ _ _ q=>lt_int q
theorem zkL:OpR X (compareOp .LtE) (rI0 λi j=> .bl (decide (i<=j))):=zo6 λ_ _ _ _ _ _ _ q=>le_int q
theorem zh2:OpR X (compareOp .Gt) (rI0 λi j=> .bl (decide (j<i))):=zo6 λ_ _ _ _ _ _ _ q=>gt_int q
theorem zpE:OpR X (compareOp .GtE) (rI0 λi j=> .bl (decide (j<=i))):=zo6 λ_ _ _ _ _ _ _ q=>ge_int q
theorem op_lt_str:OpR X (compareOp .Lt) (λx y H Q=>∃i j,x= .str i/\y= .str j/\Q (.bl (decide (i.cps.toList<j.cps.toList))) H):=by
 intro pins s σ H x y v u Q I rx ry h
 obtain⟨i,j,rfl,rfl,q⟩:=h
 obtain⟨t,rfl⟩:=rx
 obtain⟨t',rfl⟩:=ry
 exact lt_str (zF I q rfl)
theorem zeP:OpR X (compareOp .Is) (λx y H Q=>y= .non/\Q (.bl (decide (x= .non))) H):=by
 intro pins s σ H x y v u Q I rx ry h
 obtain⟨rfl,q⟩:=h
 cases ry
 refine is_none_gen (zF I q ?_)
 cases x<;>first
  |(cases rx;rfl)
  |(obtain⟨t,rfl⟩:=rx;rfl)
theorem zef:OpR X (compareOp .IsNot) (λx y H Q=>y= .non/\Q (.bl (!decide (x= .non))) H):=by
 intro pins s σ H x y v u Q I rx ry h
 obtain⟨rfl,q⟩:=h
 cases ry
 refine isnot_none_gen (zF I q ?_)
 cases x<;>first
  |(cases rx;rfl)
  |(obtain⟨t,rfl⟩:=rx;rfl)
theorem OpR.or{f:Value->Value->Sem Value}{r r':R2}(h:OpR X f r)(h':OpR X f r'):OpR X f (λx y H Q=>r x y H Q\/r' x y H Q):=by
 intro pins s σ H x y v u Q I rx ry q
 rcases q with q|q
 ·exact h pins s σ H x y v u Q I rx ry q
 ·exact h' pins s σ H x y v u Q I rx ry q
theorem zpd{op:CmpOp}{r:R2}(ho:OpR X (compareOp op) r)(ha:PE X a ta)(hb:PE X b tb)(hm:behindInMarks op b=false):PE X (.Compare a [op] [b] pos) (tOp r ta tb):=by
 intro pins s σ H Q I h
 exact wpAny_Compare1 (zqF ha hb I h λv u s2 x y H2 I2 rx ry q=>ho pins s2 σ H2 x y v u Q I2 rx ry q) hm
def zkz(t:TE):TT:=λσ H Q=>t σ H λx H'=>∃k,x= .bl k/\Q k H'
theorem zpa{op:CmpOp}{r:R2}(ho:OpR X (compareOp op) r)(ha:PE X a ta)(hb:PE X b tb)(hm:behindInMarks op b=false):PT X (.Compare a [op] [b] pos) (zkz (tOp r ta tb)):=by
 intro pins s σ H Q I h
 refine wpAny_isTrue_Compare1 (thn (ha pins s σ H _ I h) λv s1 ⟨x,H1,I1,r1,q1⟩=>thn (hb pins s1 σ H1 _ I1 q1) λu s2 ⟨y,H2,I2,r2,q2⟩=>
  thn (ho pins s2 σ H2 x y v u _ I2 r1 r2 q2) λc s3 ⟨z,H3,I3,r3,k,e,q3⟩=>?_) hm
 subst e
 cases r3
 exact wpAny_truthy_bool ⟨H3,I3,q3⟩
def zhy(r r':R2)(ta tb tc:TE):TE:=λσ H Q=>ta σ H λx H1=>tb σ H1 λy H2=>r x y H2 λz H3=>∃k,z= .bl k/\
 (if k=true then tc σ H3 λw' H4=>r' y w' H4 Q else Q (.bl false) H3)
theorem znr{op op':CmpOp}{r r':R2}(ho:OpR X (compareOp op) r)(ho':OpR X (compareOp op') r')(ha:PE X a ta)(hb:PE X b tb)(hc:PE X c tc)
 (hm:lastMarks [op,op'] [b,c]=false:=by with_unfolding_all rfl):PE X (.Compare a [op,op'] [b,c] pos) (zhy r r' ta tb tc):=by
 intro pins s σ H Q I h
 refine Compare_chain (thn (ha pins s σ H _ I h) λv s1 ⟨x,H1,I1,r1,q1⟩=>chain_link (thn (hb pins s1 σ H1 _ I1 q1) λu s2 ⟨y,H2,I2,r2,q2⟩=>
  thn (ho pins s2 σ H2 x y v u _ I2 r1 r2 q2) λd s3 ⟨z,H3,I3,r3,k,e,q3⟩=>?_)) hm
 subst e
 cases r3
 refine wpAny_truthy_bool ?_
 cases k with
 |false=>exact ite_ff ⟨.bl false,H3,I3,rfl,q3⟩
 |true=>exact ite_tt (chain_last (thn (hc pins s3 σ H3 _ I3 q3) λw' s4 ⟨z',H4,I4,r4,q4⟩=>ho' pins s4 σ H4 y z' u w' Q I4 r2 r4 q4))
theorem zmo{op op':CmpOp}{r r':R2}(ho:OpR X (compareOp op) r)(ho':OpR X (compareOp op') r')(ha:PE X a ta)(hb:PE X b tb)(hc:PE X c tc)
 (hm:lastMarks [op,op'] [b,c]=false:=by with_unfolding_all rfl):PT X (.Compare a [op,op'] [b,c] pos) (zkz (zhy r r' ta tb tc)):=by
 intro pins s σ H Q I h
 refine isTrue_chain (thn (ha pins s σ H _ I h) λv s1 ⟨x,H1,I1,r1,q1⟩=>test_link (thn (hb pins s1 σ H1 _ I1 q1) λu s2 ⟨y,H2,I2,r2,q2⟩=>
  thn (ho pins s2 σ H2 x y v u _ I2 r1 r2 q2) λd s3 ⟨z,H3,I3,r3,k,e,q3⟩=>?_)) hm
 subst e
 cases r3
 refine wpAny_truthy_bool ?_
 cases k with
 |false=>
  obtain⟨k',e',q'⟩:=q3
  cases e'
  exact ite_ff ⟨H3,I3,q'⟩
 |true=>
  refine ite_tt (test_last (thn (hc pins s3 σ H3 _ I3 q3) λw' s4 ⟨z',H4,I4,r4,q4⟩=>thn (ho' pins s4 σ H4 y z' u w' _ I4 r2 r4 q4) λd' s5 ⟨z2,H5,I5,r5,k2,e2,q5⟩=>?_))
  subst e2
  cases r5
  exact wpAny_truthy_bool ⟨H5,I5,q5⟩
def zqM(K:PySem.W.Frag)(x:V)(H:Hp)(k:Bool):Prop:=
 match x with
 | .non=>k=false
 | .bl b=>k=b
 | .int i=>k=(i !=0)
 | .str y=>y.length<=sizeLine/\k=((y.length:Int) !=0)
 | .byt y=>y.size<=sizeLine/\k=((y.size:Int) !=0)
 | .ref p=>(∃xs,SqL K H p xs/\k=!xs.isEmpty)\/(∃xs,SqT K H p xs/\k=!xs.isEmpty)\/∃kvs,H p=some (.dK kvs)/\k=!kvs.isEmpty
 |_=>False
theorem zjv{κ:Type}{kvs:List (κ×V)}{vs:List (κ×Value)}(r:KV kvs vs):(!vs.isEmpty)=!kvs.isEmpty:=by
 cases r<;>rfl
theorem zf1{xs:List V}{its:List Value}(r:Vals xs its):(!its.toArray.isEmpty)=!xs.isEmpty:=by
 cases r<;>simp
theorem zdV:(sizeLine:Nat)<2^63:=by rw[sizeLine_eq];decide
theorem zqJ:zrJ X (λx H Q=>∃k,zqM X.K x H k/\Q k H):=by
 intro pins s σ H x v Q I rx h
 obtain⟨k,e,q⟩:=h
 have hl:=zdV
 have hs:sizeLine=16777216:=sizeLine_eq
 cases x with
 |non=>
  cases rx
  have e':k=false:=e
  subst e'
  exact truthy_none ⟨H,I,q⟩
 |bl b=>
  cases rx
  have e':k=b:=e
  subst e'
  exact wpAny_truthy_bool ⟨H,I,q⟩
 |int i=>
  obtain⟨t,rfl⟩:=rx
  have e':k=(i !=0):=e
  subst e'
  exact PySem.P.truthy_int ⟨H,I,q⟩
 |str y=>
  obtain⟨t,rfl⟩:=rx
  obtain⟨hy,e'⟩:y.length<=sizeLine/\k=((y.length:Int) !=0):=e
  subst e'
  exact PySem.P.truthy_str (by omega) ⟨H,I.tok _,q⟩
 |byt y=>
  obtain⟨t,rfl⟩:=rx
  obtain⟨hy,e'⟩:y.size<=sizeLine/\k=((y.size:Int) !=0):=e
  subst e'
  exact PySem.W.truthy_bytes (by omega) ⟨H,I.tok _,q⟩
 |ref p=>
  cases rx
  have e':(∃xs,SqL X.K H p xs/\k=!xs.isEmpty)\/(∃xs,SqT X.K H p xs/\k=!xs.isEmpty)\/∃kvs,H p=some (.dK kvs)/\k=!kvs.isEmpty:=e
  rcases e' with⟨xs,hx,e'⟩|⟨xs,hx,e'⟩|⟨kvs,hx,e'⟩
  ·subst e'
   obtain⟨its,r,pl,hz⟩:=I.list hx
   have hlen:=r.length
   exact wpAny_truthy_list pl.isList (by simp only[List.size_toArray];omega) ⟨H,I.tok _,by rw[zf1 r];exact q⟩
  ·subst e'
   obtain⟨its,r,pl,hz⟩:=I.tuple hx
   have hlen:=r.length
   exact truthy_tuple pl (by simp only[List.size_toArray];omega) ⟨H,I.tok _,by rw[zf1 r];exact q⟩
  ·subst e'
   obtain⟨hz,hS,vs,r,m⟩:kvs.length<=sizeLine/\(p==sysModules)=false/\∃vs,KV kvs vs/\s.heap.DictOf (zZ X.prog X.w) p vs:=I.hok p _ hx
   have hlen:kvs.length=vs.length:=Paired.length r
   exact wpAny_truthy_dict hS m (by omega) ⟨H,I.tok _,by rw[zjv r];exact q⟩
 |_=>exact (show False from e).elim
theorem zmC(ha:PE X a ta)(he:∀whole,isTrue a X.env whole=(do let v ←whole;standAt a.pos;holding [v] (truthy v))):
 PT X a (λσ H Q=>ta σ H λx H'=>∃k,zqM X.K x H' k/\Q k H'):=by
 intro pins s σ H Q I h
 exact isTrue_plain (thn (ha pins s σ H _ I h) λv s1 ⟨x,H1,I1,r1,q1⟩=>zqJ pins s1 σ H1 x v Q I1 r1 q1) (he _)
theorem zck{x:V}{us:List Value}(r:Vals [x] us):∃u,us=[u]/\RelV x u:=by
 cases r with
 |cons r1 r2=>cases r2;exact⟨_,rfl,r1⟩
theorem zdM{x y:V}{us:List Value}(r:Vals [x,y] us):∃u w',us=[u,w']/\RelV x u/\RelV y w':=by
 cases r with
 |cons r1 r2=>
  cases r2 with
  |cons r3 r4=>cases r4;exact⟨_,_,rfl,r1,r3⟩
theorem zk6(hc:X.calm=true):CallR X (.builtin "max") (λxs H Q=>∃i j,xs=[.int i, .int j]/\Q (.int (if j>i then j else i)) H):=by
 intro pins s σ H xs us Q I r h
 obtain⟨i,j,rfl,q⟩:=h
 obtain⟨u,w',rfl,⟨t,rfl⟩,⟨t',rfl⟩⟩:=zdM r
 refine max_two_ints (I.ok.hd hc) λh' tk k=>⟨_,H,I.kept k,?_,q⟩
 by_cases hj:j>i
 ·rw[if_pos hj,if_pos hj];exact⟨_,rfl⟩
 ·rw[if_neg hj,if_neg hj];exact⟨_,rfl⟩
theorem zgX(hc:X.calm=true):CallR X (.builtin "min") (λxs H Q=>∃i j,xs=[.int i, .int j]/\Q (.int (if j<i then j else i)) H):=by
 intro pins s σ H xs us Q I r h
 obtain⟨i,j,rfl,q⟩:=h
 obtain⟨u,w',rfl,⟨t,rfl⟩,⟨t',rfl⟩⟩:=zdM r
 refine min_two_ints (I.ok.hd hc) λh' tk k=>⟨_,H,I.kept k,?_,q⟩
 by_cases hj:j<i
 ·rw[if_pos hj,if_pos hj];exact⟨_,rfl⟩
 ·rw[if_neg hj,if_neg hj];exact⟨_,rfl⟩
theorem zdA:CallR X (.type "int") (λxs H Q=>(∃i,xs=[.int i]/\Q (.int i) H)\/∃k,xs=[.bl k]/\Q (.int (if k then 1 else 0)) H):=by
 intro pins s σ H xs us Q I r h
 rcases h with⟨i,rfl,q⟩|⟨k,rfl,q⟩
 ·obtain ⟨u,rfl,t,rfl⟩:=zck r
  exact call_int_int ⟨.int i,H,I,⟨_,rfl⟩,q⟩
 ·obtain ⟨u,rfl,r1⟩:=zck r
  cases r1
  exact call_int_bool ⟨.int (if k then 1 else 0),H,I.tok _,⟨_,rfl⟩,q⟩
end
structure ObjM(h:Heap)(x dx C:Addr)(mA:Str->Option Value):Prop where
 obj:h.get? x=some (PySem.W.instObj C dx)
 ns:h.Ns1 dx mA
 ne:dx≠x
theorem zlD{h:Heap}{dx:Addr}{mA:Str->Option Value}(n:h.Ns1 dx mA):∃od,h.get? dx=some od/\∀name,PySem.W.lookIn name od=some (mA name):=by
 obtain⟨o,es,ep,ho,hd,hk,_,hm⟩:=n
 refine⟨o,ho,λname=>?_⟩
 have e:=hm name
 unfold nsFind findBy at e
 rw[←Array.find?_toList] at e
 unfold PySem.W.lookIn
 rw[hd]
 dsimp only
 split
 ·rename_i y q
  rw[q] at e
  exact congrArg some e
 ·rename_i q
  rw[q] at e
  have a:es.toList.any (·.refKey)=false:=by
   rw[List.any_eq_false]
   intro y hy
   obtain⟨z,t,hkey⟩:=hk y (Array.mem_toList_iff.mp hy)
   simp[DictEntry.refKey,hkey]
  have a':¬es.toList.any (·.refKey)=true:=by rw[a];exact Bool.false_ne_true
  rw[if_neg a']
  exact congrArg some e
theorem ObjM.look{h:Heap}{x dx C:Addr}{mA:Str->Option Value}(I:ObjM h x dx C mA):∃od,PySem.W.InstAt h x (PySem.W.instObj C dx) C (some od)/\∀name,PySem.W.lookIn name od=some (mA name):=
 let⟨od,ho,hl⟩:=zlD I.ns
 ⟨od,⟨I.obj,rfl,rfl,ho⟩,hl⟩
section
variable{prog:Program}{w:World}{A:Around}{E:Value->Shared->Prop}{s:Shared}{K:PySem.W.Frag}{x dx C f:Addr}{mA:Str->Option Value}{name:Str}{v:Value}
end
theorem RelO.some_of{v:V}{o:Option Value}(r:RelO (some v) o):∃u,o=some u/\RelV v u:=by
 cases o with
 |none=>exact (show False from r).elim
 |some u=>exact ⟨u,rfl,r⟩
section
variable{P:Program}{w:World}{H H':Hp}{h h':Heap}{a C dx:Addr}{fs fs':List (Str×V)}
theorem zoa(hok:HOk P w H h)(e:H a=some (.ins C dx fs)):∃mA,ObjM h a dx C mA/\(∀f,RelO (fs.lookup f) (mA f))/\PySem.Within mA (fs.map (·.1))/\fs.length<=1000/\H dx=some (.own a):=by
 obtain⟨d,z,ne,ob,mA,n,r,q⟩:=(show ObjOk P w H h a (.ins C dx fs)from hok a _ e)
 exact⟨mA,⟨ob,n,ne⟩,r,q,z,d⟩
end
structure Cls(K:PySem.W.Frag)(C:Addr):Prop where
 pg:PySem.W.plainGet K C Str.empty=true
 hd:PySem.W.hasDictIn K C=true
 po:PySem.W.plainOver K C=true
 sa:PySem.W.findIn K (.ref C) "__setattr__"=some (some (.builtin "object.__setattr__"))
theorem Cls.get{K:PySem.W.Frag}{C:Addr}(c:Cls K C)(f:Str):PySem.W.plainGet K C f=true:=c.pg
structure Con(K:PySem.W.Frag)(C:Addr)(f:Str)(v:V)(u:Value):Prop where
 at_:PySem.W.findIn K (.ref C) f=some (some u)
 rel:RelV v u
 get:PySem.W.specialIn K u "__get__"=some none
 cp:PySem.W.copiedNames.contains f=false
structure Meth(K:PySem.W.Frag)(C:Addr)(m:Str)(f:Addr):Prop where
 at_:PySem.W.findIn K (.ref C) m=some (some (.ref f))
 fn:PySem.W.isFn K (.ref f)=true
 kp:PySem.W.keepIn K (.ref f)=true
section
variable{X:Cx}{pins:List (Addr×Obj)}{σ:St}{H:Hp}{s:Shared}{a C dx:Addr}{fs:List (Str×V)}{f:Str}{v:V}{A:Around}{E:Value->Shared->Prop}
end
section
variable{X:Cx}{o e value:Expr}{f:Str}{pos pos' tpos:Pos}{ta tv:TE}
end
section
variable{X:Cx}{pins:List (Addr×Obj)}{σ:St}{H:Hp}{s:Shared}{A:Around}{E:Value->Shared->Prop}{Q:Value->Shared->Prop}{c:Value}{b:Bool}
inductive TyOf(K:PySem.W.Frag)(H:Hp):V->Value->Prop where
 |non:TyOf K H .non (.type "NoneType")
 |bl (x:Bool):TyOf K H (.bl x) (.type "bool")
 |int (i:Int):TyOf K H (.int i) (.type "int")
 |str (x:Str):TyOf K H (.str x) (.type "str")
 |flt (x:UInt64):TyOf K H (.flt x) (.type "float")
 |lst {a:Addr} {xs:List V} (e:H a=some (.lst xs)):TyOf K H (.ref a) (.type "list")
 |frz {a:Addr} {o:Obj} {xs:List V} (e:H a=some (.frz o (.lst xs))):TyOf K H (.ref a) (.type "list")
 |tup {a:Addr} {xs:List V} (e:H a=some (.tup xs)):TyOf K H (.ref a) (.type "tuple")
 |dK {a:Addr} {kvs:List (Key×V)} (e:H a=some (.dK kvs)):TyOf K H (.ref a) (.type "dict")
 |dT {a:Addr} {kvs:List (List Key×V)} (e:H a=some (.dT kvs)):TyOf K H (.ref a) (.type "dict")
 |ins {a C dx:Addr} {fs:List (Str×V)} (e:H a=some (.ins C dx fs)) (cl:Cls K C) (ha:PySem.W.findIn K (.ref C) "__class__"=some (some (.builtin "object.__class__")))
   (hn:PySem.W.specialIn K (.builtin "object.__class__") "__get__"=some (some (.builtin "getset_descriptor.__get__"))) (htk:PySem.W.takesIn K (.builtin "object.__class__")=some true)
   (hm:PySem.W.mroIn K C (.type "object")=some true):TyOf K H (.ref a) (.ref C)
theorem zlj{x:V}{u t:Value}(I:Inv X pins σ H s)(rx:RelV x u)(ty:TyOf X.K H x t)(e:PySem.W.kitOne X.K t c=some b)(h:∀tk,Q (.bool b) {s with toks:=tk}):
 wpAny (model X.prog X.w) A (call (.builtin "isinstance") [u,c]) Q E s:=by
 cases ty with
 |non=>cases (show u=Value.none from rx);exact PySem.W.kia_one PySem.W.kitx_none I.kIn True.intro e (λz=>nomatch z) h
 |bl y=>cases (show u=Value.bool y from rx);exact PySem.W.kia_one PySem.W.kitx_bool I.kIn True.intro e (λz=>nomatch z) h
 |int i=>obtain ⟨t,q⟩:=(show∃t,u=Value.int i t from rx);cases q;exact PySem.W.kia_one PySem.W.kitx_int I.kIn True.intro e (λz=>nomatch z) h
 |str y=>obtain ⟨t,q⟩:=(show∃t,u=Value.str y t from rx);cases q;exact PySem.W.kia_one PySem.W.kitx_str I.kIn True.intro e (λz=>nomatch z) h
 |flt y=>obtain ⟨t,q⟩:=(show∃t,u=Value.float y t from rx);cases q;exact PySem.W.kia_one PySem.W.kitx_float I.kIn True.intro e (λz=>nomatch z) h
 | @lst a xs ea=>
   cases(show u=Value.ref a from rx)
   obtain⟨_,_,n,_,h1⟩:=(show ObjOk X.prog X.w H s.heap a (.lst xs)from I.hok a _ ea)
   exact PySem.W.kia_one PySem.W.kitx_list I.kIn ⟨_,h1,rfl⟩ e (λz=>nomatch z) h
 | @frz a ob xs ea=>
   cases(show u=Value.ref a from rx)
   obtain⟨_,_,_,n,_,h1⟩:=(show ObjOk X.prog X.w H s.heap a (.frz ob (.lst xs))from I.hok a _ ea)
   exact PySem.W.kia_one PySem.W.kitx_list I.kIn ⟨_,h1,rfl⟩ e (λz=>nomatch z) h
 | @tup a xs ea=>
   cases(show u=Value.ref a from rx)
   obtain⟨_,_,_,p,_⟩:=(show ObjOk X.prog X.w H s.heap a (.tup xs)from I.hok a _ ea)
   obtain⟨o,h1,h2,_⟩:=p
   exact PySem.W.kia_one PySem.W.kitx_tuple I.kIn ⟨o,h1,h2⟩ e (λz=>nomatch z) h
 | @dK a kvs ea=>
   cases(show u=Value.ref a from rx)
   obtain⟨_,_,vs,_,p⟩:=(show ObjOk X.prog X.w H s.heap a (.dK kvs)from I.hok a _ ea)
   obtain⟨o,es,ep,h1,h2,_⟩:=p
   exact PySem.W.kia_one PySem.W.kitx_dict I.kIn ⟨o,h1,h2.1⟩ e (λz=>nomatch z) h
 | @dT a kvs ea=>
   cases(show u=Value.ref a from rx)
   obtain⟨_,_,xs,_,o,es,ep,h1,h2,_⟩:=(show ObjOk X.prog X.w H s.heap a (.dT kvs)from I.hok a _ ea)
   exact PySem.W.kia_one PySem.W.kitx_dict I.kIn ⟨o,h1,h2.1⟩ e (λz=>nomatch z) h
 | @ins a C dx fs ea cl ha hn htk hm=>
   cases(show u=Value.ref a from rx)
   obtain⟨mA,O,_⟩:=zoa I.hok ea
   obtain⟨od,J,_⟩:=O.look
   exact PySem.W.kia_one (PySem.W.kitx_own (cl.get _) cl.hd ha hn htk hm) I.kIn J e (λz=>nomatch z) h
end
structure Room(k:Nat)(A:Around):Prop where
 hd:A.handled=none
 dp:A.depth+3*k+5<recursionLimit
 un:A.units+16*k+200<cLine
 gd:A.guards=some []
theorem Room.mono{j k:Nat}{A:Around}(r:Room k A)(h:j<=k):Room j A:=⟨r.hd,by have:=r.dp;omega,by have:=r.un;omega,r.gd⟩
theorem Room.deeper{k:Nat}{A:Around}(r:Room (k+1) A)(env:Env):Room k (A.deeper env):=
 ⟨r.hd,by have:=r.dp;show A.depth+1+3*k+5<_;omega,by have:=r.un;show A.units+3+16*k+200<_;omega,r.gd⟩
theorem Room.depth{k:Nat}{A:Around}(r:Room k A):A.depth<recursionLimit:=by have:=r.dp;omega
theorem Room.units{k:Nat}{A:Around}(r:Room k A):A.units+64<cLine:=by have:=r.un;omega
theorem Room.units0{k:Nat}{A:Around}(r:Room k A):A.units<cLine:=by have:=r.un;omega
def zqE:TA:=λ_ H Q=>Q [] H
def zkD(ta:TE)(tr:TA):TA:=λσ H Q=>ta σ H λx H1=>tr σ H1 λxs H2=>Q (x::xs) H2
section
variable{X:Cx}{e:Expr}{es:List Expr}{te:TE}{t:TA}{pos:Pos}
theorem znC:PA X [] zqE:=λ_ _ _ _ H Q I h=>Calls.spliced_nil ⟨[],H,I, .nil,h⟩
theorem zkq(ha:PE X e te)(hr:PA X es t)(hs:starEach (e::es) X.env=(false,eval e X.env)::starEach es X.env:=by rfl):PA X (e::es) (zkD te t):=by
 intro pos pins s σ H Q I h
 rw[hs]
 show wpAny _ _ (spliced ((false,eval e X.env)::backTo pos (starEach es X.env))) _ _ s
 refine Calls.spliced_cons (thn (ha pins s σ H _ I h) λu s1 ⟨x,H1,I1,r1,q1⟩=>?_)
 exact thn (hr pos pins s1 σ H1 _ I1 q1) λus s2 ⟨xs,H2,I2,r2,q2⟩=>⟨x::xs,H2,I2, .cons r1 r2,q2⟩
def zrG(t:TA):TE:=λσ H Q=>t σ H λxs H1=>xs.length<=sizeLine/\∀p,H1 p=none->Q (.ref p) (upd H1 p (.tup xs))
def zp9(t:TA):TE:=λσ H Q=>t σ H λxs H1=>xs.length<=sizeLine/\∀p,H1 p=none->Q (.ref p) (upd H1 p (.lst xs))
theorem zqz{x1}(h:PA X es t):PE X (.Tuple es x1 pos) (zrG t):=by
 intro pins s σ H Q I hq
 refine wpAny_Tuple_spliced (thn (h pos pins s σ H _ I hq) λus s1 ⟨xs,H1,I1,r,z,q⟩=>⟨by rw[←r.length];exact z,?_⟩)
 have hf:H1 s1.heap.objs.size=none:=I1.hok.fresh (Nat.le_refl _)
 refine⟨.ref s1.heap.objs.size,upd H1 s1.heap.objs.size (.tup xs),I1.laid (t':=s1.toks) (λb u e=>Heap.get?_push_of_some _ e) (Nat.le_refl _) ?_,rfl,q _ hf⟩
 exact⟨z,us,r,⟨_,Heap.get?_push_size _ rfl,rfl,_,rfl⟩,NoDict.new rfl (Heap.get?_push_size _ rfl)⟩
theorem zm8(h:PA X es t):PE X (.List es pos) (zp9 t):=by
 intro pins s σ H Q I hq
 refine wpAny_List_spliced (thn (h pos pins s σ H _ I hq) λus s1 ⟨xs,H1,I1,r,z,q⟩=>⟨by rw[←r.length];exact z,?_⟩)
 have hf:H1 s1.heap.objs.size=none:=I1.hok.fresh (Nat.le_refl _)
 refine⟨.ref s1.heap.objs.size,upd H1 s1.heap.objs.size (.lst xs),I1.laid (t':=s1.toks) (λb u e=>Heap.get?_push_of_some _ e) (Nat.le_refl _) ?_,rfl,q _ hf⟩
 exact⟨z,us,0,r,Heap.get?_push_size _ rfl⟩
end
abbrev Sp:=List V->Hp->VK->XK->Prop
abbrev CXT:=List Env->Hp->Shared->XK->Value->Shared->Prop
structure Env0(P:Program)(w:World)(K:PySem.W.Frag)(mg:Str->Option Value)(base:Heap)(A:Around)(outer:List Env)(s:Shared)(H:Hp):Prop where
 frames:A.frames=some outer
 mod:Mod K mg base
 bs:∀b o,base.get? b=some o->s.heap.get? b=some o/\H b=none
 bsz:base.objs.size<=s.heap.objs.size
 funs:s.heap.FunFrames base outer
 frf:∀b∈frs outer,H b=none
 hok:HOk P w H s.heap
 bare:AllBare s.gens
def CE(outer:List Env)(P:Program)(w:World)(H:Hp)(s:Shared)(Q:VK)(u:Value)(s':Shared):Prop:=
 ∃v H',s'.os=s.os/\AllBare s'.gens/\Un (frs outer) [] H H' s.heap s'.heap/\HOk P w H' s'.heap/\RelV v u/\Q v H'
def CR(CX:CXT)(outer:List Env)(P:Program)(w:World)(H:Hp)(s:Shared)(Q:VK)(E:XK)(r:Result)(s':Shared):Prop:=
 match r with
 | .ok (.ret u)=>CE outer P w H s Q u s'
 | .ok _=>False
 | .error e=>CX outer H s E e s'
structure FnOk(P:Program)(w:World)(K:PySem.W.Frag)(mg:Str->Option Value)(base:Heap)(CX:CXT)(k:Nat)(f:Addr)(fd:FuncData)(ps:List Str)(sp:Sp):Prop where
 len:∀vs H Q E,sp vs H Q E->vs.length=ps.length
 run:∀(A:Around) (outer:List Env) (s:Shared) (H:Hp) (args:Args) (us:List Value) (vs:List V) (Q:VK) (E:XK),Room k A->Env0 P w K mg base A outer s H->BindsTo s fd args (ps.zip us)->Vals vs us->sp vs H Q E->
  codeAny (model P w) A (.call (.ref f) args) (CR CX outer P w H s Q E) s
section
variable{X:Cx}{pins:List (Addr×Obj)}{σ:St}{H:Hp}{s s':Shared}
theorem Inv.env0(I:Inv X pins σ H s):Env0 X.prog X.w X.K X.mg X.base X.A X.stack s H:=
 ⟨I.ok.frames,I.ok.mod,I.bs,Nat.le_trans I.ok.bsz I.sz,I.stack,I.stkFree,I.hok,I.bare⟩
theorem Inv.after{Q:VK}{u:Value}(I:Inv X pins σ H s)(h:CE X.stack X.prog X.w H s Q u s'):EP X pins σ Q u s':=by
 obtain⟨v,H',os,bare,un,hok,r,q⟩:=h
 obtain⟨hh,g,d,t,os'⟩:=s'
 obtain rfl:os'=s.os:=os
 exact⟨v,H',I.call (h':=hh) (g':=g) (d':=d) (t':=t) (ch:=[]) un hok bare (λb z=>absurd z (by simp)),r,q⟩
end
def zpQ(sp:Sp)(dvs:List V)(E:XK)(t:TA):TE:=λσ H Q=>t σ H λvs H1=>sp (vs ++dvs) H1 Q E
def Binds(K:PySem.W.Frag)(fd:FuncData)(ps:List Str)(ds:List Value):Prop:=
 ∀(s:Shared) (us:List Value),K.In s.heap->(us ++ds).length=ps.length->BindsTo s fd ⟨us,[]⟩ (ps.zip (us ++ds))
theorem Binds.all{K:PySem.W.Frag}{fd:FuncData}{ps:List Str}(h:∀us:List Value,us.length=ps.length->bindArgs fd ⟨us,[]⟩=pure (ps.zip us)):Binds K fd ps []:=λs us _ hl=>by
 rw[List.append_nil] at hl⊢
 exact .of_eq (h us hl)
def zg6(CX:CXT)(X:Cx)(E:XK):Prop:=∀(pins:List (Addr×Obj)) (σ:St) (H:Hp) (s:Shared) (e:Value) (s':Shared),Inv X pins σ H s->CX X.stack H s E e s'->X.xe e s'
section
variable{X:Cx}{CX:CXT}{k:Nat}{f C:Addr}{fd:FuncData}{ps:List Str}{sp:Sp}{dvs:List V}{ds:List Value}{E:XK}{x m:Str}{p pos apos:Pos}{e o:Expr}{es:List Expr}{ta:TE}{t:TA}
theorem zqn{pins:List (Addr×Obj)}{σ:St}{H:Hp}{s:Shared}{Q:VK}{us:List Value}{vs:List V}(F:FnOk X.prog X.w X.K X.mg X.base CX k f fd ps sp)(hr:Room k X.A)(hb:Binds X.K fd ps ds)(hd:Vals dvs ds)(hx:zg6 CX X E)
 (I:Inv X pins σ H s) (r:Vals vs us) (h:sp (vs ++dvs) H Q E):wpAny (model X.prog X.w) X.A (call (.ref f) us) (EP X pins σ Q) X.xe s:=by
 have r2:Vals (vs ++dvs) (us ++ds):=r.append hd
 have hl:(us ++ds).length=ps.length:=by rw[←r2.length];exact F.len _ _ _ _ h
 refine wpAny_call (codeAny_mono (F.run X.A X.stack s H ⟨us,[]⟩ (us ++ds) (vs ++dvs) Q E hr I.env0 (hb s us I.kIn hl) r2 h) λr s' hq=>?_)
 cases r with
 |error e=>exact hx pins σ H s e s' I hq
 |ok fl=>
  cases fl with
  |ret u=>exact I.after hq
  |next=>exact False.elim hq
  |brk=>exact False.elim hq
  |cont=>exact False.elim hq
theorem zof(F:FnOk X.prog X.w X.K X.mg X.base CX k f fd ps sp)(hr:Room k X.A)(hg:Gl X x)(hm:X.mg x=some (.ref f))(hk:PySem.W.keepIn X.K (.ref f)=true)(hb:Binds X.K fd ps ds)(hd:Vals dvs ds)(hx:zg6 CX X E)
 (ha:PA X (e::es) t) (hdb:(x==("__debug__":Str))=false:=by decide) (he:starEach (e::es) X.env=(false,eval e X.env)::starEach es X.env:=by rfl) (hpl:(backTo pos (starEach es X.env)).any (·.1)=false:=by rfl):
 PE X (.Call (.Name x p) (e::es) [] pos) (zpQ sp dvs E t):=by
 intro pins s σ H Q I h
 refine wpAny_Call_Name_kw (zkR I hg hm ?_ hdb)
 refine PySem.W.callWith_K (h₀:=X.base) I.ok.mod.kin hk (thn (ha pos pins s σ H _ I h) λus s1 ⟨vs,H1,I1,r,q⟩=>⟨I1.kIn,?_⟩) he hpl
 exact zqn F hr hb hd hx I1 r q
structure Mk(K:PySem.W.Frag)(C f:Addr):Prop where
 makes:PySem.W.makesIn K C=true
 init:PySem.W.findIn K (.ref C) "__init__"=some (some (.ref f))
 fn:PySem.W.isFn K (.ref f)=true
 kp:PySem.W.keepIn K (.ref C)=true
end
section
variable{X:Cx}{CX:CXT}{k:Nat}{f C:Addr}{fd:FuncData}{ps ks:List Str}{sp:Sp}{E:XK}{x m:Str}{p pos apos kpos:Pos}{e o:Expr}{es:List Expr}{kws:List Keyword}{te ta:TE}{t tk:TA}{nm:Option Str}
structure KBinds(K:PySem.W.Frag)(fd:FuncData)(ps ks:List Str)(g:List Value->List Value->List Value)(gV:List V->List V->List V):Prop where
 to:∀(s:Shared) (us ws:List Value),K.In s.heap->(g us ws).length=ps.length->BindsTo s fd ⟨us,ks.zip ws⟩ (ps.zip (g us ws))
 rel:∀{vs:List V} {us:List Value} {zs:List V} {ws:List Value},Vals vs us->Vals zs ws->Vals (gV vs zs) (g us ws)
variable{g:List Value->List Value->List Value}{gV:List V->List V->List V}
end
structure FnScope(N P:List Str)(sc:Scope):Prop where
 kind:sc.kind= .function
 co:sc.isCoroutine=false
 gen:sc.isGenerator=false
 nd:N.Nodup
 pre:N.take P.length=P
 par:∀x∈P,sc.names.lookup x=some .local\/sc.names.lookup x=some .cell
 nofree:∀y∈sc.names,y.2≠ .free
theorem zgI{kindOf:Str->Option NameKind}{x:Str}:∀{binds:List (Str×Value)} {m:Str->Option Value},(∀v,(x,v)∉binds)->bindL kindOf binds m x=m x
 |[],_,_=>rfl
 |(n,v)::r,m,h=>by
  unfold bindL
  rw[zgI λw hw=>h w (List.mem_cons_of_mem _ hw)]
  split
  ·have:x≠n:=by rintro rfl;exact h v List.mem_cons_self
   simp[this]
  ·rfl
theorem zgW{kindOf:Str->Option NameKind}{x:Str}:∀{binds:List (Str×Value)} {m:Str->Option Value},(∀v,(x,v)∉binds)->bindC kindOf binds m x=m x
 |[],_,_=>rfl
 |(n,v)::r,m,h=>by
  unfold bindC
  rw[zgW λw hw=>h w (List.mem_cons_of_mem _ hw)]
  split
  ·rfl
  ·have:x≠n:=by rintro rfl;exact h v List.mem_cons_self
   simp[this]
theorem zgH{kindOf:Str->Option NameKind}{x:Str}{v:Value}:∀{P:List Str} {vs:List Value} {i:Nat} {m:Str->Option Value},P.Nodup->P[i]?=some x->vs[i]?=some v->kindOf x=some .local->
 bindL kindOf (P.zip vs) m x=some v
 |[],_,_,_,_,h,_,_=>by simp at h
 |_::_,[],_,_,_,_,h,_=>by simp at h
 |p::P,w::vs,0,m,nd,h1,h2,hk=>by
  simp at h1 h2;subst h1;subst h2
  show bindL kindOf ((p,w)::P.zip vs) m p=_
  unfold bindL
  rw[zgI λv hv=>(List.nodup_cons.mp nd).1 (List.of_mem_zip hv).1,if_pos hk]
  simp
 |p::P,w::vs,i+1,m,nd,h1,h2,hk=>by
  show bindL kindOf ((p,w)::P.zip vs) m x=_
  unfold bindL
  exact zgH (i:=i) (List.nodup_cons.mp nd).2 (by simpa using h1) (by simpa using h2) hk
theorem zgZ{kindOf:Str->Option NameKind}{x:Str}{v:Value}:∀{P:List Str} {vs:List Value} {i:Nat} {m:Str->Option Value},P.Nodup->P[i]?=some x->vs[i]?=some v->kindOf x≠some .local->
 bindC kindOf (P.zip vs) m x=some v
 |[],_,_,_,_,h,_,_=>by simp at h
 |_::_,[],_,_,_,_,h,_=>by simp at h
 |p::P,w::vs,0,m,nd,h1,h2,hk=>by
  simp at h1 h2;subst h1;subst h2
  show bindC kindOf ((p,w)::P.zip vs) m p=_
  unfold bindC
  rw[zgW λv hv=>(List.nodup_cons.mp nd).1 (List.of_mem_zip hv).1,if_neg hk]
  simp
 |p::P,w::vs,i+1,m,nd,h1,h2,hk=>by
  show bindC kindOf ((p,w)::P.zip vs) m x=_
  unfold bindC
  exact zgZ (i:=i) (List.nodup_cons.mp nd).2 (by simpa using h1) (by simpa using h2) hk
def start(N:List Str)(vs:List V):St:=vs.map some ++List.replicate (N.length -vs.length) none
def ziv(CX:CXT)(P:Program)(w:World)(K:PySem.W.Frag)(mg:Str->Option Value)(base:Heap)(N:List Str)(qual:Str)(scope:Scope)(f:Addr)(cd:Value)(A:Around)(outer:List Env)(s:Shared)(H:Hp)(E:XK):Cx where
 prog:=P
 w:=w
 K:=K
 mg:=mg
 base:=base
 A:=A.deeper (envOfC qual scope s.heap.objs.size f cd)
 N:=N
 s₀:=s
 H₀:=H
 env:=envOfC qual scope s.heap.objs.size f cd
 outer:=outer
 stack:=envOfC qual scope s.heap.objs.size f cd::outer
 ex:=[]
 calm:=true
 fn:=λ_=>true
 pn:=[]
 xe:=λe s'=>wpAny (model P w) (A.deeper (envOfC qual scope s.heap.objs.size f cd)) (leaving (envOfC qual scope s.heap.objs.size f cd) e) (λ_ s''=>CX outer H s E e s'') (λe' s''=>CX outer H s E e' s'') s'
theorem zih{sc:Scope}{n:Nat}{x:Str}(h:sc.names.lookup x=some .cell):∃c,(cellsFrom n sc.names []).lookup x=some c:=by
 have q:=PySem.W.cellsFrom_some sc.names n [] (.inl h)
 exact Option.isSome_iff_exists.mp q
theorem zld{CX:CXT}{P:Program}{w:World}{K:PySem.W.Frag}{mg:Str->Option Value}{base:Heap}{N ps:List Str}{qual:Str}{scope:Scope}{f:Addr}{cd:Value}{A:Around}{outer:List Env}{s s1:Shared}{H:Hp}{E:XK}{us:List Value}{vs:List V}
 (S:FnScope N ps scope) (hd:A.handled=none) (e0:Env0 P w K mg base A outer s H) (hl:vs.length=ps.length) (r:Vals vs us)
 (x:InCallC s s.heap.objs.size (bindL (envOfC qual scope s.heap.objs.size f cd).kindOf (ps.zip us) λ_=>none) (cellsFrom (s.heap.objs.size+1) scope.names []) (bindC (envOfC qual scope s.heap.objs.size f cd).kindOf (ps.zip us) λ_=>none) s1):
 Inv (ziv CX P w K mg base N qual scope f cd A outer s H E) [] (start N vs) H s1:=by
 have hpl:ps.length<=N.length:=by have:=congrArg List.length S.pre;rw[List.length_take] at this;omega
 obtain⟨h1,tk,rfl,hk⟩:=x.done
 have noA:∀b:Addr,b∉(ziv CX P w K mg base N qual scope f cd A outer s H E).ex:=λb z=>absurd (show b∈([]:List Addr)from z) (by simp)
 refine⟨⟨e0.mod,S.kind,rfl,rfl,Nat.le_refl _,λy z c h1 h2=>?_,λy hy=>?_,λy c _ h=>?_,λ_=>hd,Around.frames_deeper e0.frames, .inr ⟨rfl,rfl⟩,λb z=>absurd z (noA b),e0.bs,e0.bsz,λb _ _=>noA b,λb z=>absurd z (noA b),e0.funs,e0.frf⟩,
  rfl,e0.bare,Un.kept hk,⟨_,x.toInCall.ns,λi y v h1 h2 h3=>?_⟩,λy c h=>⟨_,x.cell y c h⟩,e0.hok.fresh (Nat.le_refl _),λy c h=>?_,λp hp=>absurd (show p∈([]:List (Addr×Obj))from hp) (by simp),e0.hok.kept hk,?_⟩
 ·exact name_of_addr x.apart (PySem.mem_of_lookup h1) (PySem.mem_of_lookup h2)
 ·have hy:scope.names.lookup y=some .cell\/scope.names.lookup y=some .free:=hy
  rcases hy with hy|hy
  ·exact zih hy
  ·exact absurd rfl (S.nofree _ (PySem.mem_of_lookup hy))
 ·exact Nat.le_of_lt (x.above y c (PySem.mem_of_lookup h))
 ·have hi:i<vs.length:=by
   unfold start at h2
   by_cases hi:i<vs.length
   ·exact hi
   ·rw[List.getElem?_append_right (by simpa using hi)] at h2
    rw[List.getElem?_replicate] at h2
    split at h2<;>cases h2
  have ha:vs[i]?=some v:=by
   unfold start at h2
   rw[List.getElem?_append_left (by simpa using hi),List.getElem?_map] at h2
   cases e:vs[i]? with
   |none=>rw[e] at h2;cases h2
   |some a=>rw[e] at h2;cases h2;rfl
  obtain⟨u,hu,rv⟩:=r.get ha
  have hp:ps[i]?=some y:=by
   rw[←S.pre,List.getElem?_take_of_lt (by omega)];exact h1
  have ndP:ps.Nodup:=by rw[←S.pre];exact S.nd.sublist (List.take_sublist _ _)
  refine⟨u,rv,?_⟩
  rcases S.par y (List.mem_of_getElem? hp)with k|k
  ·exact .inl ⟨k,zgH ndP hp hu k⟩
  ·obtain ⟨c,e⟩:=zih (n:=s.heap.objs.size+1) k
   refine .inr ⟨.inl k,c,e,?_⟩
   have q:=x.cell y c e
   rw[zgZ ndP hp hu (by show scope.names.lookup y≠_;rw[k];decide)] at q
   exact q
 ·exact e0.hok.fresh (Nat.le_of_lt (x.above y c (PySem.mem_of_lookup h)))
 ·unfold start
  show _=N.length
  rw[List.length_append,List.length_map,List.length_replicate]
  omega
theorem zpR{CX:CXT}{P:Program}{w:World}{K:PySem.W.Frag}{mg:Str->Option Value}{base:Heap}{k:Nat}{f:Addr}{name qual:Str}{params:Arguments}{body:List Stmt}{scope:Scope}{dV kV doc pm cdv ct oc:Value}{an od:Option Addr}
 {osl:Array (Option Value)} {N ps:List Str} {sp:Sp} (lk:K.lookup f=some ⟨oc,od, .func (PySem.W.fnOf name qual params body scope dV kV doc pm an cdv ct),osl⟩) (hcd:PySem.W.codeIn K cdv qual=true) (S:FnScope N ps scope)
 (len:∀vs H Q E,sp vs H Q E->vs.length=ps.length)
 (hbody:∀(A:Around) (outer:List Env) (s:Shared) (H:Hp) (vs:List V) (Q:VK) (E:XK),Room k (A.deeper (envOfC qual scope s.heap.objs.size f cdv))->sp vs H Q E->
   ∃t,PSs (ziv CX P w K mg base N qual scope f cdv A outer s H E) body t/\t {nx:=λ_ H'=>Q .non H',rt:=Q} (start N vs) H):
 FnOk P w K mg base CX (k+1) f (PySem.W.fnOf name qual params body scope dV kV doc pm an cdv ct) ps sp:=by
 refine⟨len,λA outer s H args us vs Q E hr e0 hb r hsp=>?_⟩
 have hl:=len _ _ _ _ hsp
 have KX:K.In s.heap:=e0.mod.kin.keeps λb o e=>(e0.bs b o e).1
 have lim:s.heap.NoLimit:=e0.mod.nolimit.keeps λb o e=>(e0.bs b o e).1
 have hkind:∀y∈ps.zip us,scope.names.lookup y.1=some .local\/(scope.names.lookup y.1=some .cell/\((cellsFrom (s.heap.objs.size+1) scope.names []).lookup y.1).isSome=true):=λ⟨n,v⟩ hy=>by
  rcases S.par n (List.of_mem_zip hy).1 with q|q
  ·exact .inl q
  ·exact .inr ⟨q,PySem.W.cellsFrom_some _ _ _ (.inl q)⟩
 refine codeAny_call_function hr.depth (KX _ _ lk) rfl S.co S.gen rfl (PySem.W.codeRec_of KX hcd) (hb _ _ _ _ ?_)
 refine wpAny_newFunctionEnv_cells S.kind hkind λenv he s1 x=>?_
 subst he
 refine⟨lim.keeps x.toInCall.keep,codeAny_func ?_⟩
 obtain⟨t,ht,hq⟩:=hbody A outer s H vs Q E (hr.deeper _) hsp
 have I:Inv (ziv CX P w K mg base N qual scope f cdv A outer s H E) [] (start N vs) H s1:=zld S hr.hd e0 hl r x
 refine wpAny_mono (ht [] s1 (start N vs) H _ I hq) (λfl s' hs=>?_) λe s' hs=>hs
 have fin:∀{σ':St} {H':Hp} {v:V} {u:Value},Inv (ziv CX P w K mg base N qual scope f cdv A outer s H E) [] σ' H' s'->RelV v u->Q v H'->CE outer P w H s Q u s':=
  λ{σ' H' v u} J rv q=>⟨v,H',J.os,J.bare,J.base,J.hok,rv,q⟩
 cases fl with
 |ret u=>
  obtain⟨v,σ',H',J,rv,q⟩:=hs
  exact fin J rv q
 |next=>
  obtain⟨σ',H',J,q⟩:=hs
  exact fin (v:=V.non) (u:=Value.none) J rfl q
 |brk=>
  obtain⟨_,_,_,q⟩:=hs
  exact False.elim q
 |cont=>
  obtain⟨_,_,_,q⟩:=hs
  exact False.elim q
section
variable{X:Cx}{x:Str}{p pos:Pos}{e:Expr}{es:List Expr}{t:TA}{id T:String}{r:List V->Hp->VK->Prop}
def tCB(r:List V->Hp->VK->Prop)(t:TA):TE:=λσ H Q=>t σ H λvs H1=>r vs H1 Q
theorem znd(hc:CallR X (.builtin id) r)(hg:Gl X x)(hm:X.mg x=none)(hv:bootBuiltins x=some (.builtin id))(ha:PA X (e::es) t)(hn:x≠"__name__":=by decide)(hdb:(x==("__debug__":Str))=false:=by decide)
 (he:starEach (e::es) X.env=(false,eval e X.env)::starEach es X.env:=by rfl) (hpl:(backTo pos (starEach es X.env)).any (·.1)=false:=by rfl):PE X (.Call (.Name x p) (e::es) [] pos) (tCB r t):=by
 intro pins s σ H Q I h
 refine wpAny_Call_Name_kw (zcT I hg hm hv ?_ hn hdb)
 exact PyProof.Rows.callWith_builtin1 (thn (ha pos pins s σ H _ I h) λus s1 ⟨vs,H1,I1,r1,q1⟩=>hc pins s1 σ H1 vs us Q I1 r1 q1) he hpl
theorem zk0(hc:CallR X (.type T) r)(hg:Gl X x)(hm:X.mg x=none)(hv:bootBuiltins x=some (.type T))(ha:PA X (e::es) t)(hn:x≠"__name__":=by decide)(hdb:(x==("__debug__":Str))=false:=by decide)
 (he:starEach (e::es) X.env=(false,eval e X.env)::starEach es X.env:=by rfl) (hpl:(backTo pos (starEach es X.env)).any (·.1)=false:=by rfl):PE X (.Call (.Name x p) (e::es) [] pos) (tCB r t):=by
 intro pins s σ H Q I h
 refine wpAny_Call_Name_kw (zcT I hg hm hv ?_ hn hdb)
 exact PyProof.Rows.callWith_type1 (thn (ha pos pins s σ H _ I h) λus s1 ⟨vs,H1,I1,r1,q1⟩=>hc pins s1 σ H1 vs us Q I1 r1 q1) he hpl
end
end L2
namespace HT
open PySem PyProof.Rows
section
open PySem.SeqAt
open PySem.AutoSeq1 (wpAny_loadPart')
open PySem.MeetsSeq PySem.MeetsSeq2 PySem.MeetsSeq3
end
section
variable{prog:Program}{w:World}{A:Around}{E:Value->Shared->Prop}{s:Shared}
theorem cat_tup{t b:Addr}{vs ws:List Value}{Q:Value->Shared->Prop}(ht:IsTup s.heap t vs.toArray)(hb:IsTup s.heap b ws.toArray)(hv:vs≠ [])
 (h1:ws=[]->Q (.ref t) s) (h2:ws≠ []->Q (.ref s.heap.objs.size) {s with heap:=s.heap.push {cls:= .type "tuple",data:= .seq (vs ++ws).toArray}})
 (hsz:vs.length+ws.length<=sizeLine):wpAny (model prog w) A (binaryOp .Add (.ref t) (.ref b)) Q E s:=by
 obtain⟨⟨cls,dd,data,sl⟩,ho,hc,n,hd⟩:=id ht
 obtain⟨⟨cls2,dd2,data2,sl2⟩,ho2,hc2,n2,hd2⟩:=id hb
 simp only at hc hd hc2 hd2
 subst hc hd hc2 hd2
 have e:vs.toArray ++ws.toArray=(vs ++ws).toArray:=by simp
 by_cases hw:ws=[]
 ·exact concat_meets ⟨_,ho,rfl⟩ ⟨_,ho2,rfl⟩ noFill_tuple_add seq_tuple_add PySem.F.slot_tuple_add PySem.F.entry_tuple_add (PySem.F.args_tuple_add_2 _ _)
   (tuple_addW1 t b vs.toArray ws.toArray n n2 dd dd2 sl sl2 (by simpa using hv) (by simp[hw])) ⟨ho,ho2,h1 hw⟩
 ·refine concat_meets ⟨_,ho,rfl⟩ ⟨_,ho2,rfl⟩ noFill_tuple_add seq_tuple_add PySem.F.slot_tuple_add PySem.F.entry_tuple_add (PySem.F.args_tuple_add_2 _ _)
   (tuple_addW2 t b vs.toArray ws.toArray n n2 dd dd2 sl sl2 (by simpa using hv) (by simpa using hw) (by rw[List.size_toArray,List.size_toArray];exact hsz)) ⟨ho,ho2,?_⟩
  rw[e]
  exact h2 hw
def sIx(n d:Nat):Option Int->Nat
 |none=>d
 |some v=>if v<0 then(v+(n:Int)).toNat else min v.toNat n
theorem zqs(n d:Nat)(hd:d<=n)(o:Option Int):sIx n d o<=n:=by
 cases o with
 |none=>exact hd
 |some v=>
  show(if v<0 then(v+(n:Int)).toNat else min v.toNat n)<=n
  by_cases hv:v<0
  ·rw[if_pos hv];omega
  ·rw[if_neg hv];exact Nat.min_le_right _ _
theorem zkX(v:Int)(n d:Nat):(if v<0 then max (v+(n:Int)) 0 else min v (n:Int))=((sIx n d (some v):Nat):Int):=by
 show(if v<0 then max (v+(n:Int)) 0 else min v (n:Int))=(((if v<0 then(v+(n:Int)).toNat else min v.toNat n):Nat):Int)
 by_cases hv:v<0
 ·simp only[if_pos hv];omega
 ·simp only[if_neg hv];omega
theorem zjq(lo hi:Option Int)(n:Nat):Builtin.Slice.sliceAdjust lo hi 1 (n:Int)=(((sIx n 0 lo:Nat):Int),((sIx n n hi:Nat):Int)):=by
 have h1:¬((1:Int)<0):=by omega
 unfold Builtin.Slice.sliceAdjust
 simp only[h1,if_false]
 refine Prod.ext ?_ ?_
 ·cases lo with
  |none=>rfl
  |some v=>exact zkX v n 0
 ·cases hi with
  |none=>rfl
  |some v=>exact zkX v n n
theorem zjx(i j:Nat):Builtin.Slice.slicePlaces (i:Int) (j:Int) 1=j -i:=by
 unfold Builtin.Slice.slicePlaces
 have h1:(1:Int)>0:=by omega
 simp only[h1,if_true,Int.ediv_one]
 split<;>omega
theorem zf8{v:Value}{o:Option Int}{Q:Option Int->Shared->Prop}(p:IsPart v o)(h:Q o s):wpAny (model prog w) A (Builtin.Slice.slicePartIndex v) Q E s:=by
 cases p with
 |none=>exact slicePart_none h
 |int i t=>exact slicePart_int h
theorem zcD{sl:Addr}{vl vu:Value}{lo hi:Option Int}{n:Nat}{Q:Int×Int×Nat->Shared->Prop}(hs:s.heap.IsSliceOf sl vl vu .none)(pl:IsPart vl lo)(pu:IsPart vu hi)
 (h:Q (((sIx n 0 lo:Nat):Int),1,sIx n n hi -sIx n 0 lo) s):wpAny (model prog w) A (Builtin.Slice.sliceApplied (.ref sl) (pure (n:Int))) Q E s:=by
 obtain⟨os,hos,hcs,hds⟩:=id hs
 unfold Builtin.Slice.sliceApplied Builtin.Slice.sliceFields
 refine wpAny_bind (wpAny_bind (wpAny_field hos hds (x:=vl) rfl (wpAny_bind (wpAny_field hos hds (x:=vu) rfl (wpAny_bind (wpAny_field hos hds (x:= .none) rfl (wpAny_pure ?_)))))))
 refine wpAny_bind (slicePart_none ?_)
 show wpAny _ _ (if((1:Int)==0)=true then _ else _) _ _ s
 rw[if_neg (by decide)]
 refine wpAny_bind (zf8 pl (wpAny_bind (zf8 pu (wpAny_bind (wpAny_pure ?_)))))
 show wpAny _ _ (match Builtin.Slice.sliceAdjust lo hi 1 (n:Int)with|(lo,hi)=>pure (lo,(1:Int),Builtin.Slice.slicePlaces lo hi 1)) _ _ s
 rw[zjq lo hi n]
 show wpAny _ _ (pure (((sIx n 0 lo:Nat):Int),(1:Int),Builtin.Slice.slicePlaces ((sIx n 0 lo:Nat):Int) ((sIx n n hi:Nat):Int) 1)) _ _ s
 rw[zjx]
 exact wpAny_pure h
theorem znp(xs:Array Value)(i k:Nat):((List.range k).filterMap λ(m:Nat)=>xs[((i:Int)+(m:Int)*1).toNat]?).toArray=((xs.toList.drop i).take k).toArray:=by
 have e:(λ(m:Nat)=>xs[((i:Int)+(m:Int)*1).toNat]?)=λm=>xs[i+m]?:=by
  funext m
  have:((i:Int)+(m:Int)*1).toNat=i+m:=by omega
  rw[this]
 rw[e]
 have:=pick_run xs i k
 rw[List.filterMap_map] at this
 have e2:((λx=>xs[x]?)∘λx=>i+x)=λm=>xs[i+m]?:=rfl
 rw[e2] at this
 rw[this]
theorem getItem_tuple_cut{t sl:Addr}{items:Array Value}{vl vu:Value}{lo hi:Option Int}{Q:Value->Shared->Prop}(ht:IsTup s.heap t items)(hs:s.heap.IsSliceOf sl vl vu .none)(pl:IsPart vl lo)(pu:IsPart vu hi)
 (hw:¬(sIx items.size 0 lo=0/\sIx items.size items.size hi=items.size))
 (h:Q (.ref s.heap.objs.size) {s with heap:=s.heap.push {cls:= .type "tuple",data:= .seq ((items.toList.drop (sIx items.size 0 lo)).take (sIx items.size items.size hi -sIx items.size 0 lo)).toArray}})
 (hsz:items.size<=sizeLine):wpAny (model prog w) A (getItem (.ref t) (.ref sl)) Q E s:=by
 have htake:sizeOk (.seq ((items.toList.drop (sIx items.size 0 lo)).take (sIx items.size items.size hi -sIx items.size 0 lo)).toArray):=by
  show((items.toList.drop (sIx items.size 0 lo)).take (sIx items.size items.size hi -sIx items.size 0 lo)).toArray.size<=sizeLine
  rw[List.size_toArray,List.length_take,List.length_drop,Array.length_toList]
  omega
 have hj:sIx items.size items.size hi<=items.size:=zqs _ _ (Nat.le_refl _) hi
 obtain⟨os,hos,hcs,hds⟩:=id hs
 have hTs:s.TypeIs (.ref sl) "slice":=⟨os,hos,hcs⟩
 unfold getItem
 try with_reducible refine wpAny_holding ?_
 first|refine wpAny_bind (wpAny_pure ?_)|skip
 refine wpAny_bind (wpAny_sequenceKey ht.typeIs (by decide) ?_)
 refine wpAny_bind (wpAny_callSpecial?_slot (name:=Str.ofString "__getitem__") ht.typeIs PyProof.Rows.slot_tuple_getitem
  (wpAny_call_entry PyProof.Rows.slot_tuple_getitem ht.typeIs entry_tuple_getitem ?_ (args_tuple_getitem _ _)))
 show wpAny _ _ (Builtin.Tuple.tupleItemsOf (.ref t)>>=_) _ _ s
 refine wpAny_bind (tupleItemsOf_ ht ?_)
 refine wpAny_bind (wpAny_typeOf hTs ?_)
 rw[if_pos (by decide)]
 refine wpAny_bind (zcD hs pl pu ?_)
 have hno:¬((((sIx items.size 0 lo:Nat):Int)==0&&(1:Int)==1&&(sIx items.size items.size hi -sIx items.size 0 lo)==items.size)=true):=by
  intro q
  rw[Bool.and_eq_true,Bool.and_eq_true] at q
  have q1:((sIx items.size 0 lo:Nat):Int)=0:=eq_of_beq q.1.1
  have q2:sIx items.size items.size hi -sIx items.size 0 lo=items.size:=eq_of_beq q.2
  exact hw ⟨by omega,by omega⟩
 show wpAny _ _ (if(((sIx items.size 0 lo:Nat):Int)==0&&(1:Int)==1&&(sIx items.size items.size hi -sIx items.size 0 lo)==items.size)=true then _ else _) _ _ s
 rw[if_neg hno,znp]
 first
  |exact wpAny_bind (m:=Builtin.Tuple.tupleExact _) (wpAny_newObj_type (wpAny_pure ⟨_,rfl,wpAny_pure h⟩) htake)
  |exact wpAny_bind (m:=Builtin.Tuple.tupleExact _) (wpAny_newObj_type (wpAny_bind (wpAny_pure (wpAny_pure ⟨_,rfl,wpAny_pure h⟩))) htake)
  |exact wpAny_bind (wpAny_bind (m:=Builtin.Tuple.tupleExact _) (wpAny_newObj_type (wpAny_pure (wpAny_pure ⟨_,rfl,wpAny_pure h⟩)) htake))
  |exact wpAny_bind (wpAny_bind (m:=Builtin.Tuple.tupleExact _) (wpAny_newObj_type (wpAny_pure ⟨_,rfl,wpAny_pure h⟩) htake))
end
end HT
namespace L2
open PySem PySem.Spec PyProof.Rows
abbrev TO:=St->Hp->(Option Int->Hp->Prop)->Prop
def PO(X:Cx)(e:Option Expr)(t:TO):Prop:=
 ∀(pins:List (Addr×Obj)) (s:Shared) (σ:St) (H:Hp) (Q:Option Int->Hp->Prop),Inv X pins σ H s->t σ H Q->
  wpAny (model X.prog X.w) X.A (evalPart e X.env) (λu s'=>∃o H',Inv X pins σ H' s'/\IsPart u o/\Q o H') X.xe s
def zkE:TO:=λ_ H Q=>Q none H
def zpx(t:TE):TO:=λσ H Q=>t σ H λx H1=>∃i,x= .int i/\Q (some i) H1
section
variable{X:Cx}{e:Expr}{te:TE}{lo hi:Option Expr}{tl th:TO}{pos p2:Pos}
theorem znL:PO X none zkE:=by
 intro pins s σ H Q I h
 rw[evalPart_none]
 exact wpAny_pure ⟨none,H,I, .none,h⟩
theorem zoW(h:PE X e te):PO X (some e) (zpx te):=by
 intro pins s σ H Q I hw
 rw[evalPart_some]
 refine thn (h pins s σ H _ I hw) λu s1 ⟨x,H1,I1,r1,q1⟩=>?_
 obtain⟨i,rfl,q⟩:=q1
 obtain⟨t,rfl⟩:=r1
 exact⟨some i,H1,I1, .int i t,q⟩
def SlR(X:Cx)(r:V->Option Int->Option Int->Hp->VK->Prop):Prop:=
 ∀(pins:List (Addr×Obj)) (s:Shared) (σ:St) (H:Hp) (x:V) (v vl vu:Value) (lo hi:Option Int) (sl:Addr) (Q:VK),Inv X pins σ H s->RelV x v->s.heap.IsSliceOf sl vl vu .none->IsPart vl lo->IsPart vu hi->r x lo hi H Q->
  ∃T id,typeLookup (.type T) "__getitem__"=pure (some (.builtin id))/\s.TypeIs v T/\wpAny (model X.prog X.w) X.A (getItem v (.ref sl)) (EP X pins σ Q) X.xe s
def tSl(r:V->Option Int->Option Int->Hp->VK->Prop)(te:TE)(tl th:TO):TE:=λσ H Q=>te σ H λx H1=>tl σ H1 λl H2=>th σ H2 λu H3=>r x l u H3 Q
theorem znn{r:V->Option Int->Option Int->Hp->VK->Prop}(hr:SlR X r)(he:PE X e te)(hl:PO X lo tl)(hu:PO X hi th):PE X (.Subscript e (.Slice lo hi none p2) pos) (tSl r te tl th):=by
 intro pins s σ H Q I h
 refine Subscript_ (thn (he pins s σ H _ I h) λv s1 ⟨x,H1,I1,r1,q1⟩=>?_)
 refine wpAny_Slice (thn (hl pins s1 σ H1 _ I1 q1) λvl s2 ⟨l,H2,I2,pl,q2⟩=>thn (hu pins s2 σ H2 _ I2 q2) λvu s3 ⟨u,H3,I3,pu,q3⟩=>?_)
 rw[evalPart_none]
 refine wpAny_pure ?_
 have I4:Inv X pins σ H3 {s3 with heap:=s3.heap.push {cls:= .type "slice",data:= .fields #[vl,vu, .none]}}:=I3.kept (t':=s3.toks) λb ob q=>Heap.get?_push_of_some _ q
 obtain⟨T,id,hT,ht,hg⟩:=hr pins {s3 with heap:=s3.heap.push {cls:= .type "slice",data:= .fields #[vl,vu, .none]}} σ H3 x v vl vu l u s3.heap.objs.size Q I4 r1 (Heap.IsSliceOf.new ..) pl pu q3
 show wpAny (model X.prog X.w) X.A (subscriptTail e (.Slice lo hi none p2) v (.ref s3.heap.objs.size)) (EP X pins σ Q) X.xe {s3 with heap:=s3.heap.push {cls:= .type "slice",data:= .fields #[vl,vu, .none]}}
 exact tail_any (ops:=[.ref s3.heap.objs.size,v]) ht hT hg (by with_unfolding_all rfl)
def zb1(xs:List V)(lo hi:Option Int):List V:=(xs.drop (HT.sIx xs.length 0 lo)).take (HT.sIx xs.length xs.length hi -HT.sIx xs.length 0 lo)
theorem ze4(xs:List V)(lo hi:Option Int):(zb1 xs lo hi).length<=xs.length:=by
 unfold zb1
 rw[List.length_take,List.length_drop]
 omega
def zrY(K:PySem.W.Frag):V->Option Int->Option Int->Hp->VK->Prop:=λx lo hi H Q=>∃a xs,x= .ref a/\SqT K H a xs/\
 ¬(HT.sIx xs.length 0 lo=0/\HT.sIx xs.length xs.length hi=xs.length)/\∀p,H p=none->Q (.ref p) (upd H p (.tup (zb1 xs lo hi)))
theorem zqD:SlR X (zrY X.K):=by
 intro pins s σ H x v vl vu lo hi sl Q I rx hs pl pu h
 obtain⟨a,xs,rfl,hx,hw,q⟩:=h
 cases rx
 obtain⟨its,r,ht,hz⟩:=I.tuple hx
 have hlen:its.toArray.size=xs.length:=by rw[List.size_toArray];exact r.length.symm
 refine⟨"tuple",_,PyProof.Rows.slot_tuple_getitem.lookup,ht.typeIs,?_⟩
 refine HT.getItem_tuple_cut ht hs pl pu (by rw[hlen];exact hw) ?_ (by rw[hlen];exact hz)
 rw[hlen]
 refine⟨.ref s.heap.objs.size,_,I.laid (t':=s.toks) (o:= .tup (zb1 xs lo hi)) (λb ob q=>Heap.get?_push_of_some _ q) (Nat.le_refl _) ?_,rfl,q _ (I.hok.fresh (Nat.le_refl _))⟩
 exact⟨Nat.le_trans (ze4 xs lo hi) hz,_,(r.drop (HT.sIx xs.length 0 lo)).take (HT.sIx xs.length xs.length hi -HT.sIx xs.length 0 lo),IsTup.new _ _,NoDict.new rfl (Heap.get?_push_size _ rfl)⟩
def zrn(K:PySem.W.Frag):R2:=λx y H Q=>∃a b xs ys,x= .ref a/\y= .ref b/\SqT K H a xs/\SqT K H b ys/\xs≠ []/\xs.length+ys.length<=sizeLine/\
 (ys=[]->Q (.ref a) H)/\(ys≠ []->∀p,H p=none->Q (.ref p) (upd H p (.tup (xs ++ys))))
theorem Vals.nil_iff{xs:List V}{us:List Value}(r:Vals xs us):us=[]↔xs=[]:=by
 cases r with
 |nil=>simp
 |cons _ _=>simp
theorem zos:OpR X (binaryOp .Add) (zrn X.K):=by
 intro pins s σ H x y v u Q I rx ry h
 obtain⟨a,b,xs,ys,rfl,rfl,ha,hb,hx,hz,q1,q2⟩:=h
 cases rx
 cases ry
 obtain⟨its,r1,p1,_⟩:=I.tuple ha
 obtain⟨its2,r2,p2,_⟩:=I.tuple hb
 refine HT.cat_tup p1 p2 (λz=>hx (r1.nil_iff.mp z)) (λz=>⟨.ref a,H,I,rfl,q1 (r2.nil_iff.mp z)⟩) (λz=>?_) (by rw[←r1.length,←r2.length];exact hz)
 refine⟨.ref s.heap.objs.size,_,I.laid (t':=s.toks) (o:= .tup (xs ++ys)) (λb ob q=>Heap.get?_push_of_some _ q) (Nat.le_refl _) ?_,rfl,q2 (λw=>z (r2.nil_iff.mpr w)) _ (I.hok.fresh (Nat.le_refl _))⟩
 exact⟨by rw[List.length_append];exact hz,_,r1.append r2,IsTup.new _ _,NoDict.new rfl (Heap.get?_push_size _ rfl)⟩
end
def ixN(n:Nat)(i:Int):Option Nat:=if 0<=i then(if i<n then some i.toNat else none)else if -(n:Int)<=i then some (i+n).toNat else none
def atI{α:Type}(xs:List α)(i:Int):Option α:=(ixN xs.length i).bind λj=>xs[j]?
theorem zkb{n:Nat}{i:Int}{j:Nat}(h:ixN n i=some j):seqIndex? i n=some j/\j<n/\-(n:Int)<=i/\i<n:=by
 unfold ixN at h
 by_cases h0:0<=i
 ·rw[if_pos h0] at h
  by_cases h1:i<n
  ·rw[if_pos h1] at h
   have e:i.toNat=j:=Option.some.inj h
   exact⟨by rw[seqIndex_of h0 h1,e],by omega,by omega,h1⟩
  ·rw[if_neg h1] at h;cases h
 ·rw[if_neg h0] at h
  by_cases h1: -(n:Int)<=i
  ·rw[if_pos h1] at h
   have e:(i+n).toNat=j:=Option.some.inj h
   exact⟨by rw[seqIndex_neg (by omega) h1,e],by omega,h1,by omega⟩
  ·rw[if_neg h1] at h;cases h
theorem zg5{α:Type}{xs:List α}{i:Int}{v:α}(h:atI xs i=some v):∃j,seqIndex? i xs.length=some j/\xs[j]?=some v/\j<xs.length/\-(xs.length:Int)<=i/\i<xs.length:=by
 unfold atI at h
 cases e:ixN xs.length i with
 |none=>rw[e] at h;cases h
 |some j=>
  rw[e] at h
  obtain⟨h1,h2,h3,h4⟩:=zkb e
  exact⟨j,h1,h,h2,h3,h4⟩
theorem zI{α:Type}{xs:List α}{j:Nat}{v:α}(h:xs[j]?=some v):atI xs (j:Int)=some v:=by
 have hj:j<xs.length:=(List.getElem?_eq_some_iff.mp h).1
 have e:ixN xs.length (j:Int)=some j:=by
  unfold ixN
  rw[if_pos (by omega),if_pos (by omega)];simp
 unfold atI;rw[e];exact h
theorem zl7{α:Type}(xs:List α)(v:α):atI (xs ++ [v]) (-1)=some v:=by
 have hl:(xs ++ [v]).length=xs.length+1:=by simp
 have e:ixN (xs ++ [v]).length (-1)=some xs.length:=by
  unfold ixN
  rw[hl,if_neg (by decide),if_pos (by omega)]
  congr 1
  omega
 unfold atI
 rw[e]
 show(xs ++ [v])[xs.length]?=some v
 simp
def zkB(b:Expr):Prop:=∀o i,subscripted b false o i=operate [o,i] (getItem o i)
def IxR(X:Cx)(r:R2):Prop:=
 ∀(value slice:Expr) (pins:List (Addr×Obj)) (s:Shared) (σ:St) (H:Hp) (x y:V) (v u:Value) (Q:VK),Inv X pins σ H s->RelV x v->RelV y u->r x y H Q->
  subscripted slice false v u=operate [v,u] (getItem v u)->wpAny (model X.prog X.w) X.A (subscriptTail value slice v u) (EP X pins σ Q) X.xe s
def MtR(X:Cx)(id:String)(r:V->List V->Hp->VK->Prop):Prop:=
 ∀(pins:List (Addr×Obj)) (s:Shared) (σ:St) (H:Hp) (x:V) (xs:List V) (v:Value) (us:List Value) (Q:VK),Inv X pins σ H s->RelV x v->Vals xs us->r x xs H Q->
  wpAny (model X.prog X.w) X.A (call (.builtin id) (v::us)) (EP X pins σ Q) X.xe s
section
variable{X:Cx}{a b:Expr}{ta tb:TE}{pos:Pos}
theorem IxR.or{r r':R2}(h:IxR X r)(h':IxR X r'):IxR X (λx y H Q=>r x y H Q\/r' x y H Q):=by
 intro value slice pins s σ H x y v u Q I rx ry q hs
 rcases q with q|q
 ·exact h value slice pins s σ H x y v u Q I rx ry q hs
 ·exact h' value slice pins s σ H x y v u Q I rx ry q hs
theorem zrg{r:R2}(hr:IxR X r)(ha:PE X a ta)(hb:PE X b tb)(hs:zkB b):PE X (.Subscript a b pos) (tOp r ta tb):=by
 intro pins s σ H Q I h
 exact Subscript_ (zqF ha hb I h λv u s2 x y H2 I2 rx ry q=>hr a b pins s2 σ H2 x y v u Q I2 rx ry q (hs _ _))
def zrl(K:PySem.W.Frag):R2:=λx y H Q=>∃p xs i v,x= .ref p/\y= .int i/\SqL K H p xs/\atI xs i=some v/\Q v H
def zqv(K:PySem.W.Frag):R2:=λx y H Q=>∃p xs i v,x= .ref p/\y= .int i/\SqT K H p xs/\atI xs i=some v/\Q v H
def zru:R2:=λx y H Q=>∃z i c,x= .str z/\y= .int i/\z.length<=sizeLine/\atI z.cps.toList i=some c/\Q (.str ⟨#[c]⟩) H
theorem ix_list:IxR X (zrl X.K):=by
 intro value slice pins s σ H x y v u Q I rx ry h hs
 obtain⟨p,xs,i,z,rfl,rfl,hq,he,q⟩:=h
 cases rx
 obtain⟨t,rfl⟩:=ry
 obtain⟨its,r,pl,hz⟩:=I.list hq
 obtain⟨j,h1,h2,h3,h4,h5⟩:=zg5 he
 obtain⟨w,ew,rw'⟩:=r.get h2
 have hl:=r.length
 have hn:=zdV
 have fin:EP X pins σ Q w s:=⟨z,H,I,rw',q⟩
 by_cases h0:0<=i
 ·have hj:i.toNat=j:=by
   rw[seqIndex_of h0 h5] at h1
   exact Option.some.inj h1
  exact item_listR pl.isList h0 (by omega) (by rw[hj];simpa using ew) fin hs
 ·have hj:(i+(its.toArray.size:Int)).toNat=j:=by
   rw[seqIndex_neg (by omega) h4] at h1
   rw[List.size_toArray,←hl]
   exact Option.some.inj h1
  exact subscriptTail_builtinR (x:=w) pl.isList.typeIs slot_list_getitem.lookup
   (wpAny_getItem_list_neg (Q:=λr s'=>r=w/\EP X pins σ Q r s') pl.isList (by omega) (by rw[List.size_toArray]<;>omega) (by omega) (by rw[hj];simpa using ew) ⟨rfl,fin⟩) hs
theorem ix_tup:IxR X (zqv X.K):=by
 intro value slice pins s σ H x y v u Q I rx ry h hs
 obtain⟨p,xs,i,z,rfl,rfl,hq,he,q⟩:=h
 cases rx
 obtain⟨t,rfl⟩:=ry
 obtain⟨its,r,pl,hz⟩:=I.tuple hq
 obtain⟨j,h1,h2,h3,h4,h5⟩:=zg5 he
 obtain⟨w,ew,rw'⟩:=r.get h2
 have hl:=r.length
 have hn:=zdV
 have fin:EP X pins σ Q w s:=⟨z,H,I,rw',q⟩
 exact subscriptTail_builtinR (x:=w) pl.typeIs slot_tuple_getitem.lookup
  (getItem_tuple (j:=j) (Q:=λr s'=>r=w/\EP X pins σ Q r s') pl (by omega) (by omega) (by rw[List.size_toArray,←hl];exact h1) (by simpa using ew) ⟨rfl,fin⟩) hs
theorem zm1:IxR X zru:=by
 intro value slice pins s σ H x y v u Q I rx ry h hs
 obtain⟨z,i,c,rfl,rfl,hz,he,q⟩:=h
 obtain⟨t,rfl⟩:=rx
 obtain⟨t',rfl⟩:=ry
 obtain⟨j,h1,h2,h3,h4,h5⟩:=zg5 he
 have hl:z.cps.toList.length=z.length:=by simp[Str.length]
 rw[hl] at h1 h4 h5
 have hn:=zdV
 exact tail_any (typeIs_str s z t) slot_str_getitem.lookup (getItem_str (c:=c) (by
  have e1:decide (i< -(2^63:Int))=false:=decide_eq_false (by omega)
  have e2:decide (i≥2^63)=false:=decide_eq_false (by omega)
  rw[e1,e2,Bool.or_false]) (by rw[h1];simpa using h2) ⟨.str ⟨#[c]⟩,H,I.tok _,⟨_,rfl⟩,q⟩) hs
def rIx(K:PySem.W.Frag):R2:=λx y H Q=>zrl K x y H Q\/zqv K x y H Q\/zru x y H Q
theorem zjL:IxR X (rIx X.K):=ix_list.or (ix_tup.or zm1)
theorem zjA(its:List Value)(n j:Nat)(u:Value):Obj.mapSeq (·.setIfInBounds j u) {cls:= .type "list",data:= .seq its.toArray n}={cls:= .type "list",data:= .seq (its.set j u).toArray n}:=by
 simp[Obj.mapSeq]
theorem Inv.lst{pins:List (Addr×Obj)}{σ:St}{H:Hp}{s:Shared}{p:Addr}{xs:List V}(I:Inv X pins σ H s)(h:H p=some (.lst xs)):
 ∃(its:List Value) (n:Nat),Vals xs its/\s.heap.get? p=some {cls:= .type "list",data:= .seq its.toArray n}/\xs.length<=sizeLine:=by
 obtain⟨z,its,n,r,e⟩:=I.hok p _ h
 exact⟨its,n,r,e,z⟩
theorem Inv.lstUpd{pins:List (Addr×Obj)}{σ:St}{H:Hp}{s:Shared}{p:Addr}{xs ys:List V}{its its':List Value}{n n':Nat}{f:Obj->Obj}(I:Inv X pins σ H s)(h:H p=some (.lst xs))
 (ho:s.heap.get? p=some {cls:= .type "list",data:= .seq its.toArray n}) (hf:f {cls:= .type "list",data:= .seq its.toArray n}={cls:= .type "list",data:= .seq its'.toArray n'}) (r:Vals ys its') (hz:ys.length<=sizeLine) (t:Nat):
 Inv X pins σ (upd H p (.lst ys)) {s with heap:=s.heap.update p f,toks:=t}:=by
 have e:(s.heap.update p f).get? p=some {cls:= .type "list",data:= .seq its'.toArray n'}:=by
  rw[Heap.get?_update_self f ho (by rw[hf]<;>rfl),hf]
 refine I.write (x:=p) (e:=p) (by rw[h];trivial) (.inl rfl) (λb u hb q=>(Heap.get?_update_other _ _ (Ne.symm hb)).trans q) ⟨_,e⟩ ?_
 exact⟨hz,its',n',r,e⟩
def zrA:V->V->V->Hp->(Hp->Prop)->Prop:=λo i v H Q=>∃p xs k j,o= .ref p/\i= .int k/\H p=some (.lst xs)/\ixN xs.length k=some j/\Q (upd H p (.lst (xs.set j v)))
theorem zf9:zqb X zrA:=by
 intro pins s σ H o i v ov iv u Q I ro ri rv h
 obtain⟨p,xs,k,j,rfl,rfl,hp,hj,q⟩:=h
 cases ro
 obtain⟨t,rfl⟩:=ri
 obtain⟨its,n,r,ho,hz⟩:=I.lst hp
 obtain⟨h1,h2,h3,h4⟩:=zkb hj
 have hl:=r.length
 have hn:=zdV
 have I':Inv X pins σ (upd H p (.lst (xs.set j v))) {s with heap:=s.heap.update p (Obj.mapSeq (·.setIfInBounds j u))}:=
  I.lstUpd hp ho (zjA its n j u) (r.set rv j) (by rw[List.length_set];exact hz) s.toks
 by_cases h0:0<=k
 ·have hk:k.toNat=j:=by
   rw[seqIndex_of h0 h4] at h1
   exact Option.some.inj h1
  exact PySem.W.ki_setAt ho h0 (by omega) (by rw[List.size_toArray,←hl];exact h4) (by rw[hk];exact⟨_,I',q⟩)
 ·have hk:(k+(its.toArray.size:Int)).toNat=j:=by
   rw[seqIndex_neg (by omega) h3] at h1
   rw[List.size_toArray,←hl]
   exact Option.some.inj h1
  exact PySem.W.ki_setBack ho (by omega) (by rw[List.size_toArray,←hl];exact h3) (by omega) (by rw[hk];exact⟨_,I',q⟩)
theorem zhM(lo hi:Option Int)(n:Nat):(sliceBounds lo hi none n).1=((HT.sIx n 0 lo:Nat):Int)/\(sliceBounds lo hi none n).2.1=((HT.sIx n n hi:Nat):Int)/\(sliceBounds lo hi none n).2.2=1:=by
 refine⟨?_,?_,rfl⟩
 ·cases lo with
  |none=>simp[sliceBounds,HT.sIx]
  |some i=>
   simp only[sliceBounds,HT.sIx,Option.getD_none,show(1:Int)>0 by decide,if_true]
   by_cases h:i<0
   ·simp only[h,if_true]<;>omega
   ·simp only[h,if_false]<;>omega
 ·cases hi with
  |none=>simp[sliceBounds,HT.sIx]
  |some i=>
   simp only[sliceBounds,HT.sIx,Option.getD_none,show(1:Int)>0 by decide,if_true]
   by_cases h:i<0
   ·simp only[h,if_true]<;>omega
   ·simp only[h,if_false]<;>omega
theorem zgo(its:List Value)(lo hi:Option Int):slicePick its.toArray lo hi none=((its.drop (HT.sIx its.length 0 lo)).take (HT.sIx its.length its.length hi -HT.sIx its.length 0 lo)).toArray:=by
 obtain⟨h1,h2,h3⟩:=zhM lo hi its.toArray.size
 unfold slicePick
 rw[h1,h2,h3]
 simp only[sliceRange_one,pick_run,List.size_toArray]<;>rfl
def zrM(K:PySem.W.Frag):V->Option Int->Option Int->Hp->VK->Prop:=λx lo hi H Q=>∃a xs,x= .ref a/\SqL K H a xs/\∀p,H p=none->Q (.ref p) (upd H p (.lst (zb1 xs lo hi)))
theorem zkA:SlR X (zrM X.K):=by
 intro pins s σ H x v vl vu lo hi sl Q I rx hs pl pu h
 obtain⟨a,xs,rfl,hx,q⟩:=h
 cases rx
 obtain⟨its,r,ht,hz⟩:=I.list hx
 have hlen:=r.length
 refine⟨"list",_,slot_list_getitem.lookup,ht.isList.typeIs,?_⟩
 refine wpAny_getItem_list_slice ht.isList hs pl pu .none (by simp) ?_ (by rw[List.size_toArray]<;>omega)
 rw[zgo,←hlen]
 refine⟨.ref s.heap.objs.size,_,I.laid (t':=s.toks) (o:= .lst (zb1 xs lo hi)) (λb ob q=>Heap.get?_push_of_some _ q) (Nat.le_refl _) ?_,rfl,q _ (I.hok.fresh (Nat.le_refl _))⟩
 exact⟨Nat.le_trans (ze4 xs lo hi) hz,_,0,(r.drop (HT.sIx xs.length 0 lo)).take (HT.sIx xs.length xs.length hi -HT.sIx xs.length 0 lo),Heap.get?_push_size _ rfl⟩
def zdG:V->Bool
 | .non=>true
 | .bl _=>true
 | .int _=>true
 | .str _=>true
 |_=>false
def eqV:V->V->Bool
 | .non, .non=>true
 | .bl a, .bl b=>a==b
 | .bl a, .int b=>(if a then 1 else 0)==b
 | .int a, .bl b=>a==(if b then 1 else 0)
 | .int a, .int b=>a==b
 | .str a, .str b=>a==b
 |_,_=>false
theorem zqX{A:Around}{s:Shared}{y x:V}{u v:Value}(ry:RelV y u)(rx:RelV x v)(fy:zdG y=true)(fx:zdG x=true):SeqAt.EqAt A s u v (eqV y x):=by
 cases y with
 |non=>
  cases ry
  cases x with
  |non=>cases rx;exact SeqAt.EqAt.same _
  |bl b=>cases rx;exact SeqAt.EqAt.none_bool b
  |int b=>obtain ⟨t,rfl⟩:=rx;exact SeqAt.EqAt.none_int b t
  |str b=>obtain ⟨t,rfl⟩:=rx;exact SeqAt.EqAt.none_str b t
  |_=>exact absurd (show false=true from fx) Bool.false_ne_true
 |bl a=>
  cases ry
  cases x with
  |non=>cases rx;exact SeqAt.EqAt.bool_none a
  |bl b=>cases rx;exact SeqAt.EqAt.bool_bool a b
  |int b=>obtain ⟨t,rfl⟩:=rx;exact SeqAt.EqAt.bool_int a b t
  |str b=>obtain ⟨t,rfl⟩:=rx;exact SeqAt.EqAt.bool_str a b t
  |_=>exact absurd (show false=true from fx) Bool.false_ne_true
 |int a=>
  obtain⟨t',rfl⟩:=ry
  cases x with
  |non=>cases rx;exact SeqAt.EqAt.int_none a t'
  |bl b=>cases rx;exact SeqAt.EqAt.int_bool a t' b
  |int b=>obtain ⟨t,rfl⟩:=rx;exact SeqAt.EqAt.int_int a t' b t
  |str b=>obtain ⟨t,rfl⟩:=rx;exact SeqAt.EqAt.int_str a t' b t
  |_=>exact absurd (show false=true from fx) Bool.false_ne_true
 |str a=>
  obtain⟨t',rfl⟩:=ry
  cases x with
  |non=>cases rx;exact SeqAt.EqAt.str_none a t'
  |bl b=>cases rx;exact SeqAt.EqAt.str_bool a t' b
  |int b=>obtain ⟨t,rfl⟩:=rx;exact SeqAt.EqAt.str_int a t' b t
  |str b=>obtain ⟨t,rfl⟩:=rx;exact SeqAt.EqAt.str_str a t' b t
  |_=>exact absurd (show false=true from fx) Bool.false_ne_true
 |_=>exact absurd (show false=true from fy) Bool.false_ne_true
def eqU(x:V)(u:Value):Bool:=match u with
 | .none=>eqV .non x
 | .bool b=>eqV (.bl b) x
 | .int i _=>eqV (.int i) x
 | .str z _=>eqV (.str z) x
 |_=>false
theorem zmk{x y:V}{u:Value}(r:RelV y u)(f:zdG y=true):eqU x u=eqV y x:=by
 cases y with
 |non=>cases r;rfl
 |bl b=>cases r;rfl
 |int i=>obtain ⟨t,rfl⟩:=r;rfl
 |str z=>obtain ⟨t,rfl⟩:=r;rfl
 |_=>exact absurd (show false=true from f) Bool.false_ne_true
theorem zeg{x:V}:∀{xs:List V} {us:List Value},Vals xs us->xs.all zdG=true->us.any (eqU x)=xs.any λy=>eqV y x
 |_,_, .nil,_=>rfl
 |y::xs,u::us, .cons r t,f=>by
  rw[List.all_cons,Bool.and_eq_true] at f
  rw[List.any_cons,List.any_cons,zmk r f.1,zeg t f.2]
theorem zdd{A:Around}{s:Shared}{x:V}{v:Value}(rx:RelV x v)(fx:zdG x=true):∀{xs:List V} {us:List Value},Vals xs us->xs.all zdG=true->∀u∈us,SeqAt.EqAt A s u v (eqU x u)
 |_,_, .nil,_=>λu hu=>by cases hu
 |y::xs,u::us, .cons r t,f=>λu' hu=>by
  rw[List.all_cons,Bool.and_eq_true] at f
  rcases List.mem_cons.mp hu with rfl|hu
  ·rw[zmk r f.1];exact zqX r rx f.1 fx
  ·exact zdd rx fx t f.2 u' hu
def inV(x:V)(xs:List V):Bool:=xs.any λy=>eqV y x
def rIn(K:PySem.W.Frag)(neg:Bool):R2:=λx y H Q=>∃p xs,y= .ref p/\(SqL K H p xs\/SqT K H p xs)/\zdG x=true/\xs.all zdG=true/\Q (.bl (if neg then !inV x xs else inV x xs)) H
theorem zcO:OpR X (compareOp .In) (rIn X.K false):=by
 intro pins s σ H x y v u Q I rx ry h
 obtain⟨p,xs,rfl,hq,fx,fs,q⟩:=h
 cases ry
 rcases hq with hq|hq
 ·obtain ⟨its,r,pl,hz⟩:=I.list hq
  refine SeqAt.in_listAt (eqU x) pl.isList (λw hw=>zdd rx fx r fs w (by simpa using hw)) ⟨.bl _,H,I,rfl,?_⟩
  rw[show its.toArray.any (eqU x)=its.any (eqU x) by simp,zeg r fs]
  exact q
 ·obtain ⟨its,r,pl,hz⟩:=I.tuple hq
  refine SeqAt.in_tupleAt (eqU x) pl (λw hw=>zdd rx fx r fs w (by simpa using hw)) ⟨.bl _,H,I,rfl,?_⟩
  rw[show its.toArray.any (eqU x)=its.any (eqU x) by simp,zeg r fs]
  exact q
theorem zc0:OpR X (compareOp .NotIn) (rIn X.K true):=by
 intro pins s σ H x y v u Q I rx ry h
 obtain⟨p,xs,rfl,hq,fx,fs,q⟩:=h
 cases ry
 rcases hq with hq|hq
 ·obtain ⟨its,r,pl,hz⟩:=I.list hq
  refine SeqAt.notIn_listAt (eqU x) pl.isList (λw hw=>zdd rx fx r fs w (by simpa using hw)) ⟨.bl _,H,I,rfl,?_⟩
  rw[show its.toArray.any (eqU x)=its.any (eqU x) by simp,zeg r fs]
  exact q
 ·obtain ⟨its,r,pl,hz⟩:=I.tuple hq
  refine SeqAt.notIn_tupleAt (eqU x) pl (λw hw=>zdd rx fx r fs w (by simpa using hw)) ⟨.bl _,H,I,rfl,?_⟩
  rw[show its.toArray.any (eqU x)=its.any (eqU x) by simp,zeg r fs]
  exact q
theorem call_len_seq:CallR X (.builtin "len") (λxs H Q=>∃p ys,xs=[.ref p]/\(SqL X.K H p ys\/SqT X.K H p ys)/\Q (.int ys.length) H):=by
 intro pins s σ H xs us Q I r h
 obtain⟨p,ys,rfl,hq,q⟩:=h
 obtain⟨u,rfl,rx⟩:=zck r
 cases rx
 have hn:=zdV
 rcases hq with hq|hq
 ·obtain ⟨its,r',pl,hz⟩:=I.list hq
  have hlen:=r'.length
  exact Calls.call_len_list pl.isList (by simp only[List.size_toArray]<;>omega) ⟨.int ys.length,H,I.tok _,⟨s.toks+1,by rw[List.size_toArray,hlen]⟩,q⟩
 ·obtain ⟨its,r',pl,hz⟩:=I.tuple hq
  have hlen:=r'.length
  exact len_tuple pl (by simp only[List.size_toArray]<;>omega) ⟨.int ys.length,H,I.tok _,⟨s.toks+1,by rw[List.size_toArray,hlen]⟩,q⟩
theorem zhv:CallR X (.builtin "len") (λxs H Q=>∃z,xs=[.str z]/\z.length<=sizeLine/\Q (.int z.length) H):=by
 intro pins s σ H xs us Q I r h
 obtain⟨z,rfl,hz,q⟩:=h
 obtain⟨u,rfl,t,rfl⟩:=zck r
 have hn:=zdV
 exact len_str (by omega) ⟨.int z.length,H,I.tok _,⟨_,rfl⟩,q⟩
theorem CallR.or{f:Value}{r r':List V->Hp->VK->Prop}(h:CallR X f r)(h':CallR X f r'):CallR X f (λxs H Q=>r xs H Q\/r' xs H Q):=by
 intro pins s σ H xs us Q I rs q
 rcases q with q|q
 ·exact h pins s σ H xs us Q I rs q
 ·exact h' pins s σ H xs us Q I rs q
theorem zT:CallR X (.type "tuple") (λxs H Q=>∃p ys,xs=[.ref p]/\((SqL X.K H p ys/\∀l,H l=none->Q (.ref l) (upd H l (.tup ys)))\/(SqT X.K H p ys/\Q (.ref p) H))):=by
 intro pins s σ H xs us Q I r h
 obtain⟨p,ys,rfl,h⟩:=h
 obtain⟨u,rfl,rx⟩:=zck r
 cases rx
 rcases h with⟨hq,q⟩|⟨hq,q⟩
 ·obtain ⟨its,r',pl,hz⟩:=I.list hq
  have hlen:=r'.length
  refine call_tuple_list pl.isList (λh' kp=>?_) (by simp only[List.size_toArray]<;>omega)
  have I1:Inv X pins σ H {s with heap:=h'}:=I.kept (t':=s.toks) kp
  have I2:Inv X pins σ (upd H h'.objs.size (.tup ys)) {s with heap:=h'.push {cls:= .type "tuple",data:= .seq its.toArray}}:=
   I1.laid (t':=s.toks) (λb o e=>Heap.get?_push_of_some _ e) (Nat.le_refl _) (show ObjOk X.prog X.w _ _ _ (.tup ys)from⟨hz,its,r',IsTup.new _ _,NoDict.new rfl (Heap.get?_push_size _ rfl)⟩)
  exact⟨.ref h'.objs.size,_,I2,rfl,q _ (I1.hok.fresh (Nat.le_refl _))⟩
 ·obtain ⟨its,r',pl,hz⟩:=I.tuple hq
  exact call_tuple_same pl ⟨.ref p,H,I,rfl,q⟩
def tyV(K:PySem.W.Frag)(T:String)(x:V)(H:Hp):Prop:=match x with
 | .str _=>T="str"
 | .int _=>T="int"
 | .ref p=>(T="list"/\∃xs,SqL K H p xs)\/(T="tuple"/\∃o,K.lookup p=some o/\o.cls= .type "tuple"/\o.dict=none)\/
    (T="dict"/\((∃kvs,H p=some (.dK kvs))\/∃kvs,H p=some (.dT kvs)))\/(T="set"/\∃S n,H p=some (.set S n))\/(T="tuple"/\∃xs,H p=some (.tup xs))
 |_=>False
theorem zp3{pins:List (Addr×Obj)}{σ:St}{H:Hp}{s:Shared}{T:String}{x:V}{v:Value}(I:Inv X pins σ H s)(r:RelV x v)(ty:tyV X.K T x H):
 s.TypeIs v T/\∀a,v= .ref a->∃ob,s.heap.get? a=some ob/\ob.dict=none:=by
 cases x with
 |str z=>
  obtain⟨t,rfl⟩:=r
  cases(show T="str"from ty)
  exact⟨typeIs_str s z t,λ_ e=>nomatch e⟩
 |int i=>
  obtain⟨t,rfl⟩:=r
  cases(show T="int"from ty)
  exact⟨typeIs_int s i t,λ_ e=>nomatch e⟩
 |ref p=>
  cases r
  rcases ty with⟨rfl,xs,hq⟩|⟨rfl,o,hk,hc,hd⟩|⟨rfl,hk⟩|⟨rfl,S,n,hk⟩|⟨rfl,xs,hk⟩
  ·obtain ⟨its,_,pl,_⟩:=I.list hq
   refine⟨pl.isList.typeIs,λa e=>?_⟩
   cases e
   obtain⟨o,n,e,c,hd,_⟩:=pl
   exact⟨o,e,hd⟩
  ·refine ⟨⟨o,I.kIn p o hk,hc⟩,λa e=>?_⟩
   cases e
   exact⟨o,I.kIn _ o hk,hd⟩
  ·have z:∃o,s.heap.get? p=some o/\o.ExactDict:=by
    rcases hk with⟨kvs,hk⟩|⟨kvs,hk⟩
    ·obtain ⟨_,_,_,_,o,_,_,e,ex,_⟩:=I.hok p _ hk
     exact⟨o,e,ex⟩
    ·obtain ⟨_,_,_,_,o,_,_,e,ex,_⟩:=I.hok p _ hk
     exact⟨o,e,ex⟩
   obtain⟨o,e,ex⟩:=z
   refine⟨⟨o,e,ex.1⟩,λa e2=>?_⟩
   cases e2
   exact⟨o,e,ex.2.1⟩
  ·obtain ⟨o,_,_,_,e,ex,_⟩:=I.hok p _ hk
   refine⟨⟨o,e,ex.1⟩,λa e2=>?_⟩
   cases e2
   exact⟨o,e,ex.2.1⟩
  ·obtain ⟨_,_,_,⟨o,e,c,_⟩,nd⟩:=I.hok p _ hk
   refine⟨⟨o,e,c⟩,λa e2=>?_⟩
   cases e2
   exact⟨o,e,nd o e⟩
 |_=>exact False.elim ty
def tBM(K:PySem.W.Frag)(T:String)(r:V->List V->Hp->VK->Prop)(to:TE)(t:TA):TE:=λσ H Q=>to σ H λx H1=>tyV K T x H1/\t σ H1 λxs H2=>r x xs H2 Q
variable{o e:Expr}{es:List Expr}{to:TE}{t:TA}{name:Str}{apos cpos:Pos}{T id:String}{r:V->List V->Hp->VK->Prop}
theorem zrq(pa:PlainAttrs T)(slot:Slot T name id)(hty:typeOf (.builtin id)=pure (.type "method_descriptor"))(hm:MtR X id r)(ho:PE X o to)(ha:PA X (e::es) t)
 (hbase:attributeBase o name X.env (eval o X.env)=eval o X.env:=by rfl)
 (hfew:((backTo cpos (starEach (e::es) X.env)).all (λx=>!x.1)&&(backToKw cpos (keywordEach [] X.env)).all (λx=>x.1.isSome)
   &&decide ((e::es).length+([]:List Keyword).length+(if([]:List Keyword).isEmpty then 0 else 1)<30))=true:=by rfl)
 (hline:(apos.endLine==cpos.line)=true:=by rfl) (hs:starEach (e::es) X.env=(false,eval e X.env)::starEach es X.env:=by rfl) (hplain:(backTo cpos (starEach es X.env)).any (·.1)=false:=by rfl):
 PE X (.Call (.Attribute o name apos) (e::es) [] cpos) (tBM X.K T r to t):=by
 intro pins s σ H Q I h
 refine wpAny_Call_method_late hbase hfew hline rfl (thn (ho pins s σ H _ I h) λv s1 ⟨x,H1,I1,r1,ty,q1⟩=>?_)
 obtain⟨h1,h2⟩:=zp3 I1 r1 ty
 refine⟨T,id,pa,slot,hty,h1,h2,?_⟩
 have hA:=ha cpos pins s1 σ H1 _ I1 q1
 rw[hs] at hA⊢
 refine Calls.callWith_builtin (by show(false||(backTo cpos (starEach es X.env)).any (·.1))=false;rw[hplain]<;>rfl) (Calls.evalArgs_plain ?_)
 exact thn hA λus s2 ⟨vs,H2,I2,r2,q2⟩=>hm pins s2 σ H2 x vs v us Q I2 r1 r2 q2
end
def MtM(X:Cx)(id:String)(r:V->List V->Hp->VK->Prop):Prop:=
 ∀(pins:List (Addr×Obj)) (s:Shared) (σ:St) (H:Hp) (x:V) (xs:List V) (v:Value) (us:List Value) (Q:VK),Inv X pins σ H s->RelV x v->Vals xs us->r x xs H Q->
  wpAny (model X.prog X.w) X.A (call (.builtin id) (v::us)) (EP X pins σ Q) X.xe s
theorem Vals.one:∀{x:V} {us:List Value},Vals [x] us->∃u,us=[u]/\RelV x u
 |_,_, .cons r .nil=>⟨_,rfl,r⟩
section
variable{X:Cx}{pins:List (Addr×Obj)}{σ:St}{H:Hp}{s:Shared}{l b:Addr}{xs ys zs:List V}
theorem Inv.lset{its its':List Value}{n:Nat}{f:Array Value->Array Value}{t':Nat}(I:Inv X pins σ H s)(hH:H l=some (.lst xs))
 (e:s.heap.get? l=some {cls:= .type "list",data:= .seq its.toArray n}) (hf:f its.toArray=its'.toArray) (hv:Vals ys its') (hz:ys.length<=sizeLine):
 Inv X pins σ (upd H l (.lst ys)) {s with heap:=s.heap.update l (Obj.mapSeq f),toks:=t'}:=by
 have q:=PySem.IsL.update e f
 rw[hf] at q
 refine I.write (x:=l) (e:=l) (by rw[hH];exact trivial) (.inl rfl) (λb' u hb hu=>(Heap.get?_update_other s.heap (Obj.mapSeq f) (Ne.symm hb)).trans hu) ⟨_,q⟩ ?_
 exact⟨hz,its',_,hv,q⟩
theorem Inv.lnew{its:List Value}{t':Nat}(I:Inv X pins σ H s)(hv:Vals ys its)(hz:ys.length<=sizeLine):
 Inv X pins σ (upd H s.heap.objs.size (.lst ys)) {s with heap:=s.heap.push {cls:= .type "list",data:= .seq its.toArray},toks:=t'}:=
 I.laid (λ_ _ q=>Heap.get?_push_of_some _ q) (Nat.le_refl _) ⟨hz,its,0,hv,Heap.get?_push_size _ rfl⟩
theorem Inv.fresh(I:Inv X pins σ H s):H s.heap.objs.size=none:=I.hok.fresh (Nat.le_refl _)
theorem Inv.lstM(I:Inv X pins σ H s)(hH:H l=some (.lst xs)):xs.length<=sizeLine/\∃(its:List Value) (n:Nat),Vals xs its/\xs.length=its.length/\s.heap.get? l=some {cls:= .type "list",data:= .seq its.toArray n}:=by
 obtain⟨z,its,n,r,e⟩:=I.hok l _ hH
 exact⟨z,its,n,r,r.length,e⟩
theorem znu{n:Nat}(h:n<=sizeLine):Builtin.List.listTooLong n=false:=by
 unfold Builtin.List.listTooLong
 exact decide_eq_false (by omega)
end
section
variable{X:Cx}
def zoi:V->List V->Hp->VK->Prop:=λx vs H Q=>∃l xs y,x= .ref l/\vs=[y]/\H l=some (.lst xs)/\xs.length<sizeLine/\Q .non (upd H l (.lst (xs ++ [y])))
theorem zbc:MtM X "list.append" zoi:=by
 intro pins s σ H x vs v us Q I rx rv h
 obtain⟨l,xs,y,rfl,rfl,hH,hz,q⟩:=h
 cases rx
 obtain⟨u,rfl,ru⟩:=rv.one
 obtain⟨z,its,n,r,hl,e⟩:=I.lstM hH
 refine call_meets F.slot_list_append ⟨_,e,rfl⟩ F.entry_list_append (F.args_list_append_2 _ _) (PySem.list_append l its.toArray n u (by rw[List.size_toArray];omega)) ⟨e,?_⟩
 refine⟨.non,_,I.lset (its':=its ++ [u]) hH e (by simp) (r.append (.cons ru .nil)) ?_,rfl,q⟩
 rw[List.length_append,List.length_singleton]
 omega
def zpg:V->List V->Hp->VK->Prop:=λx vs H Q=>∃l b xs zs,x= .ref l/\vs=[.ref b]/\H l=some (.lst xs)/\H b=some (.lst zs)/\xs.length+zs.length<=sizeLine/\Q .non (upd H l (.lst (xs ++zs)))
theorem zlx:MtM X "list.extend" zpg:=by
 intro pins s σ H x vs v us Q I rx rv h
 obtain⟨l,b,xs,zs,rfl,rfl,hH,hB,hz,q⟩:=h
 cases rx
 obtain⟨u,rfl,ru⟩:=rv.one
 cases ru
 obtain⟨z,its,n,r,hl,e⟩:=I.lstM hH
 obtain⟨z2,its2,n2,r2,hl2,e2⟩:=I.lstM hB
 have hsz:its.toArray.size+its2.toArray.size<=sizeLine:=by rw[List.size_toArray,List.size_toArray];omega
 have hlong:¬(!its.toArray.isEmpty&&Builtin.List.listTooLong (its.toArray.size+its2.toArray.size))=true:=by
  rw[znu hsz,Bool.and_false]
  exact Bool.false_ne_true
 refine call_meets F.slot_list_extend ⟨_,e,rfl⟩ F.entry_list_extend (F.args_list_extend_2 _ _)
  (AutoSeq1.list_extend_list_list_0 l its.toArray n b its2.toArray n2 hlong (by rw[List.size_toArray];omega) (by omega)) ⟨e,e2,?_⟩
 refine⟨.non,_,I.lset (its':=its ++its2) hH e (by simp) (r.append r2) ?_,rfl,q⟩
 rw[List.length_append]
 omega
def zrQ:R2:=λx y H Q=>∃l b xs zs,x= .ref l/\y= .ref b/\H l=some (.lst xs)/\H b=some (.lst zs)/\xs.length+zs.length<=sizeLine/\∀p,H p=none->Q (.ref p) (upd H p (.lst (xs ++zs)))
theorem zfF:OpR X (binaryOp .Add) zrQ:=by
 intro pins s σ H x y v u Q I rx ry h
 obtain⟨l,b,xs,zs,rfl,rfl,hH,hB,hz,q⟩:=h
 cases rx
 cases ry
 obtain⟨z,its,n,r,hl,e⟩:=I.lstM hH
 obtain⟨z2,its2,n2,r2,hl2,e2⟩:=I.lstM hB
 refine PySem.P.add_list e e2 ?_ (by rw[List.size_toArray,List.size_toArray];omega)
 have ea:its.toArray ++its2.toArray=(its ++its2).toArray:=by simp
 rw[ea]
 exact⟨.ref _,_,I.lnew (t':=s.toks) (r.append r2) (by rw[List.length_append];omega),rfl,q _ I.fresh⟩
end
section
variable{prog:Program}{w:World}{A:Around}{E:Value->Shared->Prop}{s:Shared}
set_option maxRecDepth 100000 in
end
section
variable{X:Cx}
end
end L2
namespace Att
open PySem PySem.W PySem.Calls PyProof.Rows
theorem ze8{P:Params}{h:Heap}:∀(ns:List Int) (vs:List Value),WellAll P h vs (ns.map WData.int)->IntsAre vs ns:=by
 intro ns
 induction ns with
 |nil=>
  intro vs w
  rw[List.map_nil] at w
  cases w
  exact .nil
 |cons n ns ih=>
  intro vs w
  rw[List.map_cons] at w
  cases w with
  |cons a b=>
   cases a
   exact .cons _ _ (ih _ b)
theorem zll{l:OpenLaw}{n:Nat}(hn:l.most=some n){P:Params}{h:Heap}{args:List WData}{vals:List Value}
 (hpre:l.row.toRowW.claim.pre args=true) (hwl:WellAll P h vals args):
 ∃a vs ns,vals=[Value.ref a]/\args=[WData.list (ns.map WData.int)]/\h.get? a=some {cls:= .type "list",data:= .seq vs.toArray}/\IntsAre vs ns/\ns.length<=n:=by
 have hsh:WShape.hasAll [] args [.list .int]=true:=(pre_splitW hpre).1
 have hc:l.pre.holds [] {args:=args}=true:=(pre_splitW hpre).2
 obtain⟨d,r,rfl,h1,h2⟩:=hasAllW_cons hsh
 obtain rfl:=hasAllW_nil h2
 obtain⟨xs,rfl,h3⟩:=hasW_list h1
 obtain⟨ns,rfl⟩:=items_int h3
 have hlen:ns.length<=n:=by
  unfold OpenLaw.pre at hc
  have h4:(WTm.not (.lt (.lit (.int (n:Int))) (.len (.arg 0)))).holds [] {args:=[.list (ns.map .int)]}=true:=by
   have h4:=(holds_andW hc).1
   rw[hn] at h4
   exact h4
  have h5:=condW_of h4 (w_not (w_lt w_lit (w_len_list (w_arg rfl))))
  rw[List.length_map] at h5
  refine Nat.le_of_not_lt λq=>?_
  have q':(n:Int)<((ns.length:Nat):Int):=by omega
  first
   |(rw[decide_eq_true q'] at h5;exact absurd h5 (by decide))
   |(simp at h5;omega)
 cases hwl with
 |cons w1 w2=>
  cases w2
  cases w1 with
  |list ho hall=>exact ⟨_,_,ns,rfl,rfl,ho,ze8 ns _ hall,hlen⟩
theorem zlH(l:OpenLaw)(args:List WData):l.row.toRowW.claim.post args (.bool true) args=true:=
 postW_of (r:=l.row.toRowW) (X:=(true==true))
  (show WShape.has [] (.bool true) .bool=true by first|rfl|decide|simp[WShape.has,WShape.arms,WShape.armsAll])
  (show(WTm.eq .res (.lit (.bool true))).value [] {args:=args,res:=some (.bool true),after:=args}=some (.bool (true==true))from w_eq_bool (w_res rfl) w_lit) rfl
theorem attach_call{l:OpenLaw}{n:Nat}{q:Program}{loose:List Str}{XP:(Str->Option Value)->Heap->Prop}{YP:World->Heap->Prop}{d:DefRec}
 (hn:l.most=some n) (hdf:d.params.defaults=[])
 (call:∀(w:World) (s₀ s₁:Shared) (mg mb:Str->Option Value) (fa:Addr) (o:Obj) (pm cd doc:Value) (a:Addr) (vs:List Value) (ns:List Int),
   Ground q loose [] XP w s₀ mg mb s₁.heap->YP w s₁.heap->
   s₁.heap.get? fa=some o->o.data= .func (docDef d.name d.params d.body d.scope pm cd doc)->s₁.heap.CodeRec cd d.name->mg d.name=some (.ref fa)->
   s₁.heap.get? a=some {cls:= .type "list",data:= .seq vs.toArray}->IntsAre vs ns->ns.length<=n->s₁.gens= #[]->
   codeAny (model l.prog w) callerA (.call (.ref fa) ⟨[.ref a],[]⟩) (λr s'=>r= .ok (.ret (.bool true))/\OldK s₁.heap s'.heap/\s'.os=s₁.os/\AllBare s'.gens) s₁):
 WalkO q loose XP YP l.row.toRowW d [] (λf vs=>PySem.call f vs):=by
 intro w s₀ s₁ mg mb G Y fa o pm cd doc dV kV ho hd hcd hD hmg hg args vals as hpre hlay hrd hwl hlo
 obtain rfl:dV= .none:=Dflts.none hD hdf
 obtain rfl:kV= .none:=Dflts.noKw hD
 obtain⟨a,vs,ns,rfl,rfl,hobj,hints,hlen⟩:=zll hn hpre hwl
 refine enter_call (codeAny_mono (call w s₀ s₁ mg mb fa o pm cd doc a vs ns G Y ho (fd_plain hd) hcd hmg hobj hints hlen hg) λr s' hq=>?_)
 obtain⟨rfl,h2,h3,h4⟩:=hq
 exact⟨.inl ⟨.bool true, .bool true,[],rfl,λ_=>rfl, .bool true,zlH l _,λ_=>⟨List.Pairwise.nil,λ_ hm=>(nomatch hm)⟩⟩,h2,h3,h4⟩
section
variable{prog:Program}{w:World}{A:Around}{E:Value->Shared->Prop}{s:Shared}{K:Frag}
end
end Att
namespace L2
open PySem PySem.Spec PyProof.Rows
theorem zgG:∀{vs:List Value} {ns:List Int},IntsAre vs ns->Vals (ns.map V.int) vs
 |_,_, .nil=> .nil
 |_,_, .cons n t h=> .cons ⟨t,rfl⟩ (zgG h)
def zq0(H:Hp):Prop:=∀b,H b=none\/∃o xs,H b=some (.frz o (.lst xs))
theorem zmu{P:Program}{w:World}{K:PySem.W.Frag}{mg mb:Str->Option Value}{CX:CXT}{k:Nat}{fa a:Addr}{fd:FuncData}{x:Str}{sp:Sp}{s₁:Shared}{vs:List Value}{ns:List Int}
 (KX:K.In s₁.heap) (hns:s₁.heap.Ns mainGlobals mg) (hb:s₁.heap.Ns builtinsNs mb) (hbb:∀x:Str,x≠"__name__"->mb x=bootBuiltins x) (hlim:s₁.heap.NoLimit) (hg:s₁.gens= #[])
 (ha:s₁.heap.get? a=some {cls:= .type "list",data:= .seq vs.toArray}) (hi:IntsAre vs ns) (hl:ns.length<=sizeLine) (hr:Room k callerA)
 (F:∀base:Heap,K.In base->base.Ns mainGlobals mg->FnOk P w K mg base CX k fa fd [x] sp) (hbind:∀(s:Shared) (u:Value),BindsTo s fd ⟨[u],[]⟩ [(x,u)])
 (hsp:∀H:Hp,zq0 H->SqL K H a (ns.map V.int)->sp [.ref a] H (λv _=>v= .bl true) λ_ _ _=>False)
 (hCX:∀H e s',CX [] H s₁ (λ_ _ _=>False) e s'->False):
 codeAny (model P w) callerA (.call (.ref fa) ⟨[.ref a],[]⟩) (λr s'=>r= .ok (.ret (.bool true))/\OldK s₁.heap s'.heap/\s'.os=s₁.os/\AllBare s'.gens) s₁:=by
 have rv:=zgG hi
 have lenV:=hi.length
 have core:∀H:Hp,zq0 H->SqL K H a (ns.map V.int)->HOk P w H s₁.heap->(∀b,H b≠none->b=a)->(H a≠none->K.lookup a=none)->
  codeAny (model P w) callerA (.call (.ref fa) ⟨[.ref a],[]⟩) (λr s'=>r= .ok (.ret (.bool true))/\OldK s₁.heap s'.heap/\s'.os=s₁.os/\AllBare s'.gens) s₁:=by
  intro H hO hS hok hA hK
  have base_of:∀{b:Addr} {o:Obj},s₁.heap.get? b=some o->H b=none->(zhk s₁.heap H).get? b=some o:=λe n=>znv e n
  have noA:∀{b:Addr} {o:Obj} {es:Array DictEntry} {ep:Nat},s₁.heap.get? b=some o->o.data= .dict es ep->H b=none:=λ{b o es ep} e d=>by
   cases q:H b with
   |none=>rfl
   |some u=>
    have e':b=a:=hA b (by rw[q];simp)
    subst e'
    rw[ha] at e;cases e
    have d':Data.seq vs.toArray _=Data.dict es ep:=d
    cases d'
  have nsK:∀{b:Addr} {m:Str->Option Value},s₁.heap.Ns b m->(zhk s₁.heap H).Ns b m:=λ{b m} ⟨o,es,ep,e,d,r⟩=>⟨o,es,ep,base_of e (noA e d),d,r⟩
  have hKb:K.In (zhk s₁.heap H):=λb o e=>base_of (KX b o e) (by
   cases q:H b with
   |none=>rfl
   |some u=>
    have e':b=a:=hA b (by rw[q];simp)
    subst e'
    rw[hK (by rw[q];simp)] at e;cases e)
  have hM:Mod K mg (zhk s₁.heap H):=⟨hKb,nsK hns,⟨mb,nsK hb,hbb⟩,let⟨mc,h1,h2⟩:=hlim;⟨mc,nsK h1,h2⟩⟩
  have e0:Env0 P w K mg (zhk s₁.heap H) callerA [] s₁ H:=⟨rfl,hM,λb o e=>zo0 e,Nat.le_of_eq (zlf _ _),trivial,λb hb=>absurd (show b∈([]:List Addr)from hb) (by simp),hok, .of_eq hg⟩
  refine codeAny_mono ((F _ hKb (nsK hns)).run callerA [] s₁ H ⟨[.ref a],[]⟩ [.ref a] [.ref a] _ _ hr e0 (hbind s₁ (.ref a)) (.cons rfl .nil) (hsp H hO hS)) λr s' h=>?_
  cases r with
  |error e=>exact (hCX H e s' h).elim
  |ok fl=>
   cases fl with
   |next=>exact False.elim h
   |brk=>exact False.elim h
   |cont=>exact False.elim h
   |ret u=>
    obtain⟨v,H',os,bare,un,hok',r',q⟩:=h
    have q':v= .bl true:=q
    subst q'
    obtain rfl:u=Value.bool true:=r'
    refine⟨rfl,OldK.of_keep λb o e=>?_,os,bare⟩
    cases q:H b with
    |none=>exact un.keep b o e q (by intro z;exact absurd (show b∈([]:List Addr)from z) (by simp)) (by simp)
    |some u=>
     rcases hO b with z|⟨ob,xs,z⟩
     ·rw[q] at z;cases z
     ·have z2:=un.frzs b ob _ z
      obtain⟨e1,_⟩:=hok b _ z
      obtain⟨e2,_⟩:=hok' b _ z2
      rw[e] at e1;cases e1
      exact e2
 cases hk:K.lookup a with
 |some o=>
  have e:=KX a o hk
  rw[ha] at e
  cases e
  refine core (λ_=>none) (λ_=> .inl rfl) (.inr ⟨_,vs.toArray,_,hk,rfl,rfl,rfl,by rw[List.size_toArray,lenV];exact hl,by simpa using rv⟩) (λb u z=>by have z':(none:Option HO)=some u:=z;cases z') (λb z=>absurd rfl z) λz=>absurd rfl z
 |none=>
  refine core (λb=>if b=a then some (.frz {cls:= .type "list",data:= .seq vs.toArray} (.lst (ns.map V.int)))else none) (λb=>?_) (.inl (.inr ⟨{cls:= .type "list",data:= .seq vs.toArray},if_pos rfl⟩)) (λb u z=>?_) (λb z=>?_) λ_=>hk
  ·by_cases hb:b=a
   ·exact .inr ⟨_,_,if_pos hb⟩
   ·exact .inl (if_neg hb)
  ·by_cases hb:b=a
   ·have z':=(if_pos hb).symm.trans z
    cases z'
    subst hb
    exact⟨ha,by rw[List.length_map];exact hl,vs,_,rv,ha⟩
   ·have z':=(if_neg hb).symm.trans z
    cases z'
  ·by_cases hb:b=a
   ·exact hb
   ·exact absurd (if_neg hb) z
theorem walk_of{l:PySem.W.OpenLaw}{n k:Nat}{q:Program}{loose:List Str}{XP:(Str->Option Value)->Heap->Prop}{YP:World->Heap->Prop}{d:DefRec}{K:Params->PySem.W.Frag}{CX:World->CXT}{sp:World->Sp}{x:Str}
 (hn:l.most=some n) (hn2:n<=sizeLine) (hdf:d.params.defaults=[]) (hr:Room k callerA)
 (hY:∀(w:World) (h:Heap),YP w h->(K w.params).In h)
 (F:∀(w:World) (mg:Str->Option Value) (fa:Addr) (h:Heap),(K w.params).In h->h.Ns mainGlobals mg->mg d.name=some (.ref fa)->
   ∃fd:FuncData,(∀(s:Shared) (u:Value),BindsTo s fd ⟨[u],[]⟩ [(x,u)])/\
    ∀base:Heap,(K w.params).In base->base.Ns mainGlobals mg->FnOk l.prog w (K w.params) mg base (CX w) k fa fd [x] (sp w))
 (hsp:∀(w:World) (H:Hp) (a:Addr) (ns:List Int),ns.length<=n->zq0 H->SqL (K w.params) H a (ns.map V.int)->sp w [.ref a] H (λv _=>v= .bl true) λ_ _ _=>False)
 (hCX:∀(w:World) (H:Hp) (s:Shared) (e:Value) (s':Shared),CX w [] H s (λ_ _ _=>False) e s'->False):
 PySem.W.WalkO q loose XP YP l.row.toRowW d [] (λf vs=>PySem.call f vs):=by
 refine Att.attach_call hn hdf λw s₀ s₁ mg mb fa o pm cd doc a vs ns G Y ho hd hcd hmg hobj hints hlen hg=>?_
 have KX:=hY w _ Y
 obtain⟨fd,hb,hF⟩:=F w mg fa _ KX G.T.g hmg
 exact zmu KX G.T.g G.T.b G.T.builtins G.T.nolimit hg hobj hints (Nat.le_trans hlen hn2) hr hF hb (λH hO hS=>hsp w H a ns hlen hO hS) λH e s'=>hCX w H s₁ e s'
def zo(s:Stmt):Arguments:=match s with
 | .FunctionDef _ a _ _ _ _ _ _ _ _=>a
 |_=>{posonlyargs:=[],args:=[],vararg:=none,kwonlyargs:=[],kw_defaults:=[],kwarg:=none,defaults:=[]}
def zm(s:Stmt):List Stmt:=match s with
 | .FunctionDef _ _ b _ _ _ _ _ _ _=>b
 |_=> []
def zc(s:Stmt):Scope:=match s with
 | .FunctionDef _ _ _ _ _ _ sc _ _ _=>sc
 |_=>{kind:= .function,names:=[],isGenerator:=false,isCoroutine:=false}
abbrev CX0:CXT:=λ_ _ _ _ _ _=>False
abbrev E0:XK:=λ_ _ _=>False
theorem zn{X:Cx}:zg6 CX0 X E0:=λ_ _ _ _ _ _ _ h=>h.elim
structure Fun(K:PySem.W.Frag)(x qual:Str)(st:Stmt)(f:Addr)(fd:FuncData):Prop where
 ex:∃(oc:Value) (od:Option Addr) (kV doc pm:Value) (an:Option Addr) (cdv ct:Value) (osl:Array (Option Value)),
  fd=PySem.W.fnOf x qual (zo st) (zm st) (zc st) .none kV doc pm an cdv ct/\K.lookup f=some ⟨oc,od, .func fd,osl⟩/\PySem.W.codeIn K cdv qual=true
 kp:PySem.W.keepIn K (.ref f)=true
section
variable{P:Program}{w:World}{K:PySem.W.Frag}{mg:Str->Option Value}{base:Heap}
theorem Fun.ok{x qual:Str}{st:Stmt}{f:Addr}{fd:FuncData}{N ps:List Str}{k:Nat}{sp:Sp}(F:Fun K x qual st f fd)(S:FnScope N ps (zc st))(len:∀vs H Q E,sp vs H Q E->vs.length=ps.length)
 (hbody:∀(cdv:Value) (A:Around) (outer:List Env) (s:Shared) (H:Hp) (vs:List V) (Q:VK) (E:XK),Room k (A.deeper (envOfC qual (zc st) s.heap.objs.size f cdv))->sp vs H Q E->
   ∃t,PSs (ziv CX0 P w K mg base N qual (zc st) f cdv A outer s H E).nox (zm st) t/\t {nx:=λ_ H'=>Q .non H',rt:=Q} (start N vs) H):FnOk P w K mg base CX0 (k+1) f fd ps sp:=by
 obtain⟨oc,od,kV,doc,pm,an,cdv,ct,osl,rfl,lk,hcd⟩:=F.ex
 refine zpR lk hcd S len λA outer s H vs Q E hr hsp=>?_
 obtain⟨t,h,q⟩:=hbody cdv A outer s H vs Q E hr hsp
 exact⟨t,h.nox,q⟩
theorem Fun.binds{x qual:Str}{st:Stmt}{f:Addr}{fd:FuncData}{ps:List Str}(F:Fun K x qual st f fd)
 (h:∀(kV doc pm:Value) (an:Option Addr) (cdv ct:Value) (us:List Value),us.length=ps.length->bindArgs (PySem.W.fnOf x qual (zo st) (zm st) (zc st) .none kV doc pm an cdv ct) ⟨us,[]⟩=pure (ps.zip us)):Binds K fd ps []:=by
 obtain⟨oc,od,kV,doc,pm,an,cdv,ct,osl,rfl,lk,hcd⟩:=F.ex
 exact .all (h kV doc pm an cdv ct)
theorem zv{x qual:Str}{st:Stmt}{f:Addr}{oc:Value}{od an:Option Addr}{osl:Array (Option Value)}{kV doc pm cdv ct:Value}(l:K.lookup f=some ⟨oc,od, .func (PySem.W.fnOf x qual (zo st) (zm st) (zc st) .none kV doc pm an cdv ct),osl⟩)
 (c:PySem.W.codeIn K cdv qual=true) (k:PySem.W.keepIn K (.ref f)=true):Fun K x qual st f (PySem.W.fnOf x qual (zo st) (zm st) (zc st) .none kV doc pm an cdv ct):=⟨⟨oc,od,kV,doc,pm,an,cdv,ct,osl,rfl,l,c⟩,k⟩
end
theorem zk{n:Nat}(h:n<=1000):n<sizeLine:=Nat.lt_of_le_of_lt h (by decide)
section
variable{X:Cx}
end
theorem za7{c A B:Prop}[Decidable c](h1:c->A)(h2:¬c->B):if c then A else B:=by
 by_cases h:c
 ·rw[if_pos h]
  exact h1 h
 ·rw[if_neg h]
  exact h2 h
def Same(H H':Hp):Prop:=∀b o,H b=some o->H' b=some o
theorem Same.refl(H:Hp):Same H H:=λ_ _ h=>h
theorem Same.trans{H H1 H2:Hp}(a:Same H H1)(b:Same H1 H2):Same H H2:=λc o h=>b c o (a c o h)
theorem Same.free{H H':Hp}(e:Same H H'){l:Addr}(h:H' l=Option.none):H l=Option.none:=by
 cases q:H l with
 |none=>rfl
 |some o=>
  rw[e l o q] at h
  cases h
theorem Same.seq{K:PySem.W.Frag}{H H':Hp}{a:Addr}{xs:List V}(e:Same H H')(h:SqL K H a xs):SqL K H' a xs:=by
 rcases h with(h|⟨o,h⟩)|h
 ·exact .inl (.inl (e _ _ h))
 ·exact .inl (.inr ⟨o,e _ _ h⟩)
 ·exact .inr h
end L2
set_option maxHeartbeats 4000000
namespace L2
open PySem PySem.Spec PyProof.Rows
def zW(X:Cx)(N':List Str)(scope:Scope)(cl:List (Str×Addr))(C:Addr)(s₀:Shared)(H₀:Hp)(fp:List Addr):Cx:=
 {prog:=X.prog,w:=X.w,K:=X.K,mg:=X.mg,base:=X.base,A:=X.A,N:=N',s₀:=s₀,H₀:=H₀,env:=compEnvC scope cl C X.env,outer:=X.stack,stack:=X.stack,ex:=fp,fn:=λ_=>false,
  calm:=X.calm,pn:=[],xe:=λ_ _=>False}
structure CompOk(N:List Str)(osc:Scope)(N':List Str)(src:List (Option Nat))(scope:Scope):Prop where
 kind:scope.kind= .function
 nocell:∀y∈scope.names,y.2≠ .cell
 loc:∀y∈scope.names,y.2= .local->scope.names.lookup y.1=some .local
 frees:∀y∈scope.names,y.2= .free->osc.names.lookup y.1=some .cell\/osc.names.lookup y.1=some .free
 nd:N'.Nodup
 len:src.length=N'.length
 src:∀q∈src.zip N',∀j∈q.1.toList,N[j]?=some q.2/\scope.names.lookup q.2=some .free
theorem zd3{env:Env}:∀(l:List (Str×NameKind)) (acc:List (Str×Addr)),(∀x c,acc.lookup x=some c->env.cells.lookup x=some c)->(∀y∈l,y.2= .free->∃c,env.cells.lookup y.1=some c)->
 ∃cl,(forIn l acc λ(x:Str×NameKind) (r:List (Str×Addr))=>(if(x.2==NameKind.free)=true then(cellOf env x.1>>=λa=>pure (ForInStep.yield ((x.1,a)::r)))else pure (ForInStep.yield r):Sem (ForInStep (List (Str×Addr)))))=pure cl/\
  (∀x c,cl.lookup x=some c->env.cells.lookup x=some c)/\(∀y∈l,y.2= .free->∃c,cl.lookup y.1=some c)/\(∀x c,acc.lookup x=some c->∃d,cl.lookup x=some d)
 |[],acc,h,_=>⟨acc,rfl,h,λ_ z=>(nomatch z),λx c e=>⟨c,e⟩⟩
 |(n,k)::l,acc,h,hf=>by
  by_cases hk:k= .free
  ·subst hk
   obtain⟨c,hc⟩:=hf (n, .free) List.mem_cons_self rfl
   have hacc:∀x d,((n,c)::acc).lookup x=some d->env.cells.lookup x=some d:=λx d e=>by
    rw[List.lookup_cons] at e
    cases hx:x==n with
    |true=>
     rw[hx] at e
     have e1:x=n:=by simpa using hx
     have e2:c=d:=by simpa using e
     rw[e1,←e2];exact hc
    |false=>
     rw[hx] at e
     exact h x d e
   obtain⟨cl,e1,e2,e3,e4⟩:=zd3 l ((n,c)::acc) hacc λy hy=>hf y (List.mem_cons_of_mem _ hy)
   refine⟨cl,?_,e2,λy hy hyf=>?_,λx d e=>?_⟩
   ·rw[List.forIn_cons]
    have:cellOf env n=pure c:=by unfold cellOf;rw[hc]
    simp only[beq_self_eq_true,if_true,this,pure_bind]
    exact e1
   ·rcases List.mem_cons.mp hy with rfl|hy
    ·exact e4 n c (by simp)
    ·exact e3 y hy hyf
   ·by_cases hx:x=n
    ·subst hx;exact e4 x c (by simp)
    ·have hb:(x==n)=false:=by simpa using hx
     exact e4 x d (by rw[List.lookup_cons,hb];exact e)
  ·obtain ⟨cl,e1,e2,e3,e4⟩:=zd3 l acc h λy hy=>hf y (List.mem_cons_of_mem _ hy)
   refine⟨cl,?_,e2,λy hy hyf=>?_,e4⟩
   ·rw[List.forIn_cons]
    have hb:(k==NameKind.free)=false:=by simpa using hk
    simp only[hb,Bool.false_eq_true,if_false,pure_bind]
    exact e1
   ·rcases List.mem_cons.mp hy with rfl|hy
    ·exact absurd hyf hk
    ·exact e3 y hy hyf
theorem zfJ{scope:Scope}{env:Env}(hf:∀y∈scope.names,y.2= .free->∃c,env.cells.lookup y.1=some c):
 ∃cl,closureFor scope env=pure cl/\(∀x c,cl.lookup x=some c->env.cells.lookup x=some c)/\∀y∈scope.names,y.2= .free->∃c,cl.lookup y.1=some c:=by
 obtain⟨cl,e1,e2,e3,_⟩:=zd3 (env:=env) scope.names [] (λ_ _ z=>by simp at z) hf
 refine⟨cl,?_,e2,e3⟩
 unfold closureFor
 refine Eq.trans ?_ (congrArg (λt=>t>>=λc=>(pure c:Sem (List (Str×Addr)))) e1)
 first
  |rfl
  |(congr 1)
theorem zha{scope:Scope}{env:Env}:∀{x:Str},(relabel scope env).names.lookup x=some .cell\/(relabel scope env).names.lookup x=some .free->(∀y∈scope.names,y.2≠ .cell)->(x,NameKind.free)∈scope.names:=by
 intro x h hc
 have key:∀(l:List (Str×NameKind)),(∀y∈l,y.2≠ .cell)->((l.map λ(n,k)=>if (k==NameKind.free&&env.scope.kind== .function&&env.kindOf n==some .cell)then(n,NameKind.cell)else(n,k)).lookup x=some .cell\/
  (l.map λ(n,k)=>if (k==NameKind.free&&env.scope.kind== .function&&env.kindOf n==some .cell)then(n,NameKind.cell)else(n,k)).lookup x=some .free)->(x,NameKind.free)∈l:=by
  intro l
  induction l with
  |nil=>intro _ h;simp at h
  |cons y l ih=>
   obtain⟨n,k⟩:=y
   intro hc h
   have hc':∀y∈l,y.2≠ .cell:=λy hy=>hc y (List.mem_cons_of_mem _ hy)
   have hk:k≠ .cell:=hc (n,k) List.mem_cons_self
   rw[List.map_cons] at h
   by_cases hx:x=n
   ·subst hx
    by_cases hf:k= .free
    ·subst hf;exact List.mem_cons_self
    ·exfalso
     have hb:(k==NameKind.free)=false:=by simpa using hf
     simp only[hb,Bool.false_and,Bool.false_eq_true,if_false,List.lookup_cons,beq_self_eq_true] at h
     rcases h with h|h
     ·exact hk (Option.some.inj h)
     ·exact hf (Option.some.inj h)
   ·refine List.mem_cons_of_mem _ (ih hc' ?_)
    have hb:(x==n)=false:=by simpa using hx
    by_cases hq:(k==NameKind.free&&env.scope.kind== .function&&env.kindOf n==some .cell)=true
    ·simp only[hq,if_true,List.lookup_cons,hb] at h
     exact h
    ·simp only[hq,Bool.false_eq_true,if_false,List.lookup_cons,hb] at h
     exact h
 exact key _ hc h
theorem zhf{scope:Scope}{env:Env}{x:Str}(h:scope.names.lookup x=some .free):(relabel scope env).names.lookup x=some .cell\/(relabel scope env).names.lookup x=some .free:=by
 have key:∀(l:List (Str×NameKind)),l.lookup x=some .free->((l.map λ(n,k)=>if (k==NameKind.free&&env.scope.kind== .function&&env.kindOf n==some .cell)then(n,NameKind.cell)else(n,k)).lookup x=some .cell\/
  (l.map λ(n,k)=>if (k==NameKind.free&&env.scope.kind== .function&&env.kindOf n==some .cell)then(n,NameKind.cell)else(n,k)).lookup x=some .free):=by
  intro l
  induction l with
  |nil=>intro h;simp at h
  |cons y l ih=>
   obtain⟨n,k⟩:=y
   intro h
   rw[List.map_cons]
   rw[List.lookup_cons] at h
   cases hx:x==n with
   |true=>
    rw[hx] at h
    have hk:k= .free:=Option.some.inj h
    subst hk
    by_cases hq:(NameKind.free==NameKind.free&&env.scope.kind== .function&&env.kindOf n==some .cell)=true
    ·simp only[hq,if_true,List.lookup_cons,hx];exact .inl trivial
    ·simp only[hq,Bool.false_eq_true,if_false,List.lookup_cons,hx];exact .inr trivial
   |false=>
    rw[hx] at h
    by_cases hq:(k==NameKind.free&&env.scope.kind== .function&&env.kindOf n==some .cell)=true
    ·simp only[hq,if_true,List.lookup_cons,hx];exact ih h
    ·simp only[hq,Bool.false_eq_true,if_false,List.lookup_cons,hx];exact ih h
 exact key _ h
def zfX(src:List (Option Nat))(σ:St):St:=src.map λo=>o.bind λj=>(σ[j]?).join
section
variable{X:Cx}{pins:List (Addr×Obj)}{σ:St}{H:Hp}{s:Shared}{N':List Str}{src:List (Option Nat)}{scope osc:Scope}{cl:List (Str×Addr)}{fp:List Addr}
theorem zfD{h₁:Heap}{tk:Nat}(I:Inv X pins σ H s)(hf:∀b∈fp,zeA X pins H b)(hlt:∀b∈fp,b<s.heap.objs.size)(ok:CompOk X.N osc N' src scope)(hsc:X.env.scope=osc)
 (c1:∀x c,cl.lookup x=some c->X.env.cells.lookup x=some c) (c2:∀y∈scope.names,y.2= .free->∃c,cl.lookup y.1=some c)
 (hn:h₁.Ns s.heap.objs.size λ_=>none) (hk:∀b o,s.heap.get? b=some o->h₁.get? b=some o):
 Inv (zW X N' scope cl s.heap.objs.size s H fp) [] (zfX src σ) H {s with heap:=h₁,toks:=tk}:=by
 have hkind:(relabel scope X.env).kind= .function:=ok.kind
 refine⟨⟨I.ok.mod,hkind,I.ok.glob,I.ok.blt,Nat.le_refl _,λx y c h1 h2=>I.ok.inj x y c (c1 x c h1) (c1 y c h2),λx hx=>?_,λx c z _=>(by cases z),I.ok.hd,I.ok.frames, .inl rfl,λb hb=>?_,I.bs,Nat.le_trans I.ok.bsz I.sz,λb o e hb=>?_,λb hb z=>?_,I.stack,I.stkFree⟩,
  rfl,I.bare,Un.kept hk,⟨_,hn,λi x v h1 h2 h3=>?_⟩,λx c e=>?_,I.hok.fresh (Nat.le_refl _),λx c e=>I.freeC x c (c1 x c e),λp hp=>absurd (show p∈([]:List (Addr×Obj))from hp) (by simp),I.hok.kept hk,?_⟩
 ·exact c2 _ (zha (env:=X.env) (scope:=scope) (x:=x) hx ok.nocell) rfl
 ·obtain ⟨f0,f1,f2,f3,f4,f5⟩:=hf b hb
  exact⟨λz=>absurd (hlt b hb) (by rw[z];exact Nat.lt_irrefl _),λx c e=>f4 x c (c1 x c e)⟩
 ·obtain ⟨f0,f1,f2,f3,f4,f5⟩:=hf b hb
  rcases f3 with z|z
  ·exact I.ok.noex b o e z
  ·exact absurd (Nat.lt_of_lt_of_le (Heap.lt_size e) (Nat.le_trans I.ok.bsz z)) (Nat.lt_irrefl _)
 ·obtain ⟨f0,f1,f2,f3,f4,f5⟩:=hf b hb
  rcases List.mem_cons.mp (I.stkSub b z)with q|q
  ·exact f1 q
  ·exact f2 q
 ·
  have hi:∃j,src[i]?=some (some j)/\σ[j]?=some (some v):=by
   unfold zfX at h2
   rw[List.getElem?_map] at h2
   cases e:src[i]? with
   |none=>rw[e] at h2;cases h2
   |some o=>
    rw[e] at h2
    cases o with
    |none=>cases h2
    |some j=>
     refine⟨j,rfl,?_⟩
     have h2':(σ[j]?).join=some v:=Option.some.inj h2
     cases e2:σ[j]? with
     |none=>rw[e2] at h2';cases h2'
     |some w=>rw[e2] at h2';exact congrArg some h2'
  obtain⟨j,e1,e2⟩:=hi
  have hz:(some j,x)∈src.zip N':=by
   refine List.mem_iff_getElem?.mpr ⟨i,?_⟩
   rw[List.getElem?_zip_eq_some]
   exact⟨e1,h1⟩
  obtain⟨q1,q2⟩:=ok.src _ hz j (by simp)
  have hfr:=PySem.mem_of_lookup q2
  have hk0:=ok.frees _ hfr rfl
  rw[←hsc] at hk0
  obtain⟨m,hns,hl⟩:=I.loc
  obtain⟨u,r,l⟩:=hl j x v q1 e2 (hk0.elim (λz=> .inr (.inl z)) λz=> .inr (.inr z))
  refine⟨u,r,?_⟩
  rcases l with⟨l1,_⟩|⟨_,c,l2,l3⟩
  ·exfalso
   have l1':X.env.scope.names.lookup x=some .local:=l1
   rcases hk0 with z|z
   ·rw[l1'] at z;cases z
   ·rw[l1'] at z;cases z
  ·obtain ⟨d,hd⟩:=c2 _ hfr rfl
   have:d=c:=by
    have:=(c1 _ _ hd).symm.trans l2
    exact Option.some.inj this
   subst this
   obtain⟨o,ho,hod⟩:=l3
   exact .inr ⟨zhf q2,d,hd,o,hk _ _ ho,hod⟩
 ·obtain ⟨v,o,ho,hod⟩:=I.cell x c (c1 x c e)
  exact⟨v,o,hk _ _ ho,hod⟩
 ·show (zfX src σ).length=N'.length
  unfold zfX
  rw[List.length_map]
  exact ok.len
theorem zfI{C:Addr}{σ':St}{H':Hp}{s':Shared}{h':Heap}(I:Inv X pins σ H s)(hf:∀b∈fp,zeA X pins H b)(hC:s.heap.objs.size<=C)(J:Inv (zW X N' scope cl C s H fp) [] σ' H' s')(hs:Heap.SameBut C s'.heap h'):
 Inv X pins σ H' {s' with heap:=h'}:=by
 have nC:∀b o,s.heap.get? b=some o->b≠C:=λb o e z=>absurd (Nat.lt_of_lt_of_le (Heap.lt_size e) (by rw[z];exact hC)) (Nat.lt_irrefl _)
 have B:Un (frs X.stack) fp H H' s.heap s'.heap:=J.base
 refine I.call' (ch:=fp) J.os ⟨λb o e n hb hx=>(hs.2 b (nC b o e)).trans (B.keep b o e n hb hx),λb o e n hb hx=>?_,B.free,λb o e hx=>?_,B.tups,B.frzs,B.tbls⟩ (λb ob e=>?_) J.bare λb hb=>?_
 ·obtain ⟨sl,e1⟩:=B.slot b o e n hb hx
  exact⟨sl,(hs.2 b (nC b o e)).trans e1⟩
 ·obtain ⟨o',e1⟩:=B.there b o e hx
  exact⟨o',(hs.2 b (nC b o e)).trans e1⟩
 ·refine (J.hok b ob e).stay (λc w' hc q=>(hs.2 c ?_).trans q) (λ_ q=>q) λ_ _ q=>q
  have hfree:H' C=none:=J.free
  rintro rfl
  rcases hc with rfl|hc
  ·rw[hfree] at e;cases e
  ·rw[hfree] at hc;cases hc
 ·obtain ⟨f0,f1,f2,f3,f4,f5⟩:=hf b hb
  exact⟨f3,f1,f4,f5⟩
end
def zj6(ifs:List Expr)(env:Env):Sem Bool:=forIn ifs true λc r=>if r=true then do let ok ←isTrue c env (eval c env);pure (ForInStep.yield ok)else pure (ForInStep.yield r)
def PIf(X:Cx)(ifs:List Expr)(t:TT):Prop:=
 ∀(pins:List (Addr×Obj)) (s:Shared) (σ:St) (H:Hp) (Q:Bool->Hp->Prop),Inv X pins σ H s->t σ H Q->wpAny (model X.prog X.w) X.A (zj6 ifs X.env) (TP X pins σ Q) X.xe s
def znF:TT:=λ_ H Q=>Q true H
theorem zot{X:Cx}:PIf X [] znF:=λpins s σ H Q I h=>wpAny_tests_nil ⟨H,I,h⟩
theorem zoD{X:Cx}{c:Expr}{t:TT}(h:PT X c t):PIf X [c] t:=λpins s σ H Q I hq=>wpAny_tests_one (h pins s σ H Q I hq)
theorem zeh{prog:Program}{w:World}{A:Around}{R:Result->Shared->Prop}{s:Shared}{elt target iter:Expr}{ifs:List Expr}{scope:Scope}{pos:Pos}{it acc:Value}{env:Env}(I:Nat->Shared->Prop)
 (turn:∀n s,I n s->wpAny (model prog w) A (pyNext it) (λr s1=>match r with
   |none=>R (.ok .next) s1
   |some v=>wpAny (model prog w) A (letOwnedTupleGo target it v) (λ_ s1'=>wpAny (model prog w) A (assign target env v) (λ_ s2=>wpAny (model prog w) A (zj6 ifs env) (λok s3=>
     if ok=true then wpAny (model prog w) A (eval elt env) (λx s4=>wpAny (model prog w) A (call (.builtin "list.append") [acc,x]) (λ_ s5=>∃m,m<n/\I m s5) (λ_ _=>False) s4) (λ_ _=>False) s3
     else∃m,m<n/\I m s3) (λ_ _=>False) s2) (λ_ _=>False) s1') (λ_ _=>False) s1) (λ_ _=>False) s)
 (n:Nat) (h:I n s):codeAny (model prog w) A (.compLoop (.ListComp elt [⟨target,iter,ifs,0⟩] scope pos) 0 it acc env) R s:=by
 have no:∀{E:Value->Shared->Prop} (e:Value) (s:Shared),(λ(_:Value) (_:Shared)=>False) e s->E e s:=λ_ _ z=>False.elim z
 refine codeAny_loop rfl I (λn s hI=>?_) n h
 show wpAny _ A ((compTurn (.ListComp elt [⟨target,iter,ifs,0⟩] scope pos) 0 it acc env).onRaise (λx=>do noteFrame x env;theTreesLotGoes x)) _ _ s
 refine wpAny_noted ?_
 rw[compTurn_list]
 refine wpAny_bind (wpAny_standAt (wpAny_bind (wpAny_mono (turn n s hI) (λr s₁ h₁=>?_) no)))
 cases r with
 |none=>exact wpAny_pure h₁
 |some v=>
  refine wpAny_bind (wpAny_mono h₁ (λ_ s1' h1'=>?_) no)
  refine wpAny_bind (wpAny_mono h1' (λ_ s₂ h₂=>wpAny_bind (wpAny_mono h₂ (λok s₃ h₃=>?_) no)) no)
  cases ok with
  |false=>exact wpAny_pure ⟨rfl,h₃⟩
  |true=>
   exact wpAny_bind (wpAny_bind (wpAny_mono h₃ (λx s₄ h₄=>wpAny_bind (wpAny_mono h₄ (λ_ s₅ h₅=>wpAny_pure (wpAny_pure ⟨rfl,h₅⟩)) no)) no))
def zd0(g:TG)(tc:TT)(te:TE)(src:List (Option Nat))(σ:St)(Q:VK)(J:It)(H1:Hp):Prop:=∀l,H1 l=none->
 ∃W:Nat->Nat->List V->St->Hp->Prop,(∃m,W 0 m [] (zfX src σ) (upd H1 l (.lst [])))/\∀i m ys σ' H',W i m ys σ' H'->H' l=some (.lst ys)->
  (J.stop i H'/\Q (.ref l) H')\/(J.go i H'/\∃N:List V->St->Hp->Prop,(∀zs σ2 H2,N zs σ2 H2->∃m',m'<m/\W (i+1) m' zs σ2 H2)/\∀x H2,J.yld i H' x H2->g x σ' H2 λσ2 H3=>tc σ2 H3 λb H4=>
    if b=true then te σ2 H4 λy H5=>H5 l=some (.lst ys)/\ys.length<sizeLine/\N (ys ++ [y]) σ2 (upd H5 l (.lst (ys ++ [y])))
    else H4 l=some (.lst ys)/\N ys σ2 H4)
def zko(wi:TI)(g:TG)(tc:TT)(te:TE)(src:List (Option Nat)):TE:=λσ H Q=>wi σ H (zd0 g tc te src σ Q)
def zpz(g:TG)(tb:TS)(D:Ends)(σ:St)(J:It)(H1:Hp):Prop:=∃W:Nat->Nat->St->Hp->Prop,(∃m,W 0 m σ H1)/\∀i m σ H,W i m σ H->
 (J.stop i H/\D.nx σ H)\/(J.go i H/\∃N:St->Hp->Prop,(∀σ' H',N σ' H'->∃m',m'<m/\W (i+1) m' σ' H')/\∀x H',J.yld i H x H'->g x σ H' λσ2 H2=>tb {D with nx:=N,ct:=N,bk:=D.nx} σ2 H2)
def zpt(wi:TI)(g:TG)(tb:TS):TS:=λD σ H=>wi σ H (zpz g tb D σ)
theorem zn6{X:Cx}{tg iter:Expr}{body:List Stmt}{wi:TI}{g:TG}{tb:TS}{pos:Pos}(hp:PassesOwn (model X.prog X.w) X.A X.env X.xe)(hc:X.calm=true)(hi:PI X tg iter wi)(hg:PG X tg g)(hb:PSs X body tb)
 (hs:∀x,foldedSetIterable iter X.env x=pure x:=by intro _;rfl):PS X (.For tg iter body [] pos) (zpt wi g tb):=zqu hp hc hi hg hb hs
section
variable{X:Cx}{elt tg iter:Expr}{ifs:List Expr}{scope osc:Scope}{pos:Pos}{N':List Str}{src:List (Option Nat)}{wi:TI}{g:TG}{tc:TT}{te:TE}
theorem zou(ok:CompOk X.N osc N' src scope)(hsc:X.env.scope=osc)(hc:X.calm=true)(hi:PI X tg iter wi)
 (hg:∀cl C s₀ H₀ fp,PG (zW X N' scope cl C s₀ H₀ fp) tg g) (ht:∀cl C s₀ H₀ fp,PIf (zW X N' scope cl C s₀ H₀ fp) ifs tc) (he:∀cl C s₀ H₀ fp,PE (zW X N' scope cl C s₀ H₀ fp) elt te)
 (hs:∀x,foldedSetIterable iter X.env x=pure x:=by intro _;rfl):PE X (.ListComp elt [⟨tg,iter,ifs,0⟩] scope pos) (zko wi g tc te src):=by
 intro pins s σ H Q I h
 obtain⟨cl,hcl,c1,c2⟩:=zfJ (scope:=scope) (env:=X.env) λy hy hyf=>I.ok.has y.1 (by
  have z:=ok.frees y hy hyf
  rw[←hsc] at z
  exact z)
 rw[eval_ListComp]
 refine wpAny_comprehension_free (use:=none) rfl hs hcl ok.kind ok.loc (thn (hi pins s σ H _ I h) λv s1 h1=>thn h1 λitv s2 h2=>?_)
 obtain⟨it,fp,tn,J,H2,e,I2,T,st2,f2,q2⟩:=h2
 subst e
 have hlt2:∀b∈fp,b<s2.heap.objs.size:=λb hb=>by
  obtain⟨o,e,_⟩:=T.obj _ _ st2 b hb
  exact Heap.lt_size e
 refine wpAny_newObj_type ?_
 have hl:H2 s2.heap.objs.size=none:=I2.hok.fresh (Nat.le_refl _)
 have I3:Inv X pins σ (upd H2 s2.heap.objs.size (.lst [])) {s2 with heap:=s2.heap.push {cls:= .type "list",dict:=none,data:= .seq ([]:List Value).toArray}}:=
  I2.laid (t':=s2.toks) (λb u e=>Heap.get?_push_of_some _ e) (Nat.le_refl _) ⟨Nat.zero_le _,[],0, .nil,Heap.get?_push_size _ rfl⟩
 obtain⟨W,⟨m0,w0⟩,turn⟩:=q2 _ hl
 generalize hl2:s2.heap.objs.size=l at *
 generalize hs3:({s2 with heap:=s2.heap.push {cls:= .type "list",dict:=none,data:= .seq ([]:List Value).toArray}}:Shared)=s3 at *
 have f3:∀b∈fp,zeA X pins (upd H2 l (.lst [])) b:=λb hb=>⟨by rw[zi (Nat.ne_of_lt (hlt2 b hb))];exact(f2 b hb).1,(f2 b hb).2⟩
 have k3:∀b o,s2.heap.get? b=some o->s3.heap.get? b=some o:=λb o e=>by rw[←hs3];exact Heap.get?_push_of_some _ e
 have hlt3:∀b∈fp,b<s3.heap.objs.size:=λb hb=>by
  obtain⟨o,e,_⟩:=T.obj _ _ st2 b hb
  exact Heap.lt_size (k3 b o e)
 refine wpAny_newFunctionEnv ok.nocell (by intro y hy;simp at hy) (λh₁ hns₁ hsb₁=>?_) ok.kind
 have k4:∀b o,s3.heap.get? b=some o->h₁.get? b=some o:=λb o e=>(hsb₁.2 b (Nat.ne_of_lt (Heap.lt_size e))).trans (Heap.get?_push_of_some _ e)
 have J0:=zfD (tk:=s3.toks+([]:List (Str×Value)).length) I3 f3 hlt3 ok hsc c1 c2 hns₁ k4
 have st4:tn 0 h₁:=T.keep _ _ _ st2 λb hb o e=>k4 b o (k3 b o e)
 generalize hC:s3.heap.objs.size=C at *
 have stat:∀{H':Hp},(∀b∈fp,H' b=none)->∀b∈fp,zeA (zW X N' scope cl C s3 (upd H2 l (.lst [])) fp) [] H' b:=λ{H'} hn b hb=>
  ⟨hn b hb,(J0.ok.exf b hb).1,J0.ok.exfs b hb, .inl hb,(J0.ok.exf b hb).2,λp hp=>absurd (show p∈([]:List (Addr×Obj))from hp) (by simp)⟩
 have loop:codeAny (model X.prog X.w) X.A (.compLoop (.ListComp elt [⟨tg,iter,ifs,0⟩] scope pos) 0 (.ref it) (.ref l) (compEnvC scope cl C X.env))
  (compPost (model X.prog X.w) X.A X.xe none (EP X pins σ Q) (.ref l) C) {s3 with heap:=h₁,toks:=s3.toks+([]:List (Str×Value)).length}:=by
  refine zeh (λn s'=>∃i ys σ' H',Inv (zW X N' scope cl C s3 (upd H2 l (.lst [])) fp) [] σ' H' s'/\tn i s'.heap/\(∀b∈fp,H' b=none)/\H' l=some (.lst ys)/\W i n ys σ' H') ?_ m0
   ⟨0,[],_,_,J0,st4,λb hb=>(f3 b hb).1,zb,w0⟩
  rintro n s5 ⟨i,ys,σ5,H5,I5,st5,fr5,hl5,w5⟩
  rcases turn i n ys σ5 H5 w5 hl5 with⟨stop,qn⟩|⟨go,N,hN,step⟩
  ·refine thn (T.done (zW X N' scope cl C s3 (upd H2 l (.lst [])) fp) rfl rfl rfl hc i [] s5 σ5 H5 (λ_ _=>False) I5 (stat fr5) st5 stop) λr s6 ⟨hr,I6⟩=>?_
   subst hr
   obtain⟨m,hn,_⟩:=I6.loc
   exact⟨m,hn,λh' hsb=>⟨.ref l,H5,zfI I3 f3 (by rw[←hC];exact Nat.le_refl _) I6 hsb,rfl,qn⟩⟩
  ·refine thn (T.item (zW X N' scope cl C s3 (upd H2 l (.lst [])) fp) rfl rfl rfl hc i [] s5 σ5 H5 (λ_ _=>False) I5 (stat fr5) st5 go) λr s6 ⟨u,hr,h6⟩=>?_
   subst hr
   refine thn h6 λ_ s7 ⟨x,H7,I7,r7,y7,st7,fr7⟩=>?_
   have I7':=I7.pinned (stat fr7) (T.obj _ _ st7)
   refine thn (hg cl C s3 _ fp _ s7 σ5 H7 x u _ I7' r7 (step x H7 y7)) λ_ s8 ⟨σ8,H8,I8,q8⟩=>?_
   refine thn (ht cl C s3 _ fp _ s8 σ8 H8 _ I8 q8) λb s9 ⟨H9,I9,q9⟩=>?_
   have back:∀{s':Shared} {H':Hp},Inv (zW X N' scope cl C s3 (upd H2 l (.lst [])) fp) ([]++zew fp s7.heap) σ8 H' s'->tn (i+1) s'.heap/\∀b∈fp,H' b=none:=λ{s' H'} I'=>by
    refine⟨T.keep _ _ _ st7 λb hb o e=>(I'.pin (b,o) (List.mem_append_right _ (List.mem_append_right _ (za9 hb e)))).1,λb hb=>?_⟩
    obtain⟨o,e,d⟩:=T.obj _ _ st7 b hb
    exact(I'.pin (b,o) (List.mem_append_right _ (List.mem_append_right _ (za9 hb e)))).2.1
   cases b with
   |false=>
    obtain⟨hl9,n9⟩:=q9
    obtain⟨m',hm,w9⟩:=hN _ _ _ n9
    obtain⟨t9,fr9⟩:=back I9
    exact⟨m',hm,i+1,ys,σ8,H9,I9.unpinned,t9,fr9,hl9,w9⟩
   |true=>
    refine thn (he cl C s3 _ fp _ s9 σ8 H9 _ I9 q9) λxv s10 ⟨y,H10,I10,r10,hl10,hz,n10⟩=>?_
    obtain⟨m',hm,w10⟩:=hN _ _ _ n10
    refine thn (zbc (X:=zW X N' scope cl C s3 (upd H2 l (.lst [])) fp) _ s10 σ8 H10 (.ref l) [y] (.ref l) [xv] (λv H'=>H'=upd H10 l (.lst (ys ++ [y]))) I10 rfl (.cons r10 .nil) ⟨l,ys,y,rfl,rfl,hl10,hz,rfl⟩) λ_ s11 ⟨_,H11,I11,_,e11⟩=>?_
    subst e11
    obtain⟨t11,fr11⟩:=back I11
    exact⟨m',hm,i+1,ys ++ [y],σ8,_,I11.unpinned,t11,fr11,zb,w10⟩
 exact codeAny_compStart_list loop (T.self _ 0 _ _ _ st4 loop)
end
section
variable{κ:Type}[DecidableEq κ]
def zby(kvs:List (κ×V))(k:κ):Option V:=(kvs.find? λkv=>decide (kv.1=k)).map (·.2)
def zbz(kvs:List (κ×V))(k:κ)(v:V):List (κ×V):=
 if(kvs.any λkv=>decide (kv.1=k))=true then kvs.map (λkv=>if kv.1=k then(kv.1,v)else kv)else kvs ++ [(k,v)]
theorem zfH{p:κ×V}{r:List (κ×V)}{k:κ}(e:p.1=k):zby (p::r) k=some p.2:=by simp[zby,List.find?_cons,e]
theorem zd7{p:κ×V}{r:List (κ×V)}{k:κ}(e:¬p.1=k):zby (p::r) k=zby r k:=by simp[zby,List.find?_cons,e]
theorem zfp(k:κ):∀kvs:List (κ×V),(kvs.any λkv=>decide (kv.1=k))=(zby kvs k).isSome
 |[]=>rfl
 |p::r=>by
  rw[List.any_cons]
  by_cases e:p.1=k
  ·simp only[zfH e,decide_eq_true e,Bool.true_or,Option.isSome_some]
  ·rw[zd7 e,decide_eq_false e,Bool.false_or];exact zfp k r
theorem zc4(kvs:List (κ×V))(k:κ)(v:V):(zbz kvs k v).length<=kvs.length+1:=by
 unfold zbz
 split
 ·rw[List.length_map];omega
 ·rw[List.length_append,List.length_cons,List.length_nil];omega
theorem zmL{kvs:List (κ×V)}{k:κ}(v:V)(h:zby kvs k=none):zbz kvs k v=kvs ++ [(k,v)]:=by
 unfold zbz
 rw[zfp,h]
 exact if_neg (by decide)
theorem RelO.isSome_eq{o:Option V}{u:Option Value}(r:RelO o u):o.isSome=u.isSome:=by
 cases o with
 |none=>cases u with
  |none=>rfl
  |some _=>exact (show False from r).elim
 |some _=>cases u with
  |none=>exact (show False from r).elim
  |some _=>rfl
theorem KV.val{kvs:List (κ×V)}{vs:List (κ×Value)}(r:KV kvs vs)(k:κ):RelO (zby kvs k) (valueAt vs k):=by
 unfold KV at r
 induction r with
 |nil=>exact True.intro
 | @cons p q ps qs h t ih=>
   obtain⟨h1,h2⟩:=h
   by_cases e:p.1=k
   ·have e':q.1=k:=h1.symm.trans e
    have b:valueAt (q::qs) k=some q.2:=by simp[valueAt,List.find?_cons,e']
    rw[zfH e,b];exact h2
   ·have e':¬q.1=k:=λz=>e (h1.trans z)
    have b:valueAt (q::qs) k=valueAt qs k:=by simp[valueAt,List.find?_cons,e']
    rw[zd7 e,b];exact ih
theorem KV.any{kvs:List (κ×V)}{vs:List (κ×Value)}(r:KV kvs vs)(k:κ):(kvs.any λkv=>decide (kv.1=k))=vs.any λkv=>decide (kv.1=k):=by
 unfold KV at r
 induction r with
 |nil=>rfl
 |cons h t ih=>rw[List.any_cons,List.any_cons,ih,h.1]
theorem KV.repl{kvs:List (κ×V)}{vs:List (κ×Value)}(r:KV kvs vs)(k:κ){y:V}{u:Value}(ry:RelV y u):
 KV (kvs.map λkv=>if kv.1=k then(kv.1,y)else kv) (vs.map λkv=>if kv.1=k then(kv.1,u)else kv):=by
 unfold KV at r⊢
 induction r with
 |nil=>exact .nil
 | @cons p q ps qs h t ih=>
   rw[List.map_cons,List.map_cons]
   refine .cons ?_ ih
   obtain⟨h1,h2⟩:=h
   by_cases e:p.1=k
   ·rw[if_pos e,if_pos (h1.symm.trans e)];exact⟨h1,ry⟩
   ·rw[if_neg e,if_neg (λz=>e (h1.trans z))];exact⟨h1,h2⟩
theorem KV.put{kvs:List (κ×V)}{vs:List (κ×Value)}(r:KV kvs vs)(k:κ){y:V}{u:Value}(ry:RelV y u):KV (zbz kvs k y) (stored vs k u):=by
 unfold zbz stored
 rw[r.any k]
 by_cases e:(vs.any λkv=>decide (kv.1=k))=true
 ·rw[if_pos e,if_pos e];exact r.repl k ry
 ·rw[if_neg e,if_neg e];exact Paired.snoc r ⟨rfl,ry⟩
theorem KV.length{kvs:List (κ×V)}{vs:List (κ×Value)}(r:KV kvs vs):kvs.length=vs.length:=Paired.length r
end
theorem zj3{P:Program}{w:World}{k:Key}{u:Value}(r:RelV (kV k) u):(zZ P w).is k u=true:=by
 cases k with
 |inl i=>obtain ⟨t,e⟩:=(show∃t,u=Value.int i t from r);subst e;exact zhX P w i t
 |inr x=>obtain ⟨t,e⟩:=(show∃t,u=Value.str x t from r);subst e;exact zdb P w x t
theorem zgK{P:Program}{w:World}:∀{ks:List Key} {us:List Value},Vals (ks.map kV) us->ItemsAre (zZ P w) ks us
 |[],_,r=>by rw[List.map_nil] at r;cases r;exact .nil
 |k::ks,_,r=>by
  rw[List.map_cons] at r
  cases r with
  |cons h t=>exact .cons (zj3 h) (zgK t)
abbrev KT(H:Hp):List (List Key×V)->List (List Key×Addr×Value)->Prop:=Paired λp q=>p.1=q.1/\H q.2.1=some (.tup (p.1.map kV))/\RelV p.2 q.2.2
theorem KT.val{H:Hp}{kvs:List (List Key×V)}{xs:List (List Key×Addr×Value)}(r:KT H kvs xs)(k:List Key):RelO (zby kvs k) ((atKey xs k).map (·.2)):=by
 induction r with
 |nil=>exact True.intro
 | @cons p q ps qs h t ih=>
   obtain⟨h1,_,h2⟩:=h
   by_cases e:p.1=k
   ·have e':q.1=k:=h1.symm.trans e
    have b:atKey (q::qs) k=some q.2:=by simp[atKey,List.find?_cons,e']
    rw[zfH e,b];exact h2
   ·have e':¬q.1=k:=λz=>e (h1.trans z)
    have b:atKey (q::qs) k=atKey qs k:=by simp[atKey,List.find?_cons,e']
    rw[zd7 e,b];exact ih
theorem KT.repl{H:Hp}{kvs:List (List Key×V)}{xs:List (List Key×Addr×Value)}(r:KT H kvs xs)(k:List Key){y:V}{u:Value}(ry:RelV y u):
 KT H (kvs.map λkv=>if kv.1=k then(kv.1,y)else kv) (xs.map (putAt k u)):=by
 induction r with
 |nil=>exact .nil
 | @cons p q ps qs h t ih=>
   rw[List.map_cons,List.map_cons]
   refine .cons ?_ ih
   obtain⟨h1,h2,h3⟩:=h
   unfold putAt
   by_cases e:p.1=k
   ·rw[if_pos e,if_pos (h1.symm.trans e)];exact⟨h1,h2,ry⟩
   ·rw[if_neg e,if_neg (λz=>e (h1.trans z))];exact⟨h1,h2,h3⟩
theorem KT.put{H:Hp}{kvs:List (List Key×V)}{xs:List (List Key×Addr×Value)}(r:KT H kvs xs)(k:List Key){b:Addr}{y:V}{u:Value}(hb:H b=some (.tup (k.map kV)))(ry:RelV y u):
 KT H (zbz kvs k y) (storedH xs k b u):=by
 have e:(kvs.any λkv=>decide (kv.1=k))=(atKey xs k).isSome:=by
  rw[zfp,(r.val k).isSome_eq,Option.isSome_map]
 unfold zbz storedH
 rw[e]
 by_cases q:(atKey xs k).isSome=true
 ·rw[if_pos q,if_pos q];exact r.repl k ry
 ·rw[if_neg q,if_neg q];exact Paired.snoc r ⟨rfl,hb,ry⟩
theorem KT.keeps{H H':Hp}{kvs:List (List Key×V)}{xs:List (List Key×Addr×Value)}(r:KT H kvs xs)(ht:∀b ys,H b=some (.tup ys)->H' b=some (.tup ys)):KT H' kvs xs:=
 Paired.mapP r λ_ _ z=>⟨z.1,ht _ _ z.2.1,z.2.2⟩
section
variable{P:Program}{w:World}{H:Hp}{h:Heap}{a:Addr}
theorem zpF{u:HO}(ok:HOk P w H h)(e:Rd H a u):ObjOk P w H h a u:=e.ok ok
theorem zna{kvs:List (Key×V)}(ok:HOk P w H h)(e:Rd H a (.dK kvs)):kvs.length<=sizeLine/\(a==sysModules)=false/\∃vs,KV kvs vs/\h.DictOf (zZ P w) a vs:=
 show ObjOk P w H h a (.dK kvs)from zpF ok e
theorem zkd{kvs:List (Key×V)}(ok:HOk P w H h)(e:H a=some (.dK kvs)):kvs.length<=sizeLine/\(a==sysModules)=false/\∃vs,KV kvs vs/\h.DictOf (zZ P w) a vs:=zna ok (.inl e)
theorem zjF{ks:List Key}(ok:HOk P w H h)(e:H a=some (.tup (ks.map kV))):(tupleKind (zZ P w)).is h ks a:=by
 obtain⟨_,its,r,⟨o,h1,h2,n,h3⟩,_⟩:=(show ObjOk P w H h a (.tup (ks.map kV))from ok a _ e)
 exact⟨o,its.toArray,n,h1,h2,h3,by simpa using zgK r⟩
theorem zmq{kvs:List (List Key×V)}(ok:HOk P w H h)(e:Rd H a (.dT kvs)):kvs.length<=sizeLine/\(a==sysModules)=false/\
 ∃xs,KT H kvs xs/\h.DictOfH (tupleKind (zZ P w)) a xs:=by
 obtain⟨z,y,xs,r,o,es,ep,h1,h2,h3,h4,h5⟩:=(show ObjOk P w H h a (.dT kvs)from zpF ok e)
 refine⟨z,y,xs,r,o,es,ep,h1,h2,h3,h4,λx hx=>?_,h5⟩
 have all:∀{l:List (List Key×V)} {m:List (List Key×Addr×Value)},KT H l m->∀x∈m,(tupleKind (zZ P w)).is h x.1 x.2.1:=by
  intro l m q
  induction q with
  |nil=>intro x hx;exact nomatch hx
  | @cons p q ps qs hq t ih=>
    intro x hx
    rcases List.mem_cons.mp hx with e|hx
    ·subst e
     exact zjF ok (by rw[←hq.1];exact hq.2.1)
    ·exact ih x hx
 exact all r x hx
theorem zro{kvs:List (List Key×V)}(ok:HOk P w H h)(e:H a=some (.dT kvs)):kvs.length<=sizeLine/\(a==sysModules)=false/\
 ∃xs,KT H kvs xs/\h.DictOfH (tupleKind (zZ P w)) a xs:=zmq ok (.inl e)
end
def DGet(H:Hp)(a:Addr)(y:V)(r:Option V):Prop:=
 (∃kvs k,Rd H a (.dK kvs)/\y=kV k/\r=zby kvs k)\/∃kvs k b,Rd H a (.dT kvs)/\y= .ref b/\H b=some (.tup (k.map kV))/\r=zby kvs k
def DPut(H:Hp)(a:Addr)(y v:V)(H':Hp):Prop:=
 (∃kvs k,H a=some (.dK kvs)/\y=kV k/\kvs.length<sizeLine/\H'=upd H a (.dK (zbz kvs k v)))\/
 ∃kvs k b,H a=some (.dT kvs)/\y= .ref b/\H b=some (.tup (k.map kV))/\kvs.length<sizeLine/\H'=upd H a (.dT (zbz kvs k v))
theorem DGet.k{H:Hp}{a:Addr}{kvs:List (Key×V)}{k:Key}(e:H a=some (.dK kvs)):DGet H a (kV k) (zby kvs k):= .inl ⟨kvs,k, .inl e,rfl,rfl⟩
theorem DPut.k{H:Hp}{a:Addr}{kvs:List (Key×V)}{k:Key}{v:V}(e:H a=some (.dK kvs))(hl:kvs.length<sizeLine):DPut H a (kV k) v (upd H a (.dK (zbz kvs k v))):= .inl ⟨kvs,k,e,rfl,hl,rfl⟩
theorem DPut.t{H:Hp}{a b:Addr}{kvs:List (List Key×V)}{k:List Key}{v:V}(e:H a=some (.dT kvs))(eb:H b=some (.tup (k.map kV)))(hl:kvs.length<sizeLine):
 DPut H a (.ref b) v (upd H a (.dT (zbz kvs k v))):= .inr ⟨kvs,k,b,e,rfl,eb,hl,rfl⟩
section
variable{X:Cx}{pins:List (Addr×Obj)}{σ:St}{H:Hp}{s:Shared}{a:Addr}{y v:V}{u r:Value}{o:Option V}{A:Around}{E:Value->Shared->Prop}
theorem Inv.big(I:Inv X pins σ H s):sysModules<s.heap.objs.size:=by
 have h:mainGlobals<s.heap.objs.size:=(I.mod.glob.keeps I.bk).lt
 exact Nat.lt_trans (by decide) h
theorem zlE{Q:Value->Shared->Prop}(hu:A.units+1<cLine)(I:Inv X pins σ H s)(g:DGet H a y (some v))(ry:RelV y u)(h:∀w' s',Inv X pins σ H s'->RelV v w'->Q w' s'):
 wpAny (model X.prog X.w) A (getItem (.ref a) u) Q E s:=by
 rcases g with⟨kvs,k,e,ey,l⟩|⟨kvs,k,b,e,ey,eb,l⟩
 ·subst ey
  obtain⟨z,hd,vs,rel,dd⟩:=zna I.hok e
  obtain⟨w',hw,rw'⟩:=RelO.some_of (v:=v) (o:=valueAt vs k) (by rw[l];exact rel.val k)
  exact wpAny_getItem_of (zj3 ry) dd.mapOf hw (h w' _ (I.tok _) rw')
 ·subst ey
  cases(show u=Value.ref b from ry)
  obtain⟨z,hd,xs,rel,dd⟩:=zmq I.hok e
  obtain⟨w',hw,rw'⟩:=RelO.some_of (v:=v) (o:=(atKey xs k).map (·.2)) (by rw[l];exact rel.val k)
  obtain⟨p,hp,hp2⟩:=Option.map_eq_some_iff.mp hw
  refine wpAny_getItem_heap (tupleKind_room_in1 hu) (zjF I.hok eb) dd hp ?_
  rw[hp2]
  exact h w' _ (I.tok _) rw'
theorem zhA{h':Heap}{t':Nat}{ob:HO}(I:Inv X pins σ H s)(mu:Mut (H a))(hs:Heap.SameBut a s.heap h')(he:∃q,h'.get? a=some q)(new:ObjOk X.prog X.w (upd H a ob) h' a ob):
 Inv X pins σ (upd H a ob) {s with heap:=h',toks:=t'}:=
 I.write (x:=a) (e:=a) mu (.inl rfl) (λb q hb z=>(hs.2 b hb).trans z) he new
theorem zgc{P:Program}{w:World}{H':Hp}{h':Heap}{kvs:List (Key×V)}{vs:List (Key×Value)}(z:kvs.length<=sizeLine)(hd:(a==sysModules)=false)(rel:KV kvs vs)(dd:h'.DictOf (zZ P w) a vs):
 ObjOk P w H' h' a (.dK kvs):=⟨z,hd,vs,rel,dd⟩
theorem zlB{H':Hp}{Q:Unit->Shared->Prop}(hu:A.units+1<cLine)(I:Inv X pins σ H s)(g:DPut H a y v H')(ry:RelV y u)(rv:RelV v r)(h:∀s',Inv X pins σ H' s'->Q () s'):
 wpAny (model X.prog X.w) A (setItem (.ref a) u r) Q E s:=by
 rcases g with⟨kvs,k,e,ey,l,eH⟩|⟨kvs,k,b,e,ey,eb,l,eH⟩
 ·subst ey eH
  obtain⟨z,hd,vs,rel,dd⟩:=zkd I.hok e
  have hz:vs.length<=sizeLine:=by rw[←rel.length];exact z
  have hl:(zbz kvs k v).length<=sizeLine:=by have:=zc4 kvs k v;omega
  refine wpAny_setItem_pairs (hsz:=hz) (zj3 ry) dd λh' dd' hs=>h _ ?_
  have he:∃q,h'.get? a=some q:=let⟨q,_,_,hq,_⟩:=dd';⟨q,hq⟩
  exact zhA I (by rw[e];exact True.intro) hs he (zgc hl hd (rel.put k rv) dd')
 ·subst ey eH
  cases(show u=Value.ref b from ry)
  obtain⟨z,hd,xs,rel,dd⟩:=zro I.hok e
  have hz:xs.length<=sizeLine:=by rw[←Paired.length rel];exact z
  have hl:(zbz kvs k v).length<=sizeLine:=by have:=zc4 kvs k v;omega
  refine wpAny_setItem_heap (hsz:=hz) (tupleKind_room_in1 hu) (zjF I.hok eb) dd λh' dd' hs=>h _ ?_
  obtain⟨q,es,ep,hq,h2,h3,h4,_,h5⟩:=dd'
  refine zhA I (by rw[e];exact True.intro) hs ⟨q,hq⟩ ⟨hl,hd,_,(rel.put k eb rv).keeps λc ys ec=>?_,q,es,ep,hq,h2,h3,h4,h5⟩
  rw[zi (zbd ec e (λz=>nomatch z))]
  exact ec
end
section
variable{X:Cx}{pins:List (Addr×Obj)}{σ:St}{H:Hp}{s:Shared}{a:Addr}{kvs:List (Key×V)}{k:Key}{u:Value}{A:Around}{E:Value->Shared->Prop}
end
def zq5(i:Expr):Prop:=∀ov iv,subscripted i false ov iv=operate [ov,iv] (getItem ov iv)
theorem zon{prog:Program}{w:World}{A:Around}{E:Value->Shared->Prop}{s:Shared}{env:Env}{value slice:Expr}{pos:Pos}{T id:String}{Q:Value->Shared->Prop}
 (hl:typeLookup (.type T) "__getitem__"=pure (some (.builtin id))) (hs:zq5 slice)
 (h:wpAny (model prog w) A (eval value env) (λo s₁=>wpAny (model prog w) A (eval slice env) (λi s₂=>s₂.TypeIs o T/\wpAny (model prog w) A (getItem o i) Q E s₂) E s₁) E s):
 wpAny (model prog w) A (eval (.Subscript value slice pos) env) Q E s:=by
 refine Subscript_ (wpAny_mono h (λo s₁ h₁=>wpAny_mono h₁ (λi s₂ h₂=>?_) λ_ _ x=>x) λ_ _ x=>x)
 obtain⟨hT,h₂⟩:=h₂
 unfold subscriptTail
 refine wpAny_bind ?_
 rw[getitemInPython_of_ne hT.not_modules]
 refine wpAny_bind (wpAny_specialOf hT hl ?_)
 have fin:wpAny (model prog w) A (subscripted slice false o i) (λr s₃=>wpAny (model prog w) A (letTemporaryGo value o r>>=λ_=>pure r) Q E s₃) E s₂:=by
  rw[hs o i]
  exact wpAny_operating (wpAny_mono h₂ (λr s₃ h₃=>wpAny_bind (wpAny_letTemporaryGo (wpAny_pure h₃))) λ_ _ x=>x)
 first
  |exact wpAny_pure (wpAny_bind fin)
  |exact wpAny_bind (wpAny_pure (wpAny_bind fin))
  |exact wpAny_bind fin
theorem ziu{X:Cx}{pins:List (Addr×Obj)}{σ:St}{H:Hp}{s:Shared}{a:Addr}{y:V}{o:Option V}(I:Inv X pins σ H s)(g:DGet H a y o):s.TypeIs (.ref a) "dict":=by
 rcases g with⟨kvs,k,e,_,_⟩|⟨kvs,k,b,e,_,_,_⟩
 ·obtain ⟨_,_,vs,_,dd⟩:=zna I.hok e
  exact dd.typeIs
 ·obtain ⟨_,_,xs,_,dd⟩:=zmq I.hok e
  exact dd.typeIs
def zpM(td ty:TE):TE:=λσ H Q=>td σ H λx H1=>ty σ H1 λy H2=>∃a v,x= .ref a/\DGet H2 a y (some v)/\Q v H2
def zpn(td ty tv:TE):TS:=λD σ H=>tv σ H λv H1=>td σ H1 λx H2=>ty σ H2 λy H3=>∃a H4,x= .ref a/\DPut H3 a y v H4/\D.nx σ H4
section
variable{X:Cx}{o i e value:Expr}{pos pos' tpos:Pos}{td ty tv:TE}
theorem znT(hu:X.A.units+1<cLine)(ho:PE X o td)(hi:PE X i ty)(hs:zq5 i):PE X (.Subscript o i pos) (zpM td ty):=by
 intro pins s σ H Q I h
 refine zon PySem.F.slot_dict_getitem.lookup hs (thn (ho pins s σ H _ I h) λu s1 ⟨x,H1,I1,rx,q1⟩=>thn (hi pins s1 σ H1 _ I1 q1) λiv s2 ⟨y,H2,I2,ry,a,v,ex,g,q2⟩=>?_)
 subst ex
 obtain rfl:u=Value.ref a:=rx
 exact⟨ziu I2 g,zlE hu I2 g ry λw' s3 I3 rw'=>⟨v,H2,I3,rw',q2⟩⟩
theorem zn5(hu:X.A.units+1<cLine)(ho:PE X o td)(hi:PE X i ty)(hv:PE X value tv)(hs:swapsWith value (some (.Subscript o i pos')) pos.line X.env=pure false):
 PS X (.Assign [.Subscript o i pos'] value pos) (zpn td ty tv):=by
 intro pins s σ H D I h
 refine wpAny_Assign_Subscript (thn (hv pins s σ H _ I h) λr s1 ⟨v,H1,I1,rv,q1⟩=>thn (ho pins s1 σ H1 _ I1 q1) λu s2 ⟨x,H2,I2,rx,q2⟩=>thn (hi pins s2 σ H2 _ I2 q2) λiv s3 ⟨y,H3,I3,ry,a,H4,ex,g,q3⟩=>?_) hs
 subst ex
 obtain rfl:u=Value.ref a:=rx
 exact zlB hu I3 g ry rv λs4 I4=>⟨σ,H4,I4,q3⟩
end
theorem ziY{P:Program}{w:World}{H:Hp}(h:Heap)(hb:sysModules<h.objs.size):ObjOk P w H (h.push {cls:= .type "dict",data:= .dict #[]}) h.objs.size (.dK []):=
 ⟨Nat.zero_le _,beq_eq_false_iff_ne.mpr (Ne.symm (Nat.ne_of_lt hb)),[], .nil,Heap.DictOf.new h⟩
theorem zme{P:Program}{w:World}{H:Hp}(h:Heap)(hb:sysModules<h.objs.size):ObjOk P w H (h.push {cls:= .type "dict",data:= .dict #[]}) h.objs.size (.dT []):=
 ⟨Nat.zero_le _,beq_eq_false_iff_ne.mpr (Ne.symm (Nat.ne_of_lt hb)),[], .nil,_, #[],0,Heap.get?_push_size _ rfl,⟨rfl,rfl,rfl⟩,rfl,rfl,List.nodup_nil⟩
def znb:TE:=λ_ H Q=>∀p,H p=none->Q (.ref p) (upd H p (.dT []))
section
variable{X:Cx}{pos:Pos}
theorem zl9:PE X (.Dict [] [] pos) znb:=λpins s σ H Q I h=>
 wpAny_Dict_empty ⟨.ref s.heap.objs.size,_,I.laid (a:=s.heap.objs.size) (o:= .dT []) (t':=s.toks) (λ_ _ q=>Heap.get?_push_of_some _ q) (Nat.le_refl _) (zme s.heap I.big),rfl,h _ (I.hok.fresh (Nat.le_refl _))⟩
end
def zjU:List (TE×TE)->St->Hp->(List (V×V)->Hp->Prop)->Prop
 |[],_,H,Q=>Q [] H
 |(tk,tv)::r,σ,H,Q=>tk σ H λx H1=>tv σ H1 λy H2=>zjU r σ H2 λps H3=>Q ((x,y)::ps) H3
abbrev VV:List (V×V)->List (Value×Value)->Prop:=Paired λp q=>RelV p.1 q.1/\RelV p.2 q.2
def PPs(X:Cx)(pos:Pos)(keys:List (Option Expr))(values:List Expr)(trs:List (TE×TE)):Prop:=
 ∀(pins:List (Addr×Obj)) (s:Shared) (σ:St) (H:Hp) (Q:List (V×V)->Hp->Prop),Inv X pins σ H s->zjU trs σ H Q->
  wpAny (model X.prog X.w) X.A (evalPairs (pairTrees keys values X.env pos)) (λvs s'=>∃ps H',Inv X pins σ H' s'/\VV ps vs/\Q ps H') X.xe s
theorem zoB{X:Cx}{pos:Pos}:PPs X pos [] [] []:=λpins s σ H Q I h=>pairTrees_nil_walk ⟨[],H,I, .nil,h⟩
theorem zmU{X:Cx}{pos:Pos}{k v:Expr}{ks:List (Option Expr)}{vs:List Expr}{tk tv:TE}{trs:List (TE×TE)}(hk:PE X k tk)(hv:PE X v tv)(hr:PPs X pos ks vs trs):
 PPs X pos (some k::ks) (v::vs) ((tk,tv)::trs):=λpins s σ H Q I h=>
 pairTrees_cons_walk (thn (hk pins s σ H _ I h) λu s1 ⟨x,H1,I1,rx,q1⟩=>thn (hv pins s1 σ H1 _ I1 q1) λw2 s2 ⟨y,H2,I2,ry,q2⟩=>
  thn (hr pins s2 σ H2 _ I2 q2) λws s3 ⟨ps,H3,I3,rel,q3⟩=>⟨(x,y)::ps,H3,I3, .cons ⟨rx,ry⟩ rel,q3⟩)
def zcW(kvs more:List (Key×V)):List (Key×V):=more.foldl (λacc kv=>zbz acc kv.1 kv.2) kvs
theorem KV.merge:∀{more:List (Key×V)} {rs:List (Key×Value)} {kvs:List (Key×V)} {vs:List (Key×Value)},KV more rs->KV kvs vs->KV (zcW kvs more) (merged vs rs):=by
 intro more rs kvs vs r
 unfold KV at r
 induction r generalizing kvs vs with
 |nil=>intro q;exact q
 | @cons p q ps qs h t ih=>
   intro r0
   have e:KV (zbz kvs p.1 p.2) (stored vs q.1 q.2):=by
    have:=r0.put p.1 h.2
    rw[←h.1];exact this
   exact ih e
theorem zdE:∀(more kvs:List (Key×V)),(zcW kvs more).length<=kvs.length+more.length
 |[],kvs=>by show kvs.length<=kvs.length+0;omega
 |p::r,kvs=>by
  have h1:=zdE r (zbz kvs p.1 p.2)
  have h2:=zc4 kvs p.1 p.2
  show(zcW (zbz kvs p.1 p.2) r).length<=_
  rw[List.length_cons];omega
theorem zfA{P:Program}{w:World}:∀{kvs:List (Key×V)} {ws:List (Value×Value)},VV (kvs.map λkv=>(kV kv.1,kv.2)) ws->∃rs,Carries (zZ P w) ws rs/\KV kvs rs
 |[],_,r=>by rw[List.map_nil] at r;cases r;exact⟨[],True.intro, .nil⟩
 |p::kvs,_,r=>by
  rw[List.map_cons] at r
  cases r with
  | @cons a b as bs h t=>
    obtain⟨rs,c,q⟩:=zfA (P:=P) (w:=w) t
    obtain⟨b1,b2⟩:=b
    exact⟨(p.1,b2)::rs,⟨zj3 h.1,rfl,c⟩, .cons ⟨rfl,h.2⟩ q⟩
def zpl(trs:List (TE×TE)):TE:=λσ H Q=>∀p,H p=none->zjU trs σ (upd H p (.dK [])) λps H2=>H2 p=some (.dK [])/\∃kvs:List (Key×V),ps=kvs.map (λkv=>(kV kv.1,kv.2))/\kvs.length<=15/\Q (.ref p) (upd H2 p (.dK (zcW [] kvs)))
theorem zo9{X:Cx}{pos:Pos}{keys:List (Option Expr)}{values:List Expr}{trs:List (TE×TE)}(h:PPs X pos keys values trs)(hall:keys.all (·.isSome)=true)(hl:keys.length=values.length)(h0:keys≠ [])
 (h15:keys.length<=15):PE X (.Dict keys values pos) (zpl trs):=by
 intro pins s σ H Q I q
 have hn:=I.hok.fresh (Nat.le_refl s.heap.objs.size)
 have I1:=I.laid (a:=s.heap.objs.size) (o:= .dK []) (h':=s.heap.push {cls:= .type "dict",data:= .dict #[]}) (t':=s.toks) (λ_ _ q=>Heap.get?_push_of_some _ q) (Nat.le_refl _) (ziY s.heap I.big)
 refine wpAny_Dict_walk (knd:=zZ X.prog X.w) hall hl h0 h15 (thn (h pins _ σ _ _ I1 (q _ hn)) λws s2 ⟨ps,H2,I2,rel,e,kvs,ep,lk,q2⟩=>?_)
 subst ep
 obtain⟨rs,c,rk⟩:=zfA (P:=X.prog) (w:=X.w) rel
 obtain⟨z,hd,vs0,r0,dd⟩:=zkd I2.hok e
 cases r0
 refine⟨rs,c,dd,λh' dd' hs=>⟨.ref s.heap.objs.size,_,?_,rfl,q2⟩⟩
 have hz:(zcW [] kvs).length<=sizeLine:=by
  have h1:=zdE kvs []
  rw[List.length_nil] at h1
  rw[sizeLine_eq];omega
 have he:∃q,h'.get? s.heap.objs.size=some q:=let⟨q,_,_,hq,_⟩:=dd';⟨q,hq⟩
 exact zhA I2 (by rw[e];exact True.intro) hs he (zgc hz hd (rk.merge .nil) dd')
structure M1(X:Cx)(o:Expr)(m:Str)(apos:Pos)(e:Expr)(cpos:Pos):Prop where
 base:attributeBase o m X.env (eval o X.env)=eval o X.env
 few:((backTo cpos (starEach [e] X.env)).all (λx=>!x.1)&&(backToKw cpos (keywordEach [] X.env)).all (λx=>x.1.isSome)
  &&decide (([e]:List Expr).length+([]:List Keyword).length+(if([]:List Keyword).isEmpty then 0 else 1)<30))=true
 line:(apos.endLine==cpos.line)=true
 trees:backTo cpos (starEach [e] X.env)=[(false,eval e X.env)]
structure M2(X:Cx)(o:Expr)(m:Str)(apos:Pos)(e f:Expr)(cpos:Pos):Prop where
 base:attributeBase o m X.env (eval o X.env)=eval o X.env
 few:((backTo cpos (starEach [e,f] X.env)).all (λx=>!x.1)&&(backToKw cpos (keywordEach [] X.env)).all (λx=>x.1.isSome)
  &&decide (([e,f]:List Expr).length+([]:List Keyword).length+(if([]:List Keyword).isEmpty then 0 else 1)<30))=true
 line:(apos.endLine==cpos.line)=true
 trees:backTo cpos (starEach [e,f] X.env)=[(false,eval e X.env),(false,eval f X.env)]
section
variable{X:Cx}{pins:List (Addr×Obj)}{σ:St}{H:Hp}{s:Shared}{a:Addr}{y d:V}{u r:Value}{o:Option V}{A:Around}{E:Value->Shared->Prop}
end
section
variable{X:Cx}{o e f:Expr}{apos cpos:Pos}{td ty tx:TE}
end
section
variable{X:Cx}{pins:List (Addr×Obj)}{σ:St}{H:Hp}{s:Shared}{a:Addr}{kvs:List (Key×V)}{A:Around}{E:Value->Shared->Prop}
end
section
variable{X:Cx}{pins:List (Addr×Obj)}{σ:St}{H:Hp}{s:Shared}{a:Addr}{y:V}{u:Value}{A:Around}{E:Value->Shared->Prop}
end
section
variable{X:Cx}
theorem zgQ:OpR X (compareOp .LtE) (λx y H Q=>∃i j,x= .str i/\y= .str j/\Q (.bl (!decide (j.cps.toList<i.cps.toList))) H):=by
 intro pins s σ H x y v u Q I rx ry h
 obtain⟨i,j,rfl,rfl,q⟩:=h
 obtain⟨t,rfl⟩:=rx
 obtain⟨t',rfl⟩:=ry
 exact PySem.P.le_str (zF I q rfl)
theorem zj1:∀{bs:List Bool} {us:List Value} {i:Nat} {v:Value},Vals (bs.map V.bl) us->us[i]?=some v->∃b,bs[i]?=some b/\v= .bool b
 |[],_,_,_, .nil,e=>by simp at e
 |b::bs,_,0,v, .cons r _,e=>by
  simp at e
  subst e
  exact⟨b,rfl,r⟩
 |b::bs,_,i+1,v, .cons _ t,e=>by
  obtain⟨c,h1,h2⟩:=zj1 (i:=i) t (by simpa using e)
  exact⟨c,by simpa using h1,h2⟩
def atB(bs:List Bool)(j:Nat):Bool:=match bs[j]? with|some b=>b|none=>true
theorem zhb(bs:List Bool):(List.range bs.length).all (atB bs)=bs.all id:=by
 refine Eq.trans ?_ (PyProof.Rows.all_rangeD bs (id:Bool->Bool))
 congr 1
 funext j
 unfold atB
 cases bs[j]?<;>rfl
theorem zcg{X:Cx}(hc:X.calm=true):CallR X (.builtin "all") (λxs H Q=>∃(p:Addr) (bs:List Bool),xs=[.ref p]/\SqL X.K H p (bs.map V.bl)/\Q (.bl (bs.all id)) H):=by
 intro pins s σ H xs us Q I r h
 obtain⟨p,bs,rfl,hq,q⟩:=h
 obtain⟨u,rfl,ru⟩:=zck r
 cases ru
 obtain⟨its,rv,pl,hz⟩:=I.list hq
 have hp:p≠s.heap.objs.size:=Nat.ne_of_lt pl.lt
 refine call_all_walk (wpAny_pyIter_list pl.isList ?_)
 refine⟨s.heap.objs.size,_,_,_,_,_,atB bs,rfl,Walks.list (A:=X.A.in1) (show X.A.in1.handled=none from I.ok.hd hc) _ p hp its.toArray,⟨⟨_,Heap.get?_push_size _ rfl,rfl,rfl⟩,?_⟩,?_,λh' tk hk=>?_⟩
 ·obtain ⟨o,n,e,c,_,d⟩:=pl
  exact⟨o,Heap.get?_push_of_some _ e,c,n,d⟩
 ·intro i v s' Q' E' hP hQ
  obtain⟨b,h1,rfl⟩:=zj1 (i:=i) (v:=v) rv (by simpa using hP)
  refine wpAny_truthy_bool ?_
  have e:atB bs i=b:=by unfold atB;rw[h1]
  rw[e] at hQ
  exact hQ
 ·have hl:its.toArray.size=bs.length:=by
   have:=rv.length
   simp at this
   simp[this]
  rw[hl,zhb]
  refine⟨.bl (bs.all id),H,I.kept λb o e=>hk b o ?_ (Heap.get?_push_of_some _ e),rfl,q⟩
  intro z
  have:b=s.heap.objs.size:=by simpa using z
  exact absurd (Heap.lt_size e) (by rw[this];exact Nat.lt_irrefl _)
theorem zbA:∀{ys:List Str} {us:List Value},Vals (ys.map V.str) us->StrsAre us ys
 |[],_, .nil=>by first|exact .nil|trivial
 |y::ys,_, .cons r t=>by
  obtain⟨k,rfl⟩:=r
  first
   |exact .cons _ _ (zbA t)
   |exact .cons (zbA t)
   |exact⟨⟨k,rfl⟩,zbA t⟩
def zf2(z:Str)(n:Nat):Str:=⟨(List.replicate n z.cps).foldl (·++·) #[]⟩
theorem zjt:OpR X (binaryOp .Mult) (λx y H Q=>∃z n,x= .str z/\y= .int n/\1<n/\n<=1000/\0<z.length/\z.length<=1000/\Q (.str (zf2 z n.toNat)) H):=by
 intro pins s σ H x y v u Q I rx ry h
 obtain⟨z,n,rfl,rfl,h1,h2,h3,h4,q⟩:=h
 obtain⟨t,rfl⟩:=rx
 obtain⟨t',rfl⟩:=ry
 have e1:¬n<1:=by omega
 have e2:(n==1||z.length==0)=false:=by
  have a:(n==1)=false:=beq_eq_false_iff_ne.mpr (by omega)
  have b:(z.length==0)=false:=beq_eq_false_iff_ne.mpr (by omega)
  rw[a,b];rfl
 have hz:z.length*n.toNat<=1000*1000:=Nat.mul_le_mul h4 (by omega)
 refine PySem.P.mul_str ?_ (λ_ _=>?_) (λ_ _=>?_) ?_
 ·have a:decide (n< -(2^63:Int))=false:=decide_eq_false (by omega)
  have b:decide (n≥2^63)=false:=decide_eq_false (by omega)
  rw[a,b];rfl
 ·have hd:(1000:Int)<=(2^63 -1)/n:=by
   apply Int.le_ediv_of_mul_le (by omega)
   omega
  omega
 ·have hb:z.length*n.toNat<=sizeLine:=Nat.le_trans hz (by decide)
  unfold Builtin.Str.tooLong
  exact decide_eq_false (by omega)
 ·rw[if_neg e1,e2]
  simp only[Bool.false_eq_true,if_false]
  refine⟨?_,⟨.str _,H,I.tok _,⟨_,rfl⟩,q⟩⟩
  have key:∀(k:Nat) (acc:Array Nat),((List.replicate k z.cps).foldl (·++·) acc).size=acc.size+k*z.cps.size:=by
   intro k
   induction k with
   |zero=>intro acc;simp
   |succ k ih=>intro acc;rw[List.replicate_succ,List.foldl_cons,ih,Array.size_append,Nat.succ_mul];omega
  have hk:=key n.toNat #[]
  have hz':n.toNat *z.cps.size<=1000*1000:=Nat.mul_le_mul (by omega) h4
  have hsl:1000*1000<=sizeLine:=by decide
  show((List.replicate n.toNat z.cps).foldl (·++·) #[]).size<=sizeLine
  rw[hk]
  simp only[Array.size_empty]
  omega
theorem zf4:CallR X (.builtin "isinstance") (λxs H Q=>∃x T t b,xs=[x, .ty T]/\TyOf X.K H x t/\PySem.W.kitOne X.K t (.type T)=some b/\Q (.bl b) H):=by
 intro pins s σ H xs us Q I r h
 obtain⟨x,T,t,b,rfl,ht,hk,q⟩:=h
 obtain⟨u,w',rfl,ru,rw'⟩:=zdM r
 cases rw'
 exact zlj I ru ht hk λtk=>⟨.bl b,H,I.tok _,rfl,q⟩
def Its(x:Str):It:=⟨λi _=>i<x.length,λi H y H'=>H'=H/\∃c,x.cps[i]?=some c/\y= .str ⟨#[c]⟩,λi _=>x.length<=i⟩
theorem zlL{P:Program}{w:World}{K:PySem.W.Frag}{tg:Expr}(x:Str)(t:Tok)(it:Addr):Turn P w K tg (Its x) [it] it (λi h=>h.IsStrIter it "str_ascii_iterator" x t i) where
 mem:=by simp
 obj:=λi h st b hb=>by
  have e:b=it:=by simpa using hb
  subst e
  obtain⟨o,e,c,d⟩:=st
  exact⟨o,e,λv z=>by rw[d] at z;cases z⟩
 keep:=λi h h' st k=>by
  obtain⟨o,e,r⟩:=st
  exact⟨o,k it (by simp) o e,r⟩
 item:=by
  intro X hP hw hK hc i pins s σ H E I hf st hg
  subst hP hw hK
  have hi:i<x.cps.size:=hg
  obtain⟨f0,f1,f2,f3,f4,f5⟩:=hf it (by simp)
  refine wpAny_pyNext_ascii_item st (c:=x.cps[i]) (by simp[hi]) λh' st' sb=>?_
  have I1:Inv X pins σ H {s with heap:=h',toks:=s.toks+1}:=I.turned (t':=s.toks+1) (λb o hb e=>(sb.2 b hb).trans e) f0 f1 f3 f4 f5
  obtain⟨o,e,c,d⟩:=id st'
  exact⟨_,rfl,zgV (s:={s with heap:=h',toks:=s.toks+1}) e c d (by decide) ⟨.str ⟨#[x.cps[i]]⟩,H,I1,⟨_,rfl⟩,⟨rfl,x.cps[i],by simp[hi],rfl⟩,st',λb hb=>(hf b hb).1⟩⟩
 done:=by
   intro X hP hw hK hc i pins s σ H E I hf st hg
   subst hP hw hK
   have hi:x.cps.size<=i:=hg
   obtain⟨f0,f1,f2,f3,f4,f5⟩:=hf it (by simp)
   exact wpAny_pyNext_ascii_end (I.ok.hd hc) st (by simp[hi]) λh' eb=>⟨rfl,I.turned (t':=s.toks) (λb o hb e=>eb b o hb e) f0 f1 f3 f4 f5⟩
 self:=λ_ _ _ _ _ st h=>wpAny_pyIter_striter_ascii st h
theorem zlp{P:Program}{w:World}{K:PySem.W.Frag}{tg:Expr}(x:Str)(t:Tok)(it:Addr):Turn P w K tg (Its x) [it] it (λi h=>h.IsStrIter it "str_iterator" x t i) where
 mem:=by simp
 obj:=λi h st b hb=>by
  have e:b=it:=by simpa using hb
  subst e
  obtain⟨o,e,c,d⟩:=st
  exact⟨o,e,λv z=>by rw[d] at z;cases z⟩
 keep:=λi h h' st k=>by
  obtain⟨o,e,r⟩:=st
  exact⟨o,k it (by simp) o e,r⟩
 item:=by
  intro X hP hw hK hc i pins s σ H E I hf st hg
  subst hP hw hK
  have hi:i<x.cps.size:=hg
  obtain⟨f0,f1,f2,f3,f4,f5⟩:=hf it (by simp)
  refine wpAny_pyNext_wide_item st (c:=x.cps[i]) (by simp[hi]) λh' st' sb=>?_
  have I1:Inv X pins σ H {s with heap:=h',toks:=s.toks+1}:=I.turned (t':=s.toks+1) (λb o hb e=>(sb.2 b hb).trans e) f0 f1 f3 f4 f5
  obtain⟨o,e,c,d⟩:=id st'
  exact⟨_,rfl,zgV (s:={s with heap:=h',toks:=s.toks+1}) e c d (by decide) ⟨.str ⟨#[x.cps[i]]⟩,H,I1,⟨_,rfl⟩,⟨rfl,x.cps[i],by simp[hi],rfl⟩,st',λb hb=>(hf b hb).1⟩⟩
 done:=by
   intro X hP hw hK hc i pins s σ H E I hf st hg
   subst hP hw hK
   have hi:x.cps.size<=i:=hg
   obtain⟨f0,f1,f2,f3,f4,f5⟩:=hf it (by simp)
   exact wpAny_pyNext_wide_end (I.ok.hd hc) st (by simp[hi]) λh' eb=>⟨rfl,I.turned (t':=s.toks) (λb o hb e=>eb b o hb e) f0 f1 f3 f4 f5⟩
 self:=λ_ _ _ _ _ st h=>wpAny_pyIter_striter_wide st h
def zrr(tl:TE):TI:=λσ H R=>tl σ H λy H1=>∃x,y= .str x/\R (Its x) H1
theorem zq3{tg l:Expr}{tl:TE}(hl:PE X l tl):PI X tg l (zrr tl):=by
 intro pins s σ H R I h
 refine thn (hl pins s σ H _ I h) λv s1 ⟨y,H1,I1,r1,q1⟩=>?_
 obtain⟨x,rfl,q⟩:=q1
 obtain⟨t,rfl⟩:=r1
 cases ha:x.cps.all (·<128)
 ·refine wpAny_pyIter_wide ha ⟨s1.heap.objs.size,[s1.heap.objs.size],_,_,H1,rfl,I1.kept (t':=s1.toks) λb o e=>Heap.get?_push_of_some _ e,zlp x t _,⟨_,Heap.get?_push_size _ rfl,rfl,rfl⟩,λb hb=>?_,q⟩
  have e:b=s1.heap.objs.size:=by simpa using hb
  subst e
  exact I1.fpOk (Nat.le_refl _) (I1.hok.fresh (Nat.le_refl _))
 ·refine wpAny_pyIter_ascii ha ⟨s1.heap.objs.size,[s1.heap.objs.size],_,_,H1,rfl,I1.kept (t':=s1.toks) λb o e=>Heap.get?_push_of_some _ e,zlL x t _,⟨_,Heap.get?_push_size _ rfl,rfl,rfl⟩,λb hb=>?_,q⟩
  have e:b=s1.heap.objs.size:=by simpa using hb
  subst e
  exact I1.fpOk (Nat.le_refl _) (I1.hok.fresh (Nat.le_refl _))
theorem zaD:bootBuiltins "len"=some (.builtin "len"):=by decide +kernel
theorem zev:bootBuiltins "all"=some (.builtin "all"):=by decide +kernel
theorem zcx:bootBuiltins "isinstance"=some (.builtin "isinstance"):=by decide +kernel
theorem zg9:bootBuiltins "max"=some (.builtin "max"):=by decide +kernel
theorem zfL:bootBuiltins "min"=some (.builtin "min"):=by decide +kernel
theorem zaY:bootBuiltins "sorted"=some (.builtin "sorted"):=by decide +kernel
theorem zhK:bootBuiltins "int"=some (.type "int"):=by decide +kernel
theorem zp2:bootBuiltins "str"=some (.type "str"):=by decide +kernel
theorem za3:bootBuiltins "tuple"=some (.type "tuple"):=by decide +kernel
theorem zol:bootBuiltins "bool"=some (.type "bool"):=by decide +kernel
theorem few{α:Type}{xs:List α}(h:Nat.ble xs.length 1000=true):xs.length<=sizeLine:=Nat.le_of_lt (zk (Nat.le_of_ble_eq_true h))
def zeL:Expr->Option V
 | .Constant (.str x) _ _=>some (.str x)
 | .Constant (.int i) _ _=>some (.int i)
 | .Constant (.bool b) _ _=>some (.bl b)
 | .Constant .none _ _=>some .non
 |_=>none
theorem zni{e:Expr}{v:V}(h:zeL e=some v):PE X e (tC v)/\∀es,starEach (e::es) X.env=(false,eval e X.env)::starEach es X.env:=by
 cases e with
 |Constant c j pos=>
  cases c with
  |str x=>cases h;exact⟨znz,λ_=>rfl⟩
  |int x=>cases h;exact⟨znD,λ_=>rfl⟩
  |bool x=>cases h;exact⟨zpV,λ_=>rfl⟩
  |none=>cases h;exact⟨zl4,λ_=>rfl⟩
  |_=>cases h
 |_=>cases h
def zr1(vs:List V):TA:=λ_ H Q=>Q vs H
theorem zea:∀{es:List Expr} {vs:List V},es.mapM zeL=some vs->PA X es (zr1 vs)
 |[],vs,h=>by
  have e:vs=[]:=by simpa using h.symm
  subst e
  exact znC
 |e::es,vs,h=>by
  rw[List.mapM_cons] at h
  cases h1:zeL e with
  |none=>rw[h1] at h;cases h
  |some v=>
   rw[h1] at h
   cases h2:es.mapM zeL with
   |none=>rw[h2] at h;cases h
   |some us=>
    rw[h2] at h
    have e1:v::us=vs:=Option.some.inj h
    subst e1
    obtain⟨p,st⟩:=zni (X:=X) h1
    have q:=zkq p (zea (es:=es) h2) (st es)
    exact q
def zpU(vs:List V):TE:=λ_ H Q=>vs.length<=sizeLine/\∀p,H p=none->Q (.ref p) (upd H p (.lst vs))
theorem zop(vs:List V){es:List Expr}{pos:Pos}(h:es.mapM zeL=some vs):PE X (.List es pos) (zpU vs):=zm8 (zea h)
end
structure Wk(J:It)(n:Nat)(P:Nat->V->Prop)(ok:Hp->Prop):Prop where
 stop:∀i H,ok H->n<=i->J.stop i H
 go:∀i H,ok H->i<n->J.go i H
 yld:∀i H x H',ok H->i<n->J.yld i H x H'->H'=H/\P i x
theorem zbK{K:PySem.W.Frag}{a:Addr}{xs:List V}:Wk (Itl K a) xs.length (λi x=>xs[i]?=some x) (λH=>SqL K H a xs) where
 stop:=λi H h l=>⟨xs,h,l⟩
 go:=λi H h l=>⟨xs,xs[i],h,by simp[l]⟩
 yld:=λi H x H' h l y=>⟨y.1,y.2 xs h⟩
theorem zaf{K:PySem.W.Frag}{a:Addr}{xs:List V}:Wk (Itt K a) xs.length (λi x=>xs[i]?=some x) (λH=>SqT K H a xs) where
 stop:=λi H h l=>⟨xs,h,l⟩
 go:=λi H h l=>⟨xs,xs[i],h,by simp[l]⟩
 yld:=λi H x H' h l y=>⟨y.1,y.2 xs h⟩
theorem zb2{lo:Int}{n:Nat}:Wk (Itr lo n) n (λi x=>x= .int (lo+i)) (λ_=>True) where
 stop:=λi H h l=>l
 go:=λi H h l=>l
 yld:=λi H x H' h l y=>y
theorem zqc{x:Str}:Wk (Its x) x.length (λi y=>∃c,x.cps[i]?=some c/\y= .str ⟨#[c]⟩) (λ_=>True) where
 stop:=λi H h l=>l
 go:=λi H h l=>l
 yld:=λi H x H' h l y=>y
theorem zX{J:It}{n:Nat}{P:Nat->V->Prop}{ok:Hp->Prop}{g:TG}{tc:TT}{te:TE}{src:List (Option Nat)}{σ:St}{H1:Hp}{Q:VK}(wk:Wk J n P ok)(Pv:Addr->Nat->List V->St->Hp->Prop)
 (h0:∀l,H1 l=none->Pv l 0 [] (zfX src σ) (upd H1 l (.lst []))) (hok:∀l i ys σ H,H1 l=none->Pv l i ys σ H->ok H)
 (hs:∀l i x ys σ H,H1 l=none->i<n->P i x->Pv l i ys σ H->H l=some (.lst ys)->g x σ H λσ2 H3=>tc σ2 H3 λb H4=>
   if b=true then te σ2 H4 λy H5=>H5 l=some (.lst ys)/\ys.length<sizeLine/\Pv l (i+1) (ys ++ [y]) σ2 (upd H5 l (.lst (ys ++ [y])))else H4 l=some (.lst ys)/\Pv l (i+1) ys σ2 H4)
 (hd:∀l ys σ H,H1 l=none->Pv l n ys σ H->H l=some (.lst ys)->Q (.ref l) H):
 zd0 g tc te src σ Q J H1:=by
 intro l hl
 refine⟨λi m ys σ H=>m=n -i/\i<=n/\Pv l i ys σ H,⟨n,by simp,Nat.zero_le _,h0 l hl⟩,?_⟩
 rintro i m ys σ' H' ⟨rfl,hi,p⟩ hl'
 by_cases hlt:i<n
 ·refine .inr ⟨wk.go i H' (hok l i ys σ' H' hl p) hlt,Pv l (i+1),λzs σ2 H2 q=>⟨n -(i+1),by omega,rfl,hlt,q⟩,λx H2 y=>?_⟩
  obtain⟨rfl,px⟩:=wk.yld i H' x H2 (hok l i ys σ' H' hl p) hlt y
  exact hs l i x ys σ' _ hl hlt px p hl'
 ·have e:i=n:=by omega
  subst e
  exact .inl ⟨wk.stop _ _ (hok l _ ys σ' H' hl p) (Nat.le_refl _),hd l ys σ' H' hl p hl'⟩
theorem zae{J:It}{n:Nat}{P:Nat->V->Prop}{ok:Hp->Prop}{g:TG}{tb:TS}{D:Ends}{σ:St}{H:Hp}(wk:Wk J n P ok)(Pv:Nat->St->Hp->Prop)(h0:Pv 0 σ H)(hok:∀i σ H,Pv i σ H->ok H)
 (hs:∀i x σ H,i<n->P i x->Pv i σ H->g x σ H λσ2 H2=>tb {D with nx:=Pv (i+1),ct:=Pv (i+1),bk:=D.nx} σ2 H2) (hd:∀σ H,Pv n σ H->D.nx σ H):
 zpz g tb D σ J H:=by
 refine⟨λi m σ H=>m=n -i/\i<=n/\Pv i σ H,⟨n,by simp,Nat.zero_le _,h0⟩,?_⟩
 rintro i m σ H ⟨rfl,hi,p⟩
 by_cases hlt:i<n
 ·refine .inr ⟨wk.go i H (hok i σ H p) hlt,Pv (i+1),λσ' H' q=>⟨n -(i+1),by omega,rfl,hlt,q⟩,λx H' y=>?_⟩
  obtain⟨rfl,px⟩:=wk.yld i H x H' (hok i σ H p) hlt y
  exact hs i x σ _ hlt px p
 ·have e:i=n:=by omega
  subst e
  exact .inl ⟨wk.stop _ _ (hok _ σ H p) (Nat.le_refl _),hd σ H p⟩
structure QE(X:Cx)(e:Expr)(t:TE):Prop where o:PE X e t
structure QT(X:Cx)(e:Expr)(t:TT):Prop where o:PT X e t
structure QW(X:Cx)(e:Expr)(t:TT):Prop where o:PW X e t
structure QA(X:Cx)(es:List Expr)(t:TA):Prop where o:PA X es t
structure QS(X:Cx)(s:Stmt)(t:TS):Prop where o:PS X s t
structure QB(X:Cx)(s:List Stmt)(t:TS):Prop where o:PSs X s t
structure QI(X:Cx)(tg iter:Expr)(t:TI):Prop where o:PI X tg iter t
structure QG(X:Cx)(tg:Expr)(t:TG):Prop where o:PG X tg t
structure QGs(X:Cx)(tg:List Expr)(t:TGs):Prop where o:PGs X tg t
structure QF(X:Cx)(ifs:List Expr)(t:TT):Prop where o:PIf X ifs t
structure QO(X:Cx)(e:Option Expr)(t:TO):Prop where o:PO X e t
structure QPs(X:Cx)(pos:Pos)(keys:List (Option Expr))(values:List Expr)(trs:List (TE×TE)):Prop where o:PPs X pos keys values trs
section
variable{X:Cx}{a b c e o i:Expr}{es:List Expr}{ta tb tc te to ti:TE}{t u:TA}{pos p apos cpos:Pos}{j:Nat}{x:Str}{sa sb:TS}{q q':TT}{rest:List Expr}
theorem qv(i:Nat){x:Str}{pos:Pos}(hN:X.N[i]?=some x:=by rfl)(hv:Vis X.env.scope x:=by exact Or.inl rfl)(hd:(x==("__debug__":Str))=false:=by decide)
 (hcd:(x==("__classdict__":Str))=false:=by decide):QE X (.Name x pos) (zlT i):=⟨zmQ hN hv hd hcd⟩
theorem qc(i:Nat){x:Str}{pos:Pos}(hN:X.N[i]?=some x:=by rfl)(hv:X.env.scope.names.lookup x=some .cell:=by rfl)(hd:(x==("__debug__":Str))=false:=by decide)
 (hcd:(x==("__classdict__":Str))=false:=by decide):QE X (.Name x pos) (zlT i):=⟨zmQ hN (.inr (.inl hv)) hd hcd⟩
theorem zf{k:Int}:QE X (.Constant (.int k) j pos) (tC (.int k)):=⟨znD⟩
theorem zaq{k:Str}:QE X (.Constant (.str k) j pos) (tC (.str k)):=⟨znz⟩
theorem zc5{k:Bool}:QE X (.Constant (.bool k) j pos) (tC (.bl k)):=⟨zpV⟩
theorem zaJ:QE X (.Constant .none j pos) (tC .non):=⟨zl4⟩
theorem zl0{v:V}{u:Value}(hm:X.mg x=some u)(r:RelV v u)(hg:Gl X x:=by rfl)(hd:(x==("__debug__":Str))=false:=by decide):QE X (.Name x pos) (tC v):=⟨zn2 hg hm r hd⟩
theorem zqo{T:String}(hm:X.mg x=none)(hv:bootBuiltins x=some (.type T))(hg:Gl X x:=by rfl)(hn:x≠"__name__":=by decide)(hd:(x==("__debug__":Str))=false:=by decide):QE X (.Name x pos) (tC (.ty T)):=⟨zoN hg hm hv rfl hn hd⟩
theorem zL{op:Operator}{r:R2}(ho:OpR X (binaryOp op) r)(ha:QE X a ta)(hb:QE X b tb):QE X (.BinOp a op b pos) (tOp r ta tb):=⟨zrs ho ha.o hb.o⟩
theorem zml{op:UnaryOp}{r:V->Hp->VK->Prop}(ho:UnR X (unaryOp op) r)(ha:QE X a ta):QE X (.UnaryOp op a pos) (tUn r ta):=⟨zrj ho ha.o⟩
theorem zb5{op:CmpOp}{r:R2}(ho:OpR X (compareOp op) r)(ha:QE X a ta)(hb:QE X b tb)(hm:behindInMarks op b=false:=by rfl):QE X (.Compare a [op] [b] pos) (tOp r ta tb):=⟨zpd ho ha.o hb.o hm⟩
theorem zy{op:CmpOp}{r:R2}(ho:OpR X (compareOp op) r)(ha:QE X a ta)(hb:QE X b tb)(hm:behindInMarks op b=false:=by rfl):QT X (.Compare a [op] [b] pos) (zkz (tOp r ta tb)):=⟨zpa ho ha.o hb.o hm⟩
theorem zj4{op op':CmpOp}{r r':R2}(ho:OpR X (compareOp op) r)(ho':OpR X (compareOp op') r')(ha:QE X a ta)(hb:QE X b tb)(hc:QE X c tc)
 (hm:lastMarks [op,op'] [b,c]=false:=by with_unfolding_all rfl):QE X (.Compare a [op,op'] [b,c] pos) (zhy r r' ta tb tc):=⟨znr ho ho' ha.o hb.o hc.o hm⟩
theorem znZ{op op':CmpOp}{r r':R2}(ho:OpR X (compareOp op) r)(ho':OpR X (compareOp op') r')(ha:QE X a ta)(hb:QE X b tb)(hc:QE X c tc)
 (hm:lastMarks [op,op'] [b,c]=false:=by with_unfolding_all rfl):QT X (.Compare a [op,op'] [b,c] pos) (zkz (zhy r r' ta tb tc)):=⟨zmo ho ho' ha.o hb.o hc.o hm⟩
theorem zkH{op:BoolOp}(h:QE X a ta):QE X (.BoolOp op [a] pos) ta:=⟨zqq h.o⟩
theorem zkO(ha:QE X a ta)(hb:QE X (.BoolOp .And (b::rest) pos) tb):QE X (.BoolOp .And (a::b::rest) pos) (zpJ ta tb):=⟨zqN ha.o hb.o⟩
theorem zpD(ha:QE X a ta):QE X (.UnaryOp .Not a pos) (zpI ta):=⟨zqt ha.o⟩
theorem zoo(hc:QT X c q)(ha:QE X a ta)(hb:QE X b tb):QE X (.IfExp c a b pos) (tIf q ta tb):=⟨zma hc.o ha.o hb.o⟩
theorem znx(ha:QT X a q):QW X (.BoolOp .And [a] pos) q:=⟨zom ha.o⟩
theorem zfQ(ha:QT X a q):QW X (.BoolOp .Or [a] pos) q:=⟨zqK ha.o⟩
theorem znE(ha:QT X a q)(hb:QW X (.BoolOp .And (b::rest) pos) q'):QW X (.BoolOp .And (a::b::rest) pos) (zra q q'):=⟨zpY ha.o hb.o⟩
theorem zjb(ha:QT X a q)(hb:QW X (.BoolOp .Or (b::rest) pos) q'):QW X (.BoolOp .Or (a::b::rest) pos) (tOr q q'):=⟨zrp ha.o hb.o⟩
theorem t_w(h:QW X a q):QT X a q:=⟨h.o.pt⟩
theorem zdO(ha:QT X a q):QT X (.UnaryOp .Not a pos) (zq9 q):=⟨zqT ha.o⟩
theorem zcM(h:QE X e te)(he:∀whole,isTrue e X.env whole=(do let v ←whole;standAt e.pos;holding [v] (truthy v)):=by intro _;rfl):QT X e (tB te):=⟨zqV h.o he⟩
theorem znU(h:QE X e te)(he:∀whole,isTrue e X.env whole=(do let v ←whole;standAt e.pos;holding [v] (truthy v)):=by intro _;rfl):QT X e (λσ H Q=>te σ H λx H'=>∃k,zqM X.K x H' k/\Q k H'):=⟨zmC h.o he⟩
theorem zd:QA X [] zqE:=⟨znC⟩
theorem za(ha:QE X e te)(hr:QA X es t)(hs:starEach (e::es) X.env=(false,eval e X.env)::starEach es X.env:=by rfl):QA X (e::es) (zkD te t):=⟨zkq ha.o hr.o hs⟩
theorem zR{k:Nat}(h:QA X es t):QE X (.Tuple es k pos) (zrG t):=⟨zqz h.o⟩
theorem zb0(h:QA X es t):QE X (.List es pos) (zp9 t):=⟨zm8 h.o⟩
theorem zeR(vs:List V)(h:es.mapM zeL=some vs):QE X (.List es pos) (zpU vs):=⟨zop vs h⟩
theorem zh{CX:CXT}{k:Nat}{f:Addr}{fd:FuncData}{ps:List Str}{sp:Sp}{dvs:List V}{ds:List Value}{E:XK}(F:FnOk X.prog X.w X.K X.mg X.base CX k f fd ps sp)(hr:Room k X.A)(hm:X.mg x=some (.ref f))(hk:PySem.W.keepIn X.K (.ref f)=true)(hb:Binds X.K fd ps ds)(hd:Vals dvs ds)(hx:zg6 CX X E)
 (ha:QA X (e::es) t) (hg:Gl X x:=by rfl) (hdb:(x==("__debug__":Str))=false:=by decide) (he:starEach (e::es) X.env=(false,eval e X.env)::starEach es X.env:=by rfl) (hpl:(backTo pos (starEach es X.env)).any (·.1)=false:=by rfl):
 QE X (.Call (.Name x p) (e::es) [] pos) (zpQ sp dvs E t):=⟨zof F hr hg hm hk hb hd hx ha.o hdb he hpl⟩
theorem zq{id:String}{r:List V->Hp->VK->Prop}(hc:CallR X (.builtin id) r)(hm:X.mg x=none)(hv:bootBuiltins x=some (.builtin id))(ha:QA X (e::es) t)(hg:Gl X x:=by rfl)(hn:x≠"__name__":=by decide)(hdb:(x==("__debug__":Str))=false:=by decide)
 (he:starEach (e::es) X.env=(false,eval e X.env)::starEach es X.env:=by rfl) (hpl:(backTo pos (starEach es X.env)).any (·.1)=false:=by rfl):QE X (.Call (.Name x p) (e::es) [] pos) (tCB r t):=⟨znd hc hg hm hv ha.o hn hdb he hpl⟩
theorem zU{T:String}{r:List V->Hp->VK->Prop}(hc:CallR X (.type T) r)(hm:X.mg x=none)(hv:bootBuiltins x=some (.type T))(ha:QA X (e::es) t)(hg:Gl X x:=by rfl)(hn:x≠"__name__":=by decide)(hdb:(x==("__debug__":Str))=false:=by decide)
 (he:starEach (e::es) X.env=(false,eval e X.env)::starEach es X.env:=by rfl) (hpl:(backTo pos (starEach es X.env)).any (·.1)=false:=by rfl):QE X (.Call (.Name x p) (e::es) [] pos) (tCB r t):=⟨zk0 hc hg hm hv ha.o hn hdb he hpl⟩
theorem zN{r:R2}(hr:IxR X r)(ha:QE X a ta)(hb:QE X b tb)(hs:zkB b:=by exact λ_ _=>rfl):QE X (.Subscript a b pos) (tOp r ta tb):=⟨zrg hr ha.o hb.o hs⟩
theorem zex:QO X none zkE:=⟨znL⟩
theorem zdp(h:QE X e te):QO X (some e) (zpx te):=⟨zoW h.o⟩
theorem zjT{r:V->Option Int->Option Int->Hp->VK->Prop}{lo hi:Option Expr}{tl th:TO}(hr:SlR X r)(he:QE X e te)(hl:QO X lo tl)(hu:QO X hi th):QE X (.Subscript e (.Slice lo hi none p) pos) (tSl r te tl th):=⟨znn hr he.o hl.o hu.o⟩
theorem zhj{T id:String}{name:Str}{r:V->List V->Hp->VK->Prop}(pa:PlainAttrs T)(slot:Slot T name id)(hty:typeOf (.builtin id)=pure (.type "method_descriptor"))(hm:MtR X id r)(ho:QE X o to)(ha:QA X (e::es) t)
 (hbase:attributeBase o name X.env (eval o X.env)=eval o X.env:=by rfl)
 (hfew:((backTo cpos (starEach (e::es) X.env)).all (λx=>!x.1)&&(backToKw cpos (keywordEach [] X.env)).all (λx=>x.1.isSome)
   &&decide ((e::es).length+([]:List Keyword).length+(if([]:List Keyword).isEmpty then 0 else 1)<30))=true:=by rfl)
 (hline:(apos.endLine==cpos.line)=true:=by rfl) (hs:starEach (e::es) X.env=(false,eval e X.env)::starEach es X.env:=by rfl) (hplain:(backTo cpos (starEach es X.env)).any (·.1)=false:=by rfl):
 QE X (.Call (.Attribute o name apos) (e::es) [] cpos) (tBM X.K T r to t):=⟨zrq pa slot hty hm ho.o ha.o hbase hfew hline hs hplain⟩
theorem zqP:QPs X pos [] [] []:=⟨zoB⟩
theorem zj2{ks:List (Option Expr)}{vs:List Expr}{trs:List (TE×TE)}(hk:QE X a ta)(hv:QE X b tb)(hr:QPs X pos ks vs trs):QPs X pos (some a::ks) (b::vs) ((ta,tb)::trs):=⟨zmU hk.o hv.o hr.o⟩
theorem zqm{keys:List (Option Expr)}{values:List Expr}{trs:List (TE×TE)}(h:QPs X pos keys values trs)(hall:keys.all (·.isSome)=true:=by rfl)(hl:keys.length=values.length:=by rfl)(h0:keys≠ []:=by exact(λz=>nomatch z))
 (h15:keys.length<=15:=by decide):QE X (.Dict keys values pos) (zpl trs):=⟨zo9 h.o hall hl h0 h15⟩
theorem zcw{tg:Expr}(h:QE X e te):QI X tg e (zio X.K te):=⟨zog h.o⟩
theorem za1{tg:Expr}(h:QE X e te):QI X tg e (zo3 X.K te):=⟨zqp h.o⟩
theorem zrf{tg:Expr}(h:QE X e te):QI X tg e (zrr te):=⟨zq3 h.o⟩
theorem zci{tg:Expr}(hm:X.mg "range"=none)(ha:QA X [a] t)(hg:Gl X "range":=by rfl)(hs:starEach [a] X.env=[(false,eval a X.env)]:=by rfl):QI X tg (.Call (.Name "range" p) [a] [] pos) (zpH t):=⟨zls hg hm ha.o hs⟩
theorem zqY{tg:Expr}(hm:X.mg "range"=none)(ha:QA X [a,b] t)(hg:Gl X "range":=by rfl)(hs:starEach [a,b] X.env=[(false,eval a X.env),(false,eval b X.env)]:=by rfl)(hs2:starEach [b] X.env=[(false,eval b X.env)]:=by rfl):QI X tg (.Call (.Name "range" p) [a,b] [] pos) (zpm t):=⟨zlN hg hm ha.o hs hs2⟩
theorem zr(k:Nat)(hN:X.N.Nodup)(hi:X.N[k]?=some x:=by rfl)(hx:X.env.scope.names.lookup x=some .local:=by rfl):QG X (.Name x pos) (zap k):=⟨zj7 hN hi (.inl hx) (.inr hx)⟩
theorem zbq:QGs X [] zrd:=⟨zoQ⟩
theorem zB{tg:TG}{tgs:TGs}(h1:QG X e tg)(h2:QGs X es tgs)(hs:(assignEach (e::es) X.env).map (·.2)=assign e X.env::(assignEach es X.env).map (·.2):=by rfl):QGs X (e::es) (zpP tg tgs):=⟨zmY h1.o h2.o hs⟩
theorem zdD(n:Nat){k:Nat}{tgs:TGs}(hc:X.calm=true)(h:QGs X es tgs)(hn:(assignEach es X.env).length=n:=by rfl)(hst:(assignEach es X.env).findIdx? (·.1)=none:=by rfl):QG X (.Tuple es k pos) (zqH X.K n tgs):=⟨zq7 hc h.o hn hst⟩
theorem zbO:QF X [] znF:=⟨zot⟩
theorem zg0(h:QT X c q):QF X [c] q:=⟨zoD h.o⟩
theorem zJ:QB X [] zpO:=⟨zo8⟩
theorem ze{st:Stmt}{sts:List Stmt}(h1:QS X st sa)(h2:QB X sts sb):QB X (st::sts) (zql sa sb):=⟨zis h1.o h2.o⟩
theorem zj{st:Stmt}(h1:QS X st sa):QB X [st] sa:=⟨zoU h1.o⟩
theorem zad{A B:List Stmt}(hc:QT X c q)(ha:QB X A sa)(hb:QB X B sb):QS X (.If c A B pos) (zq8 q sa sb):=⟨zrb hc.o ha.o hb.o⟩
theorem zt(h:QE X e te):QS X (.Return (some e) pos) (zrF te):=⟨zq6 h.o⟩
theorem zdR(he:QE X e te)(hs:swapsWith e none pos.line X.env=pure false:=by rfl):QS X (.Expr e pos) (zpT te):=⟨zow he.o hs⟩
theorem znH:QS X (.Continue pos) zpq:=⟨ziK⟩
theorem zu(k:Nat){pos':Pos}(hN:X.N.Nodup)(he:QE X e te)(hi:X.N[k]?=some x:=by rfl)(hx:X.env.scope.names.lookup x=some .local:=by rfl)(hs:swapsWith e (some (.Name x pos')) pos.line X.env=pure false:=by rfl):
 QS X (.Assign [.Name x pos'] e pos) (zjM te (zap k)):=⟨zmn hN hi (.inl hx) he.o hs (.inr hx)⟩
theorem zdh(k:Nat){pos':Pos}(hN:X.N.Nodup)(he:QE X e te)(hi:X.N[k]?=some x:=by rfl)(hx:X.env.scope.names.lookup x=some .cell:=by rfl)(hf:X.fn x=true:=by rfl)(hs:swapsWith e (some (.Name x pos')) pos.line X.env=pure false:=by rfl):
 QS X (.Assign [.Name x pos'] e pos) (zjM te (zap k)):=⟨zmn hN hi (.inr hx) he.o hs (.inl hf)⟩
theorem za2{tg iter:Expr}{body:List Stmt}{wi:TI}{g:TG}(hp:PassesOwn (model X.prog X.w) X.A X.env X.xe)(hc:X.calm=true)(hi:QI X tg iter wi)(hg:QG X tg g)(hb:QB X body sa)
 (hs:∀x,foldedSetIterable iter X.env x=pure x:=by intro _;rfl):QS X (.For tg iter body [] pos) (zpt wi g sa):=⟨zn6 hp hc hi.o hg.o hb.o hs⟩
end
section
variable{X:Cx}{elt tg iter:Expr}{ifs:List Expr}{scope osc:Scope}{pos:Pos}{N':List Str}{src:List (Option Nat)}{wi:TI}{g:TG}{tc:TT}{te:TE}
theorem zak(ok:CompOk X.N osc N' src scope)(hsc:X.env.scope=osc)(hc:X.calm=true)(hi:QI X tg iter wi)
 (hg:∀cl C s₀ H₀ fp,QG (zW X N' scope cl C s₀ H₀ fp) tg g) (ht:∀cl C s₀ H₀ fp,QF (zW X N' scope cl C s₀ H₀ fp) ifs tc) (he:∀cl C s₀ H₀ fp,QE (zW X N' scope cl C s₀ H₀ fp) elt te)
 (hs:∀x,foldedSetIterable iter X.env x=pure x:=by intro _;rfl):QE X (.ListComp elt [⟨tg,iter,ifs,0⟩] scope pos) (zko wi g tc te src):=
 ⟨zou ok hsc hc hi.o (λcl C s₀ H₀ fp=>(hg cl C s₀ H₀ fp).o) (λcl C s₀ H₀ fp=>(ht cl C s₀ H₀ fp).o) (λcl C s₀ H₀ fp=>(he cl C s₀ H₀ fp).o) hs⟩
end
theorem Fun.okQ{P:Program}{w:World}{K:PySem.W.Frag}{mg:Str->Option Value}{base:Heap}{x qual:Str}{st:Stmt}{f:Addr}{fd:FuncData}{N ps:List Str}{k:Nat}{sp:Sp}(F:Fun K x qual st f fd)(S:FnScope N ps (zc st))(len:∀vs H Q E,sp vs H Q E->vs.length=ps.length)
 (hbody:∀(cdv:Value) (A:Around) (outer:List Env) (s:Shared) (H:Hp) (vs:List V) (Q:VK) (E:XK),Room k (A.deeper (envOfC qual (zc st) s.heap.objs.size f cdv))->sp vs H Q E->
   ∃t,QB (ziv CX0 P w K mg base N qual (zc st) f cdv A outer s H E).nox (zm st) t/\t {nx:=λ_ H'=>Q .non H',rt:=Q} (start N vs) H):FnOk P w K mg base CX0 (k+1) f fd ps sp:=
 F.ok S len λcdv A outer s H vs Q E hr h=>let ⟨t,a,b⟩:=hbody cdv A outer s H vs Q E hr h;⟨t,a.o,b⟩
theorem zqf{h:Heap}{a:Addr}{m:Str->Option Value}(hn:h.Ns a m):∃o,h.get? a=some o/\∀v,o.data≠ .cell v:=
 let⟨o,es,ep,e,d,_⟩:=hn;⟨o,e,λv z=>by rw[d] at z;cases z⟩
theorem zn1{h h':Heap}{a:Addr}{m:Str->Option Value}{o:Obj}(hn:h.Ns a m)(e:h.get? a=some o)(e':h'.get? a=some o):h'.Ns a m:=by
 obtain⟨o',es,ep,e1,r⟩:=hn
 rw[e] at e1
 cases e1
 exact⟨o,es,ep,e',r⟩
section
variable{X:Cx}{elt tg iter:Expr}{ifs:List Expr}{scope osc:Scope}{pos:Pos}{N':List Str}{src:List (Option Nat)}{wi:TI}{g:TG}{tc:TT}{te:TE}{y:Str}{py spos:Pos}{k:Nat}
theorem zjQ(ok:CompOk X.N osc N' src scope)(hsc:X.env.scope=osc)(hc:X.calm=true)(hi:PI X tg iter wi)
 (hg:∀cl C s₀ H₀ fp,PG (zW X N' scope cl C s₀ H₀ fp) tg g) (ht:∀cl C s₀ H₀ fp,PIf (zW X N' scope cl C s₀ H₀ fp) ifs tc) (he:∀cl C s₀ H₀ fp,PE (zW X N' scope cl C s₀ H₀ fp) elt te)
 (hN:X.N.Nodup) (hk:X.N[k]?=some y) (hx:X.env.scope.names.lookup y=some .local) (hsw:swapsWith (.ListComp elt [⟨tg,iter,ifs,0⟩] scope pos) (some (.Name y py)) spos.line X.env=pure true)
 (hs:∀x,foldedSetIterable iter X.env x=pure x:=by intro _;rfl):PS X (.Assign [.Name y py] (.ListComp elt [⟨tg,iter,ifs,0⟩] scope pos) spos) (zjM (zko wi g tc te src) (zap k)):=by
 intro pins s σ H D I h
 obtain⟨cl,hcl,c1,c2⟩:=zfJ (scope:=scope) (env:=X.env) λy hy hyf=>I.ok.has y.1 (by
  have z:=ok.frees y hy hyf
  rw[←hsc] at z
  exact z)
 rw[exec_Assign_Name_used _ _ _ _ hsw]
 refine wpAny_bind (wpAny_standAt (wpAny_bind ?_))
 show wpAny _ X.A (do let _ ←comprehension (.ListComp elt [⟨tg,iter,ifs,0⟩] scope pos) scope X.env _ (newList []) false (eval iter X.env) (some (assign (.Name y py) X.env))) _ _ s
 refine wpAny_bind (wpAny_mono (wpAny_comprehension_free (use:=some (assign (.Name y py) X.env)) (Q:=λ_ s'=>∃σ' H',Inv X pins σ' H' s'/\D.nx σ' H') rfl hs hcl ok.kind ok.loc
  (thn (hi pins s σ H _ I h) λv s1 h1=>thn h1 λitv s2 h2=>?_)) (λ_ s' hq=>wpAny_pure (wpAny_pure hq)) λ_ _ e=>e)
 obtain⟨it,fp,tn,J,H2,e,I2,T,st2,f2,q2⟩:=h2
 subst e
 have hlt2:∀b∈fp,b<s2.heap.objs.size:=λb hb=>by
  obtain⟨o,e,_⟩:=T.obj _ _ st2 b hb
  exact Heap.lt_size e
 refine wpAny_newObj_type ?_
 have hl:H2 s2.heap.objs.size=none:=I2.hok.fresh (Nat.le_refl _)
 have I3:Inv X pins σ (upd H2 s2.heap.objs.size (.lst [])) {s2 with heap:=s2.heap.push {cls:= .type "list",dict:=none,data:= .seq ([]:List Value).toArray}}:=
  I2.laid (t':=s2.toks) (λb u e=>Heap.get?_push_of_some _ e) (Nat.le_refl _) ⟨Nat.zero_le _,[],0, .nil,Heap.get?_push_size _ rfl⟩
 obtain⟨W,⟨m0,w0⟩,turn⟩:=q2 _ hl
 generalize hl2:s2.heap.objs.size=l at *
 generalize hs3:({s2 with heap:=s2.heap.push {cls:= .type "list",dict:=none,data:= .seq ([]:List Value).toArray}}:Shared)=s3 at *
 have f3:∀b∈fp,zeA X pins (upd H2 l (.lst [])) b:=λb hb=>⟨by rw[zi (Nat.ne_of_lt (hlt2 b hb))];exact(f2 b hb).1,(f2 b hb).2⟩
 have k3:∀b o,s2.heap.get? b=some o->s3.heap.get? b=some o:=λb o e=>by rw[←hs3];exact Heap.get?_push_of_some _ e
 have hlt3:∀b∈fp,b<s3.heap.objs.size:=λb hb=>by
  obtain⟨o,e,_⟩:=T.obj _ _ st2 b hb
  exact Heap.lt_size (k3 b o e)
 refine wpAny_newFunctionEnv ok.nocell (by intro y hy;simp at hy) (λh₁ hns₁ hsb₁=>?_) ok.kind
 have k4:∀b o,s3.heap.get? b=some o->h₁.get? b=some o:=λb o e=>(hsb₁.2 b (Nat.ne_of_lt (Heap.lt_size e))).trans (Heap.get?_push_of_some _ e)
 have J0:=zfD (tk:=s3.toks+([]:List (Str×Value)).length) I3 f3 hlt3 ok hsc c1 c2 hns₁ k4
 have st4:tn 0 h₁:=T.keep _ _ _ st2 λb hb o e=>k4 b o (k3 b o e)
 generalize hC:s3.heap.objs.size=C at *
 have stat:∀{H':Hp},(∀b∈fp,H' b=none)->∀b∈fp,zeA (zW X N' scope cl C s3 (upd H2 l (.lst [])) fp) [] H' b:=λ{H'} hn b hb=>
  ⟨hn b hb,(J0.ok.exf b hb).1,J0.ok.exfs b hb, .inl hb,(J0.ok.exf b hb).2,λp hp=>absurd (show p∈([]:List (Addr×Obj))from hp) (by simp)⟩
 have loop:codeAny (model X.prog X.w) X.A (.compLoop (.ListComp elt [⟨tg,iter,ifs,0⟩] scope pos) 0 (.ref it) (.ref l) (compEnvC scope cl C X.env))
  (compPost (model X.prog X.w) X.A X.xe (some (assign (.Name y py) X.env)) (λ_ s'=>∃σ' H',Inv X pins σ' H' s'/\D.nx σ' H') (.ref l) C) {s3 with heap:=h₁,toks:=s3.toks+([]:List (Str×Value)).length}:=by
  refine zeh (λn s'=>∃i ys σ' H',Inv (zW X N' scope cl C s3 (upd H2 l (.lst [])) fp) [] σ' H' s'/\tn i s'.heap/\(∀b∈fp,H' b=none)/\H' l=some (.lst ys)/\W i n ys σ' H') ?_ m0
   ⟨0,[],_,_,J0,st4,λb hb=>(f3 b hb).1,zb,w0⟩
  rintro n s5 ⟨i,ys,σ5,H5,I5,st5,fr5,hl5,w5⟩
  rcases turn i n ys σ5 H5 w5 hl5 with⟨stop,qn⟩|⟨go,N,hN,step⟩
  ·refine thn (T.done (zW X N' scope cl C s3 (upd H2 l (.lst [])) fp) rfl rfl rfl hc i [] s5 σ5 H5 (λ_ _=>False) I5 (stat fr5) st5 stop) λr s6 ⟨hr,I6⟩=>?_
   subst hr
   obtain⟨m,hn,_⟩:=I6.loc
   have hCs:s3.heap.objs.size<=C:=by rw[←hC];exact Nat.le_refl _
   have I7:Inv X pins σ H5 s6:=zfI (h':=s6.heap) I3 f3 hCs I6 ⟨rfl,λ_ _=>rfl⟩
   have fC:zeA X pins H5 C:=I3.fpOk hCs I6.free
   obtain⟨oC,eC,dC⟩:∃o,s6.heap.get? C=some o/\∀v,o.data≠ .cell v:=by
    obtain⟨o,e,d⟩:=zqf hn
    exact⟨o,e,d⟩
   have I8:=I7.pinned (fp:=[C]) (λb hb=>by rw[List.mem_singleton.mp hb];exact fC) (λb hb=>by rw[List.mem_singleton.mp hb];exact⟨oC,eC,dC⟩)
   refine wpAny_assign_Name (zdn (v:= .ref l) I8 hN hk (.inl hx) rfl (λs9 I9=>?_) (.inr hx))
   have p9:=(I9.pin (C,oC) (List.mem_append_right _ (List.mem_append_right _ (za9 (List.mem_singleton.mpr rfl) eC)))).1
   refine⟨m,zn1 hn eC p9,λh' hsb=>⟨_,H5,?_,qn⟩⟩
   obtain⟨f0,f1,f2,f3',f4,f5⟩:=fC
   exact I9.unpinned.turned (t':=s9.toks) (λb o hb e=>(hsb.2 b hb).trans e) f0 f1 f3' f4 f5
  ·refine thn (T.item (zW X N' scope cl C s3 (upd H2 l (.lst [])) fp) rfl rfl rfl hc i [] s5 σ5 H5 (λ_ _=>False) I5 (stat fr5) st5 go) λr s6 ⟨u,hr,h6⟩=>?_
   subst hr
   refine thn h6 λ_ s7 ⟨x,H7,I7,r7,y7,st7,fr7⟩=>?_
   have I7':=I7.pinned (stat fr7) (T.obj _ _ st7)
   refine thn (hg cl C s3 _ fp _ s7 σ5 H7 x u _ I7' r7 (step x H7 y7)) λ_ s8 ⟨σ8,H8,I8,q8⟩=>?_
   refine thn (ht cl C s3 _ fp _ s8 σ8 H8 _ I8 q8) λb s9 ⟨H9,I9,q9⟩=>?_
   have back:∀{s':Shared} {H':Hp},Inv (zW X N' scope cl C s3 (upd H2 l (.lst [])) fp) ([]++zew fp s7.heap) σ8 H' s'->tn (i+1) s'.heap/\∀b∈fp,H' b=none:=λ{s' H'} I'=>by
    refine⟨T.keep _ _ _ st7 λb hb o e=>(I'.pin (b,o) (List.mem_append_right _ (List.mem_append_right _ (za9 hb e)))).1,λb hb=>?_⟩
    obtain⟨o,e,d⟩:=T.obj _ _ st7 b hb
    exact(I'.pin (b,o) (List.mem_append_right _ (List.mem_append_right _ (za9 hb e)))).2.1
   cases b with
   |false=>
    obtain⟨hl9,n9⟩:=q9
    obtain⟨m',hm,w9⟩:=hN _ _ _ n9
    obtain⟨t9,fr9⟩:=back I9
    exact⟨m',hm,i+1,ys,σ8,H9,I9.unpinned,t9,fr9,hl9,w9⟩
   |true=>
    refine thn (he cl C s3 _ fp _ s9 σ8 H9 _ I9 q9) λxv s10 ⟨y,H10,I10,r10,hl10,hz,n10⟩=>?_
    obtain⟨m',hm,w10⟩:=hN _ _ _ n10
    refine thn (zbc (X:=zW X N' scope cl C s3 (upd H2 l (.lst [])) fp) _ s10 σ8 H10 (.ref l) [y] (.ref l) [xv] (λv H'=>H'=upd H10 l (.lst (ys ++ [y]))) I10 rfl (.cons r10 .nil) ⟨l,ys,y,rfl,rfl,hl10,hz,rfl⟩) λ_ s11 ⟨_,H11,I11,_,e11⟩=>?_
    subst e11
    obtain⟨t11,fr11⟩:=back I11
    exact⟨m',hm,i+1,ys ++ [y],σ8,_,I11.unpinned,t11,fr11,zb,w10⟩
 exact codeAny_compStart_list loop (T.self _ 0 _ _ _ st4 loop)
theorem zgL(k:Nat)(ok:CompOk X.N osc N' src scope)(hsc:X.env.scope=osc)(hc:X.calm=true)(hN:X.N.Nodup)(hi:QI X tg iter wi)
 (hg:∀cl C s₀ H₀ fp,QG (zW X N' scope cl C s₀ H₀ fp) tg g) (ht:∀cl C s₀ H₀ fp,QF (zW X N' scope cl C s₀ H₀ fp) ifs tc) (he:∀cl C s₀ H₀ fp,QE (zW X N' scope cl C s₀ H₀ fp) elt te)
 (hk:X.N[k]?=some y:=by rfl) (hx:X.env.scope.names.lookup y=some .local:=by rfl) (hsw:swapsWith (.ListComp elt [⟨tg,iter,ifs,0⟩] scope pos) (some (.Name y py)) spos.line X.env=pure true:=by rfl)
 (hs:∀x,foldedSetIterable iter X.env x=pure x:=by intro _;rfl):QS X (.Assign [.Name y py] (.ListComp elt [⟨tg,iter,ifs,0⟩] scope pos) spos) (zjM (zko wi g tc te src) (zap k)):=
 ⟨zjQ ok hsc hc hi.o (λcl C s₀ H₀ fp=>(hg cl C s₀ H₀ fp).o) (λcl C s₀ H₀ fp=>(ht cl C s₀ H₀ fp).o) (λcl C s₀ H₀ fp=>(he cl C s₀ H₀ fp).o) hN hk hx hsw hs⟩
end
section
variable{X:Cx}{e o i tg:Expr}{te to ti:TE}{g:TG}{pos:Pos}{x:Str}{t:zn0}
theorem ze0(he:QE X e te)(hg:QG X tg g)(hs:swapsWithSole [tg] e pos.line X.env=pure false:=by rfl)(hw:swappedStores [tg] e X.env=pure none:=by rfl)
 (h1:(assignEach [tg] X.env).map (·.2)=[assign tg X.env]:=by rfl):QS X (.Assign [tg] e pos) (zjM te g):=⟨zqg he.o hg.o hs hw h1⟩
theorem znB(ho:QE X o to)(hi:QE X i ti)(hs:zqb X t)(ha:∀v,assign (.Subscript o i pos) X.env v=(do
 let ov ←holding [v] (eval o X.env)
 let iv ←holding [v,ov] (eval i X.env)
 standAt pos
 holding [v,ov,iv] (setItem ov iv v)
 release [v,ov,iv] []):=by intro _;rfl):QG X (.Subscript o i pos) (zrz to ti t):=⟨zp8 ho.o hi.o hs ha⟩
theorem zfg(k:Nat)(hN:X.N.Nodup)(hi:X.N[k]?=some x:=by rfl)(hx:X.env.scope.names.lookup x=some .cell:=by rfl)(hf:X.fn x=true:=by rfl):QG X (.Name x pos) (zap k):=⟨zj7 hN hi (.inr hx) (.inl hf)⟩
end
def zr3(t u:TS):TS:=λD σ H=>∃R:St->Hp->Prop,t {D with nx:=R} σ H/\∀σ' H',R σ' H'->u D σ' H'
theorem zij{X:Cx}{st:Stmt}{sts:List Stmt}{sa sb:TS}(h1:QS X st sa)(h2:QB X sts sb):QB X (st::sts) (zr3 sa sb):=by
 refine⟨λpins s σ H D I h=>?_⟩
 obtain⟨R,ha,hb⟩:=h
 have h3:PSs X sts (λD' σ' H'=>D'=D/\R σ' H'):=λpins s σ' H' D' I h=>by
  obtain⟨rfl,hR⟩:=h
  exact h2.o pins s σ' H' D' I (hb σ' H' hR)
 have e:(λσ' H'=>D=D/\R σ' H')=R:=by
  funext σ' H'
  simp
 refine zis h1.o h3 pins s σ H D I ?_
 show sa {D with nx:=λσ' H'=>D=D/\R σ' H'} σ H
 rw[e]
 exact ha
section
variable{X:Cx}
theorem zmZ(z:Str):zf2 z 1=z:=by
 unfold zf2
 simp
theorem ziT:OpR X (binaryOp .Mult) (λx y H Q=>∃z n,x= .str z/\y= .int n/\1<=n/\n<=1000/\0<z.length/\z.length<=1000/\Q (.str (zf2 z n.toNat)) H):=by
 intro pins s σ H x y v u Q I rx ry h
 obtain⟨z,n,rfl,rfl,h1,h2,h3,h4,q⟩:=h
 by_cases h:1<n
 ·exact zjt pins s σ H _ _ v u Q I rx ry ⟨z,n,rfl,rfl,h,h2,h3,h4,q⟩
 ·have e:n=1:=by omega
  subst e
  obtain⟨t,rfl⟩:=rx
  obtain⟨t',rfl⟩:=ry
  refine PySem.P.mul_str (by decide) (λ_ z=>by simp at z) (λ_ z=>by simp at z) ?_
  simp only[show¬(1:Int)<1 by decide,if_false,beq_self_eq_true,Bool.true_or,if_true]
  refine⟨.str _,H,I,⟨_,rfl⟩,?_⟩
  have e:zf2 z (1:Int).toNat=z:=zmZ z
  rw[e] at q
  exact q
end
section
variable{X:Cx}{K:PySem.W.Frag}
theorem zd5(h:X.K=K):IxR X (zqv K):=by subst h;exact ix_tup
theorem zky(h:X.K=K):IxR X (rIx K):=by subst h;exact zjL
theorem zjE(h:X.K=K):OpR X (compareOp .In) (rIn K false):=by subst h;exact zcO
theorem zgd(h:X.K=K):OpR X (compareOp .NotIn) (rIn K true):=by subst h;exact zc0
theorem zD:CallR X (.builtin "len") (λxs H Q=>(∃p ys,xs=[.ref p]/\(SqL X.K H p ys\/SqT X.K H p ys)/\Q (.int ys.length) H)\/∃z,xs=[.str z]/\z.length<=sizeLine/\Q (.int z.length) H):=call_len_seq.or zhv
theorem zfN(n:Nat){k:Nat}{es:List Expr}{pos:Pos}{tgs:TGs}(hK:X.K=K)(hc:X.calm=true)(h:QGs X es tgs)(hn:(assignEach es X.env).length=n:=by rfl)(hst:(assignEach es X.env).findIdx? (·.1)=none:=by rfl):QG X (.Tuple es k pos) (zqH K n tgs):=by subst hK;exact zdD n hc h hn hst
end
end L2
namespace RW
open PySem PySem.Spec PyProof.Rows L2
def zaC(c:Nat):Bool:=decide (97<=c)&&decide (c<=122)
def takenL:List Str:=["if","and","not","never"]
def zg(x:Str):Bool:=decide (1<=x.length)&&decide (x.length<=8)&&x.cps.toList.all zaC&&!(takenL.any λy=>decide (y=x))
def Hand(H:Hp)(a:Addr)(n:Int):Prop:=∃x m t:Int,H a=some (.lst [.int x, .int m, .int t])/\0<=m/\m<2^63/\0<=t/\t<=n
def Keep(a:Addr)(H H':Hp):Prop:=∀b o,b≠a->H b=some o->H' b=some o
theorem Keep.refl(a:Addr)(H:Hp):Keep a H H:=λ_ _ _ h=>h
theorem Keep.trans{a:Addr}{H H1 H2:Hp}(x:Keep a H H1)(y:Keep a H1 H2):Keep a H H2:=λb o n h=>y b o n (x b o n h)
theorem Keep.upd(a:Addr)(H:Hp)(o:HO):Keep a H (upd H a o):=λb u n h=>by rw[zi n];exact h
theorem Keep.new{a p:Addr}{H:Hp}{o:HO}(h:H p=none):Keep a H (L2.upd H p o):=λb u n e=>by rw[zi (zl e h)];exact e
theorem Keep.of{a:Addr}{H H':Hp}(h:Same H H'):Keep a H H':=λb o _ e=>h b o e
theorem Hand.ne{H:Hp}{a p:Addr}{n:Int}(h:Hand H a n)(e:H p=none):p≠a:=by
 obtain⟨x,m,t,h,_⟩:=h
 exact λz=>by rw[z,h] at e;cases e
theorem Hand.new{H:Hp}{a p:Addr}{n:Int}{o:HO}(h:Hand H a n)(e:H p=none):Hand (upd H p o) a n:=by
 have ne:=h.ne e
 obtain⟨x,m,t,h,r⟩:=h
 exact⟨x,m,t,by rw[zi (Ne.symm ne)];exact h,r⟩
theorem Hand.same{H H':Hp}{a:Addr}{n:Int}(h:Hand H a n)(s:Same H H'):Hand H' a n:=by
 obtain⟨x,m,t,h,r⟩:=h
 exact⟨x,m,t,s _ _ h,r⟩
theorem Hand.mono{H:Hp}{a:Addr}{n n':Int}(h:Hand H a n)(l:n<=n'):Hand H a n':=by
 obtain⟨x,m,t,h,h1,h2,h3,h4⟩:=h
 exact⟨x,m,t,h,h1,h2,h3,by omega⟩
theorem Keep.sqL{K:PySem.W.Frag}{a b:Addr}{H H':Hp}{xs:List V}(k:Keep a H H')(n:b≠a)(h:SqL K H b xs):SqL K H' b xs:=by
 rcases h with(h|⟨o,h⟩)|h
 ·exact .inl (.inl (k _ _ n h))
 ·exact .inl (.inr ⟨o,k _ _ n h⟩)
 ·exact .inr h
theorem Hand.updNe{H:Hp}{a p:Addr}{n:Int}{o:HO}(h:Hand H a n)(e:p≠a):Hand (upd H p o) a n:=by
 obtain⟨x,m,t,h,r⟩:=h
 exact⟨x,m,t,by rw[zi (Ne.symm e)];exact h,r⟩
theorem Keep.updNew{a p:Addr}{H H':Hp}{o:HO}(k:Keep a H H')(e:H p=none):Keep a H (L2.upd H' p o):=λb u n h=>by
 rw[zi (zl h e)]
 exact k b u n h
def lettersS:Str:="abcdefghijklmnopqrstuvwxyz"
def one(c:Nat):Str:=⟨#[c]⟩
theorem Same.new{H:Hp}{p:Addr}{o:HO}(h:H p=none):Same H (L2.upd H p o):=λb u e=>by rw[zi (zl e h)];exact e
structure At(K:PySem.W.Frag)(mg:Str->Option Value)(x:Str)(st:Stmt)(ps:List Str)(f:Addr)(fd:FuncData):Prop where
 fn:Fun K x x st f fd
 b:Binds K fd ps []
 mg:mg x=some (.ref f)
 kp:PySem.W.keepIn K (.ref f)=true
theorem zfi{α:Type}{xs:List α}{d:Int}(h0:0<=d)(h1:d<xs.length):∃v,atI xs d=some v/\v∈xs:=by
 obtain⟨k,rfl⟩:∃k:Nat,d=(k:Int):=⟨d.toNat,by omega⟩
 have hk:k<xs.length:=by omega
 exact⟨xs[k],zI (by simp[hk]),List.getElem_mem hk⟩
theorem at0{α:Type}{x:α}{xs:List α}:atI (x::xs) 0=some x:=zI (j:=0) rfl
theorem at1{α:Type}{x y:α}{xs:List α}:atI (x::y::xs) 1=some y:=zI (j:=1) rfl
theorem tru{b:Bool}(h:¬b=true):b=false:=by simpa using h
inductive D where
 |non|bl (b:Bool)|int (i:Int)|str (x:Str)|tup (ds:List D)|oth
inductive Rep(H:Hp):V->D->Prop where
 |non:Rep H .non .non
 |bl (b:Bool):Rep H (.bl b) (.bl b)
 |int (i:Int):Rep H (.int i) (.int i)
 |str (x:Str) (h:x.length<=1000):Rep H (.str x) (.str x)
 |tup {p:Addr} {vs:List V} {ds:List D} (h:H p=some (.tup vs)) (l:vs.length=ds.length) (b:ds.length<=1000) (r:∀(i:Nat) (v:V) (d:D),vs[i]?=some v->ds[i]?=some d->Rep H v d):Rep H (.ref p) (.tup ds)
 |lst {p:Addr} {vs:List V} (h:H p=some (.lst vs)):Rep H (.ref p) .oth
 |dK {p:Addr} {kvs:List (Key×V)} (h:H p=some (.dK kvs)):Rep H (.ref p) .oth
structure Mono(H H':Hp):Prop where
 tup:∀p xs,H p=some (.tup xs)->H' p=some (.tup xs)
 lst:∀p xs,H p=some (.lst xs)->∃ys,H' p=some (.lst ys)
 dK:∀p xs,H p=some (.dK xs)->∃ys,H' p=some (.dK ys)
theorem Mono.trans{H H1 H2:Hp}(a:Mono H H1)(b:Mono H1 H2):Mono H H2:=⟨λp xs h=>b.tup p xs (a.tup p xs h),λp xs h=>let ⟨ys,e⟩:=a.lst p xs h;b.lst p ys e,λp xs h=>let ⟨ys,e⟩:=a.dK p xs h;b.dK p ys e⟩
theorem Mono.of{H H':Hp}(s:Same H H'):Mono H H':=⟨λp xs h=>s _ _ h,λp xs h=>⟨xs,s _ _ h⟩,λp xs h=>⟨xs,s _ _ h⟩⟩
theorem Mono.new{H:Hp}{p:Addr}{o:HO}(h:H p=none):Mono H (upd H p o):= .of (Same.new h)
theorem Mono.lset{H:Hp}{p:Addr}{xs ys:List V}(h:H p=some (.lst xs)):Mono H (upd H p (.lst ys)):=by
 refine⟨λq zs e=>?_,λq zs e=>?_,λq zs e=>?_⟩
 ·by_cases hq:q=p
  ·subst hq;rw[h] at e;cases e
  ·rw[zi hq];exact e
 ·by_cases hq:q=p
  ·subst hq;exact⟨ys,zb⟩
  ·rw[zi hq];exact⟨zs,e⟩
 ·by_cases hq:q=p
  ·subst hq;rw[h] at e;cases e
  ·rw[zi hq];exact⟨zs,e⟩
theorem Mono.keep{H H':Hp}{a:Addr}{n m:Int}(k:Keep a H H')(h:Hand H a n)(h':Hand H' a m):Mono H H':=by
 obtain⟨x,y,z,h,_⟩:=h
 obtain⟨x',y',z',h',_⟩:=h'
 refine⟨λq zs e=>?_,λq zs e=>?_,λq zs e=>?_⟩
 ·exact k q _ (λhq=>by subst hq;rw[h] at e;cases e) e
 ·by_cases hq:q=a
  ·subst hq;exact⟨_,h'⟩
  ·exact ⟨zs,k q _ hq e⟩
 ·exact ⟨zs,k q _ (λhq=>by subst hq;rw[h] at e;cases e) e⟩
theorem Rep.mono{H H':Hp}{v:V}{d:D}(h:Rep H v d)(m:Mono H H'):Rep H' v d:=by
 induction h with
 |non=>exact .non
 |bl b=>exact .bl b
 |int i=>exact .int i
 |str x h=>exact .str x h
 |tup h l b _ ih=>exact .tup (m.tup _ _ h) l b ih
 |lst h=>obtain ⟨ys,e⟩:=m.lst _ _ h;exact .lst e
 |dK h=>obtain ⟨ys,e⟩:=m.dK _ _ h;exact .dK e
theorem Rep.same{H H':Hp}{v:V}{d:D}(h:Rep H v d)(s:Same H H'):Rep H' v d:=h.mono (.of s)
def RepL(H:Hp)(vs:List V)(ds:List D):Prop:=vs.length=ds.length/\∀(i:Nat) (v:V) (d:D),vs[i]?=some v->ds[i]?=some d->Rep H v d
theorem RepL.nil{H:Hp}:RepL H [] []:=⟨rfl,λi v d e=>by simp at e⟩
theorem RepL.cons{H:Hp}{v:V}{d:D}{vs:List V}{ds:List D}(h:Rep H v d)(r:RepL H vs ds):RepL H (v::vs) (d::ds):=by
 refine⟨by simp[r.1],λi w e h1 h2=>?_⟩
 cases i with
 |zero=>simp at h1 h2;subst h1;subst h2;exact h
 |succ i=>exact r.2 i w e (by simpa using h1) (by simpa using h2)
theorem RepL.head{H:Hp}{v:V}{d:D}{vs:List V}{ds:List D}(r:RepL H (v::vs) (d::ds)):Rep H v d/\RepL H vs ds:=
 ⟨r.2 0 v d rfl rfl,by have:=r.1;simp at this;exact this,λi w e h1 h2=>r.2 (i+1) w e (by simpa using h1) (by simpa using h2)⟩
theorem RepL.mono{H H':Hp}{vs:List V}{ds:List D}(r:RepL H vs ds)(m:Mono H H'):RepL H' vs ds:=⟨r.1,λi v d h1 h2=>(r.2 i v d h1 h2).mono m⟩
theorem RepL.append{H:Hp}{vs us:List V}{ds es:List D}(r:RepL H vs ds)(q:RepL H us es):RepL H (vs ++us) (ds ++es):=by
 refine⟨by rw[List.length_append,List.length_append,r.1,q.1],λi v d h1 h2=>?_⟩
 by_cases hi:i<vs.length
 ·rw[List.getElem?_append_left hi] at h1
  rw[List.getElem?_append_left (by rw[←r.1];exact hi)] at h2
  exact r.2 i v d h1 h2
 ·rw[List.getElem?_append_right (by omega)] at h1
  rw[List.getElem?_append_right (by rw[←r.1];omega),←r.1] at h2
  exact q.2 _ v d h1 h2
theorem RepL.get{H:Hp}{vs:List V}{ds:List D}{i:Nat}{v:V}(r:RepL H vs ds)(h:vs[i]?=some v):∃d,ds[i]?=some d/\Rep H v d:=by
 have hi:i<vs.length:=by
  rcases Nat.lt_or_ge i vs.length with q|q
  ·exact q
  ·rw[List.getElem?_eq_none q] at h;cases h
 have hd:i<ds.length:=by rw[←r.1];exact hi
 exact⟨ds[i],by simp[hd],r.2 i v _ h (by simp[hd])⟩
theorem Rep.mkL{H:Hp}{p:Addr}{vs:List V}{ds:List D}(h:H p=some (.tup vs))(b:ds.length<=1000)(r:RepL H vs ds):Rep H (.ref p) (.tup ds):= .tup h r.1 b r.2
theorem Rep.ofT{H:Hp}{v:V}{ds:List D}(h:Rep H v (.tup ds)):∃p vs,v= .ref p/\H p=some (.tup vs)/\RepL H vs ds/\ds.length<=1000:=by
 cases h with
 |tup h l b r=>exact ⟨_,_,rfl,h,⟨l,r⟩,b⟩
theorem Rep.of2{H:Hp}{v:V}{d e:D}(h:Rep H v (.tup [d,e])):∃p x y,v= .ref p/\H p=some (.tup [x,y])/\Rep H x d/\Rep H y e:=by
 obtain⟨p,vs,rfl,hp,r,_⟩:=h.ofT
 match vs,r with
 |[x,y],r=>exact ⟨p,x,y,rfl,hp,r.head.1,r.head.2.head.1⟩
 |[],r=>exact absurd r.1 (by simp)
 |[_],r=>exact absurd r.1 (by simp)
 |_::_::_::_,r=>exact absurd r.1 (by simp)
theorem Rep.mk1{H:Hp}{p:Addr}{x:V}{d:D}(h:H p=some (.tup [x]))(a:Rep H x d):Rep H (.ref p) (.tup [d]):= .mkL h (by simp) (.cons a .nil)
theorem Rep.mk2{H:Hp}{p:Addr}{x y:V}{d e:D}(h:H p=some (.tup [x,y]))(a:Rep H x d)(b:Rep H y e):Rep H (.ref p) (.tup [d,e]):= .mkL h (by simp) (.cons a (.cons b .nil))
def zpX:D->Bool| .tup _=>true|_=>false
def zp6:D->Bool| .int _=>true| .bl _=>true|_=>false
def zrB:D->Bool| .bl _=>true|_=>false
def zqr:D->Bool| .str _=>true|_=>false
theorem Rep.isi{K:PySem.W.Frag}{H:Hp}{v:V}{d:D}(h:Rep H v d):∃t,TyOf K H v t/\PySem.W.kitOne K t (.type "tuple")=some (zpX d)/\PySem.W.kitOne K t (.type "int")=some (zp6 d)/\PySem.W.kitOne K t (.type "bool")=some (zrB d)/\PySem.W.kitOne K t (.type "str")=some (zqr d):=by
 cases h with
 |non=>exact ⟨_, .non,rfl,rfl,rfl,rfl⟩
 |bl b=>exact ⟨_, .bl b,rfl,rfl,rfl,rfl⟩
 |int i=>exact ⟨_, .int i,rfl,rfl,rfl,rfl⟩
 |str x _=>exact ⟨_, .str x,rfl,rfl,rfl,rfl⟩
 |tup h _ _ _=>exact ⟨_, .tup h,rfl,rfl,rfl,rfl⟩
 |lst h=>exact ⟨_, .lst h,rfl,rfl,rfl,rfl⟩
 |dK h=>exact ⟨_, .dK h,rfl,rfl,rfl,rfl⟩
def isNumB:D->Bool| .int _=>true|_=>false
def zgb(d:D)(lo hi:Int):Bool:=match d with| .int i=>decide (lo<=i)&&decide (i<=hi)|_=>false
def zb4(d:D)(lo hi:Int):Bool:=match d with| .tup ds=>decide (lo<=(ds.length:Int))&&decide ((ds.length:Int)<=hi)|_=>false
def headStrB:D->Bool| .tup (.str _::_)=>true|_=>false
def zbI:D->Bool| .str x=>zg x|_=>false
def namingL:List Str:=["by","from","to","mark"]
def zA:D->Bool
 | .tup [.str w,x]=>if w="long"then zgb x 0 99 else(namingL.any λy=>decide (y=w))&&zbI x
 |_=>false
def zE(d:D):Bool:=match d with
 | .tup [.str w,x]=>if w="not"then zA x else zA d
 |_=>false
def zaS:D->Bool| .tup ds=>decide (ds.length<=4)&&ds.all zE|_=>false
def zeY:D->Bool| .tup [.str w,_]=>decide (w="to")|_=>false
def zd8:D->Bool| .tup [.str w,x]=>if w="not"then zeY x else decide (w="to")|_=>false
def zcL:D->Bool| .non=>true|d=>zgb d (-999) 999
def zfe:D->Bool| .tup ds=>ds.any zd8|_=>false
def z6:D->Bool| .tup [c,x]=>zaS c&&zcL x&&!zfe c|_=>false
def zcz:D->Bool
 | .tup [.str w]=>decide (w="keep")
 | .tup [.str w,x]=>(decide (w="put")||decide (w="strike"))&&zbI x
 |_=>false
def zcq:D->Bool| .tup [c,x]=>zaS c&&zcz x|_=>false
theorem zr0(c:Nat):decide (({cps:= #[c]}:Str).cps.toList<(Str.ofString "a").cps.toList)=decide (c<97):=by
 have e:(Str.ofString "a").cps.toList=[97]:=by decide +kernel
 rw[e]
 show decide ([c]< [97])=_
 by_cases h:c<97
 ·rw[decide_eq_true h]
  exact decide_eq_true (List.cons_lt_cons_iff.mpr (.inl h))
 ·rw[decide_eq_false h]
  refine decide_eq_false λz=>?_
  rcases List.cons_lt_cons_iff.mp z with q|⟨_,q⟩
  ·exact h q
  ·exact absurd q (by simp)
theorem zrS(c:Nat):decide ((Str.ofString "z").cps.toList<({cps:= #[c]}:Str).cps.toList)=decide (122<c):=by
 have e:(Str.ofString "z").cps.toList=[122]:=by decide +kernel
 rw[e]
 show decide ([122]< [c])=_
 by_cases h:122<c
 ·rw[decide_eq_true h]
  exact decide_eq_true (List.cons_lt_cons_iff.mpr (.inl h))
 ·rw[decide_eq_false h]
  refine decide_eq_false λz=>?_
  rcases List.cons_lt_cons_iff.mp z with q|⟨_,q⟩
  ·exact h q
  ·exact absurd q (by simp)
theorem zet{w:Str}{x:D}:zA (.tup [.str w,x])=if w="long"then zgb x 0 99 else(namingL.any λy=>decide (y=w))&&zbI x:=rfl
theorem zdx{w:Str}{x:D}:zE (.tup [.str w,x])=if w="not"then zA x else zA (.tup [.str w,x]):=rfl
theorem zh4{ds:List D}:zaS (.tup ds)=(decide (ds.length<=4)&&ds.all zE):=rfl
theorem zlc{c x:D}:z6 (.tup [c,x])=(zaS c&&zcL x&&!zfe c):=rfl
theorem znK{c x:D}:zcq (.tup [c,x])=(zaS c&&zcz x):=rfl
theorem zqB{w:Str}{x:D}:zcz (.tup [.str w,x])=((decide (w="put")||decide (w="strike"))&&zbI x):=rfl
theorem zcJ{x:Str}:zbI (.str x)=zg x:=rfl
theorem zbT{x y:Str}:decide (V.str x=V.str y)=decide (x=y):=by
 by_cases h:x=y
 ·subst h;rw[decide_eq_true rfl,decide_eq_true rfl]
 ·rw[decide_eq_false h,decide_eq_false λz=>h (V.str.inj z)]
theorem zcj(d:D)(h:zA d=true):∃x e,d= .tup [.str x,e]:=by
 unfold zA at h
 split at h
 ·exact ⟨_,_,rfl⟩
 ·cases h
theorem zgE(d:D)(h:zE d=true):∃x e,d= .tup [.str x,e]:=by
 unfold zE at h
 split at h
 ·exact ⟨_,_,rfl⟩
 ·cases h
theorem zcQ{e:D}:zA (.tup [.str "not",e])=false:=by
 have h1:¬("not":Str)="long":=by decide +kernel
 have h2:(namingL.any λy=>decide (y=("not":Str)))=false:=by decide +kernel
 rw[zet,if_neg h1,h2];rfl
theorem zdQ{α:Type}{ds:List α}{g:α->Bool}:(ds.map g).all id=ds.all g:=by rw[List.all_map];rfl
def zpv(g:D->Bool):Sp:=λvs H Q _=>∃v d,vs=[v]/\Rep H v d/\∀H',Same H H'->Q (.bl (g d)) H'
theorem znJ{xs:List V}{n:Nat}:zb1 xs none (some (n:Int))=xs.take n:=by
 unfold zb1
 have e1:HT.sIx xs.length 0 none=0:=rfl
 have e2:HT.sIx xs.length xs.length (some (n:Int))=min n xs.length:=by
  unfold HT.sIx
  have h:¬(n:Int)<0:=by omega
  simp only[if_neg h,Int.toNat_natCast]
 rw[e1,e2,List.drop_zero,Nat.sub_zero,List.take_eq_take_iff]
 omega
theorem zjI{N:Nat}{a:Addr}{m c:Int}{Pd:Nat->D->Prop}{H:Hp}{te:TE}{src:List (Option Nat)}{σ σr:L2.St}{Q:VK}(hs:zfX src σ=none::σr)(hH:Hand H a m)(hN:N<=900)(hc:0<=c)
 (he:∀(i:Nat) (H1:Hp) (Q1:VK),i<N->Hand H1 a (m+c*i)->Keep a H H1->(∀v d H2,Rep H2 v d->Pd i d->Hand H2 a (m+c*i+c)->Keep a H1 H2->Q1 v H2)->te (some (.int (i:Int))::σr) H1 Q1)
 (q:∀l vs ds H',H l=none->H' l=some (.lst vs)->RepL H' vs ds->ds.length=N->(∀i d,ds[i]?=some d->Pd i d)->Hand H' a (m+c*N)->Keep a H H'->Q (.ref l) H'):zd0 (zap 0) znF te src σ Q (Itr 0 N) H:=by
 refine zX zb2 (λl i ys σ' H'=>(∃o,σ'=o::σr)/\(∃ds:List D,RepL H' ys ds/\ds.length=i/\∀j d,ds[j]?=some d->Pd j d)/\Hand H' a (m+c*i)/\Keep a H H') ?_ (λ_ _ _ _ _ _ _=>trivial) ?_ ?_
 ·exact λl hl=>⟨⟨_,hs⟩,⟨[],RepL.nil,rfl,λj d z=>by simp at z⟩,(hH.new hl).mono (by simp),Keep.new hl⟩
 ·rintro l i y ys σ' H1 hl hi rfl ⟨⟨o,rfl⟩,⟨ds,hr,hl2,hp⟩,hH1,k1⟩ hl'
  have nl:=hH.ne hl
  rw[Int.zero_add]
  refine he i H1 _ hi hH1 k1 λv d H2 rv pd hH2 k2=>?_
  have hl2':H2 l=some (.lst ys):=k2 _ _ nl hl'
  have m2:Mono H1 H2:=Mono.keep k2 hH1 hH2
  have m3:Mono H2 (upd H2 l (.lst (ys ++ [v]))):=Mono.lset hl2'
  refine⟨hl2',?_,⟨_,rfl⟩,⟨ds ++ [d],((hr.mono m2).append (.cons rv .nil)).mono m3,?_,?_⟩,(hH2.updNe nl).mono ?_,(k1.trans k2).updNew hl⟩
  ·have:=hr.1
   exact zk (by omega)
  ·rw[List.length_append,hl2];rfl
  ·intro j e he
   by_cases hj:j<ds.length
   ·rw[List.getElem?_append_left hj] at he
    exact hp j e he
   ·rw[List.getElem?_append_right (by omega)] at he
    have hj2:j=ds.length:=by
     rcases Nat.lt_or_ge ds.length j with z|z
     ·rw[List.getElem?_eq_none (by simp;omega)] at he;cases he
     ·omega
    subst hj2
    simp at he
    subst he
    rw[hl2];exact pd
  ·rw[show((i+1:Nat):Int)=(i:Int)+1 by omega,Int.mul_add,Int.mul_one]
   omega
 ·rintro l ys σ' H1 hl ⟨⟨o,rfl⟩,⟨ds,hr,hl2,hp⟩,hH1,k1⟩ hl'
  exact q l ys ds H1 hl hl' hr hl2 hp hH1 k1
end RW
namespace L2
open PySem PySem.Spec PyProof.Rows
open Sem (wp)
open MeetsSeq MeetsSeq2 MeetsSeq3 Builtin
end L2
namespace L2
open PySem PySem.Spec PyProof.Rows
end L2
namespace RW
open PySem PySem.Spec PyProof.Rows L2
def Dsp(te:TE)(σ:L2.St)(H:Hp)(d:D):Prop:=∀(H1:Hp) (Q:VK),Same H H1->(∀v H2,Same H1 H2->Rep H2 v d->Q v H2)->te σ H1 Q
def zph(ta:TA)(σ:L2.St)(H:Hp)(ds:List D):Prop:=∀(H1:Hp) (Q:List V->Hp->Prop),Same H H1->(∀vs H2,Same H1 H2->RepL H2 vs ds->Q vs H2)->ta σ H1 Q
def zrE(te:TE)(σ:L2.St)(H:Hp)(ds:List D):Prop:=∀(H1:Hp) (Q:VK),Same H H1->(∀l vs H2,Same H1 H2->H2 l=some (.lst vs)->RepL H2 vs ds->Q (.ref l) H2)->te σ H1 Q
section
variable{te tf:TE}{ta:TA}{σ:L2.St}{H:Hp}{d:D}{ds es:List D}{K:PySem.W.Frag}
theorem zpk{i:Int}:Dsp (tC (.int i)) σ H (.int i):=λH1 Q s q=>q _ H1 (Same.refl _) (.int i)
theorem zoG:Dsp (tC .non) σ H .non:=λH1 Q s q=>q _ H1 (Same.refl _) .non
theorem zoJ{i:Int}:Dsp (tUn (rU λi=> .int (-i)) (tC (.int i))) σ H (.int (-i)):=λH1 Q s q=>⟨i,rfl,q _ H1 (Same.refl _) (.int (-i))⟩
theorem znV{i:Nat}{v:V}(h:σ[i]?=some (some v))(r:Rep H v d):Dsp (zlT i) σ H d:=λH1 Q s q=>⟨v,h,q v H1 (Same.refl _) (r.same s)⟩
theorem znh:zph zqE σ H []:=λH1 Q s q=>q [] H1 (Same.refl _) RepL.nil
theorem zlQ(h:Dsp te σ H d)(r:zph ta σ H ds):zph (zkD te ta) σ H (d::ds):=λH1 Q s q=>
 h H1 _ s λv H2 s2 rv=>r H2 _ (s.trans s2) λvs H3 s3 rs=>q (v::vs) H3 (s2.trans s3) (.cons (rv.same s3) rs)
theorem zmK(h:zph ta σ H ds)(hl:ds.length<=1000):zrE (zp9 ta) σ H ds:=λH1 Q s q=>
 h H1 _ s λvs H2 s2 rs=>⟨Nat.le_of_lt (zk (by rw[rs.1];exact hl)),λp hp=>q p vs _ (s2.trans (Same.new hp)) zb (rs.mono (.new hp))⟩
end
section
variable{te:TE}{tr:TA}{tb:TS}{De:Ends}{σ:L2.St}{H:Hp}{ds:List D}{d:D}{k:Nat}
theorem zqL{Q:List V->Hp->Prop}(h:zrE te σ H ds)(q:∀l vs H2,Same H H2->H2 l=some (.lst vs)->RepL H2 vs ds->tr σ H2 λxs H3=>Q (.ref l::xs) H3):zkD te tr σ H Q:=h H _ (Same.refl H) q
end
theorem zjh{α:Type}{p:α->Prop}:∀d∈([]:List α),p d:=λ_ z=>nomatch z
theorem zjN{H:Hp}{a l:Addr}{n:Int}{vs:List V}{ds:List D}(h:Hand H a n)(e:H l=some (.lst vs))(r:RepL H vs ds)(h3:ds.length≠3):l≠a:=λz=>by
 obtain⟨x,m,t,hh,_⟩:=h
 rw[z,hh] at e
 cases e
 exact h3 r.1.symm
end RW
namespace RW
open PySem PySem.W PyProof.Rows L2
section
variable{α β:Type}{N:Nat}{lt:Nat->Nat->Bool}
def OkT(N:Nat)(lt:Nat->Nat->Bool){α:Type}:KasT α->(α->Prop)->Prop
 | .ret a,P=>P a
 | .ask i j k,P=>i<N/\j<N/\OkT N lt (k (lt i j)) P
theorem OkT.mono{P Q:α->Prop}(h:∀a,P a->Q a):∀{t:KasT α},OkT N lt t P->OkT N lt t Q
 | .ret a,q=>h a q
 | .ask i j k,⟨h1,h2,q⟩=>⟨h1,h2,OkT.mono h q⟩
theorem OkT.bind{f:α->KasT β}{P:β->Prop}:∀{t:KasT α},OkT N lt t (λa=>OkT N lt (f a) P)->OkT N lt (t.bind f) P
 | .ret a,q=>q
 | .ask i j k,⟨h1,h2,q⟩=>⟨h1,h2,OkT.bind q⟩
theorem OkT.wp{cmp:Nat->Nat->(Bool->Shared->Prop)->Shared->Prop}{I:Shared->Prop}(hc:∀i j (C:Bool->Shared->Prop) s,i<N->j<N->I s->(∀s',I s'->C (lt i j) s')->cmp i j C s){P:α->Prop}{Q:α->Shared->Prop}(hq:∀a s,P a->I s->Q a s):
 ∀{t:KasT α} {s:Shared},I s->OkT N lt t P->t.kasWp cmp Q s
 | .ret a,s,hs,q=>hq a s q hs
 | .ask i j k,s,hs,⟨h1,h2,q⟩=>hc i j _ s h1 h2 hs λs' hs'=>OkT.wp hc hq hs' q
abbrev gd(p:Array Nat)(i:Nat):Nat:=p.getD i 0
structure Strict(N:Nat)(lt:Nat->Nat->Bool):Prop where
 tot:∀i j,i<N->j<N->i≠j->lt i j=false->lt j i=true
 tr:∀i j k,i<N->j<N->k<N->lt i j=true->lt j k=true->lt i k=true
 asy:∀i j,i<N->j<N->lt i j=true->lt j i=false
def PermN(N:Nat)(p:Array Nat):Prop:=p.toList.Perm (List.range N)
theorem PermN.size{p:Array Nat}(h:PermN N p):p.size=N:=by
 have:=h.length_eq
 simpa using this
theorem gd_get{p:Array Nat}{i:Nat}(h:i<p.size):gd p i=p[i]:=by simp[gd,Array.getD,h]
theorem zhu{p q:Array Nat}{i j:Nat}(h:p[i]?=q[j]?):gd p i=gd q j:=by
 simp only[gd,Array.getD_eq_getD_getElem?,h]
theorem PermN.bd{p:Array Nat}(h:PermN N p){i:Nat}(hi:i<N):gd p i<N:=by
 have hs:=h.size
 rw[gd_get (by omega)]
 have:p[i]∈p.toList:=by simp
 exact List.mem_range.mp (h.mem_iff.mp this)
theorem PermN.inj{p:Array Nat}(h:PermN N p){i j:Nat}(hi:i<N)(hj:j<N)(hij:i≠j):gd p i≠gd p j:=by
 have hs:=h.size
 have nd:p.toList.Nodup:=h.nodup_iff.mpr List.nodup_range
 rw[gd_get (by omega),gd_get (by omega)]
 intro z
 exact hij ((List.getElem_inj (i:=i) (j:=j) (h₀:=by simp;omega) (h₁:=by simp;omega) nd).mp (by simpa using z))
def Sor(lt:Nat->Nat->Bool)(p:Array Nat)(m:Nat):Prop:=∀i j,i<j->j<m->lt (gd p i) (gd p j)=true
def Des(lt:Nat->Nat->Bool)(p:Array Nat)(m:Nat):Prop:=∀i j,i<j->j<m->lt (gd p j) (gd p i)=true
theorem Sor.snoc{p:Array Nat}{n:Nat}(S:Strict N lt)(hp:PermN N p)(h:Sor lt p n)(h1:1<=n)(hn:n<N)(e:lt (gd p (n -1)) (gd p n)=true):Sor lt p (n+1):=by
 intro i j hij hj
 by_cases hjn:j<n
 ·exact h i j hij hjn
 ·have ej:j=n:=by omega
  subst ej
  by_cases hi:i=j -1
  ·subst hi;exact e
  ·exact S.tr _ _ _ (hp.bd (by omega)) (hp.bd (by omega)) (hp.bd hn) (h i (j -1) (by omega) (by omega)) e
theorem Des.snoc{p:Array Nat}{n:Nat}(S:Strict N lt)(hp:PermN N p)(h:Des lt p n)(h1:1<=n)(hn:n<N)(e:lt (gd p n) (gd p (n -1))=true):Des lt p (n+1):=by
 intro i j hij hj
 by_cases hjn:j<n
 ·exact h i j hij hjn
 ·have ej:j=n:=by omega
  subst ej
  by_cases hi:i=j -1
  ·subst hi;exact e
  ·exact S.tr _ _ _ (hp.bd hn) (hp.bd (by omega)) (hp.bd (by omega)) e (h i (j -1) (by omega) (by omega))
theorem zi5{p:Array Nat}(S:Strict N lt)(hp:PermN N p):∀f n,1<=n->n+f<=N->Sor lt p n->OkT N lt (kas_asc p f n) (λm=>n<=m/\m<=n+f/\Sor lt p m/\(m<n+f->lt (gd p m) (gd p (m -1))=true))
 |0,n,_,_,hs=>⟨Nat.le_refl _,Nat.le_refl _,hs,λh=>by omega⟩
 |f+1,n,h1,hn,hs=>by
  refine⟨hp.bd (by omega),hp.bd (by omega),?_⟩
  cases hc:lt (gd p n) (gd p (n -1))with
  |true=>
   show OkT N lt (if true=true then _ else _) _
   rw[if_pos rfl]
   exact⟨Nat.le_refl _,by omega,hs,λ_=>hc⟩
  |false=>
   show OkT N lt (if false=true then _ else _) _
   rw[if_neg (by decide)]
   refine OkT.mono (λm hm=>⟨by omega,by omega,hm.2.2.1,λh=>hm.2.2.2 (by omega)⟩) (zi5 S hp f (n+1) (by omega) (by omega) (hs.snoc S hp h1 (by omega) (S.tot _ _ (hp.bd (by omega)) (hp.bd (by omega)) (hp.inj (by omega) (by omega) (by omega)) hc)))
theorem zkh{p:Array Nat}(S:Strict N lt)(hp:PermN N p):∀f n,1<=n->n+f<=N->Des lt p n->OkT N lt (kas_desc f p n 0) (λr=>r.1=p/\n<=r.2.1/\r.2.1<=n+f/\Des lt p r.2.1/\r.2.2=0)
 |0,n,_,_,hs=>⟨rfl,Nat.le_refl _,Nat.le_refl _,hs,rfl⟩
 |f+1,n,h1,hn,hs=>by
  refine⟨hp.bd (by omega),hp.bd (by omega),?_⟩
  cases hc:lt (gd p n) (gd p (n -1))with
  |true=>
   show OkT N lt (if true=true then(if 0>0 then _ else _)else _) _
   rw[if_pos rfl,if_neg (by decide)]
   exact OkT.mono (λm hm=>⟨hm.1,by omega,by omega,hm.2.2.2⟩) (zkh S hp f (n+1) (by omega) (by omega) (hs.snoc S hp h1 (by omega) hc))
  |false=>
   show OkT N lt (if false=true then _ else _) _
   rw[if_neg (by decide)]
   refine⟨hp.bd (by omega),hp.bd (by omega),?_⟩
   have hd:lt (gd p (n -1)) (gd p n)=true:=S.tot _ _ (hp.bd (by omega)) (hp.bd (by omega)) (hp.inj (by omega) (by omega) (by omega)) hc
   show OkT N lt (if lt (gd p (n -1)) (gd p n)=true then _ else _) _
   rw[if_pos hd]
   exact⟨rfl,Nat.le_refl _,by show n<=n+(f+1);omega,hs,rfl⟩
theorem ziy{p:Array Nat}(hp:PermN N p)(n:Nat):PermN N (kas_rev p 0 n):=(Array.perm_iff_toList_perm.mp (mirror_perm p 0 n _)).trans hp
theorem zoS{p:Array Nat}{n:Nat}(hp:PermN N p)(hn:n<=N)(h:Des lt p n):Sor lt (kas_rev p 0 n) n:=by
 have hs:=hp.size
 have e:∀k,k<n->gd (kas_rev p 0 n) k=gd p (n -1 -k):=λk hk=>by
  refine zhu ?_
  show(mirror p 0 n ((n -0)/2))[k]?=_
  rw[getElem?_mirror_all (by omega),if_pos ⟨Nat.zero_le _,hk⟩,Nat.zero_add]
 intro i j hij hj
 rw[e i (by omega),e j hj]
 exact h (n -1 -j) (n -1 -i) (by omega) (by omega)
def zmt(N:Nat)(lt:Nat->Nat->Bool)(r:Nat×Array Nat):Prop:=PermN N r.2/\Sor lt r.2 r.1/\1<=r.1/\r.1<=N
theorem zmF{p:Array Nat}{n:Nat}(S:Strict N lt)(hp:PermN N p)(h1:1<=n)(hn:n<=N)(h:Des lt p n):OkT N lt (kas_tail3 n N p) (zmt N lt):=by
 refine OkT.bind (OkT.mono (λm hm=>?_) (zi5 S (ziy hp n) (N -n) n h1 (by omega) (zoS hp hn h)))
 exact⟨ziy hp n,hm.2.2.1,by have:=hm.1;omega,by have:=hm.2.1;omega⟩
theorem zl3{p:Array Nat}(S:Strict N lt)(hp:PermN N p)(h1:1<=N):OkT N lt (kas_count N p) (zmt N lt):=by
 refine OkT.bind (OkT.mono (λn hn=>?_) (zi5 S hp (N -1) 1 (Nat.le_refl _) (by omega) (λi j hij hj=>by omega)))
 obtain⟨n1,n2,hs,hl⟩:=hn
 by_cases hN:(n==N)=true
 ·rw[if_pos hN]
  exact⟨hp,hs,n1,by omega⟩
 ·have hne:n≠N:=by simpa using hN
  rw[if_neg hN]
  by_cases h2:n>1
  ·rw[if_pos h2]
   refine⟨hp.bd (by omega),hp.bd (by omega),?_⟩
   show OkT N lt (if lt (gd p 0) (gd p (n -1))=true then _ else _) _
   rw[if_pos (hs 0 (n -1) (by omega) (by omega))]
   exact⟨hp,hs,n1,by omega⟩
  ·rw[if_neg h2]
   have e1:n=1:=by omega
   subst e1
   have hd:Des lt p 2:=λi j hij hj=>by
    have ei:i=0:=by omega
    have ej:j=1:=by omega
    subst ei ej
    exact hl (by omega)
   refine OkT.bind (OkT.mono (λr hr=>?_) (zkh S hp (N -(1+1)) (1+1) (by omega) (by omega) hd))
   obtain⟨e1,r1,r2,r3,r4⟩:=hr
   rw[if_neg (by omega),e1]
   exact zmF S hp (by omega) (by omega) r3
theorem zfS{p:Array Nat}{k:Nat}(S:Strict N lt)(hp:PermN N p)(hs:Sor lt p k)(hk:k<N):∀f l r,l<=r->r<=k->r -l<=f->(∀i,i<l->lt (gd p i) (gd p k)=true)->(∀i,r<=i->i<k->lt (gd p k) (gd p i)=true)->
 OkT N lt (kas_place p k f l r) (λm=>m<=k/\(∀i,i<m->lt (gd p i) (gd p k)=true)/\∀i,m<=i->i<k->lt (gd p k) (gd p i)=true)
 |0,l,r,h1,h2,h3,ha,hb=>⟨by omega,ha,λi hi=>hb i (by omega)⟩
 |f+1,l,r,h1,h2,h3,ha,hb=>by
  by_cases hlr:l≥r
  ·show OkT N lt (if l≥r then _ else _) _
   rw[if_pos hlr]
   exact⟨by omega,ha,λi hi=>hb i (by omega)⟩
  ·show OkT N lt (if l≥r then _ else _) _
   rw[if_neg hlr]
   refine⟨hp.bd hk,hp.bd (by omega),?_⟩
   cases hc:lt (gd p k) (gd p ((l+r)/2))with
   |true=>
    show OkT N lt (if true=true then _ else _) _
    rw[if_pos rfl]
    refine zfS S hp hs hk f l ((l+r)/2) (by omega) (by omega) (by omega) ha λi hi hik=>?_
    by_cases e:i=(l+r)/2
    ·subst e;exact hc
    ·exact S.tr _ _ _ (hp.bd hk) (hp.bd (by omega)) (hp.bd (by omega)) hc (hs ((l+r)/2) i (by omega) hik)
   |false=>
    show OkT N lt (if false=true then _ else _) _
    rw[if_neg (by decide)]
    have hm:lt (gd p ((l+r)/2)) (gd p k)=true:=S.tot _ _ (hp.bd hk) (hp.bd (by omega)) (hp.inj hk (by omega) (by omega)) hc
    refine zfS S hp hs hk f ((l+r)/2+1) r (by omega) h2 (by omega) (λi hi=>?_) hb
    by_cases e:i=(l+r)/2
    ·subst e;exact hm
    ·exact S.tr _ _ _ (hp.bd (by omega)) (hp.bd (by omega)) (hp.bd hk) (hs i ((l+r)/2) (by omega) (by omega)) hm
theorem zjX{p:Array Nat}{k l:Nat}(hp:PermN N p)(hk:k<N)(hl:l<=k)(hs:Sor lt p k)(ha:∀i,i<l->lt (gd p i) (gd p k)=true)(hb:∀i,l<=i->i<k->lt (gd p k) (gd p i)=true):Sor lt (bubble p k (k -l)) (k+1):=by
 have hz:=hp.size
 have g:∀i,(bubble p k (k -l))[i]?=if i=l then p[k]? else if l<i/\i<=k then p[i -1]? else p[i]?:=λi=>by
  rw[getElem?_bubble (by omega) (k -l) (by omega),show k -(k -l)=l by omega]
 have g1:gd (bubble p k (k -l)) l=gd p k:=zhu (by rw[g,if_pos rfl])
 have g2:∀i,l<i->i<=k->gd (bubble p k (k -l)) i=gd p (i -1):=λi h1 h2=>zhu (by rw[g,if_neg (by omega),if_pos ⟨h1,h2⟩])
 have g3:∀i,i<l->gd (bubble p k (k -l)) i=gd p i:=λi h1=>zhu (by rw[g,if_neg (by omega),if_neg (by omega)])
 intro i j hij hj
 rcases Nat.lt_trichotomy i l with hi|hi|hi
 ·rw[g3 i hi]
  rcases Nat.lt_trichotomy j l with h|h|h
  ·rw[g3 j h];exact hs i j hij (by omega)
  ·subst h;rw[g1];exact ha i hi
  ·rw[g2 j h (by omega)];exact hs i (j -1) (by omega) (by omega)
 ·subst hi
  rw[g1,g2 j hij (by omega)]
  exact hb (j -1) (by omega) (by omega)
 ·rw[g2 i hi (by omega),g2 j (by omega) (by omega)]
  exact hs (i -1) (j -1) (by omega) (by omega)
theorem zm7(S:Strict N lt):∀f (p:Array Nat) k,PermN N p->Sor lt p k->k+f=N->OkT N lt (kas_bin f p k) (λp'=>PermN N p'/\Sor lt p' N)
 |0,p,k,hp,hs,hk=>⟨hp,by have:k=N:=by omega
                         rw[←this];exact hs⟩
 |f+1,p,k,hp,hs,hk=>by
  refine OkT.bind (OkT.mono (λl hl=>?_) (zfS S hp hs (by omega) k 0 k (Nat.zero_le _) (Nat.le_refl _) (by omega) (λi hi=>by omega) (λi hi hik=>by omega)))
  exact zm7 S f _ (k+1) ((Array.perm_iff_toList_perm.mp (bubble_perm p k _)).trans hp) (zjX hp (by omega) hl.1 hs hl.2.1 hl.2.2) (by omega)
theorem sort_ok(S:Strict N lt)(h1:1<=N):OkT N lt (kas_sort N) (λp=>PermN N p/\Sor lt p N):=by
 have h0:PermN N (List.toArray (List.range N)):=by show(List.range N).Perm _;exact List.Perm.refl _
 refine OkT.bind (OkT.mono (λr hr=>?_) (zl3 S h0 h1))
 obtain⟨c1,c2,c3,c4⟩:=hr
 by_cases h:r.1<N
 ·rw[if_pos h]
  have e:max r.1 1=r.1:=by omega
  rw[e]
  exact zm7 S _ _ _ c1 c2 (by omega)
 ·rw[if_neg h]
  have e:r.1=N:=by omega
  rw[e] at c2
  exact⟨c1,c2⟩
end
end RW
namespace L2
open PySem PySem.W PySem.Spec PyProof.Rows
def RawD(h:Heap)(d:Addr)(ks:List Value)(ep:Nat):Prop:=∃o es,h.get? d=some o/\o.ExactDict/\o.data= .dict es ep/\es.toList.map (·.key)=ks
theorem RawD.at{h h':Heap}{d:Addr}{ks:List Value}{ep:Nat}(x:RawD h d ks ep)(e:∀o,h.get? d=some o->h'.get? d=some o):RawD h' d ks ep:=let⟨o,es,ho,r⟩:=x;⟨o,es,e _ ho,r⟩
theorem RawD.ty{s:Shared}{d:Addr}{ks:List Value}{ep:Nat}(x:RawD s.heap d ks ep):s.TypeIs (.ref d) "dict":=let⟨o,_,ho,hc,_⟩:=x;⟨o,ho,hc.1⟩
theorem RawD.lt{h:Heap}{d:Addr}{ks:List Value}{ep:Nat}(x:RawD h d ks ep):d<h.objs.size:=let⟨_,_,ho,_⟩:=x;Heap.lt_size ho
section
variable{prog:Program}{w:World}{A:Around}{E:Value->Shared->Prop}{s:Shared}{it d:Addr}{i ep:Nat}{ks:List Value}
theorem zms{R:Value->Shared->Prop}(nsys:(d==sysModules)=false)(x:RawD s.heap d ks ep)(q:R (.ref s.heap.objs.size) {s with heap:=s.heap.push {cls:= .type "dict_keyiterator",data:= .fields #[.ref d, .int 0 0, .int ks.length 0, .int ep 0]}}):
 wpAny (model prog w) A (pyIter (.ref d)) R E s:=by
 have ty:=x.ty
 obtain⟨o,es,ho,_,hdat,hks⟩:=x
 refine wpAny_pyIter_slot ty PySem.F.slot_dict_iter (wpAny_call_entry PySem.F.slot_dict_iter ty PySem.F.entry_dict_iter ?_ (PySem.F.args_dict_iter_1 _))
 unfold Builtin.«dict.__iter__»
 refine wpAny_bind (by unfold Builtin.Dict.dictSlotNone;refine wpAny_bind (wpAny_notOrdered_dict ty ?_);show wpAny _ _ (pure (Value.ref d)) _ _ s;exact wpAny_pure (by
  show wpAny _ _ (Builtin.Dict.showsAll d>>=_) _ _ s
  unfold Builtin.Dict.showsAll
  rw[if_neg (λz=>by rw[nsys] at z;cases z)]
  refine wpAny_bind (wpAny_pure (wpAny_bind (wpAny_dictEntries ho hdat (wpAny_bind (wpAny_dictEpoch ho hdat ?_)))))
  have sz:es.size=ks.length:=by rw[←hks];simp
  refine wpAny_bind (wpAny_newObj_type (wpAny_pure ⟨_,rfl,"dict_keyiterator",_,⟨_,Heap.get?_push_size _ rfl,rfl⟩,PySem.F.slot_dict_keyiterator_next.lookup,?_⟩))
  simpa[rawInt,sz] using q))
theorem zm2{R:Option Value->Shared->Prop}{key:Value}(y:s.heap.IsKeyIter it d i ks.length ep)(x:RawD s.heap d ks ep)(hx:ks[i]?=some key)
 (q:∀h',h'.IsKeyIter it d (i+1) ks.length ep->Heap.SameBut it s.heap h'->R (some key) {s with heap:=h'}):wpAny (model prog w) A (pyNext (.ref it)) R E s:=by
 obtain⟨o,ho,hc,hd⟩:=id y
 obtain⟨od,es,hod,_,hdd,hks⟩:=x
 have sz:es.size=ks.length:=by rw[←hks];simp
 have li:i<ks.length:=by
  rcases Nat.lt_or_ge i ks.length with h|h
  ·exact h
  ·rw[List.getElem?_eq_none h] at hx;cases hx
 have li':i<es.size:=by omega
 have ek:es[i].key=key:=by
  have e1:ks[i]?=some es[i].key:=by rw[←hks];simp[li']
  rw[e1] at hx;exact Option.some.inj hx
 unfold pyNext
 refine wpAny_bind (wpAny_attempt (wpAny_callSpecial?_slot (name:=Str.ofString "__next__") y.typeIs PySem.F.slot_dict_keyiterator_next (wpAny_call_entry PySem.F.slot_dict_keyiterator_next y.typeIs PySem.F.entry_dict_keyiterator_next ?_ (PySem.F.args_dict_keyiterator_next_1 _))))
 refine wpAny_bind (wpAny_pure (wpAny_bind (wpAny_bind ?_)))
 first|refine wpAny_bind (wpAny_typeNameOfWhole_keyiter y.typeIs (wpAny_pure ?_))|refine wpAny_bind (wpAny_typeNameOf_keyiter y.typeIs (wpAny_pure ?_))
 refine wpAny_bind (wpAny_fieldsOf ho hd ?_)
 simp only[(by decide:Builtin.Dict_items.ownsTuple "dict_keyiterator"=false),Bool.false_eq_true,if_false]
 show wpAny _ _ (if(Value.ref d==Value.none)=true then _ else _) _ _ s
 rw[if_neg (λz=>nomatch z)]
 refine wpAny_bind (wpAny_pure (wpAny_bind (wpAny_dictEntries hod hdd ?_)))
 rw[if_neg (λz=>by rw[sz] at z;simp at z)]
 refine wpAny_bind (wpAny_pure (wpAny_bind (wpAny_dictEpoch hod hdd ?_)))
 rw[if_neg (λz=>by simp at z)]
 refine wpAny_pure ?_
 simp only[(by omega:¬((i:Int)<0)),if_false,Int.toNat_natCast,Array.getElem?_eq_getElem li']
 refine wpAny_bind ?_
 first|refine wpAny_bind (wpAny_typeNameOfWhole_keyiter y.typeIs (wpAny_pure ?_))|refine wpAny_bind (wpAny_typeNameOf_keyiter y.typeIs (wpAny_pure ?_))
 refine wpAny_bind (wpAny_isOneOf_keyiter y.typeIs ?_)
 show wpAny _ _ (setField (.ref it) 1 (rawInt ((i:Int)+1))>>=_) _ _ s
 refine wpAny_bind (wpAny_setField ho hd (by simp) ?_)
 have y':(s.heap.update it (Obj.mapFields (·.setIfInBounds 1 (rawInt ((i:Int)+1))))).IsKeyIter it d (i+1) ks.length ep:=⟨_,Heap.get?_update_self _ ho (Obj.isFreed_of_fields (Obj.data_mapFields hd _)),(Obj.cls_mapFields ..).trans hc,by rw[Obj.data_mapFields hd];simp[rawInt]⟩
 refine wpAny_bind (wpAny_holding (wpAny_bind (wpAny_isOneOf_keyiter (s:={s with heap:=s.heap.update it (Obj.mapFields (·.setIfInBounds 1 (rawInt ((i:Int)+1))))}) y'.typeIs ?_)))
 show wpAny _ _ (pure es[i].key) _ _ _
 rw[ek]
 exact wpAny_pure (wpAny_pure ⟨_,rfl,wpAny_pure (q _ y' (Heap.SameBut.update ..))⟩)
theorem zoh{R:Option Value->Shared->Prop}(hh:A.handled=none)(y:s.heap.IsKeyIter it d ks.length ks.length ep)(x:RawD s.heap d ks ep)(q:∀h',Heap.ExtBut it s.heap h'->R none {s with heap:=h'}):wpAny (model prog w) A (pyNext (.ref it)) R E s:=by
 obtain⟨o,ho,hc,hd⟩:=id y
 obtain⟨od,es,hod,_,hdd,hks⟩:=x
 have sz:es.size=ks.length:=by rw[←hks];simp
 unfold pyNext
 refine wpAny_bind (wpAny_attempt (wpAny_callSpecial?_slot (name:=Str.ofString "__next__") y.typeIs PySem.F.slot_dict_keyiterator_next (wpAny_call_entry PySem.F.slot_dict_keyiterator_next y.typeIs PySem.F.entry_dict_keyiterator_next ?_ (PySem.F.args_dict_keyiterator_next_1 _))))
 refine wpAny_bind (wpAny_pure (wpAny_bind (wpAny_bind ?_)))
 first|refine wpAny_bind (wpAny_typeNameOfWhole_keyiter y.typeIs (wpAny_pure ?_))|refine wpAny_bind (wpAny_typeNameOf_keyiter y.typeIs (wpAny_pure ?_))
 refine wpAny_bind (wpAny_fieldsOf ho hd ?_)
 simp only[(by decide:Builtin.Dict_items.ownsTuple "dict_keyiterator"=false),Bool.false_eq_true,if_false]
 show wpAny _ _ (if(Value.ref d==Value.none)=true then _ else _) _ _ s
 rw[if_neg (λz=>nomatch z)]
 refine wpAny_bind (wpAny_pure (wpAny_bind (wpAny_dictEntries hod hdd ?_)))
 rw[if_neg (λz=>by rw[sz] at z;simp at z)]
 refine wpAny_bind (wpAny_pure (wpAny_bind (wpAny_dictEpoch hod hdd ?_)))
 rw[if_neg (λz=>by simp at z)]
 refine wpAny_pure ?_
 simp only[(by omega:¬((ks.length:Int)<0)),if_false,Int.toNat_natCast,Array.getElem?_eq_none (show es.size<=ks.length by omega)]
 refine wpAny_bind ?_
 first|refine wpAny_bind (wpAny_typeNameOfWhole_keyiter y.typeIs (wpAny_pure ?_))|refine wpAny_bind (wpAny_typeNameOf_keyiter y.typeIs (wpAny_pure ?_))
 show wpAny _ _ (setField (.ref it) 0 .none>>=_) _ _ s
 refine wpAny_bind (wpAny_setField ho hd (by simp) ?_)
 show wpAny _ _ (newExc (.type "StopIteration") []>>=_) _ _ _
 refine wpAny_bind (by
  simp only[newExc,newTuple]
  refine wpAny_bind (wpAny_newObj_type (wpAny_bind (m:=firstArgMember _ _) (wpAny_of_eq (a:=Value.none) (by first|rfl|(simp only[firstArgMember];rfl)) (wpAny_newObj_type ?_ (by size_fits)))) (by size_fits))
  simp only[raiseNew]
  refine wpAny_bind (wpAny_handled ?_)
  rw[show A.in1.handled=none from hh]
  refine wpAny_bind (wpAny_pure (wpAny_throw ?_));refine wpAny_bind (wpAny_isInstance (T:="StopIteration") (b:=true) ⟨_,Heap.get?_push_size _ rfl,rfl⟩ isSubtype_stop ?_)
  exact wpAny_pure (q _ (((Heap.SameBut.update ..).extBut.push _).push _)))
theorem zlM(hh:A.handled=none)(hne:d≠it):Walks prog w A it [it,d] [it] ks.length (λi v=>ks[i]?=some v) (λi h=>h.IsKeyIter it d i ks.length ep/\RawD h d ks ep) where
 sub:=λb hb=>by simp at hb;simp[hb]
 frame:=λ_ _ _ st hk=>⟨st.1.at λo e=>hk it (by simp) o e,st.2.at λo e=>hk d (by simp) o e⟩
 item:=λi s Q E hi st hQ=>zm2 st.1 st.2 (show ks[i]?=some ks[i] by simp[hi]) λh' y' hs=>hQ _ h' s.toks (by simp[hi]) ⟨y',st.2.at λo e=>hs.extBut d o hne e⟩ λb o hb e=>hs.extBut b o (λh=>hb (by simp[h])) e
 done:=λs Q E st hQ=>zoh hh st.1 st.2 λh' he=>hQ h' s.toks λb o hb e=>he b o (λh=>hb (by simp[h])) e
 self:=λ_ _ _ _ st hQ=>wpAny_pyIter_keyiter st.1 hQ
theorem zob(nsys:(d==sysModules)=false):KdlSrc prog w "dict" d d ks.length (λi v=>ks[i]?=some v) (λh=>RawD h d ks ep) where
 type:=λ_ hm=>hm.ty
 there:=λ_ hm=>⟨hm.lt,hm.lt⟩
 keep:=λ_ _ hm hk=>hm.at λo e=>hk d (.inl rfl) o e
 notList:=by decide
 notTuple:=by decide
 hint:=λ_ _ _ _ hm hq=>kdl_hint_dict hm.ty hq
 iter:=λ_ _ hh hm=>⟨_,_,(λ_ _ hq=>zms nsys hm hq),zlM hh (Nat.ne_of_lt hm.lt),⟨⟨_,Heap.get?_push_size _ rfl,rfl,rfl⟩,hm.at λo e=>Heap.get?_push_of_some _ e⟩⟩
end
section
variable{prog:Program}{w:World}{A:Around}{E:Value->Shared->Prop}{s:Shared}
def Kp(a:Addr)(s s1:Shared):Prop:=s1={s with heap:=s1.heap}/\∀b o,b≠a->s.heap.get? b=some o->s1.heap.get? b=some o
theorem zgN{a:Addr}{vs:List Value}{n:Nat}{R:PySem.Fin->Shared->Prop}{G:Array Nat->Prop}{κ:SortKind}(ho:s.heap.get? a=some (seqObj "list" vs.toArray n))(h64:vs.length<64)
 (hk:2<=vs.length->∀s1:Shared,Kp a s s1->(∀C:SortKind->Shared->Prop,C κ s1->wpAny (model prog w) A (keyKind' vs.toArray) C E s1)/\(kas_sort vs.length).kasWp (kas_ask prog w A κ vs) (λp s'=>s'=s1/\G p) s1)
 (q:∀(out:List Value) (h':Heap) (c:Nat),(vs.length<2/\out=vs\/∃p:Array Nat,p.size=vs.length/\G p/\out=p.toList.map λi=>vs.getD i Value.none)->(∀b o,b≠a->s.heap.get? b=some o->h'.get? b=some o)->
   h'.get? a=some (seqObj "list" out.toArray c)->R (.done (.ret .none)) {s with heap:=h'}):wpAny (model prog w) A (Builtin.«list.sort» ⟨[.ref a],[]⟩) R E s:=by
 have la:a<s.heap.objs.size:=Heap.lt_size ho
 have lz:vs.toArray.size=vs.length:=List.size_toArray ..
 have u1:=Heap.SameBut.update s.heap a (Obj.mapSeq λ_=>(#[]:Array Value))
 obtain⟨e1,g1⟩:∃e1,(s.heap.update a (Obj.mapSeq λ_=>(#[]:Array Value))).get? a=some (seqObj "list" #[] e1):=⟨_,get?_update_seq ho λ_=> #[]⟩
 rw[list_sort_plain]
 refine wpAny_bind (listItems_at ho rfl (wpAny_bind (listUpdate_at ho rfl (wpAny_bind (seqEpoch_at g1 rfl (wpAny_bind (wpAny_newTuple (wpAny_bind (wpAny_newList (wpAny_holding ?_) (Nat.zero_le _))) (by show vs.length<=_;rw[sizeLine_eq];omega))))) (by rw[lz,sizeLine_eq];omega) (Nat.zero_le _))))
 generalize hs1:({s with heap:=((s.heap.update a (Obj.mapSeq λ_=>(#[]:Array Value))).push (seqObj "tuple" vs.toArray 0)).push (seqObj "list" #[] 0)}:Shared)=s1
 have kp:∀b o,(s.heap.update a (Obj.mapSeq λ_=>(#[]:Array Value))).get? b=some o->s1.heap.get? b=some o:=λb o e=>by rw[←hs1];exact Heap.get?_push_of_some _ (Heap.get?_push_of_some _ e)
 have k1:Kp a s s1:=⟨by rw[←hs1],λb o nb e=>kp b o ((u1.2 b nb).trans e)⟩
 have g2:s1.heap.get? a=some (seqObj "list" #[] e1):=kp a _ g1
 dsimp only
 have fin:∀(st:SortSt) (out:List Value),(arrOf st).map (·.2)=out.toArray->failedOf st=none->out.length<64->(vs.length<2/\out=vs\/∃p:Array Nat,p.size=vs.length/\G p/\out=p.toList.map λi=>vs.getD i Value.none)->
  wpAny (model prog w) A (do
   let touched:=(←seqEpoch a) !=e1
   Builtin.List.listUpdate (.ref a) λ_=>(arrOf st).map (·.2)
   if let some e:=failedOf st then rule "list.sort.comparison-raised";throw e
   if touched then rule "list.sort.modified";raiseError "ValueError" "list modified during sort"
   ret .none) R E s1:=by
  intro st out ho hf hl hc
  rw[ho]
  have u2:=Heap.SameBut.update s1.heap a (Obj.mapSeq λ_=>out.toArray)
  obtain⟨c2,g3⟩:∃c2,(s1.heap.update a (Obj.mapSeq λ_=>out.toArray)).get? a=some (seqObj "list" out.toArray c2):=⟨_,get?_update_seq g2 λ_=>out.toArray⟩
  refine wpAny_bind (seqEpoch_at g2 rfl (wpAny_bind (listUpdate_at g2 rfl ?_ (Nat.zero_le _) (by show out.toArray.size<=_;rw[List.size_toArray,sizeLine_eq];omega))))
  rw[hf]
  simp only[bne_self_eq_false,Bool.false_eq_true,if_false]
  have:=q out _ c2 hc (λb o nb e=>(u2.2 b nb).trans (k1.2 b o nb e)) g3
  rw[k1.1]
  exact wpAny_pure this
 by_cases h2:vs.toArray.size<2
 ·rw[if_pos h2,if_pos h2]
  refine wpAny_bind (wpAny_pure ?_)
  rw[StateT.run_pure]
  refine wpAny_bind (wpAny_pure ?_)
  refine fin _ vs ?_ rfl h64 (.inl ⟨by omega,rfl⟩)
  apply Array.toList_inj.mp
  show((vs.toArray.zip vs.toArray).map (·.2)).toList=_
  rw[Array.toList_map,Array.toList_zip]
  exact List.map_snd_zip (Nat.le_refl _)
 ·rw[if_neg h2,if_neg h2]
  obtain⟨hkk,hw⟩:=hk (by omega) s1 k1
  refine wpAny_bind (hkk _ ?_)
  refine wpAny_bind (wpAny_mono (kat_run (E:=E) (Q:=λst' s'=>s'=s1/\∃p:Array Nat,p.size=vs.length/\arrOf st'=p.map (kas_item (vs.toArray.zip vs.toArray))/\failedOf st'=none/\G p) rfl (by omega) h64 (λp st' s' x1 x2 x3 x4=>⟨x4.1,p,x1,x2,x3,x4.2⟩) hw) ?_ λ_ _ e=>e)
  rintro⟨⟨⟩,st'⟩ s' ⟨rfl,p,hp,har,hf,hG⟩
  refine fin st' (p.toList.map λi=>vs.getD i Value.none) (kat_snds rfl har) hf (by rw[List.length_map,Array.length_toList,hp];exact h64) (.inr ⟨p,hp,hG,rfl⟩)
theorem zjd{r d:Addr}{T:String}{n:Nat}{Pn:Nat->Value->Prop}{OK:Heap->Prop}{R:List Value->Shared->Prop}(K:KdlSrc prog w T r d n Pn OK)(hh:A.handled=none)(hok:OK s.heap)(hn:n<=sizeLine)
 (q:∀(h':Heap) (tk:Nat) (acc:Array Value),(∀b o,s.heap.get? b=some o->h'.get? b=some o)->s.heap.objs.size<h'.objs.size->ItemsOf Pn acc n->R acc.toList {s with heap:=h',toks:=tk}):wpAny (model prog w) A (collect (.ref r)) R E s:=by
 have lt:=K.there _ hok
 have g0:(s.heap.push {cls:= .type "list",data:= .seq ([]:List Value).toArray}).get? s.heap.objs.size=some {cls:= .type "list",data:= .seq #[]}:=Heap.get?_push_size _ rfl
 have key:=kdl_extend (A:=A) (s:={s with heap:=s.heap.push {cls:= .type "list",data:= .seq ([]:List Value).toArray}}) (R:=λ(f:Result) (s':Shared)=>∃(h':Heap) (tk:Nat) (acc':Array Value) (c':Nat),f= .ok (.ret (.ref s.heap.objs.size))/\s'={s with heap:=h',toks:=tk}/\(∀b o,s.heap.get? b=some o->h'.get? b=some o)/\h'.get? s.heap.objs.size=some {cls:= .type "list",dict:=none,data:= .seq acc' c',slots:= #[]}/\ItemsOf Pn acc' n)
  K hh (K.keep _ _ hok λb _ o e=>Heap.get?_push_of_some _ e) s.heap.objs.size (Nat.ne_of_gt lt.1) (Nat.ne_of_gt lt.2) (.ref s.heap.objs.size) 0 g0 (λh' tk acc' c' kp gS ia=>⟨h',tk,acc',c',rfl,rfl,λb o e=>kp b o (Nat.ne_of_lt (Heap.lt_size e)) (Heap.get?_push_of_some _ e),gS,ia⟩) hn
 unfold collect
 refine wpAny_bind (wpAny_runValue (codeAny_builtin entry_proto_collect' (by
  rw[Around.under_plainId PySem.F.plain_proto_collect _]
  show wpAny _ A.in1 (newList []>>=λl=>again (.builtin "list.__iadd__" ⟨[l, .ref r],[]⟩)) _ _ s
  refine wpAny_bind (wpAny_newObj_type (wpAny_pure ⟨plainId_quiet PySem.F.plain_list_iadd _,codeAny_builtin entry_list_iadd' (by
   rw[Around.under_plainId PySem.F.plain_list_iadd _]
   show wpAny _ A.in1 (Builtin.List.listExtendWith (.ref s.heap.objs.size) (.ref r) (.ref s.heap.objs.size)) _ _ _
   refine wpAny_mono key (λfin s' x=>?_) λe s' x=>?_
   ·cases fin with
    |done f=>
     obtain⟨h',tk,acc',c',e,rfl,kp,gS,ia⟩:=x;cases e
     show wpAny _ A (load s.heap.objs.size>>=_) _ _ _
     exact wpAny_bind (wpAny_load gS (wpAny_pure (q h' tk acc' kp (Heap.lt_size gS) ia)))
    |again c₁=>
     refine⟨x.1,codeAny_mono x.2 λf s₂ y=>?_⟩
     obtain⟨h',tk,acc',c',rfl,rfl,kp,gS,ia⟩:=y
     show wpAny _ A (load s.heap.objs.size>>=_) _ _ _
     exact wpAny_bind (wpAny_load gS (wpAny_pure (q h' tk acc' kp (Heap.lt_size gS) ia)))
   ·obtain ⟨_,_,_,_,e',_⟩:=x
    cases e')⟩)))))
theorem zja{r d:Addr}{T:String}{OK:Heap->Prop}{ks:List Value}{R:Value->Shared->Prop}{G:Array Nat->Prop}{κ:SortKind}(K:KdlSrc prog w T r d ks.length (λi v=>ks[i]?=some v) OK)(hh:A.handled=none)(hok:OK s.heap)(h64:ks.length<64)
 (hk:2<=ks.length->∀s1:Shared,(∀b o,s.heap.get? b=some o->s1.heap.get? b=some o)->(∀C:SortKind->Shared->Prop,C κ s1->wpAny (model prog w) A.in1.in1 (keyKind' ks.toArray) C (λ_ _=>False) s1)/\(kas_sort ks.length).kasWp (kas_ask prog w A.in1.in1 κ ks) (λp s'=>s'=s1/\G p) s1)
 (q:∀(D:Addr) (out:List Value) (h':Heap) (tk c:Nat),(ks.length<2/\out=ks\/∃p:Array Nat,p.size=ks.length/\G p/\out=p.toList.map λi=>ks.getD i Value.none)->(∀b o,s.heap.get? b=some o->h'.get? b=some o)->
   s.heap.objs.size<=D->h'.get? D=some (seqObj "list" out.toArray c)->R (.ref D) {s with heap:=h',toks:=tk}):wpAny (model prog w) A (call (.builtin "sorted") [.ref r]) R E s:=by
 refine Calls.call_function_entry kind_sorted plain_sorted entry_sorted (args_sorted1 _) ?_
 unfold Builtin.«sorted»
 refine wpAny_bind (m:=checkCount "sorted" 1 1 _) (wpAny_pure (wpAny_bind (zjd (A:=A.in1) K hh hok (by rw[sizeLine_eq];omega) λh1 tk acc kp gr0 hacc=>?_)))
 have ea:acc.toList=ks:=by
  apply List.ext_getElem?
  intro i
  rcases Nat.lt_or_ge i ks.length with h|h
  ·have hi:i<acc.size:=by rw[hacc.1];exact h
   rw[Array.getElem?_toList,Array.getElem?_eq_getElem hi]
   exact(hacc.2 i acc[i] (by rw[Array.getElem?_eq_getElem hi])).symm
  ·rw[List.getElem?_eq_none h,List.getElem?_eq_none (by rw[Array.length_toList,hacc.1];exact h)]
 rw[ea]
 refine wpAny_bind (wpAny_newList ?_ (by rw[sizeLine_eq];omega))
 have hD:(h1.push (seqObj "list" ks.toArray 0)).get? h1.objs.size=some (seqObj "list" ks.toArray 0):=Heap.get?_push_size _ rfl
 have k2:∀b o,s.heap.get? b=some o->(h1.push (seqObj "list" ks.toArray 0)).get? b=some o:=λb o e=>Heap.get?_push_of_some _ (kp b o e)
 have gr:s.heap.objs.size<=h1.objs.size:=Nat.le_of_lt gr0
 show wpAny _ _ _ _ _ {s with heap:=h1.push (seqObj "list" ks.toArray 0),toks:=tk}
 refine wpAny_bind (wpAny_holding (wpAny_call_entry slot_list_sort ⟨_,hD,rfl⟩ entry_list_sort (zgN (G:=G) (κ:=κ) (s:={s with heap:=h1.push (seqObj "list" ks.toArray 0),toks:=tk}) hD h64 (λh2 s1 k1=>?_) λout h' c hc hkp hg=>?_) (args_list_sort _)))
 ·obtain ⟨x1,x2⟩:=hk h2 s1 λb o e=>k1.2 b o (Nat.ne_of_lt (Nat.lt_of_lt_of_le (Heap.lt_size e) gr)) (k2 b o e)
  exact⟨λC hC=>wpAny_mono (x1 C hC) (λ_ _ z=>z) λ_ _ z=>z.elim,x2⟩
 ·exact ⟨_,rfl,wpAny_pure ⟨_,rfl,q h1.objs.size out h' tk c hc (λb o e=>hkp b o (Nat.ne_of_lt (Nat.lt_of_lt_of_le (Heap.lt_size e) gr)) (k2 b o e)) gr hg⟩⟩
end
abbrev ltS(x y:Str):Bool:=decide (x.cps.toList<y.cps.toList)
def ltP(p q:Str×Str):Bool:=if p.1=q.1 then(if p.2=q.2 then false else ltS p.2 q.2)else ltS p.1 q.1
theorem zke:∀(a b:List Nat),a≠b->¬a<b->b<a
 |[],[],h,_=>absurd rfl h
 |[],b::bs,_,h=>absurd (List.nil_lt_cons b bs) h
 |a::as,[],_,_=>List.nil_lt_cons a as
 |a::as,b::bs,h,hn=>by
  rw[List.cons_lt_cons_iff] at hn⊢
  rcases Nat.lt_trichotomy a b with q|q|q
  ·exact absurd (.inl q) hn
  ·subst q
   exact .inr ⟨rfl,zke as bs (λz=>h (by rw[z])) (λz=>hn (.inr ⟨rfl,z⟩))⟩
  ·exact .inl q
theorem zjy:∀{a b c:List Nat},a<b->b<c->a<c
 |_,[],_,h,_=>absurd h (by simp)
 |_,_::_,[],_,h=>absurd h (by simp)
 |[],_::_,c::cs,_,_=>List.nil_lt_cons c cs
 |a::as,b::bs,c::cs,h1,h2=>by
  rw[List.cons_lt_cons_iff] at h1 h2⊢
  rcases h1 with h1|⟨rfl,h1⟩
  ·rcases h2 with h2|⟨rfl,h2⟩
   ·exact .inl (by omega)
   ·exact .inl h1
  ·rcases h2 with h2|⟨rfl,h2⟩
   ·exact .inl h2
   ·exact .inr ⟨rfl,zjy h1 h2⟩
theorem zhz:∀(a:List Nat),¬a<a
 |[],h=>absurd h (by simp)
 |a::as,h=>by
  rw[List.cons_lt_cons_iff] at h
  rcases h with h|⟨_,h⟩
  ·omega
  ·exact zhz as h
theorem zn4{x y:Str}(h:x.cps.toList=y.cps.toList):x=y:=by
 cases x;cases y
 simp only[Str.mk.injEq]
 exact Array.toList_inj.mp h
theorem zb9{x y:Str}(h:x≠y)(e:ltS x y=false):ltS y x=true:=decide_eq_true (zke _ _ (λz=>h (zn4 z)) (of_decide_eq_false e))
theorem zeK{x y z:Str}(h1:ltS x y=true)(h2:ltS y z=true):ltS x z=true:=decide_eq_true (zjy (of_decide_eq_true h1) (of_decide_eq_true h2))
theorem zed(x:Str):ltS x x=false:=decide_eq_false (zhz _)
theorem zcR{x y:Str}(h:ltS x y=true):ltS y x=false:=decide_eq_false λz=>zhz _ (zjy (of_decide_eq_true h) z)
theorem zjf{x y:Str}(h:ltS x y=true):x≠y:=λz=>by rw[z,zed] at h;cases h
theorem zoq{p q:Str×Str}(h:p≠q)(e:ltP p q=false):ltP q p=true:=by
 unfold ltP at e⊢
 by_cases h1:p.1=q.1
 ·rw[if_pos h1] at e
  rw[if_pos h1.symm]
  have h2:p.2≠q.2:=λz=>h (Prod.ext h1 z)
  rw[if_neg h2] at e
  rw[if_neg (Ne.symm h2)]
  exact zb9 h2 e
 ·rw[if_neg h1] at e
  rw[if_neg (Ne.symm h1)]
  exact zb9 h1 e
theorem zmT{p q r:Str×Str}(h1:ltP p q=true)(h2:ltP q r=true):ltP p r=true:=by
 unfold ltP at h1 h2⊢
 by_cases e1:p.1=q.1
 ·rw[if_pos e1] at h1
  by_cases e2:q.1=r.1
  ·rw[if_pos e2] at h2
   rw[if_pos (e1.trans e2)]
   by_cases f1:p.2=q.2
   ·rw[if_pos f1] at h1;cases h1
   ·by_cases f2:q.2=r.2
    ·rw[if_pos f2] at h2;cases h2
    ·rw[if_neg f1] at h1
     rw[if_neg f2] at h2
     have:=zeK h1 h2
     rw[if_neg (zjf this)];exact this
  ·rw[if_neg e2] at h2
   rw[if_neg (by rw[e1];exact e2),e1];exact h2
 ·rw[if_neg e1] at h1
  by_cases e2:q.1=r.1
  ·rw[if_neg (by rw[←e2];exact e1),←e2];exact h1
  ·rw[if_neg e2] at h2
   have:=zeK h1 h2
   rw[if_neg (zjf this)];exact this
theorem zhw(p:Str×Str):ltP p p=false:=by unfold ltP;rw[if_pos rfl,if_pos rfl]
theorem zoV{p q:Str×Str}(h:ltP p q=true):ltP q p=false:=by
 cases e:ltP q p with
 |false=>rfl
 |true=>have:=zmT h e;rw[zhw] at this;cases this
theorem zfh:∀(l:List Str),sortedS l=true->l.Nodup->l.Pairwise (λa b=>ltS a b=true)
 |[],_,_=> .nil
 |[x],_,_=>by simp
 |x::y::r,h,hn=>by
  have h':(!ltCps y.cps.toList x.cps.toList&&risingS y r)=true:=h
  rw[Bool.and_eq_true] at h'
  have hr:sortedS (y::r)=true:=h'.2
  have ih:=zfh (y::r) hr (List.nodup_cons.mp hn).2
  have hxy:ltS x y=true:=by
   have h1:ltS y x=false:=by
    have:=h'.1
    rw[ltCps_eq] at this
    simpa using this
   exact zb9 (λz=>(List.nodup_cons.mp hn).1 (by rw[z];exact List.mem_cons_self)) h1
  refine List.pairwise_cons.mpr ⟨λz hz=>?_,ih⟩
  rcases List.mem_cons.mp hz with rfl|hz
  ·exact hxy
  ·exact zeK hxy ((List.pairwise_cons.mp ih).1 z hz)
section
variable{X:Cx}
theorem zhH:CallR X (.builtin "sorted") (λxs H Q=>∃(p:Addr) (ss:List Str),xs=[.ref p]/\SqL X.K H p (ss.map V.str)/\ss.length<64/\ss.Nodup/\∀(ss':List Str) l,ss'.Perm ss->ss'.Pairwise (λa b=>ltS a b=true)->H l=none->Q (.ref l) (upd H l (.lst (ss'.map V.str)))):=by
 intro pins s σ H xs us Q I r h
 obtain⟨p,ss,rfl,hq,h64,hnd,q⟩:=h
 obtain⟨u,rfl,ru⟩:=zck r
 cases ru
 obtain⟨its,rv,pl,hz⟩:=I.list hq
 have hS:=zbA rv
 have hl:=rv.length
 rw[List.length_map] at hl
 refine sorted_strs pl.isList hS (by omega) λout ss' a1 a2 a3=>?_
 have nl:H (s.heap.objs.size+1)=none:=I.hok.fresh (Nat.le_succ _)
 obtain⟨e,he⟩:=sortedAll_at s.heap its out
 have hn':ss'.Nodup:=a2.nodup_iff.mpr hnd
 refine⟨.ref _,_,I.laid (a:=s.heap.objs.size+1) (o:= .lst (ss'.map V.str)) (t':=s.toks) (λb o hb=>sortedAll_old hb) (Nat.le_succ _) ⟨?_,out.toList,e,?_,?_⟩,rfl,q ss' _ a2 (zfh ss' a3 hn') nl⟩
 ·rw[List.length_map,a2.length_eq];exact Nat.le_of_lt (zk (by omega))
 ·have mk:∀{vs:List Value} {zs:List Str},StrsAre vs zs->Vals (zs.map V.str) vs:=by
   intro vs zs h
   induction h with
   |nil=>exact .nil
   |cons x t _ ih=>exact .cons ⟨t,rfl⟩ ih
  exact mk a1
 ·rw[Array.toArray_toList];exact he
def zpc(H:Hp)(vs:List V)(ps:List (Str×Str)):Prop:=vs.length=ps.length/\∀(i:Nat) (v:V) (p:Str×Str),vs[i]?=some v->ps[i]?=some p->∃b,v= .ref b/\H b=some (.tup [.str p.1, .str p.2])
def zgx(p:Str×Str):List Key:=[.inr p.1, .inr p.2]
def TupAt(h:Heap)(u:Value)(p:Str×Str):Prop:=∃b o n t1 t2,u= .ref b/\h.get? b=some o/\o.cls= .type "tuple"/\o.data= .seq #[.str p.1 t1, .str p.2 t2] n
theorem TupAt.keeps{h h':Heap}{u:Value}{p:Str×Str}(x:TupAt h u p)(k:∀b o,h.get? b=some o->h'.get? b=some o):TupAt h' u p:=let⟨b,o,n,t1,t2,e,g,r⟩:=x;⟨b,o,n,t1,t2,e,k _ _ g,r⟩
theorem zmG{prog:Program}{w:World}{A:Around}{E:Value->Shared->Prop}{s:Shared}{u v:Value}{p q:Str×Str}{C:Bool->Shared->Prop}(x:TupAt s.heap u p)(y:TupAt s.heap v q)(h:C (ltP p q) s):wpAny (model prog w) A (keyLt' (tuples' true) u v) C E s:=by
 obtain⟨b,o,n,t1,t2,rfl,g,_,d⟩:=x
 obtain⟨b',o',n',t3,t4,rfl,g',_,d'⟩:=y
 refine kat_lt g d g' d' ?_
 show KatLex prog w A true (decide (2<2)) C [(.str p.1 t1, .str q.1 t3),(.str p.2 t2, .str q.2 t4)] 0 s
 unfold ltP at h
 refine kat_cons (wpAny_eqBool_str ?_)
 by_cases e1:p.1=q.1
 ·rw[if_pos e1] at h
  rw[decide_eq_true e1]
  refine kat_yes (kat_cons (wpAny_eqBool_str ?_))
  by_cases e2:p.2=q.2
  ·rw[if_pos e2] at h
   rw[decide_eq_true e2]
   exact kat_yes (kat_nil h)
  ·rw[if_neg e2] at h
   rw[decide_eq_false e2]
   refine kat_no ?_
   show wpAny (model prog w) A (oneLt' false (.str p.2 t2) (.str q.2 t4)) C _ s
   exact kat_one _ _ (lt_str h)
 ·rw[if_neg e1] at h
  rw[decide_eq_false e1]
  refine kat_no ?_
  show wpAny (model prog w) A (oneLt' true (.str p.1 t1) (.str q.1 t3)) C _ s
  exact oneLt_str h
theorem zj8{h:Heap}:∀{us:List Value} {ps:List (Str×Str)},us.length=ps.length->(∀(i:Nat) (u:Value) (p:Str×Str),us[i]?=some u->ps[i]?=some p->TupAt h u p)->∃fs,KatTups h us fs/\fs.length=us.length/\∀f∈fs,∃x t,f=Value.str x t
 |[],[],_,_=>⟨[],trivial,rfl,λ_ z=>nomatch z⟩
 |[],_::_,z,_=>by simp at z
 |_::_,[],z,_=>by simp at z
 |u::us,p::ps,hl,hx=>by
  obtain⟨fs,h1,h2,h3⟩:=zj8 (us:=us) (ps:=ps) (by simpa using hl) λi u p e1 e2=>hx (i+1) u p (by simpa using e1) (by simpa using e2)
  obtain⟨b,o,n,t1,t2,rfl,g,c,d⟩:=hx 0 u p rfl rfl
  refine⟨.str p.1 t1::fs,KatTups.cons g c d rfl h1,by simp[h2],λf hf=>?_⟩
  rcases List.mem_cons.mp hf with rfl|hf
  ·exact ⟨_,_,rfl⟩
  ·exact h3 f hf
def pAt(ps:List (Str×Str))(i:Nat):Str×Str:=ps.getD i (⟨#[]⟩,⟨#[]⟩)
theorem zht{ps:List (Str×Str)}(hn:ps.Nodup):RW.Strict ps.length (λi j=>ltP (pAt ps i) (pAt ps j)) where
 tot:=λi j hi hj hij e=>zoq (λz=>hij ((List.getElem_inj hn (h₀:=hi) (h₁:=hj)).mp (by unfold pAt at z;simpa[hi,hj] using z))) e
 tr:=λi j k _ _ _ h1 h2=>zmT h1 h2
 asy:=λi j _ _ h=>zoV h
theorem zlt{ps:List (Str×Str)}{p:Array Nat}(hp:RW.PermN ps.length p)(hs:RW.Sor (λi j=>ltP (pAt ps i) (pAt ps j)) p ps.length):(p.toList.map (pAt ps)).Perm ps/\(p.toList.map (pAt ps)).Pairwise (λa b=>ltP a b=true):=by
 constructor
 ·have h1:=hp.map (pAt ps)
  have h2:(List.range ps.length).map (pAt ps)=ps:=by
   apply List.ext_getElem?
   intro i
   rw[List.getElem?_map]
   rcases Nat.lt_or_ge i ps.length with h|h
   ·rw[List.getElem?_range h]
    show some (pAt ps i)=_
    unfold pAt
    simp[h]
   ·rw[List.getElem?_eq_none (by simpa using h),List.getElem?_eq_none h];rfl
  rwa[h2] at h1
 ·have hz:=hp.size
  rw[List.pairwise_iff_getElem]
  intro i j hi hj hij
  have hi':i<p.size:=by simpa using hi
  have hj':j<p.size:=by simpa using hj
  have h:=hs i j hij (by omega)
  rw[RW.gd_get hi',RW.gd_get hj'] at h
  simpa using h
theorem zfw{α β:Type}{R:α->β->Prop}:∀{as:List α} {bs:List β},Paired R as bs->as.length=bs.length/\∀(i:Nat) (a:α) (b:β),as[i]?=some a->bs[i]?=some b->R a b
 |_,_, .nil=>⟨rfl,λi a b e=>by simp at e⟩
 |_,_, .cons h t=>by
  obtain⟨h1,h2⟩:=zfw t
  refine⟨by simp[h1],λi a b e1 e2=>?_⟩
  cases i with
  |zero=>simp at e1 e2;subst e1;subst e2;exact h
  |succ i=>exact h2 i a b (by simpa using e1) (by simpa using e2)
theorem zhD(hc:X.calm=true):CallR X (.builtin "sorted") (λxs H Q=>∃(d:Addr) (kvs:List (List Key×V)) (ps:List (Str×Str)),xs=[.ref d]/\H d=some (.dT kvs)/\kvs.map (·.1)=ps.map zgx/\ps.length<64/\
 ∀(ps':List (Str×Str)) (vs:List V) l,ps'.Perm ps->ps'.Pairwise (λa b=>ltP a b=true)->zpc H vs ps'->H l=none->Q (.ref l) (upd H l (.lst vs))):=by
 intro pins s σ H xs us Q I r h
 obtain⟨d,kvs,ps,rfl,hd,hk,h64,q⟩:=h
 obtain⟨u,rfl,ru⟩:=zck r
 cases ru
 obtain⟨_,nsys,zs,hp,o,es,ep,g,ex,dat,hes,hnd⟩:=(show ObjOk X.prog X.w H s.heap d (.dT kvs)from I.hok d _ hd)
 obtain⟨hl,hget⟩:=zfw hp
 have hlk:kvs.length=ps.length:=by have:=congrArg List.length hk;simpa using this
 have hnp:ps.Nodup:=by
  have e:zs.map (·.1)=kvs.map (·.1):=by
   apply List.ext_getElem?
   intro i
   rw[List.getElem?_map,List.getElem?_map]
   rcases Nat.lt_or_ge i kvs.length with h|h
   ·have h':i<zs.length:=by omega
    have:=(hget i kvs[i] zs[i] (by simp[h]) (by simp[h'])).1
    simp[h,h',this]
   ·rw[List.getElem?_eq_none h,List.getElem?_eq_none (by omega)];rfl
  rw[e,hk] at hnd
  exact(List.pairwise_map.mp hnd).imp λh z=>h (by rw[z])
 have kz:(zs.map λq=>Value.ref q.2.1).length=ps.length:=by rw[List.length_map];omega
 have raw:RawD s.heap d (zs.map λq=>Value.ref q.2.1) ep:=⟨o,es,g,ex,dat,by rw[hes,List.map_map];rfl⟩
 have keyA:∀i (h:i<ps.length),∃b,(zs.map λq=>Value.ref q.2.1)[i]?=some (.ref b)/\H b=some (.tup [.str ps[i].1, .str ps[i].2]):=λi h=>by
  have h1:i<kvs.length:=by omega
  have h2:i<zs.length:=by omega
  have hr:=hget i kvs[i] zs[i] (by simp[h1]) (by simp[h2])
  refine⟨zs[i].2.1,by simp[h2],?_⟩
  have ek:kvs[i].1=zgx ps[i]:=by
   have e1:(kvs.map (·.1))[i]?=some kvs[i].1:=by simp[h1]
   rw[hk] at e1
   have e2:(ps.map zgx)[i]?=some (zgx ps[i]):=by simp[h]
   rw[e1] at e2
   exact Option.some.inj e2
  rw[hr.2.1,ek]
  rfl
 have keyT:∀(i:Nat) (u:Value) (p:Str×Str),(zs.map λq=>Value.ref q.2.1)[i]?=some u->ps[i]?=some p->TupAt s.heap u p:=λi u p e1 e2=>by
  have hi:i<ps.length:=by
   rcases Nat.lt_or_ge i ps.length with z|z
   ·exact z
   ·rw[List.getElem?_eq_none z] at e2;cases e2
  obtain⟨b,f1,f2⟩:=keyA i hi
  rw[f1] at e1
  cases e1
  have ep':ps[i]=p:=by simpa[hi] using e2
  rw[ep'] at f2
  obtain⟨_,its,rv,⟨o',g',c',n',d'⟩,_⟩:=(show ObjOk X.prog X.w H s.heap b (.tup [.str p.1, .str p.2])from I.hok b _ f2)
  cases rv with
  |cons r1 rv=>cases rv with
   |cons r2 rv=>cases rv with
    |nil=>
     obtain⟨t1,rfl⟩:=r1
     obtain⟨t2,rfl⟩:=r2
     exact⟨b,o',n',t1,t2,rfl,g',c',d'⟩
 generalize hks:(zs.map λq=>Value.ref q.2.1)=ks at *
 refine zja (A:=X.A) (G:=λp=>RW.PermN ps.length p/\RW.Sor (λi j=>ltP (pAt ps i) (pAt ps j)) p ps.length) (κ:=tuples' true) (zob (ks:=ks) (ep:=ep) nsys) (I.ok.hd hc) raw (by omega) (λh2 s1 k1=>?_) (λD out h' tk c ho kp hD gD=>?_)
 ·have keyT1:∀(i:Nat) (u:Value) (p:Str×Str),ks[i]?=some u->ps[i]?=some p->TupAt s1.heap u p:=λi u p e1 e2=>(keyT i u p e1 e2).keeps k1
  obtain⟨fs,ft,fl,fa⟩:=zj8 kz keyT1
  refine⟨λC hC=>kat_kind (T:= .type "str") ft (by omega) (λf hf=>?_) rfl hC,?_⟩
  ·obtain ⟨x,t,rfl⟩:=fa f hf
   exact Looks.of_pure rfl
  ·rw[kz]
   refine RW.OkT.wp (N:=ps.length) (lt:=λi j=>ltP (pAt ps i) (pAt ps j)) (I:=λs'=>s'=s1) (λi j C s' hi hj e hC=>?_) (λp s' hp e=>⟨e,hp⟩) rfl (RW.sort_ok (zht hnp) (by omega))
   subst e
   have gi:∀i,i<ps.length->TupAt s'.heap (ks.getD i Value.none) (pAt ps i):=λi hi=>by
    have hi':i<ks.length:=by omega
    refine keyT1 i _ _ ?_ ?_
    ·simp[hi']
    ·unfold pAt;simp[hi]
   exact zmG (gi i hi) (gi j hj) (hC s' rfl)
 ·
  have nD:H D=none:=I.hok.fresh hD
  obtain⟨ps',hperm,hpw,hout⟩:∃ps':List (Str×Str),ps'.Perm ps/\ps'.Pairwise (λa b=>ltP a b=true)/\out.length=ps'.length/\∀(i:Nat) (u:Value) (p:Str×Str),out[i]?=some u->ps'[i]?=some p->∃b,u= .ref b/\H b=some (.tup [.str p.1, .str p.2]):=by
   rcases ho with⟨hlt,rfl⟩|⟨p,hp,⟨hP,hS⟩,rfl⟩
   ·refine ⟨ps, .refl _,?_,kz,λi u p e1 e2=>?_⟩
    ·match ps,(show ps.length<2 by omega)with
     |[],_=>exact .nil
     |[x],_=>exact List.pairwise_singleton _ _
    ·have hi:i<ps.length:=by
      rcases Nat.lt_or_ge i ps.length with z|z
      ·exact z
      ·rw[List.getElem?_eq_none z] at e2;cases e2
     obtain⟨b,f1,f2⟩:=keyA i hi
     rw[f1] at e1;cases e1
     have ep':ps[i]=p:=by simpa[hi] using e2
     rw[ep'] at f2
     exact⟨b,rfl,f2⟩
   ·obtain ⟨o1,o2⟩:=zlt hP hS
    refine⟨p.toList.map (pAt ps),o1,o2,by rw[List.length_map,List.length_map],λi u q e1 e2=>?_⟩
    rw[List.getElem?_map] at e1 e2
    cases hpi:p.toList[i]? with
    |none=>rw[hpi] at e1;cases e1
    |some j=>
     rw[hpi] at e1 e2
     have hj:j<ps.length:=List.mem_range.mp (hP.mem_iff.mp (List.mem_of_getElem? hpi))
     obtain⟨b,f1,f2⟩:=keyA j hj
     have hj':j<ks.length:=by omega
     have eu:ks.getD j Value.none= .ref b:=by
      rw[List.getD_eq_getElem?_getD,f1];rfl
     have e1':some (ks.getD j Value.none)=some u:=e1
     rw[eu] at e1'
     have e2':some (pAt ps j)=some q:=e2
     have eq:pAt ps j=ps[j]:=by unfold pAt;simp[hj]
     rw[eq] at e2'
     cases e1'
     cases e2'
     exact⟨b,rfl,f2⟩
  obtain⟨hol,hog⟩:=hout
  have hall:∀u∈out,∃b,u=Value.ref b:=λu hu=>by
   obtain⟨i,hi,rfl⟩:=List.getElem_of_mem hu
   obtain⟨b,e,_⟩:=hog i out[i] (ps'[i]'(by omega)) (by simp[hi]) (by simp[show i<ps'.length by omega])
   exact⟨b,e⟩
  obtain⟨vs,rvs⟩:∃vs:List V,Vals vs out/\∀(i:Nat) (b:Addr),out[i]?=some (.ref b)->vs[i]?=some (.ref b):=by
   clear hog hol gD ho
   induction out with
   |nil=>exact ⟨[], .nil,λi b e=>by simp at e⟩
   |cons u out ih=>
    obtain⟨vs,h1,h2⟩:=ih λu hu=>hall u (List.mem_cons_of_mem _ hu)
    obtain⟨b,rfl⟩:=hall u List.mem_cons_self
    refine⟨.ref b::vs, .cons rfl h1,λi b' e=>?_⟩
    cases i with
    |zero=>simpa using e
    |succ i=>exact h2 i b' (by simpa using e)
  have lv:vs.length=out.length:=rvs.1.length
  refine⟨.ref D,_,I.laid (a:=D) (o:= .lst vs) (t':=tk) kp hD ⟨by rw[lv,hol,hperm.length_eq];exact Nat.le_of_lt (zk (by omega)),out,c,rvs.1,gD⟩,rfl,q ps' vs D hperm hpw ⟨by omega,λi v p e1 e2=>?_⟩ nD⟩
  have hi:i<out.length:=by
   rcases Nat.lt_or_ge i out.length with z|z
   ·exact z
   ·rw[List.getElem?_eq_none (by omega)] at e1;cases e1
  obtain⟨b,f1,f2⟩:=hog i out[i] p (by simp[hi]) e2
  have:=rvs.2 i b (by rw[←f1];simp[hi])
  rw[this] at e1
  cases e1
  exact⟨b,rfl,f2⟩
end
def ziM(a c:Str)(t u:Tok)(i:Nat):Value:=if i=0 then .str a t else .str c u
section
variable{prog:Program}{w:World}{A:Around}{E:Value->Shared->Prop}{s:Shared}
theorem zhn{a c:Str}{t u:Tok}{i:Nat}{v:Value}(h:(#[Value.str a t,Value.str c u])[i]?=some v):(i=0/\v= .str a t)\/(i=1/\v= .str c u):=by
 match i,h with
 |0,h=>exact .inl ⟨rfl,by simpa using h.symm⟩
 |1,h=>exact .inr ⟨rfl,by simpa using h.symm⟩
 |i+2,h=>simp at h
theorem zhm{a c:Str}{t u:Tok}{R:Value->Shared->Prop}(hh:A.handled=none)(q:∀h' tk,(∀b o,s.heap.get? b=some o->h'.get? b=some o)->R (if ltS a c=true then .str c u else .str a t) {s with heap:=h',toks:=tk}):
 wpAny (model prog w) A (call (.builtin "max") [.str a t, .str c u]) R E s:=by
 have hT:(s.heap.push {cls:= .type "tuple",data:= .seq #[.str a t, .str c u]}).IsTuple s.heap.objs.size #[.str a t, .str c u]:=⟨_,Heap.get?_push_size _ rfl,rfl,0,rfl⟩
 have z:(s.heap.push {cls:= .type "tuple",data:= .seq #[.str a t, .str c u]}).objs.size=s.heap.objs.size+1:=Heap.size_push ..
 refine call_max_two (wpAny_pyIter_tuple hT ?_)
 refine⟨_,[_,s.heap.objs.size],[_],_,_,_,λi j=>ltS (strOf (ziM a c t u j)) (strOf (ziM a c t u i)),rfl,Walks.tuple (A:=A.in1) hh _ s.heap.objs.size (by rw[z];exact Nat.ne_of_lt (Nat.lt_succ_self _)) #[.str a t, .str c u],⟨⟨_,Heap.get?_push_size _ rfl,rfl,rfl⟩,hT.push _⟩,λb hb=>?_,(by decide:0<2),?_,λv h' tk hP hk=>?_⟩
 ·show b<((s.heap.push _).push _).objs.size
  rw[Heap.size_push,z]
  rcases List.mem_cons.mp hb with rfl|hb
  ·rw[z];exact Nat.lt_succ_self _
  ·rcases List.mem_cons.mp hb with rfl|hb
   ·exact Nat.lt_succ_of_lt (Nat.lt_succ_self _)
   ·cases hb
 ·intro i j vi vj s' R' E' hi hj hq
  rcases zhn hi with⟨rfl,rfl⟩|⟨rfl,rfl⟩<;>rcases zhn hj with⟨rfl,rfl⟩|⟨rfl,rfl⟩<;>exact (PySem.P.gt_str hq:wpAny (model prog w) A.in1 (compareOp .Gt _ _) R' E' s')
 ·have keep:∀b o,s.heap.get? b=some o->h'.get? b=some o:=λb o e=>hk b o (λhm=>by
   rcases List.mem_cons.mp hm with e1|hm
   ·have lb:=Heap.lt_size e
    rw[e1,z] at lb
    exact absurd lb (Nat.not_lt.mpr (Nat.le_succ _))
   ·cases hm) (Heap.get?_push_of_some _ (Heap.get?_push_of_some _ e))
  have fin:=q h' tk keep
  have eb:argBest (λi j=>ltS (strOf (ziM a c t u j)) (strOf (ziM a c t u i))) (2 -1)=if ltS a c=true then 1 else 0:=rfl
  have hP':(#[Value.str a t,Value.str c u])[if ltS a c=true then 1 else 0]?=some v:=hP
  by_cases hc:ltS a c=true
  ·rw[if_pos hc] at hP' fin
   have ev:Value.str c u=v:=by simpa using hP'
   rw[←ev];exact fin
  ·rw[if_neg hc] at hP' fin
   have ev:Value.str a t=v:=by simpa using hP'
   rw[←ev];exact fin
theorem zhF{a c:Str}{t u:Tok}{R:Value->Shared->Prop}(hh:A.handled=none)(q:∀h' tk,(∀b o,s.heap.get? b=some o->h'.get? b=some o)->R (if ltS c a=true then .str c u else .str a t) {s with heap:=h',toks:=tk}):
 wpAny (model prog w) A (call (.builtin "min") [.str a t, .str c u]) R E s:=by
 have hT:(s.heap.push {cls:= .type "tuple",data:= .seq #[.str a t, .str c u]}).IsTuple s.heap.objs.size #[.str a t, .str c u]:=⟨_,Heap.get?_push_size _ rfl,rfl,0,rfl⟩
 have z:(s.heap.push {cls:= .type "tuple",data:= .seq #[.str a t, .str c u]}).objs.size=s.heap.objs.size+1:=Heap.size_push ..
 refine call_min_two (wpAny_pyIter_tuple hT ?_)
 refine⟨_,[_,s.heap.objs.size],[_],_,_,_,λi j=>ltS (strOf (ziM a c t u i)) (strOf (ziM a c t u j)),rfl,Walks.tuple (A:=A.in1) hh _ s.heap.objs.size (by rw[z];exact Nat.ne_of_lt (Nat.lt_succ_self _)) #[.str a t, .str c u],⟨⟨_,Heap.get?_push_size _ rfl,rfl,rfl⟩,hT.push _⟩,λb hb=>?_,(by decide:0<2),?_,λv h' tk hP hk=>?_⟩
 ·show b<((s.heap.push _).push _).objs.size
  rw[Heap.size_push,z]
  rcases List.mem_cons.mp hb with rfl|hb
  ·rw[z];exact Nat.lt_succ_self _
  ·rcases List.mem_cons.mp hb with rfl|hb
   ·exact Nat.lt_succ_of_lt (Nat.lt_succ_self _)
   ·cases hb
 ·intro i j vi vj s' R' E' hi hj hq
  rcases zhn hi with⟨rfl,rfl⟩|⟨rfl,rfl⟩<;>rcases zhn hj with⟨rfl,rfl⟩|⟨rfl,rfl⟩<;>exact (lt_str hq:wpAny (model prog w) A.in1 (compareOp .Lt _ _) R' E' s')
 ·have keep:∀b o,s.heap.get? b=some o->h'.get? b=some o:=λb o e=>hk b o (λhm=>by
   rcases List.mem_cons.mp hm with e1|hm
   ·have lb:=Heap.lt_size e
    rw[e1,z] at lb
    exact absurd lb (Nat.not_lt.mpr (Nat.le_succ _))
   ·cases hm) (Heap.get?_push_of_some _ (Heap.get?_push_of_some _ e))
  have fin:=q h' tk keep
  have eb:argBest (λi j=>ltS (strOf (ziM a c t u i)) (strOf (ziM a c t u j))) (2 -1)=if ltS c a=true then 1 else 0:=rfl
  have hP':(#[Value.str a t,Value.str c u])[if ltS c a=true then 1 else 0]?=some v:=hP
  by_cases hc:ltS c a=true
  ·rw[if_pos hc] at hP' fin
   have ev:Value.str c u=v:=by simpa using hP'
   rw[←ev];exact fin
  ·rw[if_neg hc] at hP' fin
   have ev:Value.str a t=v:=by simpa using hP'
   rw[←ev];exact fin
end
section
variable{X:Cx}
theorem zdY(hc:X.calm=true):CallR X (.builtin "max") (λxs H Q=>∃a c,xs=[.str a, .str c]/\Q (.str (if ltS a c=true then c else a)) H):=by
 intro pins s σ H xs us Q I r h
 obtain⟨i,j,rfl,q⟩:=h
 obtain⟨u,w',rfl,⟨t,rfl⟩,⟨t',rfl⟩⟩:=zdM r
 refine zhm (I.ok.hd hc) λh' tk k=>⟨_,H,I.kept k,?_,q⟩
 by_cases hj:ltS i j=true
 ·rw[if_pos hj,if_pos hj];exact⟨_,rfl⟩
 ·rw[if_neg hj,if_neg hj];exact⟨_,rfl⟩
theorem zdS(hc:X.calm=true):CallR X (.builtin "min") (λxs H Q=>∃a c,xs=[.str a, .str c]/\Q (.str (if ltS c a=true then c else a)) H):=by
 intro pins s σ H xs us Q I r h
 obtain⟨i,j,rfl,q⟩:=h
 obtain⟨u,w',rfl,⟨t,rfl⟩,⟨t',rfl⟩⟩:=zdM r
 refine zhF (I.ok.hd hc) λh' tk k=>⟨_,H,I.kept k,?_,q⟩
 by_cases hj:ltS j i=true
 ·rw[if_pos hj,if_pos hj];exact⟨_,rfl⟩
 ·rw[if_neg hj,if_neg hj];exact⟨_,rfl⟩
end
section
open PySem.SeqAt
open PySem.AutoSeq1 (wpAny_loadPart')
open PySem.MeetsSeq PySem.MeetsSeq2 PySem.MeetsSeq3
theorem zgg(l b:Addr)(n n2:Nat)(dd dd2:Option Addr)(sl sl2:Array (Option Value))(x y z v:Str)(t1 t2 t3 t4:Tok):
 Meets (Builtin.«tuple.__lt__» ⟨[.ref l, .ref b],[]⟩) (λ_ R s=>s.heap.get? l=some {cls:= .type "tuple",dict:=dd,data:= .seq #[.str x t1, .str y t2] n,slots:=sl}/\s.heap.get? b=some {cls:= .type "tuple",dict:=dd2,data:= .seq #[.str z t3, .str v t4] n2,slots:=sl2}/\R (.ok (.ret (.bool (ltP (x,y) (z,v))))) s):=
 .of_wp λprog w A R s h=>by
  obtain⟨hp,g,d,tk,os⟩:=s;obtain⟨hl,hb,h⟩:=h
  have f2:=AutoSeq1.sub_tuple_tuple
  have cmp:∀(a c:Str) (t u:Tok) (E:Value->Shared->Prop) (Q:Value->Shared->Prop),Q (.bool (ltS a c)) ⟨hp,g,d,tk,os⟩->wpAny (model prog w) A.in1 (richCompare .Lt (.str a t) (.str c u)) Q E ⟨hp,g,d,tk,os⟩:=λa c t u E Q hq=>(PyProof.Rows.lt_str hq:wpAny (model prog w) A.in1 (compareOp .Lt (.str a t) (.str c u)) Q E ⟨hp,g,d,tk,os⟩)
  wp_walk using wpAny_loadPart' hl,wpAny_loadPart' hb,wpAny_forIn_list _ (λrest b s'=>b.1=none/\s'=⟨hp,g,d,tk,os⟩/\((rest=[(Value.str x t1,Value.str z t3),(Value.str y t2,Value.str v t4)])\/(rest=[(Value.str y t2,Value.str v t4)]/\x=z)\/(rest=[]/\x=z/\y=v))) _
  case turn=>
   rintro⟨p,q⟩ rest b s' ⟨hb',rfl,hr⟩
   rcases hr with hr|⟨hr,ex⟩|⟨hr,_⟩
   ·injection hr with h1 h2
    injection h1 with h3 h4
    subst h3 h4
    refine wpAny_bind (wpAny_eqBool_str ?_)
    by_cases ex:x=z
    ·rw[decide_eq_true ex]
     wp_walk
     exact⟨rfl,rfl, .inr (.inl ⟨h2,ex⟩)⟩
    ·rw[decide_eq_false ex]
     have c1:=cmp x z t1 t3
     wp_walk using c1
     unfold ltP at h
     rw[if_neg ex] at h
     exact⟨_,rfl,h⟩
   ·injection hr with h1 h2
    injection h1 with h3 h4
    subst h3 h4
    refine wpAny_bind (wpAny_eqBool_str ?_)
    by_cases ey:y=v
    ·rw[decide_eq_true ey]
     wp_walk
     exact⟨rfl,rfl, .inr (.inr ⟨h2,ex,ey⟩)⟩
    ·rw[decide_eq_false ey]
     have c1:=cmp y v t2 t4
     wp_walk using c1
     unfold ltP at h
     rw[if_pos ex,if_neg ey] at h
     exact⟨_,rfl,h⟩
   ·cases hr
  case fin=>
   rintro⟨b1,b2⟩ s' ⟨hb',rfl,hr⟩
   simp only at hb'
   subst hb'
   rcases hr with hr|⟨hr,_⟩|⟨_,ex,ey⟩
   ·cases hr
   ·cases hr
   ·unfold ltP at h
    rw[if_pos ex,if_pos ey] at h
    wp_walk
    exact⟨_,rfl,h⟩
  case h=>
   exact⟨rfl,rfl, .inl rfl⟩
end
section
variable{X:Cx}{K:PySem.W.Frag}
def zrx:R2:=λx y H Q=>∃a b p q,x= .ref a/\y= .ref b/\H a=some (.tup [.str p.1, .str p.2])/\H b=some (.tup [.str q.1, .str q.2])/\Q (.bl (ltP p q)) H
theorem zkm{pins:List (Addr×Obj)}{σ:St}{H:Hp}{s:Shared}{a:Addr}{p:Str×Str}(I:Inv X pins σ H s)(h:H a=some (.tup [.str p.1, .str p.2])):∃t1 t2 n dd sl,s.heap.get? a=some {cls:= .type "tuple",dict:=dd,data:= .seq #[.str p.1 t1, .str p.2 t2] n,slots:=sl}:=by
 obtain⟨_,its,rv,⟨o',g',c',n',d'⟩,_⟩:=(show ObjOk X.prog X.w H s.heap a (.tup [.str p.1, .str p.2])from I.hok a _ h)
 cases rv with
 |cons r1 rv=>cases rv with
  |cons r2 rv=>cases rv with
   |nil=>
    obtain⟨t1,rfl⟩:=r1
    obtain⟨t2,rfl⟩:=r2
    obtain⟨cls,dd,data,sl⟩:=o'
    simp only at c' d'
    subst c' d'
    exact⟨t1,t2,n',dd,sl,g'⟩
theorem zp5(hu:X.A.units<cLine):OpR X (compareOp .Lt) zrx:=by
 intro pins s σ H x y v u Q I rx ry h
 obtain⟨a,b,p,q,rfl,rfl,ha,hb,fin⟩:=h
 cases rx
 cases ry
 obtain⟨t1,t2,n,dd,sl,g1⟩:=zkm I ha
 obtain⟨t3,t4,n2,dd2,sl2,g2⟩:=zkm I hb
 exact richCompare_meets_room (op:= .Lt) ⟨_,g1,rfl⟩ ⟨_,g2,rfl⟩ PySem.F.slot_tuple_lt PySem.F.entry_tuple_lt (PySem.F.args_tuple_lt_2 _ _) (zgg a b n n2 dd dd2 sl sl2 p.1 p.2 q.1 q.2 t1 t2 t3 t4)
  ⟨g1,g2,show Value.bool (ltP p q)≠Value.notImplemented/\EP X pins σ Q (.bool (ltP p q)) s from⟨(λx=>nomatch x),⟨.bl (ltP p q),H,I,rfl,fin⟩⟩⟩ hu
def zrZ:R2:=λx y H Q=>(∃i j,x= .str i/\y= .str j/\Q (.bl (ltS i j)) H)\/zrx x y H Q
theorem zqG(hu:X.A.units<cLine):OpR X (compareOp .Lt) zrZ:=op_lt_str.or (zp5 hu)
def zpG(K:PySem.W.Frag):R2:=λx y H Q=>∃a b xs ys,x= .ref a/\y= .ref b/\SqT K H a xs/\SqT K H b ys/\xs.length+ys.length<=sizeLine/\
 (xs=[]->Q (.ref b) H)/\(xs≠ []->ys=[]->Q (.ref a) H)/\(xs≠ []->ys≠ []->∀p,H p=none->Q (.ref p) (upd H p (.tup (xs ++ys))))
theorem zeu:OpR X (binaryOp .Add) (zpG X.K):=by
 intro pins s σ H x y v u Q I rx ry h
 obtain⟨a,b,xs,ys,rfl,rfl,ha,hb,hz,q0,q1,q2⟩:=h
 by_cases hx:xs=[]
 ·cases rx
  cases ry
  obtain⟨its,r1,p1,_⟩:=I.tuple ha
  obtain⟨its2,r2,p2,_⟩:=I.tuple hb
  have e1:its=[]:=r1.nil_iff.mpr hx
  obtain⟨⟨cls,dd,data,sl⟩,ho,hc,n,hd⟩:=id p1
  obtain⟨⟨cls2,dd2,data2,sl2⟩,ho2,hc2,n2,hd2⟩:=id p2
  simp only at hc hd hc2 hd2
  subst hc hd hc2 hd2
  exact concat_meets ⟨_,ho,rfl⟩ ⟨_,ho2,rfl⟩ noFill_tuple_add seq_tuple_add PySem.F.slot_tuple_add PySem.F.entry_tuple_add (PySem.F.args_tuple_add_2 _ _) (tuple_addW0 a b its.toArray its2.toArray n n2 dd dd2 sl sl2 (by simp[e1])) ⟨ho,ho2,⟨.ref b,H,I,rfl,q0 hx⟩⟩
 ·exact zos pins s σ H _ _ v u Q I rx ry ⟨a,b,xs,ys,rfl,rfl,ha,hb,hx,hz,q1 hx,q2 hx⟩
theorem zm5(h:X.K=K):OpR X (binaryOp .Add) (zpG K):=by subst h;exact zeu
end
section
open PySem.AutoSeq1 (wpAny_loadPart')
end
section
variable{X:Cx}{K:PySem.W.Frag}
theorem hu1{k:Nat}{A:Around}(r:Room k A):A.units+1<cLine:=by have:=r.units;omega
end
section
variable{X:Cx}{a b o i value:Expr}{x y:Str}{px py pt pt2 pos pos':Pos}{kt k2:Nat}{ta:TA}{td ty tv:TE}
theorem zpB(m n:Nat)(hN:X.N.Nodup)(ha:QA X [a,b] ta)(hc:X.calm=true:=by rfl)(hi:X.N[m]?=some x:=by rfl)(hj:X.N[n]?=some y:=by rfl)(hij:m≠n:=by decide)
 (hx:X.env.scope.names.lookup x=some .local:=by rfl) (hy:X.env.scope.names.lookup y=some .local:=by rfl)
 (hw:swappedStores [.Tuple [.Name x px, .Name y py] kt pt] (.Tuple [a,b] k2 pt2) X.env=pure (some [x,y]):=by rfl)
 (hs:swapsWithSole [.Tuple [.Name x px, .Name y py] kt pt] (.Tuple [a,b] k2 pt2) pos.line X.env=pure false:=by rfl):
 QS X (.Assign [.Tuple [.Name x px, .Name y py] kt pt] (.Tuple [a,b] k2 pt2) pos) (zrC m n ta):=⟨zp1 hc hN hi hj hij hx hy ha.o hw hs⟩
theorem zdU(hu:X.A.units+1<cLine)(ho:QE X o td)(hi:QE X i ty)(hv:QE X value tv)(hs:swapsWith value (some (.Subscript o i pos')) pos.line X.env=pure false:=by rfl):
 QS X (.Assign [.Subscript o i pos'] value pos) (zpn td ty tv):=⟨zn5 hu ho.o hi.o hv.o hs⟩
theorem znQ:QE X (.Dict [] [] pos) znb:=⟨zl9⟩
end
end L2
namespace RW
open PySem PySem.Spec PyProof.Rows L2
def ltD:D->D->Bool
 | .str x, .str y=>ltS x y
 | .tup [.str a, .str b], .tup [.str c, .str d]=>ltP (a,b) (c,d)
 |_,_=>false
def isStrD:D->Bool| .str _=>true|_=>false
def zbJ(ds:List D):Bool:=(List.range (ds.length -1)).all λk=>ltD (ds.getD k .non) (ds.getD (k+1) .non)
def areHousesB:D->Bool| .tup ds=>decide (1<=ds.length)&&decide (ds.length<=10)&&ds.all zbI&&zbJ ds|_=>false
def inD(hs:List Str):D->Bool| .str x=>hs.any λy=>decide (y=x)|_=>false
def zaa(hs:List Str)(d:D):Bool:=zbI d&&inD hs d
def zcs:D->Bool| .tup ds=>decide (ds.length<=90)&&ds.all z6|_=>false
def zcC:D->Bool| .tup ds=>decide (ds.length<=90)&&ds.all zcq|_=>false
def zjB:D->List Str| .tup ds=>ds.filterMap (λd=>match d with| .str x=>some x|_=>none)|_=> []
def zlG(g:D->Bool):D->Bool| .tup ds=>ds.all g|_=>false
theorem strs_map(xs:List Str):zjB (.tup (xs.map D.str))=xs:=by
 show(xs.map D.str).filterMap _=xs
 rw[List.filterMap_map]
 exact List.filterMap_some
theorem zlm{xs:List Str}(h:xs.Pairwise (λa b=>ltS a b=true)):zbJ (xs.map D.str)=true:=by
 unfold zbJ
 rw[List.all_eq_true]
 intro k hk
 have hk':k+1<xs.length:=by have:=List.mem_range.mp hk;rw[List.length_map] at this;omega
 have e:∀i,i<xs.length->(xs.map D.str).getD i .non=D.str (xs.getD i ⟨#[]⟩):=λi hi=>by simp[List.getD,hi]
 rw[e k (by omega),e (k+1) hk']
 show ltS _ _=true
 have:=List.pairwise_iff_getElem.mp h k (k+1) (by omega) hk' (by omega)
 simpa[List.getD,hk',show k<xs.length by omega] using this
theorem zlW(z:Str)(n:Nat):(zf2 z n).cps.toList=(List.replicate n z.cps.toList).flatten:=by
 unfold zf2
 have key:∀(k:Nat) (acc:Array Nat),((List.replicate k z.cps).foldl (·++·) acc).toList=acc.toList ++(List.replicate k z.cps.toList).flatten:=by
  intro k
  induction k with
  |zero=>intro acc;simp
  |succ k ih=>intro acc;rw[List.replicate_succ,List.foldl_cons,ih,List.replicate_succ,List.flatten_cons,Array.toList_append,List.append_assoc]
 have:=key n #[]
 simpa using this
theorem zcu(c n:Nat):(zf2 (one c) n).cps.toList=List.replicate n c:=by
 rw[zlW]
 show(List.replicate n [c]).flatten=_
 induction n with
 |zero=>rfl
 |succ n ih=>rw[List.replicate_succ,List.flatten_cons,ih,List.replicate_succ];rfl
def zkQ(x:Str):Bool:=x.cps.toList.all λc=>some c==x.cps.toList.head?
theorem zix(c n:Nat):zkQ (zf2 (one c) n)=true:=by
 unfold zkQ
 rw[zcu]
 cases n with
 |zero=>rfl
 |succ n=>
  rw[List.all_eq_true]
  intro d hd
  rw[List.eq_of_mem_replicate hd]
  simp[List.replicate_succ]
def keptL:List Str:=["goal","to","by","houses","tie","like","hand","keep","put","mark","long","from","strike"]
theorem zor:∀x∈keptL,zg x=true:=by decide +kernel
theorem zlh:∀x∈keptL,zkQ x=false:=by decide +kernel
theorem zoF:∀c∈lettersS.cps.toList,∀k∈List.range 8,zg (zf2 (one c) (k+1))=true:=by decide +kernel
theorem ziF:lettersS.length=26:=by decide +kernel
theorem zfz:∀k∈List.range 26,lettersS.cps.toList[k]?=some (97+k):=by decide +kernel
theorem zkr(c:Nat):(one c).length=1:=rfl
def zmf:List Nat:=[1,3,5,7,9,11]
theorem znf:∀f∈List.range 26,∀st∈zmf,((List.range 13).map λk=>(f+st*k)%26).Nodup:=by decide +kernel
def nmS(f st k:Nat):Str:=zf2 (one (97+(f+st*k)%26)) (1+(k*k+f)%8)
def kwS(sp k:Nat):Str:=keptL.getD ((sp+3*k)%13) ""
def zbv(f st sp j k:Nat):Str:=if k<j then kwS sp k else nmS f st k
theorem zqi:∀sp∈List.range 13,((List.range 4).map λk=>kwS sp k).Nodup:=by decide +kernel
theorem zjz(sp k:Nat):kwS sp k∈keptL:=by
 unfold kwS
 have h:(sp+3*k)%13<keptL.length:=Nat.mod_lt _ (by decide)
 simp[List.getD,h]
theorem zm6{α:Type}{l:List α}(h:l.Nodup){i j:Nat}(hi:i<l.length)(hj:j<l.length)(hij:i≠j):l[i]≠l[j]:=λz=>hij ((List.getElem_inj h).mp z)
theorem ziH{f st sp j m:Nat}(hf:f<26)(hst:st∈zmf)(hsp:sp<13)(hj:j<=4)(hm:m<=13):((List.range m).map (zbv f st sp j)).Nodup:=by
 have key:∀a b,a<b->b<13->zbv f st sp j a≠zbv f st sp j b:=by
  intro a b hab hb
  unfold zbv
  by_cases h1:a<j
  ·rw[if_pos h1]
   by_cases h2:b<j
   ·rw[if_pos h2]
    have:=zm6 (zqi sp (List.mem_range.mpr hsp)) (i:=a) (j:=b) (by simp;omega) (by simp;omega) (by omega)
    simpa using this
   ·rw[if_neg h2]
    intro z
    have e1:=zlh _ (zjz sp a)
    rw[z] at e1
    unfold nmS at e1
    rw[zix] at e1
    cases e1
  ·rw[if_neg h1,if_neg (by omega)]
   intro z
   have hh:(nmS f st a).cps.toList.head?=(nmS f st b).cps.toList.head?:=by rw[z]
   unfold nmS at hh
   rw[zcu,zcu,Nat.add_comm 1,Nat.add_comm 1,List.replicate_succ,List.replicate_succ] at hh
   simp only[List.head?_cons,Option.some.injEq] at hh
   have:=zm6 (znf f (List.mem_range.mpr hf) st hst) (i:=a) (j:=b) (by simp;omega) (by simp;omega) (by omega)
   simp at this
   omega
 rw[List.nodup_iff_pairwise_ne,List.pairwise_map]
 refine List.Pairwise.imp_of_mem (λ{a b} ha hb hab=>?_) (List.pairwise_lt_range (n:=m))
 exact key a b hab (by have:=List.mem_range.mp hb;omega)
theorem zrh(f st k:Nat):zg (nmS f st k)=true:=by
 unfold nmS
 rw[Nat.add_comm 1]
 have hr:(f+st*k)%26<26:=Nat.mod_lt _ (by decide)
 exact zoF _ (List.mem_of_getElem? (zfz _ (List.mem_range.mpr hr))) _ (List.mem_range.mpr (Nat.mod_lt _ (by decide)))
theorem zoI(f st sp j k:Nat):zg (zbv f st sp j k)=true:=by
 unfold zbv
 split
 ·exact zor _ (zjz sp k)
 ·exact zrh f st k
theorem zmB{f st sp j m:Nat}(hj:j<m):((List.range m).map (zbv f st sp j)).set j (kwS sp j)=(List.range m).map (zbv f st sp (j+1)):=by
 apply List.ext_getElem?
 intro i
 rw[List.getElem?_set]
 by_cases e:j=i
 ·subst e
  rw[if_pos rfl,if_pos (by simp;exact hj)]
  simp[hj,zbv]
 ·rw[if_neg e]
  rcases Nat.lt_or_ge i m with h|h
  ·rw[List.getElem?_map,List.getElem?_map,List.getElem?_range h]
   show some _=some _
   congr 1
   unfold zbv
   by_cases h1:i<j
   ·rw[if_pos h1,if_pos (by omega)]
   ·rw[if_neg h1,if_neg (by omega)]
  ·rw[List.getElem?_eq_none (by simpa using h),List.getElem?_eq_none (by simpa using h)]
theorem zox{sp k:Nat}:keptL[(sp+3*k)%13]?=some (kwS sp k):=by
 unfold kwS
 have h:(sp+3*k)%13<keptL.length:=Nat.mod_lt _ (by decide)
 simp[List.getD,h]
theorem zfT{xs:List V}{m:Nat}:zb1 xs (some (m:Int)) none=xs.drop m:=by
 unfold zb1
 have e1:HT.sIx xs.length xs.length none=xs.length:=rfl
 have e2:HT.sIx xs.length 0 (some (m:Int))=min m xs.length:=by
  unfold HT.sIx
  have h:¬(m:Int)<0:=by omega
  simp only[if_neg h,Int.toNat_natCast]
 rw[e1,e2]
 rcases Nat.lt_or_ge m xs.length with h|h
 ·rw[Nat.min_eq_left (by omega),List.take_of_length_le (by rw[List.length_drop];omega)]
 ·rw[Nat.min_eq_right h,List.drop_of_length_le (Nat.le_refl _),List.drop_of_length_le h];simp
theorem ze2{J:It}{N:Nat}{Pw:Nat->V->Prop}{ok:Hp->Prop}{a:Addr}{m c:Int}{Pd:Nat->D->Prop}{H:Hp}{te:TE}{src:List (Option Nat)}{σ σr:L2.St}{Q:VK}(wk:Wk J N Pw ok)(hok:∀H',Keep a H H'->ok H')(hs:zfX src σ=none::σr)(hH:Hand H a m)(hN:N<=900)(hc:0<=c)
 (he:∀(i:Nat) (x:V) (H1:Hp) (Q1:VK),i<N->Hand H1 a (m+c*i)->Keep a H H1->(∀v d H2,Rep H2 v d->Pd i d->Hand H2 a (m+c*i+c)->Keep a H1 H2->Q1 v H2)->te (some x::σr) H1 Q1)
 (q:∀l vs ds H',H l=none->H' l=some (.lst vs)->RepL H' vs ds->ds.length=N->(∀i d,ds[i]?=some d->Pd i d)->Hand H' a (m+c*N)->Keep a H H'->Q (.ref l) H'):zd0 (zap 0) znF te src σ Q J H:=by
 refine zX wk (λl i ys σ' H'=>(∃o,σ'=o::σr)/\(∃ds:List D,RepL H' ys ds/\ds.length=i/\∀j d,ds[j]?=some d->Pd j d)/\Hand H' a (m+c*i)/\Keep a H H') ?_ (λ_ _ _ _ _ _ p=>hok _ p.2.2.2) ?_ ?_
 ·exact λl hl=>⟨⟨_,hs⟩,⟨[],RepL.nil,rfl,λj d z=>by simp at z⟩,(hH.new hl).mono (by simp),Keep.new hl⟩
 ·rintro l i y ys σ' H1 hl hi hy ⟨⟨o,rfl⟩,⟨ds,hr,hl2,hp⟩,hH1,k1⟩ hl'
  have nl:=hH.ne hl
  refine he i y H1 _ hi hH1 k1 λv d H2 rv pd hH2 k2=>?_
  have hl2':H2 l=some (.lst ys):=k2 _ _ nl hl'
  have m2:Mono H1 H2:=Mono.keep k2 hH1 hH2
  have m3:Mono H2 (upd H2 l (.lst (ys ++ [v]))):=Mono.lset hl2'
  refine⟨hl2',?_,⟨_,rfl⟩,⟨ds ++ [d],((hr.mono m2).append (.cons rv .nil)).mono m3,?_,?_⟩,(hH2.updNe nl).mono ?_,(k1.trans k2).updNew hl⟩
  ·have:=hr.1
   exact zk (by omega)
  ·rw[List.length_append,hl2];rfl
  ·intro j e he
   by_cases hj:j<ds.length
   ·rw[List.getElem?_append_left hj] at he
    exact hp j e he
   ·rw[List.getElem?_append_right (by omega)] at he
    have hj2:j=ds.length:=by
     rcases Nat.lt_or_ge ds.length j with z|z
     ·rw[List.getElem?_eq_none (by simp;omega)] at he;cases he
     ·omega
    subst hj2
    simp at he
    subst he
    rw[hl2];exact pd
  ·rw[show((i+1:Nat):Int)=(i:Int)+1 by omega,Int.mul_add,Int.mul_one]
   omega
 ·rintro l ys σ' H1 hl ⟨⟨o,rfl⟩,⟨ds,hr,hl2,hp⟩,hH1,k1⟩ hl'
  exact q l ys ds H1 hl hl' hr hl2 hp hH1 k1
def pairD(p:Str×Str):D:= .tup [.str p.1, .str p.2]
structure TownOk(g:Str)(hs:List Str)(ps:List (Str×Str))(lks hds:List D):Prop where
 rise:hs.Pairwise (λa b=>ltS a b=true)
 one:1<=hs.length
 ten:hs.length<=10
 names:∀x∈hs,zg x=true
 goal:g∈hs
 riseP:ps.Pairwise (λa b=>ltP a b=true)
 ties:∀p∈ps,p.1∈hs/\p.2∈hs/\ltS p.1 p.2=true
 ll:lks.length=hs.length
 lh:hds.length=hs.length
 likes:∀d∈lks,zcs d=true
 hands:∀d∈hds,zcC d=true
def zaE(g:Str)(hs:List Str)(ps:List (Str×Str))(lks hds:List D):D:= .tup [.str g, .tup (hs.map D.str), .tup (ps.map pairD), .tup lks, .tup hds]
theorem zno{hs:List Str}{x:Str}(h:x∈hs)(hn:zg x=true):zaa hs (.str x)=true:=by
 show(zg x&&hs.any λy=>decide (y=x))=true
 rw[hn,List.any_eq_true.mpr ⟨x,h,decide_eq_true rfl⟩];rfl
section
variable{te tf:TE}{ta:TA}{tb:TS}{De:Ends}{σ:L2.St}{H:Hp}{d:D}{ds es:List D}{K:PySem.W.Frag}{k:Nat}
end
section
variable{te tf:TE}{σ:L2.St}{H:Hp}{d:D}{ds es:List D}{K:PySem.W.Frag}
theorem zki{J:It}{vs:List V}{f:D->D}{g:D->Bool}{ok:Hp->Prop}{tc:TT}{src:List (Option Nat)}{σr:L2.St}{Q:VK}(wk:Wk J vs.length (λi x=>vs[i]?=some x) ok)(hok:∀H',Same H H'->ok H')(r:RepL H vs ds)(hl:ds.length<=900)(e:zfX src σ=none::σr)
 (hc:∀(x:V) (d:D) (H1:Hp) (Q1:Bool->Hp->Prop),Same H H1->Rep H1 x d->d∈ds->(∀H2,Same H1 H2->Q1 (g d) H2)->tc (some x::σr) H1 Q1)
 (he:∀(x:V) (d:D) (H1:Hp),Same H H1->Rep H1 x d->d∈ds->Dsp te (some x::σr) H1 (f d))
 (q:∀l us H',Same H H'->H l=none->H' l=some (.lst us)->RepL H' us ((ds.filter g).map f)->Q (.ref l) H'):zd0 (zap 0) tc te src σ Q J H:=by
 refine zX wk (λl i ys σ' H'=>(∃o,σ'=o::σr)/\RepL H' ys (((ds.take i).filter g).map f)/\Same H H') ?_ ?_ ?_ ?_
 ·exact λl h'=>⟨⟨none,e⟩,RepL.nil,Same.new h'⟩
 ·exact λl i ys σ' H' _ p=>hok H' p.2.2
 ·rintro l i y ys σ' H1 h' hi hy ⟨⟨o,rfl⟩,ry,s1⟩ hl'
  obtain⟨d,hd,rd⟩:=r.get hy
  refine hc y d H1 _ s1 (rd.same s1) (List.mem_of_getElem? hd) λH2 s2=>?_
  have tk:((ds.take (i+1)).filter g).map f=((ds.take i).filter g).map f ++([d].filter g).map f:=by
   rw[List.take_add_one,hd,List.filter_append,List.map_append];rfl
  rw[tk]
  cases hg:g d with
  |false=>
   have e0:([d].filter g).map f=[]:=by simp[hg]
   rw[e0,List.append_nil]
   exact⟨s2 _ _ hl',⟨_,rfl⟩,ry.mono (.of s2),s1.trans s2⟩
  |true=>
   have e0:([d].filter g).map f=[f d]:=by simp[hg]
   rw[e0]
   refine he y d H2 (s1.trans s2) ((rd.same s1).same s2) (List.mem_of_getElem? hd) H2 _ (Same.refl _) λv H3 s3 rv=>?_
   refine⟨s3 _ _ (s2 _ _ hl'),?_,⟨_,rfl⟩,?_,?_⟩
   ·have h1:=ry.1
    have h2:=List.length_filter_le g (ds.take i)
    rw[List.length_map] at h1
    rw[List.length_take] at h2
    exact zk (by omega)
   ·exact ((ry.mono (.of (s2.trans s3))).append (.cons rv .nil)).mono (.lset (s3 _ _ (s2 _ _ hl')))
   ·exact λc o e=>by
     rw[zi (zl e h')]
     exact s3 _ _ (s2 _ _ (s1 _ _ e))
 ·rintro l ys σ' H1 h' ⟨⟨o,rfl⟩,ry,s1⟩ hl'
  rw[r.1,List.take_length] at ry
  exact q l ys H1 s1 h' hl' ry
end
theorem zc9{H:Hp}{hs:List Str}(h:∀x∈hs,x.length<=1000):RepL H (hs.map V.str) (hs.map D.str):=by
 refine⟨by rw[List.length_map,List.length_map],λi v d hv hd=>?_⟩
 rw[List.getElem?_map] at hv hd
 cases e:hs[i]? with
 |none=>rw[e] at hv;cases hv
 |some x=>
  rw[e] at hv hd
  cases hv
  cases hd
  exact .str x (h x (List.mem_of_getElem? e))
theorem zim{α β:Type}{F:α->List β}{m:Nat}(hF:∀a,(F a).length<=m):∀l:List α,(l.flatMap F).length<=l.length*m
 |[]=>Nat.zero_le _
 |a::l=>by
  rw[List.flatMap_cons,List.length_append,List.length_cons,Nat.succ_mul]
  have:=zim hF l
  have:=hF a
  omega
inductive Tr(H:Hp):V->PyData->Prop
 |non:Tr H .non .none
 |bl (b:Bool):Tr H (.bl b) (.bool b)
 |int (i:Int):Tr H (.int i) (.int i)
 |str (x:Str) (h:PyData.strOk x=true):Tr H (.str x) (.str x)
 |tup {p:Addr} {vs:List V} {ds:List PyData} (e:H p=some (.tup vs)) (hl:vs.length=ds.length) (h:∀(i:Nat) (v:V) (d:PyData),vs[i]?=some v->ds[i]?=some d->Tr H v d):Tr H (.ref p) (.tuple ds)
 |lst {p:Addr} {vs:List V} {ds:List PyData} (e:H p=some (.lst vs)) (hl:vs.length=ds.length) (h:∀(i:Nat) (v:V) (d:PyData),vs[i]?=some v->ds[i]?=some d->Tr H v d):Tr H (.ref p) (.list ds)
theorem zdr{h:Heap}:∀{vs:List V} {us:List Value} {ds:List PyData},Vals vs us->vs.length=ds.length->(∀(i:Nat) (v:V) (d:PyData),vs[i]?=some v->ds[i]?=some d->∀u,RelV v u->∃as,Reads h u d as)->∃bs,ReadsAll h us ds bs
 |_,_,[], .nil,_,_=>⟨_, .nil⟩
 |v::vs,u::us,d::ds, .cons r t,hl,hh=>by
  obtain⟨as,ha⟩:=hh 0 v d rfl rfl u r
  obtain⟨bs,hb⟩:=zdr t (by simpa using hl) λi v' d' h1 h2=>hh (i+1) v' d' h1 h2
  exact⟨_, .cons ha hb⟩
 |[],_,d::ds, .nil,hl,_=>by simp at hl
 |v::vs,u::us,[], .cons r t,hl,_=>by simp at hl
theorem Tr.reads{X:Cx}{pins:List (Addr×Obj)}{σ:L2.St}{H:Hp}{s:Shared}(I:Inv X pins σ H s){x:V}{d:PyData}(t:Tr H x d):∀v,RelV x v->∃as,Reads s.heap v d as:=by
 induction t with
 |non=>intro v r;cases r;exact⟨_, .none⟩
 |bl b=>intro v r;cases r;exact⟨_, .bool b⟩
 |int i=>intro v r;obtain⟨t,rfl⟩:=r;exact⟨_, .int i t⟩
 |str x h=>intro v r;obtain⟨t,rfl⟩:=r;exact⟨_, .str x t⟩
 |tup e hl h ih=>
  intro v r
  cases r
  obtain⟨its,rv,⟨o,ho,hc,n,hd⟩,_⟩:=I.tuple (SqT.of e)
  obtain⟨bs,hb⟩:=zdr (h:=s.heap) rv hl ih
  exact⟨_, .tuple ho hc hd (by simpa using hb)⟩
 |lst e hl h ih=>
  intro v r
  cases r
  obtain⟨its,n,rv,ho,_⟩:=I.lst e
  obtain⟨bs,hb⟩:=zdr (h:=s.heap) rv hl ih
  exact⟨_, .list ho rfl rfl (by simpa using hb)⟩
theorem zez:∀{vs:List V} {ds:List PyData},vs.length=ds.length->(∀(i:Nat) (v:V) (d:PyData),vs[i]?=some v->ds[i]?=some d->d.canLay0=true)->PyData.canLayAll0 ds=true
 |_,[],_,_=>rfl
 |v::vs,d::ds,hl,hh=>by
  rw[PyData.canLayAll0,hh 0 v d rfl rfl,zez (vs:=vs) (ds:=ds) (by simpa using hl) λi v' d' h1 h2=>hh (i+1) v' d' h1 h2];rfl
 |[],d::ds,hl,_=>by simp at hl
theorem Tr.can{H:Hp}{x:V}{d:PyData}(t:Tr H x d):d.canLay0=true:=by
 induction t with
 |non=>rfl
 |bl b=>rfl
 |int i=>rfl
 |str x h=>simp only[PyData.canLay0];exact h
 |tup e hl h ih=>rw[PyData.canLay0];exact zez hl ih
 |lst e hl h ih=>rw[PyData.canLay0];exact zez hl ih
section
variable{X:Cx}
def zrU:R2:=λx y H Q=>∃d e,Tr H x d/\Tr H y e/\min d.depth e.depth<=60/\Q (.bl (d.eqv e)) H
def zrT:R2:=λx y H Q=>∃d e,Tr H x d/\Tr H y e/\min d.depth e.depth<=60/\Q (.bl (!d.eqv e)) H
theorem zqS(hu:X.A.units+64<cLine):OpR X (compareOp .Eq) zrU:=by
 intro pins s σ H x y v u Q I rx ry h
 obtain⟨d,e,t1,t2,hd,q⟩:=h
 obtain⟨as,r1⟩:=t1.reads I v rx
 obtain⟨bs,r2⟩:=t2.reads I u ry
 exact SeqAt.compareEq_reads r1 r2 t1.can t2.can (by omega) ⟨.bl _,H,I,rfl,q⟩
theorem zju(hu:X.A.units+64<cLine):OpR X (compareOp .NotEq) zrT:=by
 intro pins s σ H x y v u Q I rx ry h
 obtain⟨d,e,t1,t2,hd,q⟩:=h
 obtain⟨as,r1⟩:=t1.reads I v rx
 obtain⟨bs,r2⟩:=t2.reads I u ry
 exact SeqAt.compareNe_reads r1 r2 t1.can t2.can (by omega) ⟨.bl _,H,I,rfl,q⟩
def zrN:R2:=λx y H Q=>∃d es,Tr H x d/\(Tr H y (.list es)\/Tr H y (.tuple es))/\d.depth<=60/\Q (.bl (es.any λy=>y.eqv d)) H
theorem zq1(hu:X.A.units+64<cLine):OpR X (compareOp .In) zrN:=by
 intro pins s σ H x y v u Q I rx ry h
 obtain⟨d,es,t1,t2,hd,q⟩:=h
 obtain⟨as,r1⟩:=t1.reads I v rx
 rcases t2 with t2|t2
 ·obtain ⟨bs,r2⟩:=t2.reads I u ry
  have c:=t2.can
  rw[PyData.canLay0] at c
  exact SeqAt.in_list_reads r2 r1 c t1.can (by omega) ⟨.bl _,H,I,rfl,q⟩
 ·obtain ⟨bs,r2⟩:=t2.reads I u ry
  have c:=t2.can
  rw[PyData.canLay0] at c
  exact SeqAt.in_tuple_reads r2 r1 c t1.can (by omega) ⟨.bl _,H,I,rfl,q⟩
theorem zjk{k:Nat}{A:Around}(r:Room k A):A.units+64<cLine:=by have:=r.un;omega
end
end RW
namespace HT
open PySem PySem.Spec PyProof.Rows
section
variable{prog:Program}{w:World}{A:Around}{E:Value->Shared->Prop}{s:Shared}
end
end HT
namespace L2
open PySem PySem.Spec PyProof.Rows
section
variable{X:Cx}{e:Expr}{te:TE}{p1 p2 p3 pos:Pos}{tk:Tok}
end
end L2
namespace HT
open PySem PySem.Spec PyProof.Rows
section
variable{prog:Program}{w:World}{A:Around}{E:Value->Shared->Prop}{s:Shared}
theorem getItem_tuple_whole{t sl:Addr}{items:Array Value}{vl vu:Value}{lo hi:Option Int}{Q:Value->Shared->Prop}(ht:IsTup s.heap t items)(hs:s.heap.IsSliceOf sl vl vu .none)(pl:IsPart vl lo)(pu:IsPart vu hi)
 (h1:sIx items.size 0 lo=0) (h2:sIx items.size items.size hi=items.size)
 (h:Q (.ref t) s):wpAny (model prog w) A (getItem (.ref t) (.ref sl)) Q E s:=by
 obtain⟨os,hos,hcs,hds⟩:=id hs
 have hTs:s.TypeIs (.ref sl) "slice":=⟨os,hos,hcs⟩
 unfold getItem
 try with_reducible refine wpAny_holding ?_
 first|refine wpAny_bind (wpAny_pure ?_)|skip
 refine wpAny_bind (wpAny_sequenceKey ht.typeIs (by decide) ?_)
 refine wpAny_bind (wpAny_callSpecial?_slot (name:=Str.ofString "__getitem__") ht.typeIs PyProof.Rows.slot_tuple_getitem
  (wpAny_call_entry PyProof.Rows.slot_tuple_getitem ht.typeIs entry_tuple_getitem ?_ (args_tuple_getitem _ _)))
 show wpAny _ _ (Builtin.Tuple.tupleItemsOf (.ref t)>>=_) _ _ s
 refine wpAny_bind (tupleItemsOf_ ht ?_)
 refine wpAny_bind (wpAny_typeOf hTs ?_)
 rw[if_pos (by decide)]
 refine wpAny_bind (zcD hs pl pu ?_)
 rw[h1,h2]
 show wpAny _ _ (if(((0:Nat):Int)==0&&(1:Int)==1&&(items.size -0)==items.size)=true then _ else _) _ _ s
 rw[if_pos (by simp)]
 unfold Builtin.Tuple.tupleIsExact
 refine wpAny_bind (wpAny_bind (wpAny_typeOf ht.typeIs (wpAny_pure ?_)))
 rw[if_pos (by decide)]
 refine wpAny_bind (wpAny_rule ?_)
 exact wpAny_pure ⟨_,rfl,wpAny_pure h⟩
end
end HT
namespace L2
open PySem PySem.Spec PyProof.Rows
section
variable{X:Cx}{K:PySem.W.Frag}
def zrO(K:PySem.W.Frag):V->Option Int->Option Int->Hp->VK->Prop:=λx lo hi H Q=>∃a xs,x= .ref a/\SqT K H a xs/\
 (zb1 xs lo hi=xs->Q (.ref a) H)/\∀p,H p=none->Q (.ref p) (upd H p (.tup (zb1 xs lo hi)))
theorem zee:SlR X (zrO X.K):=by
 intro pins s σ H x v vl vu lo hi sl Q I rx hs pl pu h
 obtain⟨a,xs,rfl,hx,q1,q2⟩:=h
 by_cases hw:HT.sIx xs.length 0 lo=0/\HT.sIx xs.length xs.length hi=xs.length
 ·have rx':v= .ref a:=rx
  subst rx'
  obtain⟨its,r,ht,hz⟩:=I.tuple hx
  have hlen:its.toArray.size=xs.length:=by rw[List.size_toArray];exact r.length.symm
  refine⟨"tuple",_,PyProof.Rows.slot_tuple_getitem.lookup,ht.typeIs,?_⟩
  refine HT.getItem_tuple_whole ht hs pl pu (by rw[hlen];exact hw.1) (by rw[hlen];exact hw.2) ⟨.ref a,H,I,rfl,q1 ?_⟩
  unfold zb1
  rw[hw.1,hw.2];simp
 ·exact zqD pins s σ H (.ref a) v vl vu lo hi sl Q I rx hs pl pu ⟨a,xs,rfl,hx,hw,q2⟩
end
end L2
namespace RW
open PySem PySem.Spec PyProof.Rows L2
section
variable{te tf:TE}{ta:TA}{σ:L2.St}{H:Hp}{d:D}{ds es:List D}{K:PySem.W.Frag}
end
theorem zk3:∀x∈keptL,x≠"nowhere":=by decide +kernel
theorem zlF:zkQ "nowhere"=false:=by decide +kernel
theorem zlr(f st sp j k:Nat):zbv f st sp j k≠"nowhere":=by
 unfold zbv
 split
 ·exact zk3 _ (zjz sp k)
 ·intro z
  have e:=zlF
  rw[←z] at e
  unfold nmS at e
  rw[zix] at e
  cases e
section
variable{te:TE}{ta:TA}{tb:TS}{De:Ends}{σ:L2.St}{H:Hp}{d:D}{ds es:List D}{K:PySem.W.Frag}{k j:Nat}{g:D->Bool}{l lf:Addr}{m:Nat}
end
section
variable{x h t l a:D}
end
section
variable{te tf:TE}{ta:TA}{tb:TS}{De:Ends}{σ:L2.St}{H:Hp}{d:D}{ds es:List D}{K:PySem.W.Frag}{k j:Nat}{g:D->Bool}{m:Nat}
theorem z7{H H':Hp}{p:Addr}(s:Same H H')(h:H' p=none):H p=none:=by
 cases e:H p with
 |none=>rfl
 |some o=>have:=s _ _ e;rw[h] at this;cases this
end
theorem zaM{x:Str}(h:zg x=true):PyData.strOk x=true:=by
 unfold zg at h
 simp only[Bool.and_eq_true] at h
 have h2:=h.1.2
 unfold PyData.strOk
 rw[Array.all_eq_true']
 intro c hc
 have:=List.all_eq_true.mp h2 c (by simpa using hc)
 unfold zaC at this
 simp only[Bool.and_eq_true,decide_eq_true_eq] at this
 exact decide_eq_true (by omega)
theorem zM{α:Type}[DecidableEq α]:∀{l m:List α},l.Nodup->(∀x∈l,x∈m)->l.length<=m.length
 |[],m,_,_=>Nat.zero_le _
 |a::l,m,hn,hs=>by
  have ha:=hs a List.mem_cons_self
  have:=zM (l:=l) (m:=m.erase a) (List.nodup_cons.mp hn).2 λx hx=>(List.mem_erase_of_ne (λz:x=a=>(List.nodup_cons.mp hn).1 (by rw[←z];exact hx))).mpr (hs x (List.mem_cons_of_mem _ hx))
  rw[List.length_erase_of_mem ha] at this
  have:1<=m.length:=List.length_pos_of_mem ha
  rw[List.length_cons]
  omega
theorem TownOk.lp{g:Str}{hs:List Str}{ps:List (Str×Str)}{lks hds:List D}(T:TownOk g hs ps lks hds):ps.length<=100:=by
 have nd:ps.Nodup:=T.riseP.imp λ{a b} h z=>by rw[z,zhw] at h;cases h
 have:=zM (m:=hs.flatMap λa=>hs.map λb=>(a,b)) nd λp hp=>by
  obtain⟨h1,h2,_⟩:=T.ties p hp
  exact List.mem_flatMap.mpr ⟨p.1,h1,List.mem_map.mpr ⟨p.2,h2,rfl⟩⟩
 have h2:=zim (F:=λa=>hs.map λb=>(a,b)) (m:=10) (λa=>by rw[List.length_map];exact T.ten) hs
 have:=T.ten
 omega
end RW
namespace RW
theorem zaX{b:Bool}{X Y:Prop}(h:b=true)(x:X):if b=true then X else Y:=by rw[if_pos h];exact x
theorem zat{b:Bool}{X Y:Prop}(h:b=false)(y:Y):if b=true then X else Y:=by rw[if_neg (by rw[h];decide)];exact y
end RW
namespace L2
open PySem PySem.W PySem.Spec PyProof.Rows
section
variable{prog:Program}{w:World}{A:Around}{E:Value->Shared->Prop}{s:Shared}
theorem zeW{r:Addr}{T:String}{o:Obj}{vs:List Value}{n:Nat}{R:List Value->Shared->Prop}(hT:T="list"\/T="tuple")(ho:s.heap.get? r=some o)(hc:o.cls= .type T)(hd:o.data= .seq vs.toArray n)(hz:vs.length<=sizeLine)
 (q:∀(h':Heap),(∀b o,s.heap.get? b=some o->h'.get? b=some o)->s.heap.objs.size<h'.objs.size->R vs {s with heap:=h'}):wpAny (model prog w) A (collect (.ref r)) R E s:=by
 have lt:=Heap.lt_size ho
 have hne:r≠s.heap.objs.size:=Nat.ne_of_lt lt
 have g0:(s.heap.push {cls:= .type "list",data:= .seq ([]:List Value).toArray}).get? s.heap.objs.size=some (seqObj "list" #[] 0):=Heap.get?_push_size _ rfl
 have gr:(s.heap.push {cls:= .type "list",data:= .seq ([]:List Value).toArray}).get? r=some o:=Heap.get?_push_of_some _ ho
 obtain⟨e1,g1⟩:∃e1,((s.heap.push {cls:= .type "list",data:= .seq ([]:List Value).toArray}).update s.heap.objs.size (Obj.mapSeq λx=>x ++vs.toArray)).get? s.heap.objs.size=some (seqObj "list" ((#[]:Array Value)++vs.toArray) e1):=⟨_,get?_update_seq g0 λx=>x ++vs.toArray⟩
 have u1:=Heap.SameBut.update (s.heap.push {cls:= .type "list",data:= .seq ([]:List Value).toArray}) s.heap.objs.size (Obj.mapSeq λx=>x ++vs.toArray)
 unfold collect
 refine wpAny_bind (wpAny_runValue (codeAny_builtin entry_proto_collect' (by
  rw[Around.under_plainId PySem.F.plain_proto_collect _]
  show wpAny _ A.in1 (newList []>>=λl=>again (.builtin "list.__iadd__" ⟨[l, .ref r],[]⟩)) _ _ s
  refine wpAny_bind (wpAny_newObj_type (wpAny_pure ⟨plainId_quiet PySem.F.plain_list_iadd _,codeAny_builtin entry_list_iadd' (by
   rw[Around.under_plainId PySem.F.plain_list_iadd _]
   show wpAny _ A.in1 (Builtin.List.listExtendWith (.ref s.heap.objs.size) (.ref r) (.ref s.heap.objs.size)) _ _ _
   unfold Builtin.List.listExtendWith
   have hty:({s with heap:=s.heap.push {cls:= .type "list",data:= .seq ([]:List Value).toArray}}:Shared).TypeIs (.ref r) T:=⟨o,gr,hc⟩
   refine wpAny_bind (wpAny_typeOf hty ?_)
   rw[if_pos (by rcases hT with rfl|rfl<;>simp)]
   refine wpAny_bind (listItems_at gr hd (wpAny_bind (listItems_at g0 rfl ?_)))
   rw[if_neg (by simp)]
   refine wpAny_bind (listUpdate_at g0 rfl ?_ (Nat.zero_le _) (by show((#[]:Array Value)++vs.toArray).size<=_;simp;omega))
   refine wpAny_pure ?_
   show wpAny _ A (load s.heap.objs.size>>=_) _ _ _
   refine wpAny_bind (wpAny_load g1 (wpAny_pure ?_))
   have ev:((#[]:Array Value)++vs.toArray).toList=vs:=by simp
   show R ((#[]:Array Value)++vs.toArray).toList _
   rw[ev]
   exact q _ (λb o e=>(u1.2 b (Nat.ne_of_lt (Heap.lt_size e))).trans (Heap.get?_push_of_some _ e)) (Heap.lt_size g1))⟩)))))
theorem zfd{l:Addr}{T:String}{o:Obj}{vs:List Value}{n:Nat}{ss:List Str}{Q:Value->Shared->Prop}(hT:T="list"\/T="tuple")(ho:s.heap.get? l=some o)(hc:o.cls= .type T)(hd:o.data= .seq vs.toArray n)(hS:StrsAre vs ss)(h64:vs.length<64)
 (q:∀(D:Addr) (out:Array Value) (ss':List Str) (h':Heap) (e:Nat),StrsAre out.toList ss'->ss'.Perm ss->sortedS ss'=true->(∀b o,s.heap.get? b=some o->h'.get? b=some o)->s.heap.objs.size<=D->h'.get? D=some (seqObj "list" out e)->Q (.ref D) {s with heap:=h'}):
 wpAny (model prog w) A (call (.builtin "sorted") [.ref l]) Q E s:=by
 refine Calls.call_function_entry kind_sorted plain_sorted entry_sorted (args_sorted1 _) ?_
 unfold Builtin.«sorted»
 refine wpAny_bind (m:=checkCount "sorted" 1 1 _) (wpAny_pure (wpAny_bind (zeW hT ho hc hd (by rw[sizeLine_eq];omega) λh1 kp gr0=>?_)))
 refine wpAny_bind (wpAny_newList ?_ (by show vs.length<=_;rw[sizeLine_eq];omega))
 have hD:(h1.push (seqObj "list" vs.toArray 0)).get? h1.objs.size=some (seqObj "list" vs.toArray 0):=Heap.get?_push_size _ rfl
 have k2:∀b o,s.heap.get? b=some o->(h1.push (seqObj "list" vs.toArray 0)).get? b=some o:=λb o e=>Heap.get?_push_of_some _ (kp b o e)
 have gr:s.heap.objs.size<=h1.objs.size:=Nat.le_of_lt gr0
 show wpAny _ _ _ _ _ {s with heap:=h1.push (seqObj "list" vs.toArray 0)}
 refine wpAny_bind (wpAny_holding (wpAny_call_entry slot_list_sort ⟨_,hD,rfl⟩ entry_list_sort (list_sort_treeK strKind_oneLt (s:={s with heap:=h1.push (seqObj "list" vs.toArray 0)}) hD hS.keysOf (λv1 v2 rest e=>?_) h64 λst' hp hs=>?_) (args_list_sort _)))
 ·subst e
  exact keyKind_strs hS
 ·obtain ⟨ss',a1,a2,a3⟩:=sorted_out_str hS hp hs
  obtain⟨e,he⟩:=sortedHeap_at (h:=h1.push (seqObj "list" vs.toArray 0)) (vs:=vs) (out:=Array.map (λx=>x.snd) (arrOf st')) hD
  refine⟨_,rfl,wpAny_pure ⟨_,rfl,q h1.objs.size _ ss' _ e a1 a2 a3 (λb o hb=>?_) gr he⟩⟩
  have lb:=Heap.lt_size hb
  rw[sortedHeap_old (Nat.ne_of_lt (Nat.lt_of_lt_of_le lb gr)) (Heap.lt_size (k2 b o hb))]
  exact k2 b o hb
end
section
variable{X:Cx}{K:PySem.W.Frag}
def znR(K:PySem.W.Frag):List V->Hp->VK->Prop:=λxs H Q=>∃(p:Addr) (ss:List Str),xs=[.ref p]/\(SqL K H p (ss.map V.str)\/SqT K H p (ss.map V.str))/\ss.length<64/\∀(ss':List Str) l,ss'.Perm ss->sortedS ss'=true->H l=none->Q (.ref l) (upd H l (.lst (ss'.map V.str)))
theorem zca:CallR X (.builtin "sorted") (znR X.K):=by
 intro pins s σ H xs us Q I r h
 obtain⟨p,ss,rfl,hq,h64,q⟩:=h
 obtain⟨u,rfl,ru⟩:=zck r
 cases ru
 have key:∀{its:List Value} {T:String} {o:Obj} {n:Nat},T="list"\/T="tuple"->s.heap.get? p=some o->o.cls= .type T->o.data= .seq its.toArray n->Vals (ss.map V.str) its->wpAny (model X.prog X.w) X.A (call (.builtin "sorted") [.ref p]) (EP X pins σ Q) X.xe s:=by
  intro its T o n hT ho hc hd rv
  have hS:=zbA rv
  have hl:=rv.length
  rw[List.length_map] at hl
  refine zfd hT ho hc hd hS (by omega) λD out ss' h' e a1 a2 a3 kp hD he=>?_
  refine⟨.ref D,_,I.laid (a:=D) (o:= .lst (ss'.map V.str)) (t':=s.toks) kp hD ⟨?_,out.toList,e,?_,?_⟩,rfl,q ss' D a2 a3 (I.hok.fresh hD)⟩
  ·rw[List.length_map,a2.length_eq];exact Nat.le_of_lt (zk (by omega))
  ·have mk:∀{vs:List Value} {zs:List Str},StrsAre vs zs->Vals (zs.map V.str) vs:=by
    intro vs zs h
    induction h with
    |nil=>exact .nil
    |cons x t _ ih=>exact .cons ⟨t,rfl⟩ ih
   exact mk a1
  ·rw[Array.toArray_toList];exact he
 rcases hq with hq|hq
 ·obtain ⟨its,rv,pl,hz⟩:=I.list hq
  obtain⟨o,ho,hc,n,hd⟩:=pl.isList
  exact key (.inl rfl) ho hc hd rv
 ·obtain ⟨its,rv,pl,hz⟩:=I.tuple hq
  obtain⟨o,ho,hc,n,hd⟩:=pl
  exact key (.inr rfl) ho hc hd rv
end
end L2
namespace RW
open PySem PySem.Spec PyProof.Rows L2
def HsAt(H:Hp)(v:V)(hs:List Str):Prop:=∃p,v= .ref p/\H p=some (.tup (hs.map V.str))/\hs.length<=10/\∀x∈hs,zg x=true
theorem HsAt.same{H H':Hp}{v:V}{hs:List Str}(h:HsAt H v hs)(s:Same H H'):HsAt H' v hs:=let⟨p,e,g,r⟩:=h;⟨p,e,s _ _ g,r⟩
theorem zbu{hs:List Str}{x:Str}:inV (.str x) (hs.map V.str)=hs.any λy=>decide (y=x):=by
 unfold inV
 rw[List.any_map]
 congr 1
theorem zaH{hs:List Str}:(hs.map V.str).all zdG=true:=by
 rw[List.all_map,List.all_eq_true]
 exact λ_ _=>rfl
theorem zcF{H:Hp}{v:V}{xs:List Str}(h:Rep H v (.tup (xs.map D.str))):∃p,v= .ref p/\H p=some (.tup (xs.map V.str)):=by
 obtain⟨p,vs,rfl,hp,r,_⟩:=h.ofT
 refine⟨p,rfl,?_⟩
 have e:vs=xs.map V.str:=by
  apply List.ext_getElem?
  intro i
  rcases Nat.lt_or_ge i xs.length with hi|hi
  ·have hv:i<vs.length:=by rw[r.1,List.length_map];exact hi
   have:=r.2 i vs[i] (.str xs[i]) (by simp[hv]) (by simp[hi])
   rw[List.getElem?_eq_getElem hv,List.getElem?_map,List.getElem?_eq_getElem hi]
   generalize vs[i]=z at this
   cases this
   rfl
  ·rw[List.getElem?_eq_none (by rw[r.1,List.length_map];exact hi),List.getElem?_eq_none (by rw[List.length_map];exact hi)]
 rw[←e];exact hp
theorem zrv{H:Hp}{v:V}{d1 d2 d3 d4 d5:D}(h:Rep H v (.tup [d1,d2,d3,d4,d5])):∃p x1 x2 x3 x4 x5,v= .ref p/\H p=some (.tup [x1,x2,x3,x4,x5])/\Rep H x1 d1/\Rep H x2 d2/\Rep H x3 d3/\Rep H x4 d4/\Rep H x5 d5:=by
 obtain⟨p,vs,rfl,hp,r,_⟩:=h.ofT
 match vs,r with
 |[x1,x2,x3,x4,x5],r=>exact ⟨p,x1,x2,x3,x4,x5,rfl,hp,r.head.1,r.head.2.head.1,r.head.2.head.2.head.1,r.head.2.head.2.head.2.head.1,r.head.2.head.2.head.2.head.2.head.1⟩
 |[],r=>exact absurd r.1 (by simp)
 |[_],r=>exact absurd r.1 (by simp)
 |[_,_],r=>exact absurd r.1 (by simp)
 |[_,_,_],r=>exact absurd r.1 (by simp)
 |[_,_,_,_],r=>exact absurd r.1 (by simp)
 |_::_::_::_::_::_::_,r=>exact absurd r.1 (by simp)
def zqh(H:Hp)(v:V)(g:Str)(hs:List Str)(ps:List (Str×Str))(lks hds:List D):Prop:=∃p pr pt pl pa vt vl va,v= .ref p/\H p=some (.tup [.str g, .ref pr, .ref pt, .ref pl, .ref pa])/\H pr=some (.tup (hs.map V.str))/\H pt=some (.tup vt)/\RepL H vt (ps.map RW.pairD)/\H pl=some (.tup vl)/\RepL H vl lks/\H pa=some (.tup va)/\RepL H va hds
theorem zaz{H:Hp}{v:V}{g:Str}{hs:List Str}{ps:List (Str×Str)}{lks hds:List D}(h:Rep H v (zaE g hs ps lks hds)):zqh H v g hs ps lks hds:=by
 obtain⟨p,x1,x2,x3,x4,x5,rfl,hp,r1,r2,r3,r4,r5⟩:=zrv h
 cases r1 with|str _ _=>
 obtain⟨pr,rfl,hpr⟩:=zcF r2
 obtain⟨pt,vt,rfl,hpt,rt,_⟩:=r3.ofT
 obtain⟨pl,vl,rfl,hpl,rl,_⟩:=r4.ofT
 obtain⟨pa,va,rfl,hpa,ra,_⟩:=r5.ofT
 exact⟨p,pr,pt,pl,pa,vt,vl,va,rfl,hp,hpr,hpt,rt,hpl,rl,hpa,ra⟩
def zc6(ps:List (Str×Str))(x:Str):List Str:=(ps.filter λp=>decide (p.2=x)).map (·.1)++(ps.filter λp=>decide (p.1=x)).map (·.2)
theorem mem_nbrs{ps:List (Str×Str)}{x y:Str}:y∈zc6 ps x↔(y,x)∈ps\/(x,y)∈ps:=by
 unfold zc6
 rw[List.mem_append,List.mem_map,List.mem_map]
 constructor
 ·rintro (⟨⟨a,b⟩,h,rfl⟩|⟨⟨a,b⟩,h,rfl⟩)
  ·obtain ⟨h1,h2⟩:=List.mem_filter.mp h
   have h2:b=x:=of_decide_eq_true h2
   subst h2
   exact .inl h1
  ·obtain ⟨h1,h2⟩:=List.mem_filter.mp h
   have h2:a=x:=of_decide_eq_true h2
   subst h2
   exact .inr h1
 ·rintro (h|h)
  ·exact .inl ⟨(y,x),List.mem_filter.mpr ⟨h,decide_eq_true rfl⟩,rfl⟩
  ·exact .inr ⟨(x,y),List.mem_filter.mpr ⟨h,decide_eq_true rfl⟩,rfl⟩
theorem TownOk.ps_nd{g:Str}{hs:List Str}{ps:List (Str×Str)}{lks hds:List D}(T:TownOk g hs ps lks hds):ps.Nodup:=T.riseP.imp λ{a b} h z=>by rw[z,zhw] at h;cases h
theorem TownOk.hs_nd{g:Str}{hs:List Str}{ps:List (Str×Str)}{lks hds:List D}(T:TownOk g hs ps lks hds):hs.Nodup:=T.rise.imp λ{a b} h z=>by rw[z,zed] at h;cases h
theorem zkK{g:Str}{hs:List Str}{ps:List (Str×Str)}{lks hds:List D}(T:TownOk g hs ps lks hds)(x:Str):(zc6 ps x).Nodup:=by
 have nd:=T.ps_nd
 unfold zc6
 rw[List.nodup_append]
 refine⟨?_,?_,?_⟩
 ·rw[List.nodup_iff_pairwise_ne,List.pairwise_map]
  refine List.Pairwise.imp_of_mem (λ{a b} ha hb hab z=>?_) (nd.filter _)
  have h1:a.2=x:=of_decide_eq_true (List.mem_filter.mp ha).2
  have h2:b.2=x:=of_decide_eq_true (List.mem_filter.mp hb).2
  exact hab (Prod.ext z (h1.trans h2.symm))
 ·rw[List.nodup_iff_pairwise_ne,List.pairwise_map]
  refine List.Pairwise.imp_of_mem (λ{a b} ha hb hab z=>?_) (nd.filter _)
  have h1:a.1=x:=of_decide_eq_true (List.mem_filter.mp ha).2
  have h2:b.1=x:=of_decide_eq_true (List.mem_filter.mp hb).2
  exact hab (Prod.ext (h1.trans h2.symm) z)
 ·intro y hy z hz e
  subst e
  obtain⟨a,ha,rfl⟩:=List.mem_map.mp hy
  obtain⟨b,hb,eb⟩:=List.mem_map.mp hz
  obtain⟨ha1,ha2⟩:=List.mem_filter.mp ha
  obtain⟨hb1,hb2⟩:=List.mem_filter.mp hb
  have h1:a.2=x:=of_decide_eq_true ha2
  have h2:b.1=x:=of_decide_eq_true hb2
  have l1:=(T.ties a ha1).2.2
  have l2:=(T.ties b hb1).2.2
  rw[h1] at l1
  rw[h2,eb] at l2
  have:=zcR l1
  rw[l2] at this
  cases this
theorem zkM{g:Str}{hs:List Str}{ps:List (Str×Str)}{lks hds:List D}(T:TownOk g hs ps lks hds){x y:Str}(h:y∈zc6 ps x):y∈hs:=by
 rcases mem_nbrs.mp h with h|h
 ·exact (T.ties _ h).1
 ·exact (T.ties _ h).2.1
theorem zmV{g:Str}{hs:List Str}{ps:List (Str×Str)}{lks hds:List D}(T:TownOk g hs ps lks hds)(x:Str):(zc6 ps x).length<=10:=Nat.le_trans (zM (zkK T x) λy hy=>zkM T hy) T.ten
theorem ziB{x y:D}{r:List D}:zbJ (x::y::r)=(ltD x y&&zbJ (y::r)):=by
 unfold zbJ
 show(List.range (r.length+1)).all _=_
 rw[List.range_succ_eq_map,List.all_cons,List.all_map]
 rfl
theorem zgM:∀(xs:List Str),zbJ (xs.map D.str)=true->xs.Pairwise (λa b=>ltS a b=true)
 |[],_=> .nil
 |[x],_=>List.pairwise_singleton _ _
 |x::y::r,h=>by
  rw[List.map_cons,List.map_cons,ziB,Bool.and_eq_true] at h
  have ih:=zgM (y::r) h.2
  have hxy:ltS x y=true:=h.1
  refine List.pairwise_cons.mpr ⟨λz hz=>?_,ih⟩
  rcases List.mem_cons.mp hz with rfl|hz
  ·exact hxy
  ·exact zeK hxy ((List.pairwise_cons.mp ih).1 z hz)
theorem zi4{ss ws:List Str}(hp:ss.Perm ws)(hs:sortedS ss=true):zbJ (ss.map D.str)=decide ws.Nodup:=by
 rw[Bool.eq_iff_iff,decide_eq_true_iff]
 constructor
 ·intro h
  have:=zgM ss h
  exact hp.nodup_iff.mp (this.imp λ{a b} h z=>by rw[z,zed] at h;cases h)
 ·intro h
  exact zlm (zfh ss hs (hp.nodup_iff.mpr h))
def zm0(g:Str)(ps:List (Str×Str))(ws:List Str):Bool:=decide (ws.getLast?=some g)&&decide ws.Nodup&&(List.range (ws.length -1)).all λk=>decide (ws.getD (k+1) ""∈zc6 ps (ws.getD k ""))
def zcy(g:Str)(hs:List Str)(ps:List (Str×Str))(d:D):Bool:=zb4 d 1 hs.length&&zlG (zaa hs) d&&zm0 g ps (zjB d)
theorem ze5{hs:List Str}:∀{ds:List D},ds.all (zaa hs)=true->∃ws:List Str,ds=ws.map D.str/\∀x∈ws,x∈hs
 |[],_=>⟨[],rfl,λ_ z=>nomatch z⟩
 |d::ds,h=>by
  rw[List.all_cons,Bool.and_eq_true] at h
  obtain⟨ws,rfl,hw⟩:=ze5 h.2
  cases d with
  |str x=>
   have h1:=h.1
   have h2:(zg x&&hs.any λy=>decide (y=x))=true:=h1
   rw[Bool.and_eq_true] at h2
   obtain⟨y,hy,e⟩:=List.any_eq_true.mp h2.2
   have e:y=x:=of_decide_eq_true e
   subst e
   refine⟨y::ws,rfl,λz hz=>?_⟩
   rcases List.mem_cons.mp hz with rfl|hz
   ·exact hy
   ·exact hw z hz
  |_=>cases h.1
structure WayOk(g:Str)(hs:List Str)(ps:List (Str×Str))(ws:List Str):Prop where
 nd:ws.Nodup
 mem:∀x∈ws,x∈hs
 last:∃w0,ws=w0 ++ [g]
 tied:∀(i:Nat) (a b:Str),ws[i]?=some a->ws[i+1]?=some b->b∈zc6 ps a
theorem WayOk.one{g:Str}{hs:List Str}{ps:List (Str×Str)}(h:g∈hs):WayOk g hs ps [g] where
 nd:=by simp
 mem:=λx hx=>by rw[List.mem_singleton.mp hx];exact h
 last:=⟨[],rfl⟩
 tied:=λi a b h1 h2=>by cases h2
theorem WayOk.more{g:Str}{hs:List Str}{ps:List (Str×Str)}{w0 x:Str}{ws:List Str}(W:WayOk g hs ps (w0::ws))(hx:x∈hs)(hn:x∉w0::ws)(ht:w0∈zc6 ps x):WayOk g hs ps (x::w0::ws) where
 nd:=List.nodup_cons.mpr ⟨hn,W.nd⟩
 mem:=λy hy=>by
  rcases List.mem_cons.mp hy with rfl|hy
  ·exact hx
  ·exact W.mem y hy
 last:=by obtain⟨v,e⟩:=W.last;exact⟨x::v,by rw[e];rfl⟩
 tied:=λi a b h1 h2=>by
  cases i with
  |zero=>cases h1;cases h2;exact ht
  |succ i=>exact W.tied i a b h1 h2
theorem WayOk.len{g:Str}{hs:List Str}{ps:List (Str×Str)}{ws:List Str}(W:WayOk g hs ps ws):1<=ws.length/\ws.length<=hs.length:=by
 constructor
 ·obtain ⟨v,rfl⟩:=W.last
  simp
 ·exact zM W.nd W.mem
theorem WayOk.ok{g:Str}{hs:List Str}{ps:List (Str×Str)}{ws:List Str}(W:WayOk g hs ps ws)(hn:∀x∈hs,zg x=true):zcy g hs ps (.tup (ws.map D.str))=true:=by
 obtain⟨l1,l2⟩:=W.len
 unfold zcy
 have e1:zb4 (.tup (ws.map D.str)) 1 hs.length=true:=by
  show(decide ((1:Int)<=((ws.map D.str).length:Int))&&decide (((ws.map D.str).length:Int)<=(hs.length:Int)))=true
  rw[List.length_map,decide_eq_true (by omega),decide_eq_true (by omega)];rfl
 have e2:zlG (zaa hs) (.tup (ws.map D.str))=true:=by
  show(ws.map D.str).all (zaa hs)=true
  rw[List.all_map,List.all_eq_true]
  exact λx hx=>zno (W.mem x hx) (hn x (W.mem x hx))
 rw[e1,e2,RW.strs_map]
 unfold zm0
 have e3:ws.getLast?=some g:=by obtain⟨v,rfl⟩:=W.last;simp
 rw[decide_eq_true e3,decide_eq_true W.nd,List.all_eq_true.mpr λk hk=>?_];rfl
 have hk':=List.mem_range.mp hk
 refine decide_eq_true (W.tied k _ _ ?_ ?_)
 ·simp[List.getD,show k<ws.length by omega]
 ·simp[List.getD,show k+1<ws.length by omega]
theorem zpi{g:Str}{hs:List Str}{ps:List (Str×Str)}{d:D}(h:zb4 d 1 hs.length=false):zcy g hs ps d=false:=by
 unfold zcy;rw[h];rfl
theorem zoX{g:Str}{hs:List Str}{ps:List (Str×Str)}{d:D}(h:zlG (zaa hs) d=false):zcy g hs ps d=false:=by
 unfold zcy;rw[h];simp
theorem zia{J:It}{vs:List V}{ps:List (Str×Str)}{sel:Str×Str->Bool}{f:Str×Str->Str}{ok:Hp->Prop}{g:TG}{tc:TT}{te:TE}{H:Hp}{src:List (Option Nat)}{σ:L2.St}{Q:VK}(Iv:L2.St->Prop)(wk:Wk J vs.length (λi x=>vs[i]?=some x) ok)(hok:∀H',Same H H'->ok H')(r:RepL H vs (ps.map RW.pairD))(hl:ps.length<=900)(h0:Iv (zfX src σ))
 (hs:∀(q:Addr) (p:Str×Str) (σ':L2.St) (H1:Hp) (A:V->Hp->L2.St->Prop) (B:L2.St->Hp->Prop),Iv σ'->Same H H1->H1 q=some (.tup [.str p.1, .str p.2])->p∈ps->(∀σ2,Iv σ2->if sel p=true then A (.str (f p)) H1 σ2 else B σ2 H1)->g (.ref q) σ' H1 λσ2 H3=>tc σ2 H3 λb H4=>if b=true then te σ2 H4 (λy H5=>A y H5 σ2)else B σ2 H4)
 (q:∀l H',Same H H'->H l=none->H' l=some (.lst (((ps.filter sel).map f).map V.str))->Q (.ref l) H'):zd0 g tc te src σ Q J H:=by
 refine zX wk (λl i ys σ' H'=>Iv σ'/\ys=(((ps.take i).filter sel).map f).map V.str/\Same H H') ?_ ?_ ?_ ?_
 ·exact λl h'=>⟨h0,rfl,Same.new h'⟩
 ·exact λl i ys σ' H' _ p=>hok H' p.2.2
 ·rintro l i y ys σ' H1 h' hi hy ⟨iv,rfl,s1⟩ hl'
  obtain⟨d,hd,rd⟩:=r.get hy
  rw[List.getElem?_map] at hd
  cases hp:ps[i]? with
  |none=>rw[hp] at hd;cases hd
  |some p=>
   rw[hp] at hd
   cases hd
   obtain⟨q,x,y,rfl,hq,r1,r2⟩:=(rd.same s1).of2
   cases r1 with|str _ _=>
   cases r2 with|str _ _=>
   refine hs q p σ' H1 (λy H5 σ2=>H5 l=some (.lst ((((ps.take i).filter sel).map f).map V.str))/\((((ps.take i).filter sel).map f).map V.str).length<sizeLine/\Iv σ2/\(((ps.take i).filter sel).map f).map V.str ++ [y]=(((ps.take (i+1)).filter sel).map f).map V.str/\Same H (upd H5 l (.lst ((((ps.take i).filter sel).map f).map V.str ++ [y])))) (λσ2 H4=>H4 l=some (.lst ((((ps.take i).filter sel).map f).map V.str))/\Iv σ2/\(((ps.take i).filter sel).map f).map V.str=(((ps.take (i+1)).filter sel).map f).map V.str/\Same H H4) iv s1 hq (List.mem_of_getElem? hp) λσ2 iv2=>?_
   have tk:((ps.take (i+1)).filter sel)=((ps.take i).filter sel)++ [p].filter sel:=by rw[List.take_add_one,hp,List.filter_append];rfl
   cases hsel:sel p with
   |false=>
    refine zat rfl ⟨hl',iv2,?_,s1⟩
    rw[tk]
    simp[hsel]
   |true=>
    refine zaX rfl ⟨hl',?_,iv2,?_,?_⟩
    ·rw[List.length_map,List.length_map]
     have h2:=List.length_filter_le sel (ps.take i)
     rw[List.length_take] at h2
     exact zk (by omega)
    ·rw[tk]
     simp[hsel]
    ·exact λc o e=>by
      rw[zi (zl e h')]
      exact s1 _ _ e
 ·rintro l ys σ' H1 h' ⟨iv,rfl,s1⟩ hl'
  have e:ps.length=vs.length:=by rw[r.1,List.length_map]
  rw[←e,List.take_length] at hl'
  exact q l H1 s1 h' hl'
theorem zg8{J:It}{vs:List V}{ds:List D}{g:D->Bool}{ok:Hp->Prop}{H:Hp}{te:TE}{src:List (Option Nat)}{σ σr:L2.St}{Q:VK}(wk:Wk J vs.length (λi x=>vs[i]?=some x) ok)(hok:∀H',Same H H'->ok H')(r:RepL H vs ds)(hl:ds.length<=1000)(e:zfX src σ=none::σr)
 (he:∀(x:V) (d:D) (H1:Hp) (Q1:VK),Same H H1->Rep H1 x d->d∈ds->(∀H2,Same H1 H2->Q1 (.bl (g d)) H2)->te (some x::σr) H1 Q1)
 (q:∀l H',Same H H'->H l=none->H' l=some (.lst ((ds.map g).map V.bl))->Q (.ref l) H'):zd0 (zap 0) znF te src σ Q J H:=by
 refine zX wk (λl i ys σ' H'=>(∃o,σ'=o::σr)/\ys=((ds.take i).map g).map V.bl/\Same H H') ?_ ?_ ?_ ?_
 ·exact λl h'=>⟨⟨none,e⟩,rfl,Same.new h'⟩
 ·exact λl i ys σ' H' _ p=>hok H' p.2.2
 ·rintro l i y ys σ' H1 h' hi hy ⟨⟨o,rfl⟩,rfl,s1⟩ hl'
  obtain⟨d,hd,rd⟩:=r.get hy
  refine he y d H1 _ s1 (rd.same s1) (List.mem_of_getElem? hd) λH2 s2=>?_
  refine⟨s2 _ _ hl',?_,⟨_,rfl⟩,?_,?_⟩
  ·rw[List.length_map,List.length_map,List.length_take]
   exact zk (by omega)
  ·rw[List.take_add_one,hd]
   simp
  ·exact λc o e=>by
    rw[zi (zl e h')]
    exact s2 _ _ (s1 _ _ e)
 ·rintro l ys σ' H1 h' ⟨⟨o,rfl⟩,rfl,s1⟩ hl'
  rw[r.1,List.take_length] at hl'
  exact q l H1 s1 h' hl'
theorem zqw{d:D}{n:Nat}(h:zb4 d 1 n=true):∃ds,d= .tup ds/\1<=ds.length/\ds.length<=n:=by
 cases d with
 |tup ds=>
  simp[zb4] at h
  exact⟨ds,rfl,by omega,by omega⟩
 |_=>cases h
theorem zqU{g:Str}{hs:List Str}{ps:List (Str×Str)}{w0:List Str}{z:Str}(h1:zb4 (.tup ((w0 ++ [z]).map D.str)) 1 hs.length=true)(h2:((w0 ++ [z]).map D.str).all (zaa hs)=true):zcy g hs ps (.tup ((w0 ++ [z]).map D.str))=(decide (z=g)&&decide (w0 ++ [z]).Nodup&&(List.range ((w0 ++ [z]).length -1)).all λk=>decide ((w0 ++ [z]).getD (k+1) ""∈zc6 ps ((w0 ++ [z]).getD k ""))):=by
 unfold zcy
 have h3:zlG (zaa hs) (.tup ((w0 ++ [z]).map D.str))=true:=h2
 rw[h1,h3,RW.strs_map]
 unfold zm0
 have e:(decide ((w0 ++ [z]).getLast?=some g))=decide (z=g):=by
  rw[List.getLast?_append]
  simp
 rw[e];rfl
theorem zgC{H:Hp}{us:List V}{xs:List Str}(r:RepL H us (xs.map D.str)):us=xs.map V.str:=by
 apply List.ext_getElem?
 intro i
 rcases Nat.lt_or_ge i xs.length with hi|hi
 ·have hv:i<us.length:=by rw[r.1,List.length_map];exact hi
  have:=r.2 i us[i] (.str xs[i]) (by simp[hv]) (by simp[hi])
  rw[List.getElem?_eq_getElem hv,List.getElem?_map,List.getElem?_eq_getElem hi]
  generalize us[i]=z at this
  cases this
  rfl
 ·rw[List.getElem?_eq_none (by rw[r.1,List.length_map];exact hi),List.getElem?_eq_none (by rw[List.length_map];exact hi)]
def zz(xs:List Str):List PyData:=xs.map PyData.str
section
variable{X:Cx}{K:PySem.W.Frag}
end
section
variable{te tf:TE}{ta:TA}{σ:L2.St}{H:Hp}{d:D}{ds es:List D}{K:PySem.W.Frag}
end
section
variable{te tf:TE}{ta:TA}{tb:TS}{De:Ends}{σ:L2.St}{H:Hp}{d:D}{ds es:List D}{K:PySem.W.Frag}{k:Nat}
end
theorem zdX:∀{l m:List Str},l.Pairwise (λa b=>ltS a b=true)->m.Pairwise (λa b=>ltS a b=true)->(∀x,x∈l↔x∈m)->l=m
 |[],[],_,_,_=>rfl
 |[],b::m,_,_,h=>absurd ((h b).mpr List.mem_cons_self) List.not_mem_nil
 |a::l,[],_,_,h=>absurd ((h a).mp List.mem_cons_self) List.not_mem_nil
 |a::l,b::m,p,q,h=>by
  obtain⟨p1,p2⟩:=List.pairwise_cons.mp p
  obtain⟨q1,q2⟩:=List.pairwise_cons.mp q
  have e:a=b:=by
   rcases List.mem_cons.mp ((h a).mp List.mem_cons_self)with z|z
   ·exact z
   rcases List.mem_cons.mp ((h b).mpr List.mem_cons_self)with y|y
   ·exact y.symm
   have:=zcR (q1 a z)
   rw[p1 b y] at this;cases this
  subst e
  rw[zdX p2 q2 λx=>⟨λhx=>?_,λhx=>?_⟩]
  ·rcases List.mem_cons.mp ((h x).mp (List.mem_cons_of_mem _ hx))with rfl|z
   ·have:=p1 x hx;rw[zed] at this;cases this
   ·exact z
  ·rcases List.mem_cons.mp ((h x).mpr (List.mem_cons_of_mem _ hx))with rfl|z
   ·have:=q1 x hx;rw[zed] at this;cases this
   ·exact z
theorem zeT:∀{xs ys:List Str},PyData.eqvAll (zz xs) (zz ys)=decide (xs=ys)
 |[],[]=>by unfold zz;rw[List.map_nil,PyData.eqvAll];rfl
 |[],y::ys=>by unfold zz;rw[List.map_nil,List.map_cons,PyData.eqvAll];rfl
 |x::xs,[]=>by unfold zz;rw[List.map_nil,List.map_cons,PyData.eqvAll];rfl
 |x::xs,y::ys=>by
  have ih:=zeT (xs:=xs) (ys:=ys)
  unfold zz at ih⊢
  rw[List.map_cons,List.map_cons,PyData.eqvAll,PyData.eqv,ih,Bool.eq_iff_iff,decide_eq_true_iff,List.cons.injEq]
  simp
theorem zdN:∀{xs:List Str},PyData.depthAll (zz xs)<=1
 |[]=>by unfold zz;rw[List.map_nil,PyData.depthAll];decide
 |x::xs=>by
  have ih:=zdN (xs:=xs)
  unfold zz at ih⊢
  rw[List.map_cons,PyData.depthAll,PyData.depth]
  omega
end RW
namespace L2
open PySem PySem.Spec PyProof.Rows
structure FunD(K:PySem.W.Frag)(x qual:Str)(st:Stmt)(f:Addr)(fd:FuncData):Prop where
 ex:∃(oc:Value) (od:Option Addr) (dt:Addr) (kV doc pm:Value) (an:Option Addr) (cdv ct:Value) (osl:Array (Option Value)) (od2:Option Addr) (n2:Nat) (sl2:Array (Option Value)),
  fd=PySem.W.fnOf x qual (zo st) (zm st) (zc st) (.ref dt) kV doc pm an cdv ct/\K.lookup f=some ⟨oc,od, .func fd,osl⟩/\PySem.W.codeIn K cdv qual=true/\K.lookup dt=some ⟨.type "tuple",od2, .seq #[.none] n2,sl2⟩
 kp:PySem.W.keepIn K (.ref f)=true
section
variable{P:Program}{w:World}{K:PySem.W.Frag}{mg:Str->Option Value}{base:Heap}
theorem FunD.okQ{x qual:Str}{st:Stmt}{f:Addr}{fd:FuncData}{N ps:List Str}{k:Nat}{sp:Sp}(F:FunD K x qual st f fd)(S:FnScope N ps (zc st))(len:∀vs H Q E,sp vs H Q E->vs.length=ps.length)
 (hbody:∀(cdv:Value) (A:Around) (outer:List Env) (s:Shared) (H:Hp) (vs:List V) (Q:VK) (E:XK),Room k (A.deeper (envOfC qual (zc st) s.heap.objs.size f cdv))->sp vs H Q E->
   ∃t,QB (ziv CX0 P w K mg base N qual (zc st) f cdv A outer s H E).nox (zm st) t/\t {nx:=λ_ H'=>Q .non H',rt:=Q} (start N vs) H):FnOk P w K mg base CX0 (k+1) f fd ps sp:=by
 obtain⟨oc,od,dt,kV,doc,pm,an,cdv,ct,osl,od2,n2,sl2,rfl,lk,hcd,ld⟩:=F.ex
 refine zpR lk hcd S len λA outer s H vs Q E hr hsp=>?_
 obtain⟨t,h,q⟩:=hbody cdv A outer s H vs Q E hr hsp
 exact⟨t,h.o.nox,q⟩
theorem zks{x qual:Str}{st:Stmt}{f dt:Addr}{oc:Value}{od an od2:Option Addr}{osl sl2:Array (Option Value)}{n2:Nat}{kV doc pm cdv ct:Value}(l:K.lookup f=some ⟨oc,od, .func (PySem.W.fnOf x qual (zo st) (zm st) (zc st) (.ref dt) kV doc pm an cdv ct),osl⟩)
 (ld:K.lookup dt=some ⟨.type "tuple",od2, .seq #[.none] n2,sl2⟩) (c:PySem.W.codeIn K cdv qual=true) (k:PySem.W.keepIn K (.ref f)=true):FunD K x qual st f (PySem.W.fnOf x qual (zo st) (zm st) (zc st) (.ref dt) kV doc pm an cdv ct):=⟨⟨oc,od,dt,kV,doc,pm,an,cdv,ct,osl,od2,n2,sl2,rfl,l,c,ld⟩,k⟩
theorem FunD.binds{x qual:Str}{st:Stmt}{f:Addr}{fd:FuncData}{ps:List Str}{ds:List Value}(F:FunD K x qual st f fd)(m:Nat)(hm:ps.length=m+ds.length)
 (h:∀(dt:Addr) (kV doc pm:Value) (an:Option Addr) (cdv ct:Value) (us:List Value),us.length=m->∃k:Option (Array Value)->Sem (List (Str×Value)),bindArgs (PySem.W.fnOf x qual (zo st) (zm st) (zc st) (.ref dt) kV doc pm an cdv ct) ⟨us,[]⟩=seqItems? (.ref dt)>>=k/\k (some #[.none])=pure (ps.zip (us ++ds))):Binds K fd ps ds:=by
 obtain⟨oc,od,dt,kV,doc,pm,an,cdv,ct,osl,od2,n2,sl2,rfl,lk,hcd,ld⟩:=F.ex
 intro s us kin hl
 obtain⟨k,e1,e2⟩:=h dt kV doc pm an cdv ct us (by rw[List.length_append] at hl;omega)
 exact BindsTo.of_defaults (T:=dt) rfl (kin _ _ ld) rfl e1 e2
end
end L2
namespace RW
open PySem PySem.Spec PyProof.Rows L2
structure AtD(K:PySem.W.Frag)(mg:Str->Option Value)(x:Str)(st:Stmt)(ps:List Str)(f:Addr)(fd:FuncData):Prop where
 fn:FunD K x x st f fd
 b:Binds K fd ps []
 bd:Binds K fd ps [.none]
 mg:mg x=some (.ref f)
 kp:PySem.W.keepIn K (.ref f)=true
def zY(O:List Str):D->Bool| .tup [_, .str x]=>decide (x∈O)|_=>true
def zbD(O:List Str):D->Bool| .tup [.str w,e]=>if w="not"then zY O e else zY O (.tup [.str w,e])|_=>true
def zpf(O:List Str):D->Bool| .tup ds=>ds.all (zbD O)|_=>true
def zfZ(O:List Str):D->Bool| .tup [c,t]=>zpf O c&&zY O t|_=>true
def zb8(O:List Str):D->Bool| .tup ds=>ds.all (zfZ O)|_=>true
structure Pool(hs:List Str)(lks hds:List D)(O:List Str):Prop where
 few:O.length<=13
 nm:∀x∈O,zg x=true
 hs:∀x∈hs,x∈O
 lk:∀d∈lks,zb8 O d=true
 hd:∀d∈hds,zb8 O d=true
def zhR(O:List Str)(d:D):Bool:=z6 d&&zfZ O d
def zhP(O:List Str)(d:D):Bool:=zcq d&&zfZ O d
theorem zbY{O:List Str}{y:D}{x:Str}(h:x∈O):zY O (.tup [y, .str x])=true:=decide_eq_true h
theorem zhl{O:List Str}{w:Str}{e:D}(h:zA (.tup [.str w,e])=true)(hp:zY O (.tup [.str w,e])=true):zbD O (.tup [.str w,e])=true:=by
 show(if w="not"then _ else _)=true
 by_cases z:w="not"
 ·subst z;rw[zcQ] at h;cases h
 ·rw[if_neg z];exact hp
theorem zlS{O:List Str}{d:D}(h:zA d=true)(hp:zY O d=true):zbD O d=true:=by
 obtain⟨x,e,rfl⟩:=zcj d h
 exact zhl h hp
theorem zjC{O:List Str}{d:D}(hp:zY O d=true):zbD O (.tup [.str "not",d])=true:=by
 show(if("not":Str)="not"then zY O d else zY O (.tup [.str "not",d]))=true
 rw[if_pos rfl];exact hp
theorem zgP{O:List Str}{ds:List D}{t:D}(h:∀d∈ds,zbD O d=true)(ht:zY O t=true):zfZ O (.tup [.tup ds,t])=true:=by
 show(ds.all (zbD O)&&zY O t)=true
 rw[List.all_eq_true.mpr h,ht];rfl
end RW
namespace L2
open PySem PySem.Spec PyProof.Rows
def zpW(n0:Nat):TE:=λ_ H Q=>∀p,H p=none->n0<=p->Q (.ref p) (upd H p (.dK []))
section
variable{X:Cx}{pos:Pos}{pins:List (Addr×Obj)}{σ:St}{H:Hp}{s:Shared}
theorem zpb:QE X (.Dict [] [] pos) (zpW X.s₀.heap.objs.size):=⟨λpins s σ H Q I h=>
 wpAny_Dict_empty ⟨.ref s.heap.objs.size,_,I.laid (a:=s.heap.objs.size) (o:= .dK []) (t':=s.toks) (λ_ _ q=>Heap.get?_push_of_some _ q) (Nat.le_refl _) (ziY s.heap I.big),rfl,h _ (I.hok.fresh (Nat.le_refl _)) I.sz⟩⟩
end
end L2
namespace RW
open PySem PySem.Spec PyProof.Rows L2
def phB(ws ms:List Str)(to:Option Str)(w:Str)(x:D):Bool:=
 if w="by"then (match x with| .str y=>ws.any λz=>decide (z=y)|_=>false)
 else if w="from"then (match x with| .str y=>decide (ws[1]?=some y)|_=>false)
 else if w="to"then (match x with| .str y=>decide (to=some y)|_=>false)
 else if w="mark"then (match x with| .str y=>ms.any λz=>decide (z=y)|_=>false)
 else(match x with| .int i=>decide (i<(ws.length:Int))|_=>false)
def zco(ws ms:List Str)(to:Option Str):D->Bool| .tup [.str w,x]=>phB ws ms to w x|_=>false
def zaA(ws ms:List Str)(to:Option Str):D->Bool| .tup [.str w,x]=>if w="not"then !zco ws ms to x else phB ws ms to w x|_=>false
def TO(v:V)(to:Option Str):Prop:=(v= .non/\to=none)\/∃x,v= .str x/\to=some x/\zg x=true
theorem zbj{x:Str}{e:D}(h:zA (.tup [.str x,e])=true):(x="long"/\∃i:Int,e= .int i/\0<=i/\i<=99)\/(x∈namingL/\∃y,e= .str y/\zg y=true):=by
 rw[zet] at h
 by_cases z:x="long"
 ·rw[if_pos z] at h
  cases e with
  |int i=>
   have h:(decide (0<=i)&&decide (i<=99))=true:=h
   rw[Bool.and_eq_true,decide_eq_true_iff,decide_eq_true_iff] at h
   exact .inl ⟨z,i,rfl,h.1,h.2⟩
  |_=>cases h
 ·rw[if_neg z,Bool.and_eq_true] at h
  obtain⟨h1,h2⟩:=h
  obtain⟨y,hy,ey⟩:=List.any_eq_true.mp h1
  have ey:y=x:=of_decide_eq_true ey
  subst ey
  cases e with
  |str y'=>exact .inr ⟨hy,y',rfl,h2⟩
  |_=>cases h2
theorem zcV{x:Str}(h:x∈namingL):x="by"\/x="from"\/x="to"\/x="mark":=by
 unfold namingL at h
 simpa using h
theorem zpK{ws ms:List Str}{to:Option Str}{y:Str}:phB ws ms to "by" (.str y)=ws.any λz=>decide (z=y):=by
 unfold phB;rw[if_pos rfl]
theorem zkP{ws ms:List Str}{to:Option Str}{y:Str}:phB ws ms to "from" (.str y)=decide (ws[1]?=some y):=by
 unfold phB;rw[if_neg (by decide +kernel),if_pos rfl]
theorem zpS{ws ms:List Str}{to:Option Str}{y:Str}:phB ws ms to "to" (.str y)=decide (to=some y):=by
 unfold phB;rw[if_neg (by decide +kernel),if_neg (by decide +kernel),if_pos rfl]
theorem zhN{ws ms:List Str}{to:Option Str}{y:Str}:phB ws ms to "mark" (.str y)=ms.any λz=>decide (z=y):=by
 unfold phB;rw[if_neg (by decide +kernel),if_neg (by decide +kernel),if_neg (by decide +kernel),if_pos rfl]
theorem zj9{ws ms:List Str}{to:Option Str}{i:Int}:phB ws ms to "long" (.int i)=decide (i<(ws.length:Int)):=by
 unfold phB;rw[if_neg (by decide +kernel),if_neg (by decide +kernel),if_neg (by decide +kernel),if_neg (by decide +kernel)]
theorem TO.eq{v:V}{to:Option Str}{y:Str}(h:TO v to):zq4 v (.str y)=true/\decide (v= .str y)=decide (to=some y):=by
 rcases h with⟨rfl,rfl⟩|⟨x,rfl,rfl,_⟩
 ·exact ⟨rfl,rfl⟩
 ·refine ⟨rfl,?_⟩
  rw[zbT,Bool.eq_iff_iff,decide_eq_true_iff,decide_eq_true_iff,Option.some.injEq]
theorem zbp{H:Hp}{p:Addr}{xs:List Str}(e:H p=some (.tup (xs.map V.str)))(h:∀x∈xs,PyData.strOk x=true):Tr H (.ref p) (.tuple (zz xs)):=by
 refine .tup e (by unfold zz;rw[List.length_map,List.length_map]) λi v d e1 e2=>?_
 unfold zz at e2
 rw[List.getElem?_map] at e1 e2
 cases e3:xs[i]? with
 |none=>rw[e3] at e1;cases e1
 |some x=>
  rw[e3] at e1 e2
  cases e1
  cases e2
  exact .str x (h x (List.mem_of_getElem? e3))
theorem zbh{xs ys:List Str}:(PyData.tuple (zz xs)).eqv (.tuple (zz ys))=decide (xs=ys):=by
 rw[PyData.eqv,zeT]
theorem zaw{xs:List Str}:(PyData.tuple (zz xs)).depth<=60:=by
 have:=zdN (xs:=xs)
 rw[PyData.depth]
 omega
theorem znA{xs:List V}(h:1<=xs.length):zb1 xs (some 1) (some 2)=(xs.drop 1).take 1:=by
 unfold zb1 HT.sIx
 simp only[show¬((1:Int)<0) by omega,show¬((2:Int)<0) by omega,if_false]
 rcases Nat.lt_or_ge 1 xs.length with z|z
 ·rw[show min (Int.toNat 1) xs.length=1 by omega,show min (Int.toNat 2) xs.length=2 by omega]
 ·match xs,h,z with
  |[a],_,_=>rfl
  |[],h,_=>exact absurd h (by simp)
  |_::_::_,_,z=>exact absurd z (by simp)
def zeb(c:D->Bool)(g:List Str->List Str->Option Str->D->Bool):Sp:=λvs H Q _=>∃(v:V) (d:D) (pw pm:Addr) (vt:V) (ws ms:List Str) (to:Option Str),vs=[v, .ref pw, .ref pm,vt]/\Rep H v d/\c d=true/\H pw=some (.tup (ws.map V.str))/\H pm=some (.tup (ms.map V.str))/\TO vt to/\(∀x∈ws,zg x=true)/\(∀x∈ms,zg x=true)/\1<=ws.length/\ws.length<=100/\ms.length<=100/\∀H',Same H H'->Q (.bl (g ws ms to d)) H'
theorem zh8{c:D}(h:zaS c=true):∃cs,c= .tup cs/\cs.length<=4/\∀d∈cs,zE d=true:=by
 cases c with
 |tup cs=>
  rw[zh4,Bool.and_eq_true] at h
  exact⟨cs,rfl,of_decide_eq_true h.1,List.all_eq_true.mp h.2⟩
 |_=>cases h
theorem zmb{d:D}{f:D->D->Bool}(h:(match d with| .tup [c,x]=>f c x|_=>false)=true):∃c x,d= .tup [c,x]/\f c x=true:=by
 split at h
 ·exact ⟨_,_,rfl,h⟩
 ·cases h
theorem zeI{d:D}(h:z6 d=true):∃cs x,d= .tup [.tup cs,x]/\cs.length<=4/\(∀c∈cs,zE c=true)/\(x= .non\/∃i,x= .int i):=by
 unfold z6 at h
 obtain⟨c,x,rfl,h⟩:=zmb (f:=λc x=>zaS c&&zcL x&&!zfe c) h
 rw[Bool.and_eq_true,Bool.and_eq_true] at h
 obtain⟨cs,rfl,h4,hc⟩:=zh8 h.1.1
 refine⟨cs,x,rfl,h4,hc,?_⟩
 have hx:=h.1.2
 cases x with
 |non=>exact .inl rfl
 |int i=>exact .inr ⟨i,rfl⟩
 |_=>cases hx
theorem zqk{x:D}(h:zcz x=true):(x= .tup [.str "keep"])\/∃w y,x= .tup [.str w, .str y]/\(w="put"\/w="strike")/\zg y=true:=by
 unfold zcz at h
 split at h
 ·rename_i w
  exact .inl (by rw[of_decide_eq_true h])
 ·rename_i w y
  rw[Bool.and_eq_true,Bool.or_eq_true] at h
  have h2:=h.2
  cases y with
  |str y=>exact .inr ⟨w,y,rfl,h.1.imp of_decide_eq_true of_decide_eq_true,h2⟩
  |_=>cases h2
 ·cases h
theorem znY{d:D}(h:zcq d=true):∃cs x,d= .tup [.tup cs,x]/\cs.length<=4/\(∀c∈cs,zE c=true)/\zcz x=true:=by
 unfold zcq at h
 obtain⟨c,x,rfl,h⟩:=zmb (f:=λc x=>zaS c&&zcz x) h
 rw[Bool.and_eq_true] at h
 obtain⟨cs,rfl,h4,hc⟩:=zh8 h.1
 exact⟨cs,x,rfl,h4,hc,h.2⟩
theorem zlO{O:List Str}{cs:List D}{t:D}(h:zfZ O (.tup [.tup cs,t])=true):(∀c∈cs,zbD O c=true)/\zY O t=true:=by
 have h:(cs.all (zbD O)&&zY O t)=true:=h
 rw[Bool.and_eq_true] at h
 exact⟨List.all_eq_true.mp h.1,h.2⟩
section
variable{te tf:TE}{ta:TA}{tb:TS}{De:Ends}{σ:L2.St}{H:Hp}{d:D}{ds es:List D}{K:PySem.W.Frag}{k:Nat}
end
end RW
namespace HT
open PySem PySem.Spec PyProof.Rows
section
variable{prog:Program}{w:World}{A:Around}{E:Value->Shared->Prop}{s:Shared}
theorem zeX:∀{vs:List Value} {ys:List Str},StrsAre vs ys->vs.length=ys.length/\∀(i:Nat) (y:Str),ys[i]?=some y->∃t,vs[i]?=some (.str y t)
 |_,_, .nil=>⟨rfl,λi y h=>by simp at h⟩
 |_,_, .cons y t r=>by
  obtain⟨h1,h2⟩:=zeX r
  refine⟨by simp[h1],λi z h=>?_⟩
  cases i with
  |zero=>cases h;exact⟨t,rfl⟩
  |succ i=>exact h2 i z h
theorem index_tup{t:Addr}{items:Array Value}{ys:List Str}{x:Str}{tk:Tok}{j:Nat}{Q:Value->Shared->Prop}(ht:IsTup s.heap t items)(hS:StrsAre items.toList ys)(hj:ys[j]?=some x)(hb:∀i<j,ys[i]?≠some x)
 (h:∀(t':Tok) (k:Nat),Q (.int j t') {s with toks:=k}):wpAny (model prog w) A (call (.builtin "tuple.index") [.ref t, .str x tk]) Q E s:=by
 refine wpAny_call_entry PySem.F.slot_tuple_index ht.typeIs PySem.F.entry_tuple_index ?_ (PySem.F.args_tuple_index_2 _ _)
 unfold Builtin.«tuple.index»
 refine wpAny_bind (m:=selfAndSome "tuple.index" "index" 1 3 _) (wpAny_pure ?_)
 dsimp only
 refine wpAny_bind (tupleItemsOf_ ht ?_)
 refine wpAny_bind (wpAny_pure ?_)
 refine wpAny_bind (wpAny_pure ?_)
 obtain⟨hl,hg⟩:=zeX hS
 have hjn:j<items.size:=by
  rw[←Array.length_toList,hl]
  rcases Nat.lt_or_ge j ys.length with z|z
  ·exact z
  ·rw[List.getElem?_eq_none z] at hj;cases hj
 rw[Std.Legacy.Range.forIn_eq_forIn_range']
 refine wpAny_bind (wpAny_forIn_list _ (λl b s'=>∃i,l=List.range' i (items.size -i) 1/\i<=j/\b=(none,())/\s'=s) _ ?_ ?_ _ _ ?_)
 ·rintro a rest b s' ⟨i,el,hij,rfl,rfl⟩
  obtain⟨m,em⟩:∃m,items.size -i=m+1:=⟨items.size -i -1,by omega⟩
  rw[em,List.range'_succ] at el
  have ea:=(List.cons.inj el).1
  have er:=(List.cons.inj el).2
  subst er
  rw[ea]
  have hiy:i<ys.length:=by rw[←hl,Array.length_toList];omega
  obtain⟨t1,e1⟩:=hg i ys[i] (by simp[hiy])
  have e2:items[i]?=some (.str ys[i] t1):=by rw[←Array.getElem?_toList];exact e1
  rw[e2]
  dsimp only
  refine wpAny_bind (wpAny_eqBool_str ?_)
  rcases Nat.lt_or_ge i j with z|z
  ·have ne:¬ys[i]=x:=λy=>hb i z (by rw[←y];simp[hiy])
   rw[decide_eq_false ne]
   exact wpAny_pure ⟨i+1,by rw[show items.size -(i+1)=m by omega],by omega,rfl,rfl⟩
  ·have ei:i=j:=by omega
   subst ei
   have ey:ys[i]=x:=by
    have:ys[i]?=some ys[i]:=by simp[hiy]
    rw[this] at hj;exact Option.some.inj hj
   rw[decide_eq_true ey]
   refine wpAny_bind (m:=retInt _) (wpAny_bind (wpAny_mkInt (wpAny_pure (wpAny_pure ?_))))
   exact wpAny_pure ⟨_,rfl,h _ _⟩
 ·rintro b s' ⟨i,el,hij,rfl,rfl⟩
  have:=congrArg List.length el
  rw[List.length_range',List.length_nil] at this
  omega
 ·exact ⟨0,by simp[Std.Legacy.Range.size],Nat.zero_le _,rfl,rfl⟩
end
section
variable{prog:Program}{w:World}{A:Around}{E:Value->Shared->Prop}{s:Shared}
theorem zd4{it d:Addr}{i:Nat}{items:Array Value}{x:Value}{Q:Value->Shared->Prop}(y:s.heap.IsTupleIter it d i)(ht:s.heap.IsTuple d items)(hx:items[i]?=some x)
 (q:∀h',h'.IsTupleIter it d (i+1)->Heap.SameBut it s.heap h'->Q x {s with heap:=h'}):wpAny (model prog w) A (Builtin.SmallTypes.nextOf (.ref it)) Q E s:=by
 obtain⟨o,ho,hc,hd⟩:=id y
 obtain⟨od,hod,hcd,n,hdd⟩:=id ht
 unfold Builtin.SmallTypes.nextOf
 refine wpAny_bind (wpAny_callSpecial?_slot (name:=Str.ofString "__next__") ⟨o,ho,hc⟩ PySem.F.slot_tuple_iterator_next (wpAny_call_entry PySem.F.slot_tuple_iterator_next ⟨o,ho,hc⟩ PySem.F.entry_tuple_iterator_next ?_ (PySem.F.args_tuple_iterator_next_1 _)))
 show wpAny _ _ (slotArgs "__next__" 0 _>>=_) _ _ s
 refine wpAny_bind (m:=slotArgs "__next__" 0 _) (wpAny_pure ?_)
 dsimp only
 refine wpAny_bind (wpAny_field ho hd (x:= .ref d) rfl ?_)
 rw[if_neg (λz=>nomatch z)]
 refine wpAny_bind (wpAny_field ho hd (x:= .int i 0) rfl ?_)
 dsimp only
 rw[seqItems?.eq_1]
 refine wpAny_bind (wpAny_bind (wpAny_load hod ?_))
 rw[hdd]
 refine wpAny_pure ?_
 dsimp only
 rw[Int.toNat_natCast,hx]
 dsimp only
 refine wpAny_bind (wpAny_setField ho hd (by simp) ?_)
 refine wpAny_pure ⟨_,rfl,wpAny_pure (q _ ⟨_,Heap.get?_update_self _ ho (Obj.isFreed_of_fields (Obj.data_mapFields hd _)),(Obj.cls_mapFields ..).trans hc,?_⟩ (Heap.SameBut.update ..))⟩
 rw[Obj.data_mapFields hd];simp[rawInt]
theorem zeB{it d:Addr}{i:Nat}{items:Array Value}{Q:Value->Shared->Prop}(hh:A.handled=none)(y:s.heap.IsTupleIter it d i)(ht:s.heap.IsTuple d items)(hx:items[i]?=none)
 (q:∀(h':Heap) (e:Addr),Heap.ExtBut it s.heap h'->(∃o,h'.get? e=some o/\o.cls= .type "StopIteration")->E (.ref e) {s with heap:=h'}):wpAny (model prog w) A (Builtin.SmallTypes.nextOf (.ref it)) Q E s:=by
 obtain⟨o,ho,hc,hd⟩:=id y
 obtain⟨od,hod,hcd,n,hdd⟩:=id ht
 unfold Builtin.SmallTypes.nextOf
 refine wpAny_bind (wpAny_callSpecial?_slot (name:=Str.ofString "__next__") ⟨o,ho,hc⟩ PySem.F.slot_tuple_iterator_next (wpAny_call_entry PySem.F.slot_tuple_iterator_next ⟨o,ho,hc⟩ PySem.F.entry_tuple_iterator_next ?_ (PySem.F.args_tuple_iterator_next_1 _)))
 show wpAny _ _ (slotArgs "__next__" 0 _>>=_) _ _ s
 refine wpAny_bind (m:=slotArgs "__next__" 0 _) (wpAny_pure ?_)
 dsimp only
 refine wpAny_bind (wpAny_field ho hd (x:= .ref d) rfl ?_)
 rw[if_neg (λz=>nomatch z)]
 refine wpAny_bind (wpAny_field ho hd (x:= .int i 0) rfl ?_)
 dsimp only
 rw[seqItems?.eq_1]
 refine wpAny_bind (wpAny_bind (wpAny_load hod ?_))
 rw[hdd]
 refine wpAny_pure ?_
 dsimp only
 rw[Int.toNat_natCast,hx]
 dsimp only
 refine wpAny_bind (wpAny_rule ?_)
 refine wpAny_bind (wpAny_setField ho hd (by simp) ?_)
 show wpAny _ _ (newExc (.type "StopIteration") []>>=_) _ _ _
 refine wpAny_bind (by
  simp only[newExc,newTuple]
  refine wpAny_bind (wpAny_newObj_type (wpAny_bind (m:=firstArgMember _ _) (wpAny_of_eq (a:=Value.none) (by first|rfl|(simp only[firstArgMember];rfl)) (wpAny_newObj_type ?_ (by size_fits)))) (by size_fits))
  simp only[raiseNew]
  refine wpAny_bind (wpAny_handled ?_)
  rw[show A.in1.handled=none from hh]
  refine wpAny_bind (wpAny_pure (wpAny_throw ?_))
  exact q _ _ (((Heap.SameBut.update ..).extBut.push _).push _) ⟨_,Heap.get?_push_size _ rfl,rfl⟩)
theorem zil(hh:A.handled=none)(it l:Addr)(hne:l≠it)(items:Array Value):Draws prog w A it [it,l] items.size (λi v=>items[i]?=some v) (λi h=>h.IsTupleIter it l i/\h.IsTuple l items) where
 live:=λi h st=>let ⟨o,e,_⟩:=st.1;⟨o,e⟩
 frame:=λi h h' st k=>⟨st.1.at λo e=>k it (by simp) o e,let⟨o,e,r⟩:=st.2;⟨o,k l (by simp) o e,r⟩⟩
 item:=λi s Q E hi st q=>zd4 st.1 st.2 (x:=items[i]) (by simp[hi]) λh' y' sb=>q _ h' s.toks (by simp[hi]) ⟨y',let⟨o,e,r⟩:=st.2;⟨o,(sb.2 l hne).trans e,r⟩⟩ sb
 done:=λs Q E st q=>zeB hh st.1 st.2 (by simp) q
end
section
variable{prog:Program}{w:World}{A:Around}{E:Value->Shared->Prop}{s:Shared}
end
end HT
namespace L2
open PySem PySem.Spec PyProof.Rows
section
variable{X:Cx}{K:PySem.W.Frag}
def znS(K:PySem.W.Frag):V->List V->Hp->VK->Prop:=λx vs H Q=>∃(p:Addr) (ys:List Str) (y:Str) (j:Nat),x= .ref p/\vs=[.str y]/\SqT K H p (ys.map V.str)/\ys[j]?=some y/\(∀i<j,ys[i]?≠some y)/\Q (.int (j:Int)) H
theorem zgU:MtR X "tuple.index" (znS X.K):=by
 intro pins s σ H x xs v us Q I rx rs h
 obtain⟨p,ys,y,j,rfl,rfl,hq,hj,hb,q⟩:=h
 cases rx
 obtain⟨u,rfl,ru⟩:=zck rs
 obtain⟨t,rfl⟩:=ru
 obtain⟨its,rv,pl,hz⟩:=I.tuple hq
 exact HT.index_tup pl (by simpa using zbA rv) hj hb λt' k=>⟨.int _,H,I.tok _,⟨_,rfl⟩,q⟩
end
end L2
namespace RW
open PySem PySem.Spec PyProof.Rows L2
theorem zmm{hs:List Str}(nd:hs.Nodup){x:Str}{i j:Nat}(h1:hs[i]?=some x)(h2:hs[j]?=some x):i=j:=by
 have lt:∀{k:Nat},hs[k]?=some x->k<hs.length:=λ{k} z=>by
  rcases Nat.lt_or_ge k hs.length with y|y
  ·exact y
  ·rw[List.getElem?_eq_none y] at z;cases z
 have l1:=lt h1
 have l2:=lt h2
 rw[List.getElem?_eq_getElem l1] at h1
 rw[List.getElem?_eq_getElem l2] at h2
 have e:hs[i]=hs[j]:=(Option.some.inj h1).trans (Option.some.inj h2).symm
 have pw:=List.pairwise_iff_getElem.mp nd
 rcases Nat.lt_trichotomy i j with z|z|z
 ·exact absurd e (pw i j l1 l2 z)
 ·exact z
 ·exact absurd e.symm (pw j i l2 l1 z)
theorem zh3{hs:List Str}(nd:hs.Nodup){x:Str}{j:Nat}(h:hs[j]?=some x):∀i<j,hs[i]?≠some x:=λi hi z=>by
 have:=zmm nd z h
 omega
def zeC(ws ms:List Str)(to:Option Str)(cs:List D):Bool:=cs.all (zaA ws ms to)
def zgD:D->List D| .tup [.tup cs,_]=>cs|_=> []
def zka:D->D| .tup [_,t]=>t|_=> .non
def zO(ws ms:List Str):List D->D
 |[]=> .int 0
 |r::rs=>if zeC ws ms none (zgD r)=true then zka r else zO ws ms rs
def zi9:Sp:=λvs H Q _=>∃(v:V) (cs:List D) (pw pm:Addr) (vt:V) (ws ms:List Str) (to:Option Str),vs=[v, .ref pw, .ref pm,vt]/\Rep H v (.tup cs)/\(∀c∈cs,zE c=true)/\H pw=some (.tup (ws.map V.str))/\H pm=some (.tup (ms.map V.str))/\TO vt to/\(∀x∈ws,zg x=true)/\(∀x∈ms,zg x=true)/\1<=ws.length/\ws.length<=100/\ms.length<=100/\∀H',Same H H'->Q (.bl (zeC ws ms to cs)) H'
def zrH:Sp:=λvs H Q _=>∃(v:V) (x:Str) (g:Str) (hs:List Str) (ps:List (Str×Str)) (lks hds:List D) (j:Nat),vs=[v, .str x]/\Rep H v (zaE g hs ps lks hds)/\TownOk g hs ps lks hds/\hs[j]?=some x/\∀(vr:V) (d:D),lks[j]?=some d->Rep H vr d->Q vr H
def zdt:Sp:=λvs H Q _=>∃(v:V) (pw pm:Addr) (x:Str) (ws ms:List Str) (g:Str) (hs:List Str) (ps:List (Str×Str)) (lks hds:List D) (j:Nat) (rs:List D),vs=[v, .ref pw, .ref pm]/\Rep H v (zaE g hs ps lks hds)/\TownOk g hs ps lks hds/\hs[j]?=some x/\lks[j]?=some (.tup rs)/\H pw=some (.tup ((x::ws).map V.str))/\H pm=some (.tup (ms.map V.str))/\(∀y∈x::ws,zg y=true)/\(∀y∈ms,zg y=true)/\ws.length<=90/\ms.length<=100/\∀(u:V) (H':Hp),Rep H' u (zO (x::ws) ms rs)->Same H H'->Q u H'
theorem zff{α:Type}{rs:List α}{i:Nat}{d:α}(h:rs[i]?=some d):rs.drop i=d::rs.drop (i+1):=by
 have hi:i<rs.length:=by
  rcases Nat.lt_or_ge i rs.length with y|y
  ·exact y
  ·rw[List.getElem?_eq_none y] at h;cases h
 rw[List.drop_eq_getElem_cons hi]
 rw[List.getElem?_eq_getElem hi] at h
 rw[Option.some.inj h]
mutual
def okD:D->Bool
 | .str x=>PyData.strOk x
 | .tup ds=>okL ds
 | .oth=>false
 | .non=>true
 | .bl _=>true
 | .int _=>true
def okL:List D->Bool
 |[]=>true
 |d::ds=>okD d&&okL ds
end
mutual
def pyD:D->PyData
 | .non=> .none
 | .bl b=> .bool b
 | .int i=> .int i
 | .str x=> .str x
 | .tup ds=> .tuple (pyL ds)
 | .oth=> .none
def pyL:List D->List PyData
 |[]=> []
 |d::ds=>pyD d::pyL ds
end
theorem zcX:∀{ds:List D},pyL ds=ds.map pyD
 |[]=>by rw[pyL];rfl
 |d::ds=>by rw[pyL,List.map_cons,zcX]
theorem zkn:∀{ds:List D},okL ds=true->∀d∈ds,okD d=true
 |[],_,_,z=>nomatch z
 |d::ds,h,e,he=>by
  rw[okL,Bool.and_eq_true] at h
  rcases List.mem_cons.mp he with rfl|he
  ·exact h.1
  ·exact zkn h.2 e he
theorem znc:∀{ds:List D},(∀d∈ds,okD d=true)->okL ds=true
 |[],_=>by rw[okL]
 |d::ds,h=>by rw[okL,h d List.mem_cons_self,znc λe he=>h e (List.mem_cons_of_mem _ he)];rfl
theorem zrD{H:Hp}{v:V}{d:D}(r:Rep H v d):okD d=true->Tr H v (pyD d):=by
 induction r with
 |non=>intro _;rw[pyD];exact .non
 |bl b=>intro _;rw[pyD];exact .bl b
 |int i=>intro _;rw[pyD];exact .int i
 |str x _=>intro h;rw[okD] at h;rw[pyD];exact .str x h
 | @tup p vs ds hp l b r ih=>
   intro h
   rw[okD] at h
   rw[pyD,zcX]
   refine .tup hp (by rw[l,List.length_map]) λi v d e1 e2=>?_
   rw[List.getElem?_map] at e2
   cases e:ds[i]? with
   |none=>rw[e] at e2;cases e2
   |some d'=>
    rw[e] at e2
    cases e2
    exact ih i v d' e1 e (zkn h d' (List.mem_of_getElem? e))
 |lst _=>intro h;rw[okD] at h;cases h
 |dK _=>intro h;rw[okD] at h;cases h
def leS(a b:Str):Bool:=!ltS b a
def srt(l:List Str):List Str:=l.mergeSort leS
theorem zp7(a b c:Str)(h1:leS a b=true)(h2:leS b c=true):leS a c=true:=by
 unfold leS at *
 rw[Bool.not_eq_true'] at *
 cases h:ltS c a with
 |false=>rfl
 |true=>
  by_cases e:a=b
  ·subst e;rw[h] at h2;cases h2
  ·have ab:ltS a b=true:=zb9 (λz=>e z.symm) h1
   have:=zeK h ab
   rw[this] at h2;cases h2
theorem zov(a b:Str):(leS a b||leS b a)=true:=by
 unfold leS
 cases h:ltS b a with
 |false=>rfl
 |true=>rw[zcR h];rfl
theorem zda(l:List Str):(srt l).Perm l:=List.mergeSort_perm l leS
theorem zfB{l:List Str}(nd:l.Nodup):(srt l).Pairwise (λa b=>ltS a b=true):=by
 have h1:(srt l).Pairwise (λa b=>leS a b=true):=List.pairwise_mergeSort zp7 zov l
 have h2:(srt l).Nodup:=(zda l).nodup_iff.mpr nd
 refine(h1.and h2).imp λ{a b} h=>?_
 obtain⟨ha,hn⟩:=h
 unfold leS at ha
 rw[Bool.not_eq_true'] at ha
 exact zb9 (λz=>hn z.symm) ha
theorem zmX{ts l:List Str}(hp:ts.Perm l)(hs:sortedS ts=true)(nd:l.Nodup):ts=srt l:=
 zdX (zfh ts hs (hp.nodup_iff.mpr nd)) (zfB nd) λx=>by rw[hp.mem_iff,(zda l).mem_iff]
def zaj(t:List Str)(w m:Str):List Str:=t.filter (λx=>!decide (x=m))++(if w="put"then [m] else [])
theorem zdz{t:List Str}{w m:Str}(nd:t.Nodup):(zaj t w m).Nodup:=by
 unfold zaj
 rw[List.nodup_append]
 refine⟨nd.filter _,?_,?_⟩
 ·split<;>simp
 ·intro a ha b hb e
  split at hb
  ·rw[List.mem_singleton.mp hb] at e
   have:=(List.mem_filter.mp ha).2
   rw[e] at this
   simp at this
  ·cases hb
theorem zlK{t O:List Str}{w m:Str}(h:∀x∈t,x∈O)(hm:m∈O):∀x∈zaj t w m,x∈O:=by
 unfold zaj
 refine List.forall_mem_append.mpr ⟨λx hx=>h x (List.mem_filter.mp hx).1,λx hx=>?_⟩
 split at hx
 ·rw[List.mem_singleton.mp hx];exact hm
 ·cases hx
def ze1(t:List Str)(w m:Str):List Str:=srt (zaj t w m)
structure Mk(O t:List Str):Prop where
 nd:t.Nodup
 mem:∀x∈t,x∈O
theorem Mk.next{O t:List Str}{w m:Str}(h:Mk O t)(hm:m∈O):Mk O (ze1 t w m) where
 nd:=(zda _).nodup_iff.mpr (zdz h.nd)
 mem:=λx hx=>zlK h.mem hm x ((zda _).mem_iff.mp hx)
theorem Mk.len{O t:List Str}(h:Mk O t)(hO:O.length<=13):t.length<=13:=Nat.le_trans (zM h.nd h.mem) hO
def zG(ws:List Str)(to:Option Str):List D->List Str->Option (List Str)
 |[],t=>some t
 |r::rs,t=>if zeC ws t to (zgD r)=true then(match zka r with| .tup [.str w, .str m]=>zG ws to rs (ze1 t w m)|_=>none)else zG ws to rs t
def zdw(O:List Str)(rs:List D):Prop:=rs.length<=90/\∀r∈rs,∃cs x,r= .tup [.tup cs,x]/\(∀c∈cs,zE c=true)/\(x= .tup [.str "keep"]\/∃w m,x= .tup [.str w, .str m]/\(w="put"\/w="strike")/\m∈O)
theorem zkZ{O:List Str}{d:D}(h:zcC d=true)(hi:zb8 O d=true):∃rs,d= .tup rs/\zdw O rs:=by
 cases d with
 |tup rs=>
  have h:(decide (rs.length<=90)&&rs.all zcq)=true:=h
  rw[Bool.and_eq_true] at h
  refine⟨rs,rfl,of_decide_eq_true h.1,λr hr=>?_⟩
  obtain⟨cs,x,rfl,h4,hc,hx⟩:=znY (List.all_eq_true.mp h.2 r hr)
  obtain⟨h1,h2⟩:=zlO (List.all_eq_true.mp hi _ hr)
  refine⟨cs,x,rfl,hc,?_⟩
  rcases zqk hx with rfl|⟨w,y,rfl,hw,_⟩
  ·exact .inl rfl
  ·exact .inr ⟨w,y,rfl,hw,of_decide_eq_true h2⟩
 |_=>cases h
def Told(H:Hp)(u:V):Option (List Str)->Prop
 |none=>u= .non
 |some t=>∃p,u= .ref p/\H p=some (.tup (t.map V.str))
theorem Told.same{H H':Hp}{u:V}{o:Option (List Str)}(h:Told H u o)(s:Same H H'):Told H' u o:=by
 cases o with
 |none=>exact h
 |some t=>obtain ⟨p,e,g⟩:=h;exact⟨p,e,s _ _ g⟩
def zrc:Sp:=λvs H Q _=>∃(v:V) (x:Str) (g:Str) (hs:List Str) (ps:List (Str×Str)) (lks hds:List D) (j:Nat),vs=[v, .str x]/\Rep H v (zaE g hs ps lks hds)/\TownOk g hs ps lks hds/\hs[j]?=some x/\∀(vr:V) (d:D),hds[j]?=some d->Rep H vr d->Q vr H
def ziq:Sp:=λvs H Q _=>∃(pm:Addr) (v:V) (t:List Str) (w m:Str),vs=[.ref pm,v]/\H pm=some (.tup (t.map V.str))/\Rep H v (.tup [.str w, .str m])/\(∀x∈t,zg x=true)/\zg m=true/\t.Nodup/\t.length<=13/\∀(p:Addr) (H':Hp),H' p=some (.tup ((ze1 t w m).map V.str))->Same H H'->Q (.ref p) H'
def zhU:Sp:=λvs H Q _=>∃(v:V) (pw pm:Addr) (vt:V) (x:Str) (ws ms:List Str) (to:Option Str) (g:Str) (hs:List Str) (ps:List (Str×Str)) (lks hds:List D) (j:Nat) (rs:List D) (O:List Str),vs=[v, .ref pw, .ref pm,vt]/\Rep H v (zaE g hs ps lks hds)/\TownOk g hs ps lks hds/\hs[j]?=some x/\hds[j]?=some (.tup rs)/\zdw O rs/\O.length<=13/\(∀y∈O,zg y=true)/\Mk O ms/\H pw=some (.tup ((x::ws).map V.str))/\H pm=some (.tup (ms.map V.str))/\TO vt to/\(∀y∈x::ws,zg y=true)/\ws.length<=90/\∀(u:V) (H':Hp),Told H' u (zG (x::ws) to rs ms)->Same H H'->Q u H'
theorem zp0{g:Str}{hs:List Str}{ps:List (Str×Str)}{lks hds:List D}(T:TownOk g hs ps lks hds){x:Str}(h:x∈hs):∃(j:Nat) (d:D),hs[j]?=some x/\hds[j]?=some d/\d∈hds:=by
 obtain⟨j,hj,e⟩:=List.getElem_of_mem h
 have hl:j<hds.length:=by rw[T.lh];exact hj
 exact⟨j,hds[j],by rw[List.getElem?_eq_getElem hj,e],List.getElem?_eq_getElem hl,List.getElem_mem hl⟩
def neD(m:Str):D->Bool| .str z=>!decide (z=m)|_=>false
theorem zne{t:List Str}{m:Str}:((t.map D.str).filter (neD m)).map (λd=>d)=(t.filter λx=>!decide (x=m)).map D.str:=by
 rw[List.map_id',List.filter_map];rfl
end RW
namespace L2
open PySem PySem.W PySem.Spec PyProof.Rows
section
open PySem.SeqAt
open PySem.AutoSeq1 (wpAny_loadPart')
open PySem.MeetsSeq PySem.MeetsSeq2 PySem.MeetsSeq3
theorem zd9(l b:Addr)(n n2:Nat)(dd dd2:Option Addr)(sl sl2:Array (Option Value))(xs ys:List Value)(k:Nat)(res:Bool):
 Meets (Builtin.«tuple.__lt__» ⟨[.ref l, .ref b],[]⟩) (λA R s=>s.heap.get? l=some {cls:= .type "tuple",dict:=dd,data:= .seq xs.toArray n,slots:=sl}/\s.heap.get? b=some {cls:= .type "tuple",dict:=dd2,data:= .seq ys.toArray n2,slots:=sl2}/\
  (∀prog w i x y,i<k->xs[i]?=some x->ys[i]?=some y->∀(E:Value->Shared->Prop) (Q:Bool->Shared->Prop),Q true s->wpAny (model prog w) A.in1 (eqBool x y) Q E s)/\k<=xs.length/\k<=ys.length/\
  ((k=min xs.length ys.length/\res=decide (xs.length<ys.length))\/∃x y,xs[k]?=some x/\ys[k]?=some y/\(∀prog w (E:Value->Shared->Prop) (Q:Bool->Shared->Prop),Q false s->wpAny (model prog w) A.in1 (eqBool x y) Q E s)/\∀prog w (E:Value->Shared->Prop) (Q:Value->Shared->Prop),Q (.bool res) s->wpAny (model prog w) A.in1 (richCompare .Lt x y) Q E s)/\
  R (.ok (.ret (.bool res))) s):=
 .of_wp λprog w A R s h=>by
  obtain⟨hp,g,d,tk,os⟩:=s
  obtain⟨hl,hb,he,k1,k2,hk,h⟩:=h
  have f2:=AutoSeq1.sub_tuple_tuple
  wp_walk using wpAny_loadPart' hl,wpAny_loadPart' hb,wpAny_forIn_list _ (λrest b s'=>b.1=none/\s'=⟨hp,g,d,tk,os⟩/\∃i,i<=k/\rest=(xs.zip ys).drop i) _
  case turn=>
   rintro⟨p,q⟩ rest b s' ⟨hb',rfl,i,hi,hr⟩
   have hx:(xs.zip ys)[i]?=some (p,q):=by
    have:=congrArg (λl=>l[0]?) hr
    simpa[List.getElem?_drop] using this.symm
   rw[List.getElem?_zip_eq_some] at hx
   have hr2:rest=(xs.zip ys).drop (i+1):=by
    have:=congrArg List.tail hr
    simpa using this
   rcases Nat.lt_or_ge i k with z|z
   ·refine wpAny_bind (he prog w i p q z hx.1 hx.2 _ _ ?_)
    wp_walk
    exact⟨rfl,rfl,i+1,z,hr2⟩
   ·have ei:i=k:=by omega
    subst ei
    rcases hk with⟨hm,_⟩|⟨x,y,ex,ey,f1,f3⟩
    ·have h1:i<xs.length:=by
      rcases Nat.lt_or_ge i xs.length with y|y
      ·exact y
      ·rw[List.getElem?_eq_none y] at hx;cases hx.1
     have h2:i<ys.length:=by
      rcases Nat.lt_or_ge i ys.length with y|y
      ·exact y
      ·rw[List.getElem?_eq_none y] at hx;cases hx.2
     omega
    ·rw[hx.1] at ex
     rw[hx.2] at ey
     cases ex
     cases ey
     refine wpAny_bind (f1 prog w _ _ ?_)
     have c1:=f3 prog w
     wp_walk using c1
     exact⟨_,rfl,h⟩
  case fin=>
   rintro⟨b1,b2⟩ s' ⟨hb',rfl,i,hi,hr⟩
   simp only at hb'
   subst hb'
   have hlen:(xs.zip ys).length<=i:=by
    have:=congrArg List.length hr
    rw[List.length_nil,List.length_drop] at this
    omega
   rw[List.length_zip] at hlen
   rcases hk with⟨hm,hres⟩|⟨x,y,ex,ey,_⟩
   ·wp_walk
    rw[hres] at h
    exact⟨_,rfl,h⟩
   ·have h1:k<xs.length:=by
     rcases Nat.lt_or_ge k xs.length with y|y
     ·exact y
     ·rw[List.getElem?_eq_none y] at ex;cases ex
    have h2:k<ys.length:=by
     rcases Nat.lt_or_ge k ys.length with z|z
     ·exact z
     ·rw[List.getElem?_eq_none z] at ey;cases ey
    omega
  case h=>
   exact⟨rfl,rfl,0,Nat.zero_le _,by simp⟩
end
end L2
namespace L2
open PySem PySem.W PySem.Spec PyProof.Rows RW
def ltL:List Str->List Str->Bool
 |[],[]=>false
 |[],_::_=>true
 |_::_,[]=>false
 |x::xs,y::ys=>if x=y then ltL xs ys else ltS x y
theorem zmI:∀(ps qs:List Str),∃k,k<=ps.length/\k<=qs.length/\(∀i<k,ps[i]?=qs[i]?)/\((k=min ps.length qs.length/\ltL ps qs=decide (ps.length<qs.length))\/∃x y,ps[k]?=some x/\qs[k]?=some y/\x≠y/\ltL ps qs=ltS x y)
 |[],[]=>⟨0,Nat.le_refl _,Nat.le_refl _,λi z=>absurd z (Nat.not_lt_zero _), .inl ⟨rfl,rfl⟩⟩
 |[],q::qs=>⟨0,Nat.le_refl _,Nat.zero_le _,λi z=>absurd z (Nat.not_lt_zero _), .inl ⟨by simp,by rw[ltL];simp⟩⟩
 |p::ps,[]=>⟨0,Nat.zero_le _,Nat.le_refl _,λi z=>absurd z (Nat.not_lt_zero _), .inl ⟨by simp,by rw[ltL];simp⟩⟩
 |p::ps,q::qs=>by
  by_cases e:p=q
  ·subst e
   obtain⟨k,k1,k2,he,hk⟩:=zmI ps qs
   refine⟨k+1,by simp;omega,by simp;omega,λi hi=>?_,?_⟩
   ·cases i with
    |zero=>rfl
    |succ i=>exact he i (by omega)
   ·rw[ltL,if_pos rfl]
    rcases hk with⟨h1,h2⟩|⟨x,y,h1,h2,h3,h4⟩
    ·exact .inl ⟨by simp;omega,by rw[h2];simp⟩
    ·exact .inr ⟨x,y,by simpa using h1,by simpa using h2,h3,h4⟩
  ·exact ⟨0,Nat.zero_le _,Nat.zero_le _,λi z=>absurd z (Nat.not_lt_zero _), .inr ⟨p,q,rfl,rfl,e,by rw[ltL,if_neg e]⟩⟩
section
variable{X:Cx}{K:PySem.W.Frag}
theorem zep{ps:List Str}{its:List Value}(r:Vals (ps.map V.str) its){i:Nat}{v:Value}(h:its[i]?=some v):∃p t,ps[i]?=some p/\v= .str p t:=by
 have hi:i<its.length:=by
  rcases Nat.lt_or_ge i its.length with z|z
  ·exact z
  ·rw[List.getElem?_eq_none z] at h;cases h
 have hp:i<ps.length:=by have:=r.length;rw[List.length_map] at this;omega
 obtain⟨u,hu,ru⟩:=r.get (i:=i) (x:= .str ps[i]) (by rw[List.getElem?_map,List.getElem?_eq_getElem hp];rfl)
 rw[hu] at h
 cases h
 obtain⟨t,rfl⟩:=ru
 exact⟨ps[i],t,List.getElem?_eq_getElem hp,rfl⟩
theorem zie{ps:List Str}{its:List Value}(r:Vals (ps.map V.str) its):its.length=ps.length:=by have:=r.length;rw[List.length_map] at this;exact this.symm
theorem ziW{prog:Program}{w:World}{A:Around}{E:Value->Shared->Prop}{s:Shared}{Q:Value->Shared->Prop}{a b:Addr}{ps qs:List Str}{its its2:List Value}(ra:Vals (ps.map V.str) its)(rb:Vals (qs.map V.str) its2)(ha:IsTup s.heap a its.toArray)(hb:IsTup s.heap b its2.toArray)(hu:A.units<cLine)
 (q:Q (.bool (ltL ps qs)) s):wpAny (model prog w) A (richCompare .Lt (.ref a) (.ref b)) Q E s:=by
 obtain⟨⟨c1,d1,e1,f1⟩,ho,hc,n,hd⟩:=id ha
 obtain⟨⟨c2,d2,e2,f2⟩,ho2,hc2,n2,hd2⟩:=id hb
 simp only at hc hd hc2 hd2
 subst hc hd hc2 hd2
 obtain⟨k,k1,k2,he,hk⟩:=zmI ps qs
 have l1:=zie ra
 have l2:=zie rb
 refine richCompare_meets_room (op:= .Lt) ⟨_,ho,rfl⟩ ⟨_,ho2,rfl⟩ PySem.F.slot_tuple_lt PySem.F.entry_tuple_lt (PySem.F.args_tuple_lt_2 _ _) (zd9 a b n n2 d1 d2 f1 f2 its its2 k (ltL ps qs)) ⟨ho,ho2,?_,by omega,by omega,?_,?_⟩ hu
 ·intro prog w i x y hi hx hy E Q hq
  obtain⟨p,t,hp,rfl⟩:=zep ra hx
  obtain⟨q',t',hp',rfl⟩:=zep rb hy
  have e:p=q':=by
   have:=he i hi
   rw[hp,hp'] at this;exact Option.some.inj this
  refine wpAny_eqBool_str ?_
  rw[decide_eq_true e];exact hq
 ·rcases hk with⟨h1,h2⟩|⟨x,y,h1,h2,h3,h4⟩
  ·exact .inl ⟨by omega,by rw[h2,l1,l2]⟩
  ·have hx:k<its.length:=by
    rw[l1]
    rcases Nat.lt_or_ge k ps.length with z|z
    ·exact z
    ·rw[List.getElem?_eq_none z] at h1;cases h1
   have hy:k<its2.length:=by
    rw[l2]
    rcases Nat.lt_or_ge k qs.length with z|z
    ·exact z
    ·rw[List.getElem?_eq_none z] at h2;cases h2
   obtain⟨p,t,hp,e1⟩:=zep ra (List.getElem?_eq_getElem hx)
   obtain⟨q',t',hp',e2⟩:=zep rb (List.getElem?_eq_getElem hy)
   rw[h1] at hp
   rw[h2] at hp'
   cases hp
   cases hp'
   refine .inr ⟨_,_,List.getElem?_eq_getElem hx,List.getElem?_eq_getElem hy,λprog w E Q hq=>?_,λprog w E Q hq=>?_⟩
   ·rw[e1,e2]
    refine wpAny_eqBool_str ?_
    rw[decide_eq_false h3];exact hq
   ·rw[e1,e2]
    rw[h4] at hq
    exact(PyProof.Rows.lt_str hq:wpAny (model prog w) A.in1 (compareOp .Lt (.str x t) (.str y t')) Q E s)
 ·exact ⟨(λx=>nomatch x),q⟩
def ltK(k1 k2:Int×Int×List Str):Bool:=if k1.1=k2.1 then(if k1.2.1=k2.2.1 then ltL k1.2.2 k2.2.2 else decide (k1.2.1<k2.2.1))else decide (k1.1<k2.1)
def zpL(H:Hp)(x:V)(k:Int×Int×List Str):Prop:=∃a p,x= .ref a/\H a=some (.tup [.int k.1, .int k.2.1, .ref p])/\H p=some (.tup (k.2.2.map V.str))/\∀y∈k.2.2,PyData.strOk y=true
theorem zfj:∀(ps:List Str),ltL ps ps=false
 |[]=>rfl
 |p::ps=>by rw[ltL,if_pos rfl];exact zfj ps
theorem zqy{x y z:V}{us:List Value}(r:Vals [x,y,z] us):∃a b c,us=[a,b,c]/\RelV x a/\RelV y b/\RelV z c:=by
 cases r with
 |cons h1 r=>cases r with
  |cons h2 r=>cases r with
   |cons h3 r=>
    cases r
    exact⟨_,_,_,rfl,h1,h2,h3⟩
end
end L2
namespace RW
open PySem PySem.Spec PyProof.Rows L2
def zpp:Sp:=λvs H Q _=>∃(v:V) (pw pm:Addr) (x:Str) (ws ms:List Str) (g:Str) (hs:List Str) (ps:List (Str×Str)) (lks hds:List D) (j:Nat) (rs:List D) (i:Int),vs=[v, .ref pw, .ref pm]/\Rep H v (zaE g hs ps lks hds)/\TownOk g hs ps lks hds/\hs[j]?=some x/\lks[j]?=some (.tup rs)/\H pw=some (.tup ((x::ws).map V.str))/\H pm=some (.tup (ms.map V.str))/\(∀y∈x::ws,zg y=true)/\(∀y∈ms,zg y=true)/\ws.length<=90/\ms.length<=100/\zO (x::ws) ms rs= .int i/\∀(u:V) (H':Hp),zpL H' u (-i,((x::ws).length:Int),x::ws)->Same H H'->Q u H'
end RW
namespace HT
open PySem PySem.Spec PyProof.Rows
section
variable{prog:Program}{w:World}{A:Around}{E:Value->Shared->Prop}{s:Shared}
end
end HT
namespace L2
open PySem PySem.Spec PyProof.Rows
section
variable{X:Cx}{e st:Expr}{te ts:TE}{p1 p2 p3 pos:Pos}{tk:Tok}
end
end L2
namespace RW
open PySem PySem.Spec PyProof.Rows L2
section
variable{te tf:TE}{ta:TA}{σ:L2.St}{H:Hp}{d:D}{ds es:List D}{K:PySem.W.Frag}
end
end RW
namespace L2
open PySem PySem.Spec PyProof.Rows
section
variable{X:Cx}{pos:Pos}{pins:List (Addr×Obj)}{σ:St}{H:Hp}{s:Shared}
end
section
variable{X:Cx}{K:PySem.W.Frag}
end
section
variable{X:Cx}{pos:Pos}
end
end L2
namespace HT
open PySem PySem.Spec PyProof.Rows
end HT
namespace L2
open PySem PySem.Spec PyProof.Rows
section
variable{X:Cx}{e i o:Expr}{te td ty:TE}{p1 p2 p3 pos:Pos}{tk:Tok}
theorem zb3(hu:X.A.units+1<cLine)(ho:QE X o td)(hi:QE X i ty)(hs:zq5 i:=by exact λ_ _=>rfl):QE X (.Subscript o i pos) (zpM td ty):=⟨znT hu ho.o hi.o hs⟩
end
end L2
namespace RW
open PySem PySem.Spec PyProof.Rows L2
theorem zmc:∀{ps qs rs:List Str},ltL ps qs=true->ltL qs rs=true->ltL ps rs=true
 |[],[],_,h,_=>by rw[ltL] at h;cases h
 |_::_,[],_,h,_=>by rw[ltL] at h;cases h
 |_,_::_,[],_,h=>by rw[ltL] at h;cases h
 |[],_::_,_::_,_,_=>by rw[ltL]
 |p::ps,q::qs,r::rs,h1,h2=>by
  rw[ltL] at h1 h2⊢
  by_cases z:p=q
  ·subst z
   rw[if_pos rfl] at h1
   by_cases y:p=r
   ·subst y
    rw[if_pos rfl] at h2⊢
    exact zmc h1 h2
   ·rw[if_neg y] at h2⊢
    exact h2
  ·rw[if_neg z] at h1
   by_cases y:q=r
   ·subst y
    rw[if_neg z];exact h1
   ·rw[if_neg y] at h2
    have h3:=zeK h1 h2
    rw[if_neg (zjf h3)]
    exact h3
theorem zcr(k:Int×Int×List Str):ltK k k=false:=by
 unfold ltK
 rw[if_pos rfl,if_pos rfl];exact zfj _
theorem zhB{k1 k2 k3:Int×Int×List Str}(h1:ltK k1 k2=true)(h2:ltK k2 k3=true):ltK k1 k3=true:=by
 unfold ltK at *
 by_cases z:k1.1=k2.1
 ·rw[if_pos z] at h1
  by_cases z2:k2.1=k3.1
  ·rw[if_pos z2] at h2
   rw[if_pos (z.trans z2)]
   by_cases y:k1.2.1=k2.2.1
   ·rw[if_pos y] at h1
    by_cases y2:k2.2.1=k3.2.1
    ·rw[if_pos y2] at h2
     rw[if_pos (y.trans y2)]
     exact zmc h1 h2
    ·rw[if_neg y2] at h2
     rw[if_neg (by rw[y];exact y2)]
     have:=of_decide_eq_true h2
     exact decide_eq_true (by omega)
   ·rw[if_neg y] at h1
    have h1:=of_decide_eq_true h1
    by_cases y2:k2.2.1=k3.2.1
    ·rw[if_neg (by omega)]
     exact decide_eq_true (by omega)
    ·rw[if_neg y2] at h2
     have h2:=of_decide_eq_true h2
     rw[if_neg (by omega)]
     exact decide_eq_true (by omega)
  ·rw[if_neg z2] at h2
   have h2:=of_decide_eq_true h2
   rw[if_neg (by omega)]
   exact decide_eq_true (by omega)
 ·rw[if_neg z] at h1
  have h1:=of_decide_eq_true h1
  by_cases z2:k2.1=k3.1
  ·rw[if_neg (by omega)]
   exact decide_eq_true (by omega)
  ·rw[if_neg z2] at h2
   have h2:=of_decide_eq_true h2
   rw[if_neg (by omega)]
   exact decide_eq_true (by omega)
theorem zj0{k1 k2:Int×Int×List Str}(h:ltK k1 k2=true):ltK k2 k1=false:=by
 cases e:ltK k2 k1 with
 |false=>rfl
 |true=>have:=zhB h e;rw[zcr] at this;cases this
abbrev WM:=List Str×List Str
def wI(rs:List D)(e:WM):Int:=match zO e.1 e.2 rs with| .int a=>a|_=>0
def kE(rs:List D)(e:WM):Int×Int×List Str:=(-(wI rs e),(e.1.length:Int),e.1)
mutual
theorem znN:∀d:D,(pyD d).eqv (pyD d)=true
 | .non=>by rw[pyD,PyData.eqv]
 | .bl b=>by rw[pyD,PyData.eqv];simp
 | .int i=>by rw[pyD,PyData.eqv];simp
 | .str x=>by rw[pyD,PyData.eqv];simp
 | .tup ds=>by rw[pyD,PyData.eqv];exact zkv ds
 | .oth=>by rw[pyD,PyData.eqv]
theorem zkv:∀ds:List D,PyData.eqvAll (pyL ds) (pyL ds)=true
 |[]=>by rw[pyL,PyData.eqvAll]
 |d::ds=>by rw[pyL,PyData.eqvAll,znN d,zkv ds];rfl
end
theorem zdo{n:Nat}:∀{xs:List PyData},(∀x∈xs,x.depth<=n)->PyData.depthAll xs<=n
 |[],_=>by rw[PyData.depthAll];exact Nat.zero_le _
 |x::xs,h=>by
  rw[PyData.depthAll]
  have h1:=h x List.mem_cons_self
  have h2:=zdo (n:=n) λy hy=>h y (List.mem_cons_of_mem _ hy)
  omega
end RW
namespace HT
open PySem PySem.Spec PyProof.Rows L2
section
variable{prog:Program}{w:World}{A:Around}{E:Value->Shared->Prop}{s:Shared}
theorem zlz{z TI TO i1 i2 l1 l2:Addr}{n1 n2 k:Nat}{P1 P2:Nat->Value->Prop}{S1 S2:Nat->Heap->Prop}{a b:Value}{Q:Value->Shared->Prop}(D:ZipApart z TI TO i1 i2 l1 l2)
 (D1:Draws prog w A i1 [i1,l1] n1 P1 S1) (D2:Draws prog w A i2 [i2,l2] n2 P2 S2)
 (hz:IsZip s.heap z TI TO .none) (hTI:IsPair s.heap TI (.ref i1) (.ref i2)) (hTO:IsPair s.heap TO a b) (h1:S1 k s.heap) (h2:S2 k s.heap) (k1:k<n1) (k2:k<n2)
 (hQ:∀x y h' tk,P1 k x->P2 k y->IsZip h' z TI TO (rawInt s.heap.objs.size)->IsPair h' TO x y->S1 (k+1) h'->S2 (k+1) h'->IsPair h' s.heap.objs.size x y->h'.objs.size=s.heap.objs.size+1->
   (∀c o,c≠z->c≠TO->c≠i1->c≠i2->s.heap.get? c=some o->h'.get? c=some o)->Q (.ref s.heap.objs.size) {s with heap:=h',toks:=tk}):
 wpAny (model prog w) A (Builtin.«zip.__next__» ⟨[.ref z],[]⟩) (λfin s'=>∃v,fin= .done (.ret v)/\Q v s') E s:=by
 show wpAny _ _ (field (.ref z) 2>>=_) _ _ _
 refine wpAny_bind (wpAny_field hz rfl (x:= .bool false) rfl ?_)
 show wpAny _ _ (field (.ref z) 3>>=_) _ _ _
 refine wpAny_bind (wpAny_field hz rfl (x:= .ref TI) rfl ?_)
 refine wpAny_bind (wpAny_seqItems hTI rfl ?_)
 show wpAny _ _ (Builtin.SmallTypes.ownedTupleIsFree (.ref z)>>=_) _ _ _
 refine wpAny_bind ?_
 unfold Builtin.SmallTypes.ownedTupleIsFree
 refine wpAny_bind (wpAny_field hz rfl (x:= .none) rfl (wpAny_pure ?_))
 simp only[if_true]
 refine wpAny_bind (wpAny_rule ?_)
 refine wpAny_bind (wpAny_field hz rfl (x:= .ref TO) rfl ?_)
 refine wpAny_bind (wpAny_setField_rec hz (by simp) λh₁ hz₁ hs₁=>?_)
 replace hz₁:IsZip h₁ z TI TO .ellipsis:=hz₁
 refine wpAny_bind ?_
 simp only[List.zipIdx_cons,List.zipIdx_nil,List.forIn_cons,List.forIn_nil]
 refine wpAny_bind (wpAny_bind (wpAny_onRaise ?_))
 show wpAny _ _ (Builtin.SmallTypes.nextOf (.ref i1)>>=_) _ _ _
 have f1:∀{i:Nat} {h h':Heap},S1 i h->(∀c o,c≠z->c≠TO->c≠i2->h.get? c=some o->h'.get? c=some o)->S1 i h':=λst kk=>D1.frame _ _ _ st λc hc o e=>by
  rcases List.mem_cons.mp hc with rfl|hc
  ·exact kk c o D.i1z D.TOi1.symm D.i12 e
  ·have:c=l1:=by simpa using hc
   subst this
   exact kk c o D.l1z D.l1TO D.l1i2 e
 have f2:∀{i:Nat} {h h':Heap},S2 i h->(∀c o,c≠z->c≠TO->c≠i1->h.get? c=some o->h'.get? c=some o)->S2 i h':=λst kk=>D2.frame _ _ _ st λc hc o e=>by
  rcases List.mem_cons.mp hc with rfl|hc
  ·exact kk c o D.i2z D.TOi2.symm D.i12.symm e
  ·have:c=l2:=by simpa using hc
   subst this
   exact kk c o D.l2z D.l2TO D.l2i1 e
 refine wpAny_bind (D1.item k _ _ _ k1 (f1 h1 λc o c1 _ _ e=>hs₁.extBut _ _ c1 e) λx h₂ tk2 hx h1₂ hs₂=>wpAny_pure ?_)
 have hTO₂:IsPair h₂ TO a b:=hs₂.extBut _ _ D.TOi1 (hs₁.extBut _ _ D.TOz hTO)
 refine wpAny_bind (wpAny_seqItems hTO₂ rfl ?_)
 refine wpAny_bind (wpAny_updateSeq_pair hTO₂ λh₃ hTO₃ hs₃=>?_)
 replace hTO₃:IsPair h₃ TO x b:=hTO₃
 refine wpAny_bind (wpAny_letGo (wpAny_pure ?_))
 refine wpAny_bind (wpAny_bind (wpAny_onRaise ?_))
 show wpAny _ _ (Builtin.SmallTypes.nextOf (.ref i2)>>=_) _ _ _
 refine wpAny_bind (D2.item k _ _ _ k2 (f2 h2 λc o c1 c2 c3 e=>hs₃.extBut _ _ c2 (hs₂.extBut _ _ c3 (hs₁.extBut _ _ c1 e))) λy h₄ tk4 hy h2₄ hs₄=>wpAny_pure ?_)
 have hTO₄:IsPair h₄ TO x b:=hs₄.extBut _ _ D.TOi2 hTO₃
 refine wpAny_bind (wpAny_seqItems hTO₄ rfl ?_)
 refine wpAny_bind (wpAny_updateSeq_pair hTO₄ λh₅ hTO₅ hs₅=>?_)
 replace hTO₅:IsPair h₅ TO x y:=hTO₅
 refine wpAny_bind (wpAny_letGo (wpAny_pure (wpAny_pure ?_)))
 refine wpAny_bind (wpAny_seqItems hTO₅ rfl ?_)
 refine wpAny_bind (wpAny_newTuple ?_)
 have hsz:h₅.objs.size=s.heap.objs.size:=by rw[hs₅.1,hs₄.1,hs₃.1,hs₂.1,hs₁.1]
 have hz₅:IsZip h₅ z TI TO .ellipsis:=hs₅.extBut _ _ D.TOz.symm (hs₄.extBut _ _ D.i2z.symm (hs₃.extBut _ _ D.TOz.symm (hs₂.extBut _ _ D.i1z.symm hz₁)))
 have hk₅:∀c o,c≠z->c≠TO->c≠i1->c≠i2->s.heap.get? c=some o->h₅.get? c=some o:=λc o c1 c2 c3 c4 e=>
  hs₅.extBut _ _ c2 (hs₄.extBut _ _ c4 (hs₃.extBut _ _ c2 (hs₂.extBut _ _ c3 (hs₁.extBut _ _ c1 e))))
 have h1₅:S1 (k+1) h₅:=f1 h1₂ λc o c1 c2 c3 e=>hs₅.extBut _ _ c2 (hs₄.extBut _ _ c3 (hs₃.extBut _ _ c2 e))
 have h2₅:S2 (k+1) h₅:=f2 h2₄ λc o c1 c2 c3 e=>hs₅.extBut _ _ c2 e
 have hzlt:z<h₅.objs.size:=Heap.lt_size hz₅
 have hTOlt:TO<h₅.objs.size:=Heap.lt_size hTO₅
 show wpAny _ _ (Builtin.SmallTypes.ownedTupleHandOut (.ref z) (.ref h₅.objs.size)>>=_) _ _ _
 refine wpAny_bind ?_
 unfold Builtin.SmallTypes.ownedTupleHandOut
 have hz₆:IsZip (h₅.push {cls:= .type "tuple",data:= .seq #[x,y]}) z TI TO .ellipsis:=Heap.get?_push_of_some _ hz₅
 refine wpAny_bind (wpAny_setField_rec hz₆ (by simp) λh₇ hz₇ hs₇=>?_)
 replace hz₇:IsZip h₇ z TI TO (rawInt h₅.objs.size):=hz₇
 refine wpAny_setField_rec hz₇ (by simp) λh₈ hz₈ hs₈=>?_
 replace hz₈:IsZip h₈ z TI TO (rawInt h₅.objs.size):=hz₈
 have up:∀c o,c≠z->h₅.get? c=some o->h₈.get? c=some o:=λc o c1 e=>hs₈.extBut _ _ c1 (hs₇.extBut _ _ c1 (Heap.get?_push_of_some _ e))
 have hT₈:IsPair h₈ h₅.objs.size x y:=hs₈.extBut _ _ (Nat.ne_of_gt hzlt) (hs₇.extBut _ _ (Nat.ne_of_gt hzlt) (Heap.get?_push_size _ rfl))
 have hz8:h₈.objs.size=h₅.objs.size+1:=by rw[hs₈.1,hs₇.1,Heap.size_push]
 rw[hsz] at hz₈ hT₈ hz8
 refine wpAny_pure ⟨_,rfl,?_⟩
 show Q (.ref h₅.objs.size) _
 rw[hsz]
 exact hQ x y h₈ _ hx hy hz₈ (up _ _ D.TOz hTO₅) (f1 h1₅ λc o c1 _ _ e=>up c o c1 e) (f2 h2₅ λc o c1 _ _ e=>up c o c1 e) hT₈ hz8 λc o c1 c2 c3 c4 e=>up c o c1 (hk₅ c o c1 c2 c3 c4 e)
def SqH(t:Bool)(h:Heap)(a:Addr)(items:Array Value):Prop:=if t then h.IsTuple a items else h.IsList a items
def ItH(t:Bool)(h:Heap)(it a:Addr)(i:Nat):Prop:=if t then h.IsTupleIter it a i else h.IsListIter it a i
def itO(t:Bool)(a:Addr):Obj:={cls:= .type (if t then"tuple_iterator"else "list_iterator"),data:= .fields #[.ref a, .int 0 0]}
theorem SqH.at{t:Bool}{h h':Heap}{a:Addr}{items:Array Value}(x:SqH t h a items)(e:∀o,h.get? a=some o->h'.get? a=some o):SqH t h' a items:=by
 cases t<;>(obtain⟨o,ho,r⟩:=x;exact⟨o,e _ ho,r⟩)
theorem ItH.at{t:Bool}{h h':Heap}{it a:Addr}{i:Nat}(x:ItH t h it a i)(e:∀o,h.get? it=some o->h'.get? it=some o):ItH t h' it a i:=by
 cases t<;>(obtain⟨o,ho,r⟩:=x;exact⟨o,e _ ho,r⟩)
theorem ItH.obj{t:Bool}{h:Heap}{it a:Addr}{i:Nat}(x:ItH t h it a i):∃o,h.get? it=some o/\(∀v,o.data≠ .cell v)/\o.cls≠ .type "tuple"/\o.cls≠ .type "list":=by
 cases t
 ·obtain ⟨o,ho,c,d⟩:=x
  exact⟨o,ho,(λv z=>by rw[d] at z;cases z),(λz=>by rw[c] at z;injection z with z;exact absurd z (by decide)),(λz=>by rw[c] at z;injection z with z;exact absurd z (by decide))⟩
 ·obtain ⟨o,ho,c,d⟩:=x
  exact⟨o,ho,(λv z=>by rw[d] at z;cases z),(λz=>by rw[c] at z;injection z with z;exact absurd z (by decide)),(λz=>by rw[c] at z;injection z with z;exact absurd z (by decide))⟩
theorem SqH.cls{t:Bool}{h:Heap}{a:Addr}{items:Array Value}(x:SqH t h a items):∃o,h.get? a=some o/\(o.cls= .type "tuple"\/o.cls= .type "list"):=by
 cases t
 ·obtain ⟨o,ho,c,_⟩:=x;exact⟨o,ho, .inr c⟩
 ·obtain ⟨o,ho,c,_⟩:=x;exact⟨o,ho, .inl c⟩
theorem zeN(t:Bool)(hh:A.handled=none)(it l:Addr)(hne:l≠it)(items:Array Value):Draws prog w A it [it,l] items.size (λi v=>items[i]?=some v) (λi h=>ItH t h it l i/\SqH t h l items):=by
 cases t
 ·exact Draws.list hh it l hne items
 ·exact zil hh it l hne items
abbrev zoH(h:Heap)(t1:Bool)(l1:Addr):Heap:=h.push (itO t1 l1)
abbrev zoT(h:Heap)(t1 t2:Bool)(l1 l2:Addr):Heap:=(zoH h t1 l1).push (itO t2 l2)
abbrev zoA(h:Heap)(t1 t2:Bool)(l1 l2:Addr):Heap:=(zoT h t1 t2 l1 l2).push {cls:= .type "tuple",data:= .seq #[.ref h.objs.size, .ref (zoH h t1 l1).objs.size]}
abbrev zo1(h:Heap)(t1 t2:Bool)(l1 l2:Addr):Heap:=(zoA h t1 t2 l1 l2).push {cls:= .type "tuple",data:= .seq #[.none, .none]}
abbrev zjY(h:Heap)(t1 t2:Bool)(l1 l2:Addr):Heap:=(zo1 h t1 t2 l1 l2).push {cls:= .type "zip",data:= .fields #[.none, .bool false, .bool false, .ref (zoT h t1 t2 l1 l2).objs.size, .ref (zoA h t1 t2 l1 l2).objs.size]}
theorem zmy(t1 t2:Bool)(l1 l2:Addr)(xs ys:Array Value):
 Meets (Builtin.«zip.__new__» ⟨[.type "zip", .ref l1, .ref l2],[]⟩) (λ_ R s=>SqH t1 s.heap l1 xs/\SqH t2 s.heap l2 ys/\
  R (.ok (.ret (.ref (zo1 s.heap t1 t2 l1 l2).objs.size))) {s with heap:=zjY s.heap t1 t2 l1 l2}):=
 .of_wp λprog w A R s h=>by
  obtain⟨hp,g,d,tk,os⟩:=s;obtain⟨hl1,hl2,h⟩:=h
  have hsub:=sub_zip
  cases t1<;>cases t2
  ·have hL1:Heap.IsList (Shared.heap ⟨hp,g,d,tk,os⟩) l1 xs:=hl1
   have hL2:Heap.IsList (Shared.heap ⟨hp.push {cls:= .type "list_iterator",data:= .fields #[.ref l1, .int 0 0]},g,d,tk,os⟩) l2 ys:=Heap.IsList.push hl2 _
   wp_walk using wpAny_pyIter_list hL1,wpAny_pyIter_list hL2
   exact⟨_,rfl,h⟩
  ·have hL1:Heap.IsList (Shared.heap ⟨hp,g,d,tk,os⟩) l1 xs:=hl1
   have hL2:Heap.IsTuple (Shared.heap ⟨hp.push {cls:= .type "list_iterator",data:= .fields #[.ref l1, .int 0 0]},g,d,tk,os⟩) l2 ys:=(show Heap.IsTuple _ l2 ys from hl2).at λo e=>Heap.get?_push_of_some _ e
   wp_walk using wpAny_pyIter_list hL1,wpAny_pyIter_tuple hL2
   exact⟨_,rfl,h⟩
  ·have hL1:Heap.IsTuple (Shared.heap ⟨hp,g,d,tk,os⟩) l1 xs:=hl1
   have hL2:Heap.IsList (Shared.heap ⟨hp.push {cls:= .type "tuple_iterator",data:= .fields #[.ref l1, .int 0 0]},g,d,tk,os⟩) l2 ys:=Heap.IsList.push hl2 _
   wp_walk using wpAny_pyIter_tuple hL1,wpAny_pyIter_list hL2
   exact⟨_,rfl,h⟩
  ·have hL1:Heap.IsTuple (Shared.heap ⟨hp,g,d,tk,os⟩) l1 xs:=hl1
   have hL2:Heap.IsTuple (Shared.heap ⟨hp.push {cls:= .type "tuple_iterator",data:= .fields #[.ref l1, .int 0 0]},g,d,tk,os⟩) l2 ys:=(show Heap.IsTuple _ l2 ys from hl2).at λo e=>Heap.get?_push_of_some _ e
   wp_walk using wpAny_pyIter_tuple hL1,wpAny_pyIter_tuple hL2
   exact⟨_,rfl,h⟩
theorem ItH.new{t:Bool}{h:Heap}{it a:Addr}(e:h.get? it=some (itO t a)):ItH t h it a 0:=by
 cases t
 ·exact ⟨_,e,rfl,rfl⟩
 ·exact ⟨_,e,rfl,rfl⟩
theorem call_zp{t1 t2:Bool}{l1 l2:Addr}{xs ys:Array Value}{Q:Value->Shared->Prop}(hl1:SqH t1 s.heap l1 xs)(hl2:SqH t2 s.heap l2 ys)
 (h:∀h',IsZip h' (s.heap.objs.size+4) (s.heap.objs.size+2) (s.heap.objs.size+3) .none->IsPair h' (s.heap.objs.size+2) (.ref s.heap.objs.size) (.ref (s.heap.objs.size+1))->
   IsPair h' (s.heap.objs.size+3) .none .none->ItH t1 h' s.heap.objs.size l1 0->ItH t2 h' (s.heap.objs.size+1) l2 0->h'.objs.size=s.heap.objs.size+5->
   (∀c o,s.heap.get? c=some o->h'.get? c=some o)->Q (.ref (s.heap.objs.size+4)) {s with heap:=h'}):
 wpAny (model prog w) A (call (.type "zip") [.ref l1, .ref l2]) Q E s:=by
 refine callType_new PySem.F.called_zip (by decide) (PySem.F.typeCall_zip_2 _ _) (PySem.F.newCall_zip_2 _ _) (λobj=>PySem.F.args_object_init_3 obj _ _) PySem.F.entry_zip_new
  (zmy t1 t2 l1 l2 xs ys) ⟨hl1,hl2,?_⟩
 have z1:(zoH s.heap t1 l1).objs.size=s.heap.objs.size+1:=Heap.size_push ..
 have z2:(zoT s.heap t1 t2 l1 l2).objs.size=s.heap.objs.size+2:=by rw[Heap.size_push,z1]
 have z3:(zoA s.heap t1 t2 l1 l2).objs.size=s.heap.objs.size+3:=by rw[Heap.size_push,z2]
 have z4:(zo1 s.heap t1 t2 l1 l2).objs.size=s.heap.objs.size+4:=by rw[Heap.size_push,z3]
 have z5:(zjY s.heap t1 t2 l1 l2).objs.size=s.heap.objs.size+5:=by rw[Heap.size_push,z4]
 have g5:(zjY s.heap t1 t2 l1 l2).get? (zo1 s.heap t1 t2 l1 l2).objs.size=some _:=Heap.get?_push_size _ rfl
 have g4:(zjY s.heap t1 t2 l1 l2).get? (zoA s.heap t1 t2 l1 l2).objs.size=some _:=Heap.get?_push_of_some _ (Heap.get?_push_size _ rfl)
 have g3:(zjY s.heap t1 t2 l1 l2).get? (zoT s.heap t1 t2 l1 l2).objs.size=some _:=Heap.get?_push_of_some _ (Heap.get?_push_of_some _ (Heap.get?_push_size _ rfl))
 have g2:(zjY s.heap t1 t2 l1 l2).get? (zoH s.heap t1 l1).objs.size=some _:=Heap.get?_push_of_some _ (Heap.get?_push_of_some _ (Heap.get?_push_of_some _ (Heap.get?_push_size _ rfl)))
 have g1:(zjY s.heap t1 t2 l1 l2).get? s.heap.objs.size=some _:=Heap.get?_push_of_some _ (Heap.get?_push_of_some _ (Heap.get?_push_of_some _ (Heap.get?_push_of_some _ (Heap.get?_push_size _ rfl))))
 show _/\_
 rw[z2,z3,z4] at g5
 rw[z1,z2] at g3
 rw[z3] at g4
 rw[z1] at g2
 rw[z4]
 exact⟨⟨_,g5,rfl⟩,h _ g5 g3 g4 (ItH.new g1) (ItH.new g2) z5 λc o x=>
  Heap.get?_push_of_some _ (Heap.get?_push_of_some _ (Heap.get?_push_of_some _ (Heap.get?_push_of_some _ (Heap.get?_push_of_some _ x))))⟩
end
end HT
namespace L2
open PySem PySem.Spec PyProof.Rows
section
variable{X:Cx}{K:PySem.W.Frag}
def SqZ(t:Bool)(H:Hp)(a:Addr)(xs:List V):Prop:=if t then H a=some (.tup xs)else H a=some (.lst xs)
theorem SqZ.some{t:Bool}{H:Hp}{a:Addr}{xs:List V}(h:SqZ t H a xs):∃o,H a=some o:=by cases t<;>exact ⟨_,h⟩
theorem zmh{pins:List (Addr×Obj)}{σ:St}{H:Hp}{s:Shared}{t:Bool}{a:Addr}{xs:List V}(I:Inv X pins σ H s)(h:SqZ t H a xs):∃its:List Value,Vals xs its/\HT.SqH t s.heap a its.toArray:=by
 cases t
 ·obtain ⟨its,rv,p,_⟩:=I.list (SqL.of (show H a=Option.some (.lst xs)from h));exact⟨its,rv,p.isList⟩
 ·obtain ⟨its,rv,p,_⟩:=I.tuple (show SqT X.K H a xs from .inl (.inl (show H a=Option.some (.tup xs)from h)));exact⟨its,rv,p⟩
structure ZpA(z TI TO i1 i2:Addr):Prop where
 TIz:TI≠z
 TOz:TO≠z
 i1z:i1≠z
 i2z:i2≠z
 TITO:TI≠TO
 TIi1:TI≠i1
 TIi2:TI≠i2
 TOi1:TO≠i1
 TOi2:TO≠i2
 i12:i1≠i2
theorem ZpA.apart{z TI TO i1 i2 l1 l2:Addr}(Z:ZpA z TI TO i1 i2){H:Hp}(hf:∀b∈ [z,TI,TO,i1,i2],H b=none)(h1:∃o,H l1=some o)(h2:∃o,H l2=some o):ZipApart z TI TO i1 i2 l1 l2:=by
 have n1:∀b∈ [z,TI,TO,i1,i2],l1≠b:=λb hb e=>by obtain⟨o,h⟩:=h1;rw[e,hf b hb] at h;cases h
 have n2:∀b∈ [z,TI,TO,i1,i2],l2≠b:=λb hb e=>by obtain⟨o,h⟩:=h2;rw[e,hf b hb] at h;cases h
 exact⟨Z.TIz,Z.TOz,Z.i1z,Z.i2z,Z.TITO,Z.TIi1,Z.TIi2,Z.TOi1,Z.TOi2,Z.i12,n1 _ (by simp),n1 _ (by simp),n1 _ (by simp),n1 _ (by simp),n2 _ (by simp),n2 _ (by simp),n2 _ (by simp),n2 _ (by simp)⟩
theorem zl5:bootBuiltins "zip"=some (.type "zip"):=by kernel_rfl
end
section
variable{prog:Program}{w:World}{A:Around}{R:Result->Shared->Prop}{s:Shared}{elt t1 i1 t2 i2:Expr}{f1 f2:List Expr}{scope:Scope}{pos:Pos}{it acc:Value}{env:Env}
end
section
variable{X:Cx}{elt tg iter tg2 iter2:Expr}{ifs ifs2:List Expr}{scope osc:Scope}{pos:Pos}{N':List Str}{src:List (Option Nat)}{wi wi2:TI}{g g2:TG}{tc tc2:TT}{te:TE}
end
def zrm(v:V)(y:Str):Prop:=v= .str y\/∃i:Int,v= .int i/\y=(toString i:String)/\i.natAbs.log2<1920
section
variable{X:Cx}{e:Expr}{te:TE}{pos:Pos}{es:List Expr}{ts:List TE}
structure QP1(X:Cx)(e:Expr)(te:TE):Prop where
 o:∀(pins:List (Addr×Obj)) (s:Shared) (σ:St) (H:Hp) (Q:Str->Hp->Prop),Inv X pins σ H s->(te σ H λv H1=>∃y,zrm v y/\y.length<=sizeLine/\Q y H1)->
  wpAny (model X.prog X.w) X.A (eval e X.env) (λu s1=>∃y t H1,u= .str y t/\Inv X pins σ H1 s1/\Q y H1) X.xe s
inductive QJ(X:Cx):List Expr->List TE->Prop
 |nil:QJ X [] []
 |cons {e:Expr} {t:TE} {es:List Expr} {ts:List TE} (h:QP1 X e t) (r:QJ X es ts):QJ X (e::es) (t::ts)
end
section
variable{prog:Program}{w:World}{A:Around}{E:Value->Shared->Prop}{s:Shared}
end
section
variable{X:Cx}
end
end L2
namespace RW
open PySem PySem.Spec PyProof.Rows L2
theorem zcb(x y:Str):(x ++y).length=x.length+y.length:=Array.size_append
theorem zrI{sep x y:Str}{r:List Str}:Str.join sep (x::y::r)=x ++sep ++Str.join sep (y::r):=rfl
theorem zif{sep:Str}{c m:Nat}(hs:sep.length<=m):∀{xs:List Str},(∀x∈xs,x.length<=c)->(Str.join sep xs).length<=xs.length*(c+m)
 |[],_=>by show(Str.empty).length<=_;exact Nat.zero_le _
 |[x],h=>by show x.length<=1*(c+m);have:=h x (by simp);omega
 |x::y::r,h=>by
  rw[zrI,zcb,zcb]
  have h1:=h x (by simp)
  have h2:=zif hs (xs:=y::r) λz hz=>h z (List.mem_cons_of_mem _ hz)
  rw[List.length_cons,Nat.add_mul,Nat.one_mul]
  omega
end RW
namespace L2
open PySem PySem.Spec PyProof.Rows
section
variable{X:Cx}{K:PySem.W.Frag}
end
end L2
namespace RW
open PySem PySem.Spec PyProof.Rows L2
end RW
namespace HT
open PySem PySem.Spec PyProof.Rows L2
theorem zey:typeLookup (.type "zip") "__getattr__"=pure none:=by rw[typeLookup_type,builtinLookup_eq_fast];kernel_rfl
theorem zgs:typeLookup (.type "zip") "keys"=pure none:=by rw[typeLookup_type,builtinLookup_eq_fast];kernel_rfl
theorem zcS:entryFor table "zip.__getattribute__"=some Builtin.«object.__getattribute__»:=
 entryFor_alias (id':="object.__getattribute__") (by kernel_rfl) (by decide +kernel) (by decide +kernel) (by kernel_rfl)
theorem zfV(a:Addr)(fs:Array Value)(name:Str)(u:Tok)(hmiss:typeLookup (.type "zip") name=pure none)(hname:(["__module__","__name__","__qualname__","__doc__","__annotations__"]:List Str).contains name=false)(hsz:name.length+100<=sizeLine:=by size_fits):
 Meets (Builtin.«object.__getattribute__» ⟨[.ref a, .str name u],[]⟩) (λA R s=>s.heap.get? a=some {cls:= .type "zip",dict:=none,data:= .fields fs,slots:= #[]}/\raisesAttr (.ref a) name A R s):=
 Meets.of_wp λprog w A R s hs=>by
  obtain⟨hp,g,d,tk,os⟩:=s
  obtain⟨hx,hs⟩:=hs
  have hT:(⟨hp,g,d,tk,os⟩:Shared).TypeIs (.ref a) "zip":=⟨_,hx,rfl⟩
  unfold Builtin.«object.__getattribute__»
  repeat (any_goals (first|assumption|wp_step))
  simp only[hname,Bool.false_eq_true,if_false]
  repeat (any_goals (first|assumption|wp_step))
  exact wpAny_raiseAttrError hs.1 hs.2 (attrMsg_fits (by decide +kernel) hsz)
section
variable{prog:Program}{w:World}{A:Around}{E:Value->Shared->Prop}{s:Shared}
theorem zg7{a:Addr}{fs:Array Value}{Q:Option Value->Shared->Prop}(hx:s.heap.get? a=some {cls:= .type "zip",dict:=none,data:= .fields fs,slots:= #[]})(hA:A.handled=none)
 (h:∀h' tk,(∀b o,s.heap.get? b=some o->h'.get? b=some o)->Q none {s with heap:=h',toks:=tk}):
 wpAny (model prog w) A (getAttr? (.ref a) "keys") Q E s:=by
 obtain⟨hp,g,d,tk,os⟩:=s
 have hT:∀tk',(⟨hp,g,d,tk',os⟩:Shared).TypeIs (.ref a) "zip":=λ_=>⟨_,hx,rfl⟩
 have f1:=sub_AttributeError
 have f3:=F.slot_zip_getattribute.lookup
 have f4:=F.slot_zip_getattribute.bind (.ref a)
 have f5:=zey
 unfold getAttr? getAttrBy? getAttrBy
 repeat (any_goals (first|assumption|exact hT _|((with_reducible show wpAny _ _ (call (Value.builtin "zip.__getattribute__") _ _) _ _ _);refine call_meets F.slot_zip_getattribute (hT _) zcS (F.args_zip_getattribute_2 _ _) (zfV a fs "keys" _ zgs (by decide +kernel)) ⟨hx,hA,λh' tk' e hx'=>?_⟩)|wp_step))
 obtain⟨t',u',he⟩:=hx'.there
 show wpAny _ _ (getattributeRaised _ _ _ _ _ _ _) _ _ _
 unfold getattributeRaised
 repeat (any_goals (first|assumption|wp_step))
 exact h _ _ hx'.of.keeps
abbrev zdT(h:Heap)(z TI TO T:Addr)(b:Bool):Prop:=
 h.get? z=some {cls:= .type "zip",dict:=none,data:= .fields #[rawInt T, .bool b, .bool false, .ref TI, .ref TO],slots:= #[]}
theorem zei{a:Addr}{Q:Option Obj->Shared->Prop}(h:Q (s.heap.get? a) s):wpAny (model prog w) A (loadIfAlive a) Q E s:=λΓ p _=>by
 unfold loadIfAlive
 rw[Sem.wp_loadIfAlive]
 exact wpAny_pure (M:=model prog w) (A:=A) (E:=E) h Γ p ‹_›
theorem zpr{z TI TO T:Addr}{b:Bool}{Q:Bool->Shared->Prop}(hz:zdT s.heap z TI TO T b)(hT:∃o,s.heap.get? T=some o)
 (h:∀h',zdT h' z TI TO T true->Heap.SameBut z s.heap h'->Q false {s with heap:=h'}):wpAny (model prog w) A (Builtin.SmallTypes.ownedTupleIsFree (.ref z)) Q E s:=by
 unfold Builtin.SmallTypes.ownedTupleIsFree
 refine wpAny_bind (wpAny_field hz rfl (x:=rawInt T) rfl ?_)
 obtain⟨o,ho⟩:=hT
 show wpAny _ _ (loadIfAlive (Int.toNat (T:Int))>>=_) _ _ _
 refine wpAny_bind (zei ?_)
 rw[Int.toNat_natCast,ho]
 show wpAny _ _ (field (.ref z) 1>>=_) _ _ _
 refine wpAny_bind (wpAny_field hz rfl (x:= .bool b) rfl ?_)
 cases b with
 |true=>exact wpAny_pure (h _ hz ⟨rfl,λ_ _=>rfl⟩)
 |false=>exact wpAny_bind (wpAny_setField_rec hz (by simp) λh' hz' hs'=>wpAny_pure (h h' hz' hs'))
theorem zlw{z TI TO T i1 i2 l1 l2:Addr}{n1 n2 k:Nat}{fb:Bool}{P1 P2:Nat->Value->Prop}{S1 S2:Nat->Heap->Prop}{Q:Value->Shared->Prop}(D:ZipApart z TI TO i1 i2 l1 l2)
 (D1:Draws prog w A i1 [i1,l1] n1 P1 S1) (D2:Draws prog w A i2 [i2,l2] n2 P2 S2)
 (hz:zdT s.heap z TI TO T fb) (hT:∃o,s.heap.get? T=some o) (hTI:IsPair s.heap TI (.ref i1) (.ref i2)) (h1:S1 k s.heap) (h2:S2 k s.heap) (k1:k<n1) (k2:k<n2)
 (hQ:∀x y h' tk,P1 k x->P2 k y->zdT h' z TI TO T true->S1 (k+1) h'->S2 (k+1) h'->IsPair h' s.heap.objs.size x y->h'.objs.size=s.heap.objs.size+1->
   (∀c o,c≠z->c≠i1->c≠i2->s.heap.get? c=some o->h'.get? c=some o)->Q (.ref s.heap.objs.size) {s with heap:=h',toks:=tk}):
 wpAny (model prog w) A (Builtin.«zip.__next__» ⟨[.ref z],[]⟩) (λfin s'=>∃v,fin= .done (.ret v)/\Q v s') E s:=by
 show wpAny _ _ (field (.ref z) 2>>=_) _ _ _
 refine wpAny_bind (wpAny_field hz rfl (x:= .bool false) rfl ?_)
 show wpAny _ _ (field (.ref z) 3>>=_) _ _ _
 refine wpAny_bind (wpAny_field hz rfl (x:= .ref TI) rfl ?_)
 refine wpAny_bind (wpAny_seqItems hTI rfl ?_)
 show wpAny _ _ (Builtin.SmallTypes.ownedTupleIsFree (.ref z)>>=_) _ _ _
 refine wpAny_bind (zpr hz hT λh₁ hz₁ hs₁=>?_)
 have f1:∀{i:Nat} {h h':Heap},S1 i h->(∀c o,c≠z->c≠i2->h.get? c=some o->h'.get? c=some o)->S1 i h':=λst kk=>D1.frame _ _ _ st λc hc o e=>by
  rcases List.mem_cons.mp hc with rfl|hc
  ·exact kk c o D.i1z D.i12 e
  ·have:c=l1:=by simpa using hc
   subst this
   exact kk c o D.l1z D.l1i2 e
 have f2:∀{i:Nat} {h h':Heap},S2 i h->(∀c o,c≠z->c≠i1->h.get? c=some o->h'.get? c=some o)->S2 i h':=λst kk=>D2.frame _ _ _ st λc hc o e=>by
  rcases List.mem_cons.mp hc with rfl|hc
  ·exact kk c o D.i2z D.i12.symm e
  ·have:c=l2:=by simpa using hc
   subst this
   exact kk c o D.l2z D.l2i1 e
 simp only[Bool.false_eq_true,if_false]
 rw[←Array.forIn_toList]
 show wpAny _ _ (forIn [Value.ref i1,Value.ref i2] _ _>>=_) _ _ _
 simp only[List.forIn_cons,List.forIn_nil]
 refine wpAny_bind (wpAny_bind (wpAny_bind (wpAny_holding ?_)))
 show wpAny _ _ (Builtin.SmallTypes.nextOf (.ref i1)>>=_) _ _ _
 refine wpAny_bind (D1.item k _ _ _ k1 (f1 h1 λc o c1 _ e=>hs₁.extBut _ _ c1 e) λx h₂ tk2 hx h1₂ hs₂=>wpAny_pure (wpAny_pure ?_))
 refine wpAny_bind (wpAny_bind (wpAny_holding ?_))
 show wpAny _ _ (Builtin.SmallTypes.nextOf (.ref i2)>>=_) _ _ _
 refine wpAny_bind (D2.item k _ _ _ k2 (f2 h2 λc o c1 c3 e=>hs₂.extBut _ _ c3 (hs₁.extBut _ _ c1 e)) λy h₃ tk3 hy h2₃ hs₃=>wpAny_pure (wpAny_pure (wpAny_pure ?_)))
 refine wpAny_bind (wpAny_newTuple ?_ (Nat.le_of_ble_eq_true rfl))
 have hsz:h₃.objs.size=s.heap.objs.size:=by rw[hs₃.1,hs₂.1,hs₁.1]
 have hk₃:∀c o,c≠z->c≠i1->c≠i2->s.heap.get? c=some o->h₃.get? c=some o:=λc o c1 c3 c4 e=>hs₃.extBut _ _ c4 (hs₂.extBut _ _ c3 (hs₁.extBut _ _ c1 e))
 have hz₃:zdT h₃ z TI TO T true:=hs₃.extBut _ _ D.i2z.symm (hs₂.extBut _ _ D.i1z.symm hz₁)
 refine wpAny_pure ⟨_,rfl,?_⟩
 show Q (.ref h₃.objs.size) _
 have hp:∀c o,h₃.get? c=some o->(h₃.push {cls:= .type "tuple",data:= .seq #[x,y]}).get? c=some o:=λc o e=>Heap.get?_push_of_some _ e
 have g:IsPair (h₃.push {cls:= .type "tuple",data:= .seq #[x,y]}) h₃.objs.size x y:=Heap.get?_push_size _ rfl
 have z3:(h₃.push {cls:= .type "tuple",data:= .seq #[x,y]}).objs.size=h₃.objs.size+1:=Heap.size_push ..
 rw[hsz] at g z3⊢
 exact hQ x y _ _ hx hy (hp _ _ hz₃) (f1 h1₂ λc o _ c3 e=>hp _ _ (hs₃.extBut _ _ c3 e)) (f2 h2₃ λc o _ _ e=>hp _ _ e) g z3 λc o c1 c3 c4 e=>hp _ _ (hk₃ c o c1 c3 c4 e)
theorem zmM{z TI TO T i1 i2 l1 l2:Addr}{n1 n2 k:Nat}{fb:Bool}{P1 P2:Nat->Value->Prop}{S1 S2:Nat->Heap->Prop}{Q:Fin->Shared->Prop}(D:ZipApart z TI TO i1 i2 l1 l2)
 (D1:Draws prog w A i1 [i1,l1] n1 P1 S1) (D2:Draws prog w A i2 [i2,l2] n2 P2 S2)
 (hz:zdT s.heap z TI TO T fb) (hT:∃o,s.heap.get? T=some o) (hTI:IsPair s.heap TI (.ref i1) (.ref i2)) (h1:S1 k s.heap) (hend:k=n1)
 (hE:∀h' e,(∀c o,c≠z->c≠i1->s.heap.get? c=some o->h'.get? c=some o)->(∃o,h'.get? e=some o/\o.cls= .type "StopIteration")->E (.ref e) {s with heap:=h'}):
 wpAny (model prog w) A (Builtin.«zip.__next__» ⟨[.ref z],[]⟩) Q E s:=by
 show wpAny _ _ (field (.ref z) 2>>=_) _ _ _
 refine wpAny_bind (wpAny_field hz rfl (x:= .bool false) rfl ?_)
 show wpAny _ _ (field (.ref z) 3>>=_) _ _ _
 refine wpAny_bind (wpAny_field hz rfl (x:= .ref TI) rfl ?_)
 refine wpAny_bind (wpAny_seqItems hTI rfl ?_)
 show wpAny _ _ (Builtin.SmallTypes.ownedTupleIsFree (.ref z)>>=_) _ _ _
 refine wpAny_bind (zpr hz hT λh₁ hz₁ hs₁=>?_)
 simp only[Bool.false_eq_true,if_false]
 rw[←Array.forIn_toList]
 show wpAny _ _ (forIn [Value.ref i1,Value.ref i2] _ _>>=_) _ _ _
 simp only[List.forIn_cons,List.forIn_nil]
 refine wpAny_bind (wpAny_bind (wpAny_bind (wpAny_holding ?_)))
 show wpAny _ _ (Builtin.SmallTypes.nextOf (.ref i1)>>=_) _ _ _
 subst hend
 have h1':S1 k h₁:=D1.frame _ _ _ h1 λc hc o e=>by
  rcases List.mem_cons.mp hc with rfl|hc
  ·exact hs₁.extBut _ _ D.i1z e
  ·have:c=l1:=by simpa using hc
   subst this
   exact hs₁.extBut _ _ D.l1z e
 refine wpAny_bind (D1.done _ _ _ h1' λh₂ e hs₂ he=>?_)
 exact hE h₂ e (λc o c1 c3 x=>hs₂ _ _ c3 (hs₁.extBut _ _ c1 x)) he
end
theorem zah:entryFor table "dict.update.loop"=some Builtin.«dict.update.loop»:=entryFor_of_tree (by kernel_rfl)
theorem zx:plainId "dict.update.loop"=true:=by decide +kernel
section
variable{prog:Program}{w:World}{A:Around}{E:Value->Shared->Prop}{s:Shared}{K:Type}[DecidableEq K]{knd:KeyKind prog w K}
def dzAt(ks:Nat->K)(yv:Nat->Value)(i:Nat):List (K×Value):=(List.range i).map λk=>(ks k,yv k)
theorem zeD{ks:Nat->K}{yv:Nat->Value}{n i:Nat}(hi:i<n)(nd:((List.range n).map ks).Nodup):stored (dzAt ks yv i) (ks i) (yv i)=dzAt ks yv (i+1):=by
 have hany:¬((dzAt ks yv i).any λkv=>decide (kv.1=ks i))=true:=by
  rw[List.any_eq_true]
  rintro⟨kv,hkv,he⟩
  obtain⟨k,hk,rfl⟩:=List.mem_map.mp hkv
  have hk:=List.mem_range.mp hk
  have he:ks k=ks i:=of_decide_eq_true he
  have:=List.pairwise_iff_getElem.mp nd k i (by simp;omega) (by simp;omega) hk
  simp at this
  exact this he
 rw[stored,if_neg hany]
 unfold dzAt
 rw[List.range_succ,List.map_append];rfl
theorem zkG{d T:Addr}{x y:Value}{k:K}{kvs:List (K×Value)}{Q:Unit->Shared->Prop}(hp:IsPair s.heap T x y)(hkey:knd.is k x=true)(hm:s.heap.DictOf knd d kvs)(hsz:kvs.length<=sizeLine)(i:Int)
 (hQ:∀h' tk,h'.DictOf knd d (stored kvs k y)->Heap.SameBut d s.heap h'->Q () {s with heap:=h',toks:=tk}):
 wpAny (model prog w) A (do
  let pair ←(Builtin.Dict.pairItems (.ref T)).tryCatch λe=>do
   if !(←isInstance e (.type "TypeError"))then throw e
   rule "dict.update.element-no-sequence"
   raiseError "TypeError" s!"cannot convert dictionary update sequence element #{i} to a sequence"
  match pair with
  |[k,v]=>holding [k,v] (dictSet d k v)
  |l=>
   rule "dict.update.element-length"
   raiseError "ValueError" s!"dictionary update sequence element #{i} has length {l.length}; 2 is required") Q E s:=by
 have hT:s.TypeIs (.ref T) "tuple":=⟨_,hp,rfl⟩
 refine wpAny_bind (wpAny_tryCatch ?_)
 unfold Builtin.Dict.pairItems
 refine wpAny_bind (wpAny_typeOf hT ?_)
 show wpAny _ _ (do let a ←seqItems? (.ref T);pure (Option.getD a #[]).toList) _ _ _
 refine wpAny_bind (wpAny_seqItems hp rfl (wpAny_pure ?_))
 show wpAny _ _ (holding [x,y] (dictSet d x y)) _ _ _
 exact wpAny_holding (wpAny_dictSet_pairs hkey hm (λh' hd hs=>hQ h' _ hd hs) hsz)
structure DzAt(h:Heap)(knd:KeyKind prog w K)(t1 t2:Bool)(z TI i1 i2 l1 l2 d:Addr)(xs ys:Array Value)(kvs:List (K×Value))(i:Nat):Prop where
 TI:IsPair h TI (.ref i1) (.ref i2)
 p1:ItH t1 h i1 l1 i
 p2:ItH t2 h i2 l2 i
 q1:SqH t1 h l1 xs
 q2:SqH t2 h l2 ys
 dd:h.DictOf knd d kvs
structure DzD(z TI TO i1 i2 l1 l2 d:Addr):Prop extends ZipApart z TI TO i1 i2 l1 l2 where
 dz:d≠z
 dTI:d≠TI
 di1:d≠i1
 di2:d≠i2
 dl1:d≠l1
 dl2:d≠l2
 TIl1:True
theorem zoj{t1 t2:Bool}{z TI TO T i1 i2 l1 l2 d:Addr}{xs ys:Array Value}{ks:Nat->K}{yv:Nat->Value}{n:Nat}{R:Result->Shared->Prop}{h₀:Heap}(D:DzD z TI TO i1 i2 l1 l2 d)(hA:A.handled=none)(hx:xs.size=n)(hy:ys.size=n)(hsz:n<=sizeLine)
 (hk:∀k x,xs[k]?=some x->knd.is (ks k) x=true) (hv:∀k y,ys[k]?=some y->y=yv k) (nd:((List.range n).map ks).Nodup) (dT:d≠T) (nT:T≠z/\T≠i1/\T≠i2)
 (hR:∀h' tk g dr os,h'.DictOf knd d (dzAt ks yv n)->(∀c o,c≠z->c≠i1->c≠i2->c≠d->h₀.get? c=some o->h'.get? c=some o)->g=s.gens->dr=s.drawn->os=s.os->R (.ok (.ret .none)) {heap:=h',gens:=g,drawn:=dr,toks:=tk,os:=os}):
 ∀(m i:Nat) (h:Heap) (tk:Nat) (fb:Bool),i+m=n->zdT h z TI TO T fb->(∃o,h.get? T=some o)->DzAt h knd t1 t2 z TI i1 i2 l1 l2 d xs ys (dzAt ks yv i) i->(∀c o,c≠z->c≠i1->c≠i2->c≠d->h₀.get? c=some o->h.get? c=some o)->
  codeAny (model prog w) A (.builtin "dict.update.loop" ⟨[.ref d, .ref z,rawInt i, .none],[]⟩) R {s with heap:=h,toks:=tk}:=by
 intro m
 induction m with
 |zero=>
  intro i h tk fb him hz hT Z kp
  have hTz:({s with heap:=h,toks:=tk}:Shared).TypeIs (.ref z) "zip":=⟨_,hz,rfl⟩
  refine codeAny_builtin zah ?_
  rw[Around.under_plainId zx _]
  show wpAny _ _ (pyNext (.ref z)>>=_) _ _ _
  refine wpAny_bind ?_
  unfold pyNext
  refine wpAny_bind (wpAny_attempt (wpAny_callSpecial?_slot (name:=Str.ofString "__next__") hTz PySem.F.slot_zip_next (wpAny_call_entry PySem.F.slot_zip_next hTz PySem.F.entry_zip_next
   (zmM (s:={s with heap:=h,toks:=tk}) D.toZipApart (zeN (A:=A.in1.in1) t1 hA i1 l1 D.l1i1 xs) (zeN (A:=A.in1.in1) t2 hA i2 l2 D.l2i2 ys) hz hT Z.TI ⟨Z.p1,Z.q1⟩ (by omega) λh' e hk' he=>?_) (PySem.F.args_zip_next_1 _))))
  obtain⟨o,ho,hce⟩:=he
  refine wpAny_bind (wpAny_isInstance (T:="StopIteration") (b:=true) ⟨o,ho,hce⟩ isSubtype_stop ?_)
  refine wpAny_pure ?_
  show wpAny _ _ (Builtin.Dict.addKeywords d []>>=_) _ _ _
  refine wpAny_bind (wpAny_pure (wpAny_pure ?_))
  have en:i=n:=by omega
  subst en
  have dd:=Z.dd
  obtain⟨o',es,ep,hg,r⟩:=dd
  exact hR h' _ _ _ _ ⟨o',es,ep,hk' _ _ D.dz D.di1 hg,r⟩ (λc o c1 c2 c3 c4 e=>hk' c o c1 c2 (kp c o c1 c2 c3 c4 e)) rfl rfl rfl
 |succ m ih=>
  intro i h tk fb him hz hT Z kp
  have hTz:({s with heap:=h,toks:=tk}:Shared).TypeIs (.ref z) "zip":=⟨_,hz,rfl⟩
  refine codeAny_builtin zah ?_
  rw[Around.under_plainId zx _]
  show wpAny _ _ (pyNext (.ref z)>>=_) _ _ _
  refine wpAny_bind ?_
  unfold pyNext
  refine wpAny_bind (wpAny_attempt (wpAny_callSpecial?_slot (name:=Str.ofString "__next__") hTz PySem.F.slot_zip_next (wpAny_call_entry PySem.F.slot_zip_next hTz PySem.F.entry_zip_next
   (zlw (s:={s with heap:=h,toks:=tk}) D.toZipApart (zeN (A:=A.in1.in1) t1 hA i1 l1 D.l1i1 xs) (zeN (A:=A.in1.in1) t2 hA i2 l2 D.l2i2 ys) hz hT Z.TI ⟨Z.p1,Z.q1⟩ ⟨Z.p2,Z.q2⟩ (by omega) (by omega) λx y h' tk' ex ey hz' s1 s2 hp hsz' hk'=>?_) (PySem.F.args_zip_next_1 _))))
  refine wpAny_pure ?_
  have hdlt:d<h.objs.size:=by obtain⟨o',es,ep,hg,r⟩:=Z.dd;exact Heap.lt_size hg
  have hTlt:T<h.objs.size:=by obtain⟨o',hg⟩:=hT;exact Heap.lt_size hg
  have dd':h'.DictOf knd d (dzAt ks yv i):=by obtain⟨o',es,ep,hg,r⟩:=Z.dd;exact⟨o',es,ep,hk' _ _ D.dz D.di1 D.di2 hg,r⟩
  have hin:i<n:=by omega
  have hl:(dzAt ks yv i).length<=sizeLine:=by unfold dzAt;rw[List.length_map,List.length_range];omega
  refine wpAny_bind (wpAny_holding (zkG (s:={s with heap:=h',toks:=tk'}) hp (hk i x ex) dd' hl _ λh2 tk2 hd2 hs2=>?_))
  rw[hv i y ey,zeD hin nd] at hd2
  refine wpAny_pure ⟨plainId_quiet zx _,?_⟩
  have e:(rawInt ((i:Int)+1))=rawInt ((i+1:Nat):Int):=by rw[show((i:Int)+1)=((i+1:Nat):Int) by omega]
  show codeAny _ A (.builtin "dict.update.loop" ⟨[.ref d, .ref z,rawInt ((i:Int)+1), .none],[]⟩) R {s with heap:=h2,toks:=tk2}
  rw[e]
  obtain⟨a1,b1⟩:=s1
  obtain⟨a2,b2⟩:=s2
  refine ih (i+1) h2 tk2 true (by omega) (hs2.extBut _ _ D.dz.symm hz') ?_ ⟨hs2.extBut _ _ D.dTI.symm ?_,a1.at λo e=>hs2.extBut _ _ D.di1.symm e,a2.at λo e=>hs2.extBut _ _ D.di2.symm e,b1.at λo e=>hs2.extBut _ _ D.dl1.symm e,b2.at λo e=>hs2.extBut _ _ D.dl2.symm e,hd2⟩ λc o c1 c2 c3 c4 e=>hs2.extBut _ _ c4 (hk' c o c1 c2 c3 (kp c o c1 c2 c3 c4 e))
  ·obtain ⟨o',hg⟩:=hT
   exact⟨o',hs2.extBut _ _ dT.symm (hk' _ _ nT.1 nT.2.1 nT.2.2 hg)⟩
  ·exact hk' _ _ D.TIz D.TIi1 D.TIi2 Z.TI
theorem zmv{t1 t2:Bool}{z TI TO i1 i2 l1 l2 d:Addr}{xs ys:Array Value}{ks:Nat->K}{yv:Nat->Value}{n:Nat}{R:Result->Shared->Prop}(D:DzD z TI TO i1 i2 l1 l2 d)(dTO:d≠TO)(hA:A.handled=none)(hx:xs.size=n)(hy:ys.size=n)(hsz:n<=sizeLine)(n1:1<=n)
 (hk:∀k x,xs[k]?=some x->knd.is (ks k) x=true) (hv:∀k y,ys[k]?=some y->y=yv k) (nd:((List.range n).map ks).Nodup)
 (hz:IsZip s.heap z TI TO .none) (hTO:∃a b,IsPair s.heap TO a b) (Z:DzAt s.heap knd t1 t2 z TI i1 i2 l1 l2 d xs ys [] 0)
 (hR:∀h' tk,h'.DictOf knd d (dzAt ks yv n)->(∀c o,c≠z->c≠TO->c≠i1->c≠i2->c≠d->s.heap.get? c=some o->h'.get? c=some o)->R (.ok (.ret .none)) {s with heap:=h',toks:=tk}):
 codeAny (model prog w) A (.builtin "dict.update.loop" ⟨[.ref d, .ref z,rawInt 0, .none],[]⟩) R s:=by
 have hTz:s.TypeIs (.ref z) "zip":=⟨_,hz,rfl⟩
 obtain⟨a0,b0,hTO⟩:=hTO
 refine codeAny_builtin zah ?_
 rw[Around.under_plainId zx _]
 show wpAny _ _ (pyNext (.ref z)>>=_) _ _ _
 refine wpAny_bind ?_
 unfold pyNext
 refine wpAny_bind (wpAny_attempt (wpAny_callSpecial?_slot (name:=Str.ofString "__next__") hTz PySem.F.slot_zip_next (wpAny_call_entry PySem.F.slot_zip_next hTz PySem.F.entry_zip_next
  (zlz D.toZipApart (zeN (A:=A.in1.in1) t1 hA i1 l1 D.l1i1 xs) (zeN (A:=A.in1.in1) t2 hA i2 l2 D.l2i2 ys) hz Z.TI hTO ⟨Z.p1,Z.q1⟩ ⟨Z.p2,Z.q2⟩ (by omega) (by omega) λx y h' tk' ex ey hz' ao s1 s2 hp hsz' hk'=>?_) (PySem.F.args_zip_next_1 _))))
 refine wpAny_pure ?_
 have hdlt:d<s.heap.objs.size:=by obtain⟨o',es,ep,hg,r⟩:=Z.dd;exact Heap.lt_size hg
 have hzlt:z<s.heap.objs.size:=Heap.lt_size hz
 have h1lt:i1<s.heap.objs.size:=by obtain⟨o,ho,_⟩:=Z.p1.obj;exact Heap.lt_size ho
 have h2lt:i2<s.heap.objs.size:=by obtain⟨o,ho,_⟩:=Z.p2.obj;exact Heap.lt_size ho
 have dd':h'.DictOf knd d (dzAt ks yv 0):=by obtain⟨o',es,ep,hg,r⟩:=Z.dd;exact⟨o',es,ep,hk' _ _ D.dz dTO D.di1 D.di2 hg,r⟩
 refine wpAny_bind (wpAny_holding (zkG (s:={s with heap:=h',toks:=tk'}) hp (hk 0 x ex) dd' (Nat.zero_le _) _ λh2 tk2 hd2 hs2=>?_))
 rw[hv 0 y ey,zeD n1 nd] at hd2
 refine wpAny_pure ⟨plainId_quiet zx _,?_⟩
 obtain⟨a1,b1⟩:=s1
 obtain⟨a2,b2⟩:=s2
 have nT:s.heap.objs.size≠d:=Nat.ne_of_gt hdlt
 refine zoj (s:=s) (h₀:=h2) (T:=s.heap.objs.size) D hA hx hy hsz hk hv nd nT.symm ⟨Nat.ne_of_gt hzlt,Nat.ne_of_gt h1lt,Nat.ne_of_gt h2lt⟩ (λh3 tk3 g dr os hd3 kp e1 e2 e3=>?_) (n -1) 1 h2 tk2 false (by omega) (hs2.extBut _ _ D.dz.symm hz') ⟨_,hs2.extBut _ _ nT hp⟩
  ⟨hs2.extBut _ _ D.dTI.symm (hk' _ _ D.TIz D.TITO D.TIi1 D.TIi2 Z.TI),a1.at λo e=>hs2.extBut _ _ D.di1.symm e,a2.at λo e=>hs2.extBut _ _ D.di2.symm e,b1.at λo e=>hs2.extBut _ _ D.dl1.symm e,b2.at λo e=>hs2.extBut _ _ D.dl2.symm e,hd2⟩ (λc o _ _ _ _ e=>e)
 subst e1 e2 e3
 exact hR h3 tk3 hd3 λc o c1 c2 c3 c4 c5 e=>kp c o c1 c3 c4 c5 (hs2.extBut _ _ c5 (hk' c o c1 c2 c3 c4 e))
theorem call_dict_zip{t1 t2:Bool}{z TI TO i1 i2 l1 l2:Addr}{xs ys:Array Value}{ks:Nat->K}{yv:Nat->Value}{n:Nat}{Q:Value->Shared->Prop}(D:ZipApart z TI TO i1 i2 l1 l2)(hA:A.handled=none)(hx:xs.size=n)(hy:ys.size=n)(hsz:n<=sizeLine)(n1:1<=n)
 (hk:∀k x,xs[k]?=some x->knd.is (ks k) x=true) (hv:∀k y,ys[k]?=some y->y=yv k) (nd:((List.range n).map ks).Nodup)
 (hz:IsZip s.heap z TI TO .none) (hTI:IsPair s.heap TI (.ref i1) (.ref i2)) (hTO:∃a b,IsPair s.heap TO a b) (p1:ItH t1 s.heap i1 l1 0) (p2:ItH t2 s.heap i2 l2 0) (q1:SqH t1 s.heap l1 xs) (q2:SqH t2 s.heap l2 ys)
 (h:∀h' tk,h'.DictOf knd s.heap.objs.size (dzAt ks yv n)->(∀c o,c≠z->c≠TO->c≠i1->c≠i2->s.heap.get? c=some o->h'.get? c=some o)->Q (.ref s.heap.objs.size) {s with heap:=h',toks:=tk}):
 wpAny (model prog w) A (call (.type "dict") [.ref z]) Q E s:=by
 refine callType_codes (Q₁:=λobj s₁=>obj= .ref s.heap.objs.size/\s₁={s with heap:=s.heap.push {cls:= .type "dict",data:= .dict #[]}}) F.kt_called_dict (F.kt_typeCall_dict_1 _) F.entry_dict_init (kt_code_dict_new _ ⟨rfl,rfl⟩) ?_
 rintro obj s₁ ⟨rfl,rfl⟩
 have hnew:(s.heap.push {cls:= .type "dict",data:= .dict #[]}).DictOf knd s.heap.objs.size []:=Heap.DictOf.new s.heap
 have pu:∀c o,s.heap.get? c=some o->(s.heap.push {cls:= .type "dict",data:= .dict #[]}).get? c=some o:=λc o e=>Heap.get?_push_of_some _ e
 have ne:∀{c o},s.heap.get? c=some o->s.heap.objs.size≠c:=λe q=>absurd (Heap.lt_size e) (by rw[q];exact Nat.lt_irrefl _)
 have hz':=pu _ _ hz
 have hTz:({s with heap:=s.heap.push {cls:= .type "dict",data:= .dict #[]}}:Shared).TypeIs (.ref z) "zip":=⟨_,hz',rfl⟩
 refine⟨hnew.typeIs,F.args_dict_init_2 _ _,?_⟩
 unfold Builtin.«dict.__init__»
 refine wpAny_bind ?_
 unfold Builtin.Dict.selfAndRest
 refine wpAny_bind (wpAny_notOrdered_dict hnew.typeIs ?_)
 show wpAny _ _ (pure (s.heap.objs.size,[Value.ref z])) _ _ _
 refine wpAny_pure ?_
 show wpAny _ _ (Builtin.Dict.updateFrom "dict.__init__" s.heap.objs.size (.ref z) [] .none) _ _ _
 unfold Builtin.Dict.updateFrom
 refine wpAny_bind (wpAny_typeOf hTz ?_)
 rw[if_pos (by decide)]
 refine wpAny_bind (zg7 (A:=A.in1.in1) hz' hA λh' tk hk'=>?_)
 simp only[Option.isNone_none,if_true]
 refine wpAny_bind (wpAny_rule ?_)
 obtain⟨a0,b0,hTO⟩:=hTO
 obtain⟨o1,ho1,_⟩:=p1.obj
 obtain⟨o2,ho2,_⟩:=p2.obj
 obtain⟨ol1,hl1,_⟩:=q1.cls
 obtain⟨ol2,hl2,_⟩:=q2.cls
 have kk:∀c o,s.heap.get? c=some o->h'.get? c=some o:=λc o e=>hk' _ _ (pu _ _ e)
 refine wpAny_bind (wpAny_pyIter_zip (kk _ _ hz) ?_)
 refine wpAny_pure ⟨plainId_quiet zx _,?_⟩
 refine zmv (s:={s with heap:=h',toks:=tk}) (d:=s.heap.objs.size) ⟨D,ne hz,ne hTI,ne ho1,ne ho2,ne hl1,ne hl2,trivial⟩ (ne hTO) hA hx hy hsz n1 hk hv nd (kk _ _ hz) ⟨a0,b0,kk _ _ hTO⟩
  ⟨kk _ _ hTI,p1.at λo e=>kk _ _ e,p2.at λo e=>kk _ _ e,q1.at λo e=>kk _ _ e,q2.at λo e=>kk _ _ e,?_⟩ λh2 tk2 hd kp=>⟨rfl,h h2 tk2 hd λc o c1 c2 c3 c4 e=>kp c o c1 c2 c3 c4 (ne e).symm (kk _ _ e)⟩
 obtain⟨o',es,ep,hg,r⟩:=hnew
 exact⟨o',es,ep,hk' _ _ hg,r⟩
end
end HT
namespace L2
open PySem PySem.Spec PyProof.Rows
section
variable{X:Cx}
def zw(hs:List Str)(ys:List V):List (Key×V):=(hs.zip ys).map λp=>(Sum.inr p.1,p.2)
theorem zhC{hs:List Str}{ys:List V}{j:Nat}{x:Str}{v:V}(nd:hs.Nodup)(h1:hs[j]?=some x)(h2:ys[j]?=some v):zby (zw hs ys) (Sum.inr x)=some v:=by
 induction hs generalizing ys j with
 |nil=>simp at h1
 |cons h hs ih=>
  rw[List.nodup_cons] at nd
  cases ys with
  |nil=>simp at h2
  |cons y ys=>
   cases j with
   |zero=>
    simp at h1 h2
    subst h1 h2
    simp[zw,zby]
   |succ j=>
    simp only[List.getElem?_cons_succ] at h1 h2
    have hne:¬h=x:=λe=>nd.1 (e▸List.mem_of_getElem? h1)
    have:=ih nd.2 h1 h2
    simpa[zw,zby,List.find?_cons,hne] using this
def tDZ(ta:TA):TE:=λσ H Q=>ta σ H λvs H1=>∃l1 l2 t1 t2 hs ys,vs=[.ref l1, .ref l2]/\SqZ t1 H1 l1 (hs.map V.str)/\SqZ t2 H1 l2 ys/\ys.length=hs.length/\1<=hs.length/\hs.length<=1000/\hs.Nodup/\∀p,H1 p=none->Q (.ref p) (upd H1 p (.dK (zw hs ys)))
theorem boot_dict:bootBuiltins "dict"=some (.type "dict"):=by kernel_rfl
theorem zm3{hs:List Str}{ys:List V}{its:List Value}(hl:ys.length=hs.length)(r:Vals ys its):KV (zw hs ys) (HT.dzAt (λk=>(Sum.inr (hs.getD k ""):Key)) (λk=>its.getD k .none) hs.length):=by
 induction hs generalizing ys its with
 |nil=>cases ys with
  |nil=>exact .nil
  |cons y ys=>simp at hl
 |cons h hs ih=>cases ys with
  |nil=>simp at hl
  |cons y ys=>cases r with
   | @cons _ u _ us r1 r2=>
     have:=ih (by simpa using hl) r2
     unfold HT.dzAt at this⊢
     rw[List.length_cons,List.range_succ_eq_map,List.map_cons,List.map_map]
     exact .cons ⟨rfl,r1⟩ this
theorem zkS(hl:List Str):(List.range hl.length).map (λk=>(Sum.inr (hl.getD k ""):Key))=hl.map Sum.inr:=by
 apply List.ext_getElem?
 intro i
 rw[List.getElem?_map,List.getElem?_map]
 rcases Nat.lt_or_ge i hl.length with h|h
 ·rw[List.getElem?_range h,List.getElem?_eq_getElem h]
  simp[List.getD,h]
 ·rw[List.getElem?_eq_none h,List.getElem?_eq_none (by rw[List.length_range];exact h)];rfl
theorem zk5{a b:Expr}{ta:TA}{p p2 pos pos2:Pos}(hm1:X.mg "dict"=none)(hm:X.mg "zip"=none)(hc:X.calm=true)(ha:QA X [a,b] ta)(hg1:Gl X "dict":=by rfl)(hg:Gl X "zip":=by rfl)(hs:starEach [a,b] X.env=[(false,eval a X.env),(false,eval b X.env)]:=by rfl)(hs2:starEach [b] X.env=[(false,eval b X.env)]:=by rfl)
 (hs0:starEach [.Call (.Name "zip" p2) [a,b] [] pos2] X.env=[(false,eval (.Call (.Name "zip" p2) [a,b] [] pos2) X.env)]:=by rfl):QE X (.Call (.Name "dict" p) [.Call (.Name "zip" p2) [a,b] [] pos2] [] pos) (tDZ ta):=⟨by
 intro pins s σ H Q I h
 refine wpAny_Call_Name_kw (zcT I hg1 hm1 boot_dict ?_)
 refine PyProof.Rows.callWith_type1 ?_ (by rw[hs0];rfl) rfl
 rw[hs0]
 refine Calls.spliced_cons ?_
 refine Call_ (zcT I hg hm zl5 (PyProof.Rows.callWith_type1 (thn (ha.o pos2 pins s σ H _ I h) λus s1 ⟨vs,H1,I1,r1,q1⟩=>?_) (by rw[hs,hs2]) (by rw[hs2];rfl)))
 obtain⟨l1,l2,t1,t2,hl,ys,rfl,hq1,hq2,le,h1,h9,nd,q⟩:=q1
 obtain⟨u,v,rfl,ru,rv⟩:=zdM r1
 cases ru
 cases rv
 obtain⟨it1,rv1,p1⟩:=zmh I1 hq1
 obtain⟨it2,rv2,p2⟩:=zmh I1 hq2
 have e1:it1.toArray.size=hl.length:=by have:=rv1.length;rw[List.length_map] at this;simp[←this]
 have e2:it2.toArray.size=hl.length:=by have:=rv2.length;rw[←le,this];simp
 refine HT.call_zp p1 p2 λh' hz hTI hTO hi1 hi2 hsz kk=>Calls.spliced_nil ?_
 have Z:ZpA (s1.heap.objs.size+4) (s1.heap.objs.size+2) (s1.heap.objs.size+3) s1.heap.objs.size (s1.heap.objs.size+1):=by constructor<;>(intro e;have e':(_:Nat)=_:=e;omega)
 have fr:∀c∈ [s1.heap.objs.size+4,s1.heap.objs.size+2,s1.heap.objs.size+3,s1.heap.objs.size,s1.heap.objs.size+1],s1.heap.objs.size<=c:=λc hc=>by
  simp only[List.mem_cons,List.not_mem_nil,or_false] at hc
  rcases hc with e|e|e|e|e<;>(have e':(c:Nat)=_:=e;rw[e'];first|exact Nat.le_refl _|exact Nat.le_add_right _ _)
 have D:=Z.apart (λc hc=>I1.hok.fresh (fr c hc)) hq1.some hq2.some
 refine HT.call_dict_zip (s:={s1 with heap:=h'}) (knd:=zZ X.prog X.w) (ks:=λk=>(Sum.inr (hl.getD k ""):Key)) (yv:=λk=>it2.getD k .none) (n:=hl.length) D (I1.ok.hd hc) e1 e2 (Nat.le_of_lt (Nat.lt_of_le_of_lt h9 (by decide))) h1 ?_ ?_ ?_ hz hTI ⟨_,_,hTO⟩ hi1 hi2 (p1.at λo e=>kk _ _ e) (p2.at λo e=>kk _ _ e) λh2 tk hd kp=>?_
 ·intro k x ex
  rw[List.getElem?_toArray] at ex
  have hk:k<hl.length:=by
   rcases Nat.lt_or_ge k it1.length with z|z
   ·have:=rv1.length;rw[List.length_map] at this;omega
   ·rw[List.getElem?_eq_none z] at ex;cases ex
  obtain⟨u,hu,ru⟩:=rv1.get (i:=k) (x:= .str hl[k]) (by rw[List.getElem?_map,List.getElem?_eq_getElem hk];rfl)
  rw[ex] at hu
  cases hu
  obtain⟨t,rfl⟩:=ru
  have:hl.getD k ""=hl[k]:=by simp[List.getD,hk]
  rw[this]
  exact zdb _ _ _ _
 ·intro k y ey
  rw[List.getElem?_toArray] at ey
  simp[List.getD,ey]
 ·rw[zkS]
  exact List.pairwise_map.mpr (nd.imp λh e=>h (Sum.inr.inj e))
 ·have lt:∀{b o},s1.heap.get? b=some o->∀c∈ [s1.heap.objs.size+4,s1.heap.objs.size+2,s1.heap.objs.size+3,s1.heap.objs.size,s1.heap.objs.size+1],b≠c:=λe c hc z=>absurd (Heap.lt_size e) (by rw[z];exact Nat.not_lt.mpr (fr c hc))
  have hf:H1 h'.objs.size=none:=I1.hok.fresh (by rw[hsz];exact Nat.le_add_right _ _)
  refine⟨.ref h'.objs.size,upd H1 h'.objs.size (.dK (zw hl ys)),I1.laid (t':=tk) (λb o e=>kp b o (lt e _ (by simp)) (lt e _ (by simp)) (lt e _ (by simp)) (lt e _ (by simp)) (kk _ _ e)) (by rw[hsz];exact Nat.le_add_right _ _) (zgc ?_ ?_ (zm3 le rv2) hd),rfl,q _ hf⟩
  ·unfold zw;rw[List.length_map,List.length_zip];exact Nat.le_trans (Nat.min_le_left _ _) (Nat.le_of_lt (Nat.lt_of_le_of_lt h9 (by decide)))
  ·refine beq_eq_false_iff_ne.mpr (Ne.symm (Nat.ne_of_lt (Nat.lt_of_lt_of_le I1.big (by rw[hsz];exact Nat.le_add_right _ _))))⟩
end
end L2
namespace RW
open PySem PySem.Spec PyProof.Rows L2
section
variable{X:Cx}
end
def Shw(c k:Nat)(d:D):Prop:=okD d=true/\(pyD d).showable=true/\(pyD d).depth<=k/\(pyD d).shown.length<=c
theorem zoM{x:Str}(h:PyData.strOk x=true)(hl:x.length<=8):Shw 82 1 (.str x):=by
 refine⟨by rw[okD];exact h,by rw[pyD,PyData.showable],by rw[pyD,PyData.depth];omega,?_⟩
 rw[pyD,PyData.shown]
 have hc:∀c∈x.cps.toList,c<16^8:=λc hc=>by
  unfold PyData.strOk at h
  rw[Array.all_eq_true'] at h
  have:=of_decide_eq_true (h c (Array.mem_toList_iff.mp hc))
  omega
 have:=StrLaws.reprText_len x hc
 omega
theorem showableAll_of:∀{xs:List PyData},(∀x∈xs,x.showable=true)->PyData.showableAll xs=true
 |[],_=>by rw[PyData.showableAll]
 |x::xs,h=>by rw[PyData.showableAll,h x List.mem_cons_self,showableAll_of λy hy=>h y (List.mem_cons_of_mem _ hy)];rfl
theorem zcZ:∀{xs:List PyData},PyData.shownAll xs=xs.map PyData.shown
 |[]=>by rw[PyData.shownAll];rfl
 |x::xs=>by rw[PyData.shownAll,List.map_cons,zcZ]
theorem zhs{ds:List D}{c k:Nat}(m:Nat)(hm:ds.length<=m)(h:∀d∈ds,Shw c k d):Shw (m*(c+2)+3) (k+1) (.tup ds):=by
 refine⟨by rw[okD];exact znc λd hd=>(h d hd).1,?_,?_,?_⟩
 ·rw[pyD,PyData.showable,zcX]
  exact showableAll_of λx hx=>by obtain⟨d,hd,rfl⟩:=List.mem_map.mp hx;exact(h d hd).2.1
 ·rw[pyD,PyData.depth,zcX]
  have:=zdo (n:=k) (xs:=ds.map pyD) λx hx=>by obtain⟨d,hd,rfl⟩:=List.mem_map.mp hx;exact(h d hd).2.2.1
  omega
 ·rw[pyD,PyData.shown,zcX,zcZ,List.map_map]
  have hc:∀x∈ds.map (PyData.shown∘pyD),x.length<=c:=λx hx=>by obtain⟨d,hd,rfl⟩:=List.mem_map.mp hx;exact(h d hd).2.2.2
  have jl:=zif (sep:=", ") (m:=2) (by decide) hc
  rw[List.length_map] at jl
  unfold tupleText
  rw[zcb,zcb]
  have l1:("(":Str).length=1:=rfl
  have l2:(Str.ofString (if(ds.map (PyData.shown∘pyD)).length==1 then",)"else ")")).length<=2:=by split<;>decide
  have:ds.length*(c+2)<=m*(c+2):=Nat.mul_le_mul_right _ hm
  rw[l1]
  have l2':(Str.ofString (if(ds.map (PyData.shown∘pyD)).length==1 then",)"else ")":String)).length<=2:=l2
  omega
theorem zd6{x:Str}(h:zg x=true):Shw 82 1 (.str x):=zoM (zaM h) (by
 unfold zg at h
 simp only[Bool.and_eq_true,decide_eq_true_eq] at h
 omega)
theorem zn3{a b:D}{c k:Nat}(ha:Shw c k a)(hb:Shw c k b):Shw (2*(c+2)+3) (k+1) (.tup [a,b]):=zhs 2 (Nat.le_refl 2) λd hd=>by
 simp only[List.mem_cons,List.not_mem_nil,or_false] at hd
 rcases hd with rfl|rfl
 ·exact ha
 ·exact hb
end RW
namespace RW
open PySem PySem.W PyProof.Rows L2
section
variable{N:Nat}{lt:Nat->Nat->Bool}
theorem znt{p:Array Nat}(hp:PermN N p)(i n:Nat):PermN N (kas_rev p i n):=(Array.perm_iff_toList_perm.mp (mirror_perm p i n _)).trans hp
theorem zng{p:Array Nat}(hp:PermN N p):∀f n,1<=n->n+f<=N->OkT N lt (kas_asc p f n) (λm=>n<=m/\m<=n+f)
 |0,n,_,_=>⟨Nat.le_refl _,Nat.le_refl _⟩
 |f+1,n,h1,hn=>by
  refine⟨hp.bd (by omega),hp.bd (by omega),?_⟩
  cases hc:lt (gd p n) (gd p (n -1))with
  |true=>
   show OkT N lt (if true=true then _ else _) _
   rw[if_pos rfl]
   exact⟨Nat.le_refl _,by omega⟩
  |false=>
   show OkT N lt (if false=true then _ else _) _
   rw[if_neg (by decide)]
   exact OkT.mono (λm hm=>⟨by omega,by omega⟩) (zng hp f (n+1) (by omega) (by omega))
theorem zhp:∀f (p:Array Nat) n q,PermN N p->1<=n->n+f<=N->OkT N lt (kas_desc f p n q) (λr=>PermN N r.1/\n<=r.2.1/\r.2.1<=n+f)
 |0,p,n,q,hp,_,_=>⟨hp,Nat.le_refl _,Nat.le_refl _⟩
 |f+1,p,n,q,hp,h1,hn=>by
  refine⟨hp.bd (by omega),hp.bd (by omega),?_⟩
  cases hc:lt (gd p n) (gd p (n -1))with
  |true=>
   show OkT N lt (if true=true then(if q>0 then _ else _)else _) _
   rw[if_pos rfl]
   split
   ·exact OkT.mono (λm hm=>⟨hm.1,by omega,by omega⟩) (zhp f _ (n+1) 0 (znt hp _ _) (by omega) (by omega))
   ·exact OkT.mono (λm hm=>⟨hm.1,by omega,by omega⟩) (zhp f _ (n+1) 0 hp (by omega) (by omega))
  |false=>
   show OkT N lt (if false=true then _ else _) _
   rw[if_neg (by decide)]
   refine⟨hp.bd (by omega),hp.bd (by omega),?_⟩
   cases hd:lt (gd p (n -1)) (gd p n)with
   |true=>
    show OkT N lt (if true=true then _ else _) _
    rw[if_pos rfl]
    exact⟨hp,Nat.le_refl _,by show n<=n+(f+1);omega⟩
   |false=>
    show OkT N lt (if false=true then _ else _) _
    rw[if_neg (by decide)]
    exact OkT.mono (λm hm=>⟨hm.1,by omega,by omega⟩) (zhp f _ (n+1) _ hp (by omega) (by omega))
def zjK(N:Nat)(r:Nat×Array Nat):Prop:=PermN N r.2/\1<=r.1/\r.1<=N
theorem zkg{p:Array Nat}{n:Nat}(hp:PermN N p)(h1:1<=n)(hn:n<=N):OkT N lt (kas_tail3 n N p) (zjK N):=by
 refine OkT.bind (OkT.mono (λm hm=>?_) (zng (znt hp 0 n) (N -n) n h1 (by omega)))
 exact⟨znt hp 0 n,by have:=hm.1;omega,by have:=hm.2;omega⟩
theorem zfs{p:Array Nat}{n:Nat}(hp:PermN N p)(h1:1<=n)(hn:n<N):OkT N lt (kas_descPart n N p) (zjK N):=by
 refine OkT.bind (OkT.mono (λr hr=>?_) (zhp (N -(n+1)) p (n+1) 0 hp (by omega) (by omega)))
 obtain⟨r1,r2,r3⟩:=hr
 split
 ·exact zkg (znt r1 _ _) (by omega) (by omega)
 ·exact zkg r1 (by omega) (by omega)
theorem zpj{p:Array Nat}(hp:PermN N p)(h1:1<=N):OkT N lt (kas_count N p) (zjK N):=by
 refine OkT.bind (OkT.mono (λn hn=>?_) (zng hp (N -1) 1 (Nat.le_refl _) (by omega)))
 obtain⟨n1,n2⟩:=hn
 by_cases hN:(n==N)=true
 ·rw[if_pos hN]
  exact⟨hp,n1,by show n<=N;omega⟩
 ·have hne:n≠N:=by simpa using hN
  rw[if_neg hN]
  by_cases h2:n>1
  ·rw[if_pos h2]
   refine⟨hp.bd (by omega),hp.bd (by omega),?_⟩
   cases hc:lt (gd p 0) (gd p (n -1))with
   |true=>
    show OkT N lt (if true=true then _ else _) _
    rw[if_pos rfl]
    exact⟨hp,n1,by show n<=N;omega⟩
   |false=>
    show OkT N lt (if false=true then _ else _) _
    rw[if_neg (by decide)]
    exact zfs (znt hp 0 n) n1 (by omega)
  ·rw[if_neg h2]
   exact zfs hp n1 (by omega)
theorem zhI{p:Array Nat}{k:Nat}(hp:PermN N p)(hk:k<N):∀f l r,l<=r->r<=k->OkT N lt (kas_place p k f l r) (λ_=>True)
 |0,l,r,_,_=>trivial
 |f+1,l,r,h1,h2=>by
  by_cases hlr:l≥r
  ·show OkT N lt (if l≥r then _ else _) _
   rw[if_pos hlr]
   trivial
  ·show OkT N lt (if l≥r then _ else _) _
   rw[if_neg hlr]
   refine⟨hp.bd hk,hp.bd (by omega),?_⟩
   cases hc:lt (gd p k) (gd p ((l+r)/2))with
   |true=>
    show OkT N lt (if true=true then _ else _) _
    rw[if_pos rfl]
    exact zhI hp hk f l ((l+r)/2) (by omega) (by omega)
   |false=>
    show OkT N lt (if false=true then _ else _) _
    rw[if_neg (by decide)]
    exact zhI hp hk f ((l+r)/2+1) r (by omega) h2
theorem zpA:∀f (p:Array Nat) k,PermN N p->k+f=N->OkT N lt (kas_bin f p k) (λp'=>PermN N p')
 |0,p,k,hp,hk=>hp
 |f+1,p,k,hp,hk=>by
  refine OkT.bind (OkT.mono (λl _=>?_) (zhI hp (by omega) k 0 k (Nat.zero_le _) (Nat.le_refl _)))
  exact zpA f _ (k+1) ((Array.perm_iff_toList_perm.mp (bubble_perm p k _)).trans hp) (by omega)
theorem zqI(h1:1<=N):OkT N lt (kas_sort N) (λp=>PermN N p):=by
 have h0:PermN N (List.toArray (List.range N)):=by show(List.range N).Perm _;exact List.Perm.refl _
 refine OkT.bind (OkT.mono (λr hr=>?_) (zpj h0 h1))
 obtain⟨c1,c3,c4⟩:=hr
 by_cases h:r.1<N
 ·rw[if_pos h]
  have e:max r.1 1=r.1:=by omega
  rw[e]
  exact zpA _ _ _ c1 (by omega)
 ·rw[if_neg h]
  exact c1
theorem sort_any(h1:1<=N):OkT N lt (kas_sort N) (λp=>PermN N p/\(Strict N lt->Sor lt p N)):=by
 by_cases S:Strict N lt
 ·exact OkT.mono (λp hp=>⟨hp.1,λ_=>hp.2⟩) (sort_ok S h1)
 ·exact OkT.mono (λp hp=>⟨hp,λz=>absurd z S⟩) (zqI h1)
end
end RW
namespace L2
open PySem PySem.Spec PySem.W PyProof.Rows
theorem ziI:∀{a b:List Str},a≠b->ltL a b=false->ltL b a=true
 |[],[],h,_=>absurd rfl h
 |[],_::_,_,e=>by cases e
 |_::_,[],_,_=>rfl
 |x::xs,y::ys,h,e=>by
  rw[ltL] at e⊢
  by_cases z:x=y
  ·rw[if_pos z] at e;rw[if_pos z.symm];exact ziI (λq=>h (by rw[z,q])) e
  ·rw[if_neg z] at e;rw[if_neg (Ne.symm z)];exact zb9 z e
section
variable{prog:Program}{w:World}{A:Around}{E:Value->Shared->Prop}{s:Shared}
theorem ziE{l:Addr}{T:String}{o:Obj}{n:Nat}{ks:List Value}{R:Value->Shared->Prop}{G:Array Nat->Prop}{κ:SortKind}(hT:T="list"\/T="tuple")(ho:s.heap.get? l=some o)(hc:o.cls= .type T)(hd:o.data= .seq ks.toArray n)(h64:ks.length<64)
 (hk:2<=ks.length->∀s1:Shared,(∀b o,s.heap.get? b=some o->s1.heap.get? b=some o)->(∀C:SortKind->Shared->Prop,C κ s1->wpAny (model prog w) A.in1.in1 (keyKind' ks.toArray) C (λ_ _=>False) s1)/\(kas_sort ks.length).kasWp (kas_ask prog w A.in1.in1 κ ks) (λp s'=>s'=s1/\G p) s1)
 (q:∀(D:Addr) (out:List Value) (h':Heap) (c:Nat),(ks.length<2/\out=ks\/∃p:Array Nat,p.size=ks.length/\G p/\out=p.toList.map λi=>ks.getD i Value.none)->(∀b o,s.heap.get? b=some o->h'.get? b=some o)->
   s.heap.objs.size<=D->h'.get? D=some (seqObj "list" out.toArray c)->R (.ref D) {s with heap:=h'}):wpAny (model prog w) A (call (.builtin "sorted") [.ref l]) R E s:=by
 refine Calls.call_function_entry kind_sorted plain_sorted entry_sorted (args_sorted1 _) ?_
 unfold Builtin.«sorted»
 refine wpAny_bind (m:=checkCount "sorted" 1 1 _) (wpAny_pure (wpAny_bind (zeW hT ho hc hd (by rw[sizeLine_eq];omega) λh1 kp gr0=>?_)))
 refine wpAny_bind (wpAny_newList ?_ (by rw[sizeLine_eq];omega))
 have hD:(h1.push (seqObj "list" ks.toArray 0)).get? h1.objs.size=some (seqObj "list" ks.toArray 0):=Heap.get?_push_size _ rfl
 have k2:∀b o,s.heap.get? b=some o->(h1.push (seqObj "list" ks.toArray 0)).get? b=some o:=λb o e=>Heap.get?_push_of_some _ (kp b o e)
 have gr:s.heap.objs.size<=h1.objs.size:=Nat.le_of_lt gr0
 show wpAny _ _ _ _ _ {s with heap:=h1.push (seqObj "list" ks.toArray 0)}
 refine wpAny_bind (wpAny_holding (wpAny_call_entry slot_list_sort ⟨_,hD,rfl⟩ entry_list_sort (zgN (G:=G) (κ:=κ) (s:={s with heap:=h1.push (seqObj "list" ks.toArray 0)}) hD h64 (λh2 s1 k1=>?_) λout h' c hc hkp hg=>?_) (args_list_sort _)))
 ·obtain ⟨x1,x2⟩:=hk h2 s1 λb o e=>k1.2 b o (Nat.ne_of_lt (Nat.lt_of_lt_of_le (Heap.lt_size e) gr)) (k2 b o e)
  exact⟨λC hC=>wpAny_mono (x1 C hC) (λ_ _ z=>z) λ_ _ z=>z.elim,x2⟩
 ·exact ⟨_,rfl,wpAny_pure ⟨_,rfl,q h1.objs.size out h' c hc (λb o e=>hkp b o (Nat.ne_of_lt (Nat.lt_of_lt_of_le (Heap.lt_size e) gr)) (k2 b o e)) gr hg⟩⟩
end
section
variable{X:Cx}{K:PySem.W.Frag}
theorem zi6{vs:List V}{us:List Value}(hl:vs.length=us.length)(h:∀(i:Nat) (v:V) (u:Value),vs[i]?=some v->us[i]?=some u->RelV v u):Vals vs us:=by
 induction vs generalizing us with
 |nil=>match us,hl with|[],_=>exact .nil
 |cons v vs ih=>
  match us,hl with
  |u::us,hl=>exact .cons (h 0 v u rfl rfl) (ih (by simpa using hl) λi v u e1 e2=>h (i+1) v u (by simpa using e1) (by simpa using e2))
end
end L2
namespace L2
open PySem PySem.Spec PyProof.Rows
section
variable{X:Cx}{K:PySem.W.Frag}{o:Expr}{to:TE}{name:Str}{apos cpos:Pos}{T id:String}{r:V->List V->Hp->VK->Prop}
end
section
variable{X:Cx}{K:PySem.W.Frag}
end
end L2
namespace RW
open PySem PySem.Spec PyProof.Rows L2
def zn9:List Str->Bool
 |[a,b,w]=>zg a&&zg b&&(if w="equal"then ltS a b else decide (w="over")&&!decide (a=b))
 |_=>false
def zjH(r:List Str):List Str:=srt (r.take 2)
structure KinOk(rs:List (List Str)):Prop where
 row:∀r∈rs,zn9 r=true
 rise:rs.Pairwise (λa b=>ltL a b=true)
 ties:(rs.map zjH).Nodup
def pr(a b:Str):List Str:=srt [a,b]
abbrev at_(xs:List Str)(i:Nat):Str:=xs.getD i ""
structure KD62(xs:List Str)(ps:List (Nat×Nat))(k:Nat)(rs:List (List Str)):Prop where
 row:∀r∈rs,zn9 r=true
 nd:(rs.map zjH).Nodup
 few:rs.length<=k
 old:∀r∈rs,∃q∈ps.take k,q.1<q.2/\zjH r=pr (at_ xs q.1) (at_ xs q.2)
section
variable{te tf:TE}{ta:TA}{σ:L2.St}{H:Hp}{P P':D->Prop}{d:D}{ds:List D}{n:Nat}{K:PySem.W.Frag}
end
end RW
namespace HT
open PySem PySem.Spec PyProof.Rows L2
section
variable{prog:Program}{w:World}{A:Around}{E:Value->Shared->Prop}{s:Shared}
theorem ze7:isSubtype (.type "range_iterator") (.type "reversed")=pure false:=by rw[isSubtype_type];kernel_rfl
def downObj(n:Nat):Obj:={cls:= .type "range_iterator",data:= .fields #[rawInt ((n:Int) -1),rawInt (n:Int),rawInt (-1)]}
theorem zlb(r:Addr)(a b c:Int)(t u v:Tok)(hc0:¬(!(Builtin.Range.rangeFitsLong a&&Builtin.Range.rangeFitsLong b&&Builtin.Range.rangeFitsLong c&&Builtin.Range.rangeFitsLong (-c)&&Builtin.Range.rangeFitsLong (a -c)&&Builtin.Range.rangeFitsLong (Builtin.Range.rangeSize a b c)))=true):
 Meets (Builtin.«range.__reversed__» ⟨[.ref r],[]⟩) (λ_ R s=>s.heap.get? r=some {cls:= .type "range",dict:=none,data:= .fields #[.int a t, .int b u, .int c v],slots:= #[]}/\R (.ok (.ret (Value.ref s.heap.objs.size))) {s with heap:=s.heap.push {cls:=Value.type (if(Builtin.Range.rangeFitsLong a&&Builtin.Range.rangeFitsLong b&&Builtin.Range.rangeFitsLong c&&Builtin.Range.rangeFitsLong (-c)&&Builtin.Range.rangeFitsLong (a -c)&&Builtin.Range.rangeFitsLong (Builtin.Range.rangeSize a b c))=true then"range_iterator"else "longrange_iterator"),data:=Data.fields #[rawInt (a+(Builtin.Range.rangeSize a b c -1)*c),rawInt (Builtin.Range.rangeSize a b c),rawInt (-c)]},toks:=s.toks}):=
 .of_wp λprog w A R s h=>by obtain⟨hp,g,d,tk,os⟩:=s;obtain⟨hl,h⟩:=h;wp_walk;exact⟨_,rfl,h⟩
theorem zfP{r:Addr}{n:Nat}{t u v:Tok}{Q:Value->Shared->Prop}(hr:s.heap.get? r=some {cls:= .type "range",data:= .fields #[.int 0 t, .int (n:Int) u, .int 1 v]})(hn:n<=1000)
 (h:Q (.ref s.heap.objs.size) {s with heap:=s.heap.push (downObj n)}):wpAny (model prog w) A (call (.builtin "range.__reversed__") [.ref r]) Q E s:=by
 have hT:s.TypeIs (.ref r) "range":=⟨_,hr,rfl⟩
 have e1:Builtin.Range.rangeSize 0 (n:Int) 1=(n:Int):=by rw[rangeSize_one];split<;>omega
 have ft:∀i:Int,-(2^63)<=i->i<2^63->Builtin.Range.rangeFitsLong i=true:=λi h1 h2=>by
  unfold Builtin.Range.rangeFitsLong
  rw[decide_eq_true h1,decide_eq_true h2];rfl
 have e2:(Builtin.Range.rangeFitsLong 0&&Builtin.Range.rangeFitsLong (n:Int)&&Builtin.Range.rangeFitsLong 1&&Builtin.Range.rangeFitsLong (-1)&&Builtin.Range.rangeFitsLong (0 -1)&&Builtin.Range.rangeFitsLong (Builtin.Range.rangeSize 0 (n:Int) 1))=true:=by
  rw[e1,ft 0 (by decide) (by decide),ft (n:Int) (by omega) (by omega),ft 1 (by decide) (by decide),ft (-1) (by decide) (by decide),ft (0 -1) (by decide) (by decide)];rfl
 refine call_meets PySem.F.slot_range_reversed hT PySem.F.entry_range_reversed (PySem.F.args_range_reversed_1 _) (zlb r 0 (n:Int) 1 t u v (by rw[e2];decide)) ⟨hr,?_⟩
 rw[if_pos e2,e1]
 have e3:(0:Int)+((n:Int) -1)*1=(n:Int) -1:=by omega
 rw[e3]
 exact h
theorem zel{r:Addr}{n:Nat}{t u v:Tok}{Q₁:Value->Shared->Prop}(hr:s.heap.get? r=some {cls:= .type "range",data:= .fields #[.int 0 t, .int (n:Int) u, .int 1 v]})(hn:n<=1000)
 (h:Q₁ (.ref s.heap.objs.size) {s with heap:=s.heap.push (downObj n)}):
 codeAny (model prog w) A (.call (.builtin "reversed.__new__") ⟨[.type "reversed", .ref r],[]⟩) (wants Q₁ E) s:=by
 have hT:s.TypeIs (.ref r) "range":=⟨_,hr,rfl⟩
 refine codeAny_of_tree ?_
 show wpAny _ A.in1 (do checkBuiltinCall "reversed.__new__" ⟨[.type "reversed", .ref r],[]⟩;again (.builtin "reversed.__new__" ⟨[.type "reversed", .ref r],[]⟩)) _ _ s
 refine wpAny_bind (wpAny_of_eq (PySem.F.newCall_reversed_1 _) (wpAny_pure ⟨plainId_quiet PySem.F.plain_reversed_new _,codeAny_builtin PySem.F.entry_reversed_new ?_⟩))
 rw[Around.under_plainId PySem.F.plain_reversed_new _]
 unfold Builtin.«reversed.__new__»
 refine wpAny_bind (wpAny_of_eq (newClass_reversed _) ?_)
 try dsimp only
 refine wpAny_bind (wpAny_of_eq (a:=()) (by first|rfl|kernel_rfl) ?_)
 refine wpAny_bind (wpAny_of_eq (a:=()) (by first|rfl|kernel_rfl) ?_)
 try dsimp only
 refine wpAny_bind (wpAny_specialOf hT PySem.F.slot_range_reversed.lookup ?_)
 try dsimp only
 refine wpAny_bind (wpAny_of_eq (PySem.F.slot_range_reversed.bind _) ?_)
 try dsimp only
 first
 |rw[if_neg (show¬((Value.builtin "range.__reversed__"==Value.none)=true)from Bool.false_ne_true)]
 |(show wpAny _ _ (if(Value.builtin "range.__reversed__"==Value.none)=true then _ else _) _ _ _;rw[if_neg (show¬((Value.builtin "range.__reversed__"==Value.none)=true)from Bool.false_ne_true)])
 refine wpAny_bind (wpAny_rule ?_)
 refine wpAny_bind (m:=runValue (.call (.builtin "range.__reversed__") ⟨[.ref r],[]⟩)) (show wpAny _ _ (call (.builtin "range.__reversed__") [.ref r]) _ _ _ from zfP hr hn ?_)
 first
 |exact wpAny_pure h
 |exact wpAny_bind (wpAny_pure (wpAny_pure h))
theorem call_reversed_rng{r:Addr}{n:Nat}{t u v:Tok}{Q:Value->Shared->Prop}(hr:s.heap.get? r=some {cls:= .type "range",data:= .fields #[.int 0 t, .int (n:Int) u, .int 1 v]})(hn:n<=1000)
 (h:Q (.ref s.heap.objs.size) {s with heap:=s.heap.push (downObj n)}):wpAny (model prog w) A (call (.type "reversed") [.ref r]) Q E s:=by
 refine callType_other (U:="range_iterator") (Q₁:=λobj s₁=>obj= .ref s.heap.objs.size/\s₁={s with heap:=s.heap.push (downObj n)}) (by decide +kernel) PySem.F.create_reversed ⟨_,_,PySem.F.mro_reversed⟩ PySem.F.made_reversed ze7 (PySem.F.typeCall_reversed_1 _) (zel hr hn ⟨rfl,rfl⟩) ?_
 rintro obj s₁ ⟨rfl,rfl⟩
 exact⟨⟨_,Heap.get?_push_size _ rfl,rfl⟩,h⟩
end
end HT
namespace L2
open PySem PySem.Spec PyProof.Rows
def zoy(n:Nat):It:=⟨λi _=>i<n,λi H x H'=>H'=H/\x= .int ((n:Int) -1 -i),λi _=>n<=i⟩
theorem zoZ{n:Nat}:Wk (zoy n) n (λi x=>x= .int ((n:Int) -1 -i)) (λ_=>True) where
 stop:=λi H h l=>l
 go:=λi H h l=>l
 yld:=λi H x H' h l y=>y
theorem zlR{P:Program}{w:World}{K:PySem.W.Frag}{tg:Expr}(it:Addr)(n:Nat):Turn P w K tg (zoy n) [it] it (λi h=>IsRangeIter h it ((n:Int) -1+(i:Nat)*(-1)) ((n:Int) -(i:Nat)) (-1)) where
 mem:=by simp
 obj:=λi h st b hb=>by
  have e:b=it:=by simpa using hb
  subst e
  exact⟨_,st,λv z=>by
   have z':Data.fields _=Data.cell v:=z
   cases z'⟩
 keep:=λi h h' st k=>k it (by simp) _ st
 item:=by
  intro X hP hw hK hc i pins s σ H E I hf st hg
  subst hP hw hK
  obtain⟨f0,f1,f2,f3,f4,f5⟩:=hf it (by simp)
  have W:=Walks.range (prog:=X.prog) (w:=X.w) (I.ok.hd hc) it ((n:Int) -1) (-1) n
  refine W.item i s _ _ hg st λv h' tk hv st' kk=>?_
  obtain⟨t,rfl⟩:=hv
  have I1:Inv X pins σ H {s with heap:=h',toks:=tk}:=I.turned (λb o hb e=>kk b o (by simpa using hb) e) f0 f1 f3 f4 f5
  refine⟨_,rfl,zgV (s:={s with heap:=h',toks:=tk}) (n:="range_iterator") st' rfl rfl (by decide) ⟨.int ((n:Int) -1 -i),H,I1,⟨t,?_⟩,⟨rfl,rfl⟩,st',λb hb=>(hf b hb).1⟩⟩
  congr 1
  omega
 done:=by
   intro X hP hw hK hc i pins s σ H E I hf st hg
   subst hP hw hK
   obtain⟨f0,f1,f2,f3,f4,f5⟩:=hf it (by simp)
   exact wpAny_pyNext_range_end (I.ok.hd hc) st (by have:n<=i:=hg;omega) λh' eb=>⟨rfl,I.turned (t':=s.toks) (λb o hb e=>eb b o hb e) f0 f1 f3 f4 f5⟩
 self:=λ_ _ _ _ _ st h=>wpAny_pyIter_rangeiter st h
section
variable{X:Cx}{tg:Expr}
theorem zoY{pins:List (Addr×Obj)}{σ:St}{H:Hp}{s:Shared}{R:It->Hp->Prop}{E:Value->Shared->Prop}{n:Nat}{t u v:Tok}{tk:Nat}(I:Inv X pins σ H s)(hn:n<=1000)(q:R (zoy n) H):
 wpAny (model X.prog X.w) X.A (call (.type "reversed") [.ref s.heap.objs.size]) (λv s1=>wpAny (model X.prog X.w) X.A (pyIter v) (PIE X pins σ tg R) E s1) E {s with heap:=s.heap.push {cls:= .type "range",data:= .fields #[.int 0 t, .int (n:Int) u, .int 1 v]},toks:=tk}:=by
 refine HT.call_reversed_rng (Heap.get?_push_size _ rfl) hn ?_
 have I2:Inv X pins σ H {s with heap:=(s.heap.push {cls:= .type "range",data:= .fields #[.int 0 t, .int (n:Int) u, .int 1 v]}).push (HT.downObj n),toks:=tk}:=I.kept λb o e=>Heap.get?_push_of_some _ (Heap.get?_push_of_some _ e)
 have hit:IsRangeIter ((s.heap.push {cls:= .type "range",data:= .fields #[.int 0 t, .int (n:Int) u, .int 1 v]}).push (HT.downObj n)) (s.heap.push {cls:= .type "range",data:= .fields #[.int 0 t, .int (n:Int) u, .int 1 v]}).objs.size ((n:Int) -1+((0:Nat):Int)*(-1)) ((n:Int) -((0:Nat):Int)) (-1):=by
  have e1:(n:Int) -1+((0:Nat):Int)*(-1)=(n:Int) -1:=by omega
  have e2:(n:Int) -((0:Nat):Int)=(n:Int):=by omega
  rw[e1,e2]
  exact Heap.get?_push_size _ rfl
 refine wpAny_pyIter_rangeiter hit ?_
 refine⟨_,[_],_,_,H,rfl,I2,zlR _ n,hit,λb hb=>?_,q⟩
 have e:b=(s.heap.push {cls:= .type "range",data:= .fields #[.int 0 t, .int (n:Int) u, .int 1 v]}).objs.size:=by simpa using hb
 have hb':s.heap.objs.size<=b:=by rw[e,Heap.size_push];exact Nat.le_succ _
 exact I.fpOk hb' (I.hok.fresh hb')
def zre(ta:TA):TI:=λσ H R=>ta σ H λvs H1=>∃n:Nat,vs=[.int (n:Int)]/\n<=1000/\R (zoy n) H1
theorem zgr:bootBuiltins "reversed"=some (.type "reversed"):=by kernel_rfl
theorem zqW{a:Expr}{ta:TA}{p p2 pos pos2:Pos}(hm:X.mg "range"=none)(hm2:X.mg "reversed"=none)(ha:QA X [a] ta)(hg:Gl X "range":=by rfl)(hg2:Gl X "reversed":=by rfl)(hs:starEach [a] X.env=[(false,eval a X.env)]:=by rfl)
 (hs2:starEach [.Call (.Name "range" p2) [a] [] pos2] X.env=[(false,eval (.Call (.Name "range" p2) [a] [] pos2) X.env)]:=by rfl):QI X tg (.Call (.Name "reversed" p) [.Call (.Name "range" p2) [a] [] pos2] [] pos) (zre ta):=⟨by
 intro pins s σ H R I h
 refine Call_ (zcT I hg2 hm2 zgr (PyProof.Rows.callWith_type1 (Q:=_) ?_ hs2 rfl))
 rw[hs2]
 refine Calls.spliced_cons (Call_ (zcT I hg hm boot_range (PyProof.Rows.callWith_type1 (thn (ha.o pos2 pins s σ H _ I h) λus s1 ⟨vs,H1,I1,r1,q1⟩=>?_) hs rfl)))
 obtain⟨n,rfl,hn,q⟩:=q1
 obtain⟨u,rfl,ru⟩:=zck r1
 obtain⟨t,rfl⟩:=ru
 refine call_range_1 (Calls.spliced_nil ?_)
 exact zoY I1 hn q⟩
end
section
variable{X:Cx}
theorem zoE{c:Expr}{body:List Stmt}{tc:TT}{tb:TS}{pos:Pos}(hc:QT X c tc)(hb:QB X body tb)(hp:PassesOwn (model X.prog X.w) X.A X.env X.xe:=by exact PassesOwn.never):QS X (.While c body [] pos) (zns tc tb):=⟨znI hp hc.o hb.o⟩
theorem zku:bootBuiltins "repr"=some (.builtin "repr"):=by decide +kernel
theorem zpZ{tg e:Expr}{te:TE}(h:QE X e te):QI X tg e (λσ H R=>zo3 X.K te σ H R\/zio X.K te σ H R):=⟨λpins s σ H R I q=>by
 rcases q with q|q
 ·exact (za1 h).o pins s σ H R I q
 ·exact (zcw h).o pins s σ H R I q⟩
end
end L2
namespace RW
open PySem PySem.Spec PyProof.Rows L2
def zrX:D->List D| .tup rs=>rs|_=> []
def zK:List Str->List D->Str->List D
 |h::hs,d::ds,x=>if h=x then zrX d else zK hs ds x
 |_,_,_=> []
theorem zho{x:Str}{rs:List D}:∀{hs:List Str} {ds:List D} {j:Nat},hs.Nodup->hs[j]?=some x->ds[j]?=some (.tup rs)->zK hs ds x=rs
 |[],_,j,_,h1,_=>by simp at h1
 |h::hs,[],j,_,_,h2=>by simp at h2
 |h::hs,d::ds,0,_,h1,h2=>by
  simp at h1 h2
  subst h1 h2
  rw[zK,if_pos rfl];rfl
 |h::hs,d::ds,j+1,nd,h1,h2=>by
  simp only[List.getElem?_cons_succ] at h1 h2
  rw[List.nodup_cons] at nd
  have hne:¬h=x:=λe=>nd.1 (e▸List.mem_of_getElem? h1)
  rw[zK,if_neg hne]
  exact zho nd.2 h1 h2
def zdW:D->Bool| .non=>true|_=>false
theorem zkU{H:Hp}{u:V}{d:D}(r:Rep H u d):decide (u=V.non)=zdW d:=by
 cases r<;>first|rfl|exact decide_eq_false (λz=>by cases z)
def zaQ(hs:List Str)(lks hds:List D)(y:Str)(w ms:List Str):Option (List Str):=
 match zG w (some y) (zK hs hds (w.headD "")) ms with
 |none=>none
 |some t=>if zdW (zO (y::w) t (zK hs lks y))=true then none else some t
def zp(hs:List Str)(lks hds:List D):List Str->Option (List Str)
 |[]=>some []
 |[_]=>some []
 |y::x::ws=>match zp hs lks hds (x::ws)with
  |none=>none
  |some t=>zaQ hs lks hds y (x::ws) t
structure Mr(O t:List Str):Prop extends Mk O t where
 rise:t.Pairwise (λa b=>ltS a b=true)
theorem Mr.next{O t:List Str}{w m:Str}(h:Mr O t)(hm:m∈O):Mr O (ze1 t w m):=⟨h.toMk.next hm,zfB (zdz h.nd)⟩
theorem Mr.nil{O:List Str}:Mr O []:=⟨⟨List.nodup_nil,λ_ h=>nomatch h⟩,List.Pairwise.nil⟩
theorem zcB{O:List Str}{ws:List Str}{to:Option Str}:∀{rs:List D} {ms t:List Str},(∀r∈rs,∃cs x,r= .tup [.tup cs,x]/\(∀c∈cs,zE c=true)/\(x= .tup [.str "keep"]\/∃w m,x= .tup [.str w, .str m]/\(w="put"\/w="strike")/\m∈O))->Mr O ms->zG ws to rs ms=some t->Mr O t
 |[],ms,t,_,h,e=>by rw[zG] at e;cases e;exact h
 |r::rs,ms,t,hr,h,e=>by
  obtain⟨cs,x,rfl,_,hx⟩:=hr r List.mem_cons_self
  have hr':=λr h=>hr r (List.mem_cons_of_mem _ h)
  rw[zG] at e
  split at e
  ·rcases hx with rfl|⟨w,m,rfl,_,hm⟩
   ·cases e
   ·exact zcB hr' (h.next hm) e
  ·exact zcB hr' h e
theorem znm{O hs:List Str}{lks hds:List D}{y:Str}{w ms t:List Str}(hk:zdw O (zK hs hds (w.headD "")))(h:Mr O ms)(e:zaQ hs lks hds y w ms=some t):Mr O t:=by
 unfold zaQ at e
 split at e
 ·cases e
 ·rename_i t' e'
  split at e
  ·cases e
  ·cases e
   exact zcB hk.2 h e'
theorem ziL{O t:List Str}{m:Str}(h:Mr O t):ze1 t "strike" m=t.filter λx=>!decide (x=m):=by
 unfold ze1 zaj
 rw[if_neg (by decide +kernel),List.append_nil]
 exact zdX (zfB (h.nd.filter _)) (h.rise.filter _) λx=>(zda _).mem_iff
end RW
namespace L2
section
variable{α:Type}{P:List α->Prop}
theorem of1(h:∀a,P [a]):∀us:List α,us.length=1->P us
 |[a],_=>h a
theorem of2(h:∀a b,P [a,b]):∀us:List α,us.length=2->P us
 |[a,b],_=>h a b
theorem of3(h:∀a b c,P [a,b,c]):∀us:List α,us.length=3->P us
 |[a,b,c],_=>h a b c
theorem of4(h:∀a b c d,P [a,b,c,d]):∀us:List α,us.length=4->P us
 |[a,b,c,d],_=>h a b c d
end
end L2
namespace HT
open PySem PySem.Spec PyProof.Rows L2
section
variable{prog:Program}{w:World}{A:Around}{R:Result->Shared->Prop}{I:Addr}{fp wr:List Addr}{n:Nat}{P:Nat->Value->Prop}{St:Nat->Heap->Prop}
end
section
variable{prog:Program}{w:World}{A:Around}{E:Value->Shared->Prop}{s:Shared}
end
end HT
namespace L2
open PySem PySem.Spec PyProof.Rows
section
variable{X:Cx}
end
section
variable{X:Cx}
end
end L2
namespace L2
open PySem PySem.W PySem.Spec PyProof.Rows PyProof.V
section
variable{X:Cx}
end
end L2
namespace HT
open PySem PySem.Spec PyProof.Rows L2
section
variable{prog:Program}{w:World}{A:Around}{R:Result->Shared->Prop}{I:Addr}{fp wr:List Addr}{n:Nat}{P:Nat->Value->Prop}{St:Nat->Heap->Prop}
end
section
variable{prog:Program}{w:World}{A:Around}{E:Value->Shared->Prop}{s:Shared}
end
section
variable{prog:Program}{w:World}{A:Around}{E:Value->Shared->Prop}{s:Shared}
end
end HT
namespace L2
open PySem PySem.W PySem.Spec PyProof.Rows PyProof.V
section
variable{X:Cx}
end
end L2
namespace L2
open PySem PySem.Spec PyProof.Rows
section
variable{prog:Program}{w:World}{A:Around}{R:Result->Shared->Prop}{s:Shared}{kx vx t1 i1 t2 i2:Expr}{f1 f2:List Expr}{scope:Scope}{pos:Pos}{it acc:Value}{env:Env}{d:Addr}
end
section
variable{X:Cx}{kx vx tg iter tg2 iter2:Expr}{ifs ifs2:List Expr}{scope osc:Scope}{pos:Pos}{N':List Str}{src:List (Option Nat)}{wi wi2:TI}{g g2:TG}{tc tc2:TT}{tk tv:TE}{y:Str}{py spos:Pos}{k:Nat}
end
section
variable{X:Cx}{pos:Pos}{pins:List (Addr×Obj)}{σ:St}{H:Hp}{s:Shared}
end
end L2
namespace RW
open PySem PySem.Spec PyProof.Rows L2
structure RingG(G:Str->List Str)(xs:List Str):Prop where
 two:2<=xs.length
 ends:xs[0]?=xs[xs.length -1]?
 nd:(xs.drop 1).Nodup
 nxt:∀i a b,xs[i]?=some a->xs[i+1]?=some b->a∈G b
structure Led(H:Hp)(kvs:List (Key×V))(ks:List Str)(G:Str->List Str):Prop where
 keys:kvs.map (·.1)=ks.map Sum.inr
 nd:ks.Nodup
 at_:∀x∈ks,∃l,zby kvs (Sum.inr x)=some (.ref l)/\H l=some (.lst ((G x).map V.str))
 sub:∀x∈ks,∀y∈G x,y∈ks
 short:∀x∈ks,x.length<=1000
 few:ks.length<=60/\∀x∈ks,(G x).length<=60
def tol(tk:List (Key×V))(x:Str):Bool:=(zby tk (Sum.inr x)).isSome
structure Tld63(tk:List (Key×V))(ks:List Str)(G:Str->List Str):Prop where
 opn:∀x∈ks,tol tk x=false->∃y∈G x,tol tk y=false
 sure:∀W:Str->Prop,(∀b,W b->∃a∈G b,W a)->∀b,W b->tol tk b=false
structure Peel(rs R:List (List Str)):Prop where
 sub:∀r∈R,r∈rs/\at_ r 2=("over":Str)
 out:∀W:Str->Prop,(∀b,W b->∃a,[a,b,"over"]∈rs/\W a)->∀a b,W a->W b->[a,b,"over"]∈rs->[a,b,"over"]∈R
structure LR(ks:List Str)(G:Str->List Str)(tk:List (Key×V))(ws:List Str):Prop where
 sub:∀x∈ws,x∈ks
 cov:∀x∈ks,x∈ws\/tol tk x=true
 sure:∀W:Str->Prop,(∀b,W b->∃a∈G b,W a)->∀b,W b->tol tk b=false
 inv:∀x v,zby tk (Sum.inr x)=some v->∃n,v=V.int n
 len:tk.length+ws.length<=ks.length
structure LRi(ks:List Str)(G:Str->List Str)(tk:List (Key×V))(ws ys:List Str)(i:Nat)(fr:Bool):Prop where
 sub:∀x∈ys,x∈ks
 cov:∀x∈ks,x∈ys\/x∈ws.drop i\/tol tk x=true
 sure:∀W:Str->Prop,(∀b,W b->∃a∈G b,W a)->∀b,W b->tol tk b=false
 inv:∀x v,zby tk (Sum.inr x)=some v->∃n,v=V.int n
 len:tk.length+ys.length+(ws.length -i)<=ks.length
 le:ys.length<=i
 lt:fr=true->ys.length<i
 opn:fr=false->∀x∈ys,∃y∈G x,tol tk y=false
structure Wlk(ks:List Str)(G:Str->List Str)(tk:List (Key×V))(row:List Str)(x:Str):Prop where
 nd:row.Nodup
 sub:∀y∈row,y∈ks
 ch:∀i a b,row[i]?=some a->row[i+1]?=some b->b∈G a
 nx:∀a,row[row.length -1]?=some a->x∈G a
 xk:x∈ks
 xu:tol tk x=false
end RW
namespace L2
open PySem PySem.Spec PyProof.Rows
end L2
namespace RW
open PySem PySem.Spec PyProof.Rows L2
structure EL(H H':Hp)(kvs:List (Key×V))(ks:List Str)(G:Str->List Str):Prop where
 keys:kvs.map (·.1)=ks.map Sum.inr
 nd:ks.Nodup
 at_:∀x∈ks,∃l,zby kvs (Sum.inr x)=some (.ref l)/\H' l=some (.lst ((G x).map V.str))/\H l=none
 apart:∀x∈ks,∀y∈ks,∀l,zby kvs (Sum.inr x)=some (.ref l)->zby kvs (Sum.inr y)=some (.ref l)->x=y
def kOf(t:List Str):List Key:=t.map Sum.inr
structure RT(H:Hp)(kvs:List (List Key×V))(rs:List (List Str)):Prop where
 len:kvs.length=rs.length
 at_:∀(j:Nat) (kv:List Key×V) (r:List Str),kvs[j]?=some kv->rs[j]?=some r->∃b,kv.1=kOf (zjH r)/\kv.2= .ref b/\H b=some (.tup (r.map V.str))
 row:∀r∈rs,zn9 r=true
 nd:(rs.map zjH).Nodup
structure RG(xs:List Str)(m:Nat)(rs:List (List Str)):Prop where
 row:∀r∈rs,zn9 r=true
 nd:(rs.map zjH).Nodup
 old:∀r∈rs,∃i j,i<m/\j<m/\zjH r=pr (at_ xs i) (at_ xs j)
structure MAt(K:PySem.W.Frag)(C:Addr)(x qual:Str)(st:Stmt)(ps:List Str)(f:Addr)(fd:FuncData):Prop where
 fn:Fun K x qual st f fd
 b:Binds K fd ps []
 m:Meth K C x f
end RW
namespace L2
open PySem PySem.Spec PyProof.Rows
section
variable{X:Cx}{o e value:Expr}{f m:Str}{pos pos' tpos apos:Pos}{ta tv:TE}{K:PySem.W.Frag}{es:List Expr}{t:TA}{C fa:Addr}{fd:FuncData}{CX:CXT}{k:Nat}{ps:List Str}{sp:Sp}{dvs:List V}{ds:List Value}{E:XK}
end
end L2
namespace RW
open PySem PySem.Spec PyProof.Rows L2
inductive TrC(K:PySem.W.Frag)(H:Hp):V->PyData->Prop
 |non:TrC K H .non .none
 |bl (b:Bool):TrC K H (.bl b) (.bool b)
 |int (i:Int):TrC K H (.int i) (.int i)
 |str (x:Str) (h:PyData.strOk x=true):TrC K H (.str x) (.str x)
 |tup {p:Addr} {vs:List V} {ds:List PyData} (e:SqT K H p vs) (hl:vs.length=ds.length) (h:∀(i:Nat) (v:V) (d:PyData),vs[i]?=some v->ds[i]?=some d->TrC K H v d):TrC K H (.ref p) (.tuple ds)
section
variable{X:Cx}
end
end RW
namespace L2
open PySem PySem.Spec PyProof.Rows
section
variable{X:Cx}{kx vx tg iter:Expr}{ifs:List Expr}{scope osc:Scope}{pos:Pos}{N':List Str}{src:List (Option Nat)}{wi:TI}{g:TG}{tc:TT}{tk tv:TE}
end
end L2
namespace HT
open PySem PySem.Spec PyProof.Rows L2
section
variable{prog:Program}{w:World}{A:Around}{E:Value->Shared->Prop}{s:Shared}{it d:Addr}{i ep:Nat}{ps:List (Value×Value)}
end
end HT
namespace L2
open PySem PySem.Spec PyProof.Rows
end L2
namespace HT
open PySem PySem.Spec PyProof.Rows L2
theorem zfx:typeLookup (.type "list") "keys"=pure none:=by rw[typeLookup_type,builtinLookup_eq_fast];kernel_rfl
section
variable{prog:Program}{w:World}{A:Around}{E:Value->Shared->Prop}{s:Shared}
theorem zgv{a:Addr}{xs:Array Value}{n:Nat}{Q:Option Value->Shared->Prop}(hx:s.heap.get? a=some {cls:= .type "list",dict:=none,data:= .seq xs n,slots:= #[]})(hA:A.handled=none)
 (h:∀h' tk,(∀b o,s.heap.get? b=some o->h'.get? b=some o)->Q none {s with heap:=h',toks:=tk}):
 wpAny (model prog w) A (getAttr? (.ref a) "keys") Q E s:=by
 obtain⟨hp,g,d,tk,os⟩:=s
 have hT:∀tk',(⟨hp,g,d,tk',os⟩:Shared).TypeIs (.ref a) "list":=λ_=>⟨_,hx,rfl⟩
 have f1:=sub_AttributeError
 have f3:=F.slot_list_getattribute.lookup
 have f4:=F.slot_list_getattribute.bind (.ref a)
 have f5:=am_list_getattr_none
 unfold getAttr? getAttrBy? getAttrBy
 repeat (any_goals (first|assumption|exact hT _|((with_reducible show wpAny _ _ (call (Value.builtin "list.__getattribute__") _ _) _ _ _);refine call_meets F.slot_list_getattribute (hT _) am_entry_list_getattribute (F.args_list_getattribute_2 _ _) (meets_getattribute_miss_list a xs n #[] "keys" _ zfx (by decide +kernel)) ⟨hx,hA,λh' tk' e hx'=>?_⟩)|wp_step))
 obtain⟨t',u',he⟩:=hx'.there
 show wpAny _ _ (getattributeRaised _ _ _ _ _ _ _) _ _ _
 unfold getattributeRaised
 repeat (any_goals (first|assumption|wp_step))
 exact h _ _ hx'.of.keeps
end
section
variable{prog:Program}{w:World}{A:Around}{E:Value->Shared->Prop}{s:Shared}{K:Type}[DecidableEq K]{knd:KeyKind prog w K}
theorem zo2{d T:Addr}{x y:Value}{k:K}{kvs:List (K×Value)}{Q:Unit->Shared->Prop}(hp:IsTup s.heap T #[x,y])(hkey:knd.is k x=true)(hm:s.heap.DictOf knd d kvs)(hsz:kvs.length<=sizeLine)(i:Int)
 (hQ:∀h' tk,h'.DictOf knd d (stored kvs k y)->Heap.SameBut d s.heap h'->Q () {s with heap:=h',toks:=tk}):
 wpAny (model prog w) A (do
  let pair ←(Builtin.Dict.pairItems (.ref T)).tryCatch λe=>do
   if !(←isInstance e (.type "TypeError"))then throw e
   rule "dict.update.element-no-sequence"
   raiseError "TypeError" s!"cannot convert dictionary update sequence element #{i} to a sequence"
  match pair with
  |[k,v]=>holding [k,v] (dictSet d k v)
  |l=>
   rule "dict.update.element-length"
   raiseError "ValueError" s!"dictionary update sequence element #{i} has length {l.length}; 2 is required") Q E s:=by
 obtain⟨o,ho,hc,n,hd⟩:=hp
 have hT:s.TypeIs (.ref T) "tuple":=⟨_,ho,hc⟩
 refine wpAny_bind (wpAny_tryCatch ?_)
 unfold Builtin.Dict.pairItems
 refine wpAny_bind (wpAny_typeOf hT ?_)
 show wpAny _ _ (do let a ←seqItems? (.ref T);pure (Option.getD a #[]).toList) _ _ _
 refine wpAny_bind (wpAny_seqItems ho hd (wpAny_pure ?_))
 show wpAny _ _ (holding [x,y] (dictSet d x y)) _ _ _
 exact wpAny_holding (wpAny_dictSet_pairs hkey hm (λh' hd hs=>hQ h' _ hd hs) hsz)
theorem zn7{I:Addr}{fp wr:List Addr}{n:Nat}{P:Nat->Value->Prop}{St:Nat->Heap->Prop}{R:Result->Shared->Prop}(W:Walks prog w A.in1 I fp wr n P St)(d:Addr)(hdf:d∉fp)(hsz:n<=sizeLine)
 {T:Nat->Addr} {xv yv:Nat->Value} {ks:Nat->K} (hval:∀(i:Nat) (v:Value),P i v->v=Value.ref (T i)) (hk:∀i<n,knd.is (ks i) (xv i)=true) (nd:((List.range n).map ks).Nodup) (hT:∀i<n,T i∉wr/\T i≠d):
 ∀(m i:Nat) (s:Shared),i+m=n->St i s.heap->s.heap.DictOf knd d (dzAt ks yv i)->(∀j<n,IsTup s.heap (T j) #[xv j,yv j])->
  (∀h' tk,(∀b o,b∉wr->b≠d->s.heap.get? b=some o->h'.get? b=some o)->h'.DictOf knd d (dzAt ks yv n)->R (.ok (.ret .none)) {s with heap:=h',toks:=tk})->
  codeAny (model prog w) A (.builtin "dict.update.loop" ⟨[.ref d, .ref I,rawInt i, .none],[]⟩) R s:=by
 have hdw:d∉wr:=λh=>hdf (W.sub _ h)
 intro m
 induction m with
 |zero=>
  intro i s him hst hd htu hR
  have ei:i=n:=by omega
  subst ei
  refine codeAny_builtin zah ?_
  rw[Around.under_plainId zx _]
  show wpAny _ _ (pyNext (.ref I)>>=_) _ _ _
  refine wpAny_bind (W.done s _ _ hst λh' tk hk'=>?_)
  refine wpAny_pure (hR h' tk (λb o b1 _ e=>hk' b o b1 e) ?_)
  obtain⟨o',es,ep,hg,r⟩:=hd
  exact⟨o',es,ep,hk' _ _ hdw hg,r⟩
 |succ m ih=>
  intro i s him hst hd htu hR
  have hin:i<n:=by omega
  refine codeAny_builtin zah ?_
  rw[Around.under_plainId zx _]
  show wpAny _ _ (pyNext (.ref I)>>=_) _ _ _
  refine wpAny_bind (W.item i s _ _ hin hst λv h1 tk1 hP hst' hk'=>?_)
  have ev:=hval i v hP
  subst ev
  have hd1:h1.DictOf knd d (dzAt ks yv i):=by obtain⟨o',es,ep,hg,r⟩:=hd;exact⟨o',es,ep,hk' _ _ hdw hg,r⟩
  have htu1:∀j<n,IsTup h1 (T j) #[xv j,yv j]:=λj hj=>by obtain⟨o',hg,r⟩:=htu j hj;exact⟨o',hk' _ _ (hT j hj).1 hg,r⟩
  have hl:(dzAt ks yv i).length<=sizeLine:=by unfold dzAt;rw[List.length_map,List.length_range];omega
  refine wpAny_bind (wpAny_holding (zo2 (s:={s with heap:=h1,toks:=tk1}) (htu1 i hin) (hk i hin) hd1 hl _ λh2 tk2 hd2 hs2=>?_))
  rw[zeD hin nd] at hd2
  refine wpAny_pure ⟨plainId_quiet zx _,?_⟩
  have e:(rawInt ((i:Int)+1))=rawInt ((i+1:Nat):Int):=by rw[show((i:Int)+1)=((i+1:Nat):Int) by omega]
  show codeAny _ A (.builtin "dict.update.loop" ⟨[.ref d, .ref I,rawInt ((i:Int)+1), .none],[]⟩) R {s with heap:=h2,toks:=tk2}
  rw[e]
  refine ih (i+1) {s with heap:=h2,toks:=tk2} (by omega) (W.frame _ _ _ hst' λb hb o e=>hs2.extBut _ _ (λz=>hdf (by rw[←z];exact hb)) e) hd2 (λj hj=>?_) λh3 tk3 k3 d3=>hR h3 tk3 (λb o b1 b2 e=>k3 b o b1 b2 (hs2.extBut _ _ b2 (hk' b o b1 e))) d3
  obtain⟨o',hg,r⟩:=htu1 j hj
  exact⟨o',hs2.extBut _ _ (hT j hj).2 hg,r⟩
theorem call_dict_list{l:Addr}{items:Array Value}{n:Nat}{T:Nat->Addr}{xv yv:Nat->Value}{ks:Nat->K}{Q:Value->Shared->Prop}(hA:A.handled=none)(hl:s.heap.get? l=some {cls:= .type "list",dict:=none,data:= .seq items n,slots:= #[]})(hsz:items.size<=sizeLine)
 (hval:∀(i:Nat) (v:Value),items[i]?=some v->v=Value.ref (T i)) (hk:∀i<items.size,knd.is (ks i) (xv i)=true) (nd:((List.range items.size).map ks).Nodup) (htu:∀j<items.size,IsTup s.heap (T j) #[xv j,yv j])
 (h:∀h' tk,h'.DictOf knd s.heap.objs.size (dzAt ks yv items.size)->(∀c o,s.heap.get? c=some o->h'.get? c=some o)->Q (.ref s.heap.objs.size) {s with heap:=h',toks:=tk}):
 wpAny (model prog w) A (call (.type "dict") [.ref l]) Q E s:=by
 refine callType_codes (Q₁:=λobj s₁=>obj= .ref s.heap.objs.size/\s₁={s with heap:=s.heap.push {cls:= .type "dict",data:= .dict #[]}}) F.kt_called_dict (F.kt_typeCall_dict_1 _) F.entry_dict_init (kt_code_dict_new _ ⟨rfl,rfl⟩) ?_
 rintro obj s₁ ⟨rfl,rfl⟩
 have hnew:(s.heap.push {cls:= .type "dict",data:= .dict #[]}).DictOf knd s.heap.objs.size []:=Heap.DictOf.new s.heap
 have pu:∀c o,s.heap.get? c=some o->(s.heap.push {cls:= .type "dict",data:= .dict #[]}).get? c=some o:=λc o e=>Heap.get?_push_of_some _ e
 have lt:∀{c o},s.heap.get? c=some o->c<s.heap.objs.size:=λe=>Heap.lt_size e
 have hl':=pu _ _ hl
 have hTl:({s with heap:=s.heap.push {cls:= .type "dict",data:= .dict #[]}}:Shared).TypeIs (.ref l) "list":=⟨_,hl',rfl⟩
 refine⟨hnew.typeIs,F.args_dict_init_2 _ _,?_⟩
 unfold Builtin.«dict.__init__»
 refine wpAny_bind ?_
 unfold Builtin.Dict.selfAndRest
 refine wpAny_bind (wpAny_notOrdered_dict hnew.typeIs ?_)
 show wpAny _ _ (pure (s.heap.objs.size,[Value.ref l])) _ _ _
 refine wpAny_pure ?_
 show wpAny _ _ (Builtin.Dict.updateFrom "dict.__init__" s.heap.objs.size (.ref l) [] .none) _ _ _
 unfold Builtin.Dict.updateFrom
 refine wpAny_bind (wpAny_typeOf hTl ?_)
 rw[if_pos (by decide)]
 refine wpAny_bind (zgv (A:=A.in1.in1) hl' hA λh' tk hk'=>?_)
 simp only[Option.isNone_none,if_true]
 refine wpAny_bind (wpAny_rule ?_)
 have kk:∀c o,s.heap.get? c=some o->h'.get? c=some o:=λc o e=>hk' _ _ (pu _ _ e)
 have hlL:h'.IsList l items:=⟨_,kk _ _ hl,rfl,n,rfl⟩
 refine wpAny_bind (wpAny_pyIter_list hlL ?_)
 refine wpAny_pure ⟨plainId_quiet zx _,?_⟩
 have hd':h'.get? s.heap.objs.size=some {cls:= .type "dict",data:= .dict #[]}:=hk' _ _ (Heap.get?_push_size _ rfl)
 have dlt:s.heap.objs.size<h'.objs.size:=Heap.lt_size hd'
 have llt:l<h'.objs.size:=Heap.lt_size (kk _ _ hl)
 show codeAny (model prog w) A.in1 (.builtin "dict.update.loop" ⟨[.ref s.heap.objs.size, .ref h'.objs.size,rawInt ((0:Nat):Int), .none],[]⟩) (wants (λr s₂=>r=Value.none/\Q (.ref s.heap.objs.size) s₂) E) {s with heap:=h'.push {cls:= .type "list_iterator",data:= .fields #[.ref l, .int 0 0]},toks:=tk}
 refine zn7 (Walks.list (A:=A.in1.in1) (show A.in1.in1.handled=none from hA) h'.objs.size l (Nat.ne_of_lt llt) items) s.heap.objs.size ?_ hsz (T:=T) (xv:=xv) hval hk nd (λi hi=>?_) items.size 0 {s with heap:=h'.push {cls:= .type "list_iterator",data:= .fields #[.ref l, .int 0 0]},toks:=tk} (Nat.zero_add _) ⟨⟨_,Heap.get?_push_size _ rfl,rfl,rfl⟩,hlL.push _⟩ ?_ (λj hj=>?_) λh3 tk3 k3 d3=>⟨rfl,h h3 tk3 d3 λc o e=>?_⟩
 ·simp only[List.mem_cons,List.not_mem_nil,or_false,not_or]
  exact⟨Nat.ne_of_lt dlt,Nat.ne_of_gt (lt hl)⟩
 ·obtain ⟨o',hg,_⟩:=htu i hi
  refine⟨λz=>?_,Nat.ne_of_lt (lt hg)⟩
  have:T i=h'.objs.size:=by simpa using z
  exact absurd (Heap.lt_size (kk _ _ hg)) (by rw[this];exact Nat.lt_irrefl _)
 ·obtain ⟨o',es,ep,hg,r⟩:=hnew
  exact⟨o',es,ep,Heap.get?_push_of_some _ (hk' _ _ hg),r⟩
 ·obtain ⟨o',hg,r⟩:=htu j hj
  exact⟨o',Heap.get?_push_of_some _ (kk _ _ hg),r⟩
 ·refine k3 c o (λz=>?_) (Nat.ne_of_lt (lt e)) (Heap.get?_push_of_some _ (kk _ _ e))
  have:c=h'.objs.size:=by simpa using z
  exact absurd (Heap.lt_size (kk _ _ e)) (by rw[this];exact Nat.lt_irrefl _)
end
end HT
namespace L2
open PySem PySem.Spec PyProof.Rows
section
variable{X:Cx}
inductive TwosAt(H:Hp):List Addr->List Str->List V->Prop
 |nil:TwosAt H [] [] []
 |cons {t:Addr} {x:Str} {y:V} {ts:List Addr} {hs:List Str} {ys:List V}:H t=some (.tup [.str x,y])->TwosAt H ts hs ys->TwosAt H (t::ts) (x::hs) (y::ys)
theorem TwosAt.len{H:Hp}{ts:List Addr}{hs:List Str}{ys:List V}(p:TwosAt H ts hs ys):ts.length=hs.length/\ys.length=hs.length:=by
 induction p with
 |nil=>exact ⟨rfl,rfl⟩
 |cons _ _ ih=>exact ⟨congrArg (·+1) ih.1,congrArg (·+1) ih.2⟩
theorem TwosAt.mono{H H':Hp}{ts:List Addr}{hs:List Str}{ys:List V}(p:TwosAt H ts hs ys)(h:∀a xs,H a=some (.tup xs)->H' a=some (.tup xs)):TwosAt H' ts hs ys:=by
 induction p with
 |nil=>exact .nil
 |cons e _ ih=>exact .cons (h _ _ e) ih
theorem TwosAt.snoc{H:Hp}{ts:List Addr}{hs:List Str}{ys:List V}{t:Addr}{x:Str}{y:V}(p:TwosAt H ts hs ys)(e:H t=some (.tup [.str x,y])):TwosAt H (ts ++ [t]) (hs ++ [x]) (ys ++ [y]):=by
 induction p with
 |nil=>exact .cons e .nil
 |cons e' _ ih=>exact .cons e' ih
theorem TwosAt.raw{P:Program}{w:World}{H:Hp}{h:Heap}(ok:HOk P w H h){ts:List Addr}{hs:List Str}{ys:List V}(p:TwosAt H ts hs ys):
 ∃xv yv:List Value,xv.length=hs.length/\Vals ys yv/\(∀j x,hs[j]?=some x->∃t,xv.getD j .none= .str x t)/\∀j T,ts[j]?=some T->IsTup h T #[xv.getD j .none,yv.getD j .none]:=by
 induction p with
 |nil=>exact ⟨[],[],rfl, .nil,λ_ _ e=>(by simp at e),λ_ _ e=>(by simp at e)⟩
 | @cons t x y ts hs ys e p ih=>
   obtain⟨xv,yv,e1,e2,e3,e4⟩:=ih
   obtain⟨_,its,rv,it,_⟩:=ok t _ e
   obtain⟨u,v,rfl,ru,rv2⟩:=zdM rv
   obtain⟨tt,rfl⟩:=ru
   refine⟨.str x tt::xv,v::yv,congrArg (·+1) e1, .cons rv2 e2,λj z ez=>?_,λj T eT=>?_⟩
   ·cases j with
    |zero=>simp at ez;subst ez;exact⟨tt,rfl⟩
    |succ j=>rw[List.getElem?_cons_succ] at ez;simpa using e3 j z ez
   ·cases j with
    |zero=>simp at eT;subst eT;exact it
    |succ j=>rw[List.getElem?_cons_succ] at eT;simpa using e4 j T eT
theorem zlC{ts:List Addr}:∀{its:List Value},Vals (ts.map V.ref) its->its=ts.map Value.ref:=by
 induction ts with
 |nil=>intro its r;cases r;rfl
 |cons t ts ih=>intro its r;cases r with
  |cons a b=>rw[ih b];cases a;rfl
theorem zfy(hc:X.calm=true):CallR X (.type "dict") (λxs H Q=>∃(l:Addr) (ts:List Addr) (hs:List Str) (ys:List V),xs=[.ref l]/\H l=some (.lst (ts.map V.ref))/\TwosAt H ts hs ys/\hs.length<=1000/\hs.Nodup/\∀p,H p=none->Q (.ref p) (upd H p (.dK (zw hs ys)))):=by
 intro pins s σ H xs us Q I r h
 obtain⟨l,ts,hs,ys,rfl,hH,pa,h9,nd,q⟩:=h
 obtain⟨u,rfl,ru⟩:=zck r
 cases ru
 obtain⟨z,its,n,rv,ho⟩:=I.hok l _ hH
 have ei:=zlC rv
 subst ei
 obtain⟨xv,yv,e1,e2,e3,e4⟩:=pa.raw I.hok
 obtain⟨lt,ly⟩:=pa.len
 have el:(ts.map Value.ref).toArray.size=hs.length:=by simp[lt]
 refine HT.call_dict_list (knd:=zZ X.prog X.w) (T:=λi=>ts.getD i 0) (xv:=λi=>xv.getD i .none) (yv:=λi=>yv.getD i .none) (ks:=λk=>(Sum.inr (hs.getD k ""):Key)) (I.ok.hd hc) ho (by rw[el];exact Nat.le_trans h9 (by decide)) (λi v ev=>?_) (λi hi=>?_) ?_ (λj hj=>?_) λh' tk hd kk=>?_
 ·rw[List.getElem?_toArray,List.getElem?_map] at ev
  cases ht:ts[i]? with
  |none=>rw[ht] at ev;cases ev
  |some t=>rw[ht] at ev;cases ev;simp[List.getD,ht]
 ·rw[el] at hi
  obtain⟨t,et⟩:=e3 i hs[i] (List.getElem?_eq_getElem hi)
  show(zZ X.prog X.w).is (Sum.inr (hs.getD i "")) (xv.getD i .none)=true
  rw[et]
  have:hs.getD i ""=hs[i]:=by simp[List.getD,hi]
  rw[this]
  exact zdb _ _ _ _
 ·rw[el,zkS]
  exact List.pairwise_map.mpr (nd.imp λh e=>h (Sum.inr.inj e))
 ·rw[el,←lt] at hj
  refine e4 j _ ?_
  simp[List.getD,hj]
 ·rw[el] at hd
  have hf:H s.heap.objs.size=none:=I.hok.fresh (Nat.le_refl _)
  refine⟨.ref s.heap.objs.size,_,I.laid (t':=tk) kk (Nat.le_refl _) (zgc ?_ ?_ (zm3 ly e2) hd),rfl,q _ hf⟩
  ·unfold zw;rw[List.length_map,List.length_zip];exact Nat.le_trans (Nat.min_le_left _ _) (Nat.le_trans h9 (by decide))
  ·exact beq_eq_false_iff_ne.mpr (Ne.symm (Nat.ne_of_lt I.big))
end
end L2
namespace L2
open PySem PySem.Spec PySem.W PyProof.Rows
theorem zjW{α:Type}{lt:α->α->Bool}(d0:α)(tri:∀{a b},a≠b->lt a b=false->lt b a=true)(tr:∀{a b c},lt a b=true->lt b c=true->lt a c=true)(asy:∀{a b},lt a b=true->lt b a=false){ps:List α}(hn:ps.Nodup):RW.Strict ps.length (λi j=>lt (ps.getD i d0) (ps.getD j d0)) where
 tot:=λi j hi hj hij e=>tri (λz=>hij ((List.getElem_inj hn (h₀:=hi) (h₁:=hj)).mp (by simpa[hi,hj] using z))) e
 tr:=λi j k _ _ _ h1 h2=>tr h1 h2
 asy:=λi j _ _ h=>asy h
theorem zlY{α:Type}{d0:α}{ps:List α}:(List.range ps.length).map (λi=>ps.getD i d0)=ps:=by
 apply List.ext_getElem?
 intro i
 rw[List.getElem?_map]
 rcases Nat.lt_or_ge i ps.length with h|h
 ·rw[List.getElem?_range h]
  simp[h]
 ·rw[List.getElem?_eq_none (by simpa using h),List.getElem?_eq_none h];rfl
def AtG{α:Type}(Oa:Hp->Addr->α->Prop)(H:Hp)(vs:List V)(ps:List α):Prop:=vs.length=ps.length/\∀(i:Nat) (v:V) (p:α),vs[i]?=some v->ps[i]?=some p->∃b,v= .ref b/\Oa H b p
def zhe{α:Type}(K:PySem.W.Frag)(lt:α->α->Bool)(Oa:Hp->Addr->α->Prop):List V->Hp->VK->Prop:=λxs H Q=>∃(p:Addr) (vs:List V) (ps:List α),xs=[.ref p]/\(SqL K H p vs\/SqT K H p vs)/\AtG Oa H vs ps/\ps.length<64/\
 ∀(ps':List α) (vs':List V) l,ps'.Perm ps->(ps.Nodup->ps'.Pairwise (λa b=>lt a b=true))->AtG Oa H vs' ps'->H l=none->Q (.ref l) (upd H l (.lst vs'))
section
variable{X:Cx}{K:PySem.W.Frag}
theorem zem{α:Type}{lt:α->α->Bool}{Oa:Hp->Addr->α->Prop}{κ:SortKind}(d0:α)(tri:∀{a b},a≠b->lt a b=false->lt b a=true)(tr:∀{a b c},lt a b=true->lt b c=true->lt a c=true)(asy:∀{a b},lt a b=true->lt b a=false)
 (raw:∀(s s1:Shared) (pins:List (Addr×Obj)) (σ:St) (H:Hp),Inv X pins σ H s->(∀b o,s.heap.get? b=some o->s1.heap.get? b=some o)->
   (∀(its:List Value) (ps:List α),its.length=ps.length->0<ps.length->(∀(i:Nat) (u:Value) (q:α),its[i]?=some u->ps[i]?=some q->∃b,u= .ref b/\Oa H b q)->∀C:SortKind->Shared->Prop,C κ s1->wpAny (model X.prog X.w) X.A.in1.in1 (keyKind' its.toArray) C (λ_ _=>False) s1)/\
   ∀(b b':Addr) (p q:α) (C:Bool->Shared->Prop) (E:Value->Shared->Prop),Oa H b p->Oa H b' q->C (lt p q) s1->wpAny (model X.prog X.w) X.A.in1.in1 (keyLt' κ (.ref b) (.ref b')) C E s1):CallR X (.builtin "sorted") (zhe X.K lt Oa):=by
 intro pins s σ H xs us Q I r h
 obtain⟨p,vs,ps,rfl,hq,ht,h64,q⟩:=h
 obtain⟨u,rfl,ru⟩:=zck r
 cases ru
 have key:∀{its:List Value} {T:String} {o:Obj} {n:Nat},T="list"\/T="tuple"->s.heap.get? p=some o->o.cls= .type T->o.data= .seq its.toArray n->Vals vs its->wpAny (model X.prog X.w) X.A (call (.builtin "sorted") [.ref p]) (EP X pins σ Q) X.xe s:=by
  intro its T o n hT ho hc hd rv
  have hl:=rv.length
  have hlp:its.length=ps.length:=by rw[←hl];exact ht.1
  have keyA:∀(i:Nat) (u:Value) (q:α),its[i]?=some u->ps[i]?=some q->∃b,u= .ref b/\Oa H b q:=λi u q e1 e2=>by
   have hi:i<vs.length:=by
    rcases Nat.lt_or_ge i vs.length with z|z
    ·exact z
    ·rw[List.getElem?_eq_none (by omega)] at e1;cases e1
   obtain⟨b,e3,hb⟩:=ht.2 i vs[i] q (by simp[hi]) e2
   obtain⟨u',hu',ru'⟩:=rv.get (i:=i) (x:=vs[i]) (by simp[hi])
   rw[e1] at hu'
   cases hu'
   rw[e3] at ru'
   cases ru'
   exact⟨b,rfl,hb⟩
  refine ziE (A:=X.A) (G:=λp=>RW.PermN ps.length p/\(RW.Strict ps.length (λi j=>lt (ps.getD i d0) (ps.getD j d0))->RW.Sor (λi j=>lt (ps.getD i d0) (ps.getD j d0)) p ps.length)) (κ:=κ) hT ho hc hd (by omega) (λh2 s1 k1=>?_) (λD out h' c ho' kp hD gD=>?_)
  ·obtain ⟨rk,rl⟩:=raw s s1 pins σ H I k1
   refine⟨rk its ps hlp (by omega) keyA,?_⟩
   rw[hlp]
   refine RW.OkT.wp (N:=ps.length) (lt:=λi j=>lt (ps.getD i d0) (ps.getD j d0)) (I:=λs'=>s'=s1) (λi j C s' hi hj e hC=>?_) (λp s' hp e=>⟨e,hp⟩) rfl (RW.sort_any (by omega))
   subst e
   have gi:∀i,i<ps.length->∃b,its.getD i Value.none= .ref b/\Oa H b (ps.getD i d0):=λi hi=>by
    have hi':i<its.length:=by omega
    refine keyA i _ _ ?_ ?_
    ·simp[hi']
    ·simp[hi]
   obtain⟨b,e1,o1⟩:=gi i hi
   obtain⟨b',e2,o2⟩:=gi j hj
   show wpAny _ _ (keyLt' κ (its.getD i Value.none) (its.getD j Value.none)) _ _ _
   rw[e1,e2]
   exact rl b b' _ _ _ _ o1 o2 (hC s' rfl)
  ·have nD:H D=none:=I.hok.fresh hD
   obtain⟨ps',hperm,hpw,hlen,hout⟩:∃ps':List α,ps'.Perm ps/\(ps.Nodup->ps'.Pairwise (λa b=>lt a b=true))/\out.length=ps'.length/\∀(i:Nat) (u:Value) (q:α),out[i]?=some u->ps'[i]?=some q->∃b,u= .ref b/\Oa H b q:=by
    rcases ho' with⟨hlt,rfl⟩|⟨p,hp,⟨hP,hS⟩,rfl⟩
    ·refine ⟨ps, .refl _,λ_=>?_,hlp,keyA⟩
     match ps,(show ps.length<2 by omega)with
     |[],_=>exact .nil
     |[a],_=>exact List.pairwise_singleton _ _
    ·refine ⟨p.toList.map (λi=>ps.getD i d0),?_,λnd=>?_,by simp,λi u q e1 e2=>?_⟩
     ·have h1:=hP.map (λi=>ps.getD i d0)
      rwa[zlY] at h1
     ·have hs:=hS (zjW d0 tri tr asy nd)
      have hz:=hP.size
      rw[List.pairwise_iff_getElem]
      intro i j hi hj hij
      have hi':i<p.size:=by simpa using hi
      have hj':j<p.size:=by simpa using hj
      have h:=hs i j hij (by omega)
      rw[RW.gd_get hi',RW.gd_get hj'] at h
      simpa using h
     ·rw[List.getElem?_map] at e1 e2
      cases e3:p.toList[i]? with
      |none=>rw[e3] at e1;cases e1
      |some j=>
       rw[e3] at e1 e2
       have hj:j<ps.length:=by
        have:j∈p.toList:=List.mem_of_getElem? e3
        have:=(hP.mem_iff (a:=j)).mp this
        simpa using this
       have hj':j<its.length:=by omega
       refine keyA j u q ?_ ?_
       ·rw[←e1];simp[hj']
       ·rw[←e2];simp[hj]
   let vs':List V:=out.map λu=>match u with| .ref b=>V.ref b|_=>V.non
   have hv:∀(i:Nat) (q:α),ps'[i]?=some q->∃b,out[i]?=some (.ref b)/\vs'[i]?=some (.ref b)/\Oa H b q:=λi q e=>by
    have hi:i<out.length:=by
     rcases Nat.lt_or_ge i ps'.length with z|z
     ·omega
     ·rw[List.getElem?_eq_none z] at e;cases e
    obtain⟨b,e1,hb⟩:=hout i out[i] q (by simp[hi]) e
    exact⟨b,by rw[List.getElem?_eq_getElem hi,e1],by show(out.map _)[i]?=_;rw[List.getElem?_map,List.getElem?_eq_getElem hi,e1];rfl,hb⟩
   have hlv:vs'.length=out.length:=by show(out.map _).length=_;rw[List.length_map]
   have hpl:ps'.length<64:=by rw[hperm.length_eq];omega
   have T':AtG Oa H vs' ps':=⟨by omega,λi v q e1 e2=>by
    obtain⟨b,_,e3,hb⟩:=hv i q e2
    rw[e1] at e3;cases e3
    exact⟨b,rfl,hb⟩⟩
   refine⟨.ref D,_,I.laid (a:=D) (o:= .lst vs') (t':=s.toks) kp hD ⟨?_,out,c,?_,gD⟩,rfl,q ps' vs' D hperm hpw T' nD⟩
   ·rw[hlv,hlen];exact Nat.le_of_lt (zk (by omega))
   ·refine zi6 hlv λi v u e1 e2=>?_
    have hi:i<ps'.length:=by
     rcases Nat.lt_or_ge i ps'.length with z|z
     ·exact z
     ·rw[List.getElem?_eq_none (by omega)] at e2;cases e2
    obtain⟨b,e3,e4,_⟩:=hv i ps'[i] (by simp[hi])
    rw[e3] at e2;cases e2
    rw[e4] at e1;cases e1
    rfl
 rcases hq with hq|hq
 ·obtain ⟨its,rv,pl,hz⟩:=I.list hq
  obtain⟨o,ho,hc,n,hd⟩:=pl.isList
  exact key (.inl rfl) ho hc hd rv
 ·obtain ⟨its,rv,pl,hz⟩:=I.tuple hq
  obtain⟨o,ho,hc,n,hd⟩:=pl
  exact key (.inr rfl) ho hc hd rv
end
end L2
namespace L2
open PySem PySem.W PySem.Spec PyProof.Rows RW
abbrev Ky:=Int×Int×List Str
theorem zik{a b:Ky}(h:a≠b)(e:ltK a b=false):ltK b a=true:=by
 obtain⟨i,n,ps⟩:=a
 obtain⟨j,m,qs⟩:=b
 unfold ltK at *
 simp only at *
 by_cases h1:i=j
 ·by_cases h2:n=m
  ·subst h1 h2
   rw[if_pos rfl,if_pos rfl] at e⊢
   exact ziI (λz=>h (by rw[z])) e
  ·rw[if_pos h1,if_neg h2] at e
   rw[if_pos h1.symm,if_neg (Ne.symm h2)]
   simp at e⊢;omega
 ·rw[if_neg h1] at e
  rw[if_neg (Ne.symm h1)]
  simp at e⊢;omega
def zgw(k:Ky):PyData:= .tuple [.int k.1, .int k.2.1, .tuple (zz k.2.2)]
def KeyO(H:Hp)(b:Addr)(k:Ky):Prop:=∃p,H b=some (.tup [.int k.1, .int k.2.1, .ref p])/\H p=some (.tup (k.2.2.map V.str))/\∀y∈k.2.2,PyData.strOk y=true
def KwO(H:Hp)(b:Addr)(k:Ky):Prop:=∃t p,H b=some (.tup [.ref t, .ref p])/\KeyO H t k/\H p=some (.tup (k.2.2.map V.str))
theorem KeyO.tr{H:Hp}{b:Addr}{k:Ky}(x:KeyO H b k):Tr H (.ref b) (zgw k):=by
 obtain⟨p,e,ep,ok⟩:=x
 refine .tup e rfl λi v d e1 e2=>?_
 match i,e1,e2 with
 |0,e1,e2=>cases e1;cases e2;exact .int _
 |1,e1,e2=>cases e1;cases e2;exact .int _
 |2,e1,e2=>cases e1;cases e2;exact zbp ep ok
structure RawK(h:Heap)(b:Addr)(k:Ky):Prop where
 at_:∃p ti tn jts,IsTup h b #[.int k.1 ti, .int k.2.1 tn, .ref p]/\Vals (k.2.2.map V.str) jts/\IsTup h p jts.toArray/\(∃as,Reads h (.ref p) (.tuple (zz k.2.2)) as)/\(PyData.tuple (zz k.2.2)).canLay0=true
 rd:∃as,Reads h (.ref b) (zgw k) as
 can:(zgw k).canLay0=true
theorem zch{h h':Heap}{a:Addr}{xs:Array Value}(x:IsTup h a xs)(k:∀b o,h.get? b=some o->h'.get? b=some o):IsTup h' a xs:=let⟨o,g,r⟩:=x;⟨o,k _ _ g,r⟩
theorem KeyO.raw{X:Cx}{pins:List (Addr×Obj)}{σ:L2.St}{H:Hp}{s:Shared}{h':Heap}(I:Inv X pins σ H s){b:Addr}{k:Ky}(x:KeyO H b k)(kp:∀b o,s.heap.get? b=some o->h'.get? b=some o):RawK h' b k:=by
 have t:=x.tr
 obtain⟨p,e,ep,ok⟩:=x
 obtain⟨its,r1,t1,_⟩:=I.tuple (SqT.of e)
 obtain⟨jts,s1,u1,_⟩:=I.tuple (SqT.of ep)
 obtain⟨_,_,_,rfl,x1,x2,x3⟩:=zqy r1
 obtain⟨ti,rfl⟩:=x1
 obtain⟨tn,rfl⟩:=x2
 cases x3
 obtain⟨as,rd1⟩:=(zbp ep ok).reads I (.ref p) rfl
 obtain⟨bs,rd2⟩:=t.reads I (.ref b) rfl
 exact⟨⟨p,ti,tn,jts,zch t1 kp,s1,zch u1 kp,⟨as,Reads.keeps kp rd1⟩,(zbp ep ok).can⟩,⟨bs,Reads.keeps kp rd2⟩,t.can⟩
section
variable{prog:Program}{w:World}{A:Around}{E:Value->Shared->Prop}{s:Shared}
theorem zn8{a b:Addr}{k1 k2:Ky}{Q:Value->Shared->Prop}(hu:A.units+63<cLine)(x:RawK s.heap a k1)(y:RawK s.heap b k2)(q:Q (.bool (ltK k1 k2)) s):wpAny (model prog w) A (richCompare .Lt (.ref a) (.ref b)) Q E s:=by
 obtain⟨i1,n1,ps⟩:=k1
 obtain⟨i2,n2,qs⟩:=k2
 obtain⟨p,ti1,tn1,jts,t1,s1,u1,⟨as,rd1⟩,c1⟩:=x.at_
 obtain⟨p2,ti2,tn2,jts2,t2,s2,u2,⟨bs,rd2⟩,c2⟩:=y.at_
 obtain⟨⟨c1',d1,e1,f1⟩,ho,hc,m1,hd⟩:=id t1
 obtain⟨⟨c2',d2,e2,f2⟩,ho2,hc2,m2,hd2⟩:=id t2
 simp only at hc hd hc2 hd2
 subst hc hd hc2 hd2
 have mk:∀(k:Nat) (res:Bool),k<=3->ltK (i1,n1,ps) (i2,n2,qs)=res->
  (∀prog w i x y,i<k->([.int i1 ti1, .int n1 tn1, .ref p]:List Value)[i]?=some x->([.int i2 ti2, .int n2 tn2, .ref p2]:List Value)[i]?=some y->∀(E:Value->Shared->Prop) (Q:Bool->Shared->Prop),Q true s->wpAny (model prog w) A.in1 (eqBool x y) Q E s)->
  ((k=3/\res=false)\/∃x y,([.int i1 ti1, .int n1 tn1, .ref p]:List Value)[k]?=some x/\([.int i2 ti2, .int n2 tn2, .ref p2]:List Value)[k]?=some y/\(∀prog w (E:Value->Shared->Prop) (Q:Bool->Shared->Prop),Q false s->wpAny (model prog w) A.in1 (eqBool x y) Q E s)/\∀prog w (E:Value->Shared->Prop) (Q:Value->Shared->Prop),Q (.bool res) s->wpAny (model prog w) A.in1 (richCompare .Lt x y) Q E s)->
  wpAny (model prog w) A (richCompare .Lt (.ref a) (.ref b)) Q E s:=by
  intro k res hk3 er he hk
  refine richCompare_meets_room (op:= .Lt) ⟨_,ho,rfl⟩ ⟨_,ho2,rfl⟩ PySem.F.slot_tuple_lt PySem.F.entry_tuple_lt (PySem.F.args_tuple_lt_2 _ _) (zd9 a b m1 m2 d1 d2 f1 f2 [.int i1 ti1, .int n1 tn1, .ref p] [.int i2 ti2, .int n2 tn2, .ref p2] k res) ⟨ho,ho2,he,hk3,hk3,?_,⟨(λx=>nomatch x),by rw[er] at q;exact q⟩⟩ (by omega)
  rcases hk with⟨h1,h2⟩|h
  ·exact .inl ⟨h1,by rw[h2];rfl⟩
  ·exact .inr h
 have intE:∀{i j:Int} {t t':Tok} {b:Bool} (e:(i==j)=b) (prog:Program) (w:World) (E:Value->Shared->Prop) (Q:Bool->Shared->Prop),Q b s->wpAny (model prog w) A.in1 (eqBool (.int i t) (.int j t')) Q E s:=λe prog w E Q hq=>wpAny_eqBool_int (by rw[e];exact hq)
 have tupE:∀{b:Bool} (e:decide (ps=qs)=b) (prog:Program) (w:World) (E:Value->Shared->Prop) (Q:Bool->Shared->Prop),Q b s->wpAny (model prog w) A.in1 (eqBool (.ref p) (.ref p2)) Q E s:=λ{b} e prog w E Q hq=>SeqAt.eqAt_reads _ _ A.in1 s _ _ _ _ rd1 rd2 c1 c2 (by
  have:=Nat.le_trans (Nat.min_le_left (PyData.tuple (zz ps)).depth (PyData.tuple (zz qs)).depth) zaw
  show A.units+1+_<cLine
  simp only at *
  omega) prog w E Q (by rw[zbh,e];exact hq)
 by_cases hi:i1=i2
 ·by_cases hn:n1=n2
  ·by_cases hq:ps=qs
   ·refine mk 3 false (Nat.le_refl _) (by unfold ltK;rw[if_pos hi,if_pos hn];subst hq;exact zfj _) (λprog w i x y h3 hx hy E Q hQ=>?_) (.inl ⟨rfl,rfl⟩)
    match i,h3,hx,hy with
    |0,_,hx,hy=>cases hx;cases hy;exact intE (by simp[hi]) prog w E Q hQ
    |1,_,hx,hy=>cases hx;cases hy;exact intE (by simp[hn]) prog w E Q hQ
    |2,_,hx,hy=>cases hx;cases hy;exact tupE (decide_eq_true hq) prog w E Q hQ
   ·refine mk 2 (ltL ps qs) (by omega) (by unfold ltK;rw[if_pos hi,if_pos hn]) (λprog w i x y h3 hx hy E Q hQ=>?_) (.inr ⟨_,_,rfl,rfl,tupE (decide_eq_false hq),λprog w E Q hQ=>ziW s1 s2 u1 u2 (by show A.units+1<cLine;omega) hQ⟩)
    match i,h3,hx,hy with
    |0,_,hx,hy=>cases hx;cases hy;exact intE (by simp[hi]) prog w E Q hQ
    |1,_,hx,hy=>cases hx;cases hy;exact intE (by simp[hn]) prog w E Q hQ
  ·refine mk 1 (decide (n1<n2)) (by omega) (by unfold ltK;rw[if_pos hi,if_neg hn]) (λprog w i x y h3 hx hy E Q hQ=>?_) (.inr ⟨_,_,rfl,rfl,intE (by simp[hn]),λprog w E Q hQ=>(PyProof.Rows.lt_int hQ:wpAny (model prog w) A.in1 (compareOp .Lt (.int n1 tn1) (.int n2 tn2)) Q E s)⟩)
   match i,h3,hx,hy with
   |0,_,hx,hy=>cases hx;cases hy;exact intE (by simp[hi]) prog w E Q hQ
 ·exact mk 0 (decide (i1<i2)) (by omega) (by unfold ltK;rw[if_neg hi]) (λprog w i x y h3 hx hy E Q hQ=>absurd h3 (Nat.not_lt_zero _)) (.inr ⟨_,_,rfl,rfl,intE (by simp[hi]),λprog w E Q hQ=>(PyProof.Rows.lt_int hQ:wpAny (model prog w) A.in1 (compareOp .Lt (.int i1 ti1) (.int i2 ti2)) Q E s)⟩)
theorem znk{k1 k2:Ky}:(zgw k1).eqv (zgw k2)=decide (k1=k2):=by
 obtain⟨i1,n1,ps⟩:=k1
 obtain⟨i2,n2,qs⟩:=k2
 unfold zgw
 have e:=zbh (xs:=ps) (ys:=qs)
 simp only[PyData.eqv,PyData.eqvAll,Bool.and_true] at e⊢
 rw[e]
 rw[Bool.eq_iff_iff]
 simp[Prod.mk.injEq]
theorem zjJ{k:Ky}:(zgw k).depth<=62:=by
 have:=zaw (xs:=k.2.2)
 unfold zgw
 simp only[PyData.depth,PyData.depthAll] at *
 omega
theorem znW{a b:Addr}{k1 k2:Ky}{Q:Bool->Shared->Prop}(hu:A.units+62<cLine)(x:RawK s.heap a k1)(y:RawK s.heap b k2)(q:Q (decide (k1=k2)) s):wpAny (model prog w) A (eqBool (.ref a) (.ref b)) Q E s:=by
 obtain⟨as,rd1⟩:=x.rd
 obtain⟨bs,rd2⟩:=y.rd
 exact SeqAt.eqAt_reads _ _ A s _ _ _ _ rd1 rd2 x.can y.can (by
  have:=Nat.le_trans (Nat.min_le_left (zgw k1).depth (zgw k2).depth) zjJ
  omega) prog w E Q (by rw[znk];exact q)
end
theorem zdZ{h:Heap}{T:Value}{M:Model}:∀{us:List Value},(∀u∈us,∃a f xs,u=Value.ref a/\IsTup h a xs/\xs[0]?=some f/\Looks M h (typeOf f) T)->∃fs,KatTups h us fs/\fs.length=us.length/\∀f∈fs,Looks M h (typeOf f) T
 |[],_=>⟨[],trivial,rfl,λ_ z=>nomatch z⟩
 |u::us,hh=>by
  obtain⟨fs,h1,h2,h3⟩:=zdZ (us:=us) λv hv=>hh v (List.mem_cons_of_mem _ hv)
  obtain⟨a,f,xs,rfl,⟨o,g,c,n,d⟩,e0,lk⟩:=hh u List.mem_cons_self
  refine⟨f::fs,KatTups.cons g c d e0 h1,by simp[h2],λf' hf=>?_⟩
  rcases List.mem_cons.mp hf with rfl|hf
  ·exact lk
  ·exact h3 f' hf
section
variable{X:Cx}{K:PySem.W.Frag}
theorem zgh(hu:X.A.units+70<cLine):CallR X (.builtin "sorted") (zhe X.K ltK KeyO):=by
 refine zem (κ:=tuples' true) (0,0,[]) zik zhB zj0 λs s1 pins σ H I kp=>⟨λits ps hl h0 hk C hC=>?_,λb b' p q C E o1 o2 hC=>?_⟩
 ·obtain ⟨fs,h1,h2,h3⟩:=zdZ (h:=s1.heap) (T:= .type "int") (M:=model X.prog X.w) (us:=its) λu hu=>by
   obtain⟨i,hi,e⟩:=List.getElem_of_mem hu
   have hi':i<ps.length:=by omega
   obtain⟨b,rfl,ob⟩:=hk i u ps[i] (by rw[List.getElem?_eq_getElem hi,e]) (List.getElem?_eq_getElem hi')
   obtain⟨p,ti,tn,jts,t1,_⟩:=(ob.raw I kp).at_
   exact⟨b,_,_,rfl,t1,rfl,Looks.of_pure rfl⟩
  exact kat_kind h1 (by omega) h3 rfl hC
 ·have x:=o1.raw I kp
  have y:=o2.raw I kp
  obtain⟨i1,n1,ps⟩:=p
  obtain⟨i2,n2,qs⟩:=q
  obtain⟨p,ti1,tn1,jts,⟨o,g,_,n,d⟩,s1',u1,⟨as,rd1⟩,c1⟩:=x.at_
  obtain⟨p2,ti2,tn2,jts2,⟨o',g',_,n',d'⟩,s2',u2,⟨bs,rd2⟩,c2⟩:=y.at_
  refine kat_lt g d g' d' ?_
  show KatLex X.prog X.w X.A.in1.in1 true (decide (3<3)) C [(.int i1 ti1, .int i2 ti2),(.int n1 tn1, .int n2 tn2),(.ref p, .ref p2)] 0 s1
  refine kat_cons (wpAny_eqBool_int ?_)
  unfold ltK at hC
  simp only at hC
  by_cases hi:i1=i2
  ·rw[show(i1==i2)=true by simp[hi]]
   rw[if_pos hi] at hC
   refine kat_yes (kat_cons (wpAny_eqBool_int ?_))
   by_cases hn:n1=n2
   ·rw[show(n1==n2)=true by simp[hn]]
    rw[if_pos hn] at hC
    refine kat_yes (kat_cons (SeqAt.eqAt_reads _ _ X.A.in1.in1 s1 _ _ _ _ rd1 rd2 c1 c2 (by
     have:=Nat.le_trans (Nat.min_le_left (PyData.tuple (zz ps)).depth (PyData.tuple (zz qs)).depth) zaw
     show X.A.units+1+1+_<cLine
     simp only at *
     omega) _ _ _ _ ?_))
    rw[zbh]
    by_cases hq:ps=qs
    ·rw[decide_eq_true hq]
     refine kat_yes (kat_nil ?_)
     subst hq
     rw[zfj] at hC
     exact hC
    ·rw[decide_eq_false hq]
     exact kat_no (kat_one _ _ (ziW s1' s2' u1 u2 (by show X.A.units+1+1<cLine;omega) hC))
   ·rw[show(n1==n2)=false by simp[hn]]
    rw[if_neg hn] at hC
    exact kat_no (kat_one _ _ (PyProof.Rows.lt_int hC))
  ·rw[show(i1==i2)=false by simp[hi]]
   rw[if_neg hi] at hC
   exact kat_no (oneLt_int hC)
theorem zdL(hu:X.A.units+70<cLine):CallR X (.builtin "sorted") (zhe X.K ltK KwO):=by
 refine zem (κ:=tuples' false) (0,0,[]) zik zhB zj0 λs s1 pins σ H I kp=>⟨λits ps hl h0 hk C hC=>?_,λb b' p q C E o1 o2 hC=>?_⟩
 ·obtain ⟨fs,h1,h2,h3⟩:=zdZ (h:=s1.heap) (T:= .type "tuple") (M:=model X.prog X.w) (us:=its) λu hu=>by
   obtain⟨i,hi,e⟩:=List.getElem_of_mem hu
   have hi':i<ps.length:=by omega
   obtain⟨b,rfl,t,p,eb,ot,_⟩:=hk i u ps[i] (by rw[List.getElem?_eq_getElem hi,e]) (List.getElem?_eq_getElem hi')
   obtain⟨its',r1,t1,_⟩:=I.tuple (SqT.of eb)
   obtain⟨_,_,rfl,x1,x2⟩:=zdM r1
   cases x1
   cases x2
   obtain⟨_,_,_,_,⟨o,g,c,_⟩,_⟩:=(ot.raw I kp).at_
   exact⟨b,_,_,rfl,zch t1 kp,rfl,by rw[←c];exact(Looks.ld g).andThen .now⟩
  exact kat_kind h1 (by omega) h3 rfl hC
 ·obtain ⟨t,w,eb,ot,ew⟩:=o1
  obtain⟨t',w',eb',ot',ew'⟩:=o2
  obtain⟨its,r1,t1,_⟩:=I.tuple (SqT.of eb)
  obtain⟨its',r1',t1',_⟩:=I.tuple (SqT.of eb')
  obtain⟨_,_,rfl,x1,x2⟩:=zdM r1
  obtain⟨_,_,rfl,x1',x2'⟩:=zdM r1'
  cases x1
  cases x2
  cases x1'
  cases x2'
  have k1:=ot.raw I kp
  have k2:=ot'.raw I kp
  obtain⟨o,g,_,n,d⟩:=zch t1 kp
  obtain⟨o',g',_,n',d'⟩:=zch t1' kp
  have ok:∀y∈p.2.2,PyData.strOk y=true:=let⟨_,_,_,h⟩:=ot;h
  have ok':∀y∈q.2.2,PyData.strOk y=true:=let⟨_,_,_,h⟩:=ot';h
  obtain⟨as,rd1⟩:=(zbp ew ok).reads I (.ref w) rfl
  obtain⟨bs,rd2⟩:=(zbp ew' ok').reads I (.ref w') rfl
  refine kat_lt g d g' d' ?_
  show KatLex X.prog X.w X.A.in1.in1 false (decide (2<2)) C [(.ref t, .ref t'),(.ref w, .ref w')] 0 s1
  refine kat_cons (znW (by show X.A.units+1+1+62<cLine;omega) k1 k2 ?_)
  by_cases e:p=q
  ·rw[decide_eq_true e]
   refine kat_yes (kat_cons (SeqAt.eqAt_reads _ _ X.A.in1.in1 s1 _ _ _ _ (Reads.keeps kp rd1) (Reads.keeps kp rd2) (zbp ew ok).can (zbp ew' ok').can (by
    have:=Nat.le_trans (Nat.min_le_left (PyData.tuple (zz p.2.2)).depth (PyData.tuple (zz q.2.2)).depth) zaw
    show X.A.units+1+1+_<cLine
    omega) _ _ _ _ ?_))
   rw[zbh,decide_eq_true (show p.2.2=q.2.2 by rw[e])]
   refine kat_yes (kat_nil ?_)
   subst e
   rw[zcr] at hC
   exact hC
  ·rw[decide_eq_false e]
   exact kat_no (kat_one _ _ (zn8 (by show X.A.units+1+1+63<cLine;omega) k1 k2 hC))
theorem zfo(h:X.K=K)(hu:X.A.units+70<cLine):CallR X (.builtin "sorted") (zhe K ltK KwO):=by subst h;exact zdL hu
end
section
variable{X:Cx}{K:PySem.W.Frag}
end
end L2
namespace L2
open PySem PySem.Spec PyProof.Rows
section
variable{X:Cx}
end
end L2
namespace RW
open PySem PySem.Spec PyProof.Rows L2
section
variable{α:Type}[DecidableEq α]{mm:α->α->α×α}
structure MM(mm:α->α->α×α):Prop where
 two:∀a b,mm a b=(a,b)\/mm a b=(b,a)
 sym:∀a b,mm a b=mm b a
theorem MM.inj(h:MM mm){a b c d:α}(e:mm a b=mm c d):(a=c/\b=d)\/(a=d/\b=c):=by
 rcases h.two a b with x|x<;>rcases h.two c d with y|y<;>(rw[x,y] at e;cases e)
 ·exact .inl ⟨rfl,rfl⟩
 ·exact .inr ⟨rfl,rfl⟩
 ·exact .inr ⟨rfl,rfl⟩
 ·exact .inl ⟨rfl,rfl⟩
def ed(mm:α->α->α×α):List α->List (α×α)
 |a::b::r=>mm a b::ed mm (b::r)
 |_=> []
def atE(v:α)(p:α×α):Bool:=decide (p.1=v)||decide (p.2=v)
def zpe(v:α)(w:List α):Nat:=(w.filter λa=>decide (a=v)).length
def zgA(a v:α):Nat:=if a=v then 1 else 0
theorem zdq{a b:α}{r:List α}:(a::b::r).getLast (by simp)=(b::r).getLast (by simp):=rfl
theorem zgO{v a:α}{w:List α}:zpe v (a::w)=zgA a v+zpe v w:=by
 unfold zpe zgA
 by_cases h:a=v
 ·rw[if_pos h,List.filter_cons_of_pos (by simpa using h),List.length_cons];omega
 ·rw[if_neg h,List.filter_cons_of_neg (by simpa using h)];omega
theorem zjR(h:MM mm){v a b:α}:atE v (mm a b)=(decide (a=v)||decide (b=v)):=by
 unfold atE
 rcases h.two a b with e|e<;>rw[e]
 exact Bool.or_comm _ _
theorem zhx(h:MM mm)(v:α):∀(a:α) (r:List α),(a::r).Nodup->((ed mm (a::r)).filter (atE v)).length+zgA a v+zgA ((a::r).getLast (by simp)) v=2*zpe v (a::r)
 |a,[],_=>by
  rw[zgO]
  show 0+zgA a v+zgA a v=2*(zgA a v+0)
  omega
 |a,b::r,nd=>by
  have ih:=zhx h v b r (List.nodup_cons.mp nd).2
  have hab:a≠b:=λe=>(List.nodup_cons.mp nd).1 (by rw[e];exact List.mem_cons_self)
  rw[zdq,zgO]
  have e:((ed mm (a::b::r)).filter (atE v)).length=zgA a v+zgA b v+((ed mm (b::r)).filter (atE v)).length:=by
   show((mm a b::ed mm (b::r)).filter (atE v)).length=_
   have e1:=zjR h (v:=v) (a:=a) (b:=b)
   unfold zgA
   by_cases h1:a=v
   ·have h2:¬b=v:=λz=>hab (h1.trans z.symm)
    rw[if_pos h1,if_neg h2,List.filter_cons_of_pos (by rw[e1,decide_eq_true h1];rfl),List.length_cons];omega
   ·by_cases h2:b=v
    ·rw[if_neg h1,if_pos h2,List.filter_cons_of_pos (by rw[e1,decide_eq_true h2,Bool.or_true]),List.length_cons];omega
    ·rw[if_neg h1,if_neg h2,List.filter_cons_of_neg (by rw[e1,decide_eq_false h1,decide_eq_false h2];decide)];omega
  rw[e]
  omega
theorem zpC(h:MM mm){p:α×α}:∀{w:List α},p∈ed mm w->∃a b,p=mm a b/\a∈w/\b∈w
 |[],z=>(nomatch z)
 |[_],z=>(nomatch z)
 |a::b::r,z=>by
  rcases List.mem_cons.mp (show p∈mm a b::ed mm (b::r)from z)with z|z
  ·exact ⟨a,b,z,List.mem_cons_self,List.mem_cons_of_mem _ List.mem_cons_self⟩
  ·obtain ⟨c,d,e,h1,h2⟩:=zpC h z
   exact⟨c,d,e,List.mem_cons_of_mem _ h1,List.mem_cons_of_mem _ h2⟩
theorem zen(h:MM mm){a b:α}{w:List α}(ha:a∉w):mm a b∉ed mm w:=λz=>by
 obtain⟨c,d,e,h1,h2⟩:=zpC h z
 rcases h.inj e with⟨e1,_⟩|⟨e1,_⟩
 ·exact ha (e1▸h1)
 ·exact ha (e1▸h2)
theorem zga(h:MM mm):∀{w:List α},w.Nodup->(ed mm w).Nodup
 |[],_=>List.nodup_nil
 |[_],_=>List.nodup_nil
 |a::b::r,nd=>List.nodup_cons.mpr ⟨zen h (List.nodup_cons.mp nd).1,zga h (List.nodup_cons.mp nd).2⟩
theorem zit(h:MM mm):∀(a:α) (r r':List α),(a::r).Nodup->(a::r').Nodup->(a::r).getLast (by simp)=(a::r').getLast (by simp)->(∀p,p∈ed mm (a::r)↔p∈ed mm (a::r'))->r=r'
 |a,[],[],_,_,_,_=>rfl
 |a,[],c::r',_,nd',e,_=>by
  exfalso
  rw[zdq] at e
  have:a∈c::r':=by
   have z:(c::r').getLast (by simp)∈c::r':=List.getLast_mem _
   rw[←e] at z
   exact z
  exact(List.nodup_cons.mp nd').1 this
 |a,b::r,[],nd,_,e,_=>by
  exfalso
  rw[zdq] at e
  have:a∈b::r:=by
   have z:(b::r).getLast (by simp)∈b::r:=List.getLast_mem _
   rw[e] at z
   exact z
  exact(List.nodup_cons.mp nd).1 this
 |a,b::r,c::r',nd,nd',e,hp=>by
  have n1:=(List.nodup_cons.mp nd).1
  have n2:=(List.nodup_cons.mp nd').1
  have e1:b=c:=by
   have z:=(hp (mm a b)).mp (show mm a b∈mm a b::ed mm (b::r)from List.mem_cons_self)
   rcases List.mem_cons.mp (show mm a b∈mm a c::ed mm (c::r')from z)with z|z
   ·rcases h.inj z with⟨_,y⟩|⟨y,y'⟩
    ·exact y
    ·exact y'.trans y
   ·exact absurd z (zen h n2)
  subst e1
  have:=zit h b r r' (List.nodup_cons.mp nd).2 (List.nodup_cons.mp nd').2 (by rw[zdq,zdq] at e;exact e) λp=>by
   have:=hp p
   constructor
   ·intro z
    rcases List.mem_cons.mp (show p∈mm a b::ed mm (b::r')from this.mp (List.mem_cons_of_mem _ z))with y|y
    ·subst y;exact absurd z (zen h n1)
    ·exact y
   ·intro z
    rcases List.mem_cons.mp (show p∈mm a b::ed mm (b::r)from this.mpr (List.mem_cons_of_mem _ z))with y|y
    ·subst y;exact absurd z (zen h n2)
    ·exact y
  rw[this]
theorem ze3{β:Type}[DecidableEq β]{xs ys:List β}(n1:xs.Nodup)(n2:ys.Nodup)(h:∀x,x∈xs↔x∈ys):xs.length=ys.length:=
 ((List.perm_ext_iff_of_nodup n1 n2).mpr h).length_eq
def zny(mm:α->α->α×α)(xs:List α)(par:Nat->Nat)(F:List (α×α)):Prop:=∀p∈F,∃k a b,0<k/\par k<k/\xs[k]?=some a/\xs[par k]?=some b/\p=mm a b
theorem ziD(h:MM mm){xs:List α}(nx:xs.Nodup){par:Nat->Nat}{F E:List (α×α)}(fo:zny mm xs par F){a:α}{r r':List α}(nd:(a::r).Nodup)(nd':(a::r').Nodup)
 (e:(a::r).getLast (by simp)=(a::r').getLast (by simp)) (s1:∀p∈ed mm (a::r),p∈F\/p∈E) (s2:∀p∈ed mm (a::r'),p∈F\/p∈E) (se:∀p∈E,p∈ed mm (a::r)↔p∈ed mm (a::r')):r=r':=by
 refine zit h a r r' nd nd' e λp=>?_
 have key:∀m k:Nat,xs.length<=k+m->∀u v,0<k->par k<k->xs[k]?=some u->xs[par k]?=some v->(mm u v∈ed mm (a::r)↔mm u v∈ed mm (a::r')):=by
  intro m
  induction m with
  |zero=>
   intro k hk u v _ _ hu _
   rw[List.getElem?_eq_none (by omega)] at hu;cases hu
  |succ m ih=>
   intro k hk u v k0 hpk hu hv
   by_cases hE:mm u v∈E
   ·exact se _ hE
   have oth:∀q,atE u q=true->q≠mm u v->(q∈ed mm (a::r)↔q∈ed mm (a::r')):=by
    intro q hq hne
    have inF:q∈F->(q∈ed mm (a::r)↔q∈ed mm (a::r')):=λhF=>by
     obtain⟨j,c,d,j0,hpj,hc,hd,rfl⟩:=fo q hF
     rw[zjR h] at hq
     rcases(Bool.or_eq_true _ _).mp hq with z|z
     ·have z:=of_decide_eq_true z
      subst z
      have:j=k:=by
       have h1:j<xs.length:=by
        rcases Nat.lt_or_ge j xs.length with y|y
        ·exact y
        ·rw[List.getElem?_eq_none y] at hc;cases hc
       have h2:k<xs.length:=by
        rcases Nat.lt_or_ge k xs.length with y|y
        ·exact y
        ·rw[List.getElem?_eq_none y] at hu;cases hu
       rw[List.getElem?_eq_getElem h1] at hc
       rw[List.getElem?_eq_getElem h2] at hu
       exact(List.getElem_inj nx).mp ((Option.some.inj hc).trans (Option.some.inj hu).symm)
      subst this
      rw[hd] at hv;cases hv
      exact absurd rfl hne
     ·have z:=of_decide_eq_true z
      subst z
      have:par j=k:=by
       have h1:par j<xs.length:=by
        rcases Nat.lt_or_ge (par j) xs.length with y|y
        ·exact y
        ·rw[List.getElem?_eq_none y] at hd;cases hd
       have h2:k<xs.length:=by
        rcases Nat.lt_or_ge k xs.length with y|y
        ·exact y
        ·rw[List.getElem?_eq_none y] at hu;cases hu
       rw[List.getElem?_eq_getElem h1] at hd
       rw[List.getElem?_eq_getElem h2] at hu
       exact(List.getElem_inj nx).mp ((Option.some.inj hd).trans (Option.some.inj hu).symm)
      exact ih j (by omega) c d j0 hpj hc hd
    constructor
    ·intro z
     rcases s1 q z with y|y
     ·exact (inF y).mp z
     ·exact (se q y).mp z
    ·intro z
     rcases s2 q z with y|y
     ·exact (inF y).mpr z
     ·exact (se q y).mpr z
   have d1:=zhx h u a r nd
   have d2:=zhx h u a r' nd'
   rw[e] at d1
   have n1:((ed mm (a::r)).filter (atE u)).Nodup:=(zga h nd).sublist List.filter_sublist
   have n2:((ed mm (a::r')).filter (atE u)).Nodup:=(zga h nd').sublist List.filter_sublist
   have au:atE u (mm u v)=true:=by rw[zjR h,decide_eq_true rfl];rfl
   constructor
   ·intro z
    rcases Decidable.em (mm u v∈ed mm (a::r'))with y|y
    ·exact y
    exfalso
    have:((ed mm (a::r)).filter (atE u)).length=(mm u v::(ed mm (a::r')).filter (atE u)).length:=ze3 n1 (List.nodup_cons.mpr ⟨λq=>y (List.mem_filter.mp q).1,n2⟩) λq=>by
     rw[List.mem_filter,List.mem_cons,List.mem_filter]
     constructor
     ·rintro ⟨q1,q2⟩
      by_cases eq:q=mm u v
      ·exact .inl eq
      ·exact .inr ⟨(oth q q2 eq).mp q1,q2⟩
     ·rintro (rfl|⟨q1,q2⟩)
      ·exact ⟨z,au⟩
      ·exact ⟨(oth q q2 (λw=>y (w▸q1))).mpr q1,q2⟩
    rw[List.length_cons] at this
    omega
   ·intro z
    rcases Decidable.em (mm u v∈ed mm (a::r))with y|y
    ·exact y
    exfalso
    have:((ed mm (a::r')).filter (atE u)).length=(mm u v::(ed mm (a::r)).filter (atE u)).length:=ze3 n2 (List.nodup_cons.mpr ⟨λq=>y (List.mem_filter.mp q).1,n1⟩) λq=>by
     rw[List.mem_filter,List.mem_cons,List.mem_filter]
     constructor
     ·rintro ⟨q1,q2⟩
      by_cases eq:q=mm u v
      ·exact .inl eq
      ·exact .inr ⟨(oth q q2 eq).mpr q1,q2⟩
     ·rintro (rfl|⟨q1,q2⟩)
      ·exact ⟨z,au⟩
      ·exact ⟨(oth q q2 (λw=>y (w▸q1))).mp q1,q2⟩
    rw[List.length_cons] at this
    omega
 have inF:p∈F->(p∈ed mm (a::r)↔p∈ed mm (a::r')):=λhF=>by
  obtain⟨k,u,v,k0,hp,hu,hv,rfl⟩:=fo p hF
  exact key xs.length k (by omega) u v k0 hp hu hv
 constructor
 ·intro z
  rcases s1 p z with y|y
  ·exact (inF y).mp z
  ·exact (se p y).mp z
 ·intro z
  rcases s2 p z with y|y
  ·exact (inF y).mpr z
  ·exact (se p y).mpr z
def zfn:Nat->List (List Bool)
 |0=> [[]]
 |n+1=>(zfn n).map (true::·)++(zfn n).map (false::·)
theorem zg4:∀n,(zfn n).length=2^n
 |0=>rfl
 |n+1=>by rw[zfn,List.length_append,List.length_map,List.length_map,zg4 n,Nat.pow_succ];omega
theorem zeG:∀(l:List Bool),l∈zfn l.length
 |[]=>List.mem_singleton.mpr rfl
 |b::l=>by
  rw[List.length_cons,zfn,List.mem_append,List.mem_map,List.mem_map]
  cases b with
  |true=>exact .inl ⟨l,zeG l,rfl⟩
  |false=>exact .inr ⟨l,zeG l,rfl⟩
theorem zdJ{β:Type}[DecidableEq β]:∀{xs ys:List β},xs.Nodup->(∀x∈xs,x∈ys)->xs.length<=ys.length
 |[],ys,_,_=>Nat.zero_le _
 |x::xs,ys,nd,h=>by
  have hx:=h x List.mem_cons_self
  have:=zdJ (xs:=xs) (ys:=ys.erase x) (List.nodup_cons.mp nd).2 λy hy=>by
   refine(List.mem_erase_of_ne (λe:y=x=>(List.nodup_cons.mp nd).1 (e▸hy))).mpr (h y (List.mem_cons_of_mem _ hy))
  rw[List.length_erase_of_mem hx] at this
  have hp:0<ys.length:=List.length_pos_of_mem hx
  rw[List.length_cons]
  omega
theorem znq(h:MM mm){xs:List α}(nx:xs.Nodup){par:Nat->Nat}{F E:List (α×α)}(fo:zny mm xs par F){a g:α}{ws:List (List α)}(nw:ws.Nodup)
 (hw:∀w∈ws,∃r,w=a::r/\w.Nodup/\w.getLast?=some g/\∀p∈ed mm w,p∈F\/p∈E):ws.length<=2^E.length:=by
 have inj:(ws.map λw=>E.map λp=>decide (p∈ed mm w)).Nodup:=by
  refine List.pairwise_map.mpr (nw.imp_of_mem λ{w w'} hm hm' hne e=>hne ?_)
  obtain⟨r,rfl,nd,l,s⟩:=hw w hm
  obtain⟨r',rfl,nd',l',s'⟩:=hw w' hm'
  rw[List.getLast?_eq_some_getLast (by simp)] at l l'
  rw[ziD h nx fo nd nd' ((Option.some.inj l).trans (Option.some.inj l').symm) s s' λp hp=>?_]
  have:=List.map_inj_left.mp e p hp
  exact decide_eq_decide.mp this
 have:=zdJ inj (ys:=zfn E.length) λx hx=>by
  obtain⟨w,_,rfl⟩:=List.mem_map.mp hx
  have:=zeG (E.map λp=>decide (p∈ed mm w))
  rwa[List.length_map] at this
 rwa[List.length_map,zg4] at this
end
def mmS(x y:Str):Str×Str:=(if ltS y x=true then y else x,if ltS x y=true then y else x)
theorem mmS_MM:MM mmS where
 two:=λa b=>by
  unfold mmS
  cases h:ltS a b with
  |true=>rw[zcR h];exact .inl rfl
  |false=>
   by_cases e:a=b
   ·subst e;rw[h];exact .inl rfl
   ·rw[zb9 e h];exact .inr rfl
 sym:=λa b=>by
  unfold mmS
  cases h:ltS a b with
  |true=>rw[zcR h];rfl
  |false=>
   by_cases e:a=b
   ·subst e;rw[h]
   ·rw[zb9 e h];rfl
theorem zmi{a b:Str}(h:ltS a b=true):mmS a b=(a,b):=by
 unfold mmS
 rw[zcR h,h];rfl
def Spr(xs:List Str)(ps:List (Str×Str))(k e:Nat):Prop:=∃(par:Nat->Nat) (F E:List (Str×Str)),(∀p∈ps,p∈F\/p∈E)/\(∀p∈F,∃j a b,0<j/\j<k/\par j<j/\xs[j]?=some a/\xs[par j]?=some b/\p=mmS a b)/\E.length<=e
theorem Spr.nil{xs:List Str}{k e:Nat}:Spr xs [] k e:=⟨id,[],[],λ_ z=>(nomatch z),λ_ z=>(nomatch z),Nat.zero_le _⟩
theorem Spr.mono{xs:List Str}{ps ps':List (Str×Str)}{k k' e e':Nat}(h:Spr xs ps k e)(hp:∀p∈ps',p∈ps)(hk:k<=k')(he:e<=e'):Spr xs ps' k' e':=by
 obtain⟨par,F,E,h1,h2,h3⟩:=h
 refine⟨par,F,E,λp hp'=>h1 p (hp p hp'),λp hp'=>?_,by omega⟩
 obtain⟨j,a,b,j0,jk,r⟩:=h2 p hp'
 exact⟨j,a,b,j0,by omega,r⟩
theorem Spr.tie{xs:List Str}{ps ps':List (Str×Str)}{k e t:Nat}{a b:Str}(h:Spr xs ps k e)(hk:0<k)(ht:t<k)(ha:xs[k]?=some a)(hb:xs[t]?=some b)(hp:∀p∈ps',p∈ps\/p=mmS a b):Spr xs ps' (k+1) e:=by
 obtain⟨par,F,E,h1,h2,h3⟩:=h
 refine⟨λj=>if j=k then t else par j,mmS a b::F,E,λp hp'=>?_,λp hp'=>?_,h3⟩
 ·rcases hp p hp' with z|z
  ·rcases h1 p z with y|y
   ·exact .inl (List.mem_cons_of_mem _ y)
   ·exact .inr y
  ·exact .inl (z▸List.mem_cons_self)
 ·rcases List.mem_cons.mp hp' with z|z
  ·exact ⟨k,a,b,hk,by omega,by show(if k=k then t else par k)<k;rw[if_pos rfl];exact ht,ha,by show xs[if k=k then t else par k]?=some b;rw[if_pos rfl];exact hb,z⟩
  ·obtain ⟨j,c,d,j0,jk,pj,hc,hd,e⟩:=h2 p z
   have:j≠k:=by omega
   exact⟨j,c,d,j0,by omega,by show(if j=k then t else par j)<j;rw[if_neg this];exact pj,hc,by show xs[if j=k then t else par j]?=some d;rw[if_neg this];exact hd,e⟩
theorem Spr.more{xs:List Str}{ps ps':List (Str×Str)}{k e:Nat}{q:Str×Str}(h:Spr xs ps k e)(hp:∀p∈ps',p∈ps\/p=q):Spr xs ps' k (e+1):=by
 obtain⟨par,F,E,h1,h2,h3⟩:=h
 refine⟨par,F,q::E,λp hp'=>?_,h2,by rw[List.length_cons];omega⟩
 rcases hp p hp' with z|z
 ·rcases h1 p z with y|y
  ·exact .inl y
  ·exact .inr (List.mem_cons_of_mem _ y)
 ·exact .inr (z▸List.mem_cons_self)
structure SW(g:Str)(ps:List (Str×Str))(w:List Str):Prop where
 nd:w.Nodup
 last:w.getLast?=some g
 ties:∀p∈ed mmS w,p∈ps
theorem SW.ne{g:Str}{ps:List (Str×Str)}{w:List Str}(h:SW g ps w):∃x r,w=x::r:=by
 cases w with
 |nil=>have:=h.last;cases this
 |cons x r=>exact ⟨x,r,rfl⟩
theorem SW.goal{g:Str}{ps:List (Str×Str)}:SW g ps [g]:=⟨by simp,rfl,λ_ z=>(nomatch z)⟩
theorem SW.cons{g x y:Str}{ps:List (Str×Str)}{r:List Str}(h:SW g ps (x::r))(hy:y∉x::r)(t:mmS y x∈ps):SW g ps (y::x::r):=
 ⟨List.nodup_cons.mpr ⟨hy,h.nd⟩,by rw[List.getLast?_cons_cons];exact h.last,λp hp=>by
   rcases List.mem_cons.mp (show p∈mmS y x::ed mmS (x::r)from hp)with z|z
   ·exact z▸t
   ·exact h.ties p z⟩
theorem SW.tail{g x y:Str}{ps:List (Str×Str)}{r:List Str}(h:SW g ps (y::x::r)):SW g ps (x::r)/\y∉x::r/\mmS y x∈ps:=
 ⟨⟨(List.nodup_cons.mp h.nd).2,by have:=h.last;rwa[List.getLast?_cons_cons] at this,λp hp=>h.ties p (List.mem_cons_of_mem _ hp)⟩,(List.nodup_cons.mp h.nd).1,h.ties _ List.mem_cons_self⟩
theorem SW.one{g x:Str}{ps:List (Str×Str)}(h:SW g ps [x]):x=g:=Option.some.inj h.last
theorem SW.mem{g:Str}{ps:List (Str×Str)}{hs:List Str}(hg:g∈hs)(hp:∀p∈ps,p.1∈hs/\p.2∈hs):∀{w:List Str},SW g ps w->∀x∈w,x∈hs
 |[],h,_,z=>(nomatch z)
 |[a],h,x,z=>by rw[List.mem_singleton.mp z,h.one];exact hg
 |a::b::r,h,x,z=>by
  obtain⟨h1,h2,h3⟩:=h.tail
  rcases List.mem_cons.mp z with z|z
  ·subst z
   rcases mmS_MM.two x b with e|e
   ·have:=(hp _ h3).1;rw[e] at this;exact this
   ·have:=(hp _ h3).2;rw[e] at this;exact this
  ·exact SW.mem hg hp h1 x z
theorem zq2{xs:List Str}{ps:List (Str×Str)}{k e:Nat}(nx:xs.Nodup)(sp:Spr xs ps k e){a g:Str}{ws:List (List Str)}(nw:ws.Nodup)(hw:∀w∈ws,SW g ps w/\w.head?=some a):ws.length<=2^e:=by
 obtain⟨par,F,E,h1,h2,h3⟩:=sp
 refine Nat.le_trans (znq mmS_MM nx (par:=par) (F:=F) (E:=E) (a:=a) (g:=g) (λp hp=>?_) nw λw hm=>?_) (Nat.pow_le_pow_right (by decide) h3)
 ·obtain ⟨j,c,d,j0,jk,r⟩:=h2 p hp
  exact⟨j,c,d,j0,r⟩
 ·obtain ⟨s,hh⟩:=hw w hm
  obtain⟨x,r,rfl⟩:=s.ne
  have e:x=a:=Option.some.inj hh
  subst e
  exact⟨r,rfl,s.nd,s.last,λp hp=>h1 p (s.ties p hp)⟩
theorem zkp{α:Type}[DecidableEq α]{c:Nat}:∀{hs:List α} {ws:List (List α)},ws.Nodup->(∀w∈ws,∃x∈hs,w.head?=some x)->(∀x∈hs,(ws.filter λw=>decide (w.head?=some x)).length<=c)->ws.length<=hs.length*c
 |[],ws,_,h,_=>by
  cases ws with
  |nil=>exact Nat.zero_le _
  |cons w ws=>obtain ⟨x,hx,_⟩:=h w List.mem_cons_self;exact(nomatch hx)
 |x::hs,ws,nd,h,hc=>by
  have ih:=zkp (hs:=hs) (ws:=ws.filter λw=>!decide (w.head?=some x)) (nd.sublist List.filter_sublist) (λw hw=>by
   obtain⟨hw1,hw2⟩:=List.mem_filter.mp hw
   obtain⟨y,hy,e⟩:=h w hw1
   rcases List.mem_cons.mp hy with z|z
   ·subst z;rw[e] at hw2;simp at hw2
   ·exact ⟨y,z,e⟩) λy hy=>by
    refine Nat.le_trans (List.Sublist.length_le ?_) (hc y (List.mem_cons_of_mem _ hy))
    exact List.Sublist.filter _ List.filter_sublist
  have h1:=hc x List.mem_cons_self
  have h2:ws.length=(ws.filter λw=>decide (w.head?=some x)).length+(ws.filter λw=>!decide (w.head?=some x)).length:=by
   rw[←List.countP_eq_length_filter,←List.countP_eq_length_filter]
   have:=List.length_eq_countP_add_countP (p:=λw=>decide (w.head?=some x)) (l:=ws)
   simpa using this
  rw[List.length_cons,Nat.add_mul,Nat.one_mul]
  omega
def Fw:Nat->Nat
 |0=>1
 |k+1=>1+(k+1)*Fw k
theorem zqa:∀k,1<=Fw k
 |0=>Nat.le_refl 1
 |k+1=>Nat.le_add_right 1 _
theorem zqZ:∀k∈List.range 10,Fw k<=986410:=by decide +kernel
def zeo(n:Nat)(ws:List (List Str)):Nat:=(ws.map λw=>Fw (n -w.length)).sum
theorem zh0{n:Nat}{a b:List (List Str)}:zeo n (a ++b)=zeo n a+zeo n b:=by
 unfold zeo;rw[List.map_append,List.sum_append]
theorem zfv{n:Nat}:∀(ws:List (List Str)),ws.length<=zeo n ws
 |[]=>Nat.zero_le _
 |w::ws=>by
  have h1:=zfv (n:=n) ws
  have h2:=zqa (n -w.length)
  show ws.length+1<=Fw (n -w.length)+zeo n ws
  omega
theorem ziw{n L:Nat}:∀{ws:List (List Str)},(∀w∈ws,w.length=L)->zeo n ws=ws.length*Fw (n -L)
 |[],_=>by show 0=0*_;rw[Nat.zero_mul]
 |w::ws,h=>by
  have h1:=ziw (n:=n) λx hx=>h x (List.mem_cons_of_mem _ hx)
  show Fw (n -w.length)+zeo n ws=(ws.length+1)*_
  rw[h1,h w List.mem_cons_self,Nat.add_mul,Nat.one_mul,Nat.add_comm]
structure WOk(hs w:List Str):Prop where
 ne:1<=w.length
 nd:w.Nodup
 mem:∀y∈w,y∈hs
theorem WOk.len{hs w:List Str}(h:WOk hs w)(h10:hs.length<=10):w.length<=10:=Nat.le_trans (zM h.nd h.mem) h10
def zbx(w:List Str)(y:Str):Bool:=!w.any λz=>decide (z=y)
theorem notIn_iff{w:List Str}{y:Str}:zbx w y=true↔y∉w:=by
 unfold zbx
 rw[Bool.not_eq_true',List.any_eq_false]
 constructor
 ·exact λh hy=>h y hy (decide_eq_true rfl)
 ·exact λh z hz e=>h ((of_decide_eq_true e)▸hz)
def zdB(hs w:List Str)(f:Str->Bool):List (List Str):=((hs.filter f).filter (zbx w)).map (·::w)
theorem zoz{hs w:List Str}{f:Str->Bool}(h:WOk hs w):∀c∈zdB hs w f,WOk hs c:=λc hc=>by
 obtain⟨y,hy,rfl⟩:=List.mem_map.mp hc
 obtain⟨h1,h2⟩:=List.mem_filter.mp hy
 refine⟨Nat.le_add_left 1 _,List.nodup_cons.mpr ⟨notIn_iff.mp h2,h.nd⟩,λz hz=>?_⟩
 rcases List.mem_cons.mp hz with rfl|hz
 ·exact (List.mem_filter.mp h1).1
 ·exact h.mem z hz
theorem zle{hs w:List Str}{f:Str->Bool}(nd:hs.Nodup)(h:WOk hs w):zeo hs.length (zdB hs w f)+1<=Fw (hs.length -w.length):=by
 have hl:((hs.filter f).filter (zbx w)).length+w.length<=hs.length:=by
  have hn:(((hs.filter f).filter (zbx w))++w).Nodup:=by
   rw[List.nodup_append]
   refine⟨(nd.filter _).filter _,h.nd,λa ha b hb e=>?_⟩
   exact notIn_iff.mp (List.mem_filter.mp ha).2 (e▸hb)
  have:=zM (m:=hs) hn λx hx=>by
   rcases List.mem_append.mp hx with hx|hx
   ·exact (List.mem_filter.mp (List.mem_filter.mp hx).1).1
   ·exact h.mem x hx
  rwa[List.length_append] at this
 have e:zeo hs.length (zdB hs w f)=((hs.filter f).filter (zbx w)).length*Fw (hs.length -(w.length+1)):=by
  rw[ziw (L:=w.length+1) λc hc=>by obtain⟨y,_,rfl⟩:=List.mem_map.mp hc;rfl]
  unfold zdB
  rw[List.length_map]
 rw[e]
 cases hk:hs.length -w.length with
 |zero=>
  have:((hs.filter f).filter (zbx w)).length=0:=by omega
  rw[this,Nat.zero_mul];exact Nat.le_refl 1
 |succ k=>
  have e2:hs.length -(w.length+1)=k:=by omega
  rw[e2]
  show _<=1+(k+1)*Fw k
  have:((hs.filter f).filter (zbx w)).length*Fw k<=(k+1)*Fw k:=Nat.mul_le_mul_right _ (by omega)
  omega
def ziQ(ps:List (Str×Str))(x:Str):Str->Bool:=λy=>decide (mmS y x∈ps)
structure Bf(g:Str)(hs:List Str)(ps:List (Str×Str))(ws:List (List Str))(n:Nat):Prop where
 nd:ws.Nodup
 sw:∀w∈ws,SW g ps w
 root:[g]∈ws
 src:∀y r,y::r∈ws->r≠ []->r∈ws.take n
 cl:∀y x r,x::r∈ws.take n->y∈hs->mmS y x∈ps->y∉x::r->y::x::r∈ws
theorem Bf.start{g:Str}{hs:List Str}{ps:List (Str×Str)}:Bf g hs ps [[g]] 0:=
 ⟨by simp,λw hw=>by rw[List.mem_singleton.mp hw];exact SW.goal,List.mem_singleton.mpr rfl,λy r h hr=>by
   have:=List.mem_singleton.mp h
   exact absurd (List.cons.inj this).2 hr,λy x r h=>by simp at h⟩
theorem zcA{α:Type}{ws:List α}{n:Nat}{w a:α}(e:ws[n]?=some w):a∈ws.take (n+1)↔a∈ws.take n\/a=w:=by
 rw[List.take_add_one,e,List.mem_append]
 exact or_congr_right List.mem_singleton
theorem Bf.next{g:Str}{hs:List Str}{ps:List (Str×Str)}{ws:List (List Str)}{n:Nat}{x:Str}{r:List Str}(nh:hs.Nodup)(B:Bf g hs ps ws n)(e:ws[n]?=some (x::r)):Bf g hs ps (ws ++zdB hs (x::r) (ziQ ps x)) (n+1):=by
 have hn:n<ws.length:=by
  rcases Nat.lt_or_ge n ws.length with z|z
  ·exact z
  ·rw[List.getElem?_eq_none z] at e;cases e
 have hw:x::r∈ws:=List.mem_of_getElem? e
 have hnot:x::r∉ws.take n:=λz=>by
  obtain⟨j,hj,ej⟩:=List.getElem_of_mem z
  rw[List.length_take] at hj
  rw[List.getElem_take] at ej
  rw[List.getElem?_eq_getElem hn] at e
  have:=(List.getElem_inj B.nd).mp (ej.trans (Option.some.inj e).symm)
  omega
 have kid:∀c,c∈zdB hs (x::r) (ziQ ps x)↔∃y,y∈hs/\mmS y x∈ps/\y∉x::r/\c=y::x::r:=λc=>by
  unfold zdB
  rw[List.mem_map]
  constructor
  ·rintro ⟨y,hy,rfl⟩
   obtain⟨h1,h2⟩:=List.mem_filter.mp hy
   obtain⟨h3,h4⟩:=List.mem_filter.mp h1
   exact⟨y,h3,of_decide_eq_true h4,notIn_iff.mp h2,rfl⟩
  ·rintro ⟨y,h1,h2,h3,rfl⟩
   exact⟨y,List.mem_filter.mpr ⟨List.mem_filter.mpr ⟨h1,decide_eq_true h2⟩,notIn_iff.mpr h3⟩,rfl⟩
 have tk:(ws ++zdB hs (x::r) (ziQ ps x)).take (n+1)=ws.take (n+1):=List.take_append_of_le_length hn
 refine⟨List.nodup_append.mpr ⟨B.nd,?_,λa ha b hb z=>?_⟩,λw hm=>?_,List.mem_append_left _ B.root,λy q hq hr=>?_,λy a q ha hy ht hn'=>?_⟩
 ·unfold zdB
  exact List.pairwise_map.mpr (((nh.filter _).filter _).imp λh z=>h (List.cons.inj z).1)
 ·subst z
  obtain⟨y,h1,h2,h3,rfl⟩:=(kid a).mp hb
  exact hnot (B.src y (x::r) ha (by simp))
 ·rcases List.mem_append.mp hm with z|z
  ·exact B.sw w z
  ·obtain ⟨y,h1,h2,h3,rfl⟩:=(kid w).mp z
   exact(B.sw _ hw).cons h3 h2
 ·rw[tk]
  rcases List.mem_append.mp hq with z|z
  ·exact (zcA e).mpr (.inl (B.src y q z hr))
  ·obtain ⟨y',h1,h2,h3,e'⟩:=(kid _).mp z
   exact(zcA e).mpr (.inr (List.cons.inj e').2)
 ·rw[tk] at ha
  rcases(zcA e).mp ha with z|z
  ·exact List.mem_append_left _ (B.cl y a q z hy ht hn')
  ·cases z
   exact List.mem_append_right _ ((kid _).mpr ⟨y,hy,ht,hn',rfl⟩)
theorem Bf.all{g:Str}{hs:List Str}{ps:List (Str×Str)}{ws:List (List Str)}{n:Nat}(hg:g∈hs)(hp:∀p∈ps,p.1∈hs/\p.2∈hs)(B:Bf g hs ps ws n)(hn:ws.length<=n):∀w,w∈ws↔SW g ps w:=λw=>⟨B.sw w,λs=>by
 induction w with
 |nil=>obtain ⟨x,r,e⟩:=s.ne;cases e
 |cons y r ih=>
  cases r with
  |nil=>rw[s.one];exact B.root
  |cons x r=>
   obtain⟨h1,h2,h3⟩:=s.tail
   exact B.cl y x r (by rw[List.take_of_length_le hn];exact ih h1) (SW.mem hg hp s y List.mem_cons_self) h3 h2⟩
structure Df(g:Str)(ps:List (Str×Str))(M:List Str->Option (List Str))(L F:List (List Str)):Prop where
 nd:L.Nodup
 fnd:F.Nodup
 fsub:∀w∈F,w∈L
 sw:∀w∈L,SW g ps w/\M w≠none
 root:[g]∈L
 src:∀y r,y::r∈L->r≠ []->r∈L/\r∉F
 cl:∀y x r,x::r∈L->x::r∉F->mmS y x∈ps->y∉x::r->M (y::x::r)≠none->y::x::r∈L
structure DfW(g:Str)(ps:List (Str×Str))(M:List Str->Option (List Str))(x:Str)(r ds:List Str)(L F:List (List Str)):Prop where
 nd:L.Nodup
 fnd:F.Nodup
 fsub:∀w∈F,w∈L
 sw:∀w∈L,SW g ps w/\M w≠none
 root:[g]∈L
 src:∀y q,y::q∈L->q≠ []->q∈L/\q∉F
 me:x::r∈L/\x::r∉F
 zdB:∀y,y::x::r∈L->y∈ds
 cl:∀y a q,a::q∈L->a::q∉F->a::q≠x::r->mmS y a∈ps->y∉a::q->M (y::a::q)≠none->y::a::q∈L
 clw:∀y∈ds,y∉x::r->M (y::x::r)≠none->y::x::r∈L
section
variable{g x:Str}{ps:List (Str×Str)}{M:List Str->Option (List Str)}{r ds:List Str}{L F:List (List Str)}
end
end RW
namespace L2
open PySem PySem.Spec PyProof.Rows
section
variable{X:Cx}{pos:Pos}{pins:List (Addr×Obj)}{σ:St}{H:Hp}{s:Shared}
variable{K:PySem.W.Frag}
theorem zo5{tg e:Expr}{te:TE}(hK:X.K=K)(h:QE X e te):QI X tg e (zio K te):=by subst hK;exact zcw h
end
end L2
namespace RW
open PySem PySem.Spec PyProof.Rows L2
section
variable{X:Cx}
theorem zfE:CallR X (.type "dict") (λxs H Q=>∃d kvs,xs=[.ref d]/\H d=some (.dK kvs)/\∀p,H p=none->Q (.ref p) (upd H p (.dK kvs))):=by
 intro pins s σ H xs us Q I r h
 obtain⟨d,kvs,rfl,e,q⟩:=h
 obtain⟨u,rfl,ru⟩:=zck r
 cases ru
 obtain⟨z,hd,vs,rel,dd⟩:=zkd I.hok e
 have hf:H s.heap.objs.size=none:=I.hok.fresh (Nat.le_refl _)
 refine kt_call_dict hd dd (by rw[←rel.length];exact z) λh' dd' sb=>?_
 refine⟨.ref s.heap.objs.size,_,I.laid (t':=s.toks) (λb u hb=>?_) (Nat.le_refl _) (zgc z ?_ rel dd'),rfl,q _ hf⟩
 ·exact sb.extBut _ _ (Nat.ne_of_lt (Heap.lt_size hb)) (Heap.get?_push_of_some _ hb)
 ·exact beq_eq_false_iff_ne.mpr (Ne.symm (Nat.ne_of_lt I.big))
inductive ChAt(H:Hp):List (Key×V)->List (Str×Option (List Str))->Prop
 |nil:ChAt H [] []
 |cons {x:Str} {v:V} {o:Option (List Str)} {kvs:List (Key×V)} {cs:List (Str×Option (List Str))}:Told H v o->ChAt H kvs cs->ChAt H ((Sum.inr x,v)::kvs) ((x,o)::cs)
def oD:Option (List Str)->PyData
 |none=> .none
 |some w=> .tuple (zz w)
def chD(cs:List (Str×Option (List Str))):PyData:= .dict (cs.map λc=>(.str c.1,oD c.2))
theorem zfm{h:Heap}:∀{xs:List Str} {us:List Value},Vals (xs.map V.str) us->ReadsAll h us (zz xs) []
 |[],_, .nil=> .nil
 |x::xs,_, .cons r t=>by
  obtain⟨tk,rfl⟩:=r
  exact ReadsAll.cons (as:=[]) (bs:=[]) (.str x tk) (zfm t)
theorem zi7{pins:List (Addr×Obj)}{σ:L2.St}{H:Hp}{s:Shared}(I:Inv X pins σ H s){v:V}{u:Value}{o:Option (List Str)}(t:Told H v o)(r:RelV v u):Reads s.heap u (oD o) []:=by
 cases o with
 |none=>cases (show v= .non from t);cases r;exact .none
 |some w=>
  obtain⟨p,rfl,hp⟩:=t
  cases r
  obtain⟨its,rv,⟨o,g,c,n,dt⟩,_⟩:=I.tuple (SqT.of hp)
  exact .tuple g c dt (by rw[List.toList_toArray];exact zfm rv)
theorem zl2{pins:List (Addr×Obj)}{σ:L2.St}{H:Hp}{s:Shared}(I:Inv X pins σ H s){kvs:List (Key×V)}{cs:List (Str×Option (List Str))}(c:ChAt H kvs cs):∀{vs:List (Key×Value)} {es:List DictEntry},KV kvs vs->Pairs (zZ X.prog X.w) es vs->
 ReadsAll s.heap (es.map (·.key)) ((cs.map λc=>(PyData.str c.1,oD c.2)).map (·.1)) []/\ReadsAll s.heap (es.map (·.val)) ((cs.map λc=>(PyData.str c.1,oD c.2)).map (·.2)) []:=by
 induction c with
 |nil=>intro vs es k p;cases k;cases p;exact⟨.nil, .nil⟩
 |cons t c ih=>
  intro vs es k p
  cases k with
  |cons k kv=>
   cases p with
   | @cons e q es vs h1 h2 p=>
     obtain⟨r1,r2⟩:=ih kv p
     obtain⟨k1,k2⟩:=k
     have h1:zfq _ e.key=true:=h1
     rw[←k1] at h1
     rcases z8 h1 with⟨i,t',z,_⟩|⟨x',t',z,ez⟩
     ·cases z
     ·cases z
      refine⟨ReadsAll.cons (as:=[]) (bs:=[]) (by dsimp only;rw[ez];exact .str _ _) r1,ReadsAll.cons (as:=[]) (bs:=[]) ?_ r2⟩
      dsimp only
      rw[h2]
      exact zi7 I t k2
theorem zfY(hg:X.A.guards=some [])(hu:X.A.units+64<cLine):CallR X (.builtin "repr") (λxs H Q=>∃(a:Addr) (kvs:List (Key×V)) (cs:List (Str×Option (List Str))),xs=[.ref a]/\H a=some (.dK kvs)/\ChAt H kvs cs/\(chD cs).showable=true/\(chD cs).depth<=60/\(chD cs).shown.length<=sizeLine/\Q (.str (chD cs).shown) H):=by
 intro pins s σ H xs us Q I r h
 obtain⟨a,kvs,cs,rfl,e,ch,hs,hd,hl,q⟩:=h
 obtain⟨u,rfl,ru⟩:=zck r
 cases ru
 obtain⟨z,hz,vs,rel,o,es,ep,hg',ex,dat,ko,pr,nd⟩:=zkd I.hok e
 obtain⟨r1,r2⟩:=zl2 I ch rel pr
 have rd:Reads s.heap (.ref a) (chD cs) [a]:=Reads.dict (as:=[]) (bs:=[]) hg' ex.1 dat r1 r2
 refine repr_of_reads' rd hs (λ_ z=>?_) hg (by omega) (λb o e=>e) (λh' u tk hk=>?_) hl
 ·rw[List.mem_singleton.mp z] at hz
  simp at hz
 ·exact ⟨.str _,H,I.kept (t':=tk) hk,⟨u,rfl⟩,q⟩
theorem zek{hs:List Str}{ys:List V}{x:Str}{v:V}:∀{i:Nat},hs.Nodup->hs.length=ys.length->hs[i]?=some x->zbz (zw hs ys) (Sum.inr x) v=zw hs (ys.set i v):=by
 induction hs generalizing ys with
 |nil=>intro i _ _ e;cases e
 |cons a hs ih=>
  intro i nd hl e
  cases ys with
  |nil=>cases hl
  |cons y ys=>
   rw[List.nodup_cons] at nd
   cases i with
   |zero=>
    cases e
    have e0:zw (x::hs) (y::ys)=(Sum.inr x,y)::zw hs ys:=rfl
    rw[e0]
    unfold zbz
    rw[if_pos (by simp)]
    rw[List.map_cons,if_pos rfl]
    show _=(Sum.inr x,v)::zw hs ys
    congr 1
    refine(List.map_congr_left λkv hk=>?_).trans (List.map_id _)
    rw[if_neg]
    ·rfl
    ·intro z
     unfold zw at hk
     obtain⟨p,hp,rfl⟩:=List.mem_map.mp hk
     exact nd.1 ((Sum.inr.inj z)▸(List.of_mem_zip hp).1)
   |succ i=>
    rw[List.getElem?_cons_succ] at e
    have ih:=ih (i:=i) nd.2 (by simpa using hl) e
    have hx:a≠x:=λz=>nd.1 (z▸List.mem_of_getElem? e)
    have any:((zw hs ys).any λkv=>decide (kv.1=Sum.inr x))=true:=by
     obtain⟨hi,ei⟩:=List.getElem?_eq_some_iff.mp e
     have hy:i<ys.length:=by simp at hl;omega
     rw[List.any_eq_true]
     refine⟨(Sum.inr x,ys[i]),?_,by simp⟩
     unfold zw
     refine List.mem_map.mpr ⟨(x,ys[i]),?_,rfl⟩
     refine List.mem_of_getElem? (i:=i) ?_
     rw[List.getElem?_zip_eq_some]
     exact⟨e,List.getElem?_eq_getElem hy⟩
    show zbz ((Sum.inr a,y)::zw hs ys) (Sum.inr x) v=(Sum.inr a,y)::zw hs (ys.set i v)
    rw[←ih]
    unfold zbz
    rw[if_pos any,if_pos (by rw[List.any_cons,any,Bool.or_true]),List.map_cons,if_neg (λz=>hx (Sum.inr.inj z))]
end
end RW
namespace K22
open PySem PySem.Spec PyProof.Rows L2
def top(i:Nat):Stmt:=PySem.Challenge.pw_restways_k22_what_is_a_rest.main.body.getD i (.Pass ⟨0,0,0,0⟩)
abbrev zbF:Stmt:=top 3
abbrev zgB:List Str:=["thing"]
abbrev zcH:List Str:=["thing"]
theorem zk4:FnScope zgB zcH (zc zbF):=⟨rfl,rfl,rfl,by decide +kernel,rfl,by decide +kernel,by decide +kernel⟩
def zib:Scope:={kind:= .function,names:=[(".0", .local),("sign", .local)],isGenerator:=false,isCoroutine:=false,more:=[]}
theorem o_is_name_1:CompOk zgB (zc zbF) ["sign"] [none] zib:=⟨rfl,by decide +kernel,by decide +kernel,by decide +kernel,by decide +kernel,rfl,by decide +kernel⟩
abbrev zcE:Stmt:=top 5
abbrev zmg:List Str:=["thing","fewest","most"]
abbrev zdk:List Str:=["thing","fewest","most"]
theorem zl6:FnScope zmg zdk (zc zcE):=⟨rfl,rfl,rfl,by decide +kernel,rfl,by decide +kernel,by decide +kernel⟩
abbrev zaN:Stmt:=top 6
abbrev zeV:List Str:=["things"]
abbrev zbZ:List Str:=["things"]
theorem ziz:FnScope zeV zbZ (zc zaN):=⟨rfl,rfl,rfl,by decide +kernel,rfl,by decide +kernel,by decide +kernel⟩
def zgf:Scope:={kind:= .function,names:=[(".0", .local),("k", .local),("things", .free)],isGenerator:=false,isCoroutine:=false,more:=[]}
theorem o_is_rising_1:CompOk zeV (zc zaN) ["k","things"] [none,some 0] zgf:=⟨rfl,by decide +kernel,by decide +kernel,by decide +kernel,by decide +kernel,rfl,by decide +kernel⟩
abbrev zdu:Stmt:=top 8
abbrev zoL:List Str:=["cond","way","marks","to","word","about"]
abbrev zb7:List Str:=["cond","way","marks","to"]
theorem c_holds:FnScope zoL zb7 (zc zdu):=⟨rfl,rfl,rfl,by decide +kernel,rfl,by decide +kernel,by decide +kernel⟩
abbrev zbE:Stmt:=top 9
abbrev zi8:List Str:=["conds","way","marks","to","cond"]
abbrev zba:List Str:=["conds","way","marks","to"]
theorem c_all_hold:FnScope zi8 zba (zc zbE):=⟨rfl,rfl,rfl,by decide +kernel,rfl,by decide +kernel,by decide +kernel⟩
abbrev zbH:Stmt:=top 11
abbrev zjo:List Str:=["houses","thing"]
abbrev zcm:List Str:=["houses","thing"]
theorem zji:FnScope zjo zcm (zc zbH):=⟨rfl,rfl,rfl,by decide +kernel,rfl,by decide +kernel,by decide +kernel⟩
abbrev za0:Stmt:=top 12
abbrev zhQ:List Str:=["town","house"]
abbrev zbr:List Str:=["town","house"]
theorem zhd:FnScope zhQ zbr (zc za0):=⟨rfl,rfl,rfl,by decide +kernel,rfl,by decide +kernel,by decide +kernel⟩
abbrev zbB:Stmt:=top 13
abbrev zjl:List Str:=["town","house"]
abbrev zcl:List Str:=["town","house"]
theorem zjm:FnScope zjl zcl (zc zbB):=⟨rfl,rfl,rfl,by decide +kernel,rfl,by decide +kernel,by decide +kernel⟩
abbrev zde:Stmt:=top 14
abbrev zjG:List Str:=["town","house","ties"]
abbrev zeJ:List Str:=["town","house"]
theorem c_tied:FnScope zjG zeJ (zc zde):=⟨rfl,rfl,rfl,by decide +kernel,rfl,by decide +kernel,by decide +kernel⟩
def zmz:Scope:={kind:= .function,names:=[(".0", .local),("a", .local),("b", .local),("house", .free)],isGenerator:=false,isCoroutine:=false,more:=[]}
theorem o_tied_1:CompOk zjG (zc zde) ["a","b","house"] [none,none,some 1] zmz:=⟨rfl,by decide +kernel,by decide +kernel,by decide +kernel,by decide +kernel,rfl,by decide +kernel⟩
def zmW:Scope:={kind:= .function,names:=[(".0", .local),("a", .local),("b", .local),("house", .free)],isGenerator:=false,isCoroutine:=false,more:=[]}
theorem o_tied_2:CompOk zjG (zc zde) ["a","b","house"] [none,none,some 1] zmW:=⟨rfl,by decide +kernel,by decide +kernel,by decide +kernel,by decide +kernel,rfl,by decide +kernel⟩
abbrev zbR:Stmt:=top 15
abbrev zfK:List Str:=["town","thing","goal","houses"]
abbrev zc7:List Str:=["town","thing"]
theorem c_is_way:FnScope zfK zc7 (zc zbR):=⟨rfl,rfl,rfl,by decide +kernel,rfl,by decide +kernel,by decide +kernel⟩
def zjO:Scope:={kind:= .function,names:=[(".0", .local),("house", .local),("is_house", .globalImplicit),("houses", .free)],isGenerator:=false,isCoroutine:=false,more:=[]}
theorem o_is_way_1:CompOk zfK (zc zbR) ["house","houses"] [none,some 3] zjO:=⟨rfl,by decide +kernel,by decide +kernel,by decide +kernel,by decide +kernel,rfl,by decide +kernel⟩
def zje:Scope:={kind:= .function,names:=[(".0", .local),("k", .local),("tied", .globalImplicit),("thing", .free),("town", .free)],isGenerator:=false,isCoroutine:=false,more:=[]}
theorem o_is_way_2:CompOk zfK (zc zbR) ["k","thing","town"] [none,some 1,some 0] zje:=⟨rfl,by decide +kernel,by decide +kernel,by decide +kernel,by decide +kernel,rfl,by decide +kernel⟩
abbrev zab:Stmt:=top 17
abbrev zc8:List Str:=["marks","act","word","mark","others"]
abbrev zaO:List Str:=["marks","act"]
theorem c_marks_behind:FnScope zc8 zaO (zc zab):=⟨rfl,rfl,rfl,by decide +kernel,rfl,by decide +kernel,by decide +kernel⟩
def zeO:Scope:={kind:= .function,names:=[(".0", .local),("one", .local),("mark", .free)],isGenerator:=false,isCoroutine:=false,more:=[]}
theorem o_marks_behind_1:CompOk zc8 (zc zab) ["one","mark"] [none,some 3] zeO:=⟨rfl,by decide +kernel,by decide +kernel,by decide +kernel,by decide +kernel,rfl,by decide +kernel⟩
abbrev zcG:Stmt:=top 18
abbrev zlZ:List Str:=["town","way","marks","to","told","conds","act"]
abbrev zdf:List Str:=["town","way","marks","to"]
theorem c_handed:FnScope zlZ zdf (zc zcG):=⟨rfl,rfl,rfl,by decide +kernel,rfl,by decide +kernel,by decide +kernel⟩
abbrev zds:Stmt:=top 20
abbrev zo4:List Str:=["town","way","marks","conds","told"]
abbrev zdv:List Str:=["town","way","marks"]
theorem c_worth:FnScope zo4 zdv (zc zds):=⟨rfl,rfl,rfl,by decide +kernel,rfl,by decide +kernel,by decide +kernel⟩
abbrev zaW:Stmt:=top 21
abbrev zhG:List Str:=["town","way","marks"]
abbrev zbs:List Str:=["town","way","marks"]
theorem zhg:FnScope zhG zbs (zc zaW):=⟨rfl,rfl,rfl,by decide +kernel,rfl,by decide +kernel,by decide +kernel⟩
abbrev zC:Stmt:=top 22
abbrev za8:List Str:=["town","marked","keys"]
abbrev zac:List Str:=["town","marked"]
theorem c_most_liked_first:FnScope za8 zac (zc zC):=⟨rfl,rfl,rfl,by decide +kernel,rfl,by decide +kernel,by decide +kernel⟩
def zdl:Scope:={kind:= .function,names:=[(".0", .local),("way", .local),("marks", .local),("liking_key", .globalImplicit),("town", .free)],isGenerator:=false,isCoroutine:=false,more:=[]}
theorem o_most_liked_first_1:CompOk za8 (zc zC) ["way","marks","town"] [none,none,some 0] zdl:=⟨rfl,by decide +kernel,by decide +kernel,by decide +kernel,by decide +kernel,rfl,by decide +kernel⟩
def zdj:Scope:={kind:= .function,names:=[(".0", .local),("key", .local)],isGenerator:=false,isCoroutine:=false,more:=[]}
theorem o_most_liked_first_2:CompOk za8 (zc zC) ["key"] [none] zdj:=⟨rfl,by decide +kernel,by decide +kernel,by decide +kernel,by decide +kernel,rfl,by decide +kernel⟩
abbrev zaF:Stmt:=top 24
abbrev zgk:List Str:=["town","way","marks","house","told"]
abbrev za4:List Str:=["town","way","marks","house"]
theorem c_marks_ahead:FnScope zgk za4 (zc zaF):=⟨rfl,rfl,rfl,by decide +kernel,rfl,by decide +kernel,by decide +kernel⟩
abbrev zbG:Stmt:=top 25
abbrev zjn:List Str:=["town","way","told","at"]
abbrev zcp:List Str:=["town","way"]
theorem c_marks_of:FnScope zjn zcp (zc zbG):=⟨rfl,rfl,rfl,by decide +kernel,rfl,by decide +kernel,by decide +kernel⟩
abbrev zcf:Stmt:=top 27
abbrev zlJ:List Str:=["town","choice","house","marked","other","way","marks"]
abbrev zcK:List Str:=["town","choice","house"]
theorem c_offered:FnScope zlJ zcK (zc zcf):=⟨rfl,rfl,rfl,by decide +kernel,rfl,by decide +kernel,by decide +kernel⟩
abbrev zcc:Stmt:=top 28
abbrev zk8:List Str:=["town","choice","house","ways"]
abbrev zcN:List Str:=["town","choice"]
theorem c_is_rest:FnScope zk8 zcN (zc zcc):=⟨rfl,rfl,rfl,by decide +kernel,rfl,by decide +kernel,by decide +kernel⟩
abbrev zbi:Stmt:=top 30
abbrev ziA:List Str:=["_law_script","_law_k","_law_cell"]
abbrev zbX:List Str:=["_law_script","_law_k"]
theorem c__law_hand:FnScope ziA zbX (zc zbi):=⟨rfl,rfl,rfl,by decide +kernel,rfl,by decide +kernel,by decide +kernel⟩
abbrev zbn:Stmt:=top 31
abbrev zh6:List Str:=["_law_hand_here","_law_many","_law_digit","_law_turn","_law_mixed","_law_more"]
abbrev zQ:List Str:=["_law_hand_here","_law_many"]
theorem c__law_take:FnScope zh6 zQ (zc zbn):=⟨rfl,rfl,rfl,by decide +kernel,rfl,by decide +kernel,by decide +kernel⟩
abbrev zbl:Stmt:=top 32
abbrev ziS:List Str:=["_law_hand_here","_law_some"]
abbrev zH:List Str:=["_law_hand_here","_law_some"]
theorem ziP:FnScope ziS zH (zc zbl):=⟨rfl,rfl,rfl,by decide +kernel,rfl,by decide +kernel,by decide +kernel⟩
abbrev zay:Stmt:=top 33
abbrev zej:List Str:=["_law_hand_here","_law_many","_law_letters","_law_first","_law_step","_law_names_here","_law_kept","_law_spot","_law_k"]
abbrev zbw:List Str:=["_law_hand_here","_law_many"]
theorem c__law_names:FnScope zej zbw (zc zay):=⟨rfl,rfl,rfl,by decide +kernel,rfl,by decide +kernel,by decide +kernel⟩
def zf0:Scope:={kind:= .function,names:=[(".0", .local),("_law_k", .local),("_law_first", .free),("_law_letters", .free),("_law_step", .free)],isGenerator:=false,isCoroutine:=false,more:=[]}
theorem o__law_names_1:CompOk zej (zc zay) ["_law_k","_law_first","_law_letters","_law_step"] [none,some 3,some 2,some 4] zf0:=⟨rfl,by decide +kernel,by decide +kernel,by decide +kernel,by decide +kernel,rfl,by decide +kernel⟩
abbrev zbb:Stmt:=top 34
abbrev ziJ:List Str:=["_law_hand_here","_law_houses","_law_marks_here","_law_to","_law_way","_law_cond_here"]
abbrev zbN:List Str:=["_law_hand_here","_law_houses","_law_marks_here","_law_to"]
theorem c__law_cond:FnScope ziJ zbN (zc zbb):=⟨rfl,rfl,rfl,by decide +kernel,rfl,by decide +kernel,by decide +kernel⟩
abbrev zax:Stmt:=top 35
abbrev zer:List Str:=["_law_hand_here","_law_houses","_law_marks_here","_law_to","_law_many"]
abbrev zaT:List Str:=["_law_hand_here","_law_houses","_law_marks_here","_law_to"]
theorem c__law_conds:FnScope zer zaT (zc zax):=⟨rfl,rfl,rfl,by decide +kernel,rfl,by decide +kernel,by decide +kernel⟩
def zfu:Scope:={kind:= .function,names:=[(".0", .local),("_law_k", .local),("_law_cond", .globalImplicit),("_law_hand_here", .free),("_law_houses", .free),("_law_marks_here", .free),("_law_to", .free)],isGenerator:=false,isCoroutine:=false,more:=[]}
theorem o__law_conds_1:CompOk zer (zc zax) ["_law_k","_law_hand_here","_law_houses","_law_marks_here","_law_to"] [none,some 0,some 1,some 2,some 3] zfu:=⟨rfl,by decide +kernel,by decide +kernel,by decide +kernel,by decide +kernel,rfl,by decide +kernel⟩
abbrev zar:Stmt:=top 36
abbrev zfG:List Str:=["_law_hand_here","_law_houses","_law_marks_here","_law_some","_law_k","_law_number"]
abbrev zaR:List Str:=["_law_hand_here","_law_houses","_law_marks_here"]
theorem c__law_likings:FnScope zfG zaR (zc zar):=⟨rfl,rfl,rfl,by decide +kernel,rfl,by decide +kernel,by decide +kernel⟩
abbrev zaZ:Stmt:=top 37
abbrev zhO:List Str:=["_law_hand_here","_law_houses","_law_marks_here","_law_some","_law_k","_law_act"]
abbrev zbo:List Str:=["_law_hand_here","_law_houses","_law_marks_here"]
theorem c__law_hands:FnScope zhO zbo (zc zaZ):=⟨rfl,rfl,rfl,by decide +kernel,rfl,by decide +kernel,by decide +kernel⟩
abbrev zbm:Stmt:=top 38
abbrev ziZ:List Str:=["_law_hand_here","_law_houses","_law_more","_law_ties_here","_law_k","_law_a","_law_b"]
abbrev zbQ:List Str:=["_law_hand_here","_law_houses","_law_more"]
theorem c__law_ties:FnScope ziZ zbQ (zc zbm):=⟨rfl,rfl,rfl,by decide +kernel,rfl,by decide +kernel,by decide +kernel⟩
abbrev zav:Stmt:=top 39
abbrev zdg:List Str:=["_law_hand_here","_law_many","_law_names_here","_law_houses","_law_marks_here","_law_ties_here","_law_goal","_law_rising","_law_likings_here","_law_hands_here"]
abbrev zbM:List Str:=["_law_hand_here"]
theorem c__law_town:FnScope zdg zbM (zc zav):=⟨rfl,rfl,rfl,by decide +kernel,rfl,by decide +kernel,by decide +kernel⟩
def zgn:Scope:={kind:= .function,names:=[(".0", .local),("_law_house", .local),("_law_likings", .globalImplicit),("_law_hand_here", .free),("_law_marks_here", .free),("_law_names_here", .free)],isGenerator:=false,isCoroutine:=false,more:=[]}
theorem o__law_town_1:CompOk zdg (zc zav) ["_law_house","_law_hand_here","_law_marks_here","_law_names_here"] [none,some 0,some 4,some 2] zgn:=⟨rfl,by decide +kernel,by decide +kernel,by decide +kernel,by decide +kernel,rfl,by decide +kernel⟩
def zgi:Scope:={kind:= .function,names:=[(".0", .local),("_law_house", .local),("_law_hands", .globalImplicit),("_law_hand_here", .free),("_law_marks_here", .free),("_law_names_here", .free)],isGenerator:=false,isCoroutine:=false,more:=[]}
theorem o__law_town_2:CompOk zdg (zc zav) ["_law_house","_law_hand_here","_law_marks_here","_law_names_here"] [none,some 0,some 4,some 2] zgi:=⟨rfl,by decide +kernel,by decide +kernel,by decide +kernel,by decide +kernel,rfl,by decide +kernel⟩
abbrev zbe:Stmt:=top 40
abbrev zhZ:List Str:=["_law_cond_here","_law_way","_law_marks_here","_law_to","_law_word","_law_what","_law_among"]
abbrev zag:List Str:=["_law_cond_here","_law_way","_law_marks_here","_law_to"]
theorem c__law_sure:FnScope zhZ zag (zc zbe):=⟨rfl,rfl,rfl,by decide +kernel,rfl,by decide +kernel,by decide +kernel⟩
abbrev zce:Stmt:=top 41
abbrev zlv:List Str:=["_law_town_here","_law_rows","_law_house"]
abbrev zcd:List Str:=["_law_town_here","_law_rows","_law_house"]
theorem zlq:FnScope zlv zcd (zc zce):=⟨rfl,rfl,rfl,by decide +kernel,rfl,by decide +kernel,by decide +kernel⟩
abbrev zaB:Stmt:=top 42
abbrev zec:List Str:=["_law_town_here","_law_way","_law_marks_here","_law_conds_here","_law_number"]
abbrev zaU:List Str:=["_law_town_here","_law_way","_law_marks_here"]
theorem c__law_worth:FnScope zec zaU (zc zaB):=⟨rfl,rfl,rfl,by decide +kernel,rfl,by decide +kernel,by decide +kernel⟩
def zfU:Scope:={kind:= .function,names:=[(".0", .local),("_law_cond_here", .local),("_law_sure", .globalImplicit),("_law_marks_here", .free),("_law_way", .free)],isGenerator:=false,isCoroutine:=false,more:=[]}
theorem o__law_worth_1:CompOk zec (zc zaB) ["_law_cond_here","_law_marks_here","_law_way"] [none,some 2,some 1] zfU:=⟨rfl,by decide +kernel,by decide +kernel,by decide +kernel,by decide +kernel,rfl,by decide +kernel⟩
abbrev z9:Stmt:=top 43
abbrev zcv:List Str:=["_law_town_here","_law_way","_law_marks_here","_law_to","_law_conds_here","_law_act"]
abbrev za6:List Str:=["_law_town_here","_law_way","_law_marks_here","_law_to"]
theorem c__law_handed:FnScope zcv za6 (zc z9):=⟨rfl,rfl,rfl,by decide +kernel,rfl,by decide +kernel,by decide +kernel⟩
def zfa:Scope:={kind:= .function,names:=[(".0", .local),("_law_cond_here", .local),("_law_sure", .globalImplicit),("_law_marks_here", .free),("_law_to", .free),("_law_way", .free)],isGenerator:=false,isCoroutine:=false,more:=[]}
theorem o__law_handed_1:CompOk zcv (zc z9) ["_law_cond_here","_law_marks_here","_law_to","_law_way"] [none,some 2,some 3,some 1] zfa:=⟨rfl,by decide +kernel,by decide +kernel,by decide +kernel,by decide +kernel,rfl,by decide +kernel⟩
def ze9:Scope:={kind:= .function,names:=[(".0", .local),("_law_mark", .local),("_law_act", .free)],isGenerator:=false,isCoroutine:=false,more:=[]}
theorem o__law_handed_2:CompOk zcv (zc z9) ["_law_mark","_law_act"] [none,some 5] ze9:=⟨rfl,by decide +kernel,by decide +kernel,by decide +kernel,by decide +kernel,rfl,by decide +kernel⟩
abbrev zaV:Stmt:=top 44
abbrev zhE:List Str:=["_law_town_here","_law_way","_law_marks_here"]
abbrev zP:List Str:=["_law_town_here","_law_way"]
theorem c__law_marks:FnScope zhE zP (zc zaV):=⟨rfl,rfl,rfl,by decide +kernel,rfl,by decide +kernel,by decide +kernel⟩
abbrev zai:Stmt:=top 45
abbrev zdP:List Str:=["_law_town_here","_law_house"]
abbrev zaG:List Str:=["_law_town_here","_law_house"]
theorem zgu:FnScope zdP zaG (zc zai):=⟨rfl,rfl,rfl,by decide +kernel,rfl,by decide +kernel,by decide +kernel⟩
def zfc:Scope:={kind:= .function,names:=[(".0", .local),("_law_one", .local),("min", .globalImplicit),("max", .globalImplicit),("_law_house", .free),("_law_town_here", .free)],isGenerator:=false,isCoroutine:=false,more:=[]}
theorem o__law_beside_1:CompOk zdP (zc zai) ["_law_one","_law_house","_law_town_here"] [none,some 1,some 0] zfc:=⟨rfl,by decide +kernel,by decide +kernel,by decide +kernel,by decide +kernel,rfl,by decide +kernel⟩
abbrev zaK:Stmt:=top 46
abbrev zeS:List Str:=["_law_town_here","_law_found","_law_at","_law_way"]
abbrev zbV:List Str:=["_law_town_here"]
theorem c__law_ways:FnScope zeS zbV (zc zaK):=⟨rfl,rfl,rfl,by decide +kernel,rfl,by decide +kernel,by decide +kernel⟩
def zgp:Scope:={kind:= .function,names:=[(".0", .local),("_law_house", .local),("_law_way", .free)],isGenerator:=false,isCoroutine:=false,more:=[]}
theorem o__law_ways_1:CompOk zeS (zc zaK) ["_law_house","_law_way"] [none,some 3] zgp:=⟨rfl,by decide +kernel,by decide +kernel,by decide +kernel,by decide +kernel,rfl,by decide +kernel⟩
abbrev zbf:Stmt:=top 47
abbrev zh5:List Str:=["_law_town_here","_law_way"]
abbrev zbk:List Str:=["_law_town_here","_law_way"]
theorem ziN:FnScope zh5 zbk (zc zbf):=⟨rfl,rfl,rfl,by decide +kernel,rfl,by decide +kernel,by decide +kernel⟩
abbrev zau:Stmt:=top 48
abbrev zc3:List Str:=["_law_town_here","_law_some","_law_way"]
abbrev zbU:List Str:=["_law_town_here"]
theorem c__law_lets:FnScope zc3 zbU (zc zau):=⟨rfl,rfl,rfl,by decide +kernel,rfl,by decide +kernel,by decide +kernel⟩
def zgy:Scope:={kind:= .function,names:=[(".0", .local),("_law_house", .local)],isGenerator:=false,isCoroutine:=false,more:=[]}
theorem o__law_lets_1:CompOk zc3 (zc zau) ["_law_house"] [none] zgy:=⟨rfl,by decide +kernel,by decide +kernel,by decide +kernel,by decide +kernel,rfl,by decide +kernel⟩
def zgq:Scope:={kind:= .function,names:=[(".0", .local),("_law_house", .local),("sorted", .globalImplicit),("_law_some", .free)],isGenerator:=false,isCoroutine:=false,more:=[]}
theorem o__law_lets_2:CompOk zc3 (zc zau) ["_law_house","_law_some"] [none,some 1] zgq:=⟨rfl,by decide +kernel,by decide +kernel,by decide +kernel,by decide +kernel,rfl,by decide +kernel⟩
def zge:Scope:={kind:= .function,names:=[(".0", .local),("_law_spot", .local),("_law_way", .local)],isGenerator:=false,isCoroutine:=false,more:=[]}
def zgt:Scope:={kind:= .function,names:=[(".0", .local),("_law_house", .local),("sorted", .globalImplicit),("_law_some", .cell)],isGenerator:=false,isCoroutine:=false,more:=[]}
theorem o__law_lets_3:CompOk ["_law_house","_law_some"] zgt ["_law_spot","_law_way"] [none,none] zge:=⟨rfl,by decide +kernel,by decide +kernel,by decide +kernel,by decide +kernel,rfl,by decide +kernel⟩
abbrev zV:Stmt:=top 49
abbrev zcn:List Str:=["_law_town_here","_law_choice_here","_law_house","_law_some","_law_other","_law_way"]
abbrev zan:List Str:=["_law_town_here","_law_choice_here","_law_house"]
theorem c__law_offered:FnScope zcn zan (zc zV):=⟨rfl,rfl,rfl,by decide +kernel,rfl,by decide +kernel,by decide +kernel⟩
def zeM:Scope:={kind:= .function,names:=[(".0", .local),("_law_spot", .local),("_law_way", .local)],isGenerator:=false,isCoroutine:=false,more:=[]}
theorem o__law_offered_1:CompOk zcn (zc zV) ["_law_spot","_law_way"] [none,none] zeM:=⟨rfl,by decide +kernel,by decide +kernel,by decide +kernel,by decide +kernel,rfl,by decide +kernel⟩
def zeH:Scope:={kind:= .function,names:=[(".0", .local),("_law_way", .local),("_law_rank", .globalImplicit),("_law_town_here", .free)],isGenerator:=false,isCoroutine:=false,more:=[]}
theorem o__law_offered_2:CompOk zcn (zc zV) ["_law_way","_law_town_here"] [none,some 0] zeH:=⟨rfl,by decide +kernel,by decide +kernel,by decide +kernel,by decide +kernel,rfl,by decide +kernel⟩
abbrev zao:Stmt:=top 50
abbrev zf6:List Str:=["_law_town_here","_law_choice_here","_law_house","_law_due"]
abbrev zaL:List Str:=["_law_town_here","_law_choice_here"]
theorem c__law_is_rest:FnScope zf6 zaL (zc zao):=⟨rfl,rfl,rfl,by decide +kernel,rfl,by decide +kernel,by decide +kernel⟩
abbrev zaI:Stmt:=top 51
abbrev zgj:List Str:=["_law_hand_here","_law_town_here","_law_known","_law_choice_here","_law_house"]
abbrev za5:List Str:=["_law_hand_here","_law_town_here","_law_known"]
theorem c__law_choice:FnScope zgj za5 (zc zaI):=⟨rfl,rfl,rfl,by decide +kernel,rfl,by decide +kernel,by decide +kernel⟩
abbrev zas:Stmt:=top 52
abbrev zfM:List Str:=["_law_hand_here","_law_town_here","_law_choice_here","_law_turn","_law_house"]
abbrev zaP:List Str:=["_law_hand_here","_law_town_here","_law_choice_here"]
theorem c__law_settled:FnScope zfM zaP (zc zas):=⟨rfl,rfl,rfl,by decide +kernel,rfl,by decide +kernel,by decide +kernel⟩
abbrev zbg:Stmt:=top 53
abbrev ziO:List Str:=["_law_town_here","_law_choice_here","_law_text","_law_found"]
abbrev zbP:List Str:=["_law_town_here","_law_choice_here"]
theorem c__law_told:FnScope ziO zbP (zc zbg):=⟨rfl,rfl,rfl,by decide +kernel,rfl,by decide +kernel,by decide +kernel⟩
abbrev zdH:Stmt:=top 54
abbrev zrw:List Str:=["_law_script","_law_k","_law_hand_here","_law_town_here","_law_known","_law_turn","_law_choice_here","_law_house","_law_other"]
abbrev zkw:List Str:=["_law_script"]
theorem c_law:FnScope zrw zkw (zc zdH):=⟨rfl,rfl,rfl,by decide +kernel,rfl,by decide +kernel,by decide +kernel⟩
set_option genInjectivity false in
set_option genSizeOfSpec false in
set_option genSizeOf false in
structure Ev(K:PySem.W.Frag)(mg:Str->Option Value) where
 a_is_name:Addr
 d_is_name:FuncData
 is_name:RW.At K mg "is_name" zbF zcH a_is_name d_is_name
 a_is_row:Addr
 d_is_row:FuncData
 is_row:RW.At K mg "is_row" zcE zdk a_is_row d_is_row
 a_is_rising:Addr
 d_is_rising:FuncData
 is_rising:RW.At K mg "is_rising" zaN zbZ a_is_rising d_is_rising
 a_holds:Addr
 d_holds:FuncData
 holds:RW.AtD K mg "holds" zdu zb7 a_holds d_holds
 a_all_hold:Addr
 d_all_hold:FuncData
 all_hold:RW.AtD K mg "all_hold" zbE zba a_all_hold d_all_hold
 a_is_house:Addr
 d_is_house:FuncData
 is_house:RW.At K mg "is_house" zbH zcm a_is_house d_is_house
 a_likings_of:Addr
 d_likings_of:FuncData
 likings_of:RW.At K mg "likings_of" za0 zbr a_likings_of d_likings_of
 a_hands_of:Addr
 d_hands_of:FuncData
 hands_of:RW.At K mg "hands_of" zbB zcl a_hands_of d_hands_of
 a_tied:Addr
 d_tied:FuncData
 tied:RW.At K mg "tied" zde zeJ a_tied d_tied
 a_is_way:Addr
 d_is_way:FuncData
 is_way:RW.At K mg "is_way" zbR zc7 a_is_way d_is_way
 a_marks_behind:Addr
 d_marks_behind:FuncData
 marks_behind:RW.At K mg "marks_behind" zab zaO a_marks_behind d_marks_behind
 a_handed:Addr
 d_handed:FuncData
 handed:RW.At K mg "handed" zcG zdf a_handed d_handed
 a_worth:Addr
 d_worth:FuncData
 worth:RW.At K mg "worth" zds zdv a_worth d_worth
 a_liking_key:Addr
 d_liking_key:FuncData
 liking_key:RW.At K mg "liking_key" zaW zbs a_liking_key d_liking_key
 a_most_liked_first:Addr
 d_most_liked_first:FuncData
 most_liked_first:RW.At K mg "most_liked_first" zC zac a_most_liked_first d_most_liked_first
 a_marks_ahead:Addr
 d_marks_ahead:FuncData
 marks_ahead:RW.At K mg "marks_ahead" zaF za4 a_marks_ahead d_marks_ahead
 a_marks_of:Addr
 d_marks_of:FuncData
 marks_of:RW.At K mg "marks_of" zbG zcp a_marks_of d_marks_of
 a_offered:Addr
 d_offered:FuncData
 offered:RW.At K mg "offered" zcf zcK a_offered d_offered
 a_is_rest:Addr
 d_is_rest:FuncData
 is_rest:RW.At K mg "is_rest" zcc zcN a_is_rest d_is_rest
 a__law_hand:Addr
 d__law_hand:FuncData
 _law_hand:RW.At K mg "_law_hand" zbi zbX a__law_hand d__law_hand
 a__law_take:Addr
 d__law_take:FuncData
 _law_take:RW.At K mg "_law_take" zbn zQ a__law_take d__law_take
 a__law_pick:Addr
 d__law_pick:FuncData
 _law_pick:RW.At K mg "_law_pick" zbl zH a__law_pick d__law_pick
 a__law_names:Addr
 d__law_names:FuncData
 _law_names:RW.At K mg "_law_names" zay zbw a__law_names d__law_names
 a__law_cond:Addr
 d__law_cond:FuncData
 _law_cond:RW.At K mg "_law_cond" zbb zbN a__law_cond d__law_cond
 a__law_conds:Addr
 d__law_conds:FuncData
 _law_conds:RW.At K mg "_law_conds" zax zaT a__law_conds d__law_conds
 a__law_likings:Addr
 d__law_likings:FuncData
 _law_likings:RW.At K mg "_law_likings" zar zaR a__law_likings d__law_likings
 a__law_hands:Addr
 d__law_hands:FuncData
 _law_hands:RW.At K mg "_law_hands" zaZ zbo a__law_hands d__law_hands
 a__law_ties:Addr
 d__law_ties:FuncData
 _law_ties:RW.At K mg "_law_ties" zbm zbQ a__law_ties d__law_ties
 a__law_town:Addr
 d__law_town:FuncData
 _law_town:RW.At K mg "_law_town" zav zbM a__law_town d__law_town
 a__law_sure:Addr
 d__law_sure:FuncData
 _law_sure:RW.At K mg "_law_sure" zbe zag a__law_sure d__law_sure
 a__law_of:Addr
 d__law_of:FuncData
 _law_of:RW.At K mg "_law_of" zce zcd a__law_of d__law_of
 a__law_worth:Addr
 d__law_worth:FuncData
 _law_worth:RW.At K mg "_law_worth" zaB zaU a__law_worth d__law_worth
 a__law_handed:Addr
 d__law_handed:FuncData
 _law_handed:RW.At K mg "_law_handed" z9 za6 a__law_handed d__law_handed
 a__law_marks:Addr
 d__law_marks:FuncData
 _law_marks:RW.At K mg "_law_marks" zaV zP a__law_marks d__law_marks
 a__law_beside:Addr
 d__law_beside:FuncData
 _law_beside:RW.At K mg "_law_beside" zai zaG a__law_beside d__law_beside
 a__law_ways:Addr
 d__law_ways:FuncData
 _law_ways:RW.At K mg "_law_ways" zaK zbV a__law_ways d__law_ways
 a__law_rank:Addr
 d__law_rank:FuncData
 _law_rank:RW.At K mg "_law_rank" zbf zbk a__law_rank d__law_rank
 a__law_lets:Addr
 d__law_lets:FuncData
 _law_lets:RW.At K mg "_law_lets" zau zbU a__law_lets d__law_lets
 a__law_offered:Addr
 d__law_offered:FuncData
 _law_offered:RW.At K mg "_law_offered" zV zan a__law_offered d__law_offered
 a__law_is_rest:Addr
 d__law_is_rest:FuncData
 _law_is_rest:RW.At K mg "_law_is_rest" zao zaL a__law_is_rest d__law_is_rest
 a__law_choice:Addr
 d__law_choice:FuncData
 _law_choice:RW.At K mg "_law_choice" zaI za5 a__law_choice d__law_choice
 a__law_settled:Addr
 d__law_settled:FuncData
 _law_settled:RW.At K mg "_law_settled" zas zaP a__law_settled d__law_settled
 a__law_told:Addr
 d__law_told:FuncData
 _law_told:RW.At K mg "_law_told" zbg zbP a__law_told d__law_told
 a_law:Addr
 d_law:FuncData
 law:RW.At K mg "law" zdH zkw a_law d_law
 v_LONGEST:Value
 m_LONGEST:mg "LONGEST"=some v_LONGEST
 r_LONGEST:RelV (.int 8) v_LONGEST
 a_TAKEN:Addr
 m_TAKEN:mg "TAKEN"=some (.ref a_TAKEN)
 t_TAKEN:∀H,SqT K H a_TAKEN [.str "if", .str "and", .str "not", .str "never"]
 isinstance:mg "isinstance"=none
 str:mg "str"=none
 len:mg "len"=none
 int:mg "int"=none
 tuple:mg "tuple"=none
 range:mg "range"=none
 max:mg "max"=none
 min:mg "min"=none
 sorted:mg "sorted"=none
 enumerate:mg "enumerate"=none
 zip:mg "zip"=none
 dict:mg "dict"=none
 all:mg "all"=none
 reversed:mg "reversed"=none
 repr:mg "repr"=none
 list:mg "list"=none
 bool:mg "bool"=none
end K22
namespace K22
open PySem PySem.Spec PyProof.Rows L2 RW
local macro_rules | `(tactic|walk_at "cond")=> `(tactic|first|assumption|decide|omega|exact few rfl|exact .inl ⟨by decide,by decide⟩|exact .inr ⟨by decide,by decide⟩|exact .inl ⟨by omega,by omega⟩|exact .inr ⟨by omega,by omega⟩|exact⟨by omega,by omega⟩|exact⟨by assumption,by assumption⟩|exact⟨by decide,by decide,by decide⟩|exact .inr ⟨by split<;>decide,by split<;>decide⟩)
local macro_rules | `(tactic|walk_at "rd")=> `(tactic|first|with_reducible_and_instances refine⟨_,rfl,?_⟩|refine⟨_,rfl,?_⟩|refine⟨_,_,rfl,rfl,?_⟩|refine⟨_,_,_,_,rfl,rfl,SqL.of (by assumption),rfl,?_⟩|refine⟨_,_,_,_,rfl,rfl,(by assumption),rfl,?_⟩|refine .inl ⟨_,rfl,?_⟩|refine .inr ⟨_,rfl,?_⟩|refine .inl ⟨_,_,rfl, .inl (by assumption),?_⟩|refine⟨(by walk_at "cond"),?_⟩)
local macro_rules | `(tactic|walk_at "dsp")=> `(tactic|repeat' (first|exact dsp_str (by decide)|exact zpk|exact dsp_bl|exact zoG|exact zoJ|exact znh|exact dsp_dnew|exact dsp_disp rfl|exact znV rfl (by assumption)|refine zlQ ?_ ?_|refine dsp_tup ?_ ?_|refine dsp_lst' ?_|refine n_cons ?_ ?_|exact n_nil|exact v_c|exact v_var rfl|refine v_tup ?_|refine zmK ?_ ?_|refine dspl_cat ?_ ?_ ?_|exact dspl_var rfl (by assumption) (by assumption)|exact Nat.le_of_ble_eq_true rfl))
local macro_rules | `(tactic|walk_at "each")=> `(tactic|repeat' (first|exact zjh|refine List.forall_mem_append.mpr ⟨?_,?_⟩|refine List.forall_mem_cons.mpr ⟨?_,?_⟩))
section
variable{P:Program}{w:World}{K:PySem.W.Frag}{mg:Str->Option Value}{base:Heap}
def zpo:Sp:=λvs H Q _=>∃v d lo hi,vs=[v, .int lo, .int hi]/\Rep H v d/\∀H',Same H H'->Q (.bl (zb4 d lo hi)) H'
theorem zlX(Y:Ev K mg):FnOk P w K mg base CX0 1 Y.a_is_row Y.d_is_row zdk zpo:=by
 refine Y.is_row.fn.okQ zl6 (λvs H Q E h=>?_) (λcdv A outer s H vs Q E hr h=>?_)
 ·obtain ⟨v,d,lo,hi,rfl,_⟩:=h;rfl
 ·obtain ⟨v,d,lo,hi,rfl,hd,q⟩:=h
  have q:=q H (Same.refl H)
  obtain⟨t,ht,h1,h2,h3,h4⟩:=hd.isi (K:=K)
  refine⟨_,(zj (zt (zkO (zq zf4 Y.isinstance zcx (za (qv 0) (za (zqo Y.tuple za3) zd))) (zkH (zj4 zkL zkL (qv 1) (zq zD Y.len zaD (za (qv 0) zd)) (qv 2)))))),?_⟩
  refine⟨_,rfl,_,_,_,_,rfl,ht,h1,_,rfl,za7 (λe=>?_) (λe=>?_)⟩
  ·cases hd with
   | @tup p vs ds hp l b r=>
     refine⟨_,rfl,_,rfl, .inl ⟨p,vs,rfl, .inr (.inl (.inl hp)),_,_,rfl,rfl,_,rfl,za7 (λe1=>?_) (λe1=>?_)⟩⟩
     ·refine ⟨_,rfl,_,_,rfl,rfl,?_⟩
      have:zb4 (.tup ds) lo hi=decide ((vs.length:Int)<=hi):=by show(decide (lo<=(ds.length:Int))&&decide ((ds.length:Int)<=hi))=_;rw[←l,e1];rfl
      rw[this] at q;exact q
     ·have:zb4 (.tup ds) lo hi=false:=by show(decide (lo<=(ds.length:Int))&&decide ((ds.length:Int)<=hi))=_;rw[←l,tru e1];rfl
      rw[this] at q;exact q
   |_=>cases e
  ·have:zb4 d lo hi=false:=by cases d<;>first|rfl|exact absurd rfl e
   rw[this] at q;exact q
end
section
variable{P:Program}{w:World}{K:PySem.W.Frag}{mg:Str->Option Value}{base:Heap}
theorem zi0(Y:Ev K mg):FnOk P w K mg base CX0 1 Y.a_is_name Y.d_is_name zcH (zpv zbI):=by
 refine Y.is_name.fn.okQ zk4 (λvs H Q E h=>?_) (λcdv A outer s H vs Q E hr h=>?_)
 ·obtain ⟨v,d,rfl,_⟩:=h;rfl
 ·obtain ⟨v,d,rfl,hd,q⟩:=h
  refine⟨_,(ze (zad (t_w (zjb (zdO (zcM (zq zf4 Y.isinstance zcx (za (qv 0) (za (zqo Y.str zp2) zd))))) (zfQ (zdO (znZ zkL zkL zf (zq zD Y.len zaD (za (qv 0) zd)) (zl0 Y.m_LONGEST Y.r_LONGEST)))))) (zj (zt zc5)) zJ)
   (zj (zt (zkO (zq (zcg rfl) Y.all zev (za (zak (src:=[none]) o_is_name_1 rfl rfl (zrf (qv 0)) (λ_ _ _ _ _=>(zr 0 o_is_name_1.nd)) (λ_ _ _ _ _=>zbO) (λ_ _ _ _ _=>(zj4 zgQ zgQ zaq (qv 0) zaq))) zd)) (zkH (zb5 zc0 (qv 0) (zl0 (v:= .ref Y.a_TAKEN) Y.m_TAKEN rfl))))))),?_⟩
  obtain⟨t,ht,_,_,_,h4⟩:=hd.isi (K:=K)
  refine⟨_,rfl,_,_,_,_,rfl,ht,h4,_,rfl,?_⟩
  cases hd with
  |str x hx=>
   have hz:x.length<=sizeLine:=Nat.le_of_lt (zk hx)
   refine⟨_,rfl, .inr ⟨x,rfl,hz,_,_,rfl,rfl,_,rfl,?_⟩⟩
   refine za7 (λh1=>?_) (λh1=>?_)
   ·have h1':1<=x.length:=by
     have:=of_decide_eq_true h1
     omega
    refine⟨_,_,rfl,rfl,_,rfl,?_⟩
    cases h8:decide ((x.length:Int)<=8)with
    |false=>
     have e:zg x=false:=by
      have h8':=of_decide_eq_false h8
      have:decide (x.length<=8)=false:=decide_eq_false (by omega)
      unfold zg
      rw[this]
      simp
     have q:=q H (Same.refl H)
     rw[zcJ] at q
     rw[e] at q
     exact q
    |true=>
     have h8':x.length<=8:=by
      have:=of_decide_eq_true h8
      omega
     refine⟨_,rfl,x,rfl,?_⟩
     refine zX zqc (λl i ys σ' H'=>(∃o,σ'=[o])/\ys=(x.cps.toList.take i).map (λc=>V.bl (zaC c))/\H'=upd H l (.lst ys)) ?_ (λ_ _ _ _ _ _ _=>trivial) ?_ ?_
     ·exact λl hl=>⟨⟨_,rfl⟩,rfl,rfl⟩
     ·rintro l i y ys σ' H' hl hi ⟨c,hc,rfl⟩ ⟨⟨o,rfl⟩,rfl,rfl⟩ hl'
      repeat walk_at "rd"
      have hc':x.cps.toList[i]?=some c:=by simpa using hc
      have tk:(x.cps.toList.take i).map (λc=>V.bl (zaC c))++ [V.bl (zaC c)]=(x.cps.toList.take (i+1)).map (λc=>V.bl (zaC c)):=by
       rw[List.take_add_one,hc']
       simp
      have ll:((x.cps.toList.take i).map (λc=>V.bl (zaC c))).length<sizeLine:=Nat.lt_of_le_of_lt (by rw[List.length_map,List.length_take];omega) (zk (n:=8) (by decide))
      rw[zr0]
      refine za7 (λha=>⟨_,_,rfl,rfl,hl',ll,⟨_,rfl⟩,?_,zkf⟩) (λha=>⟨hl',ll,⟨_,rfl⟩,?_,zkf⟩)
      ·rw[zrS,←tk]
       congr 2
       unfold zaC
       have ha':¬c<97:=by simpa using ha
       by_cases hq:122<c
       ·rw[decide_eq_true hq,decide_eq_false (show¬c<=122 by omega)];simp
       ·rw[decide_eq_false hq,decide_eq_true (show c<=122 by omega),decide_eq_true (show 97<=c by omega)];rfl
      ·rw[←tk]
       congr 2
       unfold zaC
       have ha':c<97:=by simpa using ha
       rw[decide_eq_false (show¬97<=c by omega)];rfl
     ·rintro l ys σ' H' hl ⟨⟨o,rfl⟩,rfl,rfl⟩ hl'
      have tk:(x.cps.toList.take x.length).map (λc=>V.bl (zaC c))=(x.cps.toList.map zaC).map V.bl:=by
       rw[List.take_of_length_le (by simp[Str.length]),List.map_map]
       rfl
      rw[tk] at hl'
      rw[tk]
      refine⟨l,_,rfl,SqL.of hl',_,rfl,?_⟩
      have sm:Same H (upd H l (.lst ((x.cps.toList.map zaC).map V.bl))):=Same.new hl
      have ea:(x.cps.toList.map zaC).all id=x.cps.toList.all zaC:=by rw[List.all_map];rfl
      rw[ea]
      refine za7 (λhA=>?_) (λhA=>?_)
      ·refine ⟨_,rfl,Y.a_TAKEN,_,rfl, .inr (Y.t_TAKEN _),rfl,rfl,?_⟩
       have e:zg x=!inV (.str x) (takenL.map V.str):=by
        unfold zg inV
        rw[hA,decide_eq_true h1',decide_eq_true h8',List.any_map]
        simp only[Bool.true_and]
        congr 2
       have q:=q _ sm
       rw[zcJ] at q
       rw[e] at q
       exact q
      ·have e:zg x=false:=by
        unfold zg
        have:x.cps.toList.all zaC=false:=by simpa using hA
        rw[this]
        simp
       have q:=q _ sm
       rw[zcJ] at q
       rw[e] at q
       exact q
   ·have e:zg x=false:=by
     have h1':¬(1:Int)<=(x.length:Int):=λz=>h1 (decide_eq_true z)
     have:decide (1<=x.length)=false:=decide_eq_false (by omega)
     unfold zg
     rw[this]
     simp
    have q:=q H (Same.refl H)
    rw[zcJ] at q
    rw[e] at q
    exact⟨_,rfl,q⟩
  |_=>exact q H (Same.refl H)
end
section
variable{P:Program}{w:World}{K:PySem.W.Frag}{mg:Str->Option Value}{base:Heap}
def zkY:Sp:=λvs H Q _=>∃u v d hs,vs=[u,v]/\HsAt H u hs/\Rep H v d/\∀H',Same H H'->Q (.bl (zaa hs d)) H'
theorem ziG(Y:Ev K mg):FnOk P w K mg base CX0 2 Y.a_is_house Y.d_is_house zcm zkY:=by
 have G_is_name:FnOk P w K mg base CX0 1 Y.a_is_name Y.d_is_name zcH (zpv zbI):=zi0 Y
 refine Y.is_house.fn.okQ zji (λvs H Q E h=>?_) (λcdv A outer s H vs Q E hr h=>?_)
 ·obtain ⟨u,v,d,hs,rfl,_⟩:=h;rfl
 ·obtain ⟨u,v,d,hs,rfl,⟨p,rfl,hp,hl,hn⟩,hd,q⟩:=h
  refine⟨_,(zj (zt (zkO (zh G_is_name (hr.mono (by decide)) Y.is_name.mg Y.is_name.kp Y.is_name.b .nil zn (za (qv 1) zd)) (zkH (zb5 zcO (qv 1) (qv 0)))))),?_⟩
  refine⟨_,rfl,v,d,rfl,hd,λH1 s1=>⟨_,rfl,za7 (λe=>?_) (λe=>?_)⟩⟩
  ·cases d with
   |str x=>
    cases hd
    refine⟨_,rfl,_,rfl,p,_,rfl, .inr (.inl (.inl (s1 _ _ hp))),rfl,zaH,?_⟩
    have q:=q H1 s1
    have ea:zaa hs (.str x)=inV (.str x) (hs.map V.str):=by
     show(zg x&&hs.any λy=>decide (y=x))=_
     rw[zbu,show zg x=true from e];rfl
    rw[ea] at q
    exact q
   |_=>cases e
  ·have q:=q H1 s1
   have ea:zaa hs d=false:=by
    show(zbI d&&inD hs d)=false
    rw[tru e];rfl
   rw[ea] at q
   exact q
end
section
variable{P:Program}{w:World}{K:PySem.W.Frag}{mg:Str->Option Value}{base:Heap}
def zcU:Sp:=λvs H Q _=>∃(a:Addr) (k n:Int),vs=[.ref a, .int k]/\Hand H a n/\n<2^40/\0<k/\k<1073741824/\∀d H',0<=d->d<k->Hand H' a (n+1)->Keep a H H'->Q (.int d) H'
theorem zct(Y:Ev K mg):FnOk P w K mg base CX0 1 Y.a__law_take Y.d__law_take zQ zcU:=by
 refine Y._law_take.fn.okQ c__law_take (λvs H Q E h=>?_) (λcdv A outer s H vs Q E hr h=>?_)
 ·obtain ⟨a,k,n,rfl,_⟩:=h
  rfl
 ·obtain ⟨a,k,n,rfl,⟨x,m,t,hH,m0,m1,t0,t1⟩,hn,k0,k1,q⟩:=h
  refine⟨_,(ze (zad (zy zh2 (zN ix_list (qv 0) zf) zf) (ze (zu 2 c__law_take.nd (zL zcY (zN ix_list (qv 0) zf) (qv 1)))
   (ze (ze0 (zL zhL (zN ix_list (qv 0) zf) (qv 1)) (znB (qv 0) zf zf9))
   (zj (zt (qv 2))))) zJ)
   (ze (ze0 (zL zal (zN ix_list (qv 0) zf) zf) (znB (qv 0) zf zf9))
   (ze (zu 3 c__law_take.nd (zN ix_list (qv 0) zf))
   (ze (zu 4 c__law_take.nd (zL zcY (zL zbC (zN ix_list (qv 0) zf) (zL zal (zL zal zf (zL zbC (zL zbC zf (qv 3)) (qv 3))) (zL zbC zf (qv 3)))) zf))
   (ze (zu 5 c__law_take.nd (zL zal (zL zal (zL zcY (qv 4) zf) (zL zbC (qv 3) zf)) zf))
   (ze (zu 4 c__law_take.nd (zL zcY (zL zbC (qv 4) (qv 5)) zf))
   (zj (zt (zL zcY (zL zal (zL zhL (qv 4) zf) (zL zhL (qv 4) zf)) (qv 1)))))))))),?_⟩
  repeat walk_at "rd"
  refine za7 (λhx=>?_) (λhx=>?_)
  ·repeat walk_at "rd"
   exact q _ _ (Int.emod_nonneg _ (by omega)) (Int.emod_lt_of_pos _ k0) ⟨_,m,t,zb,m0,m1,t0,by omega⟩ (Keep.upd _ _ _)
  ·refine ⟨_,rfl,a,_,_,_,rfl,rfl,SqL.of hH,rfl,_,_,rfl,rfl,_,rfl,a,_,_,_,rfl,rfl,hH,rfl,?_⟩
   have h2:upd H a (.lst [.int x, .int m, .int (t+1)]) a=some (.lst [.int x, .int m, .int (t+1)]):=zb
   repeat walk_at "rd"
   exact q _ _ (Int.emod_nonneg _ (by omega)) (Int.emod_lt_of_pos _ k0) ⟨_,m,_,zb,m0,m1,by omega,by omega⟩ (Keep.upd _ _ _)
def zbt(K:PySem.W.Frag):Sp:=λvs H Q _=>∃(a:Addr) (n:Int),Hand H a n/\n<2^40/\
 ((∃(b:Addr) (xs:List V),vs=[.ref a, .ref b]/\b≠a/\SqL K H b xs/\0<xs.length/\xs.length<1000/\∀v H',v∈xs->Hand H' a (n+1)->Keep a H H'->Q v H')\/
  (∃z:Str,vs=[.ref a, .str z]/\0<z.length/\z.length<1000/\∀c H',c∈z.cps.toList->Hand H' a (n+1)->Keep a H H'->Q (.str (one c)) H'))
theorem zbL(Y:Ev K mg):FnOk P w K mg base CX0 2 Y.a__law_pick Y.d__law_pick zH (zbt K):=by
 have G__law_take:FnOk P w K mg base CX0 1 Y.a__law_take Y.d__law_take zQ zcU:=zct Y
 refine Y._law_pick.fn.okQ ziP (λvs H Q E h=>?_) (λcdv A outer s H vs Q E hr h=>?_)
 ·obtain ⟨a,n,_,_,⟨b,xs,rfl,_⟩|⟨z,rfl,_⟩⟩:=h<;>rfl
 ·obtain ⟨a,n,hH,hn,h⟩:=h
  have hl:∀m:Nat,m<1000->m<=sizeLine:=λm h=>Nat.le_of_lt (zk (Nat.le_of_lt h))
  rcases h with⟨b,xs,rfl,hb,hS,x0,x1,q⟩|⟨z,rfl,z0,z1,q⟩
  ·refine ⟨_,(zj (zt (zN zjL (qv 1) (zh G__law_take (hr.mono (by decide)) Y._law_take.mg Y._law_take.kp Y._law_take.b .nil zn (za (qv 0) (za (zq zD Y.len zaD (za (qv 1) zd)) zd)))))),?_⟩
   refine⟨_,rfl,_,rfl,_,rfl, .inl ⟨b,xs,rfl, .inl hS,a,_,n,rfl,hH,hn,by omega,by omega,λd H' h0 h1 hH' kp=>?_⟩⟩
   obtain⟨v,e,hv⟩:=zfi h0 h1
   exact .inl ⟨b,xs,d,v,rfl,rfl,kp.sqL hb hS,e,q v H' hv hH' kp⟩
  ·refine ⟨_,(zj (zt (zN zjL (qv 1) (zh G__law_take (hr.mono (by decide)) Y._law_take.mg Y._law_take.kp Y._law_take.b .nil zn (za (qv 0) (za (zq zD Y.len zaD (za (qv 1) zd)) zd)))))),?_⟩
   refine⟨_,rfl,_,rfl,_,rfl, .inr ⟨z,rfl,hl _ z1,a,_,n,rfl,hH,hn,by omega,by omega,λd H' h0 h1 hH' kp=>?_⟩⟩
   obtain⟨c,e,hc⟩:=zfi (xs:=z.cps.toList) h0 (by simpa[Str.length] using h1)
   exact .inr (.inr ⟨z,d,c,rfl,rfl,hl _ z1,e,q c H' hc hH' kp⟩)
def zm4(K:PySem.W.Frag):Sp:=λvs H Q _=>∃(b:Addr) (ns:List Int) (k:Int),vs=[.ref b, .int k]/\SqL K H b (ns.map V.int)/\0<=k/\k<1000/\∀a H',H a=none->Hand H' a 0->Same H H'->Q (.ref a) H'
theorem znX(Y:Ev K mg):FnOk P w K mg base CX0 1 Y.a__law_hand Y.d__law_hand zbX (zm4 K):=by
 refine Y._law_hand.fn.okQ c__law_hand (λvs H Q E h=>?_) (λcdv A outer s H vs Q E hr h=>?_)
 ·obtain ⟨a,k,n,rfl,_⟩:=h
  rfl
 ·obtain ⟨b,ns,k,rfl,hS,k0,k1,q⟩:=h
  refine⟨_,(ze (zu 2 c__law_hand.nd zf)
   (ze (zad (zy zpu (qv 1) (zq zD Y.len zaD (za (qv 0) zd))) (zj (zu 2 c__law_hand.nd (zN ix_list (qv 0) (qv 1)))) zJ)
   (zj (zt (zb0 (za (zL zbC (qv 2) (zU zdA Y.int zhK (za (zb5 zpE (qv 2) (zL zqx zf zf)) zd))) (za (zL zal (zL zal (zL zcY (qv 2) zf) (zL zbC zf (qv 1))) zf) (za zf zd)))))))),?_⟩
  refine⟨_,rfl,_,rfl, .inl ⟨b,_,rfl, .inl hS,_,_,rfl,rfl,_,rfl,?_⟩⟩
  refine za7 (λhx=>?_) (λhx=>?_)
  ·have hx':k<((ns.map V.int).length:Int):=of_decide_eq_true hx
   obtain⟨v,e,hv⟩:=zfi k0 hx'
   obtain⟨c,_,rfl⟩:=List.mem_map.mp hv
   refine⟨_,rfl,_,rfl,b,_,k,_,rfl,rfl,hS,e,?_⟩
   repeat walk_at "rd"
   intro p hp
   exact q p _ hp ⟨_,_,_,zb,by omega,by omega,by decide,by decide⟩ (λb' o hb'=>by rw[zi (zl hb' hp)];exact hb')
  ·repeat walk_at "rd"
   intro p hp
   exact q p _ hp ⟨_,_,_,zb,by omega,by omega,by decide,by decide⟩ (λb' o hb'=>by rw[zi (zl hb' hp)];exact hb')
end
section
variable{P:Program}{w:World}{K:PySem.W.Frag}{mg:Str->Option Value}{base:Heap}
def zii:Sp:=λvs H Q _=>∃(a:Addr) (n:Int) (m:Nat),vs=[.ref a, .int m]/\Hand H a n/\n<2^39/\4<=m/\m<=13/\∀(l:Addr) (xs:List Str) (H':Hp),H l=none->H' l=some (.lst (xs.map V.str))->xs.length=m->(∀x∈xs,zg x=true)->xs.Nodup->(∀x∈xs,x≠"nowhere")->Hand H' a (n+4)->Keep a H H'->Q (.ref l) H'
theorem zlA(Y:Ev K mg):FnOk P w K mg base CX0 3 Y.a__law_names Y.d__law_names zbw zii:=by
 have G__law_take:FnOk P w K mg base CX0 1 Y.a__law_take Y.d__law_take zQ zcU:=zct Y
 have G__law_pick:FnOk P w K mg base CX0 2 Y.a__law_pick Y.d__law_pick zH (zbt K):=zbL Y
 refine Y._law_names.fn.okQ c__law_names (λvs H Q E h=>?_) (λcdv A outer s H vs Q E hr h=>?_)
 ·obtain ⟨a,n,m,rfl,_⟩:=h;rfl
 ·obtain ⟨a,n,m,rfl,hH,hn,m4,m13,q⟩:=h
  refine⟨_,(ze (zdh 2 c__law_names.nd zaq)
   (ze (zdh 3 c__law_names.nd (zh G__law_take (hr.mono (by decide)) Y._law_take.mg Y._law_take.kp Y._law_take.b .nil zn (za (qv 0) (za zf zd))))
   (ze (zdh 4 c__law_names.nd (zh G__law_pick (hr.mono (by decide)) Y._law_pick.mg Y._law_pick.kp Y._law_pick.b .nil zn (za (qv 0) (za (zeR [V.int 1,V.int 3,V.int 5,V.int 7,V.int 9,V.int 11] (by decide +kernel)) zd))))
   (ze (zgL 5 (src:=[none,some 3,some 2,some 4]) o__law_names_1 rfl rfl c__law_names.nd (zci Y.range (za (qv 1) zd)) (λ_ _ _ _ _=>(zr 0 o__law_names_1.nd)) (λ_ _ _ _ _=>zbO) (λ_ _ _ _ _=>(zL ziT (zN zm1 (qc 2) (zL zcY (zL zal (qc 1) (zL zbC (qc 3) (qv 0))) zf)) (zL zal zf (zL zcY (zL zal (zL zbC (qv 0) (qv 0)) (qc 1)) zf)))))
   (zij (zad (zy zam (zh G__law_take (hr.mono (by decide)) Y._law_take.mg Y._law_take.kp Y._law_take.b .nil zn (za (qv 0) (za zf zd))) zf) (ze (zu 6 c__law_names.nd (zeR [V.str "goal",V.str "to",V.str "by",V.str "houses",V.str "tie",V.str "like",V.str "hand",V.str "keep",V.str "put",V.str "mark",V.str "long",V.str "from",V.str "strike"] (by decide +kernel)))
   (ze (zu 7 c__law_names.nd (zh G__law_take (hr.mono (by decide)) Y._law_take.mg Y._law_take.kp Y._law_take.b .nil zn (za (qv 0) (za zf zd))))
   (zj (za2 PassesOwn.never rfl (zci Y.range (za (zq (zgX rfl) Y.min zfL (za (qv 1) (za zf zd))) zd)) (zr 8 c__law_names.nd) (zj (ze0 (zN ix_list (qv 6) (zL zcY (zL zal (qv 7) (zL zbC zf (qv 8))) zf)) (znB (qv 5) (qv 8) zf9))))))) zJ)
   (zj (zt (qv 5)))))))),?_⟩
  refine⟨_,rfl,a,26,n,rfl,hH,by omega,by decide,by decide,λf' H1 f0 f26 hH1 k1=>?_⟩
  obtain⟨f,rfl⟩:∃f:Nat,f'=(f:Int):=⟨f'.toNat,by omega⟩
  refine⟨_,rfl,by decide,λpl hpl=>⟨a,n+1,hH1.new hpl,by omega, .inl ⟨pl,_,rfl,hH1.ne hpl,SqL.of zb,by decide,by decide,λv H2 hv hH2 k2=>?_⟩⟩⟩
  obtain⟨st,rfl,st0,st11⟩:∃st:Nat,v= .int (st:Int)/\st∈zmf/\st<=11:=by
   simp only[List.mem_cons,List.not_mem_nil,or_false] at hv
   rcases hv with rfl|rfl|rfl|rfl|rfl|rfl
   ·exact ⟨1,rfl,by decide,by decide⟩
   ·exact ⟨3,rfl,by decide,by decide⟩
   ·exact ⟨5,rfl,by decide,by decide⟩
   ·exact ⟨7,rfl,by decide,by decide⟩
   ·exact ⟨9,rfl,by decide,by decide⟩
   ·exact ⟨11,rfl,by decide,by decide⟩
  have kp2:Keep a H H2:=k1.trans ((Keep.new hpl).trans k2)
  refine⟨_,rfl,m,rfl,by omega,by omega,?_⟩
  refine zX zb2 (λl i ys σ' H'=>(∃o,σ'=[o,some (.int (f:Int)),some (.str lettersS),some (.int (st:Int))])/\ys=((List.range i).map (nmS f st)).map V.str/\Hand H' a (n+1+1)/\Keep a H2 H') ?_ (λ_ _ _ _ _ _ _=>trivial) ?_ ?_
  ·exact λl hl=>⟨⟨_,rfl⟩,rfl,hH2.new hl,Keep.new hl⟩
  ·rintro l i y ys σ' H' hl hi rfl ⟨⟨o,rfl⟩,rfl,hH',k'⟩ hl'
   have hi13:i<13:=by have:i<m:=by omega
                      omega
   have hr26:(f+st*i)%26<26:=Nat.mod_lt _ (by decide)
   have ei:((f:Int)+(st:Int)*(0+(i:Int)))%26=(((f+st*i)%26:Nat):Int):=by rw[Int.zero_add];push_cast;rfl
   have ec:atI lettersS.cps.toList (((f:Int)+(st:Int)*(0+(i:Int)))%26)=some (97+(f+st*i)%26):=by
    rw[ei];exact zI (zfz _ (List.mem_range.mpr hr26))
   have en:(1+((0+(i:Int))*(0+(i:Int))+(f:Int))%8)=((1+(i*i+f)%8:Nat):Int):=by rw[Int.zero_add];push_cast;rfl
   have g8:(i*i+f)%8<8:=Nat.mod_lt _ (by decide)
   refine⟨_,rfl,_,rfl,_,rfl,_,rfl,_,_,rfl,rfl, .inl ⟨by omega,by omega⟩,_,_,rfl,rfl,_,_,rfl,rfl,(by decide:(0:Int)<26),lettersS,_,_,rfl,rfl,by rw[ziF];decide,ec,_,rfl,_,rfl,_,_,rfl,rfl, .inl ⟨by omega,by omega⟩,_,rfl,_,_,rfl,rfl,_,_,rfl,rfl,(by decide:(0:Int)<8),_,_,rfl,rfl,one (97+(f+st*i)%26),_,rfl,rfl,by rw[en];omega,by rw[en];omega,by rw[zkr];decide,by rw[zkr];decide,?_⟩
   have nl:=hH2.ne hl
   refine⟨hl',?_,⟨_,rfl⟩,?_,hH'.updNe nl,k'.updNew hl⟩
   ·rw[List.length_map,List.length_map,List.length_range];exact zk (by omega)
   ·rw[en,Int.toNat_natCast,List.range_succ,List.map_append,List.map_append];rfl
  ·rintro l ys σ' H3 hl ⟨⟨o,rfl⟩,rfl,hH3,k3⟩ hl'
   have nl:=hH2.ne hl
   rw[Int.toNat_natCast] at hl'
   have e0:(List.range m).map (nmS f st)=(List.range m).map (zbv f st 0 0):=by
    apply List.map_congr_left
    intro k _
    unfold zbv
    rw[if_neg (by omega)]
   have hln:H l=none:=by
    cases e:H l with
    |none=>rfl
    |some o=>exact absurd (kp2 l o nl e) (by rw[hl];exact λz=>nomatch z)
   refine⟨λσ' H'=>(∃o6 o7 o8,σ'=[some (.ref a),some (.int m),some (.str lettersS),some (.int (f:Int)),some (.int (st:Int)),some (.ref l),o6,o7,o8])/\(∃sp j:Nat,H' l=some (.lst (((List.range m).map (zbv f st sp j)).map V.str))/\sp<13/\j<=4)/\Hand H' a (n+4)/\Keep a H H',?_,?_⟩
   ·refine ⟨_,rfl,a,6,n+1+1,rfl,hH3,by omega,by decide,by decide,λd H4 d0 d6 hH4 k4=>⟨rfl,_,rfl,za7 (λ_=>?_) (λ_=>?_)⟩⟩
    ·have hl4:=k4 _ _ nl hl'
     have kp4:Keep a H H4:=(kp2.trans k3).trans k4
     refine⟨by decide,λpk hpk=>?_⟩
     have npl:pk≠l:=λz=>by rw[z,hl4] at hpk;cases hpk
     have npa:=hH4.ne hpk
     refine⟨_,rfl,a,13,n+1+1+1,rfl,hH4.new hpk,by omega,by decide,by decide,λsp' H5 sp0 sp13 hH5 k5=>?_⟩
     obtain⟨sp,rfl⟩:∃f:Nat,sp'=(f:Int):=⟨sp'.toNat,by omega⟩
     refine⟨_,rfl,_,_,rfl,_,rfl,?_,?_,?_⟩
     ·split<;>omega
     ·split<;>omega
     have e4:(if(4:Int)<(m:Int)then(4:Int)else(m:Int)).toNat=4:=by split<;>omega
     rw[e4]
     refine zae zb2 (λi σ' H'=>(∃o8,σ'=[some (.ref a),some (.int m),some (.str lettersS),some (.int (f:Int)),some (.int (st:Int)),some (.ref l),some (.ref pk),some (.int (sp:Int)),o8])/\H' l=some (.lst (((List.range m).map (zbv f st sp i)).map V.str))/\Hand H' a (n+4)/\Keep a H H'/\H' pk=some (.lst (keptL.map V.str))) ?_ (λ_ _ _ _=>trivial) ?_ ?_
     ·refine ⟨⟨_,rfl⟩,?_,hH5.mono (by omega),kp4.trans ((Keep.new hpk).trans k5),k5 _ _ npa zb⟩
      have e0':(List.range m).map (nmS f st)=(List.range m).map (zbv f st sp 0):=by
       apply List.map_congr_left
       intro k _
       unfold zbv
       rw[if_neg (by omega)]
      rw[←e0']
      exact k5 _ _ nl (by rw[zi (Ne.symm npl)];exact hl4)
     ·rintro i y σ' H6 hi4 rfl ⟨⟨o8,rfl⟩,hz,hH6,k6,hp6⟩
      have ek:((sp:Int)+3*(0+(i:Int)))%13=(((sp+3*i)%13:Nat):Int):=by rw[Int.zero_add];push_cast;rfl
      have ev:atI (keptL.map V.str) (((sp:Int)+3*(0+(i:Int)))%13)=some (.str (kwS sp i)):=by
       rw[ek];exact zI (by rw[List.getElem?_map,zox];rfl)
      have hix:ixN (((List.range m).map (zbv f st sp i)).map V.str).length (0+(i:Int))=some i:=by
       unfold ixN
       rw[if_pos (by omega),if_pos (by rw[List.length_map,List.length_map,List.length_range];omega)]
       congr 1
       omega
      refine⟨_,rfl,_,rfl,_,rfl,_,_,rfl,rfl, .inl ⟨by decide,by decide⟩,_,_,rfl,rfl,_,_,rfl,rfl,(by decide:(0:Int)<13),pk,_,_,_,rfl,rfl,SqL.of hp6,ev,_,rfl,_,rfl,l,_,_,i,rfl,rfl,hz,hix,?_⟩
      refine⟨⟨_,rfl⟩,?_,hH6.updNe nl,k6.updNew hln,by rw[zi npl];exact hp6⟩
      rw[zb,←List.map_set,zmB (by omega)]
     ·rintro σ' H6 ⟨⟨o8,rfl⟩,hz,hH6,k6,_⟩
      exact⟨⟨_,_,_,rfl⟩,⟨sp,4,hz,by omega,by decide⟩,hH6,k6⟩
    ·rw[e0] at hl'
     exact⟨⟨_,_,_,rfl⟩,⟨0,0,k4 _ _ nl hl',by decide,by decide⟩,hH4.mono (by omega),(kp2.trans k3).trans k4⟩
   ·rintro σ' H' ⟨⟨o6,o7,o8,rfl⟩,⟨sp,j,hz,hsp,hj⟩,hH',k'⟩
    refine⟨_,rfl,q l _ H' hln hz (by rw[List.length_map,List.length_range]) (λx hx=>?_) (ziH (by omega) st0 hsp hj m13) (λx hx=>?_) hH' k'⟩
    ·obtain ⟨k,_,rfl⟩:=List.mem_map.mp hx
     exact zoI _ _ _ _ _
    ·obtain ⟨k,_,rfl⟩:=List.mem_map.mp hx
     exact zlr _ _ _ _ _
end
section
variable{P:Program}{w:World}{K:PySem.W.Frag}{mg:Str->Option Value}{base:Heap}
def NL(O:List Str)(H:Hp)(l:Addr):Prop:=∃xs:List Str,H l=some (.lst (xs.map V.str))/\0<xs.length/\xs.length<=100/\∀x∈xs,zg x=true/\x∈O
theorem NL.keep{O:List Str}{H H':Hp}{a l:Addr}(h:NL O H l)(k:Keep a H H')(n:l≠a):NL O H' l:=let⟨xs,e,r⟩:=h;⟨xs,k _ _ n e,r⟩
theorem NL.same{O:List Str}{H H':Hp}{l:Addr}(h:NL O H l)(k:Same H H'):NL O H' l:=let⟨xs,e,r⟩:=h;⟨xs,k _ _ e,r⟩
theorem zcP{O:List Str}{H:Hp}{a l:Addr}{n:Int}{Q:VK}(hH:Hand H a n)(hn:n<2^40)(hl:NL O H l)(hla:l≠a)(q:∀x H',(zg x=true/\x∈O)->Hand H' a (n+1)->Keep a H H'->Q (.str x) H'):zbt K [.ref a, .ref l] H Q E0:=by
 obtain⟨xs,e,x0,x1,hx⟩:=hl
 refine⟨a,n,hH,hn, .inl ⟨l,_,rfl,hla,SqL.of e,by rw[List.length_map];exact x0,by rw[List.length_map];omega,λv H' hv hH' k'=>?_⟩⟩
 obtain⟨x,hxx,rfl⟩:=List.mem_map.mp hv
 exact q x H' (hx x hxx) hH' k'
theorem zS{x:Str}(h:zg x=true):x.length<=1000:=by
 unfold zg at h
 simp only[Bool.and_eq_true,decide_eq_true_eq] at h
 omega
theorem zd2{y x:Str}(hy:y∈namingL)(hx:zg x=true):zA (.tup [.str y, .str x])=true:=by
 have h1:¬y="long":=by
  intro z
  subst z
  revert hy
  decide +kernel
 have h2:(namingL.any λz=>decide (z=y))=true:=List.any_eq_true.mpr ⟨y,hy,decide_eq_true rfl⟩
 rw[zet,if_neg h1,h2,zcJ,hx];rfl
theorem zjP{d:D}(h:zA d=true):zE d=true:=by
 obtain⟨x,e,rfl⟩:=zcj d h
 by_cases hx:x="not"
 ·subst hx;rw[zcQ] at h;cases h
 ·rw[zdx,if_neg hx];exact h
theorem zjj{d:D}(h:zA d=true)(ha:zeY d=false):zd8 d=false:=by
 obtain⟨x,e,rfl⟩:=zcj d h
 by_cases hx:x="not"
 ·subst hx;rw[zcQ] at h;cases h
 ·show (if x="not"then zeY e else decide (x="to"))=false
  rw[if_neg hx];exact ha
def zmR:Sp:=λvs H Q _=>∃(a h m:Addr) (n:Int) (to:Bool) (O:List Str),vs=[.ref a, .ref h, .ref m, .bl to]/\Hand H a n/\n<2^39/\NL O H h/\NL O H m/\h≠a/\m≠a/\∀v d H',Rep H' v d->(zE d=true/\zbD O d=true)->(to=false->zd8 d=false)->Hand H' a (n+4)->Keep a H H'->Q v H'
theorem zoC(Y:Ev K mg):FnOk P w K mg base CX0 3 Y.a__law_cond Y.d__law_cond zbN zmR:=by
 have G__law_take:FnOk P w K mg base CX0 1 Y.a__law_take Y.d__law_take zQ zcU:=zct Y
 have G__law_pick:FnOk P w K mg base CX0 2 Y.a__law_pick Y.d__law_pick zH (zbt K):=zbL Y
 refine Y._law_cond.fn.okQ c__law_cond (λvs H Q E h=>?_) (λcdv A outer s H vs Q E hr h=>?_)
 ·obtain ⟨a,h,m,n,to,O,rfl,_⟩:=h;rfl
 ·obtain ⟨a,h,m,n,to,O,rfl,hH,hn,hh,hm,nh,nm,q⟩:=h
  refine⟨_,(ze (zu 4 c__law_cond.nd (zh G__law_take (hr.mono (by decide)) Y._law_take.mg Y._law_take.kp Y._law_take.b .nil zn (za (qv 0) (za (zL zal zf (zU zdA Y.int zhK (za (qv 3) zd))) zd))))
   (ze (zu 5 c__law_cond.nd (zR (za zaq (za (zh G__law_pick (hr.mono (by decide)) Y._law_pick.mg Y._law_pick.kp Y._law_pick.b .nil zn (za (qv 0) (za (qv 1) zd))) zd))))
   (zij (zad (t_w (zjb (zy zam (qv 4) zf) (zfQ (zy zam (qv 4) zf)))) (zj (zu 5 c__law_cond.nd (zR (za zaq (za (zh G__law_pick (hr.mono (by decide)) Y._law_pick.mg Y._law_pick.kp Y._law_pick.b .nil zn (za (qv 0) (za (qv 1) zd))) zd))))) (zj (zad (zy zam (qv 4) zf) (zj (zu 5 c__law_cond.nd (zR (za zaq (za (zh G__law_pick (hr.mono (by decide)) Y._law_pick.mg Y._law_pick.kp Y._law_pick.b .nil zn (za (qv 0) (za (zeR [V.int 0,V.int 1,V.int 2,V.int 3,V.int 4,V.int 99] (by decide +kernel)) zd))) zd))))) (zj (zad (zy zam (qv 4) zf) (zj (zu 5 c__law_cond.nd (zR (za zaq (za (zh G__law_pick (hr.mono (by decide)) Y._law_pick.mg Y._law_pick.kp Y._law_pick.b .nil zn (za (qv 0) (za (qv 2) zd))) zd))))) (zj (zad (zy zam (qv 4) zf) (zj (zu 5 c__law_cond.nd (zR (za zaq (za (zh G__law_pick (hr.mono (by decide)) Y._law_pick.mg Y._law_pick.kp Y._law_pick.b .nil zn (za (qv 0) (za (qv 1) zd))) zd))))) zJ)))))))
   (zij (zad (zy zam (zh G__law_take (hr.mono (by decide)) Y._law_take.mg Y._law_take.kp Y._law_take.b .nil zn (za (qv 0) (za zf zd))) zf) (zj (zu 5 c__law_cond.nd (zR (za zaq (za (qv 5) zd))))) zJ)
   (zj (zt (qv 5))))))),?_⟩
  refine⟨_,rfl,_,rfl, .inr ⟨to,rfl,_,_,rfl,rfl,a,_,n,rfl,hH,by omega,by split<;>omega,by split<;>omega,λt H1 t0 t5 hH1 k1=>?_⟩⟩
  refine⟨_,rfl,_,rfl,zcP hH1 (by omega) (hh.keep k1 nh) nh λx H2 hx hH2 k2=>⟨few rfl,λp2 hp2=>?_⟩⟩
  have mk2:∀{H0:Hp} {p:Addr} {y x:Str},y.length<=1000->(zg x=true/\x∈O)->Rep (upd H0 p (.tup [.str y, .str x])) (.ref p) (.tup [.str y, .str x]):=λhy hx=> .mk2 zb (.str _ hy) (.str _ (zS hx.1))
  have hh2:NL O (upd H2 p2 (.tup [.str "by", .str x])) h:=((hh.keep k1 nh).keep k2 nh).same (Same.new hp2)
  have hm2:NL O (upd H2 p2 (.tup [.str "by", .str x])) m:=((hm.keep k1 nm).keep k2 nm).same (Same.new hp2)
  have hH2':=hH2.new (o:= .tup [.str "by", .str x]) hp2
  have kp2:Keep a H (upd H2 p2 (.tup [.str "by", .str x])):=(k1.trans k2).trans (Keep.new hp2)
  refine⟨λσ' H'=>∃v d,σ'=[some (.ref a),some (.ref h),some (.ref m),some (.bl to),some (.int t),some v]/\Rep H' v d/\(zA d=true/\zY O d=true)/\(to=false->zeY d=false)/\Hand H' a (n+3)/\Keep a H H',?_,?_⟩
  ·have ap:∀{y x:Str},¬y="to"->zeY (.tup [.str y, .str x])=false:=λh=>decide_eq_false h
   have br:∀{y:Str},y.length<=1000->y∈namingL->¬y="to"->∀(l:Addr),l≠a->NL O (upd H2 p2 (.tup [.str "by", .str x])) l->∀R:V->Hp->Prop,(∀v d H',Rep H' v d->(zA d=true/\zY O d=true)->(to=false->zeY d=false)->Hand H' a (n+3)->Keep a H H'->R v H')->
    zbt K [.ref a, .ref l] (upd H2 p2 (.tup [.str "by", .str x])) (λv H3=> [V.str y,v].length<=sizeLine/\∀p,H3 p=none->R (.ref p) (upd H3 p (.tup [V.str y,v]))) E0:=by
    intro y hy hyn hyt l nl hl R hR
    refine zcP hH2' (by omega) hl nl λx3 H3 hx3 hH3 k3=>⟨few rfl,λp3 hp3=>?_⟩
    exact hR _ _ _ (mk2 hy hx3) ⟨zd2 hyn hx3.1,zbY hx3.2⟩ (λ_=>ap hyt) ((hH3.new hp3).mono (by omega)) ((kp2.trans k3).trans (Keep.new hp3))
   have fin:∀v d H',Rep H' v d->(zA d=true/\zY O d=true)->(to=false->zeY d=false)->Hand H' a (n+3)->Keep a H H'->(λ(v:V) (H':Hp)=>∃v0 d,[some (V.ref a),some (.ref h),some (.ref m),some (.bl to),some (.int t),some v]=[some (.ref a),some (.ref h),some (.ref m),some (.bl to),some (.int t),some v0]/\Rep H' v0 d/\(zA d=true/\zY O d=true)/\(to=false->zeY d=false)/\Hand H' a (n+3)/\Keep a H H') v H':=
    λv d H' h1 h2 h3 h4 h5=>⟨v,d,rfl,h1,h2,h3,h4,h5⟩
   refine⟨_,rfl,rfl,_,rfl,za7 (λ_=>?_) (λ_=>⟨_,rfl,rfl,_,rfl,za7 (λ_=>?_) (λ_=>?_)⟩)⟩
   ·exact ⟨_,rfl,_,rfl,br (by decide) (by decide) (by decide +kernel) h nh hh2 _ fin⟩
   ·exact ⟨_,rfl,_,rfl,br (by decide) (by decide) (by decide +kernel) h nh hh2 _ fin⟩
   refine⟨_,rfl,rfl,_,rfl,za7 (λ_=>?_) (λ_=>⟨_,rfl,rfl,_,rfl,za7 (λ_=>?_) (λ_=>⟨_,rfl,rfl,_,rfl,za7 (λh5=>?_) (λ_=>?_)⟩)⟩)⟩
   ·refine ⟨_,rfl,by decide,λpl hpl=>⟨a,n+2,(hH2'.mono (by omega)).new hpl,by omega, .inl ⟨pl,_,rfl,hH2'.ne hpl,SqL.of zb,by decide,by decide,λv H3 hv hH3 k3=>⟨few rfl,λp3 hp3=>?_⟩⟩⟩⟩
    have hk:∃j:Int,v= .int j/\0<=j/\j<=99:=by
     simp only[List.mem_cons,List.not_mem_nil,or_false] at hv
     rcases hv with rfl|rfl|rfl|rfl|rfl|rfl<;>exact ⟨_,rfl,by decide,by decide⟩
    obtain⟨j,rfl,j0,j9⟩:=hk
    refine fin _ (.tup [.str "long", .int j]) _ (.mk2 zb (.str _ (by decide)) (.int _)) ?_ (λ_=>(by decide +kernel:decide (("long":Str)="to")=false)) ((hH3.new hp3).mono (by omega)) ((kp2.trans ((Keep.new hpl).trans k3)).trans (Keep.new hp3))
    refine⟨?_,rfl⟩
    rw[zet,if_pos rfl]
    show(decide (0<=j)&&decide (j<=99))=true
    rw[decide_eq_true j0,decide_eq_true j9];rfl
   ·exact ⟨_,rfl,_,rfl,br (by decide) (by decide) (by decide +kernel) m nm hm2 _ fin⟩
   ·refine ⟨_,rfl,_,rfl,zcP hH2' (by omega) hh2 nh λx3 H3 hx3 hH3 k3=>⟨few rfl,λp3 hp3=>?_⟩⟩
    refine fin _ _ _ (mk2 (by decide) hx3) ⟨zd2 (by decide) hx3.1,zbY hx3.2⟩ (λz=>?_) ((hH3.new hp3).mono (by omega)) ((kp2.trans k3).trans (Keep.new hp3))
    subst z
    have e5:t=5:=V.int.inj (of_decide_eq_true h5)
    simp at t5
    omega
   ·exact fin _ _ _ (mk2 (by decide) hx) ⟨zd2 (by decide) hx.1,zbY hx.2⟩ (λ_=>ap (by decide +kernel)) (hH2'.mono (by omega)) kp2
  ·rintro σ' H3 ⟨v,d,rfl,hv,hd,hto,hH3,k3⟩
   refine⟨λσ' H'=>∃v d,σ'=[some (.ref a),some (.ref h),some (.ref m),some (.bl to),some (.int t),some v]/\Rep H' v d/\(zE d=true/\zbD O d=true)/\(to=false->zd8 d=false)/\Hand H' a (n+4)/\Keep a H H',?_,?_⟩
   ·refine ⟨_,rfl,a,4,n+3,rfl,hH3,by omega,by decide,by decide,λd4 H4 _ _ hH4 k4=>⟨rfl,_,rfl,za7 (λ_=>?_) (λ_=>?_)⟩⟩
    ·have hv4:=hv.mono (Mono.keep k4 hH3 hH4)
     refine⟨_,rfl,few rfl,λp5 hp5=>⟨_, .tup [.str "not",d],rfl, .mk2 zb (.str _ (by decide)) (hv4.mono (.new hp5)),?_,?_,(hH4.new hp5).mono (by omega),(k3.trans k4).trans (Keep.new hp5)⟩⟩
     ·exact ⟨by rw[zdx,if_pos rfl];exact hd.1,zjC hd.2⟩
     ·exact λz=>hto z
    ·refine ⟨_,d,rfl,hv.mono (Mono.keep k4 hH3 hH4),⟨zjP hd.1,zlS hd.1 hd.2⟩,λz=>zjj hd.1 (hto z),hH4.mono (by omega),k3.trans k4⟩
   ·rintro σ' H4 ⟨v,d,rfl,hv,hd,hto,hH4,k4⟩
    exact⟨_,rfl,q v d H4 hv hd hto hH4 k4⟩
end
section
variable{P:Program}{w:World}{K:PySem.W.Frag}{mg:Str->Option Value}{base:Heap}
theorem ziU{ds:List D}(hl:ds.length<=4)(h:∀d∈ds,zE d=true):zaS (.tup ds)=true:=by
 rw[zh4,decide_eq_true hl,List.all_eq_true.mpr h];rfl
theorem zf5{α:Type}{P:α->Prop}{ds:List α}(h:∀(i:Nat) (d:α),ds[i]?=some d->P d):∀d∈ds,P d:=λd hd=>by
 obtain⟨i,hi,e⟩:=List.getElem_of_mem hd
 exact h i d (by rw[List.getElem?_eq_getElem hi,e])
def zhJ:Sp:=λvs H Q _=>∃(a h m:Addr) (n:Int) (to:Bool) (O:List Str),vs=[.ref a, .ref h, .ref m, .bl to]/\Hand H a n/\n<2^38/\NL O H h/\NL O H m/\h≠a/\m≠a/\∀v ds H',Rep H' v (.tup ds)->ds.length<=4->(∀d∈ds,zE d=true)->(∀d∈ds,zbD O d=true)->(to=false->∀d∈ds,zd8 d=false)->Hand H' a (n+17)->Keep a H H'->Q v H'
theorem ziR(Y:Ev K mg):FnOk P w K mg base CX0 4 Y.a__law_conds Y.d__law_conds zaT zhJ:=by
 have G__law_pick:FnOk P w K mg base CX0 2 Y.a__law_pick Y.d__law_pick zH (zbt K):=zbL Y
 have G__law_cond:FnOk P w K mg base CX0 3 Y.a__law_cond Y.d__law_cond zbN zmR:=zoC Y
 refine Y._law_conds.fn.okQ c__law_conds (λvs H Q E h=>?_) (λcdv A outer s H vs Q E hr h=>?_)
 ·obtain ⟨a,h,m,n,to,O,rfl,_⟩:=h;rfl
 ·obtain ⟨a,h,m,n,to,O,rfl,hH,hn,hh,hm,nh,nm,q⟩:=h
  refine⟨_,(ze (zu 4 c__law_conds.nd (zh G__law_pick (hr.mono (by decide)) Y._law_pick.mg Y._law_pick.kp Y._law_pick.b .nil zn (za (qc 0) (za (zeR [V.int 1,V.int 1,V.int 1,V.int 2,V.int 0,V.int 4] (by decide +kernel)) zd))))
   (zj (zt (zU zT Y.tuple za3 (za (zak (src:=[none,some 0,some 1,some 2,some 3]) o__law_conds_1 rfl rfl (zci Y.range (za (qv 4) zd)) (λ_ _ _ _ _=>(zr 0 o__law_conds_1.nd)) (λ_ _ _ _ _=>zbO) (λ_ _ _ _ _=>(zh G__law_cond (hr.mono (by decide)) Y._law_cond.mg Y._law_cond.kp Y._law_cond.b .nil zn (za (qc 1) (za (qc 2) (za (qc 3) (za (qc 4) zd))))))) zd))))),?_⟩
  refine⟨_,rfl,by decide,λpl hpl=>⟨a,n,hH.new hpl,by omega, .inl ⟨pl,_,rfl,hH.ne hpl,SqL.of zb,by decide,by decide,λv H1 hv hH1 k1=>?_⟩⟩⟩
  obtain⟨c,rfl,c4⟩:∃c:Nat,v= .int (c:Int)/\c<=4:=by
   simp only[List.mem_cons,List.not_mem_nil,or_false] at hv
   rcases hv with rfl|rfl|rfl|rfl|rfl|rfl
   ·exact ⟨1,rfl,by decide⟩
   ·exact ⟨1,rfl,by decide⟩
   ·exact ⟨1,rfl,by decide⟩
   ·exact ⟨2,rfl,by decide⟩
   ·exact ⟨0,rfl,by decide⟩
   ·exact ⟨4,rfl,by decide⟩
  have kp1:Keep a H H1:=(Keep.new hpl).trans k1
  have hh1:=(hh.same (Same.new (o:= .lst [V.int 1,V.int 1,V.int 1,V.int 2,V.int 0,V.int 4]) hpl)).keep k1 nh
  have hm1:=(hm.same (Same.new (o:= .lst [V.int 1,V.int 1,V.int 1,V.int 2,V.int 0,V.int 4]) hpl)).keep k1 nm
  refine⟨_,rfl,c,rfl,by omega,by omega,?_⟩
  rw[Int.toNat_natCast]
  refine zjI (a:=a) (m:=n+1) (c:=4) (Pd:=λ_ d=>(zE d=true/\zbD O d=true)/\(to=false->zd8 d=false)) (σr:=[some (.ref a),some (.ref h),some (.ref m),some (.bl to)]) rfl hH1 (by omega) (by decide) (λj H2 Q1 hj hH2 k2 q1=>?_) (λl vs ds H2 hl hl2 r2 hds pd hH2 k2=>?_)
  ·exact ⟨_,rfl,_,rfl,_,rfl,_,rfl,a,h,m,_,to,O,rfl,hH2,by omega,hh1.keep k2 nh,hm1.keep k2 nm,nh,nm,λv d H3 rv hc ht hH3 k3=>q1 v d H3 rv ⟨hc,ht⟩ hH3 k3⟩
  ·refine ⟨l,vs,rfl, .inl ⟨SqL.of hl2,λp hp=>?_⟩⟩
   have pd':=zf5 (P:=λd=>(zE d=true/\zbD O d=true)/\(to=false->zd8 d=false)) pd
   exact q _ ds _ (.mkL zb (by omega) (r2.mono (.new hp))) (by omega) (λd hd=>(pd' d hd).1.1) (λd hd=>(pd' d hd).1.2) (λz d hd=>(pd' d hd).2 z) ((hH2.new hp).mono (by omega)) ((kp1.trans k2).trans (Keep.new hp))
def zpw(g:D->Bool)(H':Hp)(ls:Addr)(i:Nat):Prop:=∃(zs:List V) (ds:List D),H' ls=some (.lst zs)/\RepL H' zs ds/\ds.length=i/\∀d∈ds,g d=true
def zfk(g:List Str->D->Bool):Sp:=λvs H Q _=>∃(a h m:Addr) (n:Int) (O:List Str),vs=[.ref a, .ref h, .ref m]/\Hand H a n/\n<2^37/\NL O H h/\NL O H m/\h≠a/\m≠a/\∀v ds H',Rep H' v (.tup ds)->ds.length<=12->(∀d∈ds,g O d=true)->Hand H' a (n+400)->Keep a H H'->Q v H'
theorem zk2{ds:List D}{x:D}(hl:ds.length<=4)(h:∀d∈ds,zE d=true)(ha:∀d∈ds,zd8 d=false)(hx:zcL x=true):z6 (.tup [.tup ds,x])=true:=by
 rw[zlc,ziU hl h,hx]
 have:zfe (.tup ds)=false:=by
  show ds.any zd8=false
  rw[List.any_eq_false]
  exact λd hd z=>by rw[ha d hd] at z;cases z
 rw[this];rfl
theorem zjs(Y:Ev K mg):FnOk P w K mg base CX0 5 Y.a__law_likings Y.d__law_likings zaR (zfk zhR):=by
 have G__law_take:FnOk P w K mg base CX0 1 Y.a__law_take Y.d__law_take zQ zcU:=zct Y
 have G__law_pick:FnOk P w K mg base CX0 2 Y.a__law_pick Y.d__law_pick zH (zbt K):=zbL Y
 have G__law_conds:FnOk P w K mg base CX0 4 Y.a__law_conds Y.d__law_conds zaT zhJ:=ziR Y
 refine Y._law_likings.fn.okQ c__law_likings (λvs H Q E h=>?_) (λcdv A outer s H vs Q E hr h=>?_)
 ·obtain ⟨a,h,m,n,O,rfl,_⟩:=h;rfl
 ·obtain ⟨a,h,m,n,O,rfl,hH,hn,hh,hm,nh,nm,q⟩:=h
  refine⟨_,(ze (zu 3 c__law_likings.nd (zb0 zd))
   (ze (za2 PassesOwn.never rfl (zci Y.range (za (zL zal (zh G__law_take (hr.mono (by decide)) Y._law_take.mg Y._law_take.kp Y._law_take.b .nil zn (za (qv 0) (za zf zd))) (zL zbC zf (zU zdA Y.int zhK (za (zb5 zam (zh G__law_take (hr.mono (by decide)) Y._law_take.mg Y._law_take.kp Y._law_take.b .nil zn (za (qv 0) (za zf zd))) zf) zd)))) zd)) (zr 4 c__law_likings.nd) (ze (zu 5 c__law_likings.nd (zh G__law_pick (hr.mono (by decide)) Y._law_pick.mg Y._law_pick.kp Y._law_pick.b .nil zn (za (qv 0) (za (zb0 (za zf (za zf (za zf (za (zml zfC zf) (za zf (za zf (za (zml zfC zf) (za zaJ zd))))))))) zd))))
   (zj (zdR (zhj PySem.F.plainAttrs_list PySem.F.slot_list_append PySem.F.type_list_append zbc (qv 3) (za (zR (za (zh G__law_conds (hr.mono (by decide)) Y._law_conds.mg Y._law_conds.kp Y._law_conds.b .nil zn (za (qv 0) (za (qv 1) (za (qv 2) (za zc5 zd))))) (za (qv 5) zd))) zd))))))
   (zj (zt (zU zT Y.tuple za3 (za (qv 3) zd)))))),?_⟩
  refine⟨few rfl,λls hls=>?_⟩
  have nls:=hH.ne hls
  refine⟨_,rfl,a,4,n,rfl,hH.new hls,by omega,by decide,by decide,λt H1 t0 t4 hH1 k1=>⟨_,rfl,a,8,n+1,rfl,hH1,by omega,by decide,by decide,λu H2 u0 u8 hH2 k2=>?_⟩⟩
  have hl1:H1 ls=some (.lst []):=k1 _ _ nls zb
  have hl2:H2 ls=some (.lst []):=k2 _ _ nls hl1
  have kp2:Keep a H H2:=((Keep.new hls).trans k1).trans k2
  refine⟨rfl, .inr ⟨_,rfl,_,_,rfl,rfl, .inl ⟨by decide,by decide⟩,_,_,rfl,rfl,_,rfl,?_,?_,?_⟩⟩
  ·split<;>omega
  ·split<;>omega
  have hN:(t+9*(if decide (V.int u=V.int 0)=true then(1:Int)else 0)).toNat<=12:=by split<;>omega
  generalize (t+9*(if decide (V.int u=V.int 0)=true then(1:Int)else 0)).toNat=N at *
  refine zae zb2 (λi σ' H'=>(∃o1 o2,σ'=[some (.ref a),some (.ref h),some (.ref m),some (.ref ls),o1,o2])/\zpw (zhR O) H' ls i/\Hand H' a (n+2+18*i)/\Keep a H H') ?_ (λ_ _ _ _=>trivial) ?_ ?_
  ·exact ⟨⟨_,_,rfl⟩,⟨[],[],hl2,RepL.nil,rfl,λ_ z=>nomatch z⟩,hH2.mono (by omega),kp2⟩
  ·rintro i y σ' H3 hi rfl ⟨⟨o1,o2,rfl⟩,⟨zs,ds,hz,rz,hdl,hds⟩,hH3,k3⟩
   have rz1:=rz.1
   refine⟨_,rfl,zqL (ds:=[.int 5, .int 5, .int 1, .int (-3), .int 0, .int 999, .int (-999), .non]) (by walk_at "dsp") λl4 vs4 H4 s4 e4 r4=>?_⟩
   refine⟨a,_,hH3.same s4,by omega, .inl ⟨l4,_,rfl,zjN (hH3.same s4) e4 r4 (by decide),SqL.of e4,by rw[r4.1];decide,by rw[r4.1];decide,λv H5 hv hH5 k5=>?_⟩⟩
   obtain⟨dn,rn,hw,hwo⟩:∃dn,Rep H5 v dn/\zcL dn=true/\zY O dn=true:=by
    obtain⟨j,hj,ej⟩:=List.getElem_of_mem hv
    obtain⟨d,hd,rd⟩:=r4.get (i:=j) (v:=v) (by rw[List.getElem?_eq_getElem hj,ej])
    refine⟨d,rd.mono (.keep k5 (hH3.same s4) hH5),?_⟩
    have key:∀d∈([.int 5, .int 5, .int 1, .int (-3), .int 0, .int 999, .int (-999), .non]:List D),zcL d=true/\zY O d=true:=by walk_at "each"<;>exact ⟨by decide,rfl⟩
    exact key d (List.mem_of_getElem? hd)
   have k35:Keep a H3 H5:=(Keep.of s4).trans k5
   have hz5:=k35 _ _ nls hz
   have hh5:=(hh.keep k3 nh).keep k35 nh
   have hm5:=(hm.keep k3 nm).keep k35 nm
   refine⟨_,rfl, .inl ⟨rfl,_,SqL.of hz5⟩,_,rfl,_,rfl,_,rfl,a,h,m,_,false,O,rfl,hH5,by omega,hh5,hm5,nh,nm,λvc dc H6 rc lc hc hco hto hH6 k6=>⟨_,rfl,few rfl,λp7 hp7=>?_⟩⟩
   have m36:Mono H3 H6:=(Mono.keep k35 hH3 hH5).trans (.keep k6 hH5 hH6)
   have hz7:upd H6 p7 (.tup [vc,v]) ls=some (.lst zs):=by rw[zi (zl (k6 _ _ nls hz5) hp7)];exact k6 _ _ nls hz5
   refine⟨ls,_,_,rfl,rfl,hz7,zk (by omega),⟨_,_,rfl⟩,⟨_,ds ++ [.tup [.tup dc,dn]],zb,?_,?_,?_⟩,?_,?_⟩
   ·exact RepL.mono (.append ((rz.mono m36).mono (.new hp7)) (.cons (.mk2 zb (rc.mono (.new hp7)) ((rn.mono (.keep k6 hH5 hH6)).mono (.new hp7))) .nil)) (.lset hz7)
   ·rw[List.length_append,hdl];rfl
   ·intro d hd
    rcases List.mem_append.mp hd with hd|hd
    ·exact hds d hd
    ·rw[List.mem_singleton.mp hd];exact Bool.and_eq_true _ _▸⟨zk2 lc hc (hto rfl) hw,zgP hco hwo⟩
   ·exact ((hH6.new hp7).updNe nls).mono (by rw[show((i+1:Nat):Int)=(i:Int)+1 by omega];omega)
   ·exact Keep.updNew ((k3.trans (k35.trans k6)).trans (Keep.new hp7)) hls
  ·rintro σ' H3 ⟨⟨o1,o2,rfl⟩,⟨zs,ds,hz,rz,hdl,hds⟩,hH3,k3⟩
   refine⟨_,rfl,ls,zs,rfl, .inl ⟨SqL.of hz,λp hp=>?_⟩⟩
   exact q _ ds _ (.mkL zb (by omega) (rz.mono (.new hp))) (by omega) hds ((hH3.new hp).mono (by omega)) (k3.trans (Keep.new hp))
end
section
variable{P:Program}{w:World}{K:PySem.W.Frag}{mg:Str->Option Value}{base:Heap}
theorem znM{ds:List D}{x:D}(hl:ds.length<=4)(h:∀d∈ds,zE d=true)(hx:zcz x=true):zcq (.tup [.tup ds,x])=true:=by
 rw[znK,ziU hl h,hx];rfl
theorem zmH{y x:Str}(hx:zg x=true)(hy:y="put"\/y="strike"):zcz (.tup [.str y, .str x])=true:=by
 rw[zqB,zcJ,hx]
 rcases hy with rfl|rfl<;>decide +kernel
theorem znl(Y:Ev K mg):FnOk P w K mg base CX0 5 Y.a__law_hands Y.d__law_hands zbo (zfk zhP):=by
 have G__law_take:FnOk P w K mg base CX0 1 Y.a__law_take Y.d__law_take zQ zcU:=zct Y
 have G__law_pick:FnOk P w K mg base CX0 2 Y.a__law_pick Y.d__law_pick zH (zbt K):=zbL Y
 have G__law_conds:FnOk P w K mg base CX0 4 Y.a__law_conds Y.d__law_conds zaT zhJ:=ziR Y
 refine Y._law_hands.fn.okQ c__law_hands (λvs H Q E h=>?_) (λcdv A outer s H vs Q E hr h=>?_)
 ·obtain ⟨a,h,m,n,O,rfl,_⟩:=h;rfl
 ·obtain ⟨a,h,m,n,O,rfl,hH,hn,hh,hm,nh,nm,q⟩:=h
  refine⟨_,(ze (zu 3 c__law_hands.nd (zb0 zd))
   (ze (za2 PassesOwn.never rfl (zci Y.range (za (zL zal (zh G__law_pick (hr.mono (by decide)) Y._law_pick.mg Y._law_pick.kp Y._law_pick.b .nil zn (za (qv 0) (za (zeR [V.int 0,V.int 0,V.int 1,V.int 2] (by decide +kernel)) zd))) (zL zbC zf (zU zdA Y.int zhK (za (zb5 zam (zh G__law_take (hr.mono (by decide)) Y._law_take.mg Y._law_take.kp Y._law_take.b .nil zn (za (qv 0) (za zf zd))) zf) zd)))) zd)) (zr 4 c__law_hands.nd) (ze (zu 5 c__law_hands.nd (zh G__law_pick (hr.mono (by decide)) Y._law_pick.mg Y._law_pick.kp Y._law_pick.b .nil zn (za (qv 0) (za (zb0 (za (zR (za zaq zd)) (za (zR (za zaq (za (zh G__law_pick (hr.mono (by decide)) Y._law_pick.mg Y._law_pick.kp Y._law_pick.b .nil zn (za (qv 0) (za (qv 2) zd))) zd))) (za (zR (za zaq (za (zh G__law_pick (hr.mono (by decide)) Y._law_pick.mg Y._law_pick.kp Y._law_pick.b .nil zn (za (qv 0) (za (qv 2) zd))) zd))) zd)))) zd))))
   (zj (zdR (zhj PySem.F.plainAttrs_list PySem.F.slot_list_append PySem.F.type_list_append zbc (qv 3) (za (zR (za (zh G__law_conds (hr.mono (by decide)) Y._law_conds.mg Y._law_conds.kp Y._law_conds.b .nil zn (za (qv 0) (za (qv 1) (za (qv 2) (za zc5 zd))))) (za (qv 5) zd))) zd))))))
   (zj (zt (zU zT Y.tuple za3 (za (qv 3) zd)))))),?_⟩
  refine⟨few rfl,λls hls=>?_⟩
  have nls:=hH.ne hls
  have hH0:=hH.new (o:= .lst []) hls
  refine⟨_,rfl,by decide,λpk hpk=>⟨a,n,hH0.new hpk,by omega, .inl ⟨pk,_,rfl,hH0.ne hpk,SqL.of zb,by decide,by decide,λv H1 hv hH1 k1=>?_⟩⟩⟩
  obtain⟨c,rfl,c0,c4⟩:∃c:Int,v= .int c/\0<=c/\c<=4:=by
   simp only[List.mem_cons,List.not_mem_nil,or_false] at hv
   rcases hv with rfl|rfl|rfl|rfl<;>exact ⟨_,rfl,by decide,by decide⟩
  refine⟨_,rfl,a,8,n+1,rfl,hH1,by omega,by decide,by decide,λu H2 u0 u8 hH2 k2=>?_⟩
  have hl0:upd H ls (.lst []) ls=some (.lst []):=zb
  have hl1:H1 ls=some (.lst []):=k1 _ _ nls (by rw[zi (zl hl0 hpk)];exact hl0)
  have hl2:H2 ls=some (.lst []):=k2 _ _ nls hl1
  have kp2:Keep a H H2:=((Keep.new hls).trans ((Keep.new hpk).trans k1)).trans k2
  refine⟨rfl, .inr ⟨_,rfl,_,_,rfl,rfl, .inl ⟨by decide,by decide⟩,_,_,rfl,rfl,_,rfl,?_,?_,?_⟩⟩
  ·split<;>omega
  ·split<;>omega
  have hN:(c+8*(if decide (V.int u=V.int 0)=true then(1:Int)else 0)).toNat<=12:=by split<;>omega
  generalize (c+8*(if decide (V.int u=V.int 0)=true then(1:Int)else 0)).toNat=N at *
  refine zae zb2 (λi σ' H'=>(∃o1 o2,σ'=[some (.ref a),some (.ref h),some (.ref m),some (.ref ls),o1,o2])/\zpw (zhP O) H' ls i/\Hand H' a (n+2+20*i)/\Keep a H H') ?_ (λ_ _ _ _=>trivial) ?_ ?_
  ·exact ⟨⟨_,_,rfl⟩,⟨[],[],hl2,RepL.nil,rfl,λ_ z=>nomatch z⟩,hH2.mono (by omega),kp2⟩
  ·rintro i y σ' H3 hi rfl ⟨⟨o1,o2,rfl⟩,⟨zs,ds,hz,rz,hdl,hds⟩,hH3,k3⟩
   have rz1:=rz.1
   refine⟨_,rfl,few rfl,λp1 hp1=>?_⟩
   have S1:Same H3 (upd H3 p1 (.tup [.str "keep"])):=Same.new hp1
   have hm3:=hm.keep k3 nm
   have hh3:=hh.keep k3 nh
   refine⟨_,rfl,_,rfl,zcP (hH3.new hp1) (by omega) (hm3.same S1) nm λx H4 hx hH4 k4=>⟨few rfl,λp2 hp2=>?_⟩⟩
   have S2:Same H4 (upd H4 p2 (.tup [.str "put", .str x])):=Same.new hp2
   refine⟨_,rfl,_,rfl,zcP (hH4.new hp2) (by omega) (((hm3.same S1).keep k4 nm).same S2) nm λy H5 hy hH5 k5=>⟨few rfl,λp3 hp3=>⟨few rfl,λp4 hp4=>?_⟩⟩⟩
   have S3:Same H5 (upd H5 p3 (.tup [.str "strike", .str y])):=Same.new hp3
   have S4:Same (upd H5 p3 (.tup [.str "strike", .str y])) (upd (upd H5 p3 (.tup [.str "strike", .str y])) p4 (.lst [.ref p1, .ref p2, .ref p3])):=Same.new hp4
   have hH6:=(hH5.new (o:= .tup [.str "strike", .str y]) hp3).new (o:= .lst [.ref p1, .ref p2, .ref p3]) hp4
   refine⟨a,_,hH6,by omega, .inl ⟨p4,_,rfl,Hand.ne (hH5.new hp3) hp4,SqL.of zb,(by decide:0<3),(by decide:3<1000),λv H7 hv hH7 k7=>?_⟩⟩
   have M2:Mono (upd H3 p1 (.tup [.str "keep"])) H4:=Mono.keep k4 (hH3.new hp1) hH4
   have M3:=Mono.keep k5 (hH4.new hp2) hH5
   have M5:=Mono.keep k7 hH6 hH7
   have M45:=((Mono.of S3).trans (Mono.of S4)).trans M5
   have k37:Keep a H3 H7:=(((((Keep.of S1).trans k4).trans (Keep.of S2)).trans k5).trans ((Keep.of S3).trans (Keep.of S4))).trans k7
   obtain⟨da,ra,haa,hao⟩:∃da,Rep H7 v da/\zcz da=true/\zY O da=true:=by
    simp only[List.mem_cons,List.not_mem_nil,or_false] at hv
    rcases hv with rfl|rfl|rfl
    ·exact ⟨.tup [.str "keep"],Rep.mono (.mk1 zb (.str _ (by decide))) (((M2.trans (.of S2)).trans M3).trans M45),by decide +kernel,rfl⟩
    ·exact ⟨.tup [.str "put", .str x],Rep.mono (.mk2 zb (.str _ (by decide)) (.str _ (zS hx.1))) (M3.trans M45),zmH hx.1 (.inl rfl),zbY hx.2⟩
    ·exact ⟨.tup [.str "strike", .str y],Rep.mono (.mk2 zb (.str _ (by decide)) (.str _ (zS hy.1))) ((Mono.of S4).trans M5),zmH hy.1 (.inr rfl),zbY hy.2⟩
   have hz7:=k37 _ _ nls hz
   refine⟨_,rfl, .inl ⟨rfl,_,SqL.of hz7⟩,_,rfl,_,rfl,_,rfl,a,h,m,_,true,O,rfl,hH7,by omega,hh3.keep k37 nh,hm3.keep k37 nm,nh,nm,λvc dc H8 rc lc hc hco hto hH8 k8=>⟨_,rfl,few rfl,λp9 hp9=>?_⟩⟩
   have m38:Mono H3 H8:=(Mono.keep k37 hH3 hH7).trans (.keep k8 hH7 hH8)
   have hz9:upd H8 p9 (.tup [vc,v]) ls=some (.lst zs):=by rw[zi (zl (k8 _ _ nls hz7) hp9)];exact k8 _ _ nls hz7
   refine⟨ls,_,_,rfl,rfl,hz9,zk (by omega),⟨_,_,rfl⟩,⟨_,ds ++ [.tup [.tup dc,da]],zb,?_,?_,?_⟩,?_,?_⟩
   ·exact RepL.mono (.append ((rz.mono m38).mono (.new hp9)) (.cons (.mk2 zb (rc.mono (.new hp9)) ((ra.mono (.keep k8 hH7 hH8)).mono (.new hp9))) .nil)) (.lset hz9)
   ·rw[List.length_append,hdl];rfl
   ·intro d hd
    rcases List.mem_append.mp hd with hd|hd
    ·exact hds d hd
    ·rw[List.mem_singleton.mp hd];exact Bool.and_eq_true _ _▸⟨znM lc hc haa,zgP hco hao⟩
   ·exact ((hH8.new hp9).updNe nls).mono (by rw[show((i+1:Nat):Int)=(i:Int)+1 by omega];omega)
   ·exact Keep.updNew ((k3.trans (k37.trans k8)).trans (Keep.new hp9)) hls
  ·rintro σ' H3 ⟨⟨o1,o2,rfl⟩,⟨zs,ds,hz,rz,hdl,hds⟩,hH3,k3⟩
   refine⟨_,rfl,ls,zs,rfl, .inl ⟨SqL.of hz,λp hp=>?_⟩⟩
   exact q _ ds _ (.mkL zb (by omega) (rz.mono (.new hp))) (by omega) hds ((hH3.new hp).mono (by omega)) (k3.trans (Keep.new hp))
def TD(H:Hp)(d:Addr)(xs:List Str)(c k e:Nat):Prop:=∃(kvs:List (List Key×V)) (ps:List (Str×Str)),H d=some (.dT kvs)/\kvs.map (·.1)=ps.map zgx/\ps.length<=c/\(∀p∈ps,p.1∈xs/\p.2∈xs/\ltS p.1 p.2=true)/\Spr xs ps k e
theorem zjS{kvs:List (List Key×V)}{k:List Key}{v:V}:(zbz kvs k v).map (·.1)=kvs.map (·.1)\/(zbz kvs k v).map (·.1)=kvs.map (·.1)++ [k]:=by
 unfold zbz
 by_cases h:(kvs.any λkv=>decide (kv.1=k))=true
 ·rw[if_pos h]
  refine .inl ?_
  rw[List.map_map]
  apply List.map_congr_left
  intro x _
  show(if x.1=k then(x.1,v)else x).1=x.1
  split<;>rfl
 ·rw[if_neg h,List.map_append]
  exact .inr rfl
theorem TD.put{H:Hp}{d:Addr}{xs:List Str}{c k e:Nat}{p:Str×Str}{v:V}{kvs:List (List Key×V)}{ps:List (Str×Str)}(h1:kvs.map (·.1)=ps.map zgx)(h2:ps.length<=c)(h3:∀p∈ps,p.1∈xs/\p.2∈xs/\ltS p.1 p.2=true)(hp:p.1∈xs/\p.2∈xs/\ltS p.1 p.2=true)(sp:∀ps',(∀q∈ps',q∈ps\/q=p)->Spr xs ps' k e):
 TD (upd H d (.dT (zbz kvs (zgx p) v))) d xs (c+1) k e:=by
 rcases zjS (kvs:=kvs) (k:=zgx p) (v:=v)with e|e
 ·exact ⟨_,ps,zb,e.trans h1,by omega,h3,sp _ λq hq=> .inl hq⟩
 ·refine ⟨_,ps ++ [p],zb,by rw[e,h1,List.map_append];rfl,by rw[List.length_append];show ps.length+1<=_;omega,λq hq=>?_,sp _ λq hq=>(List.mem_append.mp hq).imp id List.mem_singleton.mp⟩
  rcases List.mem_append.mp hq with hq|hq
  ·exact h3 q hq
  ·rw[List.mem_singleton.mp hq];exact hp
theorem TD.keep{H H':Hp}{a d:Addr}{xs:List Str}{c k' e':Nat}(h:TD H d xs c k' e')(k:Keep a H H')(n:d≠a):TD H' d xs c k' e':=let⟨kvs,ps,e,r⟩:=h;⟨kvs,ps,k _ _ n e,r⟩
theorem TD.mono{H:Hp}{d:Addr}{xs:List Str}{c c' k k' e e':Nat}(h:TD H d xs c k e)(l:c<=c')(lk:k<=k')(le:e<=e'):TD H d xs c' k' e':=let⟨kvs,ps,e,f,g,r,s⟩:=h;⟨kvs,ps,e,f,Nat.le_trans g l,r,s.mono (λ_ z=>z) lk le⟩
theorem zmr{x y:Str}(h:x≠y):ltS (if ltS y x=true then y else x) (if ltS x y=true then y else x)=true:=by
 cases e:ltS x y with
 |true=>rw[zcR e];simp only[Bool.false_eq_true,if_false,if_true];exact e
 |false=>
  have:=zb9 h e
  rw[this];simp only[Bool.false_eq_true,if_false,if_true];exact this
def zkt:Sp:=λvs H Q _=>∃(a h:Addr) (n:Int) (more:Nat) (xs:List Str),vs=[.ref a, .ref h, .int more]/\Hand H a n/\n<2^38/\H h=some (.lst (xs.map V.str))/\h≠a/\1<=xs.length/\xs.length<=10/\xs.Nodup/\(∀x∈xs,zg x=true)/\more<=30/\
 ∀(v:V) (ps:List (Str×Str)) (H':Hp),Rep H' v (.tup (ps.map pairD))->ps.Pairwise (λa b=>ltP a b=true)->(∀p∈ps,p.1∈xs/\p.2∈xs/\ltS p.1 p.2=true)->Spr xs ps 20 more->Hand H' a (n+100)->Keep a H H'->Q v H'
theorem znO(Y:Ev K mg):FnOk P w K mg base CX0 3 Y.a__law_ties Y.d__law_ties zbQ zkt:=by
 have G__law_take:FnOk P w K mg base CX0 1 Y.a__law_take Y.d__law_take zQ zcU:=zct Y
 have G__law_pick:FnOk P w K mg base CX0 2 Y.a__law_pick Y.d__law_pick zH (zbt K):=zbL Y
 refine Y._law_ties.fn.okQ c__law_ties (λvs H Q E h=>?_) (λcdv A outer s H vs Q E hr h=>?_)
 ·obtain ⟨a,h,n,more,xs,rfl,_⟩:=h;rfl
 ·obtain ⟨a,h,n,more,xs,rfl,hH,hn,hh,nh,x1,x10,hnd,hxn,hmore,q⟩:=h
  refine⟨_,(ze (zu 3 c__law_ties.nd znQ)
   (ze (za2 PassesOwn.never rfl (zqY Y.range (za zf (za (zq zD Y.len zaD (za (qv 1) zd)) zd))) (zr 4 c__law_ties.nd) (ze (zpB 5 6 c__law_ties.nd (za (zN ix_list (qv 1) (qv 4)) (za (zN ix_list (qv 1) (zh G__law_take (hr.mono (by decide)) Y._law_take.mg Y._law_take.kp Y._law_take.b .nil zn (za (qv 0) (za (qv 4) zd)))) zd)))
   (zj (zad (zy zh2 (zh G__law_take (hr.mono (by decide)) Y._law_take.mg Y._law_take.kp Y._law_take.b .nil zn (za (qv 0) (za zf zd))) zf) (zj (zdU (hu1 hr) (qv 3) (zR (za (zq (zdS rfl) Y.min zfL (za (qv 5) (za (qv 6) zd))) (za (zq (zdY rfl) Y.max zg9 (za (qv 5) (za (qv 6) zd))) zd))) zc5)) zJ))))
   (ze (za2 PassesOwn.never rfl (zci Y.range (za (qv 2) zd)) (zr 4 c__law_ties.nd) (ze (zpB 5 6 c__law_ties.nd (za (zh G__law_pick (hr.mono (by decide)) Y._law_pick.mg Y._law_pick.kp Y._law_pick.b .nil zn (za (qv 0) (za (qv 1) zd))) (za (zh G__law_pick (hr.mono (by decide)) Y._law_pick.mg Y._law_pick.kp Y._law_pick.b .nil zn (za (qv 0) (za (qv 1) zd))) zd)))
   (zj (zad (zy zgT (qv 5) (qv 6)) (zj (zdU (hu1 hr) (qv 3) (zR (za (zq (zdS rfl) Y.min zfL (za (qv 5) (za (qv 6) zd))) (za (zq (zdY rfl) Y.max zg9 (za (qv 5) (za (qv 6) zd))) zd))) zc5)) zJ))))
   (zj (zt (zU zT Y.tuple za3 (za (zq (zhD rfl) Y.sorted zaY (za (qv 3) zd)) zd))))))),?_⟩
  intro d hd
  have nd:=hH.ne hd
  have ndh:d≠h:=λz=>by rw[z,hh] at hd;cases hd
  have hh0:upd H d (.dT []) h=some (.lst (xs.map V.str)):=by rw[zi (Ne.symm ndh)];exact hh
  refine⟨_,rfl, .inl ⟨h,_,rfl, .inl (SqL.of hh0),1,_,rfl,⟨by decide,by decide,by omega,by rw[List.length_map];omega⟩,?_⟩⟩
  have hN:(((xs.map V.str).length:Int) -1).toNat=xs.length -1:=by rw[List.length_map];omega
  rw[hN]
  refine zae zb2 (λi σ' H'=>(∃o1 o2 o3,σ'=[some (.ref a),some (.ref h),some (.int more),some (.ref d),o1,o2,o3])/\TD H' d xs i (i+1) 0/\Hand H' a (n+2*i)/\Keep a H H') ?_ (λ_ _ _ _=>trivial) ?_ ?_
  ·exact ⟨⟨_,_,_,rfl⟩,⟨[],[],zb,rfl,Nat.le_refl _,λ_ z=>(nomatch z),Spr.nil⟩,(hH.new hd).mono (by omega),Keep.new hd⟩
  ·rintro i y σ' H1 hi rfl ⟨⟨o1,o2,o3,rfl⟩,td,hH1,k1⟩
   have hh1:=k1 _ _ nh hh
   have g1:atI (xs.map V.str) (1+(i:Int))=some (.str (xs.getD (i+1) "")):=by
    have hi1:i+1<xs.length:=by omega
    rw[Int.add_comm]
    exact zI (j:=i+1) (by simp[hi1,List.getD])
   refine⟨_,rfl,_,rfl,h,_,_,_,rfl,rfl,SqL.of hh1,g1,_,rfl,_,rfl,_,rfl,a,_,_,rfl,hH1,by omega,by omega,by omega,λt' H2 t0 t1 hH2 k2=>?_⟩
   obtain⟨t,rfl⟩:∃t:Nat,t'=(t:Int):=⟨t'.toNat,by omega⟩
   have hh2:=k2 _ _ nh hh1
   have ht:t<xs.length:=by omega
   have g2:atI (xs.map V.str) (t:Int)=some (.str (xs.getD t "")):=zI (by simp[ht,List.getD])
   have hne:xs.getD (i+1) ""≠xs.getD t "":=by
    have hi1:i+1<xs.length:=by omega
    have:=zm6 hnd hi1 ht (by omega)
    simpa[List.getD,hi1,ht] using this
   have mx1:xs.getD (i+1) ""∈xs:=by have hi1:i+1<xs.length:=by omega
                                    simp[List.getD,hi1]
   have mx2:xs.getD t ""∈xs:=by simp[List.getD,ht]
   have hi1':i+1<xs.length:=by omega
   have sx1:xs[i+1]?=some (xs.getD (i+1) ""):=by simp[List.getD,hi1']
   have sx2:xs[t]?=some (xs.getD t ""):=by simp[List.getD,ht]
   have tlt:t<i+1:=by omega
   generalize xs.getD (i+1) ""=x at *
   generalize xs.getD t ""=y at *
   refine⟨h,_,_,_,rfl,rfl,SqL.of hh2,g2,_,_,rfl,?_⟩
   have td2:=td.keep k2 nd
   refine⟨_,rfl,a,9,_,rfl,hH2,by omega,by decide,by decide,λu H3 u0 u9 hH3 k3=>⟨_,_,rfl,rfl,_,rfl,za7 (λ_=>?_) (λ_=>?_)⟩⟩
   ·obtain ⟨kvs,ps,hkv,hkk,hpl,hpg,hsp⟩:=td2.keep k3 nd
    refine⟨_,rfl,_,rfl,_,rfl,x,y,rfl,_,rfl,_,rfl,x,y,rfl,few rfl,λp hp=>?_⟩
    have hkv4:upd H3 p (.tup [.str (if ltS y x=true then y else x), .str (if ltS x y=true then y else x)]) d=some (.dT kvs):=by rw[zi (zl hkv hp)];exact hkv
    have hlk:kvs.length=ps.length:=by have:=congrArg List.length hkk;simpa using this
    refine⟨d,_,rfl,DPut.t (k:=zgx (if ltS y x=true then y else x,if ltS x y=true then y else x)) hkv4 zb (zk (by omega)),⟨_,_,_,rfl⟩,TD.put hkk hpl hpg ⟨?_,?_,zmr hne⟩ (λps' hps=>hsp.tie (by omega) tlt sx1 sx2 hps),?_,?_⟩
    ·dsimp only;split<;>assumption
    ·dsimp only;split<;>assumption
    ·exact ((hH3.new hp).updNe nd).mono (by rw[show((i+1:Nat):Int)=(i:Int)+1 by omega];omega)
    ·exact Keep.updNew (((k1.trans k2).trans k3).trans (Keep.new hp)) hd
   ·exact ⟨⟨_,_,_,rfl⟩,(td2.keep k3 nd).mono (by omega) (by omega) (by omega),hH3.mono (by rw[show((i+1:Nat):Int)=(i:Int)+1 by omega];omega),(k1.trans k2).trans k3⟩
  ·rintro σ' H1 ⟨⟨o1,o2,o3,rfl⟩,td,hH1,k1⟩
   refine⟨_,rfl,more,rfl,by omega,by omega,?_⟩
   rw[Int.toNat_natCast]
   refine zae zb2 (λi σ' H'=>(∃o1 o2 o3,σ'=[some (.ref a),some (.ref h),some (.int more),some (.ref d),o1,o2,o3])/\TD H' d xs (9+i) 20 i/\Hand H' a (n+20+2*i)/\Keep a H H') ?_ (λ_ _ _ _=>trivial) ?_ ?_
   ·exact ⟨⟨_,_,_,rfl⟩,td.mono (by omega) (by omega) (by omega),hH1.mono (by omega),k1⟩
   ·rintro i y σ' H2 hi rfl ⟨⟨o1,o2,o3,rfl⟩,td2,hH2,k2⟩
    have pk:∀{H0:Hp} {n0:Int} {R:VK},Hand H0 a n0->n0<2^40->H0 h=some (.lst (xs.map V.str))->(∀x H',x∈xs->Hand H' a (n0+1)->Keep a H0 H'->R (.str x) H')->zbt K [.ref a, .ref h] H0 R E0:=λhH0 hn0 e0 qq=>
     ⟨a,_,hH0,hn0, .inl ⟨h,_,rfl,nh,SqL.of e0,by rw[List.length_map];omega,by rw[List.length_map];omega,λv H' hv hH' k'=>by
       obtain⟨x,hx,rfl⟩:=List.mem_map.mp hv
       exact qq x H' hx hH' k'⟩⟩
    have hh2:=k2 _ _ nh hh
    refine⟨_,rfl,_,rfl,pk hH2 (by omega) hh2 λx H3 hx hH3 k3=>⟨_,rfl,_,rfl,pk hH3 (by omega) (k3 _ _ nh hh2) λy H4 hy hH4 k4=>⟨_,_,rfl,_,rfl,_,rfl,rfl,_,rfl,za7 (λhc=>?_) (λ_=>?_)⟩⟩⟩
    ·have hne:x≠y:=λz=>by rw[z] at hc;simp at hc
     obtain⟨kvs,ps,hkv,hkk,hpl,hpg,hsp⟩:=(td2.keep k3 nd).keep k4 nd
     refine⟨_,rfl,_,rfl,_,rfl,x,y,rfl,_,rfl,_,rfl,x,y,rfl,few rfl,λp hp=>?_⟩
     have hkv4:upd H4 p (.tup [.str (if ltS y x=true then y else x), .str (if ltS x y=true then y else x)]) d=some (.dT kvs):=by rw[zi (zl hkv hp)];exact hkv
     have hlk:kvs.length=ps.length:=by have:=congrArg List.length hkk;simpa using this
     refine⟨d,_,rfl,DPut.t (k:=zgx (if ltS y x=true then y else x,if ltS x y=true then y else x)) hkv4 zb (zk (by omega)),⟨_,_,_,rfl⟩,TD.put hkk hpl hpg ⟨?_,?_,zmr hne⟩ (λps' hps=>hsp.more hps),?_,?_⟩
     ·dsimp only;split<;>assumption
     ·dsimp only;split<;>assumption
     ·exact ((hH4.new hp).updNe nd).mono (by rw[show((i+1:Nat):Int)=(i:Int)+1 by omega];omega)
     ·exact Keep.updNew (((k2.trans k3).trans k4).trans (Keep.new hp)) hd
    ·exact ⟨⟨_,_,_,rfl⟩,((td2.keep k3 nd).keep k4 nd).mono (by omega) (by omega) (by omega),hH4.mono (by rw[show((i+1:Nat):Int)=(i:Int)+1 by omega];omega),(k2.trans k3).trans k4⟩
   ·rintro σ' H2 ⟨⟨o1,o2,o3,rfl⟩,⟨kvs,ps,hkv,hkk,hpl,hpg,hsp⟩,hH2,k2⟩
    refine⟨_,rfl,d,kvs,ps,rfl,hkv,hkk,by omega,λps' vs l hperm hpw hpa hl=>⟨l,vs,rfl, .inl ⟨SqL.of zb,λp hp=>?_⟩⟩⟩
    have S:Same H2 (upd (upd H2 l (.lst vs)) p (.tup vs)):=(Same.new hl).trans (Same.new hp)
    refine q _ ps' _ (.mkL zb (by rw[List.length_map,hperm.length_eq];omega) ⟨by rw[List.length_map];exact hpa.1,λi v dd e1 e2=>?_⟩) hpw (λp hp=>hpg p (hperm.mem_iff.mp hp)) (hsp.mono (λp hp=>hperm.mem_iff.mp hp) (Nat.le_refl _) (Nat.le_refl _)) ((hH2.same S).mono (by omega)) (k2.trans (Keep.of S))
    rw[List.getElem?_map] at e2
    cases e3:ps'[i]? with
    |none=>rw[e3] at e2;cases e2
    |some pr=>
     rw[e3] at e2
     cases e2
     obtain⟨b,rfl,hb⟩:=hpa.2 i v pr e1 e3
     have hpr:=hpg pr (hperm.mem_iff.mp (List.mem_of_getElem? e3))
     exact .mk2 (S _ _ hb) (.str _ (zS (hxn _ hpr.1))) (.str _ (zS (hxn _ hpr.2.1)))
end
section
variable{P:Program}{w:World}{K:PySem.W.Frag}{mg:Str->Option Value}{base:Heap}
def zd1(ps:List (Str×Str)):Prop:=∃xs k,xs.Nodup/\Spr xs ps k 4
def zmJ:Sp:=λvs H Q _=>∃(a:Addr) (n:Int),vs=[.ref a]/\Hand H a n/\n<2^36/\∀(v:V) (g:Str) (hs:List Str) (ps:List (Str×Str)) (lks hds:List D) (H':Hp),Rep H' v (zaE g hs ps lks hds)->TownOk g hs ps lks hds->(∀x∈hs,x≠"nowhere")->(∃O,Pool hs lks hds O)->(∀d∈lks,∃ds,d= .tup ds/\ds.length<=12)->(∀d∈hds,∃ds,d= .tup ds/\ds.length<=12)->zd1 ps->Hand H' a (n+9000)->Keep a H H'->Q v H'
theorem zgm{d:D}{ds:List D}(e:d= .tup ds)(h:ds.length<=12){O:List Str}(h2:∀d∈ds,zhR O d=true):zcs d=true/\zb8 O d=true/\∃es,d= .tup es/\es.length<=12:=by
 subst e
 refine⟨?_,List.all_eq_true.mpr λd hd=>((Bool.and_eq_true _ _).mp (h2 d hd)).2,ds,rfl,h⟩
 show(decide (ds.length<=90)&&ds.all z6)=true
 rw[decide_eq_true (by omega),List.all_eq_true.mpr λd hd=>((Bool.and_eq_true _ _).mp (h2 d hd)).1];rfl
theorem zh7{d:D}{ds:List D}(e:d= .tup ds)(h:ds.length<=12){O:List Str}(h2:∀d∈ds,zhP O d=true):zcC d=true/\zb8 O d=true/\∃es,d= .tup es/\es.length<=12:=by
 subst e
 refine⟨?_,List.all_eq_true.mpr λd hd=>((Bool.and_eq_true _ _).mp (h2 d hd)).2,ds,rfl,h⟩
 show(decide (ds.length<=90)&&ds.all zcq)=true
 rw[decide_eq_true (by omega),List.all_eq_true.mpr λd hd=>((Bool.and_eq_true _ _).mp (h2 d hd)).1];rfl
theorem zoR(Y:Ev K mg):FnOk P w K mg base CX0 6 Y.a__law_town Y.d__law_town zbM zmJ:=by
 have G__law_take:FnOk P w K mg base CX0 1 Y.a__law_take Y.d__law_take zQ zcU:=zct Y
 have G__law_pick:FnOk P w K mg base CX0 2 Y.a__law_pick Y.d__law_pick zH (zbt K):=zbL Y
 have G__law_names:FnOk P w K mg base CX0 3 Y.a__law_names Y.d__law_names zbw zii:=zlA Y
 have G__law_ties:FnOk P w K mg base CX0 3 Y.a__law_ties Y.d__law_ties zbQ zkt:=znO Y
 have G__law_likings:FnOk P w K mg base CX0 5 Y.a__law_likings Y.d__law_likings zaR (zfk zhR):=zjs Y
 have G__law_hands:FnOk P w K mg base CX0 5 Y.a__law_hands Y.d__law_hands zbo (zfk zhP):=znl Y
 refine Y._law_town.fn.okQ c__law_town (λvs H Q E h=>?_) (λcdv A outer s H vs Q E hr h=>?_)
 ·obtain ⟨a,n,rfl,_⟩:=h;rfl
 ·obtain ⟨a,n,rfl,hH,hn,q⟩:=h
  refine⟨_,(ze (zu 1 c__law_town.nd (zN ix_list (zb0 (za zf (za zf (za zf (za zf (za zf (za zf (za zf (za (zL zal zf (zh G__law_take (hr.mono (by decide)) Y._law_take.mg Y._law_take.kp Y._law_take.b .nil zn (za (qc 0) (za zf zd)))) zd))))))))) (zh G__law_take (hr.mono (by decide)) Y._law_take.mg Y._law_take.kp Y._law_take.b .nil zn (za (qc 0) (za zf zd)))))
   (ze (zdh 2 c__law_town.nd (zh G__law_names (hr.mono (by decide)) Y._law_names.mg Y._law_names.kp Y._law_names.b .nil zn (za (qc 0) (za (zL zal (qv 1) zf) zd))))
   (ze (ze0 (zR (za (zjT zkA (qc 2) zex (zdp (qv 1))) (za (zjT zkA (qc 2) (zdp (qv 1)) zex) zd))) (zdD 2 rfl (zB (zr 3 c__law_town.nd) (zB (zfg 4 c__law_town.nd) zbq))))
   (ze (zu 5 c__law_town.nd (zh G__law_ties (hr.mono (by decide)) Y._law_ties.mg Y._law_ties.kp Y._law_ties.b .nil zn (za (qc 0) (za (qv 3) (za (zh G__law_take (hr.mono (by decide)) Y._law_take.mg Y._law_take.kp Y._law_take.b .nil zn (za (qc 0) (za zf zd))) zd)))))
   (ze (zu 6 c__law_town.nd (zh G__law_pick (hr.mono (by decide)) Y._law_pick.mg Y._law_pick.kp Y._law_pick.b .nil zn (za (qc 0) (za (qv 3) zd))))
   (ze (zu 7 c__law_town.nd (zU zT Y.tuple za3 (za (zq zhH Y.sorted zaY (za (qv 3) zd)) zd)))
   (ze (zu 8 c__law_town.nd (zU zT Y.tuple za3 (za (zak (src:=[none,some 0,some 4,some 2]) o__law_town_1 rfl rfl (za1 (qv 7)) (λ_ _ _ _ _=>(zr 0 o__law_town_1.nd)) (λ_ _ _ _ _=>zbO) (λ_ _ _ _ _=>(zh G__law_likings (hr.mono (by decide)) Y._law_likings.mg Y._law_likings.kp Y._law_likings.b .nil zn (za (qc 1) (za (qc 3) (za (qc 2) zd)))))) zd)))
   (ze (zu 9 c__law_town.nd (zU zT Y.tuple za3 (za (zak (src:=[none,some 0,some 4,some 2]) o__law_town_2 rfl rfl (za1 (qv 7)) (λ_ _ _ _ _=>(zr 0 o__law_town_2.nd)) (λ_ _ _ _ _=>zbO) (λ_ _ _ _ _=>(zh G__law_hands (hr.mono (by decide)) Y._law_hands.mg Y._law_hands.kp Y._law_hands.b .nil zn (za (qc 1) (za (qc 3) (za (qc 2) zd)))))) zd)))
   (zj (zt (zR (za (qv 6) (za (qv 7) (za (qv 5) (za (qv 8) (za (qv 9) zd)))))))))))))))),?_⟩
  refine⟨_,rfl,a,5,n,rfl,hH,by omega,by decide,by decide,λt H1 t0 t5 hH1 k1=>⟨_,_,rfl,rfl,few rfl,λpl hpl=>⟨_,rfl,a,8,n+1,rfl,hH1.new hpl,by omega,by decide,by decide,λu H2 u0 u8 hH2 k2=>?_⟩⟩⟩
  have hpl2:=k2 _ _ (hH1.ne hpl) (zb (o:= .lst [V.int 2,V.int 3,V.int 3,V.int 4,V.int 4,V.int 5,V.int 1,V.int (6+t)]))
  obtain⟨v,ev,hv⟩:=zfi (xs:=[V.int 2,V.int 3,V.int 3,V.int 4,V.int 4,V.int 5,V.int 1,V.int (6+t)]) u0 u8
  obtain⟨m,rfl,m1,m10⟩:∃m:Nat,v= .int (m:Int)/\1<=m/\m<=10:=by
   simp only[List.mem_cons,List.not_mem_nil,or_false] at hv
   rcases hv with rfl|rfl|rfl|rfl|rfl|rfl|rfl|rfl
   ·exact ⟨2,rfl,by decide,by decide⟩
   ·exact ⟨3,rfl,by decide,by decide⟩
   ·exact ⟨3,rfl,by decide,by decide⟩
   ·exact ⟨4,rfl,by decide,by decide⟩
   ·exact ⟨4,rfl,by decide,by decide⟩
   ·exact ⟨5,rfl,by decide,by decide⟩
   ·exact ⟨1,rfl,by decide,by decide⟩
   ·exact ⟨(6+t).toNat,by congr 1;omega,by omega,by omega⟩
  have kp2:Keep a H H2:=(k1.trans (Keep.new hpl)).trans k2
  refine⟨pl,_,_,_,rfl,rfl,SqL.of hpl2,ev,?_⟩
  refine⟨_,rfl,_,rfl,_,_,rfl,rfl,a,n+1+1,m+3,by push_cast;rfl,hH2,by omega,by omega,by omega,λln xs H3 hln hl3 hlen hxn hxd hxw hH3 k3=>?_⟩
  have nln:ln≠a:=hH2.ne hln
  refine⟨_,rfl,_,rfl,_,rfl,ln,_,rfl,SqL.of hl3,λp1 hp1=>?_⟩
  have S1:Same H3 (upd H3 p1 (.lst (zb1 (xs.map V.str) none (some (m:Int))))):=Same.new hp1
  refine⟨_,rfl,_,rfl,_,rfl,ln,_,rfl,SqL.of (S1 _ _ hl3),λp2 hp2=>⟨few rfl,λp3 hp3=>?_⟩⟩
  have S2:=Same.new (o:= .lst (zb1 (xs.map V.str) (some (m:Int)) none)) hp2
  have S3:=Same.new (o:= .tup [V.ref p1,V.ref p2]) hp3
  have S13:=(S1.trans S2).trans S3
  have hp1':=S3 _ _ (S2 _ _ (zb (H:=H3) (a:=p1) (o:= .lst (zb1 (xs.map V.str) none (some (m:Int))))))
  have hp2':=S3 _ _ (zb (H:=upd H3 p1 (.lst (zb1 (xs.map V.str) none (some (m:Int))))) (a:=p2) (o:= .lst (zb1 (xs.map V.str) (some (m:Int)) none)))
  refine⟨p3,_,rfl, .inl (.inl zb),rfl,_,_,rfl,_,_,rfl,rfl,?_⟩
  have hl4:=S13 _ _ hl3
  have hH4:=hH3.same S13
  have np1:p1≠a:=hH3.ne hp1
  have np2:p2≠a:=(hH3.same S1).ne hp2
  have kp4:=(kp2.trans k3).trans (Keep.of S13)
  generalize (upd (upd (upd H3 p1 (HO.lst (zb1 (xs.map V.str) none (some (m:Int))))) p2 (HO.lst (zb1 (xs.map V.str) (some (m:Int)) none))) p3 (HO.tup [V.ref p1,V.ref p2]))=H4 at *
  rw[znJ,←List.map_take] at hp1'
  rw[zfT,←List.map_drop] at hp2'
  have hth:(xs.take m).length=m:=by rw[List.length_take];omega
  have htn:∀x∈xs.take m,zg x=true:=λx hx=>hxn x (List.mem_of_mem_take hx)
  have htw:∀x∈xs.take m,x≠"nowhere":=λx hx=>hxw x (List.mem_of_mem_take hx)
  have htd:(xs.take m).Nodup:=hxd.sublist (List.take_sublist m xs)
  have hdn:∀x∈xs.drop m,zg x=true:=λx hx=>hxn x (List.mem_of_mem_drop hx)
  have hdl:(xs.drop m).length=3:=by rw[List.length_drop];omega
  have hto:∀x∈xs.take m,x∈xs:=λx hx=>List.mem_of_mem_take hx
  have hdo:∀x∈xs.drop m,x∈xs:=λx hx=>List.mem_of_mem_drop hx
  generalize xs.take m=hs at *
  generalize xs.drop m=ms at *
  have NLn:NL xs H4 ln:=⟨xs,hl4,by omega,by omega,λx hx=>⟨hxn x hx,hx⟩⟩
  have NLm:NL xs H4 p2:=⟨ms,hp2',by omega,by omega,λx hx=>⟨hdn x hx,hdo x hx⟩⟩
  refine⟨_,rfl,_,rfl,_,rfl,a,5,_,rfl,hH4,by omega,by decide,by decide,λmo' H5 mo0 mo5 hH5 k45=>?_⟩
  obtain⟨mo,rfl⟩:∃mo:Nat,mo'=(mo:Int):=⟨mo'.toNat,by omega⟩
  have mo30:mo<=30:=by omega
  have hp15:=k45 _ _ np1 hp1'
  refine⟨a,p1,_,mo,hs,rfl,hH5,by omega,hp15,np1,by omega,by omega,htd,htn,mo30,λvt ps H6 rt hpw hpg hspr hH6 k6=>?_⟩
  have hp16:=k6 _ _ np1 hp15
  refine⟨_,rfl,_,rfl,a,_,hH6,by omega, .inl ⟨p1,_,rfl,np1,SqL.of hp16,by rw[List.length_map];omega,by rw[List.length_map];omega,λvg H7 hvg hH7 k7=>?_⟩⟩
  obtain⟨g,hg,rfl⟩:=List.mem_map.mp hvg
  have hp17:=k7 _ _ np1 hp16
  have rt7:=rt.mono (.keep k7 hH6 hH7)
  refine⟨_,rfl,p1,hs,rfl,SqL.of hp17,by omega,htd,λhs' l hperm hrise hl=>⟨l,_,rfl, .inl ⟨SqL.of zb,λpr hpr=>?_⟩⟩⟩
  have S8:Same H7 (upd (upd H7 l (.lst (hs'.map V.str))) pr (.tup (hs'.map V.str))):=(Same.new hl).trans (Same.new hpr)
  have hpr8:(upd (upd H7 l (.lst (hs'.map V.str))) pr (.tup (hs'.map V.str))) pr=some (.tup (hs'.map V.str)):=zb
  have hH8:=hH7.same S8
  have rt8:=rt7.same S8
  have npr:pr≠a:=(hH7.new hl).ne hpr
  have k48:Keep a H4 (upd (upd H7 l (.lst (hs'.map V.str))) pr (.tup (hs'.map V.str))):=((k45.trans k6).trans k7).trans (Keep.of S8)
  have hlen':hs'.length=m:=by rw[hperm.length_eq];exact hth
  generalize (upd (upd H7 l (HO.lst (hs'.map V.str))) pr (HO.tup (hs'.map V.str)))=H8 at *
  have NLn8:=NLn.keep k48 nln
  have NLm8:=NLm.keep k48 np2
  refine⟨_,rfl,pr,rfl,⟨_, .inl (.inl hpr8)⟩,?_⟩
  refine ze2 (a:=a) (m:=n+300) (c:=400) (Pd:=λ_ d=>zcs d=true/\zb8 xs d=true/\∃es,d= .tup es/\es.length<=12) (σr:=[some (.ref a),some (.ref p2),some (.ref ln)]) (zaf (K:=K) (xs:=hs'.map V.str)) (λH' k=> .inl (.inl (k _ _ npr hpr8))) rfl (hH8.mono (by omega)) (by rw[List.length_map];omega) (by decide) (λi x H9 Q1 hi hH9 k9 q1=>?_) (λl1 vl lks H9 hl1 hl1' rl hll pl9 hH9 k9=>?_)
  ·rw[List.length_map] at hi
   exact⟨_,rfl,_,rfl,_,rfl,a,ln,p2,_,xs,rfl,hH9,by omega,NLn8.keep k9 nln,NLm8.keep k9 np2,nln,np2,λv ds H10 rv hds hg10 hH10 k10=>q1 v _ H10 rv (zgm rfl hds hg10) hH10 k10⟩
  refine⟨l1,vl,rfl, .inl ⟨SqL.of hl1',λpA hpA=>?_⟩⟩
  rw[List.length_map] at hll hH9
  have SA:=Same.new (o:= .tup vl) hpA
  have rlA:Rep (upd H9 pA (.tup vl)) (.ref pA) (.tup lks):= .mkL zb (by omega) (rl.mono (.new hpA))
  have hHA:=hH9.new (o:= .tup vl) hpA
  have k8A:Keep a H8 (upd H9 pA (.tup vl)):=k9.trans (Keep.of SA)
  generalize (upd H9 pA (HO.tup vl))=HA at *
  have hprA:=k8A _ _ npr hpr8
  refine⟨_,rfl,pr,rfl,⟨_, .inl (.inl hprA)⟩,?_⟩
  refine ze2 (a:=a) (m:=n+300+400*hs'.length) (c:=400) (Pd:=λ_ d=>zcC d=true/\zb8 xs d=true/\∃es,d= .tup es/\es.length<=12) (σr:=[some (.ref a),some (.ref p2),some (.ref ln)]) (zaf (K:=K) (xs:=hs'.map V.str)) (λH' k=> .inl (.inl (k _ _ npr hprA))) rfl hHA (by rw[List.length_map];omega) (by decide) (λi x HB Q1 hi hHB kB q1=>?_) (λl2 va hds HB hl2 hl2' ra hla plB hHB kB=>?_)
  ·rw[List.length_map] at hi
   exact⟨_,rfl,_,rfl,_,rfl,a,ln,p2,_,xs,rfl,hHB,by omega,(NLn8.keep k8A nln).keep kB nln,(NLm8.keep k8A np2).keep kB np2,nln,np2,λv ds H10 rv hds hg10 hH10 k10=>q1 v _ H10 rv (zh7 rfl hds hg10) hH10 k10⟩
  refine⟨l2,va,rfl, .inl ⟨SqL.of hl2',λpB hpB=>?_⟩⟩
  rw[List.length_map] at hla hHB
  have SB:=Same.new (o:= .tup va) hpB
  have mAB:Mono HA (upd HB pB (.tup va)):=(Mono.keep kB hHA hHB).trans (.of SB)
  have raB:Rep (upd HB pB (.tup va)) (.ref pB) (.tup hds):= .mkL zb (by omega) (ra.mono (.new hpB))
  have kAB:Keep a HA (upd HB pB (.tup va)):=kB.trans (Keep.of SB)
  have hHB':=hHB.new (o:= .tup va) hpB
  have rlB:=rlA.mono mAB
  have rtB:=(rt8.mono (.keep k8A hH8 hHA)).mono mAB
  have hprB:=kAB _ _ npr hprA
  refine⟨_,rfl,_,rfl,_,rfl,_,rfl,_,rfl,few rfl,λpT hpT=>?_⟩
  have rr:Rep (upd HB pB (.tup va)) (.ref pr) (.tup (hs'.map D.str)):=by
   refine .mkL hprB (by rw[List.length_map];omega) ⟨by rw[List.length_map,List.length_map],λi v d e1 e2=>?_⟩
   rw[List.getElem?_map] at e1 e2
   cases e3:hs'[i]? with
   |none=>rw[e3] at e1;cases e1
   |some x=>
    rw[e3] at e1 e2
    cases e1
    cases e2
    exact .str x (zS (htn x (hperm.mem_iff.mp (List.mem_of_getElem? e3))))
  have ST:=Mono.new (o:= .tup [.str g, .ref pr,vt, .ref pA, .ref pB]) hpT
  have rtown:=Rep.mkL (H:=upd (upd HB pB (.tup va)) pT (.tup [.str g, .ref pr,vt, .ref pA, .ref pB])) (p:=pT) (vs:=[.str g, .ref pr,vt, .ref pA, .ref pB]) (ds:=[.str g, .tup (hs'.map D.str), .tup (ps.map pairD), .tup lks, .tup hds]) zb (Nat.le_of_ble_eq_true rfl) (.cons (.str g (zS (htn g hg))) (.cons (rr.mono ST) (.cons (rtB.mono ST) (.cons (rlB.mono ST) (.cons (raB.mono ST) .nil)))))
  have pl9':=zf5 (P:=λd=>zcs d=true/\zb8 xs d=true/\∃es,d= .tup es/\es.length<=12) pl9
  have plB':=zf5 (P:=λd=>zcC d=true/\zb8 xs d=true/\∃es,d= .tup es/\es.length<=12) plB
  refine q _ g hs' ps lks hds _ rtown ⟨hrise,by omega,by omega,λx hx=>htn x (hperm.mem_iff.mp hx),hperm.mem_iff.mpr hg,hpw,λp hp=>?_,by omega,by omega,λd hd=>(pl9' d hd).1,λd hd=>(plB' d hd).1⟩ (λx hx=>htw x (hperm.mem_iff.mp hx)) ⟨xs,⟨by omega,hxn,λx hx=>hto x (hperm.mem_iff.mp hx),λd hd=>(pl9' d hd).2.1,λd hd=>(plB' d hd).2.1⟩⟩ (λd hd=>(pl9' d hd).2.2) (λd hd=>(plB' d hd).2.2) ⟨hs,20,htd,hspr.mono (λ_ z=>z) (Nat.le_refl _) (by omega)⟩ ((hHB'.new hpT).mono (by omega)) (((kp4.trans k48).trans (k8A.trans kAB)).trans (Keep.new hpT))
  obtain⟨h1,h2,h3⟩:=hpg p hp
  exact⟨hperm.mem_iff.mpr h1,hperm.mem_iff.mpr h2,h3⟩
end
section
variable{P:Program}{w:World}{K:PySem.W.Frag}{mg:Str->Option Value}{base:Heap}
theorem zdI{k:Nat}{c:D->Bool}{g:List Str->List Str->Option Str->D->Bool}(Y:Ev K mg)(G_holds:FnOk P w K mg base CX0 k Y.a_holds Y.d_holds zb7 (zeb c g))(c':D->Bool)(g':List Str->List Str->Option Str->D->Bool)
 (hc:∀d,c' d=true->∃x e,d= .tup [.str x,e]) (h1:∀ws ms to x e,c' (.tup [.str x,e])=true->x="not"->c e=true/\(!g ws ms to e)=g' ws ms to (.tup [.str x,e]))
 (h2:∀x e,c' (.tup [.str x,e])=true->¬x="not"->zA (.tup [.str x,e])=true/\∀ws ms to,phB ws ms to x e=g' ws ms to (.tup [.str x,e])):
 FnOk P w K mg base CX0 (k+1) Y.a_holds Y.d_holds zb7 (zeb c' g'):=by
 refine Y.holds.fn.okQ c_holds (λvs H Q E h=>?_) (λcdv A outer s H vs Q E hr h=>?_)
 ·obtain ⟨v,d,pw,pm,vt,ws,ms,to,rfl,_⟩:=h;rfl
 ·obtain ⟨v,d,pw,pm,vt,ws,ms,to,rfl,hd,hcd,hpw,hpm,hto,nw,nm,w1,lw,lm,q⟩:=h
  obtain⟨x,e,rfl⟩:=hc d hcd
  obtain⟨p,v0,v1,rfl,hp,r0,r1⟩:=hd.of2
  cases r0 with
  |str _ hx=>
  refine⟨_,(ze (ze0 (qv 0) (zdD 2 rfl (zB (zr 4 c_holds.nd) (zB (zr 5 c_holds.nd) zbq))))
   (ze (zad (zy zam (qv 4) zaq) (zj (zt (zpD (zh G_holds hr Y.holds.mg Y.holds.kp Y.holds.b .nil zn (za (qv 5) (za (qv 1) (za (qv 2) (za (qv 3) zd)))))))) zJ)
   (ze (zad (zy zam (qv 4) zaq) (zj (zt (zb5 zcO (qv 5) (qv 1)))) zJ)
   (ze (zad (zy zam (qv 4) zaq) (zj (zt (zkO (zb5 zh2 (zq zD Y.len zaD (za (qv 1) zd)) zf) (zkH (zb5 zam (zN ix_tup (qv 1) zf) (qv 5)))))) zJ)
   (ze (zad (zy zam (qv 4) zaq) (zj (zt (zb5 zam (qv 3) (qv 5)))) zJ)
   (ze (zad (zy zam (qv 4) zaq) (zj (zt (zb5 zcO (qv 5) (qv 2)))) zJ)
   (zj (zt (zb5 zpE (zL zfO (zq zD Y.len zaD (za (qv 1) zd)) zf) (qv 5)))))))))),?_⟩
  refine⟨_,rfl,p,_,rfl, .inl (.inl hp),rfl,_,_,rfl,_,_,rfl,rfl,?_⟩
  refine⟨_,rfl,rfl,_,rfl,za7 (λel=>?_) (λel=>?_)⟩
  ·obtain ⟨ce,ge⟩:=h1 ws ms to x e hcd (V.str.inj (of_decide_eq_true el))
   refine⟨_,rfl,_,rfl,_,rfl,_,rfl,v1,e,pw,pm,vt,ws,ms,to,rfl,r1,ce,hpw,hpm,hto,nw,nm,w1,lw,lm,λH' s'=>⟨_,rfl,?_⟩⟩
   have q:=q H' s'
   rw[←ge] at q
   exact q
  have q:=q H (Same.refl H)
  obtain⟨hpl,ge⟩:=h2 x e hcd λz=>el (decide_eq_true (by rw[z]))
  rw[←ge ws ms to] at q
  have bad:∀{y z:Str},y=z->¬decide (V.str y=V.str z)=true->False:=λe h=>h (by rw[e];exact decide_eq_true rfl)
  refine⟨_,rfl,rfl,_,rfl,za7 (λe1=>?_) (λe1=>?_)⟩
  ·have e1:=V.str.inj (of_decide_eq_true e1)
   subst e1
   rcases zbj hpl with⟨z,_⟩|⟨_,y,rfl,ny⟩
   ·exact absurd z (by decide +kernel)
   cases r1 with|str _ _=>
   rw[zpK,←zbu] at q
   exact⟨_,rfl,_,rfl,pw,_,rfl, .inr (.inl (.inl hpw)),rfl,zaH,q⟩
  refine⟨_,rfl,rfl,_,rfl,za7 (λe2=>?_) (λe2=>?_)⟩
  ·have e2:=V.str.inj (of_decide_eq_true e2)
   subst e2
   rcases zbj hpl with⟨z,_⟩|⟨_,y,rfl,ny⟩
   ·exact absurd z (by decide +kernel)
   cases r1 with|str _ _=>
   rw[zkP] at q
   refine⟨_,rfl, .inl ⟨pw,_,rfl, .inr (.inl (.inl hpw)),_,_,rfl,rfl,_,rfl,?_⟩⟩
   match ws,hpw,q with
   |[],hpw,q=>exact zat rfl q
   |[a],hpw,q=>exact zat rfl q
   |a::b::r,hpw,q=>
    refine zaX (decide_eq_true (by rw[List.length_map,List.length_cons,List.length_cons];omega)) ?_
    refine⟨_,rfl,pw,_,1,_,rfl,rfl, .inl (.inl hpw),at1,_,rfl,rfl,?_⟩
    rw[zbT]
    have eb:decide ((a::b::r)[1]?=some y)=decide (b=y):=by
     rw[Bool.eq_iff_iff,decide_eq_true_iff,decide_eq_true_iff];simp
    rw[eb] at q
    exact q
  refine⟨_,rfl,rfl,_,rfl,za7 (λe3=>?_) (λe3=>?_)⟩
  ·have e3:=V.str.inj (of_decide_eq_true e3)
   subst e3
   rcases zbj hpl with⟨z,_⟩|⟨_,y,rfl,ny⟩
   ·exact absurd z (by decide +kernel)
   cases r1 with|str _ _=>
   obtain⟨hsc,hde⟩:=hto.eq (y:=y)
   rw[zpS,←hde] at q
   exact⟨_,rfl,_,rfl,hsc,q⟩
  refine⟨_,rfl,rfl,_,rfl,za7 (λe4=>?_) (λe4=>?_)⟩
  ·have e4:=V.str.inj (of_decide_eq_true e4)
   subst e4
   rcases zbj hpl with⟨z,_⟩|⟨_,y,rfl,ny⟩
   ·exact absurd z (by decide +kernel)
   cases r1 with|str _ _=>
   rw[zhN,←zbu] at q
   exact⟨_,rfl,_,rfl,pm,_,rfl, .inr (.inl (.inl hpm)),rfl,zaH,q⟩
  rcases zbj hpl with⟨rfl,i,rfl,i0,i9⟩|⟨hn,y,rfl,ny⟩
  ·cases r1 with|int _=>
   rw[zj9] at q
   refine⟨_,rfl, .inl ⟨pw,_,rfl, .inr (.inl (.inl hpw)),_,_,rfl,rfl,_,rfl,_,_,rfl,rfl,?_⟩⟩
   have eb:decide (i<=((ws.map V.str).length:Int) -1)=decide (i<(ws.length:Int)):=by
    rw[Bool.eq_iff_iff,decide_eq_true_iff,decide_eq_true_iff,List.length_map];omega
   rw[←eb] at q
   exact q
  ·rcases zcV hn with z|z|z|z
   ·exact (bad z e1).elim
   ·exact (bad z e2).elim
   ·exact (bad z e3).elim
   ·exact (bad z e4).elim
theorem zlu(Y:Ev K mg):FnOk P w K mg base CX0 1 Y.a_holds Y.d_holds zb7 (zeb (λ_=>false) (λ_ _ _ _=>false)):=by
 refine Y.holds.fn.okQ c_holds (λvs H Q E h=>?_) (λcdv A outer s H vs Q E hr h=>?_)
 ·obtain ⟨v,d,_,_,_,_,_,_,rfl,_,z,_⟩:=h;cases z
 ·obtain ⟨v,d,_,_,_,_,_,_,rfl,_,z,_⟩:=h;cases z
theorem zmp(Y:Ev K mg):FnOk P w K mg base CX0 3 Y.a_holds Y.d_holds zb7 (zeb zE zaA):=by
 refine zdI (c:=zA) (g:=zco) Y ?_ zE zaA zgE ?_ ?_
 ·refine zdI Y (zlu Y) zA zco zcj ?_ ?_
  ·intro ws ms to x e h z
   subst z
   exact absurd h (by rw[zcQ];exact Bool.false_ne_true)
  ·exact λx e h _=>⟨h,λ_ _ _=>rfl⟩
 ·intro ws ms to x e h z
  subst z
  rw[zdx,if_pos rfl] at h
  exact⟨h,by show(!zco ws ms to e)=(if("not":Str)="not"then !zco ws ms to e else phB ws ms to "not" e);rw[if_pos rfl]⟩
 ·intro x e h z
  rw[zdx,if_neg z] at h
  exact⟨h,λws ms to=>by show phB ws ms to x e=(if x="not"then !zco ws ms to e else phB ws ms to x e);rw[if_neg z]⟩
end
section
variable{P:Program}{w:World}{K:PySem.W.Frag}{mg:Str->Option Value}{base:Heap}
theorem ze6(Y:Ev K mg):FnOk P w K mg base CX0 4 Y.a_all_hold Y.d_all_hold zba zi9:=by
 have G_holds:FnOk P w K mg base CX0 3 Y.a_holds Y.d_holds zb7 (zeb zE zaA):=zmp Y
 refine Y.all_hold.fn.okQ c_all_hold (λvs H Q E h=>?_) (λcdv A outer s H vs Q E hr h=>?_)
 ·obtain ⟨v,cs,pw,pm,vt,ws,ms,to,rfl,_⟩:=h;rfl
 ·obtain ⟨v,cs,pw,pm,vt,ws,ms,to,rfl,hd,hcs,hpw,hpm,hto,nw,nm,w1,lw,lm,q⟩:=h
  obtain⟨pc,uc,rfl,hpc,rc,_⟩:=hd.ofT
  refine⟨_,(ze (za2 PassesOwn.never rfl (za1 (qv 0)) (zr 4 c_all_hold.nd) (zj (zad (zdO (zcM (zh G_holds (hr.mono (by decide)) Y.holds.mg Y.holds.kp Y.holds.b .nil zn (za (qv 4) (za (qv 1) (za (qv 2) (za (qv 3) zd))))))) (zj (zt zc5)) zJ)))
   (zj (zt zc5))),?_⟩
  refine⟨_,rfl,pc,rfl,⟨_, .inl (.inl hpc)⟩,?_⟩
  refine zae (zaf (K:=K) (xs:=uc)) (λi σ' H'=>(∃o4,σ'=[some (.ref pc),some (.ref pw),some (.ref pm),some vt,o4])/\(cs.take i).all (zaA ws ms to)=true/\Same H H') ⟨⟨_,rfl⟩,rfl,Same.refl _⟩ (λi σ' H' z=> .inl (.inl (z.2.2 _ _ hpc))) ?_ ?_
  ·rintro i y σ' H1 hi hy ⟨⟨o4,rfl⟩,ha,s1⟩
   obtain⟨c,hc,rcc⟩:=rc.get hy
   have hcm:=List.mem_of_getElem? hc
   have tk:(cs.take (i+1)).all (zaA ws ms to)=((cs.take i).all (zaA ws ms to)&&zaA ws ms to c):=by
    rw[List.take_add_one,hc,List.all_append];simp
   refine⟨_,rfl,_,rfl,_,rfl,_,rfl,y,c,pw,pm,vt,ws,ms,to,rfl,rcc.same s1,hcs c hcm,s1 _ _ hpw,s1 _ _ hpm,hto,nw,nm,w1,lw,lm,λH2 s2=>⟨_,rfl,?_⟩⟩
   cases hb:zaA ws ms to c with
   |false=>
    have e:zeC ws ms to cs=false:=List.all_eq_false.mpr ⟨c,hcm,by rw[hb];decide⟩
    have q:=q H2 (s1.trans s2)
    rw[e] at q
    exact zaX rfl q
   |true=>exact zat rfl ⟨⟨_,rfl⟩,by rw[tk,ha,hb];rfl,s1.trans s2⟩
  ·rintro σ' H1 ⟨⟨o4,rfl⟩,ha,s1⟩
   rw[rc.1,List.take_length] at ha
   have q:=q H1 s1
   have e:zeC ws ms to cs=true:=ha
   rw[e] at q
   exact q
theorem zgl(Y:Ev K mg):FnOk P w K mg base CX0 1 Y.a_likings_of Y.d_likings_of zbr zrH:=by
 refine Y.likings_of.fn.okQ zhd (λvs H Q E h=>?_) (λcdv A outer s H vs Q E hr h=>?_)
 ·obtain ⟨v,x,g,hs,ps,lks,hds,j,rfl,_⟩:=h;rfl
 ·obtain ⟨v,x,g,hs,ps,lks,hds,j,rfl,hv,T,hj,q⟩:=h
  obtain⟨p,pr,pt,pl,pa,vt,vl,va,rfl,hp,hpr,hpt,rt,hpl,rl,hpa,ra⟩:=zaz hv
  have hjl:j<hs.length:=by
   rcases Nat.lt_or_ge j hs.length with y|y
   ·exact y
   ·rw[List.getElem?_eq_none y] at hj;cases hj
  have hjk:j<lks.length:=by rw[T.ll];exact hjl
  have hjv:j<vl.length:=by rw[rl.1];exact hjk
  refine⟨_,(zj (zt (zN ix_tup (zN ix_tup (qv 0) zf) (zhj PySem.F.plainAttrs_tuple PySem.F.slot_tuple_index PySem.F.type_tuple_index zgU (zN ix_tup (qv 0) zf) (za (qv 1) zd))))),?_⟩
  refine⟨_,rfl,p,_,3,_,rfl,rfl, .inl (.inl hp),zI (j:=3) rfl,?_⟩
  refine⟨_,rfl,p,_,1,_,rfl,rfl, .inl (.inl hp),zI (j:=1) rfl,?_⟩
  refine⟨.inr (.inr (.inr (.inr ⟨rfl,_,hpr⟩))),_,rfl,pr,hs,x,j,rfl,rfl, .inl (.inl hpr),hj,zh3 T.hs_nd hj,?_⟩
  exact⟨pl,_,_,vl[j],rfl,rfl, .inl (.inl hpl),zI (by simp[hjv]),q _ lks[j] (List.getElem?_eq_getElem hjk) (rl.2 j _ _ (List.getElem?_eq_getElem hjv) (List.getElem?_eq_getElem hjk))⟩
theorem zhW(Y:Ev K mg):FnOk P w K mg base CX0 5 Y.a_worth Y.d_worth zdv zdt:=by
 have G_all_hold:FnOk P w K mg base CX0 4 Y.a_all_hold Y.d_all_hold zba zi9:=ze6 Y
 have G_likings_of:FnOk P w K mg base CX0 1 Y.a_likings_of Y.d_likings_of zbr zrH:=zgl Y
 refine Y.worth.fn.okQ c_worth (λvs H Q E h=>?_) (λcdv A outer s H vs Q E hr h=>?_)
 ·obtain ⟨v,pw,pm,x,ws,ms,g,hs,ps,lks,hds,j,rs,rfl,_⟩:=h;rfl
 ·obtain ⟨v,pw,pm,x,ws,ms,g,hs,ps,lks,hds,j,rs,rfl,hv,T,hj,hlj,hpw,hpm,nw,nm,lw,lm,q⟩:=h
  have hlk:rs.length<=90/\∀r∈rs,z6 r=true:=by
   have h:=T.likes _ (List.mem_of_getElem? hlj)
   have h:(decide (rs.length<=90)&&rs.all z6)=true:=h
   rw[Bool.and_eq_true] at h
   exact⟨of_decide_eq_true h.1,List.all_eq_true.mp h.2⟩
  refine⟨_,(ze (za2 PassesOwn.never rfl (za1 (zh G_likings_of (hr.mono (by decide)) Y.likings_of.mg Y.likings_of.kp Y.likings_of.b .nil zn (za (qv 0) (za (zN ix_tup (qv 1) zf) zd)))) (zdD 2 rfl (zB (zr 3 c_worth.nd) (zB (zr 4 c_worth.nd) zbq))) (zj (zad (zcM (zh G_all_hold (hr.mono (by decide)) Y.all_hold.mg Y.all_hold.kp Y.all_hold.bd (.cons (a:=V.non) rfl .nil) zn (za (qv 3) (za (qv 1) (za (qv 2) zd))))) (zj (zt (qv 4))) zJ)))
   (zj (zt zf))),?_⟩
  refine⟨_,rfl,_,rfl,pw,_,0,_,rfl,rfl, .inl (.inl hpw),at0,v,x,g,hs,ps,lks,hds,j,rfl,hv,T,hj,λvr d hd rd=>?_⟩
  rw[hlj] at hd
  cases hd
  obtain⟨pq,us,rfl,hpq,ru,_⟩:=rd.ofT
  refine⟨pq,rfl,⟨_, .inl (.inl hpq)⟩,?_⟩
  refine zae (zaf (K:=K) (xs:=us)) (λi σ' H'=>(∃o3 o4,σ'=[some v,some (.ref pw),some (.ref pm),o3,o4])/\zO (x::ws) ms rs=zO (x::ws) ms (rs.drop i)/\Same H H') ⟨⟨_,_,rfl⟩,rfl,Same.refl _⟩ (λi σ' H' z=> .inl (.inl (z.2.2 _ _ hpq))) ?_ ?_
  ·rintro i y σ' H1 hi hy ⟨⟨o3,o4,rfl⟩,hw,s1⟩
   obtain⟨r,hr',rr⟩:=ru.get hy
   obtain⟨cs,t,rfl,c4,hcs,ht⟩:=zeI (hlk.2 r (List.mem_of_getElem? hr'))
   obtain⟨q0,v0,v1,rfl,hq0,r0,r1⟩:=(rr.same s1).of2
   refine⟨q0,_,rfl, .inl (.inl hq0),rfl,_,_,rfl,_,_,rfl,rfl,?_⟩
   refine⟨_,rfl,_,rfl,_,rfl,v0,cs,pw,pm, .non,x::ws,ms,none,rfl,r0,hcs,s1 _ _ hpw,s1 _ _ hpm, .inl ⟨rfl,rfl⟩,nw,nm,by simp,by simp;omega,lm,λH2 s2=>⟨_,rfl,?_⟩⟩
   rw[zff hr',zO] at hw
   have er:zeC (x::ws) ms none (zgD (.tup [.tup cs,t]))=zeC (x::ws) ms none cs:=rfl
   rw[er] at hw
   cases hb:zeC (x::ws) ms none cs with
   |true=>
    rw[hb,if_pos rfl] at hw
    exact zaX rfl ⟨_,rfl,q _ H2 (by rw[hw];exact r1.same s2) (s1.trans s2)⟩
   |false=>
    rw[hb,if_neg (by decide)] at hw
    exact zat rfl ⟨⟨_,_,rfl⟩,hw,s1.trans s2⟩
  ·rintro σ' H1 ⟨⟨o3,o4,rfl⟩,hw,s1⟩
   rw[ru.1,List.drop_length,zO] at hw
   exact q _ H1 (by rw[hw];exact .int 0) s1
theorem ziC(Y:Ev K mg):FnOk P w K mg base CX0 1 Y.a_hands_of Y.d_hands_of zcl zrc:=by
 refine Y.hands_of.fn.okQ zjm (λvs H Q E h=>?_) (λcdv A outer s H vs Q E hr h=>?_)
 ·obtain ⟨v,x,g,hs,ps,lks,hds,j,rfl,_⟩:=h;rfl
 ·obtain ⟨v,x,g,hs,ps,lks,hds,j,rfl,hv,T,hj,q⟩:=h
  obtain⟨p,pr,pt,pl,pa,vt,vl,va,rfl,hp,hpr,hpt,rt,hpl,rl,hpa,ra⟩:=zaz hv
  have hjl:j<hs.length:=by
   rcases Nat.lt_or_ge j hs.length with y|y
   ·exact y
   ·rw[List.getElem?_eq_none y] at hj;cases hj
  have hjk:j<hds.length:=by rw[T.lh];exact hjl
  have hjv:j<va.length:=by rw[ra.1];exact hjk
  refine⟨_,(zj (zt (zN ix_tup (zN ix_tup (qv 0) zf) (zhj PySem.F.plainAttrs_tuple PySem.F.slot_tuple_index PySem.F.type_tuple_index zgU (zN ix_tup (qv 0) zf) (za (qv 1) zd))))),?_⟩
  refine⟨_,rfl,p,_,4,_,rfl,rfl, .inl (.inl hp),zI (j:=4) rfl,?_⟩
  refine⟨_,rfl,p,_,1,_,rfl,rfl, .inl (.inl hp),zI (j:=1) rfl,?_⟩
  refine⟨.inr (.inr (.inr (.inr ⟨rfl,_,hpr⟩))),_,rfl,pr,hs,x,j,rfl,rfl, .inl (.inl hpr),hj,zh3 T.hs_nd hj,?_⟩
  exact⟨pa,_,_,va[j],rfl,rfl, .inl (.inl hpa),zI (by simp[hjv]),q _ hds[j] (List.getElem?_eq_getElem hjk) (ra.2 j _ _ (List.getElem?_eq_getElem hjv) (List.getElem?_eq_getElem hjk))⟩
theorem zfb(Y:Ev K mg):FnOk P w K mg base CX0 1 Y.a_marks_behind Y.d_marks_behind zaO ziq:=by
 refine Y.marks_behind.fn.okQ c_marks_behind (λvs H Q E h=>?_) (λcdv A outer s H vs Q E hr h=>?_)
 ·obtain ⟨pm,v,t,w',m,rfl,_⟩:=h;rfl
 ·obtain ⟨pm,v,t,w',m,rfl,hpm,hv,tn,mn,nd,l13,q⟩:=h
  obtain⟨pa,v0,v1,rfl,hpa,r0,r1⟩:=hv.of2
  cases r0 with|str _ _=>
  cases r1 with|str _ _=>
  refine⟨_,(ze (ze0 (qv 1) (zdD 2 rfl (zB (zr 2 c_marks_behind.nd) (zB (zfg 3 c_marks_behind.nd) zbq))))
   (ze (zgL 4 (src:=[none,some 3]) o_marks_behind_1 rfl rfl c_marks_behind.nd (za1 (qv 0)) (λ_ _ _ _ _=>(zr 0 o_marks_behind_1.nd)) (λ_ _ _ _ _=>(zg0 (zy zgT (qv 0) (qc 1)))) (λ_ _ _ _ _=>(qv 0)))
   (ze (zad (zy zam (qv 2) zaq) (zj (zdR (zhj PySem.F.plainAttrs_list PySem.F.slot_list_append PySem.F.type_list_append zbc (qv 4) (za (qc 3) zd)))) zJ)
   (zj (zt (zU zT Y.tuple za3 (za (zq zca Y.sorted zaY (za (qv 4) zd)) zd))))))),?_⟩
  refine⟨_,rfl,pa,_,rfl, .inl (.inl hpa),rfl,_,_,rfl,_,_,rfl,rfl,?_⟩
  refine⟨_,rfl,pm,rfl,⟨_, .inl (.inl hpm)⟩,?_⟩
  refine zki (g:=neD m) (f:=λd=>d) (σr:=[some (.str m)]) (zaf (K:=K)) (λH' s'=> .inl (.inl (s' _ _ hpm))) (zc9 λy hy=>zS (tn y hy)) (by rw[List.length_map];omega) rfl ?_ (λx d HA sA rx hd=>by walk_at "dsp") λl1 us H1 s1 hl1 e1 r1=>?_
  ·intro z d HA Q1 sA rz hd q1
   obtain⟨b,_,rfl⟩:=List.mem_map.mp hd
   cases rz with|str _ _=>
   refine⟨_,rfl,_,rfl,rfl,_,rfl,?_⟩
   rw[zbT]
   exact q1 HA (Same.refl _)
  rw[zne] at r1
  have eus:=zgC r1
  subst eus
  have lf:=List.length_filter_le (λx=>!decide (x=m)) t
  dsimp only[zap]
  have fin:∀(H2:Hp),H2 l1=some (.lst ((zaj t w' m).map V.str))->Same H H2->∀(ss:List Str) (l2:Addr),ss.Perm (zaj t w' m)->sortedS ss=true->H2 l2=none->∃p ys,[V.ref l2]=[.ref p]/\((SqL K (upd H2 l2 (.lst (ss.map V.str))) p ys/\∀l,upd H2 l2 (.lst (ss.map V.str)) l=none->Q (.ref l) (upd (upd H2 l2 (.lst (ss.map V.str))) l (.tup ys)))\/(SqT K (upd H2 l2 (.lst (ss.map V.str))) p ys/\Q (.ref p) (upd H2 l2 (.lst (ss.map V.str))))):=λH2 e2 s2 ss l2 hp2 hs2 hl2=>⟨l2,_,rfl, .inl ⟨SqL.of zb,λp hp=>by
   have es:=zmX hp2 hs2 (zdz nd)
   subst es
   exact q p _ zb ((s2.trans (Same.new hl2)).trans (Same.new hp))⟩⟩
  refine⟨_,rfl,rfl,_,rfl,za7 (λe=>?_) (λe=>?_)⟩
  ·have ew:=V.str.inj (of_decide_eq_true e)
   have eb:zaj t w' m=t.filter (λx=>!decide (x=m))++ [m]:=by unfold zaj;rw[if_pos ew]
   refine⟨_,rfl, .inl ⟨rfl,_,SqL.of e1⟩,_,rfl,l1,_,_,rfl,rfl,e1,zk (by rw[List.length_map];omega),?_⟩
   have e2:(upd H1 l1 (.lst ((t.filter λx=>!decide (x=m)).map V.str ++ [V.str m]))) l1=some (.lst ((zaj t w' m).map V.str)):=by rw[zb,eb,List.map_append];rfl
   have s2:Same H (upd H1 l1 (.lst ((t.filter λx=>!decide (x=m)).map V.str ++ [V.str m]))):=λc o z=>by rw[zi (zl z hl1)];exact s1 _ _ z
   generalize (upd H1 l1 (HO.lst ((t.filter λx=>!decide (x=m)).map V.str ++ [V.str m])))=H2 at *
   exact⟨_,rfl,l1,zaj t w' m,rfl, .inl (SqL.of e2),by rw[eb,List.length_append,List.length_singleton];omega,fin H2 e2 s2⟩
  ·have ew:¬w'="put":=λz=>e (decide_eq_true (by rw[z]))
   have eb:zaj t w' m=t.filter (λx=>!decide (x=m)):=by unfold zaj;rw[if_neg ew,List.append_nil]
   have e2:H1 l1=some (.lst ((zaj t w' m).map V.str)):=by rw[eb];exact e1
   exact⟨_,rfl,l1,zaj t w' m,rfl, .inl (SqL.of e2),by rw[eb];omega,fin H1 e2 s1⟩
theorem zli(Y:Ev K mg):FnOk P w K mg base CX0 5 Y.a_handed Y.d_handed zdf zhU:=by
 have G_all_hold:FnOk P w K mg base CX0 4 Y.a_all_hold Y.d_all_hold zba zi9:=ze6 Y
 have G_hands_of:FnOk P w K mg base CX0 1 Y.a_hands_of Y.d_hands_of zcl zrc:=ziC Y
 have G_marks_behind:FnOk P w K mg base CX0 1 Y.a_marks_behind Y.d_marks_behind zaO ziq:=zfb Y
 refine Y.handed.fn.okQ c_handed (λvs H Q E h=>?_) (λcdv A outer s H vs Q E hr h=>?_)
 ·obtain ⟨v,pw,pm,vt,x,ws,ms,to,g,hs,ps,lks,hds,j,rs,O,rfl,_⟩:=h;rfl
 ·obtain ⟨v,pw,pm,vt,x,ws,ms,to,g,hs,ps,lks,hds,j,rs,O,rfl,hv,T,hj,hdj,HO',O13,On,M0,hpw,hpm,hto,nw,lw,q⟩:=h
  refine⟨_,(ze (zu 4 c_handed.nd (qv 2))
   (ze (za2 PassesOwn.never rfl (za1 (zh G_hands_of (hr.mono (by decide)) Y.hands_of.mg Y.hands_of.kp Y.hands_of.b .nil zn (za (qv 0) (za (zN ix_tup (qv 1) zf) zd)))) (zdD 2 rfl (zB (zr 5 c_handed.nd) (zB (zr 6 c_handed.nd) zbq))) (ze (zad (zdO (zcM (zh G_all_hold (hr.mono (by decide)) Y.all_hold.mg Y.all_hold.kp Y.all_hold.b .nil zn (za (qv 5) (za (qv 1) (za (qv 4) (za (qv 3) zd))))))) (zj znH) zJ)
   (ze (zad (zy zam (zN ix_tup (qv 6) zf) zaq) (zj (zt zaJ)) zJ)
   (zj (zu 4 c_handed.nd (zh G_marks_behind (hr.mono (by decide)) Y.marks_behind.mg Y.marks_behind.kp Y.marks_behind.b .nil zn (za (qv 4) (za (qv 6) zd))))))))
   (zj (zt (qv 4))))),?_⟩
  refine⟨_,rfl,?_⟩
  refine⟨_,rfl,_,rfl,pw,_,0,_,rfl,rfl, .inl (.inl hpw),at0,v,x,g,hs,ps,lks,hds,j,rfl,hv,T,hj,λvr d hd rd=>?_⟩
  rw[hdj] at hd
  cases hd
  obtain⟨pq,us,rfl,hpq,ru,_⟩:=rd.ofT
  refine⟨pq,rfl,⟨_, .inl (.inl hpq)⟩,?_⟩
  refine zae (zaf (K:=K) (xs:=us)) (λi σ' H'=>(∃pt t o5 o6,σ'=[some v,some (.ref pw),some (.ref pm),some vt,some (.ref pt),o5,o6]/\H' pt=some (.tup (t.map V.str))/\Mk O t/\zG (x::ws) to rs ms=zG (x::ws) to (rs.drop i) t)/\Same H H') ⟨⟨pm,ms,_,_,rfl,hpm,M0,rfl⟩,Same.refl _⟩ (λi σ' H' z=> .inl (.inl (z.2 _ _ hpq))) ?_ ?_
  ·rintro i y σ' H1 hi hy ⟨⟨pt,t,o5,o6,rfl,hpt,Mt,he⟩,s1⟩
   obtain⟨r,hr',rr⟩:=ru.get hy
   obtain⟨cs,xa,rfl,hcs,hx⟩:=HO'.2 r (List.mem_of_getElem? hr')
   obtain⟨q0,v0,v1,rfl,hq0,r0,r1⟩:=(rr.same s1).of2
   have tl:=Mt.len O13
   have tn:∀y∈t,zg y=true:=λy hy=>On y (Mt.mem y hy)
   refine⟨q0,_,rfl, .inl (.inl hq0),rfl,_,_,rfl,_,_,rfl,rfl,?_⟩
   refine⟨_,rfl,_,rfl,_,rfl,_,rfl,v0,cs,pw,pt,vt,x::ws,t,to,rfl,r0,hcs,s1 _ _ hpw,hpt,hto,nw,tn,by simp,by simp;omega,by omega,λH2 s2=>⟨_,rfl,?_⟩⟩
   rw[zff hr',zG] at he
   have er:zeC (x::ws) t to (zgD (.tup [.tup cs,xa]))=zeC (x::ws) t to cs:=rfl
   have et:zka (.tup [.tup cs,xa])=xa:=rfl
   rw[er,et] at he
   cases hb:zeC (x::ws) t to cs with
   |false=>
    rw[hb,if_neg (by decide)] at he
    exact zaX rfl ⟨⟨pt,t,_,_,rfl,s2 _ _ hpt,Mt,he⟩,s1.trans s2⟩
   |true=>
    rw[hb,if_pos rfl] at he
    refine zat rfl ?_
    rcases hx with rfl|⟨w1,m1,rfl,hw1,hm1⟩
    ·obtain ⟨pa,ua,rfl,hpa,ra',_⟩:=(r1.same s2).ofT
     have la:ua.length=1:=ra'.1
     obtain⟨u0,rfl⟩:∃u0,ua=[u0]:=by
      match ua,la with
      |[u0],_=>exact ⟨u0,rfl⟩
     have h0:=ra'.head.1
     cases h0 with|str _ _=>
     refine⟨_,rfl,pa,_,0,_,rfl,rfl, .inl (.inl hpa),at0,rfl,_,rfl,zaX (by rw[decide_eq_true rfl]) ?_⟩
     exact q .non H2 (by rw[he];rfl) (s1.trans s2)
    ·obtain ⟨pa,z0,z1,rfl,hpa,rz0,rz1⟩:=(r1.same s2).of2
     cases rz0 with|str _ _=>
     have nk:decide (V.str w1=V.str "keep")=false:=by
      rw[zbT]
      rcases hw1 with rfl|rfl<;>decide +kernel
     refine⟨_,rfl,pa,_,0,_,rfl,rfl, .inl (.inl hpa),at0,rfl,_,rfl,zat nk ?_⟩
     refine⟨_,rfl,_,rfl,pt, .ref pa,t,w1,m1,rfl,s2 _ _ hpt,r1.same s2,tn,On m1 hm1,Mt.nd,tl,λp3 H3 e3 s3=>?_⟩
     exact⟨⟨p3,_,_,_,rfl,e3,Mt.next hm1,he⟩,(s1.trans s2).trans s3⟩
  ·rintro σ' H1 ⟨⟨pt,t,o5,o6,rfl,hpt,Mt,he⟩,s1⟩
   rw[ru.1,List.drop_length,zG] at he
   exact⟨_,rfl,q _ H1 (by rw[he];exact⟨pt,rfl,hpt⟩) s1⟩
end
section
variable{P:Program}{w:World}{K:PySem.W.Frag}{mg:Str->Option Value}{base:Heap}
theorem zhT{g:Str}{hs:List Str}{ps:List (Str×Str)}{lks hds:List D}(T:TownOk g hs ps lks hds){x:Str}(h:x∈hs):∃(j:Nat) (rs:List D),hs[j]?=some x/\lks[j]?=some (.tup rs)/\zK hs lks x=rs:=by
 obtain⟨j,hj,e⟩:=List.getElem_of_mem h
 have hl:j<lks.length:=by rw[T.ll];exact hj
 have hd:=T.likes _ (List.getElem_mem hl)
 cases ed:lks[j] with
 |tup rs=>
  have e1:hs[j]?=some x:=by rw[List.getElem?_eq_getElem hj,e]
  have e2:lks[j]?=some (.tup rs):=by rw[List.getElem?_eq_getElem hl,ed]
  exact⟨j,rs,e1,e2,zho T.hs_nd e1 e2⟩
 |_=>rw[ed] at hd;cases hd
theorem zmS{g:Str}{hs:List Str}{ps:List (Str×Str)}{lks hds:List D}{O:List Str}(T:TownOk g hs ps lks hds)(PO:Pool hs lks hds O){x:Str}(h:x∈hs):∃(j:Nat) (rs:List D),hs[j]?=some x/\hds[j]?=some (.tup rs)/\zK hs hds x=rs/\zdw O rs:=by
 obtain⟨j,d,e1,e2,hm⟩:=zp0 T h
 obtain⟨rs,rfl,hk⟩:=zkZ (T.hands d hm) (PO.hd d hm)
 exact⟨j,rs,e1,e2,zho T.hs_nd e1 e2,hk⟩
theorem zdc{g:Str}{hs:List Str}{ps:List (Str×Str)}{lks hds:List D}{O:List Str}(T:TownOk g hs ps lks hds)(PO:Pool hs lks hds O):∀{w t:List Str},(∀y∈w,y∈hs)->zp hs lks hds w=some t->Mr O t
 |[],t,_,e=>by rw[zp] at e;cases e;exact Mr.nil
 |[_],t,_,e=>by rw[zp] at e;cases e;exact Mr.nil
 |y::x::ws,t,h,e=>by
  rw[zp] at e
  have h':=λz hz=>h z (List.mem_cons_of_mem _ hz)
  cases e2:zp hs lks hds (x::ws)with
  |none=>rw[e2] at e;cases e
  |some t2=>
   rw[e2] at e
   obtain⟨j,rs,_,_,er,hk⟩:=zmS T PO (h' x List.mem_cons_self)
   exact znm (w:=x::ws) (by show zdw O (zK hs hds x);rw[er];exact hk) (zdc T PO h' e2) e
theorem zc1{hs:List Str}{lks hds:List D}:∀{w:List Str} {k:Nat},k<w.length->zp hs lks hds (w.drop k)=none->zp hs lks hds w=none
 |w,0,_,e=>by rw[List.drop_zero] at e;exact e
 |[],k+1,h,_=>by simp at h
 |[y],k+1,h,_=>by simp at h
 |y::x::ws,k+1,h,e=>by
  have:=zc1 (w:=x::ws) (k:=k) (by simpa using h) e
  rw[zp,this]
def zkF:Sp:=λvs H Q _=>∃(v:V) (pw pm:Addr) (y x:Str) (ws ms:List Str) (g:Str) (hs:List Str) (ps:List (Str×Str)) (lks hds:List D) (O:List Str),vs=[v, .ref pw, .ref pm, .str y]/\Rep H v (zaE g hs ps lks hds)/\TownOk g hs ps lks hds/\Pool hs lks hds O/\(∀z∈y::x::ws,z∈hs)/\Mr O ms/\H pw=some (.tup ((x::ws).map V.str))/\H pm=some (.tup (ms.map V.str))/\ws.length<=80/\∀(u:V) (H':Hp),Told H' u (zaQ hs lks hds y (x::ws) ms)->Same H H'->Q u H'
theorem zfl(Y:Ev K mg):FnOk P w K mg base CX0 6 Y.a_marks_ahead Y.d_marks_ahead za4 zkF:=by
 have G_handed:FnOk P w K mg base CX0 5 Y.a_handed Y.d_handed zdf zhU:=zli Y
 have G_worth:FnOk P w K mg base CX0 5 Y.a_worth Y.d_worth zdv zdt:=zhW Y
 refine Y.marks_ahead.fn.okQ c_marks_ahead (λvs H Q E h=>?_) (λcdv A outer s H vs Q E hr h=>?_)
 ·obtain ⟨v,pw,pm,y,x,ws,ms,g,hs,ps,lks,hds,O,rfl,_⟩:=h;rfl
 ·obtain ⟨v,pw,pm,y,x,ws,ms,g,hs,ps,lks,hds,O,rfl,hv,T,PO,hw,M,hpw,hpm,lw,q⟩:=h
  have hy:=hw y List.mem_cons_self
  have hx:=hw x (List.mem_cons_of_mem _ List.mem_cons_self)
  have hn:∀z∈y::x::ws,zg z=true:=λz hz=>T.names z (hw z hz)
  obtain⟨j,rs,hj,hdj,er,hk⟩:=zmS T PO hx
  obtain⟨j2,rs2,hj2,hlj2,er2⟩:=zhT T hy
  have ea0:zG (x::ws) (some y) rs ms=none->zaQ hs lks hds y (x::ws) ms=none:=λe=>by
   unfold zaQ
   rw[show(x::ws).headD ""=x from rfl,er,e]
  have ea1:∀t,zG (x::ws) (some y) rs ms=some t->zaQ hs lks hds y (x::ws) ms=if zdW (zO (y::x::ws) t rs2)=true then none else some t:=λt e=>by
   unfold zaQ
   rw[show(x::ws).headD ""=x from rfl,er,er2,e]
  refine⟨_,(ze (zu 4 c_marks_ahead.nd (zh G_handed (hr.mono (by decide)) Y.handed.mg Y.handed.kp Y.handed.b .nil zn (za (qv 0) (za (qv 1) (za (qv 2) (za (qv 3) zd))))))
   (ze (zad (t_w (zjb (zy zeP (qv 4) zaJ) (zfQ (zy zeP (zh G_worth (hr.mono (by decide)) Y.worth.mg Y.worth.kp Y.worth.b .nil zn (za (qv 0) (za (zL zeu (zR (za (qv 3) zd)) (qv 1)) (za (qv 4) zd)))) zaJ)))) (zj (zt zaJ)) zJ)
   (zj (zt (qv 4))))),?_⟩
  refine⟨_,rfl,_,rfl,_,rfl,_,rfl,v,pw,pm, .str y,x,ws,ms,some y,g,hs,ps,lks,hds,j,rs,O,rfl,hv,T,hj,hdj,hk,PO.few,PO.nm,M.toMk,hpw,hpm, .inr ⟨y,rfl,rfl,hn y List.mem_cons_self⟩,λz hz=>hn z (List.mem_cons_of_mem _ hz),by omega,λu H1 tu s1=>?_⟩
  cases e:zG (x::ws) (some y) rs ms with
  |none=>
   rw[e] at tu
   rw[ea0 e] at q
   cases(show u= .non from tu)
   exact⟨_,rfl,rfl,_,rfl,zaX rfl (zaX rfl (q _ _ rfl s1))⟩
  |some t=>
   rw[e] at tu
   rw[ea1 t e] at q
   obtain⟨p,rfl,hp⟩:=tu
   have Mt:=zcB hk.2 M e
   refine⟨_,rfl,rfl,_,rfl,zat rfl ?_⟩
   refine⟨_,rfl,_,rfl,few rfl,λp1 hp1=>⟨_,rfl,p1,pw,_,_,rfl,rfl, .inl (.inl zb), .inl (.inl (Same.new hp1 _ _ (s1 _ _ hpw))),Nat.le_of_lt (zk (by rw[List.length_map];show 1+(ws.length+1)<=_;omega)),(λz=>nomatch z),(λ_ z=>nomatch z),λ_ _ p2 hp2=>?_⟩⟩
   have S1:=Same.new (o:= .tup [V.str y]) hp1
   have S2:=Same.new (o:= .tup ([V.str y]++(x::ws).map V.str)) hp2
   have s03:=(s1.trans S1).trans S2
   refine⟨_,rfl,v,p2,p,y,x::ws,t,g,hs,ps,lks,hds,j2,rs2,rfl,hv.same s03,T,hj2,hlj2,zb,S2 _ _ (S1 _ _ hp),hn,λz hz=>PO.nm z (Mt.mem z hz),by show ws.length+1<=90;omega,Nat.le_trans (Mt.toMk.len PO.few) (by decide),λu2 H4 r4 s4=>?_⟩
   refine⟨rfl,_,rfl,?_⟩
   rw[zkU r4]
   have s04:=s03.trans s4
   cases hb:zdW (zO (y::x::ws) t rs2)with
   |true=>
    rw[hb,if_pos rfl] at q
    exact zaX rfl (q _ _ rfl s04)
   |false=>
    rw[hb,if_neg (by decide)] at q
    exact zat rfl ⟨_,rfl,q _ _ ⟨p,rfl,s4 _ _ (S2 _ _ (S1 _ _ hp))⟩ s04⟩
def zgY:Sp:=λvs H Q _=>∃(v:V) (pw:Addr) (w:List Str) (g:Str) (hs:List Str) (ps:List (Str×Str)) (lks hds:List D) (O:List Str),vs=[v, .ref pw]/\Rep H v (zaE g hs ps lks hds)/\TownOk g hs ps lks hds/\Pool hs lks hds O/\(∀z∈w,z∈hs)/\H pw=some (.tup (w.map V.str))/\1<=w.length/\w.length<=80/\∀(u:V) (H':Hp),Told H' u (zp hs lks hds w)->Same H H'->Q u H'
theorem zh1(Y:Ev K mg):FnOk P w K mg base CX0 7 Y.a_marks_of Y.d_marks_of zcp zgY:=by
 have G_marks_ahead:FnOk P w K mg base CX0 6 Y.a_marks_ahead Y.d_marks_ahead za4 zkF:=zfl Y
 refine Y.marks_of.fn.okQ c_marks_of (λvs H Q E h=>?_) (λcdv A outer s H vs Q E hr h=>?_)
 ·obtain ⟨v,pw,w,g,hs,ps,lks,hds,O,rfl,_⟩:=h;rfl
 ·obtain ⟨v,pw,w,g,hs,ps,lks,hds,O,rfl,hv,T,PO,hw,hpw,w1,w80,q⟩:=h
  refine⟨_,(ze (zu 2 c_marks_of.nd (zR zd))
   (ze (za2 PassesOwn.never rfl (zqW Y.range Y.reversed (za (zL zfO (zq zD Y.len zaD (za (qv 1) zd)) zf) zd)) (zr 3 c_marks_of.nd) (ze (zu 2 c_marks_of.nd (zh G_marks_ahead (hr.mono (by decide)) Y.marks_ahead.mg Y.marks_ahead.kp Y.marks_ahead.b .nil zn (za (qv 0) (za (zjT zee (qv 1) (zdp (zL zal (qv 3) zf)) zex) (za (qv 2) (za (zN ix_tup (qv 1) (qv 3)) zd))))))
   (zj (zad (zy zeP (qv 2) zaJ) (zj (zt zaJ)) zJ))))
   (zj (zt (qv 2))))),?_⟩
  refine⟨few rfl,λp0 hp0=>?_⟩
  have S0:=Same.new (o:= .tup []) hp0
  have hp0':upd H p0 (.tup []) p0=some (.tup (([]:List Str).map V.str)):=zb
  generalize upd H p0 (HO.tup [])=H0 at *
  have nn:((w.map V.str).length:Int) -1=((w.length -1:Nat):Int):=by rw[List.length_map];omega
  refine⟨_,rfl, .inl ⟨pw,_,rfl, .inr (.inl (.inl (S0 _ _ hpw))),_,_,rfl,rfl,w.length -1,by show [V.int (((w.map V.str).length:Int) -1)]=_;rw[nn],by omega,?_⟩⟩
  have d0:zp hs lks hds (w.drop (w.length -1))=some []:=by
   rw[List.drop_eq_getElem_cons (by omega),List.drop_eq_nil_of_le (by omega),zp]
  refine zae zoZ (λi σ' H'=>(∃pm ms o3,σ'=[some v,some (.ref pw),some (.ref pm),o3]/\H' pm=some (.tup (ms.map V.str))/\zp hs lks hds (w.drop (w.length -1 -i))=some ms)/\Same H H') ⟨⟨p0,[],_,rfl,hp0',d0⟩,S0⟩ (λ_ _ _ _=>trivial) ?_ ?_
  ·rintro i y σ' H1 hi rfl ⟨⟨pm,ms,o3,rfl,hpm,hms⟩,s1⟩
   obtain⟨k,hk⟩:∃k:Nat,k=w.length -1 -1 -i:=⟨_,rfl⟩
   have hk1:w.length -1 -i=k+1:=by omega
   have ei:((w.length -1:Nat):Int) -1 -(i:Int)=(k:Int):=by omega
   have hkl:k<w.length:=by omega
   rw[hk1] at hms
   rw[ei]
   obtain⟨x,ws,ew⟩:∃x ws,w.drop (k+1)=x::ws:=by
    rw[List.drop_eq_getElem_cons (by omega)];exact⟨_,_,rfl⟩
   have lws:ws.length<=80:=by have:=congrArg List.length ew;rw[List.length_drop,List.length_cons] at this;omega
   have ed:w.drop k=w[k]::x::ws:=by rw[List.drop_eq_getElem_cons hkl,ew]
   have hin:∀z∈w[k]::x::ws,z∈hs:=λz hz=>hw z (List.mem_of_mem_drop (by rw[ed];exact hz))
   rw[ew] at hms
   have Mm:=zdc T PO (λz hz=>hin z (List.mem_cons_of_mem _ hz)) hms
   have e1:((k:Int)+1)=((k+1:Nat):Int):=by omega
   have ec:zb1 (w.map V.str) (some ((k:Int)+1)) none=(x::ws).map V.str:=by rw[e1,zfT,←List.map_drop,ew]
   refine⟨_,rfl,_,rfl,_,rfl,_,_,rfl,rfl,_,rfl,pw,_,rfl, .inl (.inl (s1 _ _ hpw)),?_,λp2 hp2=>?_⟩
   ·intro z
    rw[ec] at z
    have:=congrArg List.length z
    rw[List.length_map,List.length_map,←ew,List.length_drop] at this
    omega
   rw[ec] at *
   have S2:=Same.new (o:= .tup ((x::ws).map V.str)) hp2
   refine⟨_,rfl,_,rfl,_,rfl,pw,_,_, .str w[k],rfl,rfl, .inl (.inl (S2 _ _ (s1 _ _ hpw))),zI (by rw[List.getElem?_map,List.getElem?_eq_getElem hkl];rfl),v,p2,pm,w[k],x,ws,ms,g,hs,ps,lks,hds,O,rfl,hv.same (s1.trans S2),T,PO,hin,Mm,zb,S2 _ _ hpm,lws,λu H3 tu s3=>?_⟩
   have s03:=(s1.trans S2).trans s3
   have em:zp hs lks hds (w.drop k)=zaQ hs lks hds w[k] (x::ws) ms:=by rw[ed,zp,hms]
   cases e:zaQ hs lks hds w[k] (x::ws) ms with
   |none=>
    rw[e] at tu em
    cases(show u= .non from tu)
    refine⟨_,rfl,rfl,_,rfl,zaX rfl (q _ _ ?_ s03)⟩
    rw[zc1 hkl em];rfl
   |some t=>
    rw[e] at tu em
    obtain⟨p,rfl,hp⟩:=tu
    refine⟨_,rfl,rfl,_,rfl,zat rfl ⟨⟨p,t,_,rfl,hp,?_⟩,s03⟩⟩
    rw[show w.length -1 -(i+1)=k by omega];exact em
  ·rintro σ' H1 ⟨⟨pm,ms,o3,rfl,hpm,hms⟩,s1⟩
   rw[Nat.sub_self,List.drop_zero] at hms
   refine⟨_,rfl,q _ _ ?_ s1⟩
   rw[hms]
   exact⟨pm,rfl,hpm⟩
end
section
variable{P:Program}{w:World}{K:PySem.W.Frag}{mg:Str->Option Value}{base:Heap}
def zeF(c:D->Bool)(g:List Str->List Str->Option Str->D->Bool):Sp:=λvs H Q _=>∃(v:V) (d:D) (pw pm:Addr) (vt:V) (ws ms:List Str) (to:Option Str),vs=[v, .ref pw, .ref pm,vt]/\Rep H v d/\c d=true/\H pw=some (.tup (ws.map V.str))/\(H pm=some (.tup (ms.map V.str))\/H pm=some (.lst (ms.map V.str)))/\TO vt to/\(∀x∈ws,zg x=true)/\(∀x∈ms,zg x=true)/\1<=ws.length/\ws.length<=100/\ms.length<=100/\∀H',Same H H'->Q (.bl (g ws ms to d)) H'
theorem zoe{ws:List Str}{y:Str}:(((ws.drop 1).take 1).any λz=>decide (z=y))=decide (ws[1]?=some y):=by
 cases ws with
 |nil=>rfl
 |cons a ws=>cases ws with
  |nil=>rfl
  |cons b ws=>simp
theorem zry{vt:V}{to:Option Str}{y:Str}(h:TO vt to):inV (.str y) [vt]=decide (to=some y):=by
 rcases h with⟨rfl,rfl⟩|⟨x,rfl,rfl,_⟩
 ·rfl
 ·have:=zbu (hs:=[x]) (x:=y)
  rw[show [V.str x]=[x].map V.str from rfl,this]
  simp
theorem zeq{k:Nat}{c:D->Bool}{g:List Str->List Str->Option Str->D->Bool}(Y:Ev K mg)(G__law_sure:FnOk P w K mg base CX0 k Y.a__law_sure Y.d__law_sure zag (zeF c g))(c':D->Bool)(g':List Str->List Str->Option Str->D->Bool)
 (hc:∀d,c' d=true->∃x e,d= .tup [.str x,e]) (h1:∀ws ms to x e,c' (.tup [.str x,e])=true->x="not"->c e=true/\(!g ws ms to e)=g' ws ms to (.tup [.str x,e]))
 (h2:∀x e,c' (.tup [.str x,e])=true->¬x="not"->zA (.tup [.str x,e])=true/\∀ws ms to,phB ws ms to x e=g' ws ms to (.tup [.str x,e])):
 FnOk P w K mg base CX0 (k+1) Y.a__law_sure Y.d__law_sure zag (zeF c' g'):=by
 refine Y._law_sure.fn.okQ c__law_sure (λvs H Q E h=>?_) (λcdv A outer s H vs Q E hr h=>?_)
 ·obtain ⟨v,d,pw,pm,vt,ws,ms,to,rfl,_⟩:=h;rfl
 ·obtain ⟨v,d,pw,pm,vt,ws,ms,to,rfl,hd,hcd,hpw,hpm,hto,nw,nm,w1,lw,lm,q⟩:=h
  obtain⟨x,e,rfl⟩:=hc d hcd
  obtain⟨p,v0,v1,rfl,hp,r0,r1⟩:=hd.of2
  cases r0 with
  |str _ hx=>
  refine⟨_,(ze (ze0 (qv 0) (zdD 2 rfl (zB (zr 4 c__law_sure.nd) (zB (zr 5 c__law_sure.nd) zbq))))
   (ze (zad (zy zam (qv 4) zaq) (zj (zt (zpD (zh G__law_sure hr Y._law_sure.mg Y._law_sure.kp Y._law_sure.b .nil zn (za (qv 5) (za (qv 1) (za (qv 2) (za (qv 3) zd)))))))) zJ)
   (ze (zad (zy zam (qv 4) zaq) (zj (zt (zb5 zh2 (zq zD Y.len zaD (za (qv 1) zd)) (qv 5)))) zJ)
   (ze (zu 6 c__law_sure.nd (zb3 (hu1 hr) (zqm (zj2 zaq (qv 1) (zj2 zaq (zjT zee (qv 1) (zdp zf) (zdp zf)) (zj2 zaq (zR (za (qv 3) zd)) (zj2 zaq (qv 2) zqP))))) (qv 4)))
   (zj (zt (zb5 zcO (qv 5) (qv 6)))))))),?_⟩
  refine⟨_,rfl,p,_,rfl, .inl (.inl hp),rfl,_,_,rfl,_,_,rfl,rfl,?_⟩
  refine⟨_,rfl,rfl,_,rfl,za7 (λel=>?_) (λel=>?_)⟩
  ·obtain ⟨ce,ge⟩:=h1 ws ms to x e hcd (V.str.inj (of_decide_eq_true el))
   refine⟨_,rfl,_,rfl,_,rfl,_,rfl,v1,e,pw,pm,vt,ws,ms,to,rfl,r1,ce,hpw,hpm,hto,nw,nm,w1,lw,lm,λH' s'=>⟨_,rfl,?_⟩⟩
   have q:=q H' s'
   rw[←ge] at q
   exact q
  obtain⟨hpl,ge⟩:=h2 x e hcd λz=>el (decide_eq_true (by rw[z]))
  rcases zbj hpl with⟨rfl,i,rfl,i0,i9⟩|⟨hn,y,rfl,ny⟩
  ·cases r1 with|int _=>
   have q:=q H (Same.refl H)
   rw[←ge ws ms to,zj9] at q
   refine⟨_,rfl,rfl,_,rfl,zaX (decide_eq_true rfl) ⟨_,rfl, .inl ⟨pw,_,rfl, .inr (.inl (.inl hpw)),_,rfl,_,_,rfl,rfl,?_⟩⟩⟩
   rw[List.length_map]
   exact q
  cases r1 with|str _ _=>
  have nl:x≠"long":=λz=>by rcases zcV hn with r|r|r|r<;>(rw[z] at r;exact absurd r (by decide +kernel))
  refine⟨_,rfl,rfl,_,rfl,zat (decide_eq_false λz=>nl (V.str.inj z)) ?_⟩
  intro pd hpd
  have S1:=Same.new (o:= .dK []) hpd
  refine⟨_,rfl,_,rfl,_,rfl,_,rfl,pw,_,rfl, .inl (.inl (S1 _ _ hpw)),?_,λp2 hp2=>?_⟩
  ·intro z
   rw[znA (by rw[List.length_map];exact w1)] at z
   have:=congrArg List.length z
   rw[List.length_take,List.length_drop,List.length_map] at this
   omega
  rw[znA (by rw[List.length_map];exact w1),←List.map_drop,←List.map_take] at *
  have S2:=Same.new (o:= .tup (((ws.drop 1).take 1).map V.str)) hp2
  refine⟨_,rfl,few rfl,λp3 hp3=>?_⟩
  have S3:=Same.new (o:= .tup [vt]) hp3
  have hpd3:=S3 _ _ (S2 _ _ (zb (H:=H) (a:=pd) (o:= .dK [])))
  have hp23:=S3 _ _ (zb (H:=upd H pd (.dK [])) (a:=p2) (o:= .tup (((ws.drop 1).take 1).map V.str)))
  have hp33:=zb (H:=upd (upd H pd (.dK [])) p2 (.tup (((ws.drop 1).take 1).map V.str))) (a:=p3) (o:= .tup [vt])
  have S03:=(S1.trans S2).trans S3
  generalize (upd (upd (upd H pd (HO.dK [])) p2 (HO.tup (((ws.drop 1).take 1).map V.str))) p3 (HO.tup [vt]))=H3 at *
  refine⟨_,rfl,hpd3,[(Sum.inr "by", .ref pw),(Sum.inr "from", .ref p2),(Sum.inr "to", .ref p3),(Sum.inr "mark", .ref pm)],rfl,(by decide:4<=15),?_⟩
  have S4:Same H (upd H3 pd (.dK (zcW [] [(Sum.inr "by", .ref pw),(Sum.inr "from", .ref p2),(Sum.inr "to", .ref p3),(Sum.inr "mark", .ref pm)]))):=λb o e=>by rw[zi (zl e hpd)];exact S03 b o e
  have n2:p2≠pd:=λz=>by rw[z,hpd3] at hp23;cases hp23
  have n3:p3≠pd:=λz=>by rw[z,hpd3] at hp33;cases hp33
  have q:=q _ S4
  rw[←ge ws ms to] at q
  suffices h:∃(r:Addr) (xs:List V),zby (zcW [] [(Sum.inr "by",V.ref pw),(Sum.inr "from", .ref p2),(Sum.inr "to", .ref p3),(Sum.inr "mark", .ref pm)]) (Sum.inr x:Key)=some (.ref r)/\(SqL K (upd H3 pd (.dK (zcW [] [(Sum.inr "by",V.ref pw),(Sum.inr "from", .ref p2),(Sum.inr "to", .ref p3),(Sum.inr "mark", .ref pm)]))) r xs\/SqT K (upd H3 pd (.dK (zcW [] [(Sum.inr "by",V.ref pw),(Sum.inr "from", .ref p2),(Sum.inr "to", .ref p3),(Sum.inr "mark", .ref pm)]))) r xs)/\xs.all zdG=true/\inV (.str y) xs=phB ws ms to x (.str y) by
   obtain⟨r,xs,ev,hr',fl,ei⟩:=h
   rw[←ei] at q
   exact⟨_,rfl,pd, .ref r,rfl,by rw[←ev];exact DGet.k (k:=Sum.inr x) zb,_,rfl,_,rfl,r,xs,rfl,hr',rfl,fl,q⟩
  rcases zcV hn with rfl|rfl|rfl|rfl
  ·exact ⟨pw,_,rfl,(.inr (.inl (.inl (S4 _ _ hpw)))),zaH,(by rw[zpK,zbu])⟩
  ·exact ⟨p2,_,rfl,(.inr (.inl (.inl (by rw[zi n2];exact hp23)))),zaH,(by rw[zkP,zbu,zoe])⟩
  ·exact ⟨p3,_,rfl, .inr (.inl (.inl (by rw[zi n3];exact hp33))),(by rcases hto with⟨rfl,rfl⟩|⟨z,rfl,rfl,_⟩<;>rfl),(by rw[zpS,zry hto])⟩
  ·rcases hpm with hpm|hpm
   ·exact ⟨pm,_,rfl,(.inr (.inl (.inl (S4 _ _ hpm)))),zaH,(by rw[zhN,zbu])⟩
   ·exact ⟨pm,_,rfl,(.inl (SqL.of (S4 _ _ hpm))),zaH,(by rw[zhN,zbu])⟩
theorem zmD(Y:Ev K mg):FnOk P w K mg base CX0 1 Y.a__law_sure Y.d__law_sure zag (zeF (λ_=>false) (λ_ _ _ _=>false)):=by
 refine Y._law_sure.fn.okQ c__law_sure (λvs H Q E h=>?_) (λcdv A outer s H vs Q E hr h=>?_)
 ·obtain ⟨v,d,_,_,_,_,_,_,rfl,_,z,_⟩:=h;cases z
 ·obtain ⟨v,d,_,_,_,_,_,_,rfl,_,z,_⟩:=h;cases z
theorem zkV(Y:Ev K mg):FnOk P w K mg base CX0 3 Y.a__law_sure Y.d__law_sure zag (zeF zE zaA):=by
 refine zeq (c:=zA) (g:=zco) Y ?_ zE zaA zgE ?_ ?_
 ·refine zeq Y (zmD Y) zA zco zcj ?_ ?_
  ·intro ws ms to x e h z
   subst z
   exact absurd h (by rw[zcQ];exact Bool.false_ne_true)
  ·exact λx e h _=>⟨h,λ_ _ _=>rfl⟩
 ·intro ws ms to x e h z
  subst z
  rw[zdx,if_pos rfl] at h
  exact⟨h,by show(!zco ws ms to e)=(if("not":Str)="not"then !zco ws ms to e else phB ws ms to "not" e);rw[if_pos rfl]⟩
 ·intro x e h z
  rw[zdx,if_neg z] at h
  exact⟨h,λws ms to=>by show phB ws ms to x e=(if x="not"then !zco ws ms to e else phB ws ms to x e);rw[if_neg z]⟩
def zqC:Sp:=λvs H Q _=>∃(v:V) (pd:Addr) (us:List V) (x:Str) (g:Str) (hs:List Str) (ps:List (Str×Str)) (lks hds:List D) (j:Nat) (u:V),vs=[v, .ref pd, .str x]/\Rep H v (zaE g hs ps lks hds)/\TownOk g hs ps lks hds/\H pd=some (.tup us)/\us.length=hs.length/\hs[j]?=some x/\us[j]?=some u/\∀H',Same H H'->Q u H'
theorem zpN(Y:Ev K mg):FnOk P w K mg base CX0 1 Y.a__law_of Y.d__law_of zcd zqC:=by
 refine Y._law_of.fn.okQ zlq (λvs H Q E h=>?_) (λcdv A outer s H vs Q E hr h=>?_)
 ·obtain ⟨v,pd,us,x,g,hs,ps,lks,hds,j,u,rfl,_⟩:=h;rfl
 ·obtain ⟨v,pd,us,x,g,hs,ps,lks,hds,j,u,rfl,hv,T,hpd,hl,hj,hu,q⟩:=h
  obtain⟨p,pr,pt,pl,pa,vt,vl,va,rfl,hp,hpr,hpt,rt,hpl,rl,hpa,ra⟩:=zaz hv
  have h10:=T.ten
  refine⟨_,(zj (zt (zb3 (hu1 hr) (zk5 Y.dict Y.zip rfl (za (zN ix_tup (qv 0) zf) (za (qv 1) zd))) (qv 2)))),?_⟩
  refine⟨_,rfl,p,_,1,_,rfl,rfl, .inl (.inl hp),zI (j:=1) rfl,_,rfl,pr,pd,true,true,hs,us,rfl,hpr,hpd,hl,T.one,by omega,T.hs_nd,λpz hz=>⟨_,rfl,pz,u,rfl,?_,q _ (Same.new hz)⟩⟩
  rw[←zhC T.hs_nd hj hu]
  exact DGet.k (k:=Sum.inr x) zb
end
section
variable{P:Program}{w:World}{K:PySem.W.Frag}{mg:Str->Option Value}{base:Heap}
theorem zo7{σ:L2.St}{H:Hp}{R:It->Hp->Prop}{i:Nat}{pm:Addr}{xs:List V}(hv:σ[i]?=some (some (.ref pm)))(h:H pm=some (.tup xs)\/H pm=some (.lst xs))(k:∀(J:It) (ok:Hp->Prop),Wk J xs.length (λi x=>xs[i]?=some x) ok->(∀H',Same H H'->ok H')->R J H):zo3 K (zlT i) σ H R\/zio K (zlT i) σ H R:=by
 rcases h with h|h
 ·exact .inl ⟨_,hv,pm,rfl,⟨_, .inl (.inl h)⟩,k _ _ (zaf (K:=K) (xs:=xs)) λH' s=> .inl (.inl (s _ _ h))⟩
 ·exact .inr ⟨_,hv,pm,rfl,⟨_,SqL.of h⟩,k _ _ (zbK (K:=K) (xs:=xs)) λH' s=>SqL.of (s _ _ h)⟩
theorem zmN{cs:List D}{f:D->Bool}:((cs.map f).all id)=cs.all f:=by rw[List.all_map];rfl
theorem zgS(Y:Ev K mg):FnOk P w K mg base CX0 4 Y.a__law_worth Y.d__law_worth zaU zdt:=by
 have G__law_sure:FnOk P w K mg base CX0 3 Y.a__law_sure Y.d__law_sure zag (zeF zE zaA):=zkV Y
 have G__law_of:FnOk P w K mg base CX0 1 Y.a__law_of Y.d__law_of zcd zqC:=zpN Y
 refine Y._law_worth.fn.okQ c__law_worth (λvs H Q E h=>?_) (λcdv A outer s H vs Q E hr h=>?_)
 ·obtain ⟨v,pw,pm,x,ws,ms,g,hs,ps,lks,hds,j,rs,rfl,_⟩:=h;rfl
 ·obtain ⟨v,pw,pm,x,ws,ms,g,hs,ps,lks,hds,j,rs,rfl,hv,T,hj,hlj,hpw,hpm,nw,nm,lw,lm,q⟩:=h
  obtain⟨p,pr,pt,pl,pa,vt,vl,va,rfl,hp,hpr,hpt,rt,hpl,rl,hpa,ra⟩:=zaz hv
  have hlk:rs.length<=90/\∀r∈rs,z6 r=true:=by
   have h:=T.likes _ (List.mem_of_getElem? hlj)
   have h:(decide (rs.length<=90)&&rs.all z6)=true:=h
   rw[Bool.and_eq_true] at h
   exact⟨of_decide_eq_true h.1,List.all_eq_true.mp h.2⟩
  have hjl:j<hs.length:=by
   rcases Nat.lt_or_ge j hs.length with y|y
   ·exact y
   ·rw[List.getElem?_eq_none y] at hj;cases hj
  have hjv:j<vl.length:=by rw[rl.1,T.ll];exact hjl
  have hvj:=List.getElem?_eq_getElem hjv
  obtain⟨pq,us,eq,hpq,ru,_⟩:=(rl.2 j _ _ hvj hlj).ofT
  rw[eq] at hvj
  refine⟨_,(ze (za2 PassesOwn.never rfl (za1 (zh G__law_of (hr.mono (by decide)) Y._law_of.mg Y._law_of.kp Y._law_of.b .nil zn (za (qv 0) (za (zN ix_tup (qv 0) zf) (za (zN ix_tup (qc 1) zf) zd))))) (zdD 2 rfl (zB (zr 3 c__law_worth.nd) (zB (zr 4 c__law_worth.nd) zbq))) (zj (zad (zcM (zq (zcg rfl) Y.all zev (za (zak (src:=[none,some 2,some 1]) o__law_worth_1 rfl rfl (za1 (qv 3)) (λ_ _ _ _ _=>(zr 0 o__law_worth_1.nd)) (λ_ _ _ _ _=>zbO) (λ_ _ _ _ _=>(zh G__law_sure (hr.mono (by decide)) Y._law_sure.mg Y._law_sure.kp Y._law_sure.b .nil zn (za (qv 0) (za (qc 2) (za (qc 1) (za zaJ zd))))))) zd))) (zj (zt (qv 4))) zJ)))
   (zj (zt zf))),?_⟩
  refine⟨_,rfl,_,rfl,p,_,3,_,rfl,rfl, .inl (.inl hp),zI (j:=3) rfl,_,rfl,pw,_,0,_,rfl,rfl, .inl (.inl hpw),at0, .ref p,pl,vl,x,g,hs,ps,lks,hds,j, .ref pq,rfl,hv,T,hpl,by rw[rl.1,T.ll],hj,hvj,λH0 s0=>?_⟩
  refine⟨pq,rfl,⟨_, .inl (.inl (s0 _ _ hpq))⟩,?_⟩
  refine zae (zaf (K:=K) (xs:=us)) (λi σ' H'=>(∃o3 o4,σ'=[some (.ref p),some (.ref pw),some (.ref pm),o3,o4])/\zO (x::ws) ms rs=zO (x::ws) ms (rs.drop i)/\Same H H') ⟨⟨_,_,rfl⟩,rfl,s0⟩ (λi σ' H' z=> .inl (.inl (z.2.2 _ _ hpq))) ?_ ?_
  ·rintro i y σ' H1 hi hy ⟨⟨o3,o4,rfl⟩,hw,s1⟩
   obtain⟨r,hr',rr⟩:=ru.get hy
   obtain⟨cs,t,rfl,c4,hcs,ht⟩:=zeI (hlk.2 r (List.mem_of_getElem? hr'))
   obtain⟨q0,v0,v1,rfl,hq0,r0,r1⟩:=(rr.same s1).of2
   obtain⟨pc,uc,rfl,hpc,rc,_⟩:=r0.ofT
   refine⟨q0,_,rfl, .inl (.inl hq0),rfl,_,_,rfl,_,_,rfl,rfl,?_⟩
   refine⟨_,rfl,pc,rfl,⟨_, .inl (.inl hpc)⟩,?_⟩
   refine zX (zaf (K:=K) (xs:=uc)) (λl i ys σ' H'=>(∃o,σ'=[o,some (.ref pm),some (.ref pw)])/\ys=((cs.take i).map (zaA (x::ws) ms none)).map V.bl/\Same H1 H') ?_ (λl i ys σ' H' hl z=> .inl (.inl (z.2.2 _ _ hpc))) ?_ ?_
   ·exact λl hl=>⟨⟨_,rfl⟩,rfl,Same.new hl⟩
   ·rintro l k y ys σ' H2 hl' hk hyk ⟨⟨o,rfl⟩,rfl,s2⟩ hl2
    obtain⟨c,hc,rcc⟩:=rc.get hyk
    have s12:=s1.trans s2
    refine⟨_,rfl,_,rfl,_,rfl,y,c,pw,pm, .non,x::ws,ms,none,rfl,rcc.same s2,hcs c (List.mem_of_getElem? hc),s12 _ _ hpw, .inl (s12 _ _ hpm), .inl ⟨rfl,rfl⟩,nw,nm,by simp,by simp;omega,lm,λH3 s3=>⟨s3 _ _ hl2,zk (by rw[List.length_map,List.length_map,List.length_take];omega),⟨_,rfl⟩,?_,λb o e=>by rw[zi (zl e hl')];exact(s2.trans s3) b o e⟩⟩
    rw[List.take_add_one,hc,List.map_append,List.map_append];rfl
   ·rintro l ys σ' H2 hl' ⟨⟨o,rfl⟩,rfl,s2⟩ hl2
    rw[rc.1,List.take_length] at hl2
    refine⟨l,_,rfl,SqL.of hl2,_,rfl,?_⟩
    rw[zmN]
    rw[zff hr',zO] at hw
    have er:zeC (x::ws) ms none (zgD (.tup [.tup cs,t]))=cs.all (zaA (x::ws) ms none):=rfl
    rw[er] at hw
    cases hb:cs.all (zaA (x::ws) ms none)with
    |true=>
     rw[hb,if_pos rfl] at hw
     exact zaX rfl ⟨_,rfl,q _ H2 (by rw[hw];exact r1.same s2) (s1.trans s2)⟩
    |false=>
     rw[hb,if_neg (by decide)] at hw
     exact zat rfl ⟨⟨_,_,rfl⟩,hw,s1.trans s2⟩
  ·rintro σ' H1 ⟨⟨o3,o4,rfl⟩,hw,s1⟩
   rw[ru.1,List.drop_length,zO] at hw
   exact q _ H1 (by rw[hw];exact .int 0) s1
def zgR:Sp:=λvs H Q _=>∃(v:V) (pw pm:Addr) (vt:V) (x:Str) (ws ms:List Str) (to:Option Str) (g:Str) (hs:List Str) (ps:List (Str×Str)) (lks hds:List D) (j:Nat) (rs:List D) (O:List Str),vs=[v, .ref pw, .ref pm,vt]/\Rep H v (zaE g hs ps lks hds)/\TownOk g hs ps lks hds/\hs[j]?=some x/\hds[j]?=some (.tup rs)/\zdw O rs/\O.length<=13/\(∀y∈O,zg y=true)/\Mr O ms/\H pw=some (.tup ((x::ws).map V.str))/\H pm=some (.tup (ms.map V.str))/\TO vt to/\(∀y∈x::ws,zg y=true)/\ws.length<=90/\∀(u:V) (H':Hp),Told H' u (zG (x::ws) to rs ms)->Same H H'->Q u H'
theorem zjg(Y:Ev K mg):FnOk P w K mg base CX0 4 Y.a__law_handed Y.d__law_handed za6 zgR:=by
 have G__law_sure:FnOk P w K mg base CX0 3 Y.a__law_sure Y.d__law_sure zag (zeF zE zaA):=zkV Y
 have G__law_of:FnOk P w K mg base CX0 1 Y.a__law_of Y.d__law_of zcd zqC:=zpN Y
 refine Y._law_handed.fn.okQ c__law_handed (λvs H Q E h=>?_) (λcdv A outer s H vs Q E hr h=>?_)
 ·obtain ⟨v,pw,pm,vt,x,ws,ms,to,g,hs,ps,lks,hds,j,rs,O,rfl,_⟩:=h;rfl
 ·obtain ⟨v,pw,pm,vt,x,ws,ms,to,g,hs,ps,lks,hds,j,rs,O,rfl,hv,T,hj,hdj,HO',O13,On,M0,hpw,hpm,hto,nw,lw,q⟩:=h
  obtain⟨p,pr,pt,pl,pa,vtt,vl,va,rfl,hp,hpr,hpt,rt,hpl,rl,hpa,ra⟩:=zaz hv
  have hjl:j<hs.length:=by
   rcases Nat.lt_or_ge j hs.length with y|y
   ·exact y
   ·rw[List.getElem?_eq_none y] at hj;cases hj
  have hjv:j<va.length:=by rw[ra.1,T.lh];exact hjl
  have hvj:=List.getElem?_eq_getElem hjv
  obtain⟨pq,us,eq,hpq,ru,_⟩:=(ra.2 j _ _ hvj hdj).ofT
  rw[eq] at hvj
  have at1:∀{a b:V},atI [a,b] 1=some b:=λ{a b}=>zI (j:=1) rfl
  refine⟨_,(ze (za2 PassesOwn.never rfl (za1 (zh G__law_of (hr.mono (by decide)) Y._law_of.mg Y._law_of.kp Y._law_of.b .nil zn (za (qv 0) (za (zN ix_tup (qv 0) zf) (za (zN ix_tup (qc 1) zf) zd))))) (zdD 2 rfl (zB (zr 4 c__law_handed.nd) (zB (zfg 5 c__law_handed.nd) zbq))) (zj (zad (zcM (zq (zcg rfl) Y.all zev (za (zak (src:=[none,some 2,some 3,some 1]) o__law_handed_1 rfl rfl (za1 (qv 4)) (λ_ _ _ _ _=>(zr 0 o__law_handed_1.nd)) (λ_ _ _ _ _=>zbO) (λ_ _ _ _ _=>(zh G__law_sure (hr.mono (by decide)) Y._law_sure.mg Y._law_sure.kp Y._law_sure.b .nil zn (za (qv 0) (za (qc 3) (za (qc 1) (za (qc 2) zd))))))) zd))) (ze (zad (zy (zqS (zjk hr)) (qc 5) (zR (za zaq zd))) (zj (zt zaJ)) zJ)
   (ze (zdh 2 c__law_handed.nd (zak (src:=[none,some 5]) o__law_handed_2 rfl rfl (zpZ (qc 2)) (λ_ _ _ _ _=>(zr 0 o__law_handed_2.nd)) (λ_ _ _ _ _=>(zg0 (zy zgT (qv 0) (zN (zd5 (K:=K) rfl) (qc 1) zf)))) (λ_ _ _ _ _=>(qv 0))))
   (zj (zad (zy zam (zN ix_tup (qc 5) zf) zaq) (zj (zdh 2 c__law_handed.nd (zq zca Y.sorted zaY (za (zL zfF (qc 2) (zb0 (za (zN ix_tup (qc 5) zf) zd))) zd)))) zJ)))) zJ)))
   (zj (zt (zU zT Y.tuple za3 (za (qc 2) zd))))),?_⟩
  refine⟨_,rfl,_,rfl,p,_,4,_,rfl,rfl, .inl (.inl hp),zI (j:=4) rfl,_,rfl,pw,_,0,_,rfl,rfl, .inl (.inl hpw),at0, .ref p,pa,va,x,g,hs,ps,lks,hds,j, .ref pq,rfl,hv,T,hpa,by rw[ra.1,T.lh],hj,hvj,λH0 s0=>?_⟩
  refine⟨pq,rfl,⟨_, .inl (.inl (s0 _ _ hpq))⟩,?_⟩
  refine zae (zaf (K:=K) (xs:=us)) (λi σ' H'=>(∃ln t o4 o5,σ'=[some (.ref p),some (.ref pw),some (.ref ln),some vt,o4,o5]/\(H' ln=some (.tup (t.map V.str))\/H' ln=some (.lst (t.map V.str)))/\Mr O t/\zG (x::ws) to rs ms=zG (x::ws) to (rs.drop i) t)/\Same H H') ⟨⟨pm,ms,_,_,rfl, .inl (s0 _ _ hpm),M0,rfl⟩,s0⟩ (λi σ' H' z=> .inl (.inl (z.2 _ _ hpq))) ?_ ?_
  ·rintro i y σ' H3 hi hy ⟨⟨ln,t,o4,o5,rfl,hln,Mt,he⟩,s3⟩
   obtain⟨r,hr',rr⟩:=ru.get hy
   obtain⟨cs,xa,rfl,hcs,hx⟩:=HO'.2 r (List.mem_of_getElem? hr')
   obtain⟨q0,v0,v1,rfl,hq0,r0,r1⟩:=(rr.same s3).of2
   obtain⟨pc,uc,rfl,hpc,rc,lc1⟩:=r0.ofT
   have tl:=Mt.toMk.len O13
   have tn:∀y∈t,zg y=true:=λy hy=>On y (Mt.mem y hy)
   have lns:∀{HA HB:Hp},(HA ln=some (.tup (t.map V.str))\/HA ln=some (.lst (t.map V.str)))->Same HA HB->(HB ln=some (.tup (t.map V.str))\/HB ln=some (.lst (t.map V.str))):=λh s=>h.imp (s _ _) (s _ _)
   refine⟨q0,_,rfl, .inl (.inl hq0),rfl,_,_,rfl,_,_,rfl,rfl,?_⟩
   refine⟨_,rfl,pc,rfl,⟨_, .inl (.inl hpc)⟩,?_⟩
   refine zX (zaf (K:=K) (xs:=uc)) (λl i ys σ' H'=>(∃o,σ'=[o,some (.ref ln),some vt,some (.ref pw)])/\ys=((cs.take i).map (zaA (x::ws) t to)).map V.bl/\Same H3 H') ?_ (λl i ys σ' H' hl z=> .inl (.inl (z.2.2 _ _ hpc))) ?_ ?_
   ·exact λl hl=>⟨⟨_,rfl⟩,rfl,Same.new hl⟩
   ·rintro l k y ys σ' H2 hl' hk hyk ⟨⟨o,rfl⟩,rfl,s2⟩ hl2
    obtain⟨c,hc,rcc⟩:=rc.get hyk
    have s12:=s3.trans s2
    refine⟨_,rfl,_,rfl,_,rfl,_,rfl,y,c,pw,ln,vt,x::ws,t,to,rfl,rcc.same s2,hcs c (List.mem_of_getElem? hc),s12 _ _ hpw,lns hln s2,hto,nw,tn,by simp,by simp;omega,by omega,λH4 s4=>⟨s4 _ _ hl2,zk (by rw[List.length_map,List.length_map,List.length_take];omega),⟨_,rfl⟩,?_,λb o e=>by rw[zi (zl e hl')];exact(s2.trans s4) b o e⟩⟩
    rw[List.take_add_one,hc,List.map_append,List.map_append];rfl
   rintro l ys σ' H4 hl' ⟨⟨o,rfl⟩,rfl,s4⟩ hl4
   rw[rc.1,List.take_length] at hl4
   refine⟨l,_,rfl,SqL.of hl4,_,rfl,?_⟩
   rw[zmN]
   rw[zff hr',zG] at he
   have er:zeC (x::ws) t to (zgD (.tup [.tup cs,xa]))=cs.all (zaA (x::ws) t to):=rfl
   have et:zka (.tup [.tup cs,xa])=xa:=rfl
   rw[er,et] at he
   cases hb:cs.all (zaA (x::ws) t to)with
   |false=>
    rw[hb,if_neg (by decide)] at he
    exact zat rfl ⟨⟨ln,t,_,_,rfl,lns hln s4,Mt,he⟩,s3.trans s4⟩
   |true=>
    rw[hb,if_pos rfl] at he
    refine zaX rfl ?_
    have kok:∀y∈(["keep"]:List Str),PyData.strOk y=true:=λy hy=>by rw[List.mem_singleton.mp hy];decide +kernel
    rcases hx with rfl|⟨w1,m1,rfl,hw1,hm1⟩
    ·obtain ⟨pac,rfl,hpac⟩:=zcF (xs:=["keep"]) (r1.same s4)
     refine⟨_,rfl,few rfl,λp5 hp5=>?_⟩
     have S5:=Same.new (o:= .tup [V.str "keep"]) hp5
     refine⟨_,_,zbp (xs:=["keep"]) (S5 _ _ hpac) kok,zbp (xs:=["keep"]) zb kok,Nat.le_trans (Nat.min_le_left _ _) zaw,_,rfl,zaX (by rw[zbh];exact decide_eq_true rfl) ?_⟩
     exact q .non _ (by rw[he];rfl) ((s3.trans s4).trans S5)
    ·have wok:∀y∈ [w1,m1],PyData.strOk y=true:=λy hy=>by
      simp only[List.mem_cons,List.not_mem_nil,or_false] at hy
      rcases hy with rfl|rfl
      ·rcases hw1 with rfl|rfl<;>decide +kernel
      ·exact zaM (On _ hm1)
     obtain⟨pac,rfl,hpac⟩:=zcF (xs:=[w1,m1]) (r1.same s4)
     refine⟨_,rfl,few rfl,λp5 hp5=>?_⟩
     have S5:=Same.new (o:= .tup [V.str "keep"]) hp5
     refine⟨_,_,zbp (xs:=[w1,m1]) (S5 _ _ hpac) wok,zbp (xs:=["keep"]) zb kok,Nat.le_trans (Nat.min_le_left _ _) zaw,_,rfl,zat (by rw[zbh];exact decide_eq_false (λz=>by simp at z)) ?_⟩
     have s45:=s4.trans S5
     have hln5:=lns hln s45
     have hpac5:=S5 _ _ hpac
     generalize (upd H4 p5 (HO.tup [V.str "keep"]))=H5 at *
     refine zo7 rfl hln5 λJ ok wk hok=>?_
     refine zki (g:=neD m1) (f:=λd=>d) (σr:=[some (.ref pac)]) wk hok (zc9 λy hy=>zS (tn y hy)) (by rw[List.length_map];omega) rfl ?_ (λx d HA sA rx hd=>by walk_at "dsp") λl5 us5 H6 s6 hl5 e5 r5=>?_
     ·intro z d HA Q1 sA rz hd q1
      obtain⟨b,_,rfl⟩:=List.mem_map.mp hd
      cases rz with|str _ _=>
      refine⟨_,rfl,_,rfl,pac,_,1,_,rfl,rfl, .inl (.inl (sA _ _ hpac5)),at1,rfl,_,rfl,?_⟩
      rw[zbT]
      exact q1 HA (Same.refl _)
     rw[zne] at r5
     have eus:=zgC r5
     subst eus
     have lf:=List.length_filter_le (λx=>!decide (x=m1)) t
     have hpac6:=s6 _ _ hpac5
     have s36:=(s3.trans s45).trans s6
     refine⟨_,rfl,pac,_,0,_,rfl,rfl, .inl (.inl hpac6),at0,rfl,_,rfl,?_⟩
     rcases hw1 with rfl|rfl
     ·refine zaX (decide_eq_true rfl) ⟨_,rfl,_,rfl,pac,_,1,_,rfl,rfl, .inl (.inl hpac6),at1,few rfl,λp7 hp7=>?_⟩
      have S7:=Same.new (o:= .lst [V.str m1]) hp7
      refine⟨l5,p7,_,_,rfl,rfl,S7 _ _ e5,zb,Nat.le_of_lt (zk (by rw[List.length_map];show _+1<=_;omega)),λp8 hp8=>?_⟩
      have S8:=Same.new (o:= .lst ((t.filter λx=>!decide (x=m1)).map V.str ++ [V.str m1])) hp8
      have eb:(t.filter λx=>!decide (x=m1)).map V.str ++ [V.str m1]=(zaj t "put" m1).map V.str:=by
       unfold zaj
       rw[if_pos rfl,List.map_append];rfl
      have lbb:(zaj t "put" m1).length<64:=by
       unfold zaj
       rw[if_pos rfl,List.length_append,List.length_singleton];omega
      refine⟨p8,zaj t "put" m1,rfl, .inl (SqL.of (by rw[zb,eb])),lbb,λss l9 hp9 hs9 hl9=>?_⟩
      have es:=zmX hp9 hs9 (zdz Mt.nd)
      subst es
      exact⟨⟨l9,ze1 t "put" m1,_,_,rfl, .inr zb,Mt.next hm1,he⟩,((s36.trans S7).trans S8).trans (Same.new hl9)⟩
     ·refine zat (decide_eq_false λz=>absurd (V.str.inj z) (by decide +kernel)) ⟨⟨l5,ze1 t "strike" m1,_,_,rfl, .inr (by rw[ziL Mt];exact e5),Mt.next hm1,he⟩,s36⟩
  ·rintro σ' H3 ⟨⟨ln,t,o4,o5,rfl,hln,Mt,he⟩,s3⟩
   rw[ru.1,List.drop_length,zG] at he
   rcases hln with hln|hln
   ·exact ⟨_,rfl,ln,_,rfl, .inr ⟨.inl (.inl hln),q _ _ (by rw[he];exact⟨ln,rfl,hln⟩) s3⟩⟩
   ·exact ⟨_,rfl,ln,_,rfl, .inl ⟨SqL.of hln,λp6 hp6=>q _ _ (by rw[he];exact⟨p6,rfl,zb⟩) (s3.trans (Same.new hp6))⟩⟩
end
section
variable{P:Program}{w:World}{K:PySem.W.Frag}{mg:Str->Option Value}{base:Heap}
theorem zrt{H:Hp}{v:V}{g:Str}{hs:List Str}{ps:List (Str×Str)}{lks hds:List D}(h:Rep H v (zaE g hs ps lks hds)):ps.length<=1000:=by
 obtain⟨p,x1,x2,x3,x4,x5,rfl,hp,r1,r2,r3,r4,r5⟩:=zrv h
 obtain⟨_,_,_,_,_,b⟩:=r3.ofT
 rwa[List.length_map] at b
def zbW(n:Nat):Sp:=λvs H Q _=>∃(v:V) (pw:Addr) (w:List Str) (g:Str) (hs:List Str) (ps:List (Str×Str)) (lks hds:List D) (O:List Str),vs=[v, .ref pw]/\Rep H v (zaE g hs ps lks hds)/\TownOk g hs ps lks hds/\Pool hs lks hds O/\(∀z∈w,z∈hs)/\H pw=some (.tup (w.map V.str))/\1<=w.length/\w.length<=n/\n<=80/\∀(u:V) (H':Hp),Told H' u (zp hs lks hds w)->Same H H'->Q u H'
theorem zfR(n:Nat)(Y:Ev K mg)(G__law_marks:FnOk P w K mg base CX0 (n+5) Y.a__law_marks Y.d__law_marks zP (zbW n)):FnOk P w K mg base CX0 (n+5+1) Y.a__law_marks Y.d__law_marks zP (zbW (n+1)):=by
 have G__law_handed:FnOk P w K mg base CX0 4 Y.a__law_handed Y.d__law_handed za6 zgR:=zjg Y
 have G__law_worth:FnOk P w K mg base CX0 4 Y.a__law_worth Y.d__law_worth zaU zdt:=zgS Y
 refine Y._law_marks.fn.okQ c__law_marks (λvs H Q E h=>?_) (λcdv A outer s H vs Q E hr h=>?_)
 ·obtain ⟨v,pw,w,g,hs,ps,lks,hds,O,rfl,_⟩:=h;rfl
 ·obtain ⟨v,pw,w,g,hs,ps,lks,hds,O,rfl,hv,T,PO,hw,hpw,w1,wn,n80,q⟩:=h
  refine⟨_,(ze (zad (zy zam (zq zD Y.len zaD (za (qv 1) zd)) zf) (zj (zt (zR zd))) zJ)
   (ze (zu 2 c__law_marks.nd (zh G__law_marks hr Y._law_marks.mg Y._law_marks.kp Y._law_marks.b .nil zn (za (qv 0) (za (zjT zee (qv 1) (zdp zf) zex) zd))))
   (ze (zad (zy zef (qv 2) zaJ) (zj (zu 2 c__law_marks.nd (zh G__law_handed (hr.mono (by omega)) Y._law_handed.mg Y._law_handed.kp Y._law_handed.b .nil zn (za (qv 0) (za (zjT zee (qv 1) (zdp zf) zex) (za (qv 2) (za (zN ix_tup (qv 1) zf) zd))))))) zJ)
   (ze (zad (t_w (zjb (zy zeP (qv 2) zaJ) (zfQ (zy zeP (zh G__law_worth (hr.mono (by omega)) Y._law_worth.mg Y._law_worth.kp Y._law_worth.b .nil zn (za (qv 0) (za (qv 1) (za (qv 2) zd)))) zaJ)))) (zj (zt zaJ)) zJ)
   (zj (zt (qv 2))))))),?_⟩
  refine⟨_,rfl, .inl ⟨pw,_,rfl, .inr (.inl (.inl hpw)),rfl,_,rfl,za7 (λel=>?_) (λel=>?_)⟩⟩
  ·have el:=V.int.inj (of_decide_eq_true el)
   have l1:w.length=1:=by rw[List.length_map] at el;omega
   obtain⟨y,rfl⟩:∃y,w=[y]:=by
    match w,l1 with
    |[y],_=>exact ⟨y,rfl⟩
   exact⟨few rfl,λp1 hp1=>q _ _ ⟨p1,rfl,zb⟩ (Same.new hp1)⟩
  ·have nl:w.length≠1:=λz=>el (decide_eq_true (by rw[List.length_map,z];rfl))
   obtain⟨y,x,ws,rfl⟩:∃y x ws,w=y::x::ws:=by
    match w,w1,nl with
    |y::x::ws,_,_=>exact ⟨y,x,ws,rfl⟩
    |[y],_,z=>exact absurd rfl z
   have hn:∀z∈y::x::ws,zg z=true:=λz hz=>T.names z (hw z hz)
   have hx:=hw x (List.mem_cons_of_mem _ List.mem_cons_self)
   have hy:=hw y List.mem_cons_self
   have hw':∀z∈x::ws,z∈hs:=λz hz=>hw z (List.mem_cons_of_mem _ hz)
   obtain⟨j,rs,hj,hdj,er,hk⟩:=zmS T PO hx
   obtain⟨j2,rs2,hj2,hlj2,er2⟩:=zhT T hy
   have lws:ws.length+2<=n+1:=wn
   have ec:zb1 ((y::x::ws).map V.str) (some 1) none=(x::ws).map V.str:=by
    have:=zfT (xs:=(y::x::ws).map V.str) (m:=1)
    exact this
   have cne:∀{C:Prop},zb1 ((y::x::ws).map V.str) (some 1) none=(y::x::ws).map V.str->C:=λz=>by
    rw[ec] at z
    have:=congrArg List.length z
    simp at this
   have eM0:zp hs lks hds (x::ws)=none->zp hs lks hds (y::x::ws)=none:=λe=>by rw[zp,e]
   have eM1:∀t,zp hs lks hds (x::ws)=some t->zp hs lks hds (y::x::ws)=zaQ hs lks hds y (x::ws) t:=λt e=>by rw[zp,e]
   have ea0:∀t,zG (x::ws) (some y) rs t=none->zaQ hs lks hds y (x::ws) t=none:=λt e=>by
    unfold zaQ
    rw[show(x::ws).headD ""=x from rfl,er,e]
   have ea1:∀t t',zG (x::ws) (some y) rs t=some t'->zaQ hs lks hds y (x::ws) t=if zdW (zO (y::x::ws) t' rs2)=true then none else some t':=λt t' e=>by
    unfold zaQ
    rw[show(x::ws).headD ""=x from rfl,er,er2,e]
   refine⟨_,rfl,_,rfl,_,rfl,pw,_,rfl, .inl (.inl hpw),cne,λp1 hp1=>?_⟩
   rw[ec]
   have S1:=Same.new (o:= .tup ((x::ws).map V.str)) hp1
   refine⟨v,p1,x::ws,g,hs,ps,lks,hds,O,rfl,hv.same S1,T,PO,hw',zb,by simp,by show ws.length+1<=n;omega,by omega,λu H2 tu s2=>?_⟩
   have s02:=S1.trans s2
   cases e:zp hs lks hds (x::ws)with
   |none=>
    rw[e] at tu
    cases(show u= .non from tu)
    rw[eM0 e] at q
    exact⟨_,rfl,rfl,_,rfl,zat rfl ⟨_,rfl,rfl,_,rfl,zaX rfl (zaX rfl (q _ _ rfl s02))⟩⟩
   |some t=>
    rw[e] at tu
    obtain⟨p,rfl,hp⟩:=tu
    have Mt:=zdc T PO hw' e
    rw[eM1 t e] at q
    refine⟨_,rfl,rfl,_,rfl,zaX rfl ⟨_,rfl,_,rfl,_,rfl,pw,_,rfl, .inl (.inl (s02 _ _ hpw)),cne,λp3 hp3=>?_⟩⟩
    rw[ec]
    have S3:=Same.new (o:= .tup ((x::ws).map V.str)) hp3
    have s03:=s02.trans S3
    refine⟨_,rfl,_,rfl,pw,_,0,_,rfl,rfl, .inl (.inl (s03 _ _ hpw)),at0,v,p3,p, .str y,x,ws,t,some y,g,hs,ps,lks,hds,j,rs,O,rfl,hv.same s03,T,hj,hdj,hk,PO.few,PO.nm,Mt,zb,S3 _ _ hp, .inr ⟨y,rfl,rfl,hn y List.mem_cons_self⟩,λz hz=>hn z (List.mem_cons_of_mem _ hz),by omega,λu4 H4 tu4 s4=>?_⟩
    have s04:=s03.trans s4
    cases e4:zG (x::ws) (some y) rs t with
    |none=>
     rw[e4] at tu4
     rw[ea0 t e4] at q
     cases(show u4= .non from tu4)
     exact⟨_,rfl,rfl,_,rfl,zaX rfl (zaX rfl (q _ _ rfl s04))⟩
    |some t'=>
     rw[e4] at tu4
     rw[ea1 t t' e4] at q
     obtain⟨p4,rfl,hp4⟩:=tu4
     have Mt':=zcB hk.2 Mt e4
     refine⟨_,rfl,rfl,_,rfl,zat rfl ⟨_,rfl,_,rfl,_,rfl,v,pw,p4,y,x::ws,t',g,hs,ps,lks,hds,j2,rs2,rfl,hv.same s04,T,hj2,hlj2,s04 _ _ hpw,hp4,hn,λz hz=>PO.nm z (Mt'.mem z hz),by show ws.length+1<=90;omega,Nat.le_trans (Mt'.toMk.len PO.few) (by decide),λu5 H5 r5 s5=>⟨rfl,_,rfl,?_⟩⟩⟩
     rw[zkU r5]
     have s05:=s04.trans s5
     cases hb:zdW (zO (y::x::ws) t' rs2)with
     |true=>
      rw[hb,if_pos rfl] at q
      exact zaX rfl (q _ _ rfl s05)
     |false=>
      rw[hb,if_neg (by decide)] at q
      exact zat rfl ⟨_,rfl,q _ _ ⟨p4,rfl,s5 _ _ hp4⟩ s05⟩
theorem zi3(Y:Ev K mg):FnOk P w K mg base CX0 5 Y.a__law_marks Y.d__law_marks zP (zbW 0):=by
 refine Y._law_marks.fn.okQ c__law_marks (λvs H Q E h=>?_) (λcdv A outer s H vs Q E hr h=>?_)
 ·obtain ⟨v,pw,w,g,hs,ps,lks,hds,O,rfl,_⟩:=h;rfl
 ·obtain ⟨v,pw,w,g,hs,ps,lks,hds,O,rfl,hv,T,PO,hw,hpw,w1,w0,_⟩:=h;omega
theorem zf3(Y:Ev K mg):∀n,FnOk P w K mg base CX0 (n+5) Y.a__law_marks Y.d__law_marks zP (zbW n)
 |0=>zi3 Y
 |n+1=>by
  rw[show n+1+5=n+5+1 by omega]
  exact zfR n Y (zf3 Y n)
theorem zeE(Y:Ev K mg):FnOk P w K mg base CX0 17 Y.a__law_marks Y.d__law_marks zP (zbW 12):=zf3 Y 12
def zft:Sp:=λvs H Q _=>∃(v:V) (x:Str) (g:Str) (hs:List Str) (ps:List (Str×Str)) (lks hds:List D),vs=[v, .str x]/\Rep H v (zaE g hs ps lks hds)/\TownOk g hs ps lks hds/\x∈hs/\∀(l:Addr) (H':Hp),H' l=some (.lst ((hs.filter (ziQ ps x)).map V.str))->Same H H'->Q (.ref l) H'
theorem zm9{ps:List (Str×Str)}{a b:Str}:((pyL (ps.map pairD)).any λz=>z.eqv (.tuple (zz [a,b])))=decide ((a,b)∈ps):=by
 rw[zcX,List.map_map,List.any_map,Bool.eq_iff_iff,List.any_eq_true,decide_eq_true_iff]
 have e:∀p:Str×Str,((λz=>PyData.eqv z (.tuple (zz [a,b])))∘(pyD∘pairD)) p=decide ([p.1,p.2]=[a,b]):=λp=>by
  rw[←zbh];rfl
 constructor
 ·rintro ⟨p,hp,h⟩
  rw[e p] at h
  have h:=of_decide_eq_true h
  obtain⟨x,y⟩:=p
  injection h with h1 h2
  injection h2 with h2 _
  simp only at h1 h2
  rw[←h1,←h2];exact hp
 ·intro h
  exact⟨(a,b),h,by rw[e];exact decide_eq_true rfl⟩
theorem zg1(Y:Ev K mg):FnOk P w K mg base CX0 1 Y.a__law_beside Y.d__law_beside zaG zft:=by
 refine Y._law_beside.fn.okQ zgu (λvs H Q E h=>?_) (λcdv A outer s H vs Q E hr h=>?_)
 ·obtain ⟨v,x,g,hs,ps,lks,hds,rfl,_⟩:=h;rfl
 ·obtain ⟨v,x,g,hs,ps,lks,hds,rfl,hv,T,hx,q⟩:=h
  have hps:=zrt hv
  obtain⟨p,pr,pt,pl,pa,vt,vl,va,rfl,hp,hpr,hpt,rt,hpl,rl,hpa,ra⟩:=zaz hv
  have T10:=T.ten
  have hn:∀y∈hs,PyData.strOk y=true:=λy hy=>zaM (T.names y hy)
  have okT:okD (.tup (ps.map pairD))=true:=(zhs (c:=171) (k:=2) 1000 (by rw[List.length_map];exact hps) λd hd=>by
   obtain⟨q,hq,rfl⟩:=List.mem_map.mp hd
   obtain⟨t1,t2,_⟩:=T.ties q hq
   exact zn3 (zd6 (T.names _ t1)) (zd6 (T.names _ t2))).1
  have rT:Rep H (.ref pt) (.tup (ps.map pairD)):= .mkL hpt (by rw[List.length_map];exact hps) rt
  have mnx:∀y∈hs,PyData.strOk (if ltS x y=true then x else y)=true/\PyData.strOk (if ltS y x=true then x else y)=true:=λy hy=>by
   constructor<;>split<;>first|exact hn _ hx|exact hn _ hy
  refine⟨_,(zj (zt (zak (src:=[none,some 1,some 0]) o__law_beside_1 rfl rfl (za1 (zN ix_tup (qc 0) zf)) (λ_ _ _ _ _=>(zr 0 o__law_beside_1.nd)) (λ_ _ _ _ _=>(zg0 (zy (zq1 (zjk hr)) (zR (za (zq (zdS rfl) Y.min zfL (za (qv 0) (za (qc 1) zd))) (za (zq (zdY rfl) Y.max zg9 (za (qv 0) (za (qc 1) zd))) zd))) (zN (zd5 (K:=K) rfl) (qc 2) zf)))) (λ_ _ _ _ _=>(qv 0))))),?_⟩
  refine⟨_,rfl,p,_,1,_,rfl,rfl, .inl (.inl hp),zI (j:=1) rfl,pr,rfl,⟨_, .inl (.inl hpr)⟩,?_⟩
  let f:Str->Bool:=λy=>(pyL (ps.map pairD)).any λz=>z.eqv (.tuple (zz [if ltS x y=true then x else y,if ltS y x=true then x else y]))
  refine zX (zaf (K:=K) (xs:=hs.map V.str)) (λl i ys σ' H'=>(∃o,σ'=[o,some (.str x),some (.ref p)])/\ys=((hs.take i).filter f).map V.str/\Same H H') ?_ (λl i ys σ' H' hl z=> .inl (.inl (z.2.2 _ _ hpr))) ?_ ?_
  ·exact λl hl=>⟨⟨_,rfl⟩,rfl,Same.new hl⟩
  ·rintro l i y0 ys σ' H1 hl' hi hy ⟨⟨o,rfl⟩,rfl,s1⟩ hl1
   rw[List.length_map] at hi
   rw[List.getElem?_map] at hy
   obtain⟨y,ey,rfl⟩:∃y,hs[i]?=some y/\y0= .str y:=by
    cases e:hs[i]? with
    |none=>rw[e] at hy;cases hy
    |some y=>rw[e] at hy;cases hy;exact⟨y,rfl,rfl⟩
   have hym:=List.mem_of_getElem? ey
   obtain⟨m1,m2⟩:=mnx y hym
   refine⟨_,rfl,_,rfl,y,x,rfl,_,rfl,_,rfl,y,x,rfl,few rfl,λp2 hp2=>?_⟩
   have S2:=Same.new (o:= .tup [V.str (if ltS x y=true then x else y),V.str (if ltS y x=true then x else y)]) hp2
   have s12:=s1.trans S2
   have tt:=zrD (rT.same s12) okT
   rw[pyD] at tt
   refine⟨_,rfl,p,_,2,_,rfl,rfl, .inl (.inl (s12 _ _ hp)),zI (j:=2) rfl,_,_,zbp (xs:=[if ltS x y=true then x else y,if ltS y x=true then x else y]) zb (λz hz=>by
    simp only[List.mem_cons,List.not_mem_nil,or_false] at hz
    rcases hz with rfl|rfl
    ·exact m1
    ·exact m2), .inr tt,zaw,_,rfl,?_⟩
   have tk:(hs.take (i+1)).filter f=(hs.take i).filter f ++(if f y=true then [y] else []):=by
    rw[List.take_add_one,ey,List.filter_append]
    show _ ++List.filter f [y]=_
    rw[List.filter_cons,List.filter_nil]
   have lf:=List.length_filter_le f (hs.take i)
   have lt:=List.length_take_le i hs
   have hl2:=S2 _ _ hl1
   refine za7 (λhb=>?_) (λhb=>?_)
   ·have hb:f y=true:=hb
    rw[hb,if_pos rfl] at tk
    exact⟨_,rfl,hl2,zk (by rw[List.length_map];omega),⟨_,rfl⟩,by rw[tk,List.map_append];rfl,λb o e=>by rw[zi (zl e hl')];exact s12 b o e⟩
   ·have hb:¬f y=true:=hb
    rw[if_neg hb,List.append_nil] at tk
    exact⟨hl2,⟨_,rfl⟩,by rw[tk],s12⟩
  ·rintro l ys σ' H1 hl' ⟨⟨o,rfl⟩,rfl,s1⟩ hl1
   rw[List.length_map,List.take_length] at hl1
   have ef:f=ziQ ps x:=funext λy=>zm9
   rw[ef] at hl1
   exact q l H1 hl1 s1
end
section
variable{P:Program}{w:World}{K:PySem.W.Frag}{mg:Str->Option Value}{base:Heap}
def wD(w:List Str):D:= .tup (w.map D.str)
def zgJ:Sp:=λvs H Q _=>∃(v:V) (g:Str) (hs:List Str) (ps:List (Str×Str)) (lks hds:List D),vs=[v]/\Rep H v (zaE g hs ps lks hds)/\TownOk g hs ps lks hds/\∀(l:Addr) (us:List V) (ways:List (List Str)) (H':Hp),H' l=some (.lst us)->RepL H' us (ways.map wD)->(∀w∈ways,WOk hs w)->ways.Nodup->(∀w,w∈ways↔SW g ps w)->H l=none->Same H H'->Q (.ref l) H'
theorem znP(Y:Ev K mg):FnOk P w K mg base CX0 2 Y.a__law_ways Y.d__law_ways zbV zgJ:=by
 have G__law_beside:FnOk P w K mg base CX0 1 Y.a__law_beside Y.d__law_beside zaG zft:=zg1 Y
 refine Y._law_ways.fn.okQ c__law_ways (λvs H Q E h=>?_) (λcdv A outer s H vs Q E hr h=>?_)
 ·obtain ⟨v,g,hs,ps,lks,hds,rfl,_⟩:=h;rfl
 ·obtain ⟨v,g,hs,ps,lks,hds,rfl,hv,T,q⟩:=h
  obtain⟨p,pr,pt,pl,pa,vt,vl,va,rfl,hp,hpr,hpt,rt,hpl,rl,hpa,ra⟩:=zaz hv
  have T10:=T.ten
  have T1:=T.one
  refine⟨_,(ze (zu 1 c__law_ways.nd (zb0 (za (zR (za (zN ix_tup (qv 0) zf) zd)) zd)))
   (ze (zu 2 c__law_ways.nd zf)
   (ze (zoE (zy zpu (qv 2) (zq zD Y.len zaD (za (qv 1) zd))) (ze (zdh 3 c__law_ways.nd (zN ix_list (qv 1) (qv 2)))
   (ze (zdR (zhj PySem.F.plainAttrs_list PySem.F.slot_list_extend PySem.F.type_list_extend zlx (qv 1) (za (zak (src:=[none,some 3]) o__law_ways_1 rfl rfl (zcw (zh G__law_beside (hr.mono (by decide)) Y._law_beside.mg Y._law_beside.kp Y._law_beside.b .nil zn (za (qv 0) (za (zN ix_tup (qc 3) zf) zd)))) (λ_ _ _ _ _=>(zr 0 o__law_ways_1.nd)) (λ_ _ _ _ _=>(zg0 (zy (zgd (K:=K) rfl) (qv 0) (qc 1)))) (λ_ _ _ _ _=>(zL (zm5 (K:=K) rfl) (zR (za (qv 0) zd)) (qc 1)))) zd)))
   (zj (zu 2 c__law_ways.nd (zL zal (qv 2) zf))))))
   (zj (zt (qv 1)))))),?_⟩
  refine⟨_,rfl,p,_,0,_,rfl,rfl, .inl (.inl hp),at0,few rfl,λp1 hp1=>⟨few rfl,λl hl=>?_⟩⟩
  have S1:=Same.new (o:= .tup [V.str g]) hp1
  have S2:=Same.new (o:= .lst [V.ref p1]) hl
  have hlN:H l=none:=S1.free hl
  have gn:=T.names g T.goal
  have e2:=zb (H:=upd H p1 (.tup [V.str g])) (a:=l) (o:= .lst [V.ref p1])
  have r2:RepL (upd (upd H p1 (.tup [V.str g])) l (.lst [V.ref p1])) [V.ref p1] ([[g]].map wD):= .cons (.mkL (vs:=[g].map V.str) (ds:=[g].map D.str) (S2 _ _ zb) (by simp) (zc9 λy hy=>by rw[List.mem_singleton.mp hy];exact zS gn)) .nil
  have S12:=S1.trans S2
  generalize (upd (upd H p1 (HO.tup [V.str g])) l (HO.lst [V.ref p1]))=H2 at *
  refine⟨λm σ' H'=>∃(at':Nat) (ways:List (List Str)) (us:List V) (o3:Option V),σ'=[some (.ref p),some (.ref l),some (.int (at':Int)),o3]/\H' l=some (.lst us)/\RepL H' us (ways.map wD)/\(∀w∈ways,WOk hs w)/\Bf g hs ps ways at'/\at'<=ways.length/\m=zeo hs.length (ways.drop at')/\at'+m<=986410/\Same H H',⟨_,0,[[g]],[V.ref p1],_,rfl,e2,r2,λw hw=>by rw[List.mem_singleton.mp hw];exact⟨Nat.le_refl 1,by simp,λy hy=>by rw[List.mem_singleton.mp hy];exact T.goal⟩,Bf.start,Nat.zero_le _,rfl,?_,S12⟩,?_⟩
  ·show 0+(Fw (hs.length -1)+0)<=986410
   have:=zqZ (hs.length -1) (List.mem_range.mpr (by omega))
   omega
  rintro m σ' H3 ⟨at',ways,us,o3,rfl,hl3,r3,hok,bf,hat,rfl,hb,s3⟩
  have lu:us.length=ways.length:=by have:=r3.1;rwa[List.length_map] at this
  have tot:ways.length<=986410:=by
   have:=zfv (n:=hs.length) (ways.drop at')
   rw[List.length_drop] at this
   omega
  refine⟨_,rfl,_,rfl, .inl ⟨l,us,rfl, .inl (SqL.of hl3),_,_,rfl,rfl,_,rfl,za7 (λhlt=>?_) (λhlt=>?_)⟩⟩
  ·have hlt:at'<ways.length:=by have:=of_decide_eq_true hlt;omega
   have hau:at'<us.length:=by omega
   have ew:ways[at']?=some ways[at']:=List.getElem?_eq_getElem hlt
   have rw':=r3.2 at' us[at'] (wD ways[at']) (List.getElem?_eq_getElem hau) (by rw[List.getElem?_map,ew];rfl)
   have wok:=hok _ (List.getElem_mem hlt)
   have ed:ways.drop at'=ways[at']::ways.drop (at'+1):=List.drop_eq_getElem_cons hlt
   rw[ed] at hb
   have eu:us[at']?=some us[at']:=List.getElem?_eq_getElem hau
   have ec:zeo hs.length (ways[at']::ways.drop (at'+1))=Fw (hs.length -ways[at'].length)+zeo hs.length (ways.drop (at'+1)):=rfl
   rw[ed,ec]
   rw[ec] at hb
   generalize ways[at']=w at *
   generalize us[at']=u at *
   obtain⟨pw,rfl,hpw⟩:=zcF rw'
   obtain⟨x,ws,rfl⟩:∃x ws,w=x::ws:=by
    match w,wok.ne with
    |x::ws,_=>exact ⟨x,ws,rfl⟩
   have w10:=wok.len T10
   refine⟨_,λσ' H' h=>h,?_⟩
   refine⟨_,rfl,_,rfl,l,us,_, .ref pw,rfl,rfl,SqL.of hl3,zI eu,?_⟩
   refine⟨_,rfl, .inl ⟨rfl,_,SqL.of hl3⟩,?_⟩
   refine⟨_,rfl,_,rfl,pw,_,0,_,rfl,rfl, .inl (.inl hpw),at0, .ref p,x,g,hs,ps,lks,hds,rfl,hv.same s3,T,wok.mem x List.mem_cons_self,λlb H4 elb s4=>?_⟩
   have bf':=bf.next T.hs_nd ew
   generalize hf:ziQ ps x=f at *
   refine⟨lb,rfl,⟨_,SqL.of elb⟩,?_⟩
   have hpw4:=s4 _ _ hpw
   refine zX (zbK (K:=K) (xs:=(hs.filter f).map V.str)) (λl' i ys σ' H'=>(∃o,σ'=[o,some (.ref pw)])/\RepL H' ys (((((hs.filter f).take i).filter (zbx (x::ws))).map (·::x::ws)).map wD)/\Same H4 H') ?_ (λl' i ys σ' H' hl z=>SqL.of (z.2.2 _ _ elb)) ?_ ?_
   ·exact λl' hl'=>⟨⟨_,rfl⟩,RepL.nil,Same.new hl'⟩
   ·rintro l' i y0 ys σ' H5 hl' hi hy ⟨⟨o,rfl⟩,r5,s5⟩ hl5
    rw[List.getElem?_map] at hy
    obtain⟨y,ey,rfl⟩:∃y,(hs.filter f)[i]?=some y/\y0= .str y:=by
     cases e:(hs.filter f)[i]? with
     |none=>rw[e] at hy;cases hy
     |some y=>rw[e] at hy;cases hy;exact⟨y,rfl,rfl⟩
    have hym:y∈hs:=(List.mem_filter.mp (List.mem_of_getElem? ey)).1
    have tk:((hs.filter f).take (i+1)).filter (zbx (x::ws))=((hs.filter f).take i).filter (zbx (x::ws))++(if zbx (x::ws) y=true then [y] else []):=by
     rw[List.take_add_one,ey,List.filter_append]
     show _ ++List.filter _ [y]=_
     rw[List.filter_cons,List.filter_nil]
    have ly:ys.length<=10:=by
     have h1:=r5.1
     rw[List.length_map,List.length_map] at h1
     have h2:=List.length_filter_le (zbx (x::ws)) ((hs.filter f).take i)
     have h3:=List.length_take_le i (hs.filter f)
     have h3':((hs.filter f).take i).length<=(hs.filter f).length:=by rw[List.length_take];omega
     have h4:=List.length_filter_le f hs
     omega
    refine⟨_,rfl,_,rfl,pw,_,rfl, .inr (.inl (.inl (s5 _ _ hpw4))),rfl,zaH,_,rfl,?_⟩
    have eb:(if true then !inV (V.str y) ((x::ws).map V.str)else inV (V.str y) ((x::ws).map V.str))=zbx (x::ws) y:=by
     show(!inV (V.str y) ((x::ws).map V.str))=_
     rw[zbu];rfl
    rw[eb]
    cases hbb:zbx (x::ws) y with
    |false=>
     rw[hbb,if_neg (by decide),List.append_nil] at tk
     exact zat rfl ⟨hl5,⟨_,rfl⟩,by rw[tk];exact r5,s5⟩
    |true=>
     rw[hbb,if_pos rfl] at tk
     refine zaX rfl ⟨_,rfl,few rfl,λp6 hp6=>⟨_,rfl,p6,pw,_,_,rfl,rfl, .inl (.inl zb), .inl (.inl (Same.new hp6 _ _ (s5 _ _ hpw4))),Nat.le_of_lt (zk (by rw[List.length_map];show 1+(ws.length+1)<=_;have:ws.length+1<=10:=w10;omega)),(λz=>nomatch z),(λ_ z=>nomatch z),λ_ _ p7 hp7=>?_⟩⟩
     have S6:=Same.new (o:= .tup [V.str y]) hp6
     have S7:=Same.new (o:= .tup ([V.str y]++(x::ws).map V.str)) hp7
     have s57:=(s5.trans S6).trans S7
     have hl7:=S7 _ _ (S6 _ _ hl5)
     have rn:Rep (upd (upd H5 p6 (.tup [V.str y])) p7 (.tup ([V.str y]++(x::ws).map V.str))) (.ref p7) (wD (y::x::ws)):= .mkL (vs:=(y::x::ws).map V.str) (ds:=(y::x::ws).map D.str) zb (by rw[List.length_map];have:ws.length+1<=10:=w10;show ws.length+1+1<=1000;omega) (zc9 λz hz=>by
      rcases List.mem_cons.mp hz with rfl|hz
      ·exact zS (T.names _ hym)
      ·exact zS (T.names _ (wok.mem z hz)))
     refine⟨hl7,zk (by omega),⟨_,rfl⟩,?_,λb o e=>by rw[zi (zl e hl')];exact s57 b o e⟩
     rw[tk,List.map_append,List.map_append]
     exact RepL.mono (.append (r5.mono (.of (S6.trans S7))) (.cons rn .nil)) (.lset hl7)
   rintro l' zs σ' H5 hl' ⟨⟨o,rfl⟩,r5,s5⟩ hl5
   rw[List.length_map,List.take_length] at r5
   have kc:=zle (f:=f) T.hs_nd wok
   have hkl:=zfv (n:=hs.length) (zdB hs (x::ws) f)
   have lz:zs.length=(zdB hs (x::ws) f).length:=by
    have h1:=r5.1
    rw[List.length_map] at h1
    exact h1
   have s35:=s4.trans s5
   have hl35:=s35 _ _ hl3
   refine⟨l,l',us,zs,rfl,rfl,hl35,hl5,?_,?_⟩
   ·rw[lu,lz]
    have:ways.length+(zdB hs (x::ws) f).length<=2000000:=by omega
    exact Nat.le_trans this (Nat.le_of_ble_eq_true rfl)
   have rN:RepL (upd H5 l (.lst (us ++zs))) (us ++zs) ((ways ++zdB hs (x::ws) f).map wD):=by
    rw[List.map_append]
    exact RepL.mono (.append (r3.mono (.of s35)) r5) (.lset hl35)
   refine⟨_,rfl,_,_,rfl,rfl,zeo hs.length ((ways ++zdB hs (x::ws) f).drop (at'+1)),?_,at'+1,ways ++zdB hs (x::ws) f,us ++zs,some (.ref pw),?_,zb,rN,?_,bf',?_,rfl,?_,?_⟩
   ·rw[List.drop_append_of_le_length (by omega),zh0];omega
   ·rw[show((at'+1:Nat):Int)=(at':Int)+1 by omega];rfl
   ·intro c hc
    rcases List.mem_append.mp hc with hc|hc
    ·exact hok c hc
    ·exact zoz wok c hc
   ·rw[List.length_append];omega
   ·rw[List.drop_append_of_le_length (by omega),zh0];omega
   ·exact λb o e=>by rw[zi (zl e hlN)];exact(s3.trans s35) b o e
  ·have hge:ways.length<=at':=by have:=of_decide_eq_false (Bool.not_eq_true _▸hlt);omega
   exact⟨_,rfl,q l us ways H3 hl3 r3 hok bf.nd (bf.all T.goal (λp hp=>⟨(T.ties p hp).1,(T.ties p hp).2.1⟩) hge) hlN s3⟩
end
section
variable{P:Program}{w:World}{K:PySem.W.Frag}{mg:Str->Option Value}{base:Heap}
theorem zp4{k:Nat}{A:Around}(r:Room k A):A.units+70<cLine:=by have:=r.un;omega
theorem zla{a b c:V}:atI [a,b,c] (-1)=some c:=rfl
def zjV:Sp:=λvs H Q _=>∃(v:V) (x:Str) (g:Str) (hs:List Str) (ps:List (Str×Str)) (lks hds:List D),vs=[v, .str x]/\Rep H v (zaE g hs ps lks hds)/\TownOk g hs ps lks hds/\∀(l:Addr) (ts:List Str) (H':Hp),H l=none->H' l=some (.lst (ts.map V.str))->ts.Perm (zc6 ps x)->sortedS ts=true->Same H H'->Q (.ref l) H'
theorem zkT(Y:Ev K mg):FnOk P w K mg base CX0 1 Y.a_tied Y.d_tied zeJ zjV:=by
 refine Y.tied.fn.okQ c_tied (λvs H Q E h=>?_) (λcdv A outer s H vs Q E hr h=>?_)
 ·obtain ⟨v,x,g,hs,ps,lks,hds,rfl,_⟩:=h;rfl
 ·obtain ⟨v,x,g,hs,ps,lks,hds,rfl,hv,T,q⟩:=h
  obtain⟨p,pr,pt,pl,pa,vt,vl,va,rfl,hp,hpr,hpt,rt,hpl,rl,hpa,ra⟩:=zaz hv
  have TP:=T.lp
  refine⟨_,(ze (zu 2 c_tied.nd (zN ix_tup (qv 0) zf))
   (zj (zt (zq zca Y.sorted zaY (za (zL zfF (zak (src:=[none,none,some 1]) o_tied_1 rfl rfl (za1 (qv 2)) (λ_ _ _ _ _=>(zfN (K:=K) 2 rfl rfl (zB (zr 0 o_tied_1.nd) (zB (zr 1 o_tied_1.nd) zbq)))) (λ_ _ _ _ _=>(zg0 (zy zam (qv 1) (qc 2)))) (λ_ _ _ _ _=>(qv 0))) (zak (src:=[none,none,some 1]) o_tied_2 rfl rfl (za1 (qv 2)) (λ_ _ _ _ _=>(zfN (K:=K) 2 rfl rfl (zB (zr 0 o_tied_2.nd) (zB (zr 1 o_tied_2.nd) zbq)))) (λ_ _ _ _ _=>(zg0 (zy zam (qv 0) (qc 2)))) (λ_ _ _ _ _=>(qv 1)))) zd))))),?_⟩
  refine⟨_,rfl,p,_,2,_,rfl,rfl, .inl (.inl hp),zI (j:=2) rfl,?_⟩
  refine⟨_,rfl,pt,rfl,⟨_, .inl (.inl hpt)⟩,?_⟩
  refine zia (ps:=ps) (sel:=λp=>decide (p.2=x)) (f:=(·.1)) (λσ'=>∃o1 o2,σ'=[o1,o2,some (.str x)]) (zaf (K:=K)) (λH' s'=> .inl (.inl (s' _ _ hpt))) rt (by omega) ⟨_,_,rfl⟩ ?_ λl1 H1 s1 hl1 e1=>?_
  ·rintro q p σ' H1 A B ⟨o1,o2,rfl⟩ s1 hq hp1 k
   refine⟨q,_,rfl, .inl (.inl hq),rfl,_,_,rfl,_,_,rfl,rfl,_,rfl,_,rfl,rfl,_,rfl,?_⟩
   have k:=k [some (.str p.1),some (.str p.2),some (.str x)] ⟨_,_,rfl⟩
   rw[zbT]
   cases e:decide (p.2=x)with
   |false=>rw[e] at k;exact k
   |true=>rw[e] at k;exact⟨_,rfl,k⟩
  refine⟨_,rfl,pt,rfl,⟨_, .inl (.inl (s1 _ _ hpt))⟩,?_⟩
  refine zia (ps:=ps) (sel:=λp=>decide (p.1=x)) (f:=(·.2)) (λσ'=>∃o1 o2,σ'=[o1,o2,some (.str x)]) (zaf (K:=K)) (λH' s'=> .inl (.inl (s' _ _ (s1 _ _ hpt)))) (rt.mono (.of s1)) (by omega) ⟨_,_,rfl⟩ ?_ λl2 H2 s2 hl2 e2=>?_
  ·rintro q p σ' H1 A B ⟨o1,o2,rfl⟩ s1 hq hp1 k
   refine⟨q,_,rfl, .inl (.inl hq),rfl,_,_,rfl,_,_,rfl,rfl,_,rfl,_,rfl,rfl,_,rfl,?_⟩
   have k:=k [some (.str p.1),some (.str p.2),some (.str x)] ⟨_,_,rfl⟩
   rw[zbT]
   cases e:decide (p.1=x)with
   |false=>rw[e] at k;exact k
   |true=>rw[e] at k;exact⟨_,rfl,k⟩
  have nl:=zmV T x
  have nl':((ps.filter λp=>decide (p.2=x)).map (·.1)).length+((ps.filter λp=>decide (p.1=x)).map (·.2)).length<=10:=by rw[←List.length_append];exact nl
  refine⟨l1,l2,_,_,rfl,rfl,s2 _ _ e1,e2,Nat.le_of_lt (zk (by simp only[List.length_map] at nl'⊢;omega)),λl3 hl3=>?_⟩
  rw[←List.map_append]
  have S3:=Same.new (o:= .lst ((zc6 ps x).map V.str)) hl3
  refine⟨l3,zc6 ps x,rfl, .inl (SqL.of zb),by omega,λts l4 hp4 hs4 hl4=>q l4 ts _ ?_ zb hp4 hs4 (((s1.trans s2).trans S3).trans (Same.new hl4))⟩
  exact z7 ((s1.trans s2).trans S3) hl4
theorem zgz(Y:Ev K mg):FnOk P w K mg base CX0 6 Y.a_liking_key Y.d_liking_key zbs zpp:=by
 have G_worth:FnOk P w K mg base CX0 5 Y.a_worth Y.d_worth zdv zdt:=zhW Y
 refine Y.liking_key.fn.okQ zhg (λvs H Q E h=>?_) (λcdv A outer s H vs Q E hr h=>?_)
 ·obtain ⟨v,pw,pm,x,ws,ms,g,hs,ps,lks,hds,j,rs,i,rfl,_⟩:=h;rfl
 ·obtain ⟨v,pw,pm,x,ws,ms,g,hs,ps,lks,hds,j,rs,i,rfl,hv,T,hj,hlj,hpw,hpm,nw,nm,lw,lm,hi,q⟩:=h
  refine⟨_,(zj (zt (zR (za (zml zfC (zh G_worth (hr.mono (by decide)) Y.worth.mg Y.worth.kp Y.worth.b .nil zn (za (qv 0) (za (qv 1) (za (qv 2) zd))))) (za (zq zD Y.len zaD (za (qv 1) zd)) (za (qv 1) zd)))))),?_⟩
  refine⟨_,rfl,_,rfl,_,rfl,v,pw,pm,x,ws,ms,g,hs,ps,lks,hds,j,rs,rfl,hv,T,hj,hlj,hpw,hpm,nw,nm,lw,lm,λu H1 ru s1=>?_⟩
  rw[hi] at ru
  cases ru with|int _=>
  refine⟨_,rfl,_,rfl, .inl ⟨pw,_,rfl, .inr (.inl (.inl (s1 _ _ hpw))),_,rfl,few rfl,λpk hpk=>?_⟩⟩
  have S:=Same.new (o:= .tup [V.int (-i), .int (((x::ws).map V.str).length:Int), .ref pw]) hpk
  refine q _ _ ⟨pk,pw,rfl,?_,S _ _ (s1 _ _ hpw),λy hy=>zaM (nw y hy)⟩ (s1.trans S)
  rw[zb,List.length_map]
def zb6(H:Hp)(b:Addr)(w:List Str):Prop:=H b=some (.tup (w.map V.str))
def zmw(H:Hp)(b:Addr)(e:WM):Prop:=∃pw pm,H b=some (.tup [.ref pw, .ref pm])/\H pw=some (.tup (e.1.map V.str))/\H pm=some (.tup (e.2.map V.str))
structure EOk(x:Str)(rs:List D)(e:WM):Prop where
 hd:∃ws,e.1=x::ws
 nw:∀y∈e.1,zg y=true
 nm:∀y∈e.2,zg y=true
 lw:e.1.length<=80
 lm:e.2.length<=100
 wt:zO e.1 e.2 rs= .int (wI rs e)
theorem AtG.mono{α:Type}{Oa:Hp->Addr->α->Prop}{H H':Hp}{vs:List V}{ps:List α}(h:AtG Oa H vs ps)(m:∀b p,Oa H b p->Oa H' b p):AtG Oa H' vs ps:=
 ⟨h.1,λi v p e1 e2=>let ⟨b,e,o⟩:=h.2 i v p e1 e2;⟨b,e,m b p o⟩⟩
theorem AtG.snoc{α:Type}{Oa:Hp->Addr->α->Prop}{H:Hp}{vs:List V}{ps:List α}{b:Addr}{p:α}(h:AtG Oa H vs ps)(o:Oa H b p):AtG Oa H (vs ++ [.ref b]) (ps ++ [p]):=by
 refine⟨by rw[List.length_append,List.length_append,h.1];rfl,λi v q e1 e2=>?_⟩
 rcases Nat.lt_or_ge i vs.length with z|z
 ·rw[List.getElem?_append_left z] at e1
  rw[List.getElem?_append_left (by rw[←h.1];exact z)] at e2
  exact h.2 i v q e1 e2
 ·rw[List.getElem?_append_right z] at e1
  rw[List.getElem?_append_right (by rw[←h.1];exact z),←h.1] at e2
  cases hk:i -vs.length with
  |zero=>rw[hk] at e1 e2;cases e1;cases e2;exact⟨b,rfl,o⟩
  |succ n=>rw[hk] at e1;cases e1
theorem KeyO.same{H H':Hp}{b:Addr}{k:Ky}(h:KeyO H b k)(s:Same H H'):KeyO H' b k:=let⟨p,e,f,o⟩:=h;⟨p,s _ _ e,s _ _ f,o⟩
def zpy:Sp:=λvs H Q _=>∃(v:V) (l:Addr) (us:List V) (es:List WM) (x:Str) (g:Str) (hs:List Str) (ps:List (Str×Str)) (lks hds:List D) (j:Nat) (rs:List D),vs=[v, .ref l]/\Rep H v (zaE g hs ps lks hds)/\TownOk g hs ps lks hds/\hs[j]?=some x/\lks[j]?=some (.tup rs)/\H l=some (.lst us)/\AtG zmw H us es/\es.length<64/\(es.map (·.1)).Nodup/\(∀e∈es,EOk x rs e)/\
 ∀(l':Addr) (us':List V) (ks:List Ky) (H':Hp),ks.Perm (es.map (kE rs))->ks.Pairwise (λa b=>ltK a b=true)->H' l'=some (.lst us')->AtG zb6 H' us' (ks.map (·.2.2))->H l'=none->Same H H'->Q (.ref l') H'
theorem zdC(Y:Ev K mg):FnOk P w K mg base CX0 7 Y.a_most_liked_first Y.d_most_liked_first zac zpy:=by
 have G_liking_key:FnOk P w K mg base CX0 6 Y.a_liking_key Y.d_liking_key zbs zpp:=zgz Y
 refine Y.most_liked_first.fn.okQ c_most_liked_first (λvs H Q E h=>?_) (λcdv A outer s H vs Q E hr h=>?_)
 ·obtain ⟨v,l,us,es,x,g,hs,ps,lks,hds,j,rs,rfl,_⟩:=h;rfl
 ·obtain ⟨v,l,us,es,x,g,hs,ps,lks,hds,j,rs,rfl,hv,T,hj,hlj,hl,at1,h64,nde,eok,q⟩:=h
  have lu:us.length=es.length:=at1.1
  refine⟨_,(ze (zu 2 c_most_liked_first.nd (zq (zgh (zp4 hr)) Y.sorted zaY (za (zak (src:=[none,none,some 0]) o_most_liked_first_1 rfl rfl (zcw (qv 1)) (λ_ _ _ _ _=>(zfN (K:=K) 2 rfl rfl (zB (zr 0 o_most_liked_first_1.nd) (zB (zr 1 o_most_liked_first_1.nd) zbq)))) (λ_ _ _ _ _=>zbO) (λ_ _ _ _ _=>(zh G_liking_key (hr.mono (by decide)) Y.liking_key.mg Y.liking_key.kp Y.liking_key.b .nil zn (za (qc 2) (za (qv 0) (za (qv 1) zd)))))) zd)))
   (zj (zt (zak (src:=[none]) o_most_liked_first_2 rfl rfl (zcw (qv 2)) (λ_ _ _ _ _=>(zr 0 o_most_liked_first_2.nd)) (λ_ _ _ _ _=>zbO) (λ_ _ _ _ _=>(zN (zd5 (K:=K) rfl) (qv 0) (zml zfC zf))))))),?_⟩
  refine⟨_,rfl,l,rfl,⟨_,SqL.of hl⟩,?_⟩
  refine zX (zbK (K:=K) (xs:=us)) (λl' i ys σ' H'=>(∃o1 o2,σ'=[o1,o2,some v])/\AtG KeyO H' ys ((es.take i).map (kE rs))/\Same H H') ?_ (λl' i ys σ' H' hl' z=>SqL.of (z.2.2 _ _ hl)) ?_ ?_
  ·exact λl' hl'=>⟨⟨_,_,rfl⟩,⟨rfl,λi v p e1 _=>by cases e1⟩,Same.new hl'⟩
  ·rintro l' i y0 ys σ' H1 hl' hi hy ⟨⟨o1,o2,rfl⟩,a1,s1⟩ hl1
   have hi':i<es.length:=by omega
   obtain⟨b,rfl,pw,pm,hb,hpw,hpm⟩:=at1.2 i y0 es[i] hy (List.getElem?_eq_getElem hi')
   have ee:=eok es[i] (List.getElem_mem hi')
   have tk:(es.take (i+1)).map (kE rs)=(es.take i).map (kE rs)++ [kE rs es[i]]:=by rw[List.take_add_one,List.getElem?_eq_getElem hi',List.map_append];rfl
   rw[tk]
   have ly:ys.length=i:=by have:=a1.1;rw[List.length_map,List.length_take] at this;omega
   generalize es[i]=e at *
   obtain⟨ew,em⟩:=e
   obtain⟨ws,rfl⟩:=ee.hd
   refine⟨b,_,rfl, .inl (.inl (s1 _ _ hb)),rfl,_,_,rfl,_,_,rfl,rfl,?_⟩
   refine⟨_,rfl,_,rfl,_,rfl,v,pw,pm,x,ws,em,g,hs,ps,lks,hds,j,rs,wI rs (x::ws,em),rfl,hv.same s1,T,hj,hlj,s1 _ _ hpw,s1 _ _ hpm,ee.nw,ee.nm,by have:=ee.lw;simp only[List.length_cons] at this;omega,ee.lm,ee.wt,λu H2 ku s2=>?_⟩
   obtain⟨kb,kp,rfl,k1,k2,k3⟩:=ku
   have hl2:=s2 _ _ hl1
   refine⟨hl2,zk (by omega),⟨_,_,rfl⟩,?_,λc o e=>by rw[zi (zl e hl')];exact s2 _ _ (s1 c o e)⟩
   have up:∀c k,KeyO H2 c k->KeyO (upd H2 l' (.lst (ys ++ [.ref kb]))) c k:=λc k ⟨p,e,f,o⟩=>⟨p,by rw[zi (zbd e hl2 (by intro z;cases z))];exact e,by rw[zi (zbd f hl2 (by intro z;cases z))];exact f,o⟩
   exact AtG.snoc (AtG.mono a1 λc k h=>up c k (KeyO.same h s2)) (up kb _ ⟨kp,k1,k2,k3⟩)
  rintro l1 zs σ' H1 hl1' ⟨⟨o1,o2,rfl⟩,a1,s1⟩ hl1
  rw[lu,List.take_length] at a1
  refine⟨l1,zs,es.map (kE rs),rfl, .inl (SqL.of hl1),a1,by rw[List.length_map];exact h64,λks vs' l2 hperm hpw' a2 hl2=>?_⟩
  have ndk:(es.map (kE rs)).Nodup:=by
   refine List.pairwise_map.mpr ((List.pairwise_map.mp nde).imp λh z=>h ?_)
   exact congrArg (λk:Ky=>k.2.2) z
  have pw2:=hpw' ndk
  have S2:=Same.new (o:= .lst vs') hl2
  have s12:=s1.trans S2
  refine⟨_,rfl,?_⟩
  have lk:vs'.length=ks.length:=a2.1
  refine⟨l2,rfl,⟨_,SqL.of zb⟩,?_⟩
  refine zX (zbK (K:=K) (xs:=vs')) (λl' i ys σ' H'=>(∃o1,σ'=[o1])/\AtG zb6 H' ys ((ks.take i).map (·.2.2))/\Same (upd H1 l2 (.lst vs')) H') ?_ (λl' i ys σ' H' hl' z=>SqL.of (z.2.2 _ _ zb)) ?_ ?_
  ·exact λl' hl'=>⟨⟨_,rfl⟩,⟨rfl,λi v p e1 _=>by cases e1⟩,Same.new hl'⟩
  ·rintro l' i y0 ys σ' H3 hl' hi hy ⟨⟨o1,rfl⟩,a3,s3⟩ hl3
   have hi':i<ks.length:=by omega
   obtain⟨b,rfl,p,hb,hp,_⟩:=a2.2 i y0 ks[i] hy (List.getElem?_eq_getElem hi')
   have tk:(ks.take (i+1)).map (λk:Ky=>k.2.2)=(ks.take i).map (λk:Ky=>k.2.2)++ [ks[i].2.2]:=by rw[List.take_add_one,List.getElem?_eq_getElem hi',List.map_append];rfl
   rw[tk]
   have ly:ys.length=i:=by have:=a3.1;rw[List.length_map,List.length_take] at this;omega
   have lks64:ks.length<64:=by rw[hperm.length_eq,List.length_map];exact h64
   have hb3:=s3 _ _ (S2 _ _ hb)
   have hp3:=s3 _ _ (S2 _ _ hp)
   refine⟨_,rfl,_,rfl,b,_,-1,_,rfl,rfl, .inl (.inl hb3),zla,?_⟩
   refine⟨hl3,zk (by omega),⟨_,rfl⟩,?_,λc o e=>by rw[zi (zl e hl')];exact s3 c o e⟩
   have up:∀c (w:List Str),H3 c=some (.tup (w.map V.str))->upd H3 l' (.lst (ys ++ [.ref p])) c=some (.tup (w.map V.str)):=λc w e=>by rw[zi (zbd e hl3 (by intro z;cases z))];exact e
   exact AtG.snoc (AtG.mono a3 λc w e=>up c w e) (up p _ hp3)
  rintro l3 zs3 σ' H3 hl3' ⟨⟨o3,rfl⟩,a3,s3⟩ hl3
  rw[lk,List.take_length] at a3
  exact q l3 zs3 ks H3 hperm pw2 hl3 a3 (z7 s12 hl3') (s12.trans s3)
end
section
variable{P:Program}{w:World}{K:PySem.W.Frag}{mg:Str->Option Value}{base:Heap}
def zkk:Sp:=λvs H Q _=>∃(l:Addr) (ws:List Str),vs=[.ref l]/\H l=some (.lst (ws.map V.str))/\ws.length<=64/\∀H',Same H H'->Q (.bl (zbJ (ws.map D.str))) H'
theorem ziV(Y:Ev K mg):FnOk P w K mg base CX0 1 Y.a_is_rising Y.d_is_rising zbZ zkk:=by
 refine Y.is_rising.fn.okQ ziz (λvs H Q E h=>?_) (λcdv A outer s H vs Q E hr h=>?_)
 ·obtain ⟨v,ds,rfl,_⟩:=h;rfl
 ·obtain ⟨p,ws,rfl,hp,hl,q⟩:=h
  refine⟨_,(zj (zt (zq (zcg rfl) Y.all zev (za (zak (src:=[none,some 0]) o_is_rising_1 rfl rfl (zci Y.range (za (zL zfO (zq zD Y.len zaD (za (qc 0) zd)) zf) zd)) (λ_ _ _ _ _=>(zr 0 o_is_rising_1.nd)) (λ_ _ _ _ _=>zbO) (λ_ _ _ _ _=>(zb5 (zqG hr.units0) (zN (zky (K:=K) rfl) (qc 1) (qv 0)) (zN (zky (K:=K) rfl) (qc 1) (zL zal (qv 0) zf))))) zd)))),?_⟩
  refine⟨_,rfl, .inl ⟨p,_,rfl, .inl (SqL.of hp),_,_,rfl,rfl,_,rfl,?_,?_,?_⟩⟩
  ·rw[List.length_map];omega
  ·rw[List.length_map];omega
  have e:(((ws.map V.str).length:Int) -1).toNat=ws.length -1:=by rw[List.length_map];omega
  rw[e]
  refine zX zb2 (λl i ys σ' H'=>(∃o,σ'=[o,some (.ref p)])/\ys=((List.range i).map λk=>ltD ((ws.map D.str).getD k .non) ((ws.map D.str).getD (k+1) .non)).map V.bl/\Same H H') ?_ (λ_ _ _ _ _ _ _=>trivial) ?_ ?_
  ·exact λl hl=>⟨⟨_,rfl⟩,rfl,Same.new hl⟩
  ·rintro l i y ys σ' H1 hl' hi rfl ⟨⟨o,rfl⟩,rfl,s1⟩ hl1
   have hi0:i<ws.length:=by omega
   have hi1:i+1<ws.length:=by omega
   have hp1:=s1 _ _ hp
   have e0:atI (ws.map V.str) (0+(i:Int))=some (.str ws[i]):=by rw[Int.zero_add];exact zI (by simp[hi0])
   have e1:atI (ws.map V.str) (0+(i:Int)+1)=some (.str ws[i+1]):=by rw[Int.zero_add];exact zI (j:=i+1) (by simp[hi1])
   have g0:(ws.map D.str).getD i .non= .str ws[i]:=by simp[List.getD,hi0]
   have g1:(ws.map D.str).getD (i+1) .non= .str ws[i+1]:=by simp[List.getD,hi1]
   refine⟨_,rfl,_,rfl, .inl ⟨p,_,_,_,rfl,rfl,SqL.of hp1,e0,_,rfl,_,rfl,_,_,rfl,rfl, .inl ⟨p,_,_,_,rfl,rfl,SqL.of hp1,e1, .inl ⟨_,_,rfl,rfl,?_⟩⟩⟩⟩
   refine⟨hl1,?_,⟨_,rfl⟩,?_,?_⟩
   ·rw[List.length_map,List.length_map,List.length_range]
    exact zk (by omega)
   ·rw[List.range_succ,List.map_append,List.map_append,List.map_cons,g0,g1];rfl
   ·exact λc o e=>by
     rw[zi (zl e hl')]
     exact s1 _ _ e
  ·rintro l ys σ' H1 hl' ⟨⟨o,rfl⟩,rfl,s1⟩ hl1
   refine⟨l,_,rfl,SqL.of hl1,?_⟩
   have q:=q H1 s1
   unfold zbJ at q
   rw[List.length_map] at q
   rw[zdQ]
   exact q
def zps:Sp:=λvs H Q _=>∃(u v:V) (d:D) (g:Str) (hs:List Str) (ps:List (Str×Str)) (lks hds:List D),vs=[u,v]/\Rep H u (zaE g hs ps lks hds)/\TownOk g hs ps lks hds/\Rep H v d/\∀H',Same H H'->Q (.bl (zcy g hs ps d)) H'
theorem zlU(Y:Ev K mg):FnOk P w K mg base CX0 3 Y.a_is_way Y.d_is_way zc7 zps:=by
 have G_is_row:FnOk P w K mg base CX0 1 Y.a_is_row Y.d_is_row zdk zpo:=zlX Y
 have G_is_house:FnOk P w K mg base CX0 2 Y.a_is_house Y.d_is_house zcm zkY:=ziG Y
 have G_is_rising:FnOk P w K mg base CX0 1 Y.a_is_rising Y.d_is_rising zbZ zkk:=ziV Y
 have G_tied:FnOk P w K mg base CX0 1 Y.a_tied Y.d_tied zeJ zjV:=zkT Y
 refine Y.is_way.fn.okQ c_is_way (λvs H Q E h=>?_) (λcdv A outer s H vs Q E hr h=>?_)
 ·obtain ⟨u,v,d,g,hs,ps,lks,hds,rfl,_⟩:=h;rfl
 ·obtain ⟨u,v,d,g,hs,ps,lks,hds,rfl,hv,T,hd,q⟩:=h
  obtain⟨p,pr,pt,pl,pa,vt,vl,va,rfl,hp,hpr,hpt,rt,hpl,rl,hpa,ra⟩:=zaz hv
  have T10:=T.ten
  refine⟨_,(ze (ze0 (zjT zee (qc 0) zex (zdp zf)) (zdD 2 rfl (zB (zr 2 c_is_way.nd) (zB (zfg 3 c_is_way.nd) zbq))))
   (ze (zad (t_w (zjb (zdO (zcM (zh G_is_row (hr.mono (by decide)) Y.is_row.mg Y.is_row.kp Y.is_row.b .nil zn (za (qc 1) (za zf (za (zq zD Y.len zaD (za (qc 3) zd)) zd)))))) (zfQ (zdO (zcM (zq (zcg rfl) Y.all zev (za (zak (src:=[none,some 3]) o_is_way_1 rfl rfl (za1 (qc 1)) (λ_ _ _ _ _=>(zr 0 o_is_way_1.nd)) (λ_ _ _ _ _=>zbO) (λ_ _ _ _ _=>(zh G_is_house (hr.mono (by decide)) Y.is_house.mg Y.is_house.kp Y.is_house.b .nil zn (za (qc 1) (za (qv 0) zd))))) zd))))))) (zj (zt zc5)) zJ)
   (ze (zad (t_w (zjb (zy zgT (zN ix_tup (qc 1) (zml zfC zf)) (qv 2)) (zfQ (zdO (zcM (zh G_is_rising (hr.mono (by decide)) Y.is_rising.mg Y.is_rising.kp Y.is_rising.b .nil zn (za (zq zca Y.sorted zaY (za (qc 1) zd)) zd))))))) (zj (zt zc5)) zJ)
   (zj (zt (zq (zcg rfl) Y.all zev (za (zak (src:=[none,some 1,some 0]) o_is_way_2 rfl rfl (zci Y.range (za (zL zfO (zq zD Y.len zaD (za (qc 1) zd)) zf) zd)) (λ_ _ _ _ _=>(zr 0 o_is_way_2.nd)) (λ_ _ _ _ _=>zbO) (λ_ _ _ _ _=>(zb5 (zjE (K:=K) rfl) (zN (zd5 (K:=K) rfl) (qc 1) (zL zal (qv 0) zf)) (zh G_tied (hr.mono (by decide)) Y.tied.mg Y.tied.kp Y.tied.b .nil zn (za (qc 2) (za (zN (zd5 (K:=K) rfl) (qc 1) (qv 0)) zd)))))) zd))))))),?_⟩
  refine⟨_,rfl,2,rfl,p,_,rfl, .inl (.inl hp),λz=>?_,λp2 hp2=>?_⟩
  ·have:=congrArg List.length z
   cases this
  have S2:=Same.new (o:= .tup [.str g, .ref pr]) hp2
  refine⟨p2,[.str g, .ref pr],rfl, .inl (.inl zb),rfl,_,_,rfl,_,_,rfl,rfl,?_⟩
  show zql _ _ _ _ (upd H p2 (.tup [.str g, .ref pr]))
  have hv2:=hv.same S2
  have hpr2:=S2 _ _ hpr
  have hd2:=hd.same S2
  generalize (upd H p2 (HO.tup [.str g, .ref pr]))=H2 at *
  refine⟨_,rfl,_,rfl, .inl ⟨pr,_,rfl, .inr (.inl (.inl hpr2)),v,d,1,_,rfl,hd2,λH3 s3=>⟨_,rfl,?_⟩⟩⟩
  rw[List.length_map]
  cases hrow:zb4 d 1 hs.length with
  |false=>
   have q:=q H3 (S2.trans s3)
   rw[zpi hrow] at q
   exact q
  |true=>
   refine zat rfl ?_
   obtain⟨ds,rfl,n1,nh⟩:=zqw hrow
   have hd3:=hd2.same s3
   obtain⟨pv,us,rfl,hpv,ru,_⟩:=hd3.ofT
   have hpr3:=s3 _ _ hpr2
   have HsA:HsAt H3 (.ref pr) hs:=⟨pr,rfl,hpr3,T10,T.names⟩
   refine⟨_,rfl,pv,rfl,⟨_, .inl (.inl hpv)⟩,?_⟩
   refine zg8 (g:=zaa hs) (σr:=[some (.ref pr)]) (zaf (K:=K)) (λH' s=> .inl (.inl (s _ _ hpv))) ru (by omega) rfl (λx d HA Q1 sA rx hd q1=>⟨_,rfl,_,rfl,_,x,d,hs,rfl,HsA.same sA,rx,q1⟩) (λl4 H4 s4 _ hl4=>?_)
   refine⟨l4,_,rfl,SqL.of hl4,_,rfl,?_⟩
   rw[zdQ]
   cases hall:ds.all (zaa hs)with
   |false=>
    have q:=q H4 ((S2.trans s3).trans s4)
    rw[zoX (show zlG (zaa hs) (.tup ds)=false from hall)] at q
    exact q
   |true=>
    refine zat rfl ?_
    obtain⟨ws,rfl,hw⟩:=ze5 hall
    obtain⟨p',e',hpw⟩:=zcF hd3
    cases e'
    rw[List.length_map] at n1 nh
    obtain⟨w0,z,rfl⟩:∃w0 z,ws=w0 ++ [z]:=⟨ws.dropLast,ws.getLast (λz=>by rw[z] at n1;simp at n1),(List.dropLast_concat_getLast _).symm⟩
    have hpw4:=s4 _ _ hpw
    have hat:atI ((w0 ++ [z]).map V.str) (-1)=some (.str z):=by rw[List.map_append];exact zl7 _ _
    have weq:=zqU (g:=g) (ps:=ps) hrow hall
    dsimp only[zap]
    refine⟨_,rfl,1,rfl,pv,_,-1,_,rfl,rfl, .inl (.inl hpw4),hat,_,rfl,rfl,_,rfl,?_⟩
    rw[zbT]
    cases hz:decide (z=g)with
    |false=>
     have q:=q H4 ((S2.trans s3).trans s4)
     rw[weq,hz] at q
     exact q
    |true=>
     refine zat rfl ?_
     refine⟨_,rfl,pv,w0 ++ [z],rfl, .inr (.inl (.inl hpw4)),by omega,λss l5 hp5 hs5 hl5=>?_⟩
     have S5:=Same.new (o:= .lst (ss.map V.str)) hl5
     refine⟨l5,ss,rfl,zb,by rw[hp5.length_eq];omega,λH6 s6=>⟨_,rfl,?_⟩⟩
     rw[zi4 hp5 hs5]
     have S6:=S5.trans s6
     have sAll:=((S2.trans s3).trans s4).trans S6
     cases hnd:decide (w0 ++ [z]).Nodup with
     |false=>
      have q:=q H6 sAll
      rw[weq,hz,hnd] at q
      exact q
     |true=>
      refine zat rfl ?_
      have hpw6:=S6 _ _ hpw4
      have hv6:=hv2.same ((s3.trans s4).trans S6)
      refine⟨_,rfl, .inl ⟨pv,_,rfl, .inr (.inl (.inl hpw6)),_,_,rfl,rfl,_,rfl,?_,?_,?_⟩⟩
      ·rw[List.length_map];omega
      ·rw[List.length_map];omega
      have e:((((w0 ++ [z]).map V.str).length:Int) -1).toNat=(w0 ++ [z]).length -1:=by rw[List.length_map];omega
      rw[e]
      refine zX zb2 (λl i ys σ' H'=>(∃o,σ'=[o,some (.ref pv),some (.ref p)])/\ys=((List.range i).map λk=>decide ((w0 ++ [z]).getD (k+1) ""∈zc6 ps ((w0 ++ [z]).getD k ""))).map V.bl/\Same H6 H') ?_ (λ_ _ _ _ _ _ _=>trivial) ?_ ?_
      ·exact λl hl=>⟨⟨_,rfl⟩,rfl,Same.new hl⟩
      ·rintro l i y ys σ' H7 hl' hi rfl ⟨⟨o,rfl⟩,rfl,s7⟩ hl7
       have hi0:i<(w0 ++ [z]).length:=by omega
       have hi1:i+1<(w0 ++ [z]).length:=by omega
       have e0:atI ((w0 ++ [z]).map V.str) (0+(i:Int))=some (.str (w0 ++ [z])[i]):=by rw[Int.zero_add];exact zI (by simp only[List.getElem?_map,List.getElem?_eq_getElem hi0];rfl)
       have e1:atI ((w0 ++ [z]).map V.str) (0+(i:Int)+1)=some (.str (w0 ++ [z])[i+1]):=by rw[Int.zero_add];exact zI (j:=i+1) (by simp only[List.getElem?_map,List.getElem?_eq_getElem hi1];rfl)
       have g0:(w0 ++ [z]).getD i ""=(w0 ++ [z])[i]:=by simp only[List.getD,List.getElem?_eq_getElem hi0,Option.getD_some]
       have g1:(w0 ++ [z]).getD (i+1) ""=(w0 ++ [z])[i+1]:=by simp only[List.getD,List.getElem?_eq_getElem hi1,Option.getD_some]
       have hpw7:=s7 _ _ hpw6
       refine⟨_,rfl,_,rfl,_,_,rfl,rfl,pv,_,_,_,rfl,rfl, .inl (.inl hpw7),e1,_,rfl,_,rfl,_,rfl,pv,_,_,_,rfl,rfl, .inl (.inl hpw7),e0,_,_,g,hs,ps,lks,hds,rfl,hv6.same s7,T,λl8 ts H8 hl8 e8 hp8 hs8 s8=>?_⟩
       refine⟨l8,_,rfl, .inl (SqL.of e8),rfl,zaH,?_⟩
       refine⟨s8 _ _ hl7,?_,⟨_,rfl⟩,?_,?_⟩
       ·rw[List.length_map,List.length_map,List.length_range]
        exact zk (by omega)
       ·rw[List.range_succ,List.map_append,List.map_append,List.map_cons,g0,g1]
        have hin:(if false=true then !inV (V.str (w0 ++ [z])[i+1]) (ts.map V.str)else inV (V.str (w0 ++ [z])[i+1]) (ts.map V.str))=decide ((w0 ++ [z])[i+1]∈zc6 ps (w0 ++ [z])[i]):=by
         rw[if_neg (by decide),zbu,Bool.eq_iff_iff,decide_eq_true_iff,←hp8.mem_iff,List.any_eq_true]
         exact⟨λ⟨y,hy,e⟩=>by rw[←of_decide_eq_true e];exact hy,λh=>⟨_,h,decide_eq_true rfl⟩⟩
        rw[hin];rfl
       ·exact λc o e=>by
         rw[zi (zl e hl')]
         exact s8 _ _ (s7 _ _ e)
      ·rintro l ys σ' H7 hl' ⟨⟨o,rfl⟩,rfl,s7⟩ hl7
       refine⟨l,_,rfl,SqL.of hl7,?_⟩
       have q:=q H7 (sAll.trans s7)
       rw[weq,hz,hnd] at q
       rw[zdQ]
       exact q
end
section
variable{P:Program}{w:World}{K:PySem.W.Frag}{mg:Str->Option Value}{base:Heap}
def zrW(w:List Str):List Key:=w.map Sum.inr
structure LMk(M:List Str->Option (List Str))(H:Hp)(kvs:List (List Key×V))(L:List (List Str)):Prop where
 len:kvs.length=L.length
 at_:∀(i:Nat) (kv:List Key×V) (w:List Str),kvs[i]?=some kv->L[i]?=some w->kv.1=zrW w/\∃p m,kv.2= .ref p/\H p=some (.tup (m.map V.str))/\M w=some m
section
variable{M:List Str->Option (List Str)}{H H':Hp}{kvs:List (List Key×V)}{L:List (List Str)}
end
theorem zin{ps:List (Str×Str)}{x y:Str}(hp:∀p∈ps,ltS p.1 p.2=true):y∈zc6 ps x↔mmS y x∈ps:=by
 unfold zc6
 rw[List.mem_append,List.mem_map,List.mem_map]
 constructor
 ·rintro (⟨p,h,rfl⟩|⟨p,h,rfl⟩)
  ·obtain ⟨h1,h2⟩:=List.mem_filter.mp h
   have:=of_decide_eq_true h2
   subst this
   rw[zmi (hp p h1)];exact h1
  ·obtain ⟨h1,h2⟩:=List.mem_filter.mp h
   have:=of_decide_eq_true h2
   subst this
   rw[mmS_MM.sym,zmi (hp p h1)];exact h1
 ·intro h
  rcases mmS_MM.two y x with e|e
  ·rw[e] at h
   exact .inl ⟨_,List.mem_filter.mpr ⟨h,decide_eq_true rfl⟩,rfl⟩
  ·rw[e] at h
   exact .inr ⟨_,List.mem_filter.mpr ⟨h,decide_eq_true rfl⟩,rfl⟩
theorem zhr{g:Str}{hs:List Str}{ps:List (Str×Str)}(hg:g∈hs)(hp:∀p∈ps,p.1∈hs/\p.2∈hs)(sp:zd1 ps){L:List (List Str)}(nd:L.Nodup)(sw:∀w∈L,SW g ps w):L.length<=hs.length*16/\∀x,(L.filter λw=>decide (w.head?=some x)).length<=16:=by
 obtain⟨xs,k,nx,sp⟩:=sp
 have h1:∀x,(L.filter λw=>decide (w.head?=some x)).length<=16:=λx=>zq2 nx sp (a:=x) (g:=g) (nd.sublist List.filter_sublist) λw hw=>by
  obtain⟨h1,h2⟩:=List.mem_filter.mp hw
  exact⟨sw w h1,of_decide_eq_true h2⟩
 refine⟨zkp nd (λw hw=>?_) λx _=>h1 x,h1⟩
 obtain⟨x,r,rfl⟩:=(sw w hw).ne
 exact⟨x,SW.mem hg hp (sw _ hw) x List.mem_cons_self,rfl⟩
end
section
variable{P:Program}{w:World}{K:PySem.W.Frag}{mg:Str->Option Value}{base:Heap}
structure GL{α:Type}(Oa:Hp->Addr->α->Prop)(H H':Hp)(hs:List Str)(ls:List Addr)(G:Str->List α):Prop where
 len:ls.length=hs.length
 nd:ls.Nodup
 at_:∀(i:Nat) (l:Addr) (x:Str),ls[i]?=some l->hs[i]?=some x->(∃us,H' l=some (.lst us)/\AtG Oa H' us (G x))/\H l=none
section
variable{α:Type}{Oa:Hp->Addr->α->Prop}{H H' H'':Hp}{hs:List Str}{ls:List Addr}{G:Str->List α}
theorem GL.nil:GL Oa H H' [] [] G:=⟨rfl,List.nodup_nil,λi l x e _=>by cases e⟩
theorem GL.mono(h:GL Oa H H' hs ls G)(h1:∀l us,H' l=some (.lst us)->H'' l=some (.lst us))(h2:∀b a,Oa H' b a->Oa H'' b a):GL Oa H H'' hs ls G:=
 ⟨h.len,h.nd,λi l x e1 e2=>let ⟨⟨us,e,a⟩,n⟩:=h.at_ i l x e1 e2;⟨⟨us,h1 _ _ e,AtG.mono a h2⟩,n⟩⟩
theorem GL.snoc{x:Str}{p:Addr}(h:GL Oa H H' hs ls G)(hp:H' p=some (.lst []))(hp0:H p=none)(hn:p∉ls)(hG:G x=[]):GL Oa H H' (hs ++ [x]) (ls ++ [p]) G:=by
 refine⟨by rw[List.length_append,List.length_append,h.len];rfl,List.nodup_append.mpr ⟨h.nd,by simp,λa ha b hb z=>hn (by rw[←List.mem_singleton.mp hb,←z];exact ha)⟩,λi l y e1 e2=>?_⟩
 rcases Nat.lt_or_ge i ls.length with z|z
 ·rw[List.getElem?_append_left z] at e1
  rw[List.getElem?_append_left (by rw[←h.len];exact z)] at e2
  exact h.at_ i l y e1 e2
 ·rw[List.getElem?_append_right z] at e1
  rw[List.getElem?_append_right (by rw[←h.len];exact z),←h.len] at e2
  cases hk:i -ls.length with
  |zero=>rw[hk] at e1 e2;cases e1;cases e2;exact⟨⟨[],hp,by rw[hG];exact⟨rfl,λi v p e _=>by cases e⟩⟩,hp0⟩
  |succ n=>rw[hk] at e1;cases e1
theorem GL.app{i:Nat}{l b:Addr}{x:Str}{a:α}{us:List V}(h:GL Oa H H' hs ls G)(nh:hs.Nodup)(el:ls[i]?=some l)(ex:hs[i]?=some x)(eu:H' l=some (.lst us))(hO:∀c d,Oa H' c d->Oa (upd H' l (.lst (us ++ [.ref b]))) c d)(o:Oa H' b a):
 GL Oa H (upd H' l (.lst (us ++ [.ref b]))) hs ls (λz=>if z=x then G x ++ [a] else G z):=by
 have il:i<ls.length:=by
  rcases Nat.lt_or_ge i ls.length with z|z
  ·exact z
  ·rw[List.getElem?_eq_none z] at el;cases el
 have ih:i<hs.length:=by rw[←h.len];exact il
 rw[List.getElem?_eq_getElem il] at el
 rw[List.getElem?_eq_getElem ih] at ex
 refine⟨h.len,h.nd,λj l' y e1 e2=>?_⟩
 obtain⟨⟨us',eu',at'⟩,n⟩:=h.at_ j l' y e1 e2
 refine⟨?_,n⟩
 have jl:j<ls.length:=by
  rcases Nat.lt_or_ge j ls.length with z|z
  ·exact z
  ·rw[List.getElem?_eq_none z] at e1;cases e1
 have jh:j<hs.length:=by rw[←h.len];exact jl
 rw[List.getElem?_eq_getElem jl] at e1
 rw[List.getElem?_eq_getElem jh] at e2
 by_cases hij:j=i
 ·subst hij
  have e3:l'=l:=(Option.some.inj e1).symm.trans (Option.some.inj el)
  have e4:y=x:=(Option.some.inj e2).symm.trans (Option.some.inj ex)
  subst e3 e4
  rw[eu] at eu'
  cases eu'
  refine⟨_,zb,?_⟩
  simp only[if_true]
  exact AtG.snoc (AtG.mono at' hO) (hO _ _ o)
 ·have nl:l'≠l:=λz=>hij ((List.getElem_inj h.nd).mp ((Option.some.inj e1).trans (z.trans (Option.some.inj el).symm)))
  have ny:y≠x:=λz=>hij ((List.getElem_inj nh).mp ((Option.some.inj e2).trans (z.trans (Option.some.inj ex).symm)))
  refine⟨us',by rw[zi nl];exact eu',?_⟩
  simp only[if_neg ny]
  exact AtG.mono at' hO
theorem GL.get(h:GL Oa H H' hs ls G)(nh:hs.Nodup){x:Str}(hx:x∈hs):∃(i:Nat) (l:Addr) (us:List V),ls[i]?=some l/\hs[i]?=some x/\zby (zw hs (ls.map V.ref)) (Sum.inr x)=some (.ref l)/\H' l=some (.lst us)/\AtG Oa H' us (G x)/\H l=none:=by
 obtain⟨i,hi,e⟩:=List.getElem_of_mem hx
 have il:i<ls.length:=by rw[h.len];exact hi
 have e1:ls[i]?=some ls[i]:=List.getElem?_eq_getElem il
 have e2:hs[i]?=some x:=by rw[List.getElem?_eq_getElem hi,e]
 obtain⟨⟨us,eu,at'⟩,n⟩:=h.at_ i _ x e1 e2
 exact⟨i,ls[i],us,e1,e2,zhC nh e2 (by rw[List.getElem?_map,e1];rfl),eu,at',n⟩
end
theorem zk1{hs:List Str}{ys:List V}{x:Str}{y:V}(h:hs.length=ys.length):zw (hs ++ [x]) (ys ++ [y])=zw hs ys ++ [(Sum.inr x,y)]:=by
 unfold zw
 rw[List.zip_append h,List.map_append];rfl
theorem zlg{hs:List Str}{ys:List V}{x:Str}(h:x∉hs):zby (zw hs ys) (Sum.inr x)=none:=by
 induction hs generalizing ys with
 |nil=>rfl
 |cons a hs ih=>
  cases ys with
  |nil=>rfl
  |cons y ys=>
   show zby ((Sum.inr a,y)::zw hs ys) (Sum.inr x)=none
   rw[zd7 λz=>h (by rw[←Sum.inr.inj z];exact List.mem_cons_self)]
   exact ih λz=>h (List.mem_cons_of_mem _ z)
theorem zmE{hs:List Str}{ys:List V}{x:Str}{y:V}(h:hs.length=ys.length)(hx:x∉hs):zbz (zw hs ys) (Sum.inr x) y=zw (hs ++ [x]) (ys ++ [y]):=by
 rw[zmL _ (zlg hx),zk1 h]
def zqO(g:Str)(ps:List (Str×Str))(M:List Str->Option (List Str))(rs:List D)(x:Str)(k:Ky):Prop:=∃r m,k=kE rs (x::r,m)/\SW g ps (x::r)/\M (x::r)=some m
def Due(g:Str)(hs:List Str)(ps:List (Str×Str))(lks hds:List D)(x:Str)(ws:List (List Str)):Prop:=(x=g/\ws=[[g]])\/(x≠g/\∃ks:List Ky,ks.Pairwise (λa b=>ltK a b=true)/\(∀k,k∈ks↔zqO g ps (zp hs lks hds) (zK hs lks x) x k)/\ws=ks.map (·.2.2))
theorem zf7:∀{as bs:List Ky},as.Pairwise (λa b=>ltK a b=true)->bs.Pairwise (λa b=>ltK a b=true)->(∀k,k∈as↔k∈bs)->as=bs
 |[],[],_,_,_=>rfl
 |[],b::bs,_,_,h=>absurd ((h b).mpr List.mem_cons_self) (by simp)
 |a::as,[],_,_,h=>absurd ((h a).mp List.mem_cons_self) (by simp)
 |a::as,b::bs,h1,h2,h=>by
  rw[List.pairwise_cons] at h1 h2
  have e:a=b:=by
   rcases List.mem_cons.mp ((h a).mp List.mem_cons_self)with z|z
   ·exact z
   ·rcases List.mem_cons.mp ((h b).mpr List.mem_cons_self)with y|y
    ·exact y.symm
    ·have:=zhB (h1.1 b y) (h2.1 a z)
     rw[zcr] at this;cases this
  subst e
  rw[zf7 h1.2 h2.2 λk=>?_]
  constructor
  ·intro hk
   rcases List.mem_cons.mp ((h k).mp (List.mem_cons_of_mem _ hk))with z|z
   ·subst z;have:=h1.1 k hk;rw[zcr] at this;cases this
   ·exact z
  ·intro hk
   rcases List.mem_cons.mp ((h k).mpr (List.mem_cons_of_mem _ hk))with z|z
   ·subst z;have:=h2.1 k hk;rw[zcr] at this;cases this
   ·exact z
end
section
variable{P:Program}{w:World}{K:PySem.W.Frag}{mg:Str->Option Value}{base:Heap}
theorem zg2{ws ms:List Str}:∀{rs:List D},(∀r∈rs,z6 r=true)->zO ws ms rs= .non\/∃i,zO ws ms rs= .int i
 |[],_=> .inr ⟨0,rfl⟩
 |r::rs,h=>by
  rw[zO]
  split
  ·obtain ⟨cs,x,rfl,_,_,hx⟩:=zeI (h r List.mem_cons_self)
   exact hx
  ·exact zg2 λr hr=>h r (List.mem_cons_of_mem _ hr)
theorem znj{g:Str}{hs:List Str}{ps:List (Str×Str)}{lks hds:List D}(T:TownOk g hs ps lks hds){j:Nat}{rs:List D}(h:lks[j]?=some (.tup rs)):∀r∈rs,z6 r=true:=by
 have:=T.likes _ (List.mem_of_getElem? h)
 have:(decide (rs.length<=90)&&rs.all z6)=true:=this
 exact List.all_eq_true.mp ((Bool.and_eq_true _ _).mp this).2
theorem zhi{g:Str}{hs:List Str}{ps:List (Str×Str)}{lks hds:List D}{O:List Str}(T:TownOk g hs ps lks hds)(PO:Pool hs lks hds O){x:Str}{r m:List Str}(s:SW g ps (x::r))(hx:x≠g)(e:zp hs lks hds (x::r)=some m):EOk x (zK hs lks x) (x::r,m):=by
 have tin:∀p∈ps,p.1∈hs/\p.2∈hs:=λp hp=>⟨(T.ties p hp).1,(T.ties p hp).2.1⟩
 have mem:=SW.mem T.goal tin s
 have MR:=zdc T PO mem e
 have w10:(x::r).length<=10:=Nat.le_trans (zM s.nd mem) T.ten
 refine⟨⟨r,rfl⟩,λy hy=>T.names y (mem y hy),λy hy=>PO.nm y (MR.mem y hy),by show(x::r).length<=80;omega,Nat.le_trans (MR.toMk.len PO.few) (by decide),?_⟩
 obtain⟨j,rs,hj,hlj,er⟩:=zhT T (mem x List.mem_cons_self)
 rw[er]
 cases r with
 |nil=>exact absurd s.one hx
 |cons a q=>
  rw[zp] at e
  cases e1:zp hs lks hds (a::q)with
  |none=>rw[e1] at e;cases e
  |some t=>
   rw[e1] at e
   have e:zaQ hs lks hds x (a::q) t=some m:=e
   unfold zaQ at e
   split at e
   ·cases e
   ·rename_i t' _
    by_cases hb:zdW (zO (x::a::q) t' (zK hs lks x))=true
    ·rw[if_pos hb] at e;cases e
    ·rw[if_neg hb] at e
     cases e
     rw[er] at hb
     rcases zg2 (ws:=x::a::q) (ms:=m) (znj T hlj)with z|⟨i,z⟩
     ·rw[z] at hb;exact absurd rfl hb
     ·show zO (x::a::q) m rs= .int (wI rs (x::a::q,m))
      unfold wI
      simp only[z]
theorem GL.snocW{α:Type}{Oa:Hp->Addr->α->Prop}{H H':Hp}{hs:List Str}{ls:List Addr}{G:Str->List α}{x:Str}{p:Addr}{us:List V}{zs:List α}(h:GL Oa H H' hs ls G)(hx:x∉hs)(hp:H' p=some (.lst us))(ha:AtG Oa H' us zs)(hp0:H p=none)(hn:p∉ls):GL Oa H H' (hs ++ [x]) (ls ++ [p]) (λz=>if z=x then zs else G z):=by
 refine⟨by rw[List.length_append,List.length_append,h.len];rfl,List.nodup_append.mpr ⟨h.nd,by simp,λa ha b hb z=>hn (by rw[←List.mem_singleton.mp hb,←z];exact ha)⟩,λi l y e1 e2=>?_⟩
 rcases Nat.lt_or_ge i ls.length with z|z
 ·rw[List.getElem?_append_left z] at e1
  rw[List.getElem?_append_left (by rw[←h.len];exact z)] at e2
  have:y≠x:=λw=>hx (w▸List.mem_of_getElem? e2)
  simp only[if_neg this]
  exact h.at_ i l y e1 e2
 ·rw[List.getElem?_append_right z] at e1
  rw[List.getElem?_append_right (by rw[←h.len];exact z),←h.len] at e2
  cases hk:i -ls.length with
  |zero=>
   rw[hk] at e1 e2;cases e1;cases e2
   simp only[if_true]
   exact⟨⟨us,hp,ha⟩,hp0⟩
  |succ n=>rw[hk] at e1;cases e1
def zmj:Sp:=λvs H Q _=>∃(v:V) (g:Str) (hs:List Str) (ps:List (Str×Str)) (lks hds:List D) (O:List Str),vs=[v]/\Rep H v (zaE g hs ps lks hds)/\TownOk g hs ps lks hds/\Pool hs lks hds O/\zd1 ps/\∀(d:Addr) (ls:List Addr) (W:Str->List (List Str)) (H':Hp),H' d=some (.dK (zw hs (ls.map V.ref)))->GL zb6 H H' hs ls W->(∀x∈hs,Due g hs ps lks hds x (W x))->H d=none->Same H H'->Q (.ref d) H'
end
section
variable{P:Program}{w:World}{K:PySem.W.Frag}{mg:Str->Option Value}{base:Heap}
def zdF(hs:List Str)(lks:List D)(x:Str)(r m:List Str):Ky:=match r with|[]=>(0,1,[x])|_::_=>kE (zK hs lks x) (x::r,m)
def zjD:Sp:=λvs H Q _=>∃(v:V) (pw:Addr) (x:Str) (r m:List Str) (g:Str) (hs:List Str) (ps:List (Str×Str)) (lks hds:List D) (O:List Str),vs=[v, .ref pw]/\Rep H v (zaE g hs ps lks hds)/\TownOk g hs ps lks hds/\Pool hs lks hds O/\H pw=some (.tup ((x::r).map V.str))/\(∀z∈x::r,z∈hs)/\r.length<=11/\zp hs lks hds (x::r)=some m/\(r≠ []->zO (x::r) m (zK hs lks x)= .int (wI (zK hs lks x) (x::r,m)))/\∀(u:V) (H':Hp),zpL H' u (zdF hs lks x r m)->Same H H'->Q u H'
theorem zkI(Y:Ev K mg):FnOk P w K mg base CX0 18 Y.a__law_rank Y.d__law_rank zbk zjD:=by
 have G__law_worth:FnOk P w K mg base CX0 4 Y.a__law_worth Y.d__law_worth zaU zdt:=zgS Y
 have G__law_marks:FnOk P w K mg base CX0 17 Y.a__law_marks Y.d__law_marks zP (zbW 12):=zeE Y
 refine Y._law_rank.fn.okQ ziN (λvs H Q E h=>?_) (λcdv A outer s H vs Q E hr h=>?_)
 ·obtain ⟨v,pw,x,r,m,g,hs,ps,lks,hds,O,rfl,_⟩:=h;rfl
 ·obtain ⟨v,pw,x,r,m,g,hs,ps,lks,hds,O,rfl,hv,T,PO,hpw,wm,lr,eM,wt,q⟩:=h
  have nw:∀y∈x::r,zg y=true:=λy hy=>T.names y (wm y hy)
  refine⟨_,(ze (zad (zy zam (zq zD Y.len zaD (za (qv 1) zd)) zf) (zj (zt (zR (za zf (za zf (za (qv 1) zd)))))) zJ)
   (zj (zt (zR (za (zL zfO zf (zh G__law_worth (hr.mono (by decide)) Y._law_worth.mg Y._law_worth.kp Y._law_worth.b .nil zn (za (qv 0) (za (qv 1) (za (zh G__law_marks (hr.mono (by decide)) Y._law_marks.mg Y._law_marks.kp Y._law_marks.b .nil zn (za (qv 0) (za (qv 1) zd))) zd))))) (za (zq zD Y.len zaD (za (qv 1) zd)) (za (qv 1) zd))))))),?_⟩
  refine⟨_,rfl, .inl ⟨pw,_,rfl, .inr (.inl (.inl hpw)),rfl,_,rfl,za7 (λhc=>?_) (λhc=>?_)⟩⟩
  ·have hr0:r=[]:=by
    cases r with
    |nil=>rfl
    |cons a b=>exfalso;simp at hc;omega
   subst hr0
   refine⟨_,rfl,few rfl,λpk hpk=>?_⟩
   have S:=Same.new (o:= .tup [V.int 0, .int 1, .ref pw]) hpk
   exact q _ _ ⟨pk,pw,rfl,zb,S _ _ hpw,λy hy=>zaM (nw y hy)⟩ S
  ·have hr1:r≠ []:=λz=>hc (by rw[z];rfl)
   have w:=wt hr1
   have MR:=zdc T PO wm eM
   obtain⟨j,rs,hj,hlj,er⟩:=zhT T (wm x List.mem_cons_self)
   refine⟨_,rfl,_,rfl,_,rfl,_,rfl,v,pw,x::r,g,hs,ps,lks,hds,O,rfl,hv,T,PO,wm,hpw,Nat.le_add_left 1 _,by show r.length+1<=12;omega,by decide,λu H1 hu s1=>?_⟩
   rw[eM] at hu
   obtain⟨pm,rfl,hpm⟩:=hu
   refine⟨v,pw,pm,x,r,m,g,hs,ps,lks,hds,j,rs,rfl,hv.same s1,T,hj,hlj,s1 _ _ hpw,hpm,nw,λy hy=>PO.nm y (MR.mem y hy),by omega,Nat.le_trans (MR.toMk.len PO.few) (by decide),λu2 H2 r2 s2=>?_⟩
   rw[←er,w] at r2
   cases r2 with|int _=>
   have s02:=s1.trans s2
   refine⟨_,_,rfl,rfl,_,rfl, .inl ⟨pw,_,rfl, .inr (.inl (.inl (s02 _ _ hpw))),_,rfl,few rfl,λpk hpk=>?_⟩⟩
   have S:=Same.new (o:= .tup [V.int (0 -wI (zK hs lks x) (x::r,m)), .int (((x::r).map V.str).length:Int), .ref pw]) hpk
   refine q _ _ ⟨pk,pw,rfl,?_,?_,?_⟩ (s02.trans S)
   all_goals (cases r with|nil=>exact absurd rfl hr1|cons a b=>?_)
   ·rw[zb,List.length_map]
    show some (HO.tup [V.int (0 -wI (zK hs lks x) (x::a::b,m)),_,_])=_
    rw[Int.zero_sub];rfl
   ·exact S _ _ (s02 _ _ hpw)
   ·exact λy hy=>zaM (nw y hy)
end
section
variable{P:Program}{w:World}{K:PySem.W.Frag}{mg:Str->Option Value}{base:Heap}
def rkW(hs:List Str)(lks:List D)(M:List Str->Option (List Str))(w:List Str):Ky:=match w with|[]=>(0,0,[])|x::r=>zdF hs lks x r ((M (x::r)).getD [])
def zc2(hs:List Str)(lks:List D)(M:List Str->Option (List Str))(L:List (List Str))(x:Str):List Ky:=(L.filter λw=>decide (w.head?=some x)&&(M w).isSome).map (rkW hs lks M)
theorem zly{hs:List Str}{lks:List D}{M:List Str->Option (List Str)}{L:List (List Str)}{i:Nat}{x:Str}{r ms:List Str}(e:L[i]?=some (x::r))(em:M (x::r)=some ms):zc2 hs lks M (L.take (i+1))=λz=>if z=x then zc2 hs lks M (L.take i) x ++ [zdF hs lks x r ms] else zc2 hs lks M (L.take i) z:=by
 funext z
 unfold zc2
 rw[List.take_add_one,e,List.filter_append,List.map_append]
 show _ ++List.map _ (List.filter _ [x::r])=_
 by_cases h:z=x
 ·subst h
  rw[if_pos rfl,List.filter_cons_of_pos (by simp[em]),List.filter_nil]
  show _ ++ [zdF hs lks z r ((M (z::r)).getD [])]=_
  rw[em];rfl
 ·rw[if_neg h,List.filter_cons_of_neg (by simp;exact λw=>absurd w.symm h),List.filter_nil]
  show _ ++ []=_
  rw[List.append_nil]
theorem zk7{hs:List Str}{lks:List D}{M:List Str->Option (List Str)}{L:List (List Str)}{i:Nat}{w:List Str}(e:L[i]?=some w)(em:M w=none):zc2 hs lks M (L.take (i+1))=zc2 hs lks M (L.take i):=by
 funext z
 unfold zc2
 rw[List.take_add_one,e,List.filter_append,List.map_append]
 show _ ++List.map _ (List.filter _ [w])=_
 rw[List.filter_cons_of_neg (by simp[em]),List.filter_nil]
 show _ ++ []=_
 rw[List.append_nil]
theorem zjZ{hs:List Str}{lks:List D}{x:Str}{r m:List Str}:(zdF hs lks x r m).2.2=x::r:=by
 cases r<;>rfl
theorem zj5{hs:List Str}{lks:List D}{M:List Str->Option (List Str)}{w:List Str}:(rkW hs lks M w).2.2=w:=by
 cases w with
 |nil=>rfl
 |cons x r=>exact zjZ
theorem znw{g:Str}{hs:List Str}{ps:List (Str×Str)}{lks hds:List D}{L:List (List Str)}(mem:∀w,w∈L↔SW g ps w)(nd:L.Nodup){x:Str}{ks:List Ky}(pm:ks.Perm (zc2 hs lks (zp hs lks hds) L x))(pw:(zc2 hs lks (zp hs lks hds) L x).Nodup->ks.Pairwise (λa b=>ltK a b=true)):Due g hs ps lks hds x (ks.map (·.2.2)):=by
 have ndE:(zc2 hs lks (zp hs lks hds) L x).Nodup:=by
  unfold zc2
  refine List.pairwise_map.mpr ((nd.sublist List.filter_sublist).imp λ{a b} hab z=>hab ?_)
  rw[←zj5 (hs:=hs) (lks:=lks) (M:=zp hs lks hds) (w:=a),z,zj5]
 have em:∀k,k∈zc2 hs lks (zp hs lks hds) L x↔∃r m,k=zdF hs lks x r m/\SW g ps (x::r)/\zp hs lks hds (x::r)=some m:=λk=>by
  unfold zc2
  rw[List.mem_map]
  constructor
  ·rintro ⟨w,hw,rfl⟩
   obtain⟨h1,h2⟩:=List.mem_filter.mp hw
   have s1:=(mem w).mp h1
   obtain⟨y,r,rfl⟩:=s1.ne
   obtain⟨h3,h4⟩:=(Bool.and_eq_true _ _).mp h2
   have:y=x:=Option.some.inj (of_decide_eq_true h3)
   subst this
   cases e:zp hs lks hds (y::r)with
   |none=>rw[e] at h4;cases h4
   |some m=>exact ⟨r,m,by show zdF hs lks y r ((zp hs lks hds (y::r)).getD [])=_;rw[e];rfl,s1,e⟩
  ·rintro ⟨r,m,rfl,s1,e1⟩
   exact⟨x::r,List.mem_filter.mpr ⟨(mem _).mpr s1,by simp[e1]⟩,by show zdF hs lks x r ((zp hs lks hds (x::r)).getD [])=_;rw[e1];rfl⟩
 by_cases hx:x=g
 ·subst hx
  refine .inl ⟨rfl,?_⟩
  have only:∀k∈ks,k=(0,1,[x]):=λk hk=>by
   obtain⟨r,m,rfl,s1,e1⟩:=(em k).mp (pm.mem_iff.mp hk)
   cases r with
   |nil=>rfl
   |cons a b=>
    exfalso
    have h1:=s1.last
    rw[List.getLast?_cons_cons] at h1
    exact(List.nodup_cons.mp s1.nd).1 (List.mem_of_getLast? h1)
  have some1:(0,1,[x])∈ks:=pm.mem_iff.mpr ((em _).mpr ⟨[],[],rfl,⟨by simp,rfl,λp hp=>by cases hp⟩,rfl⟩)
  have ndk:ks.Nodup:=pm.nodup_iff.mpr ndE
  match ks,only,some1,ndk with
  |[k],o,_,_=>rw[o k List.mem_cons_self];rfl
  |k::k'::t,o,_,n=>exact absurd ((o k List.mem_cons_self).trans (o k' (List.mem_cons_of_mem _ List.mem_cons_self)).symm) λz=>(List.nodup_cons.mp n).1 (z▸List.mem_cons_self)
 ·refine .inr ⟨hx,ks,pw ndE,λk=>?_,rfl⟩
  rw[pm.mem_iff,em]
  constructor
  ·rintro ⟨r,m,rfl,s1,e1⟩
   cases r with
   |nil=>exact absurd s1.one hx
   |cons a b=>exact ⟨a::b,m,rfl,s1,e1⟩
  ·rintro ⟨r,m,rfl,s1,e1⟩
   cases r with
   |nil=>exact absurd s1.one hx
   |cons a b=>exact ⟨a::b,m,rfl,s1,e1⟩
theorem zhV{g:Str}{hs:List Str}{ps:List (Str×Str)}{lks:List D}{M:List Str->Option (List Str)}{L:List (List Str)}(fw:∀x,(L.filter λw=>decide (w.head?=some x)).length<=16)(i:Nat)(x:Str):(zc2 hs lks M (L.take i) x).length<=16:=by
 unfold zc2
 rw[List.length_map]
 refine Nat.le_trans ?_ (fw x)
 refine Nat.le_trans (((List.take_sublist i L).filter _).length_le) ?_
 rw[←List.filter_filter]
 rw[show(L.filter λw=>(M w).isSome).filter (λw=>decide (w.head?=some x))=(L.filter λw=>decide (w.head?=some x)).filter λw=>(M w).isSome by rw[List.filter_filter,List.filter_filter];congr 1;funext w;exact Bool.and_comm _ _]
 exact List.length_filter_le _ _
end
section
variable{P:Program}{w:World}{K:PySem.W.Frag}{mg:Str->Option Value}{base:Heap}
theorem KwO.up{H H':Hp}(t:∀c us,H c=some (.tup us)->H' c=some (.tup us)){b:Addr}{k:Ky}(h:KwO H b k):KwO H' b k:=by
 obtain⟨t0,p,e1,⟨q,e2,e3,ok⟩,e4⟩:=h
 exact⟨t0,p,t _ _ e1,⟨q,t _ _ e2,t _ _ e3,ok⟩,t _ _ e4⟩
theorem zeQ{α:Type}{Oa:Hp->Addr->α->Prop}{H H':Hp}{hs:List Str}{ls:List Addr}{G:Str->List α}(gl:GL Oa H H' hs ls G){p:Addr}(hp:∀us,H' p≠some (.lst us)):p∉ls:=λz=>by
 obtain⟨k,hk,e⟩:=List.getElem_of_mem z
 have hk':k<hs.length:=by rw[←gl.len];exact hk
 obtain⟨⟨us,e',_⟩,_⟩:=gl.at_ k p _ (by rw[List.getElem?_eq_getElem hk,e]) (List.getElem?_eq_getElem hk')
 exact hp us e'
theorem zhS(Y:Ev K mg):FnOk P w K mg base CX0 19 Y.a__law_lets Y.d__law_lets zbU zmj:=by
 have G__law_ways:FnOk P w K mg base CX0 2 Y.a__law_ways Y.d__law_ways zbV zgJ:=znP Y
 have G__law_marks:FnOk P w K mg base CX0 17 Y.a__law_marks Y.d__law_marks zP (zbW 12):=zeE Y
 have G__law_rank:FnOk P w K mg base CX0 18 Y.a__law_rank Y.d__law_rank zbk zjD:=zkI Y
 refine Y._law_lets.fn.okQ c__law_lets (λvs H Q E h=>?_) (λcdv A outer s H vs Q E hr h=>?_)
 ·obtain ⟨v,g,hs,ps,lks,hds,O,rfl,_⟩:=h;rfl
 ·obtain ⟨v,g,hs,ps,lks,hds,O,rfl,hv,T,PO,sp,q⟩:=h
  obtain⟨p,pr,pt,pl,pa,vt,vl,va,rfl,hp,hpr,hpt,rt,hpl,rl,hpa,ra⟩:=zaz hv
  have T10:=T.ten
  have hsN:hs.Nodup:=T.hs_nd
  have tin:∀p∈ps,p.1∈hs/\p.2∈hs:=λp hp=>⟨(T.ties p hp).1,(T.ties p hp).2.1⟩
  refine⟨_,(ze (zdh 1 c__law_lets.nd (zU (zfy rfl) Y.dict L2.boot_dict (za (zak (src:=[none]) o__law_lets_1 rfl rfl (za1 (zN ix_tup (qv 0) zf)) (λ_ _ _ _ _=>(zr 0 o__law_lets_1.nd)) (λ_ _ _ _ _=>zbO) (λ_ _ _ _ _=>(zR (za (qv 0) (za (zb0 zd) zd))))) zd)))
   (ze (za2 PassesOwn.never rfl (zcw (zh G__law_ways (hr.mono (by decide)) Y._law_ways.mg Y._law_ways.kp Y._law_ways.b .nil zn (za (qv 0) zd))) (zr 2 c__law_lets.nd) (zj (zad (zy zef (zh G__law_marks (hr.mono (by decide)) Y._law_marks.mg Y._law_marks.kp Y._law_marks.b .nil zn (za (qv 0) (za (qv 2) zd))) zaJ) (zj (zdR (zhj PySem.F.plainAttrs_list PySem.F.slot_list_append PySem.F.type_list_append zbc (zb3 (hu1 hr) (qc 1) (zN ix_tup (qv 2) zf)) (za (zR (za (zh G__law_rank (hr.mono (by decide)) Y._law_rank.mg Y._law_rank.kp Y._law_rank.b .nil zn (za (qv 0) (za (qv 2) zd))) (za (qv 2) zd))) zd)))) zJ)))
   (zj (zt (zU (zfy rfl) Y.dict L2.boot_dict (za (zak (src:=[none,some 1]) o__law_lets_2 rfl rfl (za1 (zN ix_tup (qv 0) zf)) (λ_ _ _ _ _=>(zr 0 o__law_lets_2.nd)) (λ_ _ _ _ _=>zbO) (λ_ _ _ _ _=>(zR (za (qv 0) (za (zak (src:=[none,none]) o__law_lets_3 rfl rfl (zo5 (K:=K) rfl (zq (zfo (K:=K) rfl (zp4 hr)) Y.sorted zaY (za (zb3 (hu1 hr) (qc 1) (qv 0)) zd))) (λ_ _ _ _ _=>(zfN (K:=K) 2 rfl rfl (zB (zr 0 o__law_lets_3.nd) (zB (zr 1 o__law_lets_3.nd) zbq)))) (λ_ _ _ _ _=>zbO) (λ_ _ _ _ _=>(qv 1))) zd))))) zd)))))),?_⟩
  refine⟨_,rfl,p,_,1,_,rfl,rfl, .inl (.inl hp),at1,pr,rfl,⟨_, .inl (.inl hpr)⟩,?_⟩
  refine zX (zaf (K:=K) (xs:=hs.map V.str)) (λl i ys σ' H'=>(∃o,σ'=[o])/\∃ts ls,ys=ts.map V.ref/\TwosAt H' ts (hs.take i) (ls.map V.ref)/\GL KwO H H' (hs.take i) ls (λ_=> [])/\l∉ls/\Same H H') ?_ (λl i ys σ' H' hl ⟨_,_,_,_,_,_,_,s⟩=> .inl (.inl (s _ _ hpr))) ?_ ?_
  ·exact λl hl=>⟨⟨_,rfl⟩,[],[],rfl, .nil,GL.nil,(λz=>nomatch z),Same.new hl⟩
  ·rintro l i y0 ys σ' H2 hl' hi hy ⟨⟨o,rfl⟩,ts,ls,rfl,tw,gl,ln,s2⟩ hl2
   rw[List.length_map] at hi
   rw[List.getElem?_map] at hy
   obtain⟨y,ey,rfl⟩:∃y,hs[i]?=some y/\y0= .str y:=by
    cases e:hs[i]? with
    |none=>rw[e] at hy;cases hy
    |some y=>rw[e] at hy;cases hy;exact⟨y,rfl,rfl⟩
   have tk:hs.take (i+1)=hs.take i ++ [y]:=by rw[List.take_add_one,ey];rfl
   refine⟨_,rfl,few rfl,λp2 hp2=>⟨few rfl,λp3 hp3=>?_⟩⟩
   have S2:=Same.new (o:= .lst []) hp2
   have S3:=Same.new (o:= .tup [V.str y, .ref p2]) hp3
   have hl3:=S3 _ _ (S2 _ _ hl2)
   have n2:p2≠l:=λz=>by rw[z,hl2] at hp2;cases hp2
   have e2:=S3 _ _ (zb (H:=H2) (a:=p2) (o:= .lst []))
   have e3:=zb (H:=upd H2 p2 (.lst [])) (a:=p3) (o:= .tup [V.str y, .ref p2])
   have s23:=S2.trans S3
   generalize (upd (upd H2 p2 (.lst [])) p3 (.tup [V.str y, .ref p2]))=H3 at *
   have lt:ts.length<=10:=by have h1:=tw.len.1;rw[List.length_take] at h1;omega
   have up:∀c us,H3 c=some (.tup us)->upd H3 l (.lst (ts.map V.ref ++ [.ref p3])) c=some (.tup us):=λc us e=>by rw[zi (zbd e hl3 (by intro z;cases z))];exact e
   refine⟨hl3,zk (by rw[List.length_map];omega),⟨_,rfl⟩,ts ++ [p3],ls ++ [p2],by rw[List.map_append];rfl,?_,?_,?_,?_⟩
   ·rw[tk,List.map_append]
    exact(tw.mono λa xs e=>up _ _ (s23 _ _ e)).snoc (up _ _ e3)
   ·rw[tk]
    have n2':p2∉ls:=zeQ gl λus z=>by rw[hp2] at z;cases z
    have gl':GL KwO H (upd H3 l (.lst (ts.map V.ref ++ [.ref p3]))) (hs.take i) ls (λ_=> []):=⟨gl.len,gl.nd,λj b x h1 h2=>by
     obtain⟨⟨us,h3,h4⟩,h5⟩:=gl.at_ j b x h1 h2
     refine⟨⟨us,?_,AtG.mono h4 λb k hk=>KwO.up (λc us e=>up _ _ (s23 _ _ e)) hk⟩,h5⟩
     rw[zi λz=>ln (by rw[←z];exact List.mem_of_getElem? h1)]
     exact s23 _ _ h3⟩
    exact GL.snoc gl' (by rw[zi n2];exact e2) (z7 s2 hp2) n2' rfl
   ·intro z
    rcases List.mem_append.mp z with z|z
    ·exact ln z
    ·exact n2 (List.mem_singleton.mp z).symm
   ·exact λb o e=>by rw[zi (zl e hl')];exact(s2.trans s23) b o e
  rintro l0 zs σ' H2 hl0 ⟨⟨o,rfl⟩,ts,ls,rfl,tw,gl,ln,s2⟩ hl2
  rw[List.length_map,List.take_length] at tw gl
  refine⟨l0,ts,hs,ls.map V.ref,rfl,hl2,tw,by omega,hsN,λmd hmd=>?_⟩
  have Sm:=Same.new (o:= .dK (zw hs (ls.map V.ref))) hmd
  have hmd2:=zb (H:=H2) (a:=md) (o:= .dK (zw hs (ls.map V.ref)))
  have gl2:=gl.mono (H'':=upd H2 md (.dK (zw hs (ls.map V.ref)))) (λc us e=>Sm _ _ e) λb k hk=>KwO.up (λc us e=>Sm _ _ e) hk
  have s02:=s2.trans Sm
  have hmdN:=z7 s2 hmd
  clear tw gl
  generalize (upd H2 md (.dK (zw hs (ls.map V.ref))))=H2' at *
  refine⟨_,rfl, .ref p,g,hs,ps,lks,hds,rfl,hv.same s02,T,λlw us ways H3 hlw r3 wok ndW mem lwN s3=>?_⟩
  refine⟨lw,rfl,⟨_,SqL.of hlw⟩,?_⟩
  have fewL:=zhr T.goal tin sp ndW λw hw=>(mem w).mp hw
  have lu:us.length=ways.length:=by have:=r3.1;rwa[List.length_map] at this
  have nlw:lw∉ls:=zeQ gl2 λus z=>by rw[lwN] at z;cases z
  have nmd:md≠lw:=λz=>by rw[z,lwN] at hmd2;cases hmd2
  have gl3:=gl2.mono (H'':=H3) (λc us e=>s3 _ _ e) λb k hk=>KwO.up (λc us e=>s3 _ _ e) hk
  have hmd3:=s3 _ _ hmd2
  have s03:=s02.trans s3
  refine zae (zbK (K:=K) (xs:=us)) (λi σ' H'=>(∃o,σ'=[some (.ref p),some (.ref md),o])/\H' md=some (.dK (zw hs (ls.map V.ref)))/\GL KwO H H' hs ls (zc2 hs lks (zp hs lks hds) (ways.take i))/\H' lw=some (.lst us)/\(∀c xs,H3 c=some (.tup xs)->H' c=some (.tup xs))/\Same H H') ⟨⟨_,rfl⟩,hmd3,gl3,hlw,λ_ _ e=>e,s03⟩ (λi σ' H' z=>SqL.of z.2.2.2.1) ?_ ?_
  ·rintro i x0 σ' H5 hi hx ⟨⟨o1,rfl⟩,hm5,gl5,hl5,t5,s5⟩
   have hi':i<ways.length:=by omega
   obtain⟨w,ew⟩:∃w,ways[i]?=some w:=⟨_,List.getElem?_eq_getElem hi'⟩
   have rw':=r3.2 i x0 (wD w) hx (by rw[List.getElem?_map,ew];rfl)
   obtain⟨pw,rfl,hpw⟩:=zcF rw'
   have hpw5:=t5 _ _ hpw
   have wM:=List.mem_of_getElem? ew
   have ok:=wok w wM
   have sw:=(mem w).mp wM
   have w10:=ok.len T10
   refine⟨_,rfl,_,rfl, .ref p,pw,w,g,hs,ps,lks,hds,O,rfl,hv.same s5,T,PO,ok.mem,hpw5,ok.ne,by omega,by decide,λu H6 hu s6=>?_⟩
   cases em:zp hs lks hds w with
   |none=>
    rw[em] at hu
    cases(show u= .non from hu)
    refine⟨rfl,_,rfl,zat rfl ?_⟩
    refine⟨⟨_,rfl⟩,s6 _ _ hm5,?_,s6 _ _ hl5,λc xs e=>s6 _ _ (t5 _ _ e),s5.trans s6⟩
    rw[zk7 ew em]
    exact gl5.mono (λc us e=>s6 _ _ e) λb k hk=>KwO.up (λc us e=>s6 _ _ e) hk
   |some m=>
    rw[em] at hu
    obtain⟨pm,rfl,hpm⟩:=hu
    refine⟨rfl,_,rfl,zaX rfl ?_⟩
    obtain⟨x,r,rfl⟩:=sw.ne
    have hxh:x∈hs:=ok.mem x List.mem_cons_self
    have gl6:=gl5.mono (H'':=H6) (λc us e=>s6 _ _ e) λb k hk=>KwO.up (λc us e=>s6 _ _ e) hk
    have hm6:=s6 _ _ hm5
    have hpw6:=s6 _ _ hpw5
    obtain⟨j,l,vs,el,ex,ev,eu,au,lnN⟩:=gl6.get hsN hxh
    have dg:DGet H6 md (.str x) (some (.ref l)):=by
     have:=DGet.k (k:=Sum.inr x) hm6
     rw[ev] at this;exact this
    have s06:=s5.trans s6
    refine⟨_,rfl,_,rfl,pw,_,0,_,rfl,rfl, .inl (.inl hpw6),at0,md, .ref l,rfl,dg, .inl ⟨rfl,_,SqL.of eu⟩,_,rfl,_,rfl, .ref p,pw,x,r,m,g,hs,ps,lks,hds,O,rfl,hv.same s06,T,PO,hpw6,ok.mem,by have:r.length+1<=10:=w10;omega,em,λhr0=>?_,λu7 H7 hk s7=>⟨_,rfl,few rfl,λp8 hp8=>?_⟩⟩
    ·have hxg:x≠g:=λz=>by
      cases r with
      |nil=>exact hr0 rfl
      |cons a b=>
       have h1:=sw.last
       rw[List.getLast?_cons_cons,←z] at h1
       exact(List.nodup_cons.mp sw.nd).1 (List.mem_of_getLast? h1)
     exact(zhi T PO sw hxg em).wt
    obtain⟨a7,q7,rfl,hk1,hk2,hk3⟩:=hk
    have S8:=Same.new (o:= .tup [V.ref a7, .ref pw]) hp8
    have e8:=zb (H:=H7) (a:=p8) (o:= .tup [V.ref a7, .ref pw])
    have s68:=s7.trans S8
    have eu8:=s68 _ _ eu
    have lus:vs.length<=16:=by rw[au.1];exact zhV (g:=g) (ps:=ps) fewL.2 i x
    have kw:KwO (upd H7 p8 (.tup [V.ref a7, .ref pw])) p8 (zdF hs lks x r m):=⟨a7,pw,e8,⟨q7,S8 _ _ hk1,S8 _ _ hk2,hk3⟩,by rw[zjZ];exact s68 _ _ hpw6⟩
    clear e8
    generalize (upd H7 p8 (.tup [V.ref a7, .ref pw]))=H8 at *
    refine⟨l,vs, .ref p8,rfl,rfl,eu8,zk (by omega),?_⟩
    have t8:∀c xs,H8 c=some (.tup xs)->upd H8 l (.lst (vs ++ [.ref p8])) c=some (.tup xs):=λc xs e=>by rw[zi (zbd e eu8 (by intro z;cases z))];exact e
    have gl8:=gl6.mono (H'':=H8) (λc us e=>s68 _ _ e) λb k hk=>KwO.up (λc us e=>s68 _ _ e) hk
    have nl:lw≠l:=λz=>nlw (by rw[z];exact List.mem_of_getElem? el)
    refine⟨⟨_,rfl⟩,by rw[zi (zbd (s68 _ _ hm6) eu8 (by intro z;cases z))];exact s68 _ _ hm6,?_,by rw[zi nl];exact s68 _ _ (s6 _ _ hl5),λc xs e=>t8 _ _ (s68 _ _ (s6 _ _ (t5 c xs e))),λc ob e=>by rw[zi (zl e lnN)];exact s68 _ _ (s06 c ob e)⟩
    rw[zly ew em]
    exact gl8.app hsN el ex eu8 (λc a hk=>KwO.up t8 hk) kw
  rintro σ' H5 ⟨⟨o1,rfl⟩,hm5,gl5,hl5,t5,s5⟩
  rw[lu,List.take_length] at gl5
  have hp5:=s5 _ _ hp
  have hpr5:=s5 _ _ hpr
  refine⟨_,rfl,p,_,1,_,rfl,rfl, .inl (.inl hp5),at1,pr,rfl,⟨_, .inl (.inl hpr5)⟩,?_⟩
  refine zX (zaf (K:=K) (xs:=hs.map V.str)) (λl i ys σ' H'=>(∃o,σ'=[o,some (.ref md)])/\∃(ts ls':List Addr) (W:Str->List (List Str)),ys=ts.map V.ref/\TwosAt H' ts (hs.take i) (ls'.map V.ref)/\GL zb6 H H' (hs.take i) ls' W/\(∀x∈hs.take i,Due g hs ps lks hds x (W x))/\l∉ls'/\Same H5 H') ?_ (λl i ys σ' H' hl ⟨_,_,_,_,_,_,_,_,_,s⟩=> .inl (.inl (s _ _ hpr5))) ?_ ?_
  ·exact λl hl=>⟨⟨_,rfl⟩,[],[],λ_=> [],rfl, .nil,GL.nil,(λ_ z=>nomatch z),(λz=>nomatch z),Same.new hl⟩
  ·rintro l i y0 ys σ' H6 hl' hi hy ⟨⟨o,rfl⟩,ts,ls',W,rfl,tw,gl',du,ln',s6⟩ hl6
   rw[List.length_map] at hi
   rw[List.getElem?_map] at hy
   obtain⟨y,ey,rfl⟩:∃y,hs[i]?=some y/\y0= .str y:=by
    cases e:hs[i]? with
    |none=>rw[e] at hy;cases hy
    |some y=>rw[e] at hy;cases hy;exact⟨y,rfl,rfl⟩
   have tk:hs.take (i+1)=hs.take i ++ [y]:=by rw[List.take_add_one,ey];rfl
   have ynew:y∉hs.take i:=λz=>by
    have:(hs.take i ++ [y]).Nodup:=by rw[←tk];exact hsN.sublist (List.take_sublist _ _)
    exact(List.nodup_append.mp this).2.2 y z y (List.mem_singleton.mpr rfl) rfl
   have hyh:y∈hs:=List.mem_of_getElem? ey
   obtain⟨k0,l0',vs,el,ex,ev,eu,au,lnN⟩:=gl5.get hsN hyh
   have dg:DGet H6 md (.str y) (some (.ref l0')):=by
    have:=DGet.k (k:=Sum.inr y) (s6 _ _ hm5)
    rw[ev] at this;exact this
   have f16:(zc2 hs lks (zp hs lks hds) ways y).length<=16:=by
    have:=zhV (g:=g) (ps:=ps) (hs:=hs) (lks:=lks) (M:=zp hs lks hds) fewL.2 ways.length y
    rwa[List.take_length] at this
   refine⟨_,rfl,_,rfl,_,rfl,md,_,rfl,dg,l0',vs,zc2 hs lks (zp hs lks hds) ways y,rfl, .inl (SqL.of (s6 _ _ eu)),AtG.mono au λb k hk=>KwO.up (λc us e=>s6 _ _ e) hk,by omega,λks vs' lS pm pw' aS hS=>?_⟩
   have SS:=Same.new (o:= .lst vs') hS
   have eS:=zb (H:=H6) (a:=lS) (o:= .lst vs')
   have aS':AtG KwO (upd H6 lS (.lst vs')) vs' ks:=AtG.mono aS λb k hk=>KwO.up (λc us e=>SS _ _ e) hk
   have due:=znw mem ndW pm pw'
   have lks16:ks.length<=16:=by rw[pm.length_eq];exact f16
   clear aS
   generalize (upd H6 lS (.lst vs'))=H7 at *
   refine⟨lS,rfl,⟨_,SqL.of eS⟩,?_⟩
   refine zX (zbK (K:=K) (xs:=vs')) (λl2 k zs σ' H'=>(∃o o',σ'=[o,o'])/\AtG zb6 H' zs ((ks.map (·.2.2)).take k)/\Same H7 H') ?_ (λl2 k zs σ' H' hl z=>SqL.of (z.2.2 _ _ eS)) ?_ ?_
   ·exact λl2 hl2=>⟨⟨_,_,rfl⟩,⟨rfl,λi v p e _=>by cases e⟩,Same.new hl2⟩
   ·rintro l2 k v0 zs σ' H8 hl2' hk hv0 ⟨⟨o',o'',rfl⟩,az,s8⟩ hl8
    have hk':k<ks.length:=by rw[←aS'.1];exact hk
    obtain⟨b,rfl,ob⟩:=aS'.2 k v0 ks[k] hv0 (List.getElem?_eq_getElem hk')
    obtain⟨t0,pb,e1,_,e4⟩:=KwO.up (λc us e=>s8 _ _ e) ob
    refine⟨b,_,rfl, .inl (.inl e1),rfl,_,_,rfl,_,_,rfl,rfl,_,rfl,hl8,zk (by rw[az.1,List.length_take,List.length_map];omega),⟨_,_,rfl⟩,?_,λb o e=>by rw[zi (zl e hl2')];exact s8 b o e⟩
    have tk2:(ks.map (·.2.2)).take (k+1)=(ks.map (·.2.2)).take k ++ [ks[k].2.2]:=by rw[List.take_add_one,List.getElem?_map,List.getElem?_eq_getElem hk'];rfl
    rw[tk2]
    have t9:∀c xs,H8 c=some (.tup xs)->upd H8 l2 (.lst (zs ++ [.ref pb])) c=some (.tup xs):=λc xs e=>by rw[zi (zbd e hl8 (by intro z;cases z))];exact e
    exact AtG.snoc (AtG.mono az λb a e=>t9 _ _ e) (t9 _ _ e4)
   rintro l2 zs σ' H8 hl2N ⟨⟨o',o'',rfl⟩,az,s8⟩ hl8
   rw[List.take_of_length_le (by rw[List.length_map,aS'.1];exact Nat.le_refl _)] at az
   refine⟨few rfl,λp9 hp9=>?_⟩
   have S9:=Same.new (o:= .tup [V.str y, .ref l2]) hp9
   have e9:=zb (H:=H8) (a:=p9) (o:= .tup [V.str y, .ref l2])
   have s69:=(SS.trans s8).trans S9
   have hl9:=s69 _ _ hl6
   have h29:=S9 _ _ hl8
   have az9:AtG zb6 (upd H8 p9 (.tup [V.str y, .ref l2])) zs (ks.map (·.2.2)):=AtG.mono az λb a e=>S9 _ _ e
   have l2N:H6 l2=none:=z7 SS hl2N
   have n2:l2≠l:=λz=>by rw[z,hl6] at l2N;cases l2N
   generalize (upd H8 p9 (.tup [V.str y, .ref l2]))=H9 at *
   have lt:ts.length<=10:=by have h1:=tw.len.1;rw[List.length_take] at h1;omega
   have up:∀c us,H9 c=some (.tup us)->upd H9 l (.lst (ts.map V.ref ++ [.ref p9])) c=some (.tup us):=λc us e=>by rw[zi (zbd e hl9 (by intro z;cases z))];exact e
   refine⟨hl9,zk (by rw[List.length_map];omega),⟨_,rfl⟩,ts ++ [p9],ls' ++ [l2],λz=>if z=y then ks.map (·.2.2)else W z,by rw[List.map_append];rfl,?_,?_,?_,?_,?_⟩
   ·rw[tk,List.map_append]
    exact(tw.mono λa xs e=>up _ _ (s69 _ _ e)).snoc (up _ _ e9)
   ·rw[tk]
    have n2':l2∉ls':=zeQ gl' λus z=>by rw[l2N] at z;cases z
    have gl9:GL zb6 H (upd H9 l (.lst (ts.map V.ref ++ [.ref p9]))) (hs.take i) ls' W:=⟨gl'.len,gl'.nd,λj b x h1 h2=>by
     obtain⟨⟨us,h3,h4⟩,h5⟩:=gl'.at_ j b x h1 h2
     refine⟨⟨us,?_,AtG.mono h4 λb k hk=>up _ _ (s69 _ _ hk)⟩,h5⟩
     rw[zi λz=>ln' (by rw[←z];exact List.mem_of_getElem? h1)]
     exact s69 _ _ h3⟩
    exact GL.snocW gl9 ynew (by rw[zi n2];exact h29) (AtG.mono az9 λb a e=>up _ _ e) (z7 (s5.trans s6) l2N) n2'
   ·intro x hx
    rw[tk] at hx
    show Due g hs ps lks hds x (if x=y then ks.map (·.2.2)else W x)
    by_cases h:x=y
    ·rw[if_pos h,h];exact due
    ·rw[if_neg h]
     rcases List.mem_append.mp hx with hx|hx
     ·exact du x hx
     ·exact absurd (List.mem_singleton.mp hx) h
   ·intro z
    rcases List.mem_append.mp z with z|z
    ·exact ln' z
    ·exact n2 (List.mem_singleton.mp z).symm
   ·exact λb o e=>by rw[zi (zl e hl')];exact(s6.trans s69) b o e
  rintro l1 zs σ' H6 hl1 ⟨⟨o,rfl⟩,ts,ls',W,rfl,tw,gl',du,ln',s6⟩ hl6
  rw[List.length_map,List.take_length] at tw gl' du
  refine⟨l1,ts,hs,ls'.map V.ref,rfl,hl6,tw,by omega,hsN,λd hd=>?_⟩
  have Sd:=Same.new (o:= .dK (zw hs (ls'.map V.ref))) hd
  exact q d ls' W _ zb (gl'.mono (λc us e=>Sd _ _ e) λb a e=>Sd _ _ e) du (z7 (s5.trans s6) hd) ((s5.trans s6).trans Sd)
end
section
variable{P:Program}{w:World}{K:PySem.W.Frag}{mg:Str->Option Value}{base:Heap}
theorem ziX{t:List Str}(hl:t.length<=13)(hn:∀y∈t,zg y=true):Shw 1095 2 (.tup (t.map D.str)):=zhs (ds:=t.map D.str) (c:=82) (k:=1) 13 (by rw[List.length_map];exact hl) λd hd=>by obtain⟨y,hy,rfl⟩:=List.mem_map.mp hd;exact zd6 (hn y hy)
theorem zeU{c:Nat}:∀(ts:List Str) (k:Nat) (acc:Str),(∀t∈ts,t.length<=c)->(textFrom k acc ts).length<=acc.length+ts.length*(c+2)
 |[],k,acc,_=>by show acc.length<=_;omega
 |t::r,k,acc,h=>by
  have h1:=zeU r (k+1) (acc ++(if k>0 then", "else "":String)++t) λu hu=>h u (List.mem_cons_of_mem _ hu)
  have e:(acc ++(if k>0 then", "else "":String)++t).length<=acc.length+2+t.length:=by
   rw[zcb,zcb]
   have:(Str.ofString (if k>0 then", "else "":String)).length<=2:=by split<;>decide
   omega
  have ht:=h t List.mem_cons_self
  show(textFrom (k+1) _ r).length<=acc.length+(r.length+1)*(c+2)
  rw[Nat.succ_mul]
  omega
def zeZ(ws:List (List Str)):PyData:= .list (ws.map λw=> .tuple (zz w))
structure WsOk(ws:List (List Str)):Prop where
 few:ws.length<=16
 len:∀w∈ws,w.length<=10
 nm:∀w∈ws,∀y∈w,zg y=true
theorem pyD_way{w:List Str}:pyD (.tup (w.map D.str))= .tuple (zz w):=by
 rw[pyD,zcX,List.map_map]
 unfold zz
 exact congrArg PyData.tuple (List.map_congr_left λx _=>by show pyD (.str x)=_;rw[pyD])
theorem zl1{ws:List (List Str)}(h:WsOk ws):(zeZ ws).showable=true/\(zeZ ws).depth<=60/\(zeZ ws).shown.length<=sizeLine:=by
 have sh:∀w∈ws,Shw 1095 2 (.tup (w.map D.str)):=λw hw=>ziX (by have:=h.len w hw;omega) (h.nm w hw)
 unfold zeZ
 refine⟨?_,?_,?_⟩
 ·rw[PyData.showable]
  exact RW.showableAll_of λx hx=>by obtain⟨w,hw,rfl⟩:=List.mem_map.mp hx;rw[←pyD_way];exact(sh w hw).2.1
 ·rw[PyData.depth]
  have:=zdo (n:=2) (xs:=ws.map λw=> .tuple (zz w)) λx hx=>by obtain⟨w,hw,rfl⟩:=List.mem_map.mp hx;rw[←pyD_way];exact(sh w hw).2.2.1
  omega
 ·rw[PyData.shown,zcZ,List.map_map]
  unfold listText
  rw[zcb]
  have:=zeU (c:=1095) (ws.map (PyData.shown∘λw=> .tuple (zz w))) 0 "[" λt ht=>by
   obtain⟨w,hw,rfl⟩:=List.mem_map.mp ht
   show(PyData.shown (.tuple (zz w))).length<=_
   rw[←pyD_way];exact(sh w hw).2.2.2
  rw[List.length_map] at this
  have l1:("[":Str).length=1:=rfl
  have l2:(Str.ofString "]").length=1:=rfl
  have l2':("]":Str).length=1:=rfl
  have f:=h.few
  have:ws.length*(1095+2)<=16*1097:=Nat.mul_le_mul_right _ f
  refine Nat.le_trans (m:=20000) ?_ (Nat.le_of_ble_eq_true rfl)
  omega
theorem zoP{H:Hp}{l:Addr}{us:List V}{ws:List (List Str)}(e:H l=some (.lst us))(a:AtG zb6 H us ws)(h:WsOk ws):Tr H (.ref l) (zeZ ws):=by
 refine .lst e (by rw[List.length_map];exact a.1) λi v d e1 e2=>?_
 rw[List.getElem?_map] at e2
 cases ew:ws[i]? with
 |none=>rw[ew] at e2;cases e2
 |some w=>
  rw[ew] at e2
  cases e2
  obtain⟨b,rfl,o⟩:=a.2 i v w e1 ew
  exact zbp o λx hx=>zaM (h.nm w (List.mem_of_getElem? ew) x hx)
theorem zqd{g:Str}{hs:List Str}{ps:List (Str×Str)}{lks hds:List D}{x:Str}{ws:List (List Str)}(T:TownOk g hs ps lks hds)(sp:zd1 ps)(h:Due g hs ps lks hds x ws):WsOk ws:=by
 have tin:∀p∈ps,p.1∈hs/\p.2∈hs:=λp hp=>⟨(T.ties p hp).1,(T.ties p hp).2.1⟩
 rcases h with⟨rfl,rfl⟩|⟨hx,ks,pw,mem,rfl⟩
 ·exact ⟨(by decide:1<=16),λw hw=>by rw[List.mem_singleton.mp hw];exact(by decide:1<=10),λw hw y hy=>by rw[List.mem_singleton.mp hw] at hy;rw[List.mem_singleton.mp hy];exact T.names _ T.goal⟩
 ·have sw:∀w∈ks.map (·.2.2),SW g ps w/\w.head?=some x:=λw hw=>by
   obtain⟨k,hk,rfl⟩:=List.mem_map.mp hw
   obtain⟨r,m,rfl,s1,_⟩:=(mem k).mp hk
   exact⟨s1,rfl⟩
  have nd:(ks.map (·.2.2)).Nodup:=by
   refine List.pairwise_map.mpr ?_
   have pw':ks.Pairwise (λa b=>(zqO g ps (zp hs lks hds) (zK hs lks x) x a/\zqO g ps (zp hs lks hds) (zK hs lks x) x b)/\ltK a b=true):=by
    refine List.Pairwise.imp_of_mem (λ{a b} ha hb h=>⟨⟨(mem a).mp ha,(mem b).mp hb⟩,h⟩) pw
   refine pw'.imp λ{a b} ⟨⟨ha,hb⟩,hl⟩ z=>?_
   obtain⟨r,m,rfl,s1,e1⟩:=ha
   obtain⟨r',m',rfl,s2,e2⟩:=hb
   have z:x::r=x::r':=z
   cases z
   rw[e1] at e2
   cases e2
   rw[zcr] at hl;cases hl
  have f:=(zhr T.goal tin sp nd λw hw=>(sw w hw).1).2 x
  rw[List.filter_eq_self.mpr λw hw=>decide_eq_true (sw w hw).2] at f
  exact⟨f,λw hw=>Nat.le_trans (zM (sw w hw).1.nd (SW.mem T.goal tin (sw w hw).1)) T.ten,λw hw y hy=>T.names y (SW.mem T.goal tin (sw w hw).1 y hy)⟩
theorem zdi{hs:List Str}{ys:List V}(h:ys.length=hs.length):(zw hs ys).length=hs.length:=by
 unfold zw;rw[List.length_map,List.length_zip,h,Nat.min_self]
end
section
variable{P:Program}{w:World}{K:PySem.W.Frag}{mg:Str->Option Value}{base:Heap}
theorem Told.tups{H H':Hp}{u:V}{o:Option (List Str)}(h:Told H u o)(t:∀c xs,H c=some (.tup xs)->H' c=some (.tup xs)):Told H' u o:=by
 cases o with
 |none=>exact h
 |some w=>obtain ⟨p,e,hp⟩:=h;exact⟨p,e,t _ _ hp⟩
structure ChF(H:Hp)(hs:List Str)(vs:List V)(C:Str->Option (List Str)):Prop where
 len:vs.length=hs.length
 at_:∀(i:Nat) (x:Str) (v:V),hs[i]?=some x->vs[i]?=some v->Told H v (C x)
theorem ChF.mono{H H':Hp}{hs:List Str}{vs:List V}{C:Str->Option (List Str)}(h:ChF H hs vs C)(t:∀c xs,H c=some (.tup xs)->H' c=some (.tup xs)):ChF H' hs vs C:=⟨h.len,λi x v e1 e2=>Told.tups (h.at_ i x v e1 e2) t⟩
theorem ChF.get{H:Hp}{hs:List Str}{vs:List V}{C:Str->Option (List Str)}(h:ChF H hs vs C)(nh:hs.Nodup){x:Str}(hx:x∈hs):∃(i:Nat) (v:V),hs[i]?=some x/\vs[i]?=some v/\zby (zw hs vs) (Sum.inr x)=some v/\Told H v (C x):=by
 obtain⟨i,hi,e⟩:=List.getElem_of_mem hx
 have e1:hs[i]?=some x:=by rw[List.getElem?_eq_getElem hi,e]
 have iv:i<vs.length:=by rw[h.len];exact hi
 have e2:vs[i]?=some vs[i]:=List.getElem?_eq_getElem iv
 exact⟨i,vs[i],e1,e2,zhC nh e1 e2,h.at_ i x _ e1 e2⟩
theorem ChF.set{H:Hp}{hs:List Str}{vs:List V}{C:Str->Option (List Str)}{i:Nat}{x:Str}{v:V}{o:Option (List Str)}(h:ChF H hs vs C)(nh:hs.Nodup)(ex:hs[i]?=some x)(t:Told H v o):ChF H hs (vs.set i v) (λz=>if z=x then o else C z):=by
 refine⟨by rw[List.length_set];exact h.len,λj y u e1 e2=>?_⟩
 have hi:i<hs.length:=(List.getElem?_eq_some_iff.mp ex).1
 have iv:i<vs.length:=by rw[h.len];exact hi
 by_cases hj:j=i
 ·subst hj
  rw[List.getElem?_set_self iv] at e2
  cases e2
  rw[ex] at e1
  cases e1
  simp only[if_true]
  exact t
 ·rw[List.getElem?_set_ne (λz=>hj z.symm)] at e2
  have ny:y≠x:=λz=>by
   have hj':=(List.getElem?_eq_some_iff.mp e1).1
   rw[List.getElem?_eq_getElem hj'] at e1
   rw[List.getElem?_eq_getElem hi] at ex
   exact hj ((List.getElem_inj nh).mp ((Option.some.inj e1).trans (z.trans (Option.some.inj ex).symm)))
  simp only[if_neg ny]
  exact h.at_ j y u e1 e2
theorem ChF.dget{H:Hp}{hs:List Str}{vs:List V}{x:Str}{v:V}{d:Addr}(hd:H d=some (.dK (zw hs vs)))(ev:zby (zw hs vs) (Sum.inr x)=some v):DGet H d (.str x) (some v):=by
 have:=DGet.k (k:=Sum.inr x) hd
 rw[ev] at this;exact this
def CW(g:Str)(hs:List Str)(ps:List (Str×Str))(lks hds:List D)(C:Str->Option (List Str)):Prop:=∀y∈hs,∀w,C y=some w->SW g ps w/\w.head?=some y/\zp hs lks hds w≠none
def zbS(M:List Str->Option (List Str))(C:Str->Option (List Str))(x:Str)(L:List Str):List WM:=L.filterMap λy=>match C y with
 |none=>none
 |some r=>if x∈r then none else(M (x::r)).map λm=>(x::r,m)
theorem zhY{M:List Str->Option (List Str)}{C:Str->Option (List Str)}{x:Str}{L:List Str}{e:WM}:e∈zbS M C x L↔∃y r m,y∈L/\C y=some r/\x∉r/\M (x::r)=some m/\e=(x::r,m):=by
 unfold zbS
 rw[List.mem_filterMap]
 constructor
 ·rintro ⟨y,hy,h⟩
  cases hc:C y with
  |none=>rw[hc] at h;cases h
  |some r=>
   rw[hc] at h
   by_cases hx:x∈r
   ·simp only[if_pos hx] at h;cases h
   ·simp only[if_neg hx] at h
    cases hm:M (x::r)with
    |none=>rw[hm] at h;cases h
    |some m=>rw[hm] at h;cases h;exact⟨y,r,m,hy,hc,hx,hm,rfl⟩
 ·rintro ⟨y,r,m,hy,hc,hx,hm,rfl⟩
  refine⟨y,hy,?_⟩
  rw[hc]
  simp only[if_neg hx,hm]
  rfl
theorem zdy{M:List Str->Option (List Str)}{C:Str->Option (List Str)}{x:Str}{L:List Str}{i:Nat}{y:Str}(e:L[i]?=some y):zbS M C x (L.take (i+1))=zbS M C x (L.take i)++zbS M C x [y]:=by
 unfold zbS
 rw[List.take_add_one,e,List.filterMap_append];rfl
theorem zgF{M:List Str->Option (List Str)}{C:Str->Option (List Str)}{x y:Str}(h:C y=none):zbS M C x [y]=[]:=by
 unfold zbS
 rw[List.filterMap_cons_none (by rw[h]),List.filterMap_nil]
theorem zkW{M:List Str->Option (List Str)}{C:Str->Option (List Str)}{x y:Str}{r:List Str}(h:C y=some r)(hx:x∈r):zbS M C x [y]=[]:=by
 unfold zbS
 rw[List.filterMap_cons_none (by rw[h];simp only[if_pos hx]),List.filterMap_nil]
theorem zkj{M:List Str->Option (List Str)}{C:Str->Option (List Str)}{x y:Str}{r:List Str}(h:C y=some r)(hx:x∉r)(hm:M (x::r)=none):zbS M C x [y]=[]:=by
 unfold zbS
 rw[List.filterMap_cons_none (by rw[h];simp only[if_neg hx,hm];rfl),List.filterMap_nil]
theorem zig{M:List Str->Option (List Str)}{C:Str->Option (List Str)}{x y:Str}{r m:List Str}(h:C y=some r)(hx:x∉r)(hm:M (x::r)=some m):zbS M C x [y]=[(x::r,m)]:=by
 unfold zbS
 rw[List.filterMap_cons_some (b:=(x::r,m)) (by rw[h];simp only[if_neg hx,hm];rfl),List.filterMap_nil]
theorem zes{M:List Str->Option (List Str)}{C:Str->Option (List Str)}{x:Str}{L:List Str}:(zbS M C x L).length<=L.length:=List.length_filterMap_le _ _
theorem zkx{g:Str}{hs:List Str}{ps:List (Str×Str)}{lks hds:List D}{M:List Str->Option (List Str)}{C:Str->Option (List Str)}(cw:CW g hs ps lks hds C){x:Str}{L:List Str}(nd:L.Nodup)(hl:∀y∈L,y∈hs):((zbS M C x L).map (·.1)).Nodup:=by
 refine List.pairwise_map.mpr ?_
 unfold zbS
 rw[List.pairwise_filterMap]
 refine List.Pairwise.imp_of_mem (λ{a b} ha hb hab e he e' he' z=>hab ?_) nd
 cases hc:C a with
 |none=>rw[hc] at he;cases he
 |some r=>
  cases hc':C b with
  |none=>rw[hc'] at he';cases he'
  |some r'=>
   rw[hc] at he
   rw[hc'] at he'
   by_cases hx:x∈r
   ·simp only[if_pos hx] at he;cases he
   ·by_cases hx':x∈r'
    ·simp only[if_pos hx'] at he';cases he'
    ·simp only[if_neg hx,if_neg hx'] at he he'
     obtain⟨m,_,rfl⟩:=Option.map_eq_some_iff.mp he
     obtain⟨m',_,rfl⟩:=Option.map_eq_some_iff.mp he'
     have z:x::r=x::r':=z
     cases z
     have h1:=(cw a (hl a ha) r hc).2.1
     have h2:=(cw b (hl b hb) r hc').2.1
     rw[h1] at h2
     exact Option.some.inj h2
def zr4(hs:List Str)(ps:List (Str×Str))(lks hds:List D)(C:Str->Option (List Str))(x:Str)(k:Ky):Prop:=∃y r m,mmS y x∈ps/\y∈hs/\C y=some r/\x∉r/\zp hs lks hds (x::r)=some m/\k=kE (zK hs lks x) (x::r,m)
def Off(hs:List Str)(ps:List (Str×Str))(lks hds:List D)(C:Str->Option (List Str))(x:Str)(ws:List (List Str)):Prop:=∃ks:List Ky,ks.Pairwise (λa b=>ltK a b=true)/\(∀k,k∈ks↔zr4 hs ps lks hds C x k)/\ws=ks.map (·.2.2)
theorem Off.uniq{hs:List Str}{ps:List (Str×Str)}{lks hds:List D}{C:Str->Option (List Str)}{x:Str}{ws ws':List (List Str)}(h:Off hs ps lks hds C x ws)(h':Off hs ps lks hds C x ws'):ws=ws':=by
 obtain⟨ks,p1,m1,rfl⟩:=h
 obtain⟨ks',p2,m2,rfl⟩:=h'
 rw[zf7 p1 p2 λk=>(m1 k).trans (m2 k).symm]
theorem zhh{g:Str}{hs:List Str}{ps:List (Str×Str)}{lks hds:List D}{C:Str->Option (List Str)}(cw:CW g hs ps lks hds C){x y:Str}{r:List Str}(t:mmS y x∈ps)(hy:y∈hs)(hc:C y=some r)(hx:x∉r):SW g ps (x::r):=by
 obtain⟨s1,h1,_⟩:=cw y hy r hc
 obtain⟨z,q,rfl⟩:=s1.ne
 have:z=y:=Option.some.inj h1
 subst this
 exact SW.cons s1 hx (by rw[mmS_MM.sym];exact t)
theorem Off.let_{g:Str}{hs:List Str}{ps:List (Str×Str)}{lks hds:List D}{C:Str->Option (List Str)}(cw:CW g hs ps lks hds C){x:Str}{ws:List (List Str)}(h:Off hs ps lks hds C x ws):∀w∈ws,SW g ps w/\w.head?=some x/\zp hs lks hds w≠none:=by
 obtain⟨ks,p1,m1,rfl⟩:=h
 intro w hw
 obtain⟨k,hk,rfl⟩:=List.mem_map.mp hw
 obtain⟨y,r,m,t,hy,hc,hx,hm,rfl⟩:=(m1 k).mp hk
 exact⟨zhh cw t hy hc hx,rfl,by rw[show(kE (zK hs lks x) (x::r,m)).2.2=x::r from rfl,hm];exact λz=>nomatch z⟩
theorem Off.ok{g:Str}{hs:List Str}{ps:List (Str×Str)}{lks hds:List D}{C:Str->Option (List Str)}(T:TownOk g hs ps lks hds)(sp:zd1 ps)(cw:CW g hs ps lks hds C){x:Str}{ws:List (List Str)}(h:Off hs ps lks hds C x ws):WsOk ws:=by
 have tin:∀p∈ps,p.1∈hs/\p.2∈hs:=λp hp=>⟨(T.ties p hp).1,(T.ties p hp).2.1⟩
 have sw:=h.let_ cw
 obtain⟨ks,pw,mem,rfl⟩:=h
 have nd:(ks.map (·.2.2)).Nodup:=by
  refine List.pairwise_map.mpr ?_
  refine List.Pairwise.imp_of_mem (λ{a b} ha hb hl z=>?_) pw
  obtain⟨y,r,m,_,_,_,_,e1,rfl⟩:=(mem a).mp ha
  obtain⟨y',r',m',_,_,_,_,e2,rfl⟩:=(mem b).mp hb
  have z:x::r=x::r':=z
  cases z
  rw[e1] at e2
  cases e2
  rw[zcr] at hl;cases hl
 have f:=(zhr T.goal tin sp nd λw hw=>(sw w hw).1).2 x
 rw[List.filter_eq_self.mpr λw hw=>decide_eq_true (sw w hw).2.1] at f
 exact⟨f,λw hw=>Nat.le_trans (zM (sw w hw).1.nd (SW.mem T.goal tin (sw w hw).1)) T.ten,λw hw y hy=>T.names y (SW.mem T.goal tin (sw w hw).1 y hy)⟩
theorem zmx{g:Str}{hs:List Str}{ps:List (Str×Str)}{lks hds:List D}(T:TownOk g hs ps lks hds):∀{w:List Str},SW g ps w->WayOk g hs ps w
 |[],h=>by obtain⟨_,_,e⟩:=h.ne;cases e
 |[x],h=>by rw[h.one];exact WayOk.one T.goal
 |x::y::r,h=>by
  obtain⟨h1,h2,h3⟩:=h.tail
  have tin:∀p∈ps,p.1∈hs/\p.2∈hs:=λp hp=>⟨(T.ties p hp).1,(T.ties p hp).2.1⟩
  refine(zmx T h1).more (SW.mem T.goal tin h x List.mem_cons_self) h2 ?_
  rw[zin λp hp=>(T.ties p hp).2.2,mmS_MM.sym];exact h3
theorem zoK{g:Str}{hs:List Str}{ps:List (Str×Str)}{lks hds:List D}{C:Str->Option (List Str)}(T:TownOk g hs ps lks hds)(cw:CW g hs ps lks hds C){x y:Str}{r:List Str}(t:mmS y x∈ps)(hy:y∈hs)(hc:C y=some r):zcy g hs ps (.tup ((x::r).map D.str))=!decide (x∈r):=by
 by_cases hx:x∈r
 ·rw[decide_eq_true hx]
  show(zb4 _ 1 hs.length&&zlG (zaa hs) _&&zm0 g ps (zjB (.tup ((x::r).map D.str))))=false
  rw[RW.strs_map]
  unfold zm0
  have:¬(x::r).Nodup:=λz=>(List.nodup_cons.mp z).1 hx
  rw[decide_eq_false this,Bool.and_false,Bool.false_and,Bool.and_false]
 ·rw[decide_eq_false hx]
  exact(zmx T (zhh cw t hy hc hx)).ok T.names
def zh9:Sp:=λvs H Q _=>∃(v:V) (d:Addr) (x:Str) (vs':List V) (C:Str->Option (List Str)) (g:Str) (hs:List Str) (ps:List (Str×Str)) (lks hds:List D) (O:List Str),vs=[v, .ref d, .str x]/\Rep H v (zaE g hs ps lks hds)/\TownOk g hs ps lks hds/\Pool hs lks hds O/\H d=some (.dK (zw hs vs'))/\ChF H hs vs' C/\CW g hs ps lks hds C/\x∈hs/\x≠g/\∀(l:Addr) (us:List V) (ws:List (List Str)) (H':Hp),H' l=some (.lst us)->AtG zb6 H' us ws->Off hs ps lks hds C x ws->H l=none->Same H H'->Q (.ref l) H'
end
section
variable{P:Program}{w:World}{K:PySem.W.Frag}{mg:Str->Option Value}{base:Heap}
theorem zjc(Y:Ev K mg):FnOk P w K mg base CX0 8 Y.a_offered Y.d_offered zcK zh9:=by
 have G_tied:FnOk P w K mg base CX0 1 Y.a_tied Y.d_tied zeJ zjV:=zkT Y
 have G_is_way:FnOk P w K mg base CX0 3 Y.a_is_way Y.d_is_way zc7 zps:=zlU Y
 have G_marks_of:FnOk P w K mg base CX0 7 Y.a_marks_of Y.d_marks_of zcp zgY:=zh1 Y
 have G_most_liked_first:FnOk P w K mg base CX0 7 Y.a_most_liked_first Y.d_most_liked_first zac zpy:=zdC Y
 refine Y.offered.fn.okQ c_offered (λvs H Q E h=>?_) (λcdv A outer s H vs Q E hr h=>?_)
 ·obtain ⟨v,d,x,vs',C,g,hs,ps,lks,hds,O,rfl,_⟩:=h;rfl
 ·obtain ⟨v,d,x,vs',C,g,hs,ps,lks,hds,O,rfl,hv,T,PO,hd,ch,cw,hx,hxg,q⟩:=h
  have T10:=T.ten
  have hsN:hs.Nodup:=T.hs_nd
  have lt':∀p∈ps,ltS p.1 p.2=true:=λp hp=>(T.ties p hp).2.2
  refine⟨_,(ze (zu 3 c_offered.nd (zb0 zd))
   (ze (za2 PassesOwn.never rfl (zcw (zh G_tied (hr.mono (by decide)) Y.tied.mg Y.tied.kp Y.tied.b .nil zn (za (qv 0) (za (qv 2) zd)))) (zr 4 c_offered.nd) (ze (zad (zy zeP (zb3 (hu1 hr) (qv 1) (qv 4)) zaJ) (zj znH) zJ)
   (ze (zu 5 c_offered.nd (zL zeu (zR (za (qv 2) zd)) (zb3 (hu1 hr) (qv 1) (qv 4))))
   (ze (zu 6 c_offered.nd (zoo (zcM (zh G_is_way (hr.mono (by decide)) Y.is_way.mg Y.is_way.kp Y.is_way.b .nil zn (za (qv 0) (za (qv 5) zd)))) (zh G_marks_of (hr.mono (by decide)) Y.marks_of.mg Y.marks_of.kp Y.marks_of.b .nil zn (za (qv 0) (za (qv 5) zd))) zaJ))
   (zj (zad (zy zef (qv 6) zaJ) (zj (zdR (zhj PySem.F.plainAttrs_list PySem.F.slot_list_append PySem.F.type_list_append zbc (qv 3) (za (zR (za (qv 5) (za (qv 6) zd))) zd)))) zJ))))))
   (zj (zt (zh G_most_liked_first (hr.mono (by decide)) Y.most_liked_first.mg Y.most_liked_first.kp Y.most_liked_first.b .nil zn (za (qv 0) (za (qv 3) zd))))))),?_⟩
  refine⟨few rfl,λlm hlm=>?_⟩
  have S1:=Same.new (o:= .lst []) hlm
  have em1:=zb (H:=H) (a:=lm) (o:= .lst [])
  generalize (upd H lm (.lst []))=H1 at *
  refine⟨_,rfl,_,rfl,v,x,g,hs,ps,lks,hds,rfl,hv.same S1,T,λlt ts H2 hltN elt pts sts s2=>?_⟩
  have tsN:ts.Nodup:=pts.nodup_iff.mpr (zkK T x)
  have tsI:∀y,y∈ts↔mmS y x∈ps:=λy=>by rw[pts.mem_iff,zin lt']
  have tsH:∀y∈ts,y∈hs:=λy hy=>zkM T (pts.mem_iff.mp hy)
  have ts10:ts.length<=10:=Nat.le_trans (zM tsN tsH) T10
  have nlm:lt≠lm:=λz=>by rw[z,em1] at hltN;cases hltN
  refine⟨lt,rfl,⟨_,SqL.of elt⟩,?_⟩
  refine zae (zbK (K:=K) (xs:=ts.map V.str)) (λi σ' H'=>(∃o4 o5 o6,σ'=[some v,some (.ref d),some (.str x),some (.ref lm),o4,o5,o6])/\(∃us,H' lm=some (.lst us)/\AtG zmw H' us (zbS (zp hs lks hds) C x (ts.take i)))/\H' lt=some (.lst (ts.map V.str))/\Same H H') ⟨⟨_,_,_,rfl⟩,⟨[],s2 _ _ em1,rfl,λi v p e _=>by cases e⟩,elt,S1.trans s2⟩ (λi σ' H' z=>SqL.of z.2.2.1) ?_ ?_
  ·rintro i y0 σ' H3 hi hy ⟨⟨o4,o5,o6,rfl⟩,⟨us,eu,au⟩,el3,s3⟩
   rw[List.length_map] at hi
   rw[List.getElem?_map] at hy
   obtain⟨y,ey,rfl⟩:∃y,ts[i]?=some y/\y0= .str y:=by
    cases e:ts[i]? with
    |none=>rw[e] at hy;cases hy
    |some y=>rw[e] at hy;cases hy;exact⟨y,rfl,rfl⟩
   have hyt:=List.mem_of_getElem? ey
   have hyh:=tsH y hyt
   have tie:=(tsI y).mp hyt
   have lus:us.length<=10:=by rw[au.1];refine Nat.le_trans zes ?_;rw[List.length_take];omega
   obtain⟨k,u0,e1,e2,ev,tl⟩:=ch.get hsN hyh
   have dg:=λ{H':Hp} (s:Same H H')=>ChF.dget (s _ _ hd) ev
   have done:∀(H':Hp) (σ':L2.St),(∃o4 o5 o6,σ'=[some v,some (.ref d),some (.str x),some (.ref lm),o4,o5,o6])->zbS (zp hs lks hds) C x [y]=[]->Same H3 H'->(∃o4 o5 o6,σ'=[some v,some (.ref d),some (.str x),some (.ref lm),o4,o5,o6])/\(∃us,H' lm=some (.lst us)/\AtG zmw H' us (zbS (zp hs lks hds) C x (ts.take (i+1))))/\H' lt=some (.lst (ts.map V.str))/\Same H H':=λH' σ' hσ e0 s'=>by
    refine⟨hσ,⟨us,s' _ _ eu,?_⟩,s' _ _ el3,s3.trans s'⟩
    rw[zdy ey,e0,List.append_nil]
    exact AtG.mono au λb a ⟨pw,pm,a1,a2,a3⟩=>⟨pw,pm,s' _ _ a1,s' _ _ a2,s' _ _ a3⟩
   cases hc:C y with
   |none=>
    rw[hc] at tl
    cases(show u0= .non from tl)
    refine⟨_,rfl,_,rfl,d,_,rfl,dg s3,rfl,_,rfl,zaX rfl ?_⟩
    exact done _ _ ⟨_,_,_,rfl⟩ (zgF hc) (Same.refl _)
   |some r=>
    rw[hc] at tl
    obtain⟨pr,rfl,hpr⟩:=tl
    obtain⟨sw,hh,mne⟩:=cw y hyh r hc
    obtain⟨z,r',rfl⟩:=sw.ne
    have tin:∀p∈ps,p.1∈hs/\p.2∈hs:=λp hp=>⟨(T.ties p hp).1,(T.ties p hp).2.1⟩
    have rm:=SW.mem T.goal tin sw
    have r10:(z::r').length<=10:=Nat.le_trans (zM sw.nd rm) T10
    refine⟨_,rfl,_,rfl,d,_,rfl,dg s3,rfl,_,rfl,zat rfl ?_⟩
    refine⟨_,rfl,few rfl,λp1 hp1=>?_⟩
    have Sp1:=Same.new (o:= .tup [V.str x]) hp1
    refine⟨_,rfl,_,rfl,d,_,rfl,dg (s3.trans Sp1),p1,pr,_,_,rfl,rfl, .inl (.inl zb), .inl (.inl (Sp1 _ _ (s3 _ _ hpr))),Nat.le_of_lt (zk (by rw[List.length_map];show 1+(z::r').length<=_;omega)),(λz=>nomatch z),(λ_ z=>nomatch z),λ_ _ p2 hp2=>?_⟩
    have Sp2:=Same.new (o:= .tup ([V.str x]++(z::r').map V.str)) hp2
    have s34:=Sp1.trans Sp2
    have hw2:upd (upd H3 p1 (.tup [V.str x])) p2 (.tup ([V.str x]++(z::r').map V.str)) p2=some (.tup ((x::z::r').map V.str)):=zb
    generalize (upd (upd H3 p1 (.tup [V.str x])) p2 (.tup ([V.str x]++(z::r').map V.str)))=H4 at *
    have s4:=s3.trans s34
    have wm:∀t∈x::z::r',t∈hs:=λt ht=>by
     rcases List.mem_cons.mp ht with rfl|ht
     ·exact hx
     ·exact rm t ht
    have rep:Rep H4 (.ref p2) (.tup ((x::z::r').map D.str)):= .mkL hw2 (by rw[List.length_map];show(z::r').length+1<=1000;omega) (zc9 λt ht=>zS (T.names t (wm t ht)))
    refine⟨_,rfl,_,rfl,v, .ref p2,_,g,hs,ps,lks,hds,rfl,hv.same s4,T,rep,λH5 s5=>?_⟩
    have s45:=s34.trans s5
    rw[zoK T cw tie hyh hc]
    by_cases hxr:x∈z::r'
    ·rw[decide_eq_true hxr]
     refine⟨_,rfl,zat rfl ?_⟩
     refine⟨_,rfl,rfl,_,rfl,zat rfl ?_⟩
     exact done _ _ ⟨_,_,_,rfl⟩ (zkW hc hxr) s45
    ·rw[decide_eq_false hxr]
     refine⟨_,rfl,zaX rfl ?_⟩
     have hw5:=s5 _ _ hw2
     refine⟨_,rfl,_,rfl,v,p2,x::z::r',g,hs,ps,lks,hds,O,rfl,hv.same (s4.trans s5),T,PO,wm,hw5,Nat.le_add_left 1 _,by show(z::r').length+1<=80;omega,λu H6 tu s6=>?_⟩
     have s46:=s45.trans s6
     cases hm:zp hs lks hds (x::z::r')with
     |none=>
      rw[hm] at tu
      cases(show u= .non from tu)
      refine⟨_,rfl,rfl,_,rfl,zat rfl ?_⟩
      exact done _ _ ⟨_,_,_,rfl⟩ (zkj hc hxr hm) s46
     |some m=>
      rw[hm] at tu
      obtain⟨pm,rfl,hpm⟩:=tu
      have eu6:=s46 _ _ eu
      refine⟨_,rfl,rfl,_,rfl,zaX rfl ⟨_,rfl, .inl ⟨rfl,_,SqL.of eu6⟩,_,rfl,_,rfl,few rfl,λp7 hp7=>?_⟩⟩
      have S7:=Same.new (o:= .tup [V.ref p2, .ref pm]) hp7
      have e7:=zb (H:=H6) (a:=p7) (o:= .tup [V.ref p2, .ref pm])
      have s37:=s46.trans S7
      have hw7:=S7 _ _ (s6 _ _ hw5)
      have hm7:=S7 _ _ hpm
      have eu7:=S7 _ _ eu6
      generalize (upd H6 p7 (.tup [V.ref p2, .ref pm]))=H7 at *
      refine⟨lm,us, .ref p7,rfl,rfl,eu7,zk (by omega),?_⟩
      have t8:∀c xs,H7 c=some (.tup xs)->upd H7 lm (.lst (us ++ [.ref p7])) c=some (.tup xs):=λc xs e=>by rw[zi (zbd e eu7 (by intro z;cases z))];exact e
      refine⟨⟨_,_,_,rfl⟩,⟨_,zb,?_⟩,by rw[zi nlm];exact s37 _ _ el3,λc ob e=>by rw[zi (zl e hlm)];exact s37 _ _ (s3 c ob e)⟩
      rw[zdy ey,zig hc hxr hm]
      exact AtG.snoc (AtG.mono au λb a ⟨pw,pm,a1,a2,a3⟩=>⟨pw,pm,t8 _ _ (s37 _ _ a1),t8 _ _ (s37 _ _ a2),t8 _ _ (s37 _ _ a3)⟩) ⟨p2,pm,t8 _ _ e7,t8 _ _ hw7,t8 _ _ hm7⟩
  rintro σ' H3 ⟨⟨o4,o5,o6,rfl⟩,⟨us,eu,au⟩,el3,s3⟩
  rw[List.length_map,List.take_length] at au
  obtain⟨j,rs,hj,hlj,er⟩:=zhT T hx
  have em:∀e,e∈zbS (zp hs lks hds) C x ts↔∃y r m,y∈ts/\C y=some r/\x∉r/\zp hs lks hds (x::r)=some m/\e=(x::r,m):=λe=>zhY
  refine⟨_,rfl,_,rfl,v,lm,us,_,x,g,hs,ps,lks,hds,j,rs,rfl,hv.same s3,T,hj,hlj,eu,au,?_,zkx cw tsN tsH,λe he=>?_,λl2 us2 ks H7 perm pw' e2 a2 hn s7=>q l2 us2 _ H7 e2 a2 ⟨ks,pw',λk=>?_,rfl⟩ (z7 s3 hn) (s3.trans s7)⟩
  ·have:=zes (M:=zp hs lks hds) (C:=C) (x:=x) (L:=ts);omega
  ·obtain ⟨y,r,m,hy,hc,hxr,hm,rfl⟩:=(em e).mp he
   rw[←er];exact zhi T PO (zhh cw ((tsI y).mp hy) (tsH y hy) hc hxr) hxg hm
  ·rw[perm.mem_iff,List.mem_map,←er]
   constructor
   ·rintro ⟨e,he,rfl⟩
    obtain⟨y,r,m,hy,hc,hxr,hm,rfl⟩:=(em e).mp he
    exact⟨y,r,m,(tsI y).mp hy,tsH y hy,hc,hxr,hm,rfl⟩
   ·rintro ⟨y,r,m,tie,hy,hc,hxr,hm,rfl⟩
    exact⟨_,(em _).mpr ⟨y,r,m,(tsI y).mpr tie,hc,hxr,hm,rfl⟩,rfl⟩
end
section
variable{P:Program}{w:World}{K:PySem.W.Frag}{mg:Str->Option Value}{base:Heap}
theorem zl8{w:List Str}{x:Str}:zbx w x=!decide (x∈w):=by
 unfold zbx
 congr 1
 rw[Bool.eq_iff_iff,decide_eq_true_iff,List.any_eq_true]
 exact⟨λ⟨y,hy,e⟩=>by rw[←of_decide_eq_true e];exact hy,λh=>⟨_,h,decide_eq_true rfl⟩⟩
theorem zdm(Y:Ev K mg):FnOk P w K mg base CX0 19 Y.a__law_offered Y.d__law_offered zan zh9:=by
 have G__law_beside:FnOk P w K mg base CX0 1 Y.a__law_beside Y.d__law_beside zaG zft:=zg1 Y
 have G__law_marks:FnOk P w K mg base CX0 17 Y.a__law_marks Y.d__law_marks zP (zbW 12):=zeE Y
 have G__law_rank:FnOk P w K mg base CX0 18 Y.a__law_rank Y.d__law_rank zbk zjD:=zkI Y
 refine Y._law_offered.fn.okQ c__law_offered (λvs H Q E h=>?_) (λcdv A outer s H vs Q E hr h=>?_)
 ·obtain ⟨v,d,x,vs',C,g,hs,ps,lks,hds,O,rfl,_⟩:=h;rfl
 ·obtain ⟨v,d,x,vs',C,g,hs,ps,lks,hds,O,rfl,hv,T,PO,hd,ch,cw,hx,hxg,q⟩:=h
  have T10:=T.ten
  have hsN:hs.Nodup:=T.hs_nd
  have tin:∀p∈ps,p.1∈hs/\p.2∈hs:=λp hp=>⟨(T.ties p hp).1,(T.ties p hp).2.1⟩
  refine⟨_,(ze (zu 3 c__law_offered.nd (zb0 zd))
   (ze (za2 PassesOwn.never rfl (zcw (zh G__law_beside (hr.mono (by decide)) Y._law_beside.mg Y._law_beside.kp Y._law_beside.b .nil zn (za (qc 0) (za (qv 2) zd)))) (zr 4 c__law_offered.nd) (ze (zu 5 c__law_offered.nd (zb3 (hu1 hr) (qv 1) (qv 4)))
   (zj (zad (t_w (znE (zy zef (qv 5) zaJ) (znE (zy zc0 (qv 2) (qv 5)) (znx (zy zef (zh G__law_marks (hr.mono (by decide)) Y._law_marks.mg Y._law_marks.kp Y._law_marks.b .nil zn (za (qc 0) (za (zL zeu (zR (za (qv 2) zd)) (qv 5)) zd))) zaJ))))) (zj (zdR (zhj PySem.F.plainAttrs_list PySem.F.slot_list_append PySem.F.type_list_append zbc (qv 3) (za (zL zeu (zR (za (qv 2) zd)) (qv 5)) zd)))) zJ))))
   (zj (zt (zak (src:=[none,none]) o__law_offered_1 rfl rfl (zcw (zq (zdL (zp4 hr)) Y.sorted zaY (za (zak (src:=[none,some 0]) o__law_offered_2 rfl rfl (zcw (qv 3)) (λ_ _ _ _ _=>(zr 0 o__law_offered_2.nd)) (λ_ _ _ _ _=>zbO) (λ_ _ _ _ _=>(zR (za (zh G__law_rank (hr.mono (by decide)) Y._law_rank.mg Y._law_rank.kp Y._law_rank.b .nil zn (za (qc 1) (za (qv 0) zd))) (za (qv 0) zd))))) zd))) (λ_ _ _ _ _=>(zfN (K:=K) 2 rfl rfl (zB (zr 0 o__law_offered_1.nd) (zB (zr 1 o__law_offered_1.nd) zbq)))) (λ_ _ _ _ _=>zbO) (λ_ _ _ _ _=>(qv 1))))))),?_⟩
  refine⟨few rfl,λlm hlm=>?_⟩
  have S1:=Same.new (o:= .lst []) hlm
  have em1:=zb (H:=H) (a:=lm) (o:= .lst [])
  generalize (upd H lm (.lst []))=H1 at *
  refine⟨_,rfl,_,rfl,v,x,g,hs,ps,lks,hds,rfl,hv.same S1,T,hx,λlt H2 elt s2=>?_⟩
  obtain⟨ts,ets⟩:∃ts,ts=hs.filter (ziQ ps x):=⟨_,rfl⟩
  rw[←ets] at elt
  have tsN:ts.Nodup:=by rw[ets];exact hsN.sublist List.filter_sublist
  have tsI:∀y,y∈ts↔y∈hs/\mmS y x∈ps:=λy=>by
   rw[ets,List.mem_filter]
   unfold ziQ
   rw[decide_eq_true_iff]
  have tsH:∀y∈ts,y∈hs:=λy hy=>((tsI y).mp hy).1
  have ts10:ts.length<=10:=Nat.le_trans (zM tsN tsH) T10
  clear ets
  have nlm:lt≠lm\/ts=[]:=by
   by_cases z:lt=lm
   ·right
    rw[z,s2 _ _ em1] at elt
    cases ts with
    |nil=>rfl
    |cons a b=>cases elt
   ·exact .inl z
  refine⟨lt,rfl,⟨_,SqL.of elt⟩,?_⟩
  refine zae (zbK (K:=K) (xs:=ts.map V.str)) (λi σ' H'=>(∃o4 o5,σ'=[some v,some (.ref d),some (.str x),some (.ref lm),o4,o5])/\(∃us,H' lm=some (.lst us)/\AtG zb6 H' us ((zbS (zp hs lks hds) C x (ts.take i)).map (·.1)))/\H' lt=some (.lst (ts.map V.str))/\Same H H') ⟨⟨_,_,rfl⟩,⟨[],s2 _ _ em1,rfl,λi v p e _=>by cases e⟩,elt,S1.trans s2⟩ (λi σ' H' z=>SqL.of z.2.2.1) ?_ ?_
  ·rintro i y0 σ' H3 hi hy ⟨⟨o4,o5,rfl⟩,⟨us,eu,au⟩,el3,s3⟩
   rw[List.length_map] at hi
   rw[List.getElem?_map] at hy
   obtain⟨y,ey,rfl⟩:∃y,ts[i]?=some y/\y0= .str y:=by
    cases e:ts[i]? with
    |none=>rw[e] at hy;cases hy
    |some y=>rw[e] at hy;cases hy;exact⟨y,rfl,rfl⟩
   have nlm:lt≠lm:=by
    rcases nlm with z|z
    ·exact z
    ·rw[z] at ey;cases ey
   have hyt:=List.mem_of_getElem? ey
   have hyh:=tsH y hyt
   have tie:=((tsI y).mp hyt).2
   have lus:us.length<=10:=by rw[au.1,List.length_map];refine Nat.le_trans zes ?_;rw[List.length_take];omega
   obtain⟨k,u0,e1,e2,ev,tl⟩:=ch.get hsN hyh
   have dg:=λ{H':Hp} (s:Same H H')=>ChF.dget (s _ _ hd) ev
   have done:∀(H':Hp) (σ':L2.St),(∃o4 o5,σ'=[some v,some (.ref d),some (.str x),some (.ref lm),o4,o5])->zbS (zp hs lks hds) C x [y]=[]->Same H3 H'->(∃o4 o5,σ'=[some v,some (.ref d),some (.str x),some (.ref lm),o4,o5])/\(∃us,H' lm=some (.lst us)/\AtG zb6 H' us ((zbS (zp hs lks hds) C x (ts.take (i+1))).map (·.1)))/\H' lt=some (.lst (ts.map V.str))/\Same H H':=λH' σ' hσ e0 s'=>by
    refine⟨hσ,⟨us,s' _ _ eu,?_⟩,s' _ _ el3,s3.trans s'⟩
    rw[zdy ey,e0,List.append_nil]
    exact AtG.mono au λb a e=>s' _ _ e
   dsimp only[zap]
   refine⟨_,rfl,_,rfl,d,_,rfl,dg s3,?_⟩
   cases hc:C y with
   |none=>
    rw[hc] at tl
    cases(show u0= .non from tl)
    refine⟨_,rfl,rfl,_,rfl,zat rfl ?_⟩
    exact done _ _ ⟨_,_,rfl⟩ (zgF hc) (Same.refl _)
   |some r=>
    rw[hc] at tl
    obtain⟨pr,rfl,hpr⟩:=tl
    obtain⟨sw,hh,mne⟩:=cw y hyh r hc
    obtain⟨z,r',rfl⟩:=sw.ne
    have rm:=SW.mem T.goal tin sw
    have r10:(z::r').length<=10:=Nat.le_trans (zM sw.nd rm) T10
    refine⟨_,rfl,rfl,_,rfl,zaX rfl ?_⟩
    refine⟨_,rfl,_,rfl,pr,_,rfl, .inr (.inl (.inl (s3 _ _ hpr))),rfl,zaH,_,rfl,?_⟩
    have eb:(if true then !inV (V.str x) ((z::r').map V.str)else inV (V.str x) ((z::r').map V.str))=zbx (z::r') x:=by
     show(!inV (V.str x) ((z::r').map V.str))=_
     rw[zbu];rfl
    rw[eb]
    have ni:zbx (z::r') x=!decide (x∈z::r'):=zl8
    by_cases hxr:x∈z::r'
    ·rw[ni,decide_eq_true hxr]
     refine zat rfl ?_
     exact done _ _ ⟨_,_,rfl⟩ (zkW hc hxr) (Same.refl _)
    ·rw[ni,decide_eq_false hxr]
     refine zaX rfl ?_
     have wm:∀t∈x::z::r',t∈hs:=λt ht=>by
      rcases List.mem_cons.mp ht with rfl|ht
      ·exact hx
      ·exact rm t ht
     refine⟨_,rfl,_,rfl,few rfl,λp1 hp1=>?_⟩
     have Sp1:=Same.new (o:= .tup [V.str x]) hp1
     refine⟨_,rfl,p1,pr,_,_,rfl,rfl, .inl (.inl zb), .inl (.inl (Sp1 _ _ (s3 _ _ hpr))),Nat.le_of_lt (zk (by rw[List.length_map];show 1+(z::r').length<=_;omega)),(λz=>nomatch z),(λ_ z=>nomatch z),λ_ _ p2 hp2=>?_⟩
     have Sp2:=Same.new (o:= .tup ([V.str x]++(z::r').map V.str)) hp2
     have s34:=Sp1.trans Sp2
     have hw2:upd (upd H3 p1 (.tup [V.str x])) p2 (.tup ([V.str x]++(z::r').map V.str)) p2=some (.tup ((x::z::r').map V.str)):=zb
     generalize (upd (upd H3 p1 (.tup [V.str x])) p2 (.tup ([V.str x]++(z::r').map V.str)))=H4 at *
     have s4:=s3.trans s34
     refine⟨v,p2,x::z::r',g,hs,ps,lks,hds,O,rfl,hv.same s4,T,PO,wm,hw2,Nat.le_add_left 1 _,by show(z::r').length+1<=12;omega,by decide,λu H6 tu s6=>?_⟩
     have s46:=s34.trans s6
     cases hm:zp hs lks hds (x::z::r')with
     |none=>
      rw[hm] at tu
      cases(show u= .non from tu)
      refine⟨rfl,_,rfl,zat rfl ?_⟩
      exact done _ _ ⟨_,_,rfl⟩ (zkj hc hxr hm) s46
     |some m=>
      rw[hm] at tu
      obtain⟨pm,rfl,hpm⟩:=tu
      have eu6:=s46 _ _ eu
      refine⟨rfl,_,rfl,zaX rfl ⟨_,rfl, .inl ⟨rfl,_,SqL.of eu6⟩,_,rfl,few rfl,λp7 hp7=>?_⟩⟩
      have S7:=Same.new (o:= .tup [V.str x]) hp7
      refine⟨_,rfl,p7,pr,_,_,rfl,rfl, .inl (.inl zb), .inl (.inl (S7 _ _ (s46 _ _ (s3 _ _ hpr)))),Nat.le_of_lt (zk (by rw[List.length_map];show 1+(z::r').length<=_;omega)),(λz=>nomatch z),(λ_ z=>nomatch z),λ_ _ p8 hp8=>?_⟩
      have S8:=Same.new (o:= .tup ([V.str x]++(z::r').map V.str)) hp8
      have s38:=s46.trans (S7.trans S8)
      have hw8:upd (upd H6 p7 (.tup [V.str x])) p8 (.tup ([V.str x]++(z::r').map V.str)) p8=some (.tup ((x::z::r').map V.str)):=zb
      generalize (upd (upd H6 p7 (.tup [V.str x])) p8 (.tup ([V.str x]++(z::r').map V.str)))=H8 at *
      have eu8:=s38 _ _ eu
      refine⟨lm,us, .ref p8,rfl,rfl,eu8,zk (by omega),?_⟩
      have t8:∀c xs,H8 c=some (.tup xs)->upd H8 lm (.lst (us ++ [.ref p8])) c=some (.tup xs):=λc xs e=>by rw[zi (zbd e eu8 (by intro z;cases z))];exact e
      refine⟨⟨_,_,rfl⟩,⟨_,zb,?_⟩,by rw[zi nlm];exact s38 _ _ el3,λc ob e=>by rw[zi (zl e hlm)];exact s38 _ _ (s3 c ob e)⟩
      rw[zdy ey,zig hc hxr hm,List.map_append]
      exact AtG.snoc (AtG.mono au λb a e=>t8 _ _ (s38 _ _ e)) (t8 _ _ hw8)
  rintro σ' H3 ⟨⟨o4,o5,rfl⟩,⟨us,eu,au⟩,el3,s3⟩
  rw[List.length_map,List.take_length] at au
  have em:∀e,e∈zbS (zp hs lks hds) C x ts↔∃y r m,y∈ts/\C y=some r/\x∉r/\zp hs lks hds (x::r)=some m/\e=(x::r,m):=λe=>zhY
  obtain⟨es,ees⟩:∃es,es=zbS (zp hs lks hds) C x ts:=⟨_,rfl⟩
  have es10:es.length<=10:=by rw[ees];exact Nat.le_trans zes ts10
  have esN:(es.map (·.1)).Nodup:=by rw[ees];exact zkx cw tsN tsH
  rw[←ees] at au em
  clear ees
  have lus:us.length=es.length:=by rw[au.1,List.length_map]
  refine⟨_,rfl,lm,rfl,⟨_,SqL.of eu⟩,?_⟩
  refine zX (zbK (K:=K) (xs:=us)) (λl k zs σ' H'=>(∃o,σ'=[o,some v])/\AtG KwO H' zs ((es.map (kE (zK hs lks x))).take k)/\Same H3 H') ?_ (λl k zs σ' H' hl z=>SqL.of (z.2.2 _ _ eu)) ?_ ?_
  ·exact λl hl=>⟨⟨_,rfl⟩,⟨rfl,λi v p e _=>by cases e⟩,Same.new hl⟩
  ·rintro l k v0 zs σ' H4 hl' hk hv0 ⟨⟨o,rfl⟩,az,s4⟩ hl4
   have hk':k<es.length:=by omega
   obtain⟨e0,ee0⟩:∃e0,es[k]?=some e0:=⟨_,List.getElem?_eq_getElem hk'⟩
   obtain⟨b,rfl,ob⟩:=au.2 k v0 e0.1 hv0 (by rw[List.getElem?_map,ee0];rfl)
   obtain⟨y,r,m,hy,hc,hxr,hm,rfl⟩:=(em e0).mp (List.mem_of_getElem? ee0)
   have sw:=zhh cw ((tsI y).mp hy).2 (tsH y hy) hc hxr
   have wm:=SW.mem T.goal tin sw
   have w10:(x::r).length<=10:=Nat.le_trans (zM sw.nd wm) T10
   have rne:r≠ []:=λz=>by
    rw[z] at sw
    exact hxg sw.one
   have hb4:=s4 _ _ ob
   refine⟨_,rfl,_,rfl,v,b,x,r,m,g,hs,ps,lks,hds,O,rfl,hv.same (s3.trans s4),T,PO,hb4,wm,by have:r.length+1<=10:=w10;omega,hm,λ_=>(zhi T PO sw hxg hm).wt,λu7 H7 hkk s7=>⟨_,rfl,few rfl,λp8 hp8=>?_⟩⟩
   obtain⟨a7,q7,rfl,hk1,hk2,hk3⟩:=hkk
   have S8:=Same.new (o:= .tup [V.ref a7, .ref b]) hp8
   have e8:=zb (H:=H7) (a:=p8) (o:= .tup [V.ref a7, .ref b])
   have s48:=s7.trans S8
   have hl8:=s48 _ _ hl4
   have ek:zdF hs lks x r m=kE (zK hs lks x) (x::r,m):=by
    cases r with
    |nil=>exact absurd rfl rne
    |cons a b=>rfl
   have kw:KwO (upd H7 p8 (.tup [V.ref a7, .ref b])) p8 (kE (zK hs lks x) (x::r,m)):=by
    rw[←ek]
    exact⟨a7,b,e8,⟨q7,S8 _ _ hk1,S8 _ _ hk2,hk3⟩,by rw[zjZ];exact s48 _ _ hb4⟩
   clear e8
   generalize (upd H7 p8 (.tup [V.ref a7, .ref b]))=H8 at *
   refine⟨hl8,zk (by rw[az.1,List.length_take,List.length_map];omega),⟨_,rfl⟩,?_,λb o e=>by rw[zi (zl e hl')];exact(s4.trans s48) b o e⟩
   have tk2:(es.map (kE (zK hs lks x))).take (k+1)=(es.map (kE (zK hs lks x))).take k ++ [kE (zK hs lks x) (x::r,m)]:=by rw[List.take_add_one,List.getElem?_map,ee0];rfl
   rw[tk2]
   have t9:∀c xs,H8 c=some (.tup xs)->upd H8 l (.lst (zs ++ [.ref p8])) c=some (.tup xs):=λc xs e=>by rw[zi (zbd e hl8 (by intro z;cases z))];exact e
   exact AtG.snoc (AtG.mono az λb a hk=>KwO.up (λc xs e=>t9 _ _ (s48 _ _ e)) hk) (KwO.up t9 kw)
  rintro lr zs σ' H4 hlr ⟨⟨o,rfl⟩,az,s4⟩ hl4
  rw[List.take_of_length_le (by rw[List.length_map];omega)] at az
  refine⟨lr,zs,_,rfl, .inl (SqL.of hl4),az,by rw[List.length_map];omega,λks vs2 lS pm pw' aS hS=>?_⟩
  have SS:=Same.new (o:= .lst vs2) hS
  have eS:=zb (H:=H4) (a:=lS) (o:= .lst vs2)
  have aS':AtG KwO (upd H4 lS (.lst vs2)) vs2 ks:=AtG.mono aS λb k hk=>KwO.up (λc us e=>SS _ _ e) hk
  have ks10:ks.length<=10:=by rw[pm.length_eq,List.length_map];exact es10
  have ndk:(es.map (kE (zK hs lks x))).Nodup:=by
   refine List.pairwise_map.mpr ((List.pairwise_map.mp esN).imp λ{a b} hab z=>hab ?_)
   have:(kE (zK hs lks x) a).2.2=(kE (zK hs lks x) b).2.2:=by rw[z]
   exact this
  have off:Off hs ps lks hds C x (ks.map (·.2.2)):=⟨ks,pw' ndk,λk=>by
   rw[pm.mem_iff,List.mem_map]
   constructor
   ·rintro ⟨e,he,rfl⟩
    obtain⟨y,r,m,hy,hc,hxr,hm,rfl⟩:=(em e).mp he
    exact⟨y,r,m,((tsI y).mp hy).2,tsH y hy,hc,hxr,hm,rfl⟩
   ·rintro ⟨y,r,m,tie,hy,hc,hxr,hm,rfl⟩
    exact⟨_,(em _).mpr ⟨y,r,m,(tsI y).mpr ⟨hy,tie⟩,hc,hxr,hm,rfl⟩,rfl⟩,rfl⟩
  clear aS
  generalize (upd H4 lS (.lst vs2))=H5 at *
  refine⟨lS,rfl,⟨_,SqL.of eS⟩,?_⟩
  have s35:=s4.trans SS
  refine zX (zbK (K:=K) (xs:=vs2)) (λl2 k zs σ' H'=>(∃o o',σ'=[o,o'])/\AtG zb6 H' zs ((ks.map (·.2.2)).take k)/\Same H5 H') ?_ (λl2 k zs σ' H' hl z=>SqL.of (z.2.2 _ _ eS)) ?_ ?_
  ·exact λl2 hl2=>⟨⟨_,_,rfl⟩,⟨rfl,λi v p e _=>by cases e⟩,Same.new hl2⟩
  ·rintro l2 k v0 zs σ' H8 hl2' hk hv0 ⟨⟨o',o'',rfl⟩,az,s8⟩ hl8
   have hk':k<ks.length:=by rw[←aS'.1];exact hk
   obtain⟨b,rfl,ob⟩:=aS'.2 k v0 ks[k] hv0 (List.getElem?_eq_getElem hk')
   obtain⟨t0,pb,e1,_,e4⟩:=KwO.up (λc us e=>s8 _ _ e) ob
   refine⟨b,_,rfl, .inl (.inl e1),rfl,_,_,rfl,_,_,rfl,rfl,_,rfl,hl8,zk (by rw[az.1,List.length_take,List.length_map];omega),⟨_,_,rfl⟩,?_,λb o e=>by rw[zi (zl e hl2')];exact s8 b o e⟩
   have tk2:(ks.map (·.2.2)).take (k+1)=(ks.map (·.2.2)).take k ++ [ks[k].2.2]:=by rw[List.take_add_one,List.getElem?_map,List.getElem?_eq_getElem hk'];rfl
   rw[tk2]
   have t9:∀c xs,H8 c=some (.tup xs)->upd H8 l2 (.lst (zs ++ [.ref pb])) c=some (.tup xs):=λc xs e=>by rw[zi (zbd e hl8 (by intro z;cases z))];exact e
   exact AtG.snoc (AtG.mono az λb a e=>t9 _ _ e) (t9 _ _ e4)
  rintro l2 zs σ' H8 hl2N ⟨⟨o',o'',rfl⟩,az,s8⟩ hl8
  rw[List.take_of_length_le (by rw[List.length_map,aS'.1];exact Nat.le_refl _)] at az
  exact q l2 zs _ H8 hl8 az off (z7 (s3.trans s35) hl2N) ((s3.trans s35).trans s8)
end
section
variable{P:Program}{w:World}{K:PySem.W.Frag}{mg:Str->Option Value}{base:Heap}
theorem zoc{g:Str}{hs:List Str}{ps:List (Str×Str)}{lks hds:List D}{x:Str}{ws:List (List Str)}(h:Due g hs ps lks hds x ws):∀w∈ws,SW g ps w/\w.head?=some x/\zp hs lks hds w≠none:=by
 rcases h with⟨rfl,rfl⟩|⟨hx,ks,pw,mem,rfl⟩
 ·intro w hw
  rw[List.mem_singleton.mp hw]
  exact⟨SW.goal,rfl,by rw[zp];exact λz=>nomatch z⟩
 ·intro w hw
  obtain⟨k,hk,rfl⟩:=List.mem_map.mp hw
  obtain⟨r,m,rfl,s1,e⟩:=(mem k).mp hk
  exact⟨s1,rfl,by rw[show(kE (zK hs lks x) (x::r,m)).2.2=x::r from rfl,e];exact λz=>nomatch z⟩
theorem ChF.snoc{H:Hp}{hs:List Str}{vs:List V}{C:Str->Option (List Str)}{y:Str}{v:V}{o:Option (List Str)}(h:ChF H hs vs C)(hy:y∉hs)(t:Told H v o):ChF H (hs ++ [y]) (vs ++ [v]) (λz=>if z=y then o else C z):=by
 refine⟨by rw[List.length_append,List.length_append,h.len];rfl,λj x u e1 e2=>?_⟩
 rcases Nat.lt_or_ge j hs.length with z|z
 ·rw[List.getElem?_append_left z] at e1
  rw[List.getElem?_append_left (by rw[h.len];exact z)] at e2
  have:x≠y:=λw=>hy (w▸List.mem_of_getElem? e1)
  simp only[if_neg this]
  exact h.at_ j x u e1 e2
 ·rw[List.getElem?_append_right z] at e1
  rw[List.getElem?_append_right (by rw[h.len];exact z),h.len] at e2
  cases hk:j -hs.length with
  |zero=>rw[hk] at e1 e2;cases e1;cases e2;simp only[if_true];exact t
  |succ n=>rw[hk] at e1;cases e1
theorem zdK{H:Hp}{a:Addr}{n:Int}{us:List V}{ws:List (List Str)}(h:Hand H a n)(al:AtG zb6 H us ws):∀l,H l=some (.lst us)->l≠a:=λl e z=>by
 obtain⟨x,m,t,hH,_⟩:=h
 rw[z,hH] at e
 cases e
 have l3:ws.length=3:=al.1.symm
 obtain⟨b,z,_⟩:=al.2 0 (.int x) ws[0] rfl (List.getElem?_eq_getElem (by omega))
 cases z
def zid:Sp:=λvs H Q _=>∃(a:Addr) (n:Int) (v:V) (kd:Addr) (ls:List Addr) (W:Str->List (List Str)) (H0:Hp) (g:Str) (hs:List Str) (ps:List (Str×Str)) (lks hds:List D),vs=[.ref a,v, .ref kd]/\Hand H a n/\n<2^36/\Rep H v (zaE g hs ps lks hds)/\TownOk g hs ps lks hds/\H kd=some (.dK (zw hs (ls.map V.ref)))/\GL zb6 H0 H hs ls W/\(∀x∈hs,WsOk (W x))/\(∀x∈hs,∀w∈W x,SW g ps w/\w.head?=some x/\zp hs lks hds w≠none)/\∀(d:Addr) (vs':List V) (C:Str->Option (List Str)) (H':Hp),H' d=some (.dK (zw hs vs'))->ChF H' hs vs' C->CW g hs ps lks hds C->H d=none->Hand H' a (n+20)->Keep a H H'->Q (.ref d) H'
theorem zlI(Y:Ev K mg):FnOk P w K mg base CX0 3 Y.a__law_choice Y.d__law_choice za5 zid:=by
 have G__law_take:FnOk P w K mg base CX0 1 Y.a__law_take Y.d__law_take zQ zcU:=zct Y
 have G__law_pick:FnOk P w K mg base CX0 2 Y.a__law_pick Y.d__law_pick zH (zbt K):=zbL Y
 refine Y._law_choice.fn.okQ c__law_choice (λvs H Q E h=>?_) (λcdv A outer s H vs Q E hr h=>?_)
 ·obtain ⟨a,n,v,kd,ls,W,H0,g,hs,ps,lks,hds,rfl,_⟩:=h;rfl
 ·obtain ⟨a,n,v,kd,ls,W,H0,g,hs,ps,lks,hds,rfl,hH,hn,hv,T,hkd,gl,okW,lw,q⟩:=h
  obtain⟨p,pr,pt,pl,pa,vt,vl,va,rfl,hp,hpr,hpt,rt,hpl,rl,hpa,ra⟩:=zaz hv
  have T10:=T.ten
  have hsN:hs.Nodup:=T.hs_nd
  have nea:∀{H':Hp} {m:Int},Hand H' a m->∀c xs,H' c=some (.tup xs)->c≠a:=λh c xs e z=>by
   obtain⟨x,m,t,hH,_⟩:=h
   rw[z,hH] at e;cases e
  have npr:pr≠a:=nea hH _ _ hpr
  have nkd:kd≠a:=λz=>by obtain⟨x,m,t,h,_⟩:=hH;rw[z,h] at hkd;cases hkd
  refine⟨_,(ze (zu 3 c__law_choice.nd zpb)
   (ze (za2 PassesOwn.never rfl (za1 (zN ix_tup (qv 1) zf)) (zr 4 c__law_choice.nd) (ze (zdU (hu1 hr) (qv 3) (qv 4) zaJ)
   (zj (zad (t_w (znE (zy (zju (zjk hr)) (zb3 (hu1 hr) (qv 2) (qv 4)) (zb0 zd)) (znx (zy zh2 (zh G__law_take (hr.mono (by decide)) Y._law_take.mg Y._law_take.kp Y._law_take.b .nil zn (za (qv 0) (za zf zd))) zf)))) (zj (zdU (hu1 hr) (qv 3) (qv 4) (zh G__law_pick (hr.mono (by decide)) Y._law_pick.mg Y._law_pick.kp Y._law_pick.b .nil zn (za (qv 0) (za (zb3 (hu1 hr) (qv 2) (qv 4)) zd))))) zJ))))
   (zj (zt (qv 3))))),?_⟩
  refine λcd hcd _=>?_
  have S1:=Same.new (o:= .dK []) hcd
  have ec1:=zb (H:=H) (a:=cd) (o:= .dK [])
  have nca:cd≠a:=λz=>by obtain⟨x,m,t,h,_⟩:=hH;rw[z,h] at hcd;cases hcd
  have hH1:Hand (upd H cd (.dK [])) a n:=hH.new hcd
  generalize (upd H cd (.dK []))=H1 at *
  refine⟨_,rfl,p,_,1,_,rfl,rfl, .inl (.inl (S1 _ _ hp)),at1,pr,rfl,⟨_, .inl (.inl (S1 _ _ hpr))⟩,?_⟩
  refine zae (zaf (K:=K) (xs:=hs.map V.str)) (λi σ' H'=>(∃o4,σ'=[some (.ref a),some (.ref p),some (.ref kd),some (.ref cd),o4])/\(∃(vs':List V) (C:Str->Option (List Str)),H' cd=some (.dK (zw (hs.take i) vs'))/\ChF H' (hs.take i) vs' C/\∀y∈hs.take i,∀w,C y=some w->w∈W y)/\Hand H' a (n+2*i)/\Keep a H H') ⟨⟨_,rfl⟩,⟨[],λ_=>none,ec1,⟨rfl,λi x v e _=>by cases e⟩,λy hy=>by cases hy⟩,by simpa using hH1,Keep.of S1⟩ (λi σ' H' z=> .inl (.inl (z.2.2.2 _ _ npr hpr))) ?_ ?_
  ·rintro i y0 σ' H3 hi hy ⟨⟨o4,rfl⟩,⟨vs',C,hc3,ch,cw⟩,hH3,k3⟩
   rw[List.length_map] at hi
   rw[List.getElem?_map] at hy
   obtain⟨y,ey,rfl⟩:∃y,hs[i]?=some y/\y0= .str y:=by
    cases e:hs[i]? with
    |none=>rw[e] at hy;cases hy
    |some y=>rw[e] at hy;cases hy;exact⟨y,rfl,rfl⟩
   have hyh:=List.mem_of_getElem? ey
   have tk:hs.take (i+1)=hs.take i ++ [y]:=by rw[List.take_add_one,ey];rfl
   have ynew:y∉hs.take i:=λz=>by
    have:(hs.take i ++ [y]).Nodup:=by rw[←tk];exact hsN.sublist (List.take_sublist _ _)
    exact(List.nodup_append.mp this).2.2 y z y (List.mem_singleton.mpr rfl) rfl
   have lz:(hs.take i).length=vs'.length:=ch.len.symm
   have lv:vs'.length<=10:=by rw[ch.len,List.length_take];omega
   have lzz:(zw (hs.take i) vs').length<=10:=by rw[zdi lz.symm,List.length_take];omega
   dsimp only[zap]
   refine⟨_,rfl,_,rfl,cd,_,rfl,DPut.k (k:=Sum.inr y) hc3 (zk (by omega)),?_⟩
   rw[zmE lz ynew,←tk]
   have hc4:upd H3 cd (.dK (zw (hs.take (i+1)) (vs' ++ [.non]))) cd=some (.dK (zw (hs.take (i+1)) (vs' ++ [.non]))):=zb
   have k4:Keep a H (upd H3 cd (.dK (zw (hs.take (i+1)) (vs' ++ [.non])))):=Keep.updNew k3 hcd
   have ch4:ChF (upd H3 cd (.dK (zw (hs.take (i+1)) (vs' ++ [.non])))) (hs.take (i+1)) (vs' ++ [.non]) (λz=>if z=y then none else C z):=by
    rw[tk]
    exact(ch.mono λc xs e=>by rw[zi (zbd e hc3 (by intro z;cases z))];exact e).snoc ynew rfl
   have hH4:Hand (upd H3 cd (.dK (zw (hs.take (i+1)) (vs' ++ [.non])))) a (n+2*i):=by
    obtain⟨x,m,t,h,r⟩:=hH3
    exact⟨x,m,t,by rw[zi nca.symm];exact h,r⟩
   have cw4:∀z∈hs.take (i+1),∀w,(if z=y then none else C z)=some w->w∈W z:=λz hz w e=>by
    by_cases h:z=y
    ·rw[if_pos h] at e;cases e
    ·rw[if_neg h] at e
     rw[tk] at hz
     rcases List.mem_append.mp hz with hz|hz
     ·exact cw z hz w e
     ·exact absurd (List.mem_singleton.mp hz) h
   generalize (upd H3 cd (.dK (zw (hs.take (i+1)) (vs' ++ [.non]))))=H4 at *
   obtain⟨j,l,us,el,ex,ev,eu,au,_⟩:=gl.get hsN hyh
   have nl:l≠a:=zdK hH au l eu
   have wk:=okW y hyh
   have dg:∀{H':Hp},Keep a H H'->DGet H' kd (.str y) (some (.ref l)):=λk=>ChF.dget (k _ _ nkd hkd) ev
   refine⟨_,rfl,_,rfl,kd,_,rfl,dg k4,few rfl,λpe hpe=>?_⟩
   have k5:Keep a H (upd H4 pe (.lst [])):=k4.trans (Keep.new hpe)
   have eu5:=k5 _ _ nl eu
   have tt:∀{H':Hp},Keep a H H'->∀c xs,H c=some (.tup xs)->H' c=some (.tup xs):=λk c xs e=>k c _ (nea hH c xs e) e
   have au5:AtG zb6 (upd H4 pe (.lst [])) us (W y):=AtG.mono au λb a' e=>tt k5 _ _ e
   have tr:=zoP eu5 au5 wk
   have tr0:Tr (upd H4 pe (.lst [])) (.ref pe) (.list []):= .lst zb rfl λi v d e=>by cases e
   refine⟨zeZ (W y), .list [],tr,tr0,Nat.le_trans (Nat.min_le_left _ _) (zl1 wk).2.1,?_⟩
   have hH5:Hand (upd H4 pe (.lst [])) a (n+2*i):=hH4.new hpe
   have hc5:=Same.new (o:= .lst []) hpe _ _ hc4
   have ch5:=ch4.mono (H':=upd H4 pe (.lst [])) λc xs e=>Same.new hpe _ _ e
   generalize (upd H4 pe (.lst []))=H5 at *
   have eqv:(zeZ (W y)).eqv (.list [])=decide (W y=[]):=by
    unfold zeZ
    rw[PyData.eqv]
    cases W y with
    |nil=>rw[List.map_nil,PyData.eqvAll];rfl
    |cons d ds=>rw[List.map_cons,PyData.eqvAll];rfl
   rw[eqv]
   have fin:∀(H':Hp) (m:Int),H' cd=some (.dK (zw (hs.take (i+1)) (vs' ++ [.non])))->ChF H' (hs.take (i+1)) (vs' ++ [.non]) (λz=>if z=y then none else C z)->Hand H' a m->m<=n+2*i+2->Keep a H H'->(∃o4,[some (V.ref a),some (.ref p),some (.ref kd),some (.ref cd),some (.str y)]=[some (.ref a),some (.ref p),some (.ref kd),some (.ref cd),o4])/\(∃(vs':List V) (C:Str->Option (List Str)),H' cd=some (.dK (zw (hs.take (i+1)) vs'))/\ChF H' (hs.take (i+1)) vs' C/\∀y∈hs.take (i+1),∀w,C y=some w->w∈W y)/\Hand H' a (n+2*((i+1:Nat):Int))/\Keep a H H':=λH' m h1 h2 h3 h4 h5=>⟨⟨_,rfl⟩,⟨_,_,h1,h2,cw4⟩,h3.mono (by omega),h5⟩
   by_cases hw:W y=[]
   ·rw[decide_eq_true hw]
    exact⟨_,rfl,zat rfl (fin H5 _ hc5 ch5 hH5 (by omega) k5)⟩
   ·rw[decide_eq_false hw]
    refine⟨_,rfl,zaX rfl ?_⟩
    refine⟨_,rfl,a,5,n+2*i,rfl,hH5,by omega,by decide,by decide,λd0 H6 h0 h1 hH6 k6=>?_⟩
    have k06:=k5.trans k6
    have hc6:=k6 _ _ nca hc5
    have ch6:=ch5.mono (H':=H6) λc xs e=>k6 c _ (nea hH5 c xs e) e
    refine⟨_,_,rfl,rfl,_,rfl,za7 (λ_=>?_) (λ_=>fin H6 _ hc6 ch6 hH6 (by omega) k06)⟩
    have lus:us.length<=16:=by rw[au.1];exact wk.few
    have lp:0<us.length:=by
     rw[au.1]
     cases h:W y with
     |nil=>exact absurd h hw
     |cons _ _=>exact Nat.succ_pos _
    refine⟨_,rfl,_,rfl,_,rfl,kd,_,rfl,dg k06,a,n+2*i+1,hH6,by omega, .inl ⟨l,us,rfl,nl,SqL.of (k06 _ _ nl eu),lp,by omega,λu H7 hu hH7 k7=>?_⟩⟩
    have k07:=k06.trans k7
    have hc7:=k7 _ _ nca hc6
    have ch7:=ch6.mono (H':=H7) λc xs e=>k7 c _ (nea hH6 c xs e) e
    obtain⟨k,hk⟩:=List.getElem?_of_mem hu
    have hk':k<(W y).length:=by rw[←au.1];exact(List.getElem?_eq_some_iff.mp hk).1
    obtain⟨b,rfl,ob⟩:=au.2 k u (W y)[k] hk (List.getElem?_eq_getElem hk')
    have ob7:H7 b=some (.tup ((W y)[k].map V.str)):=tt k07 _ _ ob
    have eyt:(hs.take (i+1))[i]?=some y:=by rw[List.getElem?_take_of_lt (by omega)];exact ey
    have ndt:(hs.take (i+1)).Nodup:=hsN.sublist (List.take_sublist _ _)
    refine⟨_,rfl,_,rfl,cd,_,rfl,DPut.k (k:=Sum.inr y) hc7 (zk (by rw[zdi ch7.len,List.length_take];omega)),?_⟩
    rw[zek ndt ch7.len.symm eyt]
    have t7:∀kv c xs,H7 c=some (.tup xs)->upd H7 cd (.dK kv) c=some (.tup xs):=λkv c xs e=>by rw[zi (zbd e hc7 (by intro z;cases z))];exact e
    have chN:=(ch7.mono (H':=upd H7 cd (.dK (zw (hs.take (i+1)) ((vs' ++ [V.non]).set i (V.ref b))))) (t7 _)).set (o:=some (W y)[k]) (v:= .ref b) ndt eyt ⟨b,rfl,t7 _ _ _ ob7⟩
    refine⟨⟨_,rfl⟩,⟨_,_,zb,chN,λz hz w e=>?_⟩,?_,Keep.updNew k07 hcd⟩
    ·by_cases h:z=y
     ·rw[if_pos h] at e
      cases e
      rw[h];exact List.getElem_mem hk'
     ·rw[if_neg h] at e
      exact cw4 z hz w e
    ·obtain ⟨x,m,t,h,r1,r2,r3,r4⟩:=hH7
     exact⟨x,m,t,by rw[zi nca.symm];exact h,r1,r2,r3,by omega⟩
  rintro σ' H3 ⟨⟨o4,rfl⟩,⟨vs',C,hc3,ch,cw⟩,hH3,k3⟩
  rw[List.length_map,List.take_length] at hc3 ch cw
  refine⟨_,rfl,q cd vs' C H3 hc3 ch (λy hy w e=>lw y hy w (cw y hy w e)) hcd (hH3.mono ?_) k3⟩
  rw[List.length_map];omega
end
section
variable{P:Program}{w:World}{K:PySem.W.Frag}{mg:Str->Option Value}{base:Heap}
def zg3:Sp:=λvs H Q _=>∃(a:Addr) (n:Int) (v:V) (d:Addr) (vs':List V) (C:Str->Option (List Str)) (g:Str) (hs:List Str) (ps:List (Str×Str)) (lks hds:List D) (O:List Str),vs=[.ref a,v, .ref d]/\Hand H a n/\n<2^36/\Rep H v (zaE g hs ps lks hds)/\TownOk g hs ps lks hds/\Pool hs lks hds O/\H d=some (.dK (zw hs vs'))/\ChF H hs vs' C/\CW g hs ps lks hds C/\∀(d:Addr) (vs':List V) (C:Str->Option (List Str)) (H':Hp),H' d=some (.dK (zw hs vs'))->ChF H' hs vs' C->CW g hs ps lks hds C->H d=none->Hand H' a (n+20)->Keep a H H'->Q (.ref d) H'
theorem zi2(Y:Ev K mg):FnOk P w K mg base CX0 20 Y.a__law_settled Y.d__law_settled zaP zg3:=by
 have G__law_pick:FnOk P w K mg base CX0 2 Y.a__law_pick Y.d__law_pick zH (zbt K):=zbL Y
 have G__law_offered:FnOk P w K mg base CX0 19 Y.a__law_offered Y.d__law_offered zan zh9:=zdm Y
 refine Y._law_settled.fn.okQ c__law_settled (λvs H Q E h=>?_) (λcdv A outer s H vs Q E hr h=>?_)
 ·obtain ⟨a,n,v,d,vs',C,g,hs,ps,lks,hds,O,rfl,_⟩:=h;rfl
 ·obtain ⟨a,n,v,d,vs',C,g,hs,ps,lks,hds,O,rfl,hH,hn,hv,T,PO,hd,ch,cw,q⟩:=h
  have hv':=hv
  obtain⟨p,pr,pt,pl,pa,vt,vl,va,rfl,hp,hpr,hpt,rt,hpl,rl,hpa,ra⟩:=zaz hv'
  have T10:=T.ten
  have hsN:hs.Nodup:=T.hs_nd
  have nea:∀{H':Hp} {m:Int},Hand H' a m->∀c xs,H' c=some (.tup xs)->c≠a:=λh c xs e z=>by
   obtain⟨x,m,t,hH,_⟩:=h
   rw[z,hH] at e;cases e
  refine⟨_,(ze (zu 2 c__law_settled.nd (zU zfE Y.dict L2.boot_dict (za (qv 2) zd)))
   (ze (zdU (hu1 hr) (qv 2) (zN ix_tup (qv 1) zf) (zR (za (zN ix_tup (qv 1) zf) zd)))
   (ze (za2 PassesOwn.never rfl (zci Y.range (za (zh G__law_pick (hr.mono (by decide)) Y._law_pick.mg Y._law_pick.kp Y._law_pick.b .nil zn (za (qv 0) (za (zeR [V.int 0,V.int 1,V.int 3,V.int 9] (by decide +kernel)) zd))) zd)) (zr 3 c__law_settled.nd) (zj (za2 PassesOwn.never rfl (za1 (zN ix_tup (qv 1) zf)) (zr 4 c__law_settled.nd) (zj (zad (zy zgT (qv 4) (zN ix_tup (qv 1) zf)) (zj (zdU (hu1 hr) (qv 2) (qv 4) (zN ix_list (zL zfF (zh G__law_offered (hr.mono (by decide)) Y._law_offered.mg Y._law_offered.kp Y._law_offered.b .nil zn (za (qv 1) (za (qv 2) (za (qv 4) zd)))) (zb0 (za zaJ zd))) zf))) zJ)))))
   (zj (zt (qv 2)))))),?_⟩
  refine⟨_,rfl,d,_,rfl,hd,λd2 hd2=>?_⟩
  have S1:=Same.new (o:= .dK (zw hs vs')) hd2
  have e1:=zb (H:=H) (a:=d2) (o:= .dK (zw hs vs'))
  have hH1:Hand (upd H d2 (.dK (zw hs vs'))) a n:=hH.new hd2
  have n2a:d2≠a:=hH.ne hd2
  generalize (upd H d2 (.dK (zw hs vs')))=H1 at *
  refine⟨_,rfl,p,_,0,_,rfl,rfl, .inl (.inl (S1 _ _ hp)),at0,few rfl,λp1 hp1=>?_⟩
  have S2:=Same.new (o:= .tup [V.str g]) hp1
  have eg2:=zb (H:=H1) (a:=p1) (o:= .tup [V.str g])
  have hH2:Hand (upd H1 p1 (.tup [V.str g])) a n:=hH1.new hp1
  have e2:=S2 _ _ e1
  have S02:=S1.trans S2
  generalize (upd H1 p1 (.tup [V.str g]))=H2 at *
  obtain⟨ig,vg,eg,evg,_,_⟩:=ch.get hsN T.goal
  refine⟨_,rfl,_,rfl,p,_,0,_,rfl,rfl, .inl (.inl (S02 _ _ hp)),at0,d2,_,rfl,DPut.k (k:=Sum.inr g) e2 (zk (by rw[zdi ch.len];omega)),?_⟩
  rw[zek hsN ch.len.symm eg]
  have t3:∀kv c xs,H2 c=some (.tup xs)->upd H2 d2 (.dK kv) c=some (.tup xs):=λkv c xs e=>by rw[zi (zbd e e2 (by intro z;cases z))];exact e
  have ch3:=(ch.mono (H':=upd H2 d2 (.dK (zw hs (vs'.set ig (V.ref p1))))) (λc xs e=>t3 _ _ _ (S02 _ _ e))).set (o:=some [g]) (v:= .ref p1) hsN eg ⟨p1,rfl,t3 _ _ _ eg2⟩
  have cw3:CW g hs ps lks hds (λz=>if z=g then some [g] else C z):=λy hy w e=>by
   by_cases h:y=g
   ·simp only[if_pos h] at e
    cases e
    rw[h]
    exact⟨SW.goal,rfl,by rw[zp];exact λz=>nomatch z⟩
   ·simp only[if_neg h] at e
    exact cw y hy w e
  have hH3:Hand (upd H2 d2 (.dK (zw hs (vs'.set ig (V.ref p1))))) a n:=hH2.updNe n2a
  have s03:Same H (upd H2 d2 (.dK (zw hs (vs'.set ig (V.ref p1))))):=λc o e=>by rw[zi (zl e hd2)];exact S02 c o e
  have e3:=zb (H:=H2) (a:=d2) (o:= .dK (zw hs (vs'.set ig (V.ref p1))))
  generalize (upd H2 d2 (.dK (zw hs (vs'.set ig (V.ref p1)))))=H3 at *
  refine⟨_,rfl,by decide,λpk hpk=>⟨a,n,hH3.new hpk,by omega, .inl ⟨pk,_,rfl,hH3.ne hpk,SqL.of zb,by decide,by decide,λu H4 hu hH4 k4=>?_⟩⟩⟩
  obtain⟨c,rfl,c0,c9⟩:∃c:Int,u= .int c/\0<=c/\c<=9:=by
   simp only[List.mem_cons,List.not_mem_nil,or_false] at hu
   rcases hu with rfl|rfl|rfl|rfl<;>exact ⟨_,rfl,by decide,by decide⟩
  have k04:Keep a H H4:=(Keep.of s03).trans ((Keep.new hpk).trans k4)
  have e4:H4 d2=some (.dK (zw hs (vs'.set ig (V.ref p1)))):=k4 _ _ n2a (Same.new hpk _ _ e3)
  have ch4:=ch3.mono (H':=H4) λc xs e=>k4 c _ (nea hH3 c xs e) (Same.new hpk _ _ e)
  refine⟨c,rfl,by omega,by omega,?_⟩
  have np:=nea hH _ _ hp
  have npr:=nea hH _ _ hpr
  have m04:Mono H H4:=Mono.keep k04 hH hH4
  have hv4:=hv.mono m04
  have hp4:=k04 _ _ np hp
  have hpr4:=k04 _ _ npr hpr
  clear e3 ch3 hH3 s03 t3 e2 eg2
  have P0:∃(vs':List V) (C:Str->Option (List Str)),H4 d2=some (.dK (zw hs vs'))/\ChF H4 hs vs' C/\CW g hs ps lks hds C:=⟨_,_,e4,ch4,cw3⟩
  refine zae zb2 (λi σ' H'=>(∃o3 o4,σ'=[some (.ref a),some (.ref p),some (.ref d2),o3,o4])/\(∃(vs':List V) (C:Str->Option (List Str)),H' d2=some (.dK (zw hs vs'))/\ChF H' hs vs' C/\CW g hs ps lks hds C)/\∀b o,b≠d2->H4 b=some o->H' b=some o) ⟨⟨_,_,rfl⟩,P0,λ_ _ _ e=>e⟩ (λ_ _ _ _=>trivial) ?_ ?_
  ·rintro i u σ' H5 hi rfl ⟨⟨o3,o4,rfl⟩,P5,s5⟩
   have nd:∀c xs,H4 c=some (.tup xs)->c≠d2:=λc xs e=>zbd e e4 (by intro z;cases z)
   refine⟨_,rfl,p,_,1,_,rfl,rfl, .inl (.inl (s5 _ _ (nd _ _ hp4) hp4)),at1,pr,rfl,⟨_, .inl (.inl (s5 _ _ (nd _ _ hpr4) hpr4))⟩,?_⟩
   refine zae (zaf (K:=K) (xs:=hs.map V.str)) (λi σ' H'=>(∃o3 o4,σ'=[some (.ref a),some (.ref p),some (.ref d2),o3,o4])/\(∃(vs':List V) (C:Str->Option (List Str)),H' d2=some (.dK (zw hs vs'))/\ChF H' hs vs' C/\CW g hs ps lks hds C)/\∀b o,b≠d2->H4 b=some o->H' b=some o) ⟨⟨_,_,rfl⟩,P5,s5⟩ (λi σ' H' z=> .inl (.inl (z.2.2 _ _ (nd _ _ hpr4) hpr4))) ?_ ?_
   ·rintro j y0 σ' H6 hj hy ⟨⟨o3,o4,rfl⟩,⟨vs6,C6,e6,ch6,cw6⟩,s6⟩
    rw[List.length_map] at hj
    rw[List.getElem?_map] at hy
    obtain⟨y,ey,rfl⟩:∃y,hs[j]?=some y/\y0= .str y:=by
     cases e:hs[j]? with
     |none=>rw[e] at hy;cases hy
     |some y=>rw[e] at hy;cases hy;exact⟨y,rfl,rfl⟩
    have hyh:=List.mem_of_getElem? ey
    dsimp only[zap]
    refine⟨_,rfl,_,rfl,p,_,0,_,rfl,rfl, .inl (.inl (s6 _ _ (nd _ _ hp4) hp4)),at0,rfl,_,rfl,za7 (λhc=>?_) (λhc=>?_)⟩
    ·have hyg:y≠g:=λz=>by subst z;simp at hc
     have m46:Mono H4 H6:=⟨λc xs e=>s6 c _ (nd c xs e) e,λc xs e=>⟨xs,s6 c _ (zbd e e4 (by intro z;cases z)) e⟩,λc xs e=>by
      by_cases h:c=d2
      ·subst h;exact⟨_,e6⟩
      ·exact ⟨xs,s6 c _ h e⟩⟩
     refine⟨_,rfl,_,rfl,_,rfl, .ref p,d2,y,vs6,C6,g,hs,ps,lks,hds,O,rfl,hv4.mono m46,T,PO,e6,ch6,cw6,hyh,hyg,λl us ws H7 el al off lN s7=>⟨few rfl,λle hle=>?_⟩⟩
     have S8:=Same.new (o:= .lst [V.non]) hle
     have el8:=S8 _ _ el
     have ele:=zb (H:=H7) (a:=le) (o:= .lst [V.non])
     have s68:=s7.trans S8
     have al8:AtG zb6 (upd H7 le (.lst [V.non])) us ws:=AtG.mono al λb a e=>S8 _ _ e
     generalize (upd H7 le (.lst [V.non]))=H8 at *
     have lws:us.length<=1000:=by
      obtain⟨ks,pw,mem,rfl⟩:=off
      rw[al.1,List.length_map]
      refine Nat.le_trans (m:=10) ?_ (by decide)
      refine Nat.le_trans ?_ T10
      have ndk:(ks.map λk=>k.2.2.getD 1 "").Nodup:=by
       refine List.pairwise_map.mpr (List.Pairwise.imp_of_mem (λ{a b} ha hb hl z=>?_) pw)
       obtain⟨y1,r1,m1,t1,h1,c1,x1,e1,rfl⟩:=(mem a).mp ha
       obtain⟨y2,r2,m2,t2,h2,c2,x2,e2,rfl⟩:=(mem b).mp hb
       have a1:=(cw6 y1 h1 r1 c1).2.1
       have a2:=(cw6 y2 h2 r2 c2).2.1
       cases r1 with
       |nil=>cases a1
       |cons z1 q1=>
        cases r2 with
        |nil=>cases a2
        |cons z2 q2=>
         have z:z1=z2:=z
         cases a1
         cases a2
         subst z
         rw[c1] at c2
         cases c2
         rw[e1] at e2
         cases e2
         rw[zcr] at hl;cases hl
      have:=zM (m:=hs) ndk λt ht=>by
       obtain⟨k,hk,rfl⟩:=List.mem_map.mp ht
       obtain⟨y1,r1,m1,t1,h1,c1,x1,e1,rfl⟩:=(mem k).mp hk
       have a1:=(cw6 y1 h1 r1 c1).2.1
       cases r1 with
       |nil=>cases a1
       |cons z1 q1=>cases a1;exact h1
      rwa[List.length_map] at this
     refine⟨l,le,us,[V.non],rfl,rfl,el8,ele,Nat.le_trans (show us.length+1<=1001 by omega) (Nat.le_of_ble_eq_true rfl),λlc hlc=>?_⟩
     have S9:=Same.new (o:= .lst (us ++ [V.non])) hlc
     have e9:=zb (H:=H8) (a:=lc) (o:= .lst (us ++ [V.non]))
     have s69:=s68.trans S9
     have al9:AtG zb6 (upd H8 lc (.lst (us ++ [V.non]))) us ws:=AtG.mono al8 λb a e=>S9 _ _ e
     generalize (upd H8 lc (.lst (us ++ [V.non])))=H9 at *
     have e69:=s69 _ _ e6
     obtain⟨u0,eu0,tl0⟩:∃u0,atI (us ++ [V.non]) 0=some u0/\Told H9 u0 ws.head?:=by
      cases us with
      |nil=>
       cases ws with
       |nil=>exact ⟨.non,at0,rfl⟩
       |cons w ws=>exact absurd al9.1 (by simp)
      |cons u us=>
       cases ws with
       |nil=>exact absurd al9.1 (by simp)
       |cons w ws=>
        obtain⟨b,rfl,ob⟩:=al9.2 0 u w rfl rfl
        exact⟨.ref b,at0,b,rfl,ob⟩
     refine⟨lc,_,0,u0,rfl,rfl,SqL.of e9,eu0,_,rfl,_,rfl,d2,_,rfl,DPut.k (k:=Sum.inr y) e69 (zk (by rw[zdi ch6.len];omega)),?_⟩
     rw[zek hsN ch6.len.symm ey]
     have t9:∀kv c xs,H9 c=some (.tup xs)->upd H9 d2 (.dK kv) c=some (.tup xs):=λkv c xs e=>by rw[zi (zbd e e69 (by intro z;cases z))];exact e
     have chN:=(ch6.mono (H':=upd H9 d2 (.dK (zw hs (vs6.set j u0)))) (λc xs e=>t9 _ _ _ (s69 _ _ e))).set (o:=ws.head?) (v:=u0) hsN ey (Told.tups tl0 (t9 _))
     refine⟨⟨_,_,rfl⟩,⟨_,_,zb,chN,λz hz w e=>?_⟩,λb o hb e=>by rw[zi hb];exact s69 _ _ (s6 b o hb e)⟩
     by_cases h:z=y
     ·simp only[if_pos h] at e
      rw[h]
      exact off.let_ cw6 w (List.mem_of_mem_head? e)
     ·simp only[if_neg h] at e
      exact cw6 z hz w e
    ·exact ⟨⟨_,_,rfl⟩,⟨vs6,C6,e6,ch6,cw6⟩,s6⟩
   ·rintro σ' H6 ⟨⟨o3,o4,rfl⟩,P6,s6⟩
    exact⟨⟨_,_,rfl⟩,P6,s6⟩
  rintro σ' H5 ⟨⟨o3,o4,rfl⟩,⟨vs5,C5,e5,ch5,cw5⟩,s5⟩
  refine⟨_,rfl,q d2 vs5 C5 H5 e5 ch5 cw5 hd2 ?_ λb o hb e=>s5 b o (zl e hd2) (k04 b o hb e)⟩
  obtain⟨x,m,t,h,r1,r2,r3,r4⟩:=hH4
  exact⟨x,m,t,s5 _ _ n2a.symm h,r1,r2,r3,by omega⟩
end
section
variable{P:Program}{w:World}{K:PySem.W.Frag}{mg:Str->Option Value}{base:Heap}
theorem zhq{H:Hp}{C:Str->Option (List Str)}:∀{hs:List Str} {vs:List V},ChF H hs vs C->ChAt H (zw hs vs) (hs.map λx=>(x,C x))
 |[],vs,h=>by
  cases vs with
  |nil=>exact .nil
  |cons _ _=>exact absurd h.len (by simp)
 |x::hs,vs,h=>by
  cases vs with
  |nil=>exact absurd h.len (by simp)
  |cons v vs=>exact ChAt.cons (h.at_ 0 x v rfl rfl) (zhq ⟨by simpa using h.len,λi y u e1 e2=>h.at_ (i+1) y u e1 e2⟩)
theorem zqR{o:Option (List Str)}(hl:∀w,o=some w->w.length<=10/\∀y∈w,zg y=true):(oD o).showable=true/\(oD o).depth<=2/\(oD o).shown.length<=1095:=by
 cases o with
 |none=>exact ⟨by unfold oD;rw[PyData.showable],by unfold oD;rw[PyData.depth];omega,by unfold oD;rw[PyData.shown];decide⟩
 |some w=>
  obtain⟨h1,h2⟩:=hl w rfl
  have S:=ziX (t:=w) (by omega) h2
  have e:oD (some w)=pyD (.tup (w.map D.str)):=pyD_way.symm
  rw[e]
  exact⟨S.2.1,S.2.2.1,S.2.2.2⟩
theorem zmA{C:Str->Option (List Str)}:∀{hs:List Str},(∀x∈hs,zg x=true)->(∀x∈hs,∀w,C x=some w->w.length<=10/\∀y∈w,zg y=true)->
 PyData.showableKv ((hs.map λx=>(x,C x)).map λc=>(.str c.1,oD c.2))=true/\PyData.depthKv ((hs.map λx=>(x,C x)).map λc=>(.str c.1,oD c.2))<=2/\∀t∈PyData.shownKv ((hs.map λx=>(x,C x)).map λc=>(.str c.1,oD c.2)),t.length<=1200
 |[],_,_=>⟨by rw[List.map_nil,List.map_nil,PyData.showableKv],by rw[List.map_nil,List.map_nil,PyData.depthKv];omega,λt ht=>by rw[List.map_nil,List.map_nil,PyData.shownKv] at ht;cases ht⟩
 |x::hs,hn,hc=>by
  obtain⟨h1,h2,h3⟩:=zmA (C:=C) (hs:=hs) (λy hy=>hn y (List.mem_cons_of_mem _ hy)) λy hy=>hc y (List.mem_cons_of_mem _ hy)
  obtain⟨o1,o2,o3⟩:=zqR (hc x List.mem_cons_self)
  have sx:=zd6 (hn x List.mem_cons_self)
  have s1:=sx.2.1
  have s2:=sx.2.2.1
  have s3:=sx.2.2.2
  rw[pyD] at s1 s2 s3
  rw[List.map_cons,List.map_cons]
  refine⟨?_,?_,λt ht=>?_⟩
  ·rw[PyData.showableKv,h1,o1,s1];rfl
  ·rw[PyData.depthKv];dsimp only;omega
  ·rw[PyData.shownKv] at ht
   rcases List.mem_cons.mp ht with rfl|ht
   ·rw[zcb,zcb]
    have:(Str.ofString ": ").length=2:=rfl
    have:((": ":Str)).length=2:=rfl
    dsimp only
    omega
   ·exact h3 t ht
theorem zmO{c:Nat}:∀{ts:List Str},(∀t∈ts,t.length<=c)->(ts.map (·.length)).sum<=ts.length*c
 |[],_=>by simp
 |t::ts,h=>by
  have h1:=zmO (ts:=ts) λu hu=>h u (List.mem_cons_of_mem _ hu)
  have h2:=h t List.mem_cons_self
  rw[List.map_cons,List.sum_cons,List.length_cons,Nat.succ_mul]
  omega
theorem znG:∀{kvs:List (PyData×PyData)},(PyData.shownKv kvs).length=kvs.length
 |[]=>by rw[PyData.shownKv];rfl
 |(k,v)::r=>by rw[PyData.shownKv,List.length_cons,znG,List.length_cons]
theorem zoO{C:Str->Option (List Str)}{hs:List Str}(h10:hs.length<=10)(hn:∀x∈hs,zg x=true)(hc:∀x∈hs,∀w,C x=some w->w.length<=10/\∀y∈w,zg y=true):(chD (hs.map λx=>(x,C x))).showable=true/\(chD (hs.map λx=>(x,C x))).depth<=60/\(chD (hs.map λx=>(x,C x))).shown.length<=sizeLine:=by
 obtain⟨h1,h2,h3⟩:=zmA hn hc
 unfold chD
 refine⟨by rw[PyData.showable];exact h1,by rw[PyData.depth];omega,?_⟩
 rw[PyData.shown]
 have e:=dictText_len_le (PyData.shownKv ((hs.map λx=>(x,C x)).map λc=>(.str c.1,oD c.2)))
 have s:=zmO h3
 rw[znG,List.length_map,List.length_map] at s e
 refine Nat.le_trans (m:=20000) ?_ (Nat.le_of_ble_eq_true rfl)
 have:hs.length*1200<=10*1200:=Nat.mul_le_mul_right _ h10
 omega
end
section
variable{P:Program}{w:World}{K:PySem.W.Frag}{mg:Str->Option Value}{base:Heap}
theorem zcI{H:Hp}{v:V}{o:Option (List Str)}(h:Told H v o)(hn:∀w,o=some w->∀y∈w,zg y=true):Tr H v (oD o):=by
 cases o with
 |none=>cases (show v= .non from h);exact .non
 |some w=>
  obtain⟨p,rfl,hp⟩:=h
  exact zbp hp λx hx=>zaM (hn w rfl x hx)
theorem zfW{o:Option (List Str)}:(oD o).depth<=60:=by
 cases o with
 |none=>show PyData.none.depth<=60;rw[PyData.depth];omega
 |some w=>exact zaw
theorem zjp{a b:Option (List Str)}:(oD a).eqv (oD b)=decide (a=b):=by
 cases a with
 |none=>cases b with
  |none=>show PyData.none.eqv .none=_;rw[PyData.eqv];rfl
  |some w=>show PyData.none.eqv (.tuple _)=_;rw[PyData.eqv];rfl;all_goals simp
 |some v=>cases b with
  |none=>show (PyData.tuple _).eqv .none=_;rw[PyData.eqv];rfl;all_goals simp
  |some w=>
   show(PyData.tuple (zz v)).eqv (.tuple (zz w))=_
   rw[zbh]
   by_cases h:v=w
   ·rw[decide_eq_true h,decide_eq_true (congrArg some h)]
   ·rw[decide_eq_false h,decide_eq_false λz=>h (Option.some.inj z)]
def DueR(g:Str)(hs:List Str)(ps:List (Str×Str))(lks hds:List D)(C:Str->Option (List Str))(x:Str)(ws:List (List Str)):Prop:=(x=g/\ws=[[g]])\/(x≠g/\Off hs ps lks hds C x ws)
theorem DueR.uniq{g:Str}{hs:List Str}{ps:List (Str×Str)}{lks hds:List D}{C:Str->Option (List Str)}{x:Str}{ws ws':List (List Str)}(h:DueR g hs ps lks hds C x ws)(h':DueR g hs ps lks hds C x ws'):ws=ws':=by
 rcases h with⟨e,rfl⟩|⟨n,h⟩<;>rcases h' with⟨e',rfl⟩|⟨n',h'⟩
 ·rfl
 ·exact absurd e n'
 ·exact absurd e' n
 ·exact h.uniq h'
def zrk(g:Str)(hs:List Str)(ps:List (Str×Str))(lks hds:List D)(C:Str->Option (List Str)):Prop:=∀x∈hs,∀ws,DueR g hs ps lks hds C x ws->C x=ws.head?
theorem DueR.nm{g:Str}{hs:List Str}{ps:List (Str×Str)}{lks hds:List D}{C:Str->Option (List Str)}(T:TownOk g hs ps lks hds)(cw:CW g hs ps lks hds C){x:Str}{ws:List (List Str)}(h:DueR g hs ps lks hds C x ws):∀w,ws.head?=some w->∀y∈w,zg y=true:=λw e y hy=>by
 have tin:∀p∈ps,p.1∈hs/\p.2∈hs:=λp hp=>⟨(T.ties p hp).1,(T.ties p hp).2.1⟩
 rcases h with⟨rfl,rfl⟩|⟨_,h⟩
 ·cases e
  rw[List.mem_singleton.mp hy];exact T.names _ T.goal
 ·exact T.names y (SW.mem T.goal tin (h.let_ cw w (List.mem_of_mem_head? e)).1 y hy)
theorem zkc{g:Str}{hs:List Str}{ps:List (Str×Str)}{lks hds:List D}{C:Str->Option (List Str)}(T:TownOk g hs ps lks hds)(cw:CW g hs ps lks hds C){x:Str}(hx:x∈hs):∀w,C x=some w->∀y∈w,zg y=true:=λw e y hy=>by
 have tin:∀p∈ps,p.1∈hs/\p.2∈hs:=λp hp=>⟨(T.ties p hp).1,(T.ties p hp).2.1⟩
 exact T.names y (SW.mem T.goal tin (cw x hx w e).1 y hy)
theorem zod{H:Hp}{us:List V}{ws:List (List Str)}(al:AtG zb6 H us ws):∃u0,atI (us ++ [V.non]) 0=some u0/\Told H u0 ws.head?:=by
 cases us with
 |nil=>
  cases ws with
  |nil=>exact ⟨.non,at0,rfl⟩
  |cons w ws=>exact absurd al.1 (by simp)
 |cons u us=>
  cases ws with
  |nil=>exact absurd al.1 (by simp)
  |cons w ws=>
   obtain⟨b,rfl,ob⟩:=al.2 0 u w rfl rfl
   exact⟨.ref b,at0,b,rfl,ob⟩
def zhc:Sp:=λvs H Q _=>∃(v:V) (d:Addr) (vs':List V) (C:Str->Option (List Str)) (g:Str) (hs:List Str) (ps:List (Str×Str)) (lks hds:List D) (O:List Str),vs=[v, .ref d]/\Rep H v (zaE g hs ps lks hds)/\TownOk g hs ps lks hds/\Pool hs lks hds O/\H d=some (.dK (zw hs vs'))/\ChF H hs vs' C/\CW g hs ps lks hds C/\zd1 ps/\∀(b:Bool) (H':Hp),(b=true↔zrk g hs ps lks hds C)->Same H H'->Q (.bl b) H'
theorem zjr(Y:Ev K mg):FnOk P w K mg base CX0 9 Y.a_is_rest Y.d_is_rest zcN zhc:=by
 have G_offered:FnOk P w K mg base CX0 8 Y.a_offered Y.d_offered zcK zh9:=zjc Y
 refine Y.is_rest.fn.okQ c_is_rest (λvs H Q E h=>?_) (λcdv A outer s H vs Q E hr h=>?_)
 ·obtain ⟨v,d,vs',C,g,hs,ps,lks,hds,O,rfl,_⟩:=h;rfl
 ·obtain ⟨v,d,vs',C,g,hs,ps,lks,hds,O,rfl,hv,T,PO,hd,ch,cw,sp,q⟩:=h
  have hv':=hv
  obtain⟨p,pr,pt,pl,pa,vt,vl,va,rfl,hp,hpr,_⟩:=zaz hv'
  have hsN:hs.Nodup:=T.hs_nd
  refine⟨_,(ze (za2 PassesOwn.never rfl (za1 (zN ix_tup (qv 0) zf)) (zr 2 c_is_rest.nd) (zij (zu 3 c_is_rest.nd (zoo (zy zam (qv 2) (zN ix_tup (qv 0) zf)) (zb0 (za (zR (za (qv 2) zd)) zd)) (zh G_offered (hr.mono (by decide)) Y.offered.mg Y.offered.kp Y.offered.b .nil zn (za (qv 0) (za (qv 1) (za (qv 2) zd))))))
   (zj (zad (zy (zju (zjk hr)) (zb3 (hu1 hr) (qv 1) (qv 2)) (zoo (znU (qv 3)) (zN ix_list (qv 3) zf) zaJ)) (zj (zt zc5)) zJ))))
   (zj (zt zc5))),?_⟩
  refine⟨_,rfl,p,_,1,_,rfl,rfl, .inl (.inl hp),at1,pr,rfl,⟨_, .inl (.inl hpr)⟩,?_⟩
  refine zae (zaf (K:=K) (xs:=hs.map V.str)) (λi σ' H'=>(∃o2 o3,σ'=[some (.ref p),some (.ref d),o2,o3])/\(∀x∈hs.take i,∀ws,DueR g hs ps lks hds C x ws->C x=ws.head?)/\Same H H') ⟨⟨_,_,rfl⟩,(λx hx=>by cases hx),Same.refl _⟩ (λi σ' H' z=> .inl (.inl (z.2.2 _ _ hpr))) ?_ ?_
  ·rintro i x0 σ' H1 hi hx0 ⟨⟨o2,o3,rfl⟩,gd,s1⟩
   rw[List.getElem?_map] at hx0
   obtain⟨x,ex,rfl⟩:∃x,hs[i]?=some x/\x0= .str x:=by
    cases e:hs[i]? with
    |none=>rw[e] at hx0;cases hx0
    |some y=>rw[e] at hx0;cases hx0;exact⟨y,rfl,rfl⟩
   have hx:=List.mem_of_getElem? ex
   have tk:hs.take (i+1)=hs.take i ++ [x]:=by rw[List.take_add_one,ex];rfl
   refine⟨λσ' H'=>∃l us ws,σ'=[some (.ref p),some (.ref d),some (.str x),some (.ref l)]/\H' l=some (.lst us)/\AtG zb6 H' us ws/\DueR g hs ps lks hds C x ws/\Same H H',?_,?_⟩
   ·dsimp only[zap]
    refine⟨_,rfl,_,rfl,p,_,0,_,rfl,rfl, .inl (.inl (s1 _ _ hp)),at0,rfl,_,rfl,za7 (λhc=>?_) (λhc=>?_)⟩
    ·have eg:x=g:=by simpa using hc
     refine⟨_,rfl,few rfl,λp1 hp1=>⟨few rfl,λl1 hl1=>?_⟩⟩
     have S1:=Same.new (o:= .tup [V.str x]) hp1
     have S2:=Same.new (o:= .lst [V.ref p1]) hl1
     refine⟨l1,[.ref p1],[[g]],rfl,zb,⟨rfl,λk v w h1 h2=>?_⟩, .inl ⟨eg,rfl⟩,s1.trans (S1.trans S2)⟩
     cases k with
     |zero=>cases h1;cases h2;exact⟨p1,rfl,by rw[←eg];exact S2 _ _ zb⟩
     |succ k=>cases h1
    ·have ng:x≠g:=λz=>hc (by simp[z])
     exact⟨_,rfl,_,rfl,_,rfl, .ref p,d,x,vs',C,g,hs,ps,lks,hds,O,rfl,hv.same s1,T,PO,s1 _ _ hd,ch.mono λc xs e=>s1 _ _ e,cw,hx,ng,λl us ws H2 el al off _ s2=>⟨l,us,ws,rfl,el,al, .inr ⟨ng,off⟩,s1.trans s2⟩⟩
   ·rintro σ' H2 ⟨l,us,ws,rfl,el,al,due,s2⟩
    obtain⟨k,u0,e1,e2,ev,tl⟩:=ch.get hsN hx
    have trC:Tr H2 u0 (oD (C x)):=zcI (tl.same s2) (zkc T cw hx)
    have dgx:=ChF.dget (s2 _ _ hd) ev
    have no:¬C x=ws.head?->Q (.bl false) H2:=λh=>q false H2 ⟨(λz=>nomatch z),λr=>absurd (r x hx ws due) h⟩ s2
    have yes:C x=ws.head?->∀z∈hs.take (i+1),∀ws,DueR g hs ps lks hds C z ws->C z=ws.head?:=λh z hz ws' d'=>by
     rw[tk] at hz
     rcases List.mem_append.mp hz with hz|hz
     ·exact gd z hz ws' d'
     ·have e:=List.mem_singleton.mp hz
      subst e
      rw[h,d'.uniq due]
    refine⟨_,rfl,_,rfl,d,_,rfl,dgx,_,rfl,?_⟩
    have nm:=due.nm T cw
    cases us with
    |nil=>
     have e0:ws.head?=none:=by
      cases ws with
      |nil=>rfl
      |cons _ _=>exact absurd al.1 (by simp)
     refine⟨false, .inl ⟨_,SqL.of el,rfl⟩,zat rfl ⟨oD (C x),oD none,trC, .non,Nat.le_trans (Nat.min_le_left _ _) zfW,?_⟩⟩
     rw[zjp,←e0]
     by_cases h:C x=ws.head?
     ·rw[decide_eq_true h]
      exact⟨_,rfl,zat rfl ⟨⟨_,_,rfl⟩,yes h,s2⟩⟩
     ·rw[decide_eq_false h]
      exact⟨_,rfl,zaX rfl (no h)⟩
    |cons u us=>
     cases ws with
     |nil=>exact absurd al.1 (by simp)
     |cons w ws=>
      obtain⟨b,rfl,ob⟩:=al.2 0 u w rfl rfl
      have tr1:Tr H2 (.ref b) (oD (some w)):=zcI (o:=some w) ⟨b,rfl,ob⟩ nm
      refine⟨true, .inl ⟨_,SqL.of el,rfl⟩,zaX rfl ⟨_,rfl,l,_,0, .ref b,rfl,rfl,SqL.of el,at0,oD (C x),oD (some w),trC,tr1,Nat.le_trans (Nat.min_le_left _ _) zfW,?_⟩⟩
      rw[zjp]
      by_cases h:C x=some w
      ·rw[decide_eq_true h]
       exact⟨_,rfl,zat rfl ⟨⟨_,_,rfl⟩,yes h,s2⟩⟩
      ·rw[decide_eq_false h]
       exact⟨_,rfl,zaX rfl (no h)⟩
  rintro σ' H1 ⟨⟨o2,o3,rfl⟩,gd,s1⟩
  rw[List.length_map,List.take_length] at gd
  exact q true H1 ⟨λ_=>gd,λ_=>rfl⟩ s1
theorem zfr(Y:Ev K mg):FnOk P w K mg base CX0 20 Y.a__law_is_rest Y.d__law_is_rest zaL zhc:=by
 have G__law_offered:FnOk P w K mg base CX0 19 Y.a__law_offered Y.d__law_offered zan zh9:=zdm Y
 refine Y._law_is_rest.fn.okQ c__law_is_rest (λvs H Q E h=>?_) (λcdv A outer s H vs Q E hr h=>?_)
 ·obtain ⟨v,d,vs',C,g,hs,ps,lks,hds,O,rfl,_⟩:=h;rfl
 ·obtain ⟨v,d,vs',C,g,hs,ps,lks,hds,O,rfl,hv,T,PO,hd,ch,cw,sp,q⟩:=h
  have hv':=hv
  obtain⟨p,pr,pt,pl,pa,vt,vl,va,rfl,hp,hpr,_⟩:=zaz hv'
  have hsN:hs.Nodup:=T.hs_nd
  refine⟨_,(ze (za2 PassesOwn.never rfl (za1 (zN ix_tup (qv 0) zf)) (zr 2 c__law_is_rest.nd) (zij (zu 3 c__law_is_rest.nd (zoo (zy zam (qv 2) (zN ix_tup (qv 0) zf)) (zb0 (za (zR (za (qv 2) zd)) zd)) (zh G__law_offered (hr.mono (by decide)) Y._law_offered.mg Y._law_offered.kp Y._law_offered.b .nil zn (za (qv 0) (za (qv 1) (za (qv 2) zd))))))
   (zj (zad (zy (zju (zjk hr)) (zb3 (hu1 hr) (qv 1) (qv 2)) (zN ix_list (zL zfF (qv 3) (zb0 (za zaJ zd))) zf)) (zj (zt zc5)) zJ))))
   (zj (zt zc5))),?_⟩
  refine⟨_,rfl,p,_,1,_,rfl,rfl, .inl (.inl hp),at1,pr,rfl,⟨_, .inl (.inl hpr)⟩,?_⟩
  refine zae (zaf (K:=K) (xs:=hs.map V.str)) (λi σ' H'=>(∃o2 o3,σ'=[some (.ref p),some (.ref d),o2,o3])/\(∀x∈hs.take i,∀ws,DueR g hs ps lks hds C x ws->C x=ws.head?)/\Same H H') ⟨⟨_,_,rfl⟩,(λx hx=>by cases hx),Same.refl _⟩ (λi σ' H' z=> .inl (.inl (z.2.2 _ _ hpr))) ?_ ?_
  ·rintro i x0 σ' H1 hi hx0 ⟨⟨o2,o3,rfl⟩,gd,s1⟩
   rw[List.getElem?_map] at hx0
   obtain⟨x,ex,rfl⟩:∃x,hs[i]?=some x/\x0= .str x:=by
    cases e:hs[i]? with
    |none=>rw[e] at hx0;cases hx0
    |some y=>rw[e] at hx0;cases hx0;exact⟨y,rfl,rfl⟩
   have hx:=List.mem_of_getElem? ex
   have tk:hs.take (i+1)=hs.take i ++ [x]:=by rw[List.take_add_one,ex];rfl
   refine⟨λσ' H'=>∃l us ws,σ'=[some (.ref p),some (.ref d),some (.str x),some (.ref l)]/\H' l=some (.lst us)/\AtG zb6 H' us ws/\DueR g hs ps lks hds C x ws/\Same H H',?_,?_⟩
   ·dsimp only[zap]
    refine⟨_,rfl,_,rfl,p,_,0,_,rfl,rfl, .inl (.inl (s1 _ _ hp)),at0,rfl,_,rfl,za7 (λhc=>?_) (λhc=>?_)⟩
    ·have eg:x=g:=by simpa using hc
     refine⟨_,rfl,few rfl,λp1 hp1=>⟨few rfl,λl1 hl1=>?_⟩⟩
     have S1:=Same.new (o:= .tup [V.str x]) hp1
     have S2:=Same.new (o:= .lst [V.ref p1]) hl1
     refine⟨l1,[.ref p1],[[g]],rfl,zb,⟨rfl,λk v w h1 h2=>?_⟩, .inl ⟨eg,rfl⟩,s1.trans (S1.trans S2)⟩
     cases k with
     |zero=>cases h1;cases h2;exact⟨p1,rfl,by rw[←eg];exact S2 _ _ zb⟩
     |succ k=>cases h1
    ·have ng:x≠g:=λz=>hc (by simp[z])
     exact⟨_,rfl,_,rfl,_,rfl, .ref p,d,x,vs',C,g,hs,ps,lks,hds,O,rfl,hv.same s1,T,PO,s1 _ _ hd,ch.mono λc xs e=>s1 _ _ e,cw,hx,ng,λl us ws H2 el al off _ s2=>⟨l,us,ws,rfl,el,al, .inr ⟨ng,off⟩,s1.trans s2⟩⟩
   ·rintro σ' H2 ⟨l,us,ws,rfl,el,al,due,s2⟩
    obtain⟨k,u0,e1,e2,ev,tl⟩:=ch.get hsN hx
    have trC:Tr H2 u0 (oD (C x)):=zcI (tl.same s2) (zkc T cw hx)
    have dgx:=ChF.dget (s2 _ _ hd) ev
    have no:¬C x=ws.head?->Q (.bl false) H2:=λh=>q false H2 ⟨(λz=>nomatch z),λr=>absurd (r x hx ws due) h⟩ s2
    have yes:C x=ws.head?->∀z∈hs.take (i+1),∀ws,DueR g hs ps lks hds C z ws->C z=ws.head?:=λh z hz ws' d'=>by
     rw[tk] at hz
     rcases List.mem_append.mp hz with hz|hz
     ·exact gd z hz ws' d'
     ·have e:=List.mem_singleton.mp hz
      subst e
      rw[h,d'.uniq due]
    refine⟨_,rfl,_,rfl,d,_,rfl,dgx,_,rfl,few rfl,λle hle=>?_⟩
    have nm:=due.nm T cw
    have S3:=Same.new (o:= .lst [V.non]) hle
    have el3:=S3 _ _ el
    have ele:=zb (H:=H2) (a:=le) (o:= .lst [V.non])
    have al3:AtG zb6 (upd H2 le (.lst [V.non])) us ws:=AtG.mono al λb a e=>S3 _ _ e
    have trC3:Tr (upd H2 le (.lst [V.non])) u0 (oD (C x)):=zcI (tl.same (s2.trans S3)) (zkc T cw hx)
    have s3:=s2.trans S3
    generalize (upd H2 le (.lst [V.non]))=H3 at *
    have lus:us.length<=16:=by
     rw[al.1]
     rcases due with⟨_,rfl⟩|⟨_,off⟩
     ·exact (by decide:1<=16)
     ·exact (off.ok T sp cw).few
    refine⟨l,le,us,[V.non],rfl,rfl,el3,ele,Nat.le_trans (show us.length+1<=17 by omega) (Nat.le_of_ble_eq_true rfl),λlc hlc=>?_⟩
    have S4:=Same.new (o:= .lst (us ++ [V.non])) hlc
    have e4:=zb (H:=H3) (a:=lc) (o:= .lst (us ++ [V.non]))
    have al4:AtG zb6 (upd H3 lc (.lst (us ++ [V.non]))) us ws:=AtG.mono al3 λb a e=>S4 _ _ e
    have s4:=s3.trans S4
    have trC4:Tr (upd H3 lc (.lst (us ++ [V.non]))) u0 (oD (C x)):=zcI (tl.same s4) (zkc T cw hx)
    generalize (upd H3 lc (.lst (us ++ [V.non])))=H4 at *
    obtain⟨u1,eu1,tl1⟩:=zod al4
    refine⟨lc,_,0,u1,rfl,rfl,SqL.of e4,eu1,oD (C x),oD ws.head?,trC4,zcI tl1 nm,Nat.le_trans (Nat.min_le_left _ _) zfW,?_⟩
    rw[zjp]
    by_cases h:C x=ws.head?
    ·rw[decide_eq_true h]
     exact⟨_,rfl,zat rfl ⟨⟨_,_,rfl⟩,yes h,s4⟩⟩
    ·rw[decide_eq_false h]
     exact⟨_,rfl,zaX rfl (q false H4 ⟨(λz=>nomatch z),λr=>absurd (r x hx ws due) h⟩ s4)⟩
  rintro σ' H1 ⟨⟨o2,o3,rfl⟩,gd,s1⟩
  rw[List.length_map,List.take_length] at gd
  exact q true H1 ⟨λ_=>gd,λ_=>rfl⟩ s1
end
section
variable{P:Program}{w:World}{K:PySem.W.Frag}{mg:Str->Option Value}{base:Heap}
def zmd:Sp:=λvs H Q _=>∃(v:V) (d:Addr) (vs':List V) (C:Str->Option (List Str)) (g:Str) (hs:List Str) (ps:List (Str×Str)) (lks hds:List D) (O:List Str),vs=[v, .ref d]/\Rep H v (zaE g hs ps lks hds)/\TownOk g hs ps lks hds/\Pool hs lks hds O/\H d=some (.dK (zw hs vs'))/\ChF H hs vs' C/\CW g hs ps lks hds C/\zd1 ps/\∀(H':Hp),Same H H'->Q (.bl true) H'
theorem zok(Y:Ev K mg):FnOk P w K mg base CX0 21 Y.a__law_told Y.d__law_told zbP zmd:=by
 have G_is_rest:FnOk P w K mg base CX0 9 Y.a_is_rest Y.d_is_rest zcN zhc:=zjr Y
 have G__law_is_rest:FnOk P w K mg base CX0 20 Y.a__law_is_rest Y.d__law_is_rest zaL zhc:=zfr Y
 refine Y._law_told.fn.okQ c__law_told (λvs H Q E h=>?_) (λcdv A outer s H vs Q E hr h=>?_)
 ·obtain ⟨v,d,vs',C,g,hs,ps,lks,hds,O,rfl,_⟩:=h;rfl
 ·obtain ⟨v,d,vs',C,g,hs,ps,lks,hds,O,rfl,hv,T,PO,hd,ch,cw,sp,q⟩:=h
  have T10:=T.ten
  have tin:∀p∈ps,p.1∈hs/\p.2∈hs:=λp hp=>⟨(T.ties p hp).1,(T.ties p hp).2.1⟩
  have okC:∀x∈hs,∀w,C x=some w->w.length<=10/\∀y∈w,zg y=true:=λx hx w e=>by
   have sw:=(cw x hx w e).1
   have mem:=SW.mem T.goal tin sw
   exact⟨Nat.le_trans (zM sw.nd mem) T10,λy hy=>T.names y (mem y hy)⟩
  obtain⟨c1,c2,c3⟩:=zoO T10 T.names okC
  have cat:=zhq ch
  obtain⟨cs,ecs⟩:∃cs,cs=hs.map λx=>(x,C x):=⟨_,rfl⟩
  rw[←ecs] at c1 c2 c3 cat
  have catS:∀{H':Hp},Same H H'->ChAt H' (zw hs vs') cs:=λs=>by rw[ecs];exact zhq (ch.mono λc xs e=>s _ _ e)
  clear ecs
  refine⟨_,(ze (zu 2 c__law_told.nd (zq (zfY hr.gd (zjk hr)) Y.repr zku (za (qv 1) zd)))
   (ze (zu 3 c__law_told.nd (zh G_is_rest (hr.mono (by decide)) Y.is_rest.mg Y.is_rest.kp Y.is_rest.b .nil zn (za (qv 0) (za (qv 1) zd))))
   (ze (zad (t_w (zjb (zdO (zcM (zq zf4 Y.isinstance zcx (za (qv 3) (za (zqo Y.bool zol) zd))))) (zfQ (zy zgT (zq (zfY hr.gd (zjk hr)) Y.repr zku (za (qv 1) zd)) (qv 2))))) (zj (zt zc5)) zJ)
   (zj (zt (zb5 zam (qv 3) (zh G__law_is_rest (hr.mono (by decide)) Y._law_is_rest.mg Y._law_is_rest.kp Y._law_is_rest.b .nil zn (za (qv 0) (za (qv 1) zd))))))))),?_⟩
  refine⟨_,rfl,d,_,cs,rfl,hd,cat,c1,c2,c3,?_⟩
  refine⟨_,rfl,_,rfl,v,d,vs',C,g,hs,ps,lks,hds,O,rfl,hv,T,PO,hd,ch,cw,sp,λb1 H1 r1 s1=>?_⟩
  refine⟨_,rfl,_,_,_,_,rfl, .bl b1,rfl,_,rfl,zat rfl ?_⟩
  refine⟨_,rfl,d,_,cs,rfl,s1 _ _ hd,catS s1,c1,c2,c3,_,rfl,rfl,_,rfl,?_⟩
  have ne0:(!decide (V.str (chD cs).shown=V.str (chD cs).shown))=false:=by rw[decide_eq_true rfl];rfl
  rw[ne0]
  refine zat rfl ?_
  refine⟨_,rfl,_,rfl,_,rfl,v,d,vs',C,g,hs,ps,lks,hds,O,rfl,hv.same s1,T,PO,s1 _ _ hd,ch.mono λc xs e=>s1 _ _ e,cw,sp,λb2 H2 r2 s2=>?_⟩
  have eb:b1=b2:=by rw[Bool.eq_iff_iff,r1,r2]
  subst eb
  refine⟨rfl,?_⟩
  have e1:decide (V.bl b1=V.bl b1)=true:=decide_eq_true rfl
  rw[e1]
  exact q H2 (s1.trans s2)
theorem GL.keep{H0 H H':Hp}{hs:List Str}{ls:List Addr}{W:Str->List (List Str)}{a:Addr}{n:Int}(h:GL zb6 H0 H hs ls W)(hH:Hand H a n)(k:Keep a H H'):GL zb6 H0 H' hs ls W:=
 ⟨h.len,h.nd,λi l x e1 e2=>by
   obtain⟨⟨us,eu,au⟩,hn⟩:=h.at_ i l x e1 e2
   refine⟨⟨us,k _ _ (zdK hH au l eu) eu,AtG.mono au λb w e=>k _ _ (λz=>?_) e⟩,hn⟩
   obtain⟨x,m,t,hh,_⟩:=hH
   have e:H b=some (.tup (w.map V.str)):=e
   rw[z,hh] at e;cases e⟩
def zkJ(K:PySem.W.Frag):Sp:=λvs H Q _=>∃(a:Addr) (ns:List Int),vs=[.ref a]/\SqL K H a (ns.map V.int)/\ns.length<=63/\∀H',Q (.bl true) H'
theorem zlP(Y:Ev K mg){fl:Addr}{fdl:FuncData}(FL:Fun K "law" "law" zdH fl fdl):FnOk P w K mg base CX0 22 fl fdl zkw (zkJ K):=by
 have G__law_hand:FnOk P w K mg base CX0 1 Y.a__law_hand Y.d__law_hand zbX (zm4 K):=znX Y
 have G__law_town:FnOk P w K mg base CX0 6 Y.a__law_town Y.d__law_town zbM zmJ:=zoR Y
 have G__law_pick:FnOk P w K mg base CX0 2 Y.a__law_pick Y.d__law_pick zH (zbt K):=zbL Y
 have G__law_lets:FnOk P w K mg base CX0 19 Y.a__law_lets Y.d__law_lets zbU zmj:=zhS Y
 have G__law_choice:FnOk P w K mg base CX0 3 Y.a__law_choice Y.d__law_choice za5 zid:=zlI Y
 have G__law_settled:FnOk P w K mg base CX0 20 Y.a__law_settled Y.d__law_settled zaP zg3:=zi2 Y
 have G__law_told:FnOk P w K mg base CX0 21 Y.a__law_told Y.d__law_told zbP zmd:=zok Y
 refine FL.okQ c_law (λvs H Q E h=>?_) (λcdv A outer s H vs Q E hr h=>?_)
 ·obtain ⟨a,ns,rfl,_⟩:=h;rfl
 ·obtain ⟨b,ns,rfl,hS,hns,q⟩:=h
  refine⟨_,(ze (za2 PassesOwn.never rfl (zci Y.range (za (zq (zk6 rfl) Y.max zg9 (za zf (za (zq (zgX rfl) Y.min zfL (za zf (za (zq zD Y.len zaD (za (qv 0) zd)) zd))) zd))) zd)) (zr 1 c_law.nd) (ze (zu 2 c_law.nd (zh G__law_hand (hr.mono (by decide)) Y._law_hand.mg Y._law_hand.kp Y._law_hand.b .nil zn (za (qv 0) (za (qv 1) zd))))
   (ze (zu 3 c_law.nd (zh G__law_town (hr.mono (by decide)) Y._law_town.mg Y._law_town.kp Y._law_town.b .nil zn (za (qv 2) zd)))
   (ze (zu 4 c_law.nd (zh G__law_lets (hr.mono (by decide)) Y._law_lets.mg Y._law_lets.kp Y._law_lets.b .nil zn (za (qv 3) zd)))
   (zj (za2 PassesOwn.never rfl (zci Y.range (za zf zd)) (zr 5 c_law.nd) (ze (zu 6 c_law.nd (zh G__law_settled (hr.mono (by decide)) Y._law_settled.mg Y._law_settled.kp Y._law_settled.b .nil zn (za (qv 2) (za (qv 3) (za (zh G__law_choice (hr.mono (by decide)) Y._law_choice.mg Y._law_choice.kp Y._law_choice.b .nil zn (za (qv 2) (za (qv 3) (za (qv 4) zd)))) zd)))))
   (ze (zad (zdO (zcM (zh G__law_told (hr.mono (by decide)) Y._law_told.mg Y._law_told.kp Y._law_told.b .nil zn (za (qv 3) (za (qv 6) zd))))) (zj (zt zc5)) zJ)
   (zj (za2 PassesOwn.never rfl (za1 (zN ix_tup (qv 3) zf)) (zr 7 c_law.nd) (ze (zu 8 c_law.nd (zU zfE Y.dict L2.boot_dict (za (qv 6) zd)))
   (ze (zdU (hu1 hr) (qv 8) (qv 7) (zh G__law_pick (hr.mono (by decide)) Y._law_pick.mg Y._law_pick.kp Y._law_pick.b .nil zn (za (qv 2) (za (zL zfF (zb3 (hu1 hr) (qv 4) (qv 7)) (zb0 (za zaJ zd))) zd))))
   (zj (zad (zdO (zcM (zh G__law_told (hr.mono (by decide)) Y._law_told.mg Y._law_told.kp Y._law_told.b .nil zn (za (qv 3) (za (qv 8) zd))))) (zj (zt zc5)) zJ))))))))))))))
   (zj (zt zc5))),?_⟩
  refine⟨_,rfl, .inl ⟨b,_,rfl, .inl hS,_,_,rfl,_,_,rfl,_,rfl,?_,?_,?_⟩⟩
  ·split<;>(try split)<;>omega
  ·rw[List.length_map]
   split<;>(try split)<;>omega
  refine zae zb2 (λi σ' H'=>(∃o1 o2 o3 o4 o5 o6 o7 o8,σ'=[some (.ref b),o1,o2,o3,o4,o5,o6,o7,o8])/\Same H H') ⟨⟨_,_,_,_,_,_,_,_,rfl⟩,Same.refl H⟩ (λ_ _ _ _=>trivial) ?_ ?_
  ·rintro i y σ' H0 hi rfl ⟨⟨o1,o2,o3,o4,o5,o6,o7,o8,rfl⟩,s0⟩
   have hi':i<1000:=by
    refine Nat.lt_of_lt_of_le hi ?_
    rw[List.length_map]
    split<;>(try split)<;>omega
   refine⟨_,rfl,_,rfl,b,ns,_,rfl,s0.seq hS,by omega,by omega,λa H1 ha hH1 s1=>?_⟩
   dsimp only[zap]
   refine⟨_,rfl,a,0,rfl,hH1,by decide,λv g hs ps lks hds H2 hv T hw hP _ _ sp hH2 k2=>?_⟩
   obtain⟨O,PO⟩:=hP
   have sa2:Same H0 H2:=λc o e=>k2 c o (zl e ha) (s1 c o e)
   have hv':=hv
   obtain⟨p,pr,pt,pl,pa,vt,vl,va,rfl,hp,hpr,_⟩:=zaz hv'
   have hsN:hs.Nodup:=T.hs_nd
   have T10:=T.ten
   have nea:∀{H':Hp} {m:Int},Hand H' a m->∀c xs,H' c=some (.tup xs)->c≠a:=λh c xs e z=>by
    obtain⟨x,m,t,hH,_⟩:=h
    rw[z,hH] at e;cases e
   have ned:∀{H':Hp} {m:Int},Hand H' a m->∀c xs,H' c=some (.dK xs)->c≠a:=λh c xs e z=>by
    obtain⟨x,m,t,hH,_⟩:=h
    rw[z,hH] at e;cases e
   dsimp only[zap]
   refine⟨_,rfl, .ref p,g,hs,ps,lks,hds,O,rfl,hv,T,PO,sp,λkd ls W H3 hkd gl du kN s3=>?_⟩
   have hH3:=hH2.same s3
   have hv3:=hv.same s3
   have hp3:=s3 _ _ hp
   have hpr3:=s3 _ _ hpr
   have okW:∀x∈hs,WsOk (W x):=λx hx=>zqd T sp (du x hx)
   have lw:∀x∈hs,∀w∈W x,SW g ps w/\w.head?=some x/\zp hs lks hds w≠none:=λx hx=>zoc (du x hx)
   have s03:Same H0 H3:=sa2.trans s3
   dsimp only[zap]
   refine⟨3,rfl,by decide,by decide,?_⟩
   refine zae zb2 (λt σ' H'=>(∃o1 o5 o6 o7 o8,σ'=[some (.ref b),o1,some (.ref a),some (.ref p),some (.ref kd),o5,o6,o7,o8])/\Hand H' a (9000+60*(t:Int))/\Keep a H3 H') ⟨⟨_,_,_,_,_,rfl⟩,hH3.mono (by omega),Keep.refl _ _⟩ (λ_ _ _ _=>trivial) ?_ ?_
   ·rintro t u σ' H4 ht rfl ⟨⟨o1,o5,o6,o7,o8,rfl⟩,hH4,k4⟩
    have ht':(t:Int)<=3:=by have:t<3:=ht;omega
    have hkd4:=k4 _ _ (ned hH3 _ _ hkd) hkd
    dsimp only[zap]
    refine⟨_,rfl,_,rfl,_,rfl,_,rfl,_,rfl,a,9000+60*(t:Int), .ref p,kd,ls,W,H2,g,hs,ps,lks,hds,rfl,hH4,by omega,hv3.mono (Mono.keep k4 hH3 hH4),T,hkd4,gl.keep hH3 k4,okW,lw,λd vs' C H5 hd ch cw dN hH5 k5=>?_⟩
    have k35:=k4.trans k5
    refine⟨a,9000+60*(t:Int)+20, .ref p,d,vs',C,g,hs,ps,lks,hds,O,rfl,hH5,by omega,hv3.mono (Mono.keep k35 hH3 hH5),T,PO,hd,ch,cw,λd6 vs6 C6 H6 hd6 ch6 cw6 dN6 hH6 k6=>?_⟩
    have k36:=k35.trans k6
    clear hd ch cw dN
    dsimp only[zap]
    refine⟨_,rfl,_,rfl, .ref p,d6,vs6,C6,g,hs,ps,lks,hds,O,rfl,hv3.mono (Mono.keep k36 hH3 hH6),T,PO,hd6,ch6,cw6,sp,λH7 s7=>?_⟩
    refine⟨_,rfl,zat rfl ?_⟩
    have k37:=k36.trans (Keep.of s7)
    have hH7:=hH6.same s7
    have hd7:=s7 _ _ hd6
    have ch7:=ch6.mono (H':=H7) λc xs e=>s7 _ _ e
    have hp7:=k37 _ _ (nea hH3 _ _ hp3) hp3
    have hpr7:=k37 _ _ (nea hH3 _ _ hpr3) hpr3
    refine⟨_,rfl,p,_,1,_,rfl,rfl, .inl (.inl hp7),at1,pr,rfl,⟨_, .inl (.inl hpr7)⟩,?_⟩
    refine zae (zaf (K:=K) (xs:=hs.map V.str)) (λj σ' H'=>(∃o1 o5 o7 o8,σ'=[some (.ref b),o1,some (.ref a),some (.ref p),some (.ref kd),o5,some (.ref d6),o7,o8])/\Hand H' a (9000+60*(t:Int)+40+(j:Int))/\Keep a H7 H') ⟨⟨_,_,_,_,rfl⟩,hH7.mono (by omega),Keep.refl _ _⟩ (λj σ' H' z=> .inl (.inl (z.2.2 _ _ (nea hH7 _ _ hpr7) hpr7))) ?_ ?_
    ·rintro j x0 σ' H8 hj hx0 ⟨⟨o1,o5,o7,o8,rfl⟩,hH8,k8⟩
     rw[List.length_map] at hj
     rw[List.getElem?_map] at hx0
     obtain⟨x,ex,rfl⟩:∃x,hs[j]?=some x/\x0= .str x:=by
      cases e:hs[j]? with
      |none=>rw[e] at hx0;cases hx0
      |some y=>rw[e] at hx0;cases hx0;exact⟨y,rfl,rfl⟩
     have hx:=List.mem_of_getElem? ex
     have k38:=k37.trans k8
     have hd8:=k8 _ _ (ned hH7 _ _ hd7) hd7
     have ch8:=ch7.mono (H':=H8) λc xs e=>k8 c _ (nea hH7 c xs e) e
     have hkd8:=k38 _ _ (ned hH3 _ _ hkd) hkd
     have gl8:=gl.keep hH3 k38
     dsimp only[zap]
     refine⟨_,rfl,d6,_,rfl,hd8,λd9 hd9=>?_⟩
     have S9:=Same.new (o:= .dK (zw hs vs6)) hd9
     have e9:=zb (H:=H8) (a:=d9) (o:= .dK (zw hs vs6))
     have hH9:Hand (upd H8 d9 (.dK (zw hs vs6))) a (9000+60*(t:Int)+40+(j:Int)):=hH8.new hd9
     have n9:d9≠a:=hH8.ne hd9
     generalize (upd H8 d9 (.dK (zw hs vs6)))=H9 at *
     obtain⟨k0,l,us,el,exx,ev,eu,au,_⟩:=gl8.get hsN hx
     have dg:=ChF.dget (S9 _ _ hkd8) ev
     have lus:us.length<=16:=by rw[au.1];exact(okW x hx).few
     dsimp only[zap]
     refine⟨_,rfl,_,rfl,_,rfl,kd,_,rfl,dg,few rfl,λle hle=>?_⟩
     have Se:=Same.new (o:= .lst [V.non]) hle
     refine⟨l,le,us,[V.non],rfl,rfl,Se _ _ (S9 _ _ eu),zb,Nat.le_trans (show us.length+1<=17 by omega) (Nat.le_of_ble_eq_true rfl),λlc hlc=>?_⟩
     have Sc:=Same.new (o:= .lst (us ++ [V.non])) hlc
     have hHe:Hand (upd H9 le (.lst [V.non])) a (9000+60*(t:Int)+40+(j:Int)):=hH9.new hle
     have hHc:Hand (upd (upd H9 le (.lst [V.non])) lc (.lst (us ++ [V.non]))) a (9000+60*(t:Int)+40+(j:Int)):=hHe.new hlc
     have nlc:lc≠a:=hHe.ne hlc
     have ec:=zb (H:=upd H9 le (.lst [V.non])) (a:=lc) (o:= .lst (us ++ [V.non]))
     have s8c:=S9.trans (Se.trans Sc)
     have e9c:=Sc _ _ (Se _ _ e9)
     generalize (upd (upd H9 le (.lst [V.non])) lc (.lst (us ++ [V.non])))=HC at *
     refine⟨a,9000+60*(t:Int)+40+(j:Int),hHc,by omega, .inl ⟨lc,_,rfl,nlc,SqL.of ec,by rw[List.length_append];exact Nat.succ_pos _,by rw[List.length_append];show us.length+1<1000;omega,λu HD hu hHD kD=>?_⟩⟩
     have k8D:Keep a H8 HD:=(Keep.of s8c).trans kD
     have e9D:=kD _ _ n9 e9c
     have ch9D:=ch8.mono (H':=HD) λc xs e=>k8D c _ (nea hH8 c xs e) e
     obtain⟨o,tl,ho⟩:∃o,Told HD u o/\∀w,o=some w->w∈W x:=by
      rcases List.mem_append.mp hu with hu|hu
      ·obtain ⟨k,hk⟩:=List.getElem?_of_mem hu
       have hk':k<(W x).length:=by rw[←au.1];exact(List.getElem?_eq_some_iff.mp hk).1
       obtain⟨bb,rfl,ob⟩:=au.2 k u (W x)[k] hk (List.getElem?_eq_getElem hk')
       have ob:H8 bb=some (.tup ((W x)[k].map V.str)):=ob
       exact⟨some (W x)[k],⟨bb,rfl,k8D _ _ (nea hH8 _ _ ob) ob⟩,λw e=>by cases e;exact List.getElem_mem hk'⟩
      ·cases List.mem_singleton.mp hu
       exact⟨none,rfl,λw e=>by cases e⟩
     refine⟨_,rfl,_,rfl,d9,_,rfl,DPut.k (k:=Sum.inr x) e9D (zk (by rw[zdi ch8.len];omega)),?_⟩
     rw[zek hsN ch8.len.symm ex]
     have tE:∀kv c xs,HD c=some (.tup xs)->upd HD d9 (.dK kv) c=some (.tup xs):=λkv c xs e=>by rw[zi (zbd e e9D (by intro z;cases z))];exact e
     have chE:=(ch9D.mono (H':=upd HD d9 (.dK (zw hs (vs6.set j u)))) (tE _)).set (o:=o) (v:=u) hsN ex (Told.tups tl (tE _))
     have k8E:Keep a H8 (upd HD d9 (.dK (zw hs (vs6.set j u)))):=Keep.updNew k8D hd9
     have hHE:Hand (upd HD d9 (.dK (zw hs (vs6.set j u)))) a (9000+60*(t:Int)+40+(j:Int)+1):=hHD.updNe n9
     have eE:=zb (H:=HD) (a:=d9) (o:= .dK (zw hs (vs6.set j u)))
     generalize (upd HD d9 (.dK (zw hs (vs6.set j u))))=HE at *
     have cwE:CW g hs ps lks hds (λz=>if z=x then o else C6 z):=λz hz w e=>by
      by_cases h:z=x
      ·simp only[if_pos h] at e
       rw[h]
       exact lw x hx w (ho w e)
      ·simp only[if_neg h] at e
       exact cw6 z hz w e
     have k3E:=k38.trans k8E
     dsimp only[zap]
     refine⟨_,rfl,_,rfl, .ref p,d9,_,_,g,hs,ps,lks,hds,O,rfl,hv3.mono (Mono.keep k3E hH3 hHE),T,PO,eE,chE,cwE,sp,λHF sF=>?_⟩
     refine⟨_,rfl,zat rfl ?_⟩
     exact⟨⟨_,_,_,_,rfl⟩,(hHE.same sF).mono (by omega),k8.trans (k8E.trans (Keep.of sF))⟩
    ·rintro σ' H8 ⟨⟨o1,o5,o7,o8,rfl⟩,hH8,k8⟩
     exact⟨⟨_,_,_,_,_,rfl⟩,hH8.mono (by rw[List.length_map];omega),k37.trans k8⟩
   ·rintro σ' H4 ⟨⟨o1,o5,o6,o7,o8,rfl⟩,hH4,k4⟩
    exact⟨⟨_,_,_,_,_,_,_,_,rfl⟩,s0.trans λc o e=>k4 c o (zl e ha) (s03 c o e)⟩
  rintro σ' H' ⟨⟨o1,o2,o3,o4,o5,o6,o7,o8,rfl⟩,s0⟩
  exact q _
end
theorem walk{l:PySem.W.OpenLaw}{q:Program}{loose:List Str}{XP:(Str->Option Value)->Heap->Prop}{YP:World->Heap->Prop}{d:DefRec}{K:Params->PySem.W.Frag}(hn:l.most=some 63)(hdf:d.params.defaults=[])
 (hY:∀(w:World) (h:Heap),YP w h->(K w.params).In h)
 (F:∀(w:World) (mg:Str->Option Value) (fa:Addr) (h:Heap),(K w.params).In h->h.Ns mainGlobals mg->mg d.name=some (.ref fa)->
   ∃fd:FuncData,(∀(s:Shared) (u:Value),BindsTo s fd ⟨[u],[]⟩ [("_law_script",u)])/\∀base:Heap,(K w.params).In base->base.Ns mainGlobals mg->FnOk l.prog w (K w.params) mg base CX0 22 fa fd ["_law_script"] (zkJ (K w.params))):
 PySem.W.WalkO q loose XP YP l.row.toRowW d [] (λf vs=>PySem.call f vs):=
 L2.walk_of (n:=63) (k:=22) (x:="_law_script") (CX:=λ_=>CX0) (sp:=λw=>zkJ (K w.params)) hn (by decide) hdf ⟨rfl,by decide,by decide,rfl⟩ hY F (λ_ _ a ns hl _ hS=>⟨a,ns,rfl,hS,hl,λ_=>rfl⟩) λ_ _ _ _ _ z=>z
theorem all_mk{l:PySem.W.OpenLaw}{w:World}{K:PySem.W.Frag}{h:Heap}{mg:Str->Option Value}{fa:Addr}(X:K.In h)(G:h.Ns mainGlobals mg)(hfa:mg "law"=some (.ref fa))
 {f1:Addr} {od1 an1:Option Addr} {sl1:Array (Option Value)} {oc1 kV1 dc1 pm1 cd1 ct1:Value}
 (a1:PySem.W.nsIn K mainGlobals "is_name"=some (some (.ref f1))) (l1:K.lookup f1=some ⟨oc1,od1, .func (PySem.W.fnOf "is_name" "is_name" (zo zbF) (zm zbF) (zc zbF) .none kV1 dc1 pm1 an1 cd1 ct1),sl1⟩) (c1:PySem.W.codeIn K cd1 "is_name"=true) (k1:PySem.W.keepIn K (.ref f1)=true)
 {f2:Addr} {od2 an2:Option Addr} {sl2:Array (Option Value)} {oc2 kV2 dc2 pm2 cd2 ct2:Value}
 (a2:PySem.W.nsIn K mainGlobals "is_row"=some (some (.ref f2))) (l2:K.lookup f2=some ⟨oc2,od2, .func (PySem.W.fnOf "is_row" "is_row" (zo zcE) (zm zcE) (zc zcE) .none kV2 dc2 pm2 an2 cd2 ct2),sl2⟩) (c2:PySem.W.codeIn K cd2 "is_row"=true) (k2:PySem.W.keepIn K (.ref f2)=true)
 {f3:Addr} {od3 an3:Option Addr} {sl3:Array (Option Value)} {oc3 kV3 dc3 pm3 cd3 ct3:Value}
 (a3:PySem.W.nsIn K mainGlobals "is_rising"=some (some (.ref f3))) (l3:K.lookup f3=some ⟨oc3,od3, .func (PySem.W.fnOf "is_rising" "is_rising" (zo zaN) (zm zaN) (zc zaN) .none kV3 dc3 pm3 an3 cd3 ct3),sl3⟩) (c3:PySem.W.codeIn K cd3 "is_rising"=true) (k3:PySem.W.keepIn K (.ref f3)=true)
 {f4:Addr} {od4 an4:Option Addr} {sl4:Array (Option Value)} {oc4 kV4 dc4 pm4 cd4 ct4:Value}
 {dt4:Addr} {odd4:Option Addr} {nd4:Nat} {sld4:Array (Option Value)}
 (a4:PySem.W.nsIn K mainGlobals "holds"=some (some (.ref f4))) (l4:K.lookup f4=some ⟨oc4,od4, .func (PySem.W.fnOf "holds" "holds" (zo zdu) (zm zdu) (zc zdu) (.ref dt4) kV4 dc4 pm4 an4 cd4 ct4),sl4⟩) (c4:PySem.W.codeIn K cd4 "holds"=true) (k4:PySem.W.keepIn K (.ref f4)=true)
 (ld4:K.lookup dt4=some ⟨.type "tuple",odd4, .seq #[.none] nd4,sld4⟩)
 {f5:Addr} {od5 an5:Option Addr} {sl5:Array (Option Value)} {oc5 kV5 dc5 pm5 cd5 ct5:Value}
 {dt5:Addr} {odd5:Option Addr} {nd5:Nat} {sld5:Array (Option Value)}
 (a5:PySem.W.nsIn K mainGlobals "all_hold"=some (some (.ref f5))) (l5:K.lookup f5=some ⟨oc5,od5, .func (PySem.W.fnOf "all_hold" "all_hold" (zo zbE) (zm zbE) (zc zbE) (.ref dt5) kV5 dc5 pm5 an5 cd5 ct5),sl5⟩) (c5:PySem.W.codeIn K cd5 "all_hold"=true) (k5:PySem.W.keepIn K (.ref f5)=true)
 (ld5:K.lookup dt5=some ⟨.type "tuple",odd5, .seq #[.none] nd5,sld5⟩)
 {f6:Addr} {od6 an6:Option Addr} {sl6:Array (Option Value)} {oc6 kV6 dc6 pm6 cd6 ct6:Value}
 (a6:PySem.W.nsIn K mainGlobals "is_house"=some (some (.ref f6))) (l6:K.lookup f6=some ⟨oc6,od6, .func (PySem.W.fnOf "is_house" "is_house" (zo zbH) (zm zbH) (zc zbH) .none kV6 dc6 pm6 an6 cd6 ct6),sl6⟩) (c6:PySem.W.codeIn K cd6 "is_house"=true) (k6:PySem.W.keepIn K (.ref f6)=true)
 {f7:Addr} {od7 an7:Option Addr} {sl7:Array (Option Value)} {oc7 kV7 dc7 pm7 cd7 ct7:Value}
 (a7:PySem.W.nsIn K mainGlobals "likings_of"=some (some (.ref f7))) (l7:K.lookup f7=some ⟨oc7,od7, .func (PySem.W.fnOf "likings_of" "likings_of" (zo za0) (zm za0) (zc za0) .none kV7 dc7 pm7 an7 cd7 ct7),sl7⟩) (c7:PySem.W.codeIn K cd7 "likings_of"=true) (k7:PySem.W.keepIn K (.ref f7)=true)
 {f8:Addr} {od8 an8:Option Addr} {sl8:Array (Option Value)} {oc8 kV8 dc8 pm8 cd8 ct8:Value}
 (a8:PySem.W.nsIn K mainGlobals "hands_of"=some (some (.ref f8))) (l8:K.lookup f8=some ⟨oc8,od8, .func (PySem.W.fnOf "hands_of" "hands_of" (zo zbB) (zm zbB) (zc zbB) .none kV8 dc8 pm8 an8 cd8 ct8),sl8⟩) (c8:PySem.W.codeIn K cd8 "hands_of"=true) (k8:PySem.W.keepIn K (.ref f8)=true)
 {f9:Addr} {od9 an9:Option Addr} {sl9:Array (Option Value)} {oc9 kV9 dc9 pm9 cd9 ct9:Value}
 (a9:PySem.W.nsIn K mainGlobals "tied"=some (some (.ref f9))) (l9:K.lookup f9=some ⟨oc9,od9, .func (PySem.W.fnOf "tied" "tied" (zo zde) (zm zde) (zc zde) .none kV9 dc9 pm9 an9 cd9 ct9),sl9⟩) (c9:PySem.W.codeIn K cd9 "tied"=true) (k9:PySem.W.keepIn K (.ref f9)=true)
 {f10:Addr} {od10 an10:Option Addr} {sl10:Array (Option Value)} {oc10 kV10 dc10 pm10 cd10 ct10:Value}
 (a10:PySem.W.nsIn K mainGlobals "is_way"=some (some (.ref f10))) (l10:K.lookup f10=some ⟨oc10,od10, .func (PySem.W.fnOf "is_way" "is_way" (zo zbR) (zm zbR) (zc zbR) .none kV10 dc10 pm10 an10 cd10 ct10),sl10⟩) (c10:PySem.W.codeIn K cd10 "is_way"=true) (k10:PySem.W.keepIn K (.ref f10)=true)
 {f11:Addr} {od11 an11:Option Addr} {sl11:Array (Option Value)} {oc11 kV11 dc11 pm11 cd11 ct11:Value}
 (a11:PySem.W.nsIn K mainGlobals "marks_behind"=some (some (.ref f11))) (l11:K.lookup f11=some ⟨oc11,od11, .func (PySem.W.fnOf "marks_behind" "marks_behind" (zo zab) (zm zab) (zc zab) .none kV11 dc11 pm11 an11 cd11 ct11),sl11⟩) (c11:PySem.W.codeIn K cd11 "marks_behind"=true) (k11:PySem.W.keepIn K (.ref f11)=true)
 {f12:Addr} {od12 an12:Option Addr} {sl12:Array (Option Value)} {oc12 kV12 dc12 pm12 cd12 ct12:Value}
 (a12:PySem.W.nsIn K mainGlobals "handed"=some (some (.ref f12))) (l12:K.lookup f12=some ⟨oc12,od12, .func (PySem.W.fnOf "handed" "handed" (zo zcG) (zm zcG) (zc zcG) .none kV12 dc12 pm12 an12 cd12 ct12),sl12⟩) (c12:PySem.W.codeIn K cd12 "handed"=true) (k12:PySem.W.keepIn K (.ref f12)=true)
 {f13:Addr} {od13 an13:Option Addr} {sl13:Array (Option Value)} {oc13 kV13 dc13 pm13 cd13 ct13:Value}
 (a13:PySem.W.nsIn K mainGlobals "worth"=some (some (.ref f13))) (l13:K.lookup f13=some ⟨oc13,od13, .func (PySem.W.fnOf "worth" "worth" (zo zds) (zm zds) (zc zds) .none kV13 dc13 pm13 an13 cd13 ct13),sl13⟩) (c13:PySem.W.codeIn K cd13 "worth"=true) (k13:PySem.W.keepIn K (.ref f13)=true)
 {f14:Addr} {od14 an14:Option Addr} {sl14:Array (Option Value)} {oc14 kV14 dc14 pm14 cd14 ct14:Value}
 (a14:PySem.W.nsIn K mainGlobals "liking_key"=some (some (.ref f14))) (l14:K.lookup f14=some ⟨oc14,od14, .func (PySem.W.fnOf "liking_key" "liking_key" (zo zaW) (zm zaW) (zc zaW) .none kV14 dc14 pm14 an14 cd14 ct14),sl14⟩) (c14:PySem.W.codeIn K cd14 "liking_key"=true) (k14:PySem.W.keepIn K (.ref f14)=true)
 {f15:Addr} {od15 an15:Option Addr} {sl15:Array (Option Value)} {oc15 kV15 dc15 pm15 cd15 ct15:Value}
 (a15:PySem.W.nsIn K mainGlobals "most_liked_first"=some (some (.ref f15))) (l15:K.lookup f15=some ⟨oc15,od15, .func (PySem.W.fnOf "most_liked_first" "most_liked_first" (zo zC) (zm zC) (zc zC) .none kV15 dc15 pm15 an15 cd15 ct15),sl15⟩) (c15:PySem.W.codeIn K cd15 "most_liked_first"=true) (k15:PySem.W.keepIn K (.ref f15)=true)
 {f16:Addr} {od16 an16:Option Addr} {sl16:Array (Option Value)} {oc16 kV16 dc16 pm16 cd16 ct16:Value}
 (a16:PySem.W.nsIn K mainGlobals "marks_ahead"=some (some (.ref f16))) (l16:K.lookup f16=some ⟨oc16,od16, .func (PySem.W.fnOf "marks_ahead" "marks_ahead" (zo zaF) (zm zaF) (zc zaF) .none kV16 dc16 pm16 an16 cd16 ct16),sl16⟩) (c16:PySem.W.codeIn K cd16 "marks_ahead"=true) (k16:PySem.W.keepIn K (.ref f16)=true)
 {f17:Addr} {od17 an17:Option Addr} {sl17:Array (Option Value)} {oc17 kV17 dc17 pm17 cd17 ct17:Value}
 (a17:PySem.W.nsIn K mainGlobals "marks_of"=some (some (.ref f17))) (l17:K.lookup f17=some ⟨oc17,od17, .func (PySem.W.fnOf "marks_of" "marks_of" (zo zbG) (zm zbG) (zc zbG) .none kV17 dc17 pm17 an17 cd17 ct17),sl17⟩) (c17:PySem.W.codeIn K cd17 "marks_of"=true) (k17:PySem.W.keepIn K (.ref f17)=true)
 {f18:Addr} {od18 an18:Option Addr} {sl18:Array (Option Value)} {oc18 kV18 dc18 pm18 cd18 ct18:Value}
 (a18:PySem.W.nsIn K mainGlobals "offered"=some (some (.ref f18))) (l18:K.lookup f18=some ⟨oc18,od18, .func (PySem.W.fnOf "offered" "offered" (zo zcf) (zm zcf) (zc zcf) .none kV18 dc18 pm18 an18 cd18 ct18),sl18⟩) (c18:PySem.W.codeIn K cd18 "offered"=true) (k18:PySem.W.keepIn K (.ref f18)=true)
 {f19:Addr} {od19 an19:Option Addr} {sl19:Array (Option Value)} {oc19 kV19 dc19 pm19 cd19 ct19:Value}
 (a19:PySem.W.nsIn K mainGlobals "is_rest"=some (some (.ref f19))) (l19:K.lookup f19=some ⟨oc19,od19, .func (PySem.W.fnOf "is_rest" "is_rest" (zo zcc) (zm zcc) (zc zcc) .none kV19 dc19 pm19 an19 cd19 ct19),sl19⟩) (c19:PySem.W.codeIn K cd19 "is_rest"=true) (k19:PySem.W.keepIn K (.ref f19)=true)
 {f20:Addr} {od20 an20:Option Addr} {sl20:Array (Option Value)} {oc20 kV20 dc20 pm20 cd20 ct20:Value}
 (a20:PySem.W.nsIn K mainGlobals "_law_hand"=some (some (.ref f20))) (l20:K.lookup f20=some ⟨oc20,od20, .func (PySem.W.fnOf "_law_hand" "_law_hand" (zo zbi) (zm zbi) (zc zbi) .none kV20 dc20 pm20 an20 cd20 ct20),sl20⟩) (c20:PySem.W.codeIn K cd20 "_law_hand"=true) (k20:PySem.W.keepIn K (.ref f20)=true)
 {f21:Addr} {od21 an21:Option Addr} {sl21:Array (Option Value)} {oc21 kV21 dc21 pm21 cd21 ct21:Value}
 (a21:PySem.W.nsIn K mainGlobals "_law_take"=some (some (.ref f21))) (l21:K.lookup f21=some ⟨oc21,od21, .func (PySem.W.fnOf "_law_take" "_law_take" (zo zbn) (zm zbn) (zc zbn) .none kV21 dc21 pm21 an21 cd21 ct21),sl21⟩) (c21:PySem.W.codeIn K cd21 "_law_take"=true) (k21:PySem.W.keepIn K (.ref f21)=true)
 {f22:Addr} {od22 an22:Option Addr} {sl22:Array (Option Value)} {oc22 kV22 dc22 pm22 cd22 ct22:Value}
 (a22:PySem.W.nsIn K mainGlobals "_law_pick"=some (some (.ref f22))) (l22:K.lookup f22=some ⟨oc22,od22, .func (PySem.W.fnOf "_law_pick" "_law_pick" (zo zbl) (zm zbl) (zc zbl) .none kV22 dc22 pm22 an22 cd22 ct22),sl22⟩) (c22:PySem.W.codeIn K cd22 "_law_pick"=true) (k22:PySem.W.keepIn K (.ref f22)=true)
 {f23:Addr} {od23 an23:Option Addr} {sl23:Array (Option Value)} {oc23 kV23 dc23 pm23 cd23 ct23:Value}
 (a23:PySem.W.nsIn K mainGlobals "_law_names"=some (some (.ref f23))) (l23:K.lookup f23=some ⟨oc23,od23, .func (PySem.W.fnOf "_law_names" "_law_names" (zo zay) (zm zay) (zc zay) .none kV23 dc23 pm23 an23 cd23 ct23),sl23⟩) (c23:PySem.W.codeIn K cd23 "_law_names"=true) (k23:PySem.W.keepIn K (.ref f23)=true)
 {f24:Addr} {od24 an24:Option Addr} {sl24:Array (Option Value)} {oc24 kV24 dc24 pm24 cd24 ct24:Value}
 (a24:PySem.W.nsIn K mainGlobals "_law_cond"=some (some (.ref f24))) (l24:K.lookup f24=some ⟨oc24,od24, .func (PySem.W.fnOf "_law_cond" "_law_cond" (zo zbb) (zm zbb) (zc zbb) .none kV24 dc24 pm24 an24 cd24 ct24),sl24⟩) (c24:PySem.W.codeIn K cd24 "_law_cond"=true) (k24:PySem.W.keepIn K (.ref f24)=true)
 {f25:Addr} {od25 an25:Option Addr} {sl25:Array (Option Value)} {oc25 kV25 dc25 pm25 cd25 ct25:Value}
 (a25:PySem.W.nsIn K mainGlobals "_law_conds"=some (some (.ref f25))) (l25:K.lookup f25=some ⟨oc25,od25, .func (PySem.W.fnOf "_law_conds" "_law_conds" (zo zax) (zm zax) (zc zax) .none kV25 dc25 pm25 an25 cd25 ct25),sl25⟩) (c25:PySem.W.codeIn K cd25 "_law_conds"=true) (k25:PySem.W.keepIn K (.ref f25)=true)
 {f26:Addr} {od26 an26:Option Addr} {sl26:Array (Option Value)} {oc26 kV26 dc26 pm26 cd26 ct26:Value}
 (a26:PySem.W.nsIn K mainGlobals "_law_likings"=some (some (.ref f26))) (l26:K.lookup f26=some ⟨oc26,od26, .func (PySem.W.fnOf "_law_likings" "_law_likings" (zo zar) (zm zar) (zc zar) .none kV26 dc26 pm26 an26 cd26 ct26),sl26⟩) (c26:PySem.W.codeIn K cd26 "_law_likings"=true) (k26:PySem.W.keepIn K (.ref f26)=true)
 {f27:Addr} {od27 an27:Option Addr} {sl27:Array (Option Value)} {oc27 kV27 dc27 pm27 cd27 ct27:Value}
 (a27:PySem.W.nsIn K mainGlobals "_law_hands"=some (some (.ref f27))) (l27:K.lookup f27=some ⟨oc27,od27, .func (PySem.W.fnOf "_law_hands" "_law_hands" (zo zaZ) (zm zaZ) (zc zaZ) .none kV27 dc27 pm27 an27 cd27 ct27),sl27⟩) (c27:PySem.W.codeIn K cd27 "_law_hands"=true) (k27:PySem.W.keepIn K (.ref f27)=true)
 {f28:Addr} {od28 an28:Option Addr} {sl28:Array (Option Value)} {oc28 kV28 dc28 pm28 cd28 ct28:Value}
 (a28:PySem.W.nsIn K mainGlobals "_law_ties"=some (some (.ref f28))) (l28:K.lookup f28=some ⟨oc28,od28, .func (PySem.W.fnOf "_law_ties" "_law_ties" (zo zbm) (zm zbm) (zc zbm) .none kV28 dc28 pm28 an28 cd28 ct28),sl28⟩) (c28:PySem.W.codeIn K cd28 "_law_ties"=true) (k28:PySem.W.keepIn K (.ref f28)=true)
 {f29:Addr} {od29 an29:Option Addr} {sl29:Array (Option Value)} {oc29 kV29 dc29 pm29 cd29 ct29:Value}
 (a29:PySem.W.nsIn K mainGlobals "_law_town"=some (some (.ref f29))) (l29:K.lookup f29=some ⟨oc29,od29, .func (PySem.W.fnOf "_law_town" "_law_town" (zo zav) (zm zav) (zc zav) .none kV29 dc29 pm29 an29 cd29 ct29),sl29⟩) (c29:PySem.W.codeIn K cd29 "_law_town"=true) (k29:PySem.W.keepIn K (.ref f29)=true)
 {f30:Addr} {od30 an30:Option Addr} {sl30:Array (Option Value)} {oc30 kV30 dc30 pm30 cd30 ct30:Value}
 (a30:PySem.W.nsIn K mainGlobals "_law_sure"=some (some (.ref f30))) (l30:K.lookup f30=some ⟨oc30,od30, .func (PySem.W.fnOf "_law_sure" "_law_sure" (zo zbe) (zm zbe) (zc zbe) .none kV30 dc30 pm30 an30 cd30 ct30),sl30⟩) (c30:PySem.W.codeIn K cd30 "_law_sure"=true) (k30:PySem.W.keepIn K (.ref f30)=true)
 {f31:Addr} {od31 an31:Option Addr} {sl31:Array (Option Value)} {oc31 kV31 dc31 pm31 cd31 ct31:Value}
 (a31:PySem.W.nsIn K mainGlobals "_law_of"=some (some (.ref f31))) (l31:K.lookup f31=some ⟨oc31,od31, .func (PySem.W.fnOf "_law_of" "_law_of" (zo zce) (zm zce) (zc zce) .none kV31 dc31 pm31 an31 cd31 ct31),sl31⟩) (c31:PySem.W.codeIn K cd31 "_law_of"=true) (k31:PySem.W.keepIn K (.ref f31)=true)
 {f32:Addr} {od32 an32:Option Addr} {sl32:Array (Option Value)} {oc32 kV32 dc32 pm32 cd32 ct32:Value}
 (a32:PySem.W.nsIn K mainGlobals "_law_worth"=some (some (.ref f32))) (l32:K.lookup f32=some ⟨oc32,od32, .func (PySem.W.fnOf "_law_worth" "_law_worth" (zo zaB) (zm zaB) (zc zaB) .none kV32 dc32 pm32 an32 cd32 ct32),sl32⟩) (c32:PySem.W.codeIn K cd32 "_law_worth"=true) (k32:PySem.W.keepIn K (.ref f32)=true)
 {f33:Addr} {od33 an33:Option Addr} {sl33:Array (Option Value)} {oc33 kV33 dc33 pm33 cd33 ct33:Value}
 (a33:PySem.W.nsIn K mainGlobals "_law_handed"=some (some (.ref f33))) (l33:K.lookup f33=some ⟨oc33,od33, .func (PySem.W.fnOf "_law_handed" "_law_handed" (zo z9) (zm z9) (zc z9) .none kV33 dc33 pm33 an33 cd33 ct33),sl33⟩) (c33:PySem.W.codeIn K cd33 "_law_handed"=true) (k33:PySem.W.keepIn K (.ref f33)=true)
 {f34:Addr} {od34 an34:Option Addr} {sl34:Array (Option Value)} {oc34 kV34 dc34 pm34 cd34 ct34:Value}
 (a34:PySem.W.nsIn K mainGlobals "_law_marks"=some (some (.ref f34))) (l34:K.lookup f34=some ⟨oc34,od34, .func (PySem.W.fnOf "_law_marks" "_law_marks" (zo zaV) (zm zaV) (zc zaV) .none kV34 dc34 pm34 an34 cd34 ct34),sl34⟩) (c34:PySem.W.codeIn K cd34 "_law_marks"=true) (k34:PySem.W.keepIn K (.ref f34)=true)
 {f35:Addr} {od35 an35:Option Addr} {sl35:Array (Option Value)} {oc35 kV35 dc35 pm35 cd35 ct35:Value}
 (a35:PySem.W.nsIn K mainGlobals "_law_beside"=some (some (.ref f35))) (l35:K.lookup f35=some ⟨oc35,od35, .func (PySem.W.fnOf "_law_beside" "_law_beside" (zo zai) (zm zai) (zc zai) .none kV35 dc35 pm35 an35 cd35 ct35),sl35⟩) (c35:PySem.W.codeIn K cd35 "_law_beside"=true) (k35:PySem.W.keepIn K (.ref f35)=true)
 {f36:Addr} {od36 an36:Option Addr} {sl36:Array (Option Value)} {oc36 kV36 dc36 pm36 cd36 ct36:Value}
 (a36:PySem.W.nsIn K mainGlobals "_law_ways"=some (some (.ref f36))) (l36:K.lookup f36=some ⟨oc36,od36, .func (PySem.W.fnOf "_law_ways" "_law_ways" (zo zaK) (zm zaK) (zc zaK) .none kV36 dc36 pm36 an36 cd36 ct36),sl36⟩) (c36:PySem.W.codeIn K cd36 "_law_ways"=true) (k36:PySem.W.keepIn K (.ref f36)=true)
 {f37:Addr} {od37 an37:Option Addr} {sl37:Array (Option Value)} {oc37 kV37 dc37 pm37 cd37 ct37:Value}
 (a37:PySem.W.nsIn K mainGlobals "_law_rank"=some (some (.ref f37))) (l37:K.lookup f37=some ⟨oc37,od37, .func (PySem.W.fnOf "_law_rank" "_law_rank" (zo zbf) (zm zbf) (zc zbf) .none kV37 dc37 pm37 an37 cd37 ct37),sl37⟩) (c37:PySem.W.codeIn K cd37 "_law_rank"=true) (k37:PySem.W.keepIn K (.ref f37)=true)
 {f38:Addr} {od38 an38:Option Addr} {sl38:Array (Option Value)} {oc38 kV38 dc38 pm38 cd38 ct38:Value}
 (a38:PySem.W.nsIn K mainGlobals "_law_lets"=some (some (.ref f38))) (l38:K.lookup f38=some ⟨oc38,od38, .func (PySem.W.fnOf "_law_lets" "_law_lets" (zo zau) (zm zau) (zc zau) .none kV38 dc38 pm38 an38 cd38 ct38),sl38⟩) (c38:PySem.W.codeIn K cd38 "_law_lets"=true) (k38:PySem.W.keepIn K (.ref f38)=true)
 {f39:Addr} {od39 an39:Option Addr} {sl39:Array (Option Value)} {oc39 kV39 dc39 pm39 cd39 ct39:Value}
 (a39:PySem.W.nsIn K mainGlobals "_law_offered"=some (some (.ref f39))) (l39:K.lookup f39=some ⟨oc39,od39, .func (PySem.W.fnOf "_law_offered" "_law_offered" (zo zV) (zm zV) (zc zV) .none kV39 dc39 pm39 an39 cd39 ct39),sl39⟩) (c39:PySem.W.codeIn K cd39 "_law_offered"=true) (k39:PySem.W.keepIn K (.ref f39)=true)
 {f40:Addr} {od40 an40:Option Addr} {sl40:Array (Option Value)} {oc40 kV40 dc40 pm40 cd40 ct40:Value}
 (a40:PySem.W.nsIn K mainGlobals "_law_is_rest"=some (some (.ref f40))) (l40:K.lookup f40=some ⟨oc40,od40, .func (PySem.W.fnOf "_law_is_rest" "_law_is_rest" (zo zao) (zm zao) (zc zao) .none kV40 dc40 pm40 an40 cd40 ct40),sl40⟩) (c40:PySem.W.codeIn K cd40 "_law_is_rest"=true) (k40:PySem.W.keepIn K (.ref f40)=true)
 {f41:Addr} {od41 an41:Option Addr} {sl41:Array (Option Value)} {oc41 kV41 dc41 pm41 cd41 ct41:Value}
 (a41:PySem.W.nsIn K mainGlobals "_law_choice"=some (some (.ref f41))) (l41:K.lookup f41=some ⟨oc41,od41, .func (PySem.W.fnOf "_law_choice" "_law_choice" (zo zaI) (zm zaI) (zc zaI) .none kV41 dc41 pm41 an41 cd41 ct41),sl41⟩) (c41:PySem.W.codeIn K cd41 "_law_choice"=true) (k41:PySem.W.keepIn K (.ref f41)=true)
 {f42:Addr} {od42 an42:Option Addr} {sl42:Array (Option Value)} {oc42 kV42 dc42 pm42 cd42 ct42:Value}
 (a42:PySem.W.nsIn K mainGlobals "_law_settled"=some (some (.ref f42))) (l42:K.lookup f42=some ⟨oc42,od42, .func (PySem.W.fnOf "_law_settled" "_law_settled" (zo zas) (zm zas) (zc zas) .none kV42 dc42 pm42 an42 cd42 ct42),sl42⟩) (c42:PySem.W.codeIn K cd42 "_law_settled"=true) (k42:PySem.W.keepIn K (.ref f42)=true)
 {f43:Addr} {od43 an43:Option Addr} {sl43:Array (Option Value)} {oc43 kV43 dc43 pm43 cd43 ct43:Value}
 (a43:PySem.W.nsIn K mainGlobals "_law_told"=some (some (.ref f43))) (l43:K.lookup f43=some ⟨oc43,od43, .func (PySem.W.fnOf "_law_told" "_law_told" (zo zbg) (zm zbg) (zc zbg) .none kV43 dc43 pm43 an43 cd43 ct43),sl43⟩) (c43:PySem.W.codeIn K cd43 "_law_told"=true) (k43:PySem.W.keepIn K (.ref f43)=true)
 {f44:Addr} {od44 an44:Option Addr} {sl44:Array (Option Value)} {oc44 kV44 dc44 pm44 cd44 ct44:Value}
 (a44:PySem.W.nsIn K mainGlobals "law"=some (some (.ref f44))) (l44:K.lookup f44=some ⟨oc44,od44, .func (PySem.W.fnOf "law" "law" (zo zdH) (zm zdH) (zc zdH) .none kV44 dc44 pm44 an44 cd44 ct44),sl44⟩) (c44:PySem.W.codeIn K cd44 "law"=true) (k44:PySem.W.keepIn K (.ref f44)=true)
 {tk_LONGEST:Tok} (g_LONGEST:PySem.W.nsIn K mainGlobals "LONGEST"=some (some (.int 8 tk_LONGEST)))
 {aT_TAKEN:Addr} {odT_TAKEN:Option Addr} {slT_TAKEN:Array (Option Value)} {nT_TAKEN:Nat} {t0_TAKEN t1_TAKEN t2_TAKEN t3_TAKEN:Tok} (g_TAKEN:PySem.W.nsIn K mainGlobals "TAKEN"=some (some (.ref aT_TAKEN))) (l_TAKEN:K.lookup aT_TAKEN=some ⟨.type "tuple",odT_TAKEN, .seq #[.str "if" t0_TAKEN, .str "and" t1_TAKEN, .str "not" t2_TAKEN, .str "never" t3_TAKEN] nT_TAKEN,slT_TAKEN⟩)
 (z_isinstance:PySem.W.nsIn K mainGlobals "isinstance"=some none)
 (z_str:PySem.W.nsIn K mainGlobals "str"=some none)
 (z_len:PySem.W.nsIn K mainGlobals "len"=some none)
 (z_int:PySem.W.nsIn K mainGlobals "int"=some none)
 (z_tuple:PySem.W.nsIn K mainGlobals "tuple"=some none)
 (z_range:PySem.W.nsIn K mainGlobals "range"=some none)
 (z_max:PySem.W.nsIn K mainGlobals "max"=some none)
 (z_min:PySem.W.nsIn K mainGlobals "min"=some none)
 (z_sorted:PySem.W.nsIn K mainGlobals "sorted"=some none)
 (z_enumerate:PySem.W.nsIn K mainGlobals "enumerate"=some none)
 (z_zip:PySem.W.nsIn K mainGlobals "zip"=some none)
 (z_dict:PySem.W.nsIn K mainGlobals "dict"=some none)
 (z_all:PySem.W.nsIn K mainGlobals "all"=some none)
 (z_reversed:PySem.W.nsIn K mainGlobals "reversed"=some none)
 (z_repr:PySem.W.nsIn K mainGlobals "repr"=some none)
 (z_list:PySem.W.nsIn K mainGlobals "list"=some none)
 (z_bool:PySem.W.nsIn K mainGlobals "bool"=some none)
 :∃fd:FuncData,(∀(s:Shared) (v:Value),BindsTo s fd ⟨[v],[]⟩ [("_law_script",v)])/\∀base:Heap,K.In base->base.Ns mainGlobals mg->FnOk l.prog w K mg base CX0 22 fa fd ["_law_script"] (zkJ K):=by
 have e:=hfa.symm.trans (PySem.W.mg_of X G a44)
 cases e
 have F1:=zv (st:=zbF) l1 c1 k1
 have F2:=zv (st:=zcE) l2 c2 k2
 have F3:=zv (st:=zaN) l3 c3 k3
 have F4:=zks (st:=zdu) l4 ld4 c4 k4
 have F5:=zks (st:=zbE) l5 ld5 c5 k5
 have F6:=zv (st:=zbH) l6 c6 k6
 have F7:=zv (st:=za0) l7 c7 k7
 have F8:=zv (st:=zbB) l8 c8 k8
 have F9:=zv (st:=zde) l9 c9 k9
 have F10:=zv (st:=zbR) l10 c10 k10
 have F11:=zv (st:=zab) l11 c11 k11
 have F12:=zv (st:=zcG) l12 c12 k12
 have F13:=zv (st:=zds) l13 c13 k13
 have F14:=zv (st:=zaW) l14 c14 k14
 have F15:=zv (st:=zC) l15 c15 k15
 have F16:=zv (st:=zaF) l16 c16 k16
 have F17:=zv (st:=zbG) l17 c17 k17
 have F18:=zv (st:=zcf) l18 c18 k18
 have F19:=zv (st:=zcc) l19 c19 k19
 have F20:=zv (st:=zbi) l20 c20 k20
 have F21:=zv (st:=zbn) l21 c21 k21
 have F22:=zv (st:=zbl) l22 c22 k22
 have F23:=zv (st:=zay) l23 c23 k23
 have F24:=zv (st:=zbb) l24 c24 k24
 have F25:=zv (st:=zax) l25 c25 k25
 have F26:=zv (st:=zar) l26 c26 k26
 have F27:=zv (st:=zaZ) l27 c27 k27
 have F28:=zv (st:=zbm) l28 c28 k28
 have F29:=zv (st:=zav) l29 c29 k29
 have F30:=zv (st:=zbe) l30 c30 k30
 have F31:=zv (st:=zce) l31 c31 k31
 have F32:=zv (st:=zaB) l32 c32 k32
 have F33:=zv (st:=z9) l33 c33 k33
 have F34:=zv (st:=zaV) l34 c34 k34
 have F35:=zv (st:=zai) l35 c35 k35
 have F36:=zv (st:=zaK) l36 c36 k36
 have F37:=zv (st:=zbf) l37 c37 k37
 have F38:=zv (st:=zau) l38 c38 k38
 have F39:=zv (st:=zV) l39 c39 k39
 have F40:=zv (st:=zao) l40 c40 k40
 have F41:=zv (st:=zaI) l41 c41 k41
 have F42:=zv (st:=zas) l42 c42 k42
 have F43:=zv (st:=zbg) l43 c43 k43
 have F44:=zv (st:=zdH) l44 c44 k44
 have b1:=F1.binds (ps:=zcH) λ_ _ _ _ _ _=>of1 (λ_=>rfl)
 have b2:=F2.binds (ps:=zdk) λ_ _ _ _ _ _=>of3 (λ_ _ _=>rfl)
 have b3:=F3.binds (ps:=zbZ) λ_ _ _ _ _ _=>of1 (λ_=>rfl)
 have b4:=F4.binds (ps:=zb7) (ds:=[]) 4 rfl λ_ _ _ _ _ _ _=>of4 (λ_ _ _ _=>⟨_,rfl,rfl⟩)
 have e4:=F4.binds (ps:=zb7) (ds:=[.none]) 3 rfl λ_ _ _ _ _ _ _=>of3 (λ_ _ _=>⟨_,rfl,rfl⟩)
 have b5:=F5.binds (ps:=zba) (ds:=[]) 4 rfl λ_ _ _ _ _ _ _=>of4 (λ_ _ _ _=>⟨_,rfl,rfl⟩)
 have e5:=F5.binds (ps:=zba) (ds:=[.none]) 3 rfl λ_ _ _ _ _ _ _=>of3 (λ_ _ _=>⟨_,rfl,rfl⟩)
 have b6:=F6.binds (ps:=zcm) λ_ _ _ _ _ _=>of2 (λ_ _=>rfl)
 have b7:=F7.binds (ps:=zbr) λ_ _ _ _ _ _=>of2 (λ_ _=>rfl)
 have b8:=F8.binds (ps:=zcl) λ_ _ _ _ _ _=>of2 (λ_ _=>rfl)
 have b9:=F9.binds (ps:=zeJ) λ_ _ _ _ _ _=>of2 (λ_ _=>rfl)
 have b10:=F10.binds (ps:=zc7) λ_ _ _ _ _ _=>of2 (λ_ _=>rfl)
 have b11:=F11.binds (ps:=zaO) λ_ _ _ _ _ _=>of2 (λ_ _=>rfl)
 have b12:=F12.binds (ps:=zdf) λ_ _ _ _ _ _=>of4 (λ_ _ _ _=>rfl)
 have b13:=F13.binds (ps:=zdv) λ_ _ _ _ _ _=>of3 (λ_ _ _=>rfl)
 have b14:=F14.binds (ps:=zbs) λ_ _ _ _ _ _=>of3 (λ_ _ _=>rfl)
 have b15:=F15.binds (ps:=zac) λ_ _ _ _ _ _=>of2 (λ_ _=>rfl)
 have b16:=F16.binds (ps:=za4) λ_ _ _ _ _ _=>of4 (λ_ _ _ _=>rfl)
 have b17:=F17.binds (ps:=zcp) λ_ _ _ _ _ _=>of2 (λ_ _=>rfl)
 have b18:=F18.binds (ps:=zcK) λ_ _ _ _ _ _=>of3 (λ_ _ _=>rfl)
 have b19:=F19.binds (ps:=zcN) λ_ _ _ _ _ _=>of2 (λ_ _=>rfl)
 have b20:=F20.binds (ps:=zbX) λ_ _ _ _ _ _=>of2 (λ_ _=>rfl)
 have b21:=F21.binds (ps:=zQ) λ_ _ _ _ _ _=>of2 (λ_ _=>rfl)
 have b22:=F22.binds (ps:=zH) λ_ _ _ _ _ _=>of2 (λ_ _=>rfl)
 have b23:=F23.binds (ps:=zbw) λ_ _ _ _ _ _=>of2 (λ_ _=>rfl)
 have b24:=F24.binds (ps:=zbN) λ_ _ _ _ _ _=>of4 (λ_ _ _ _=>rfl)
 have b25:=F25.binds (ps:=zaT) λ_ _ _ _ _ _=>of4 (λ_ _ _ _=>rfl)
 have b26:=F26.binds (ps:=zaR) λ_ _ _ _ _ _=>of3 (λ_ _ _=>rfl)
 have b27:=F27.binds (ps:=zbo) λ_ _ _ _ _ _=>of3 (λ_ _ _=>rfl)
 have b28:=F28.binds (ps:=zbQ) λ_ _ _ _ _ _=>of3 (λ_ _ _=>rfl)
 have b29:=F29.binds (ps:=zbM) λ_ _ _ _ _ _=>of1 (λ_=>rfl)
 have b30:=F30.binds (ps:=zag) λ_ _ _ _ _ _=>of4 (λ_ _ _ _=>rfl)
 have b31:=F31.binds (ps:=zcd) λ_ _ _ _ _ _=>of3 (λ_ _ _=>rfl)
 have b32:=F32.binds (ps:=zaU) λ_ _ _ _ _ _=>of3 (λ_ _ _=>rfl)
 have b33:=F33.binds (ps:=za6) λ_ _ _ _ _ _=>of4 (λ_ _ _ _=>rfl)
 have b34:=F34.binds (ps:=zP) λ_ _ _ _ _ _=>of2 (λ_ _=>rfl)
 have b35:=F35.binds (ps:=zaG) λ_ _ _ _ _ _=>of2 (λ_ _=>rfl)
 have b36:=F36.binds (ps:=zbV) λ_ _ _ _ _ _=>of1 (λ_=>rfl)
 have b37:=F37.binds (ps:=zbk) λ_ _ _ _ _ _=>of2 (λ_ _=>rfl)
 have b38:=F38.binds (ps:=zbU) λ_ _ _ _ _ _=>of1 (λ_=>rfl)
 have b39:=F39.binds (ps:=zan) λ_ _ _ _ _ _=>of3 (λ_ _ _=>rfl)
 have b40:=F40.binds (ps:=zaL) λ_ _ _ _ _ _=>of2 (λ_ _=>rfl)
 have b41:=F41.binds (ps:=za5) λ_ _ _ _ _ _=>of3 (λ_ _ _=>rfl)
 have b42:=F42.binds (ps:=zaP) λ_ _ _ _ _ _=>of3 (λ_ _ _=>rfl)
 have b43:=F43.binds (ps:=zbP) λ_ _ _ _ _ _=>of2 (λ_ _=>rfl)
 have b44:=F44.binds (ps:=zkw) λ_ _ _ _ _ _=>of1 (λ_=>rfl)
 have Y:Ev K mg:={
  a_is_name:=f1,d_is_name:=_,is_name:=⟨F1,b1,PySem.W.mg_of X G a1,k1⟩,
  a_is_row:=f2,d_is_row:=_,is_row:=⟨F2,b2,PySem.W.mg_of X G a2,k2⟩,
  a_is_rising:=f3,d_is_rising:=_,is_rising:=⟨F3,b3,PySem.W.mg_of X G a3,k3⟩,
  a_holds:=f4,d_holds:=_,holds:=⟨F4,b4,e4,PySem.W.mg_of X G a4,k4⟩,
  a_all_hold:=f5,d_all_hold:=_,all_hold:=⟨F5,b5,e5,PySem.W.mg_of X G a5,k5⟩,
  a_is_house:=f6,d_is_house:=_,is_house:=⟨F6,b6,PySem.W.mg_of X G a6,k6⟩,
  a_likings_of:=f7,d_likings_of:=_,likings_of:=⟨F7,b7,PySem.W.mg_of X G a7,k7⟩,
  a_hands_of:=f8,d_hands_of:=_,hands_of:=⟨F8,b8,PySem.W.mg_of X G a8,k8⟩,
  a_tied:=f9,d_tied:=_,tied:=⟨F9,b9,PySem.W.mg_of X G a9,k9⟩,
  a_is_way:=f10,d_is_way:=_,is_way:=⟨F10,b10,PySem.W.mg_of X G a10,k10⟩,
  a_marks_behind:=f11,d_marks_behind:=_,marks_behind:=⟨F11,b11,PySem.W.mg_of X G a11,k11⟩,
  a_handed:=f12,d_handed:=_,handed:=⟨F12,b12,PySem.W.mg_of X G a12,k12⟩,
  a_worth:=f13,d_worth:=_,worth:=⟨F13,b13,PySem.W.mg_of X G a13,k13⟩,
  a_liking_key:=f14,d_liking_key:=_,liking_key:=⟨F14,b14,PySem.W.mg_of X G a14,k14⟩,
  a_most_liked_first:=f15,d_most_liked_first:=_,most_liked_first:=⟨F15,b15,PySem.W.mg_of X G a15,k15⟩,
  a_marks_ahead:=f16,d_marks_ahead:=_,marks_ahead:=⟨F16,b16,PySem.W.mg_of X G a16,k16⟩,
  a_marks_of:=f17,d_marks_of:=_,marks_of:=⟨F17,b17,PySem.W.mg_of X G a17,k17⟩,
  a_offered:=f18,d_offered:=_,offered:=⟨F18,b18,PySem.W.mg_of X G a18,k18⟩,
  a_is_rest:=f19,d_is_rest:=_,is_rest:=⟨F19,b19,PySem.W.mg_of X G a19,k19⟩,
  a__law_hand:=f20,d__law_hand:=_,_law_hand:=⟨F20,b20,PySem.W.mg_of X G a20,k20⟩,
  a__law_take:=f21,d__law_take:=_,_law_take:=⟨F21,b21,PySem.W.mg_of X G a21,k21⟩,
  a__law_pick:=f22,d__law_pick:=_,_law_pick:=⟨F22,b22,PySem.W.mg_of X G a22,k22⟩,
  a__law_names:=f23,d__law_names:=_,_law_names:=⟨F23,b23,PySem.W.mg_of X G a23,k23⟩,
  a__law_cond:=f24,d__law_cond:=_,_law_cond:=⟨F24,b24,PySem.W.mg_of X G a24,k24⟩,
  a__law_conds:=f25,d__law_conds:=_,_law_conds:=⟨F25,b25,PySem.W.mg_of X G a25,k25⟩,
  a__law_likings:=f26,d__law_likings:=_,_law_likings:=⟨F26,b26,PySem.W.mg_of X G a26,k26⟩,
  a__law_hands:=f27,d__law_hands:=_,_law_hands:=⟨F27,b27,PySem.W.mg_of X G a27,k27⟩,
  a__law_ties:=f28,d__law_ties:=_,_law_ties:=⟨F28,b28,PySem.W.mg_of X G a28,k28⟩,
  a__law_town:=f29,d__law_town:=_,_law_town:=⟨F29,b29,PySem.W.mg_of X G a29,k29⟩,
  a__law_sure:=f30,d__law_sure:=_,_law_sure:=⟨F30,b30,PySem.W.mg_of X G a30,k30⟩,
  a__law_of:=f31,d__law_of:=_,_law_of:=⟨F31,b31,PySem.W.mg_of X G a31,k31⟩,
  a__law_worth:=f32,d__law_worth:=_,_law_worth:=⟨F32,b32,PySem.W.mg_of X G a32,k32⟩,
  a__law_handed:=f33,d__law_handed:=_,_law_handed:=⟨F33,b33,PySem.W.mg_of X G a33,k33⟩,
  a__law_marks:=f34,d__law_marks:=_,_law_marks:=⟨F34,b34,PySem.W.mg_of X G a34,k34⟩,
  a__law_beside:=f35,d__law_beside:=_,_law_beside:=⟨F35,b35,PySem.W.mg_of X G a35,k35⟩,
  a__law_ways:=f36,d__law_ways:=_,_law_ways:=⟨F36,b36,PySem.W.mg_of X G a36,k36⟩,
  a__law_rank:=f37,d__law_rank:=_,_law_rank:=⟨F37,b37,PySem.W.mg_of X G a37,k37⟩,
  a__law_lets:=f38,d__law_lets:=_,_law_lets:=⟨F38,b38,PySem.W.mg_of X G a38,k38⟩,
  a__law_offered:=f39,d__law_offered:=_,_law_offered:=⟨F39,b39,PySem.W.mg_of X G a39,k39⟩,
  a__law_is_rest:=f40,d__law_is_rest:=_,_law_is_rest:=⟨F40,b40,PySem.W.mg_of X G a40,k40⟩,
  a__law_choice:=f41,d__law_choice:=_,_law_choice:=⟨F41,b41,PySem.W.mg_of X G a41,k41⟩,
  a__law_settled:=f42,d__law_settled:=_,_law_settled:=⟨F42,b42,PySem.W.mg_of X G a42,k42⟩,
  a__law_told:=f43,d__law_told:=_,_law_told:=⟨F43,b43,PySem.W.mg_of X G a43,k43⟩,
  a_law:=fa,d_law:=_,law:=⟨F44,b44,PySem.W.mg_of X G a44,k44⟩,
  v_LONGEST:=_,m_LONGEST:=PySem.W.mg_of X G g_LONGEST,r_LONGEST:=⟨tk_LONGEST,rfl⟩,
  a_TAKEN:=_,m_TAKEN:=PySem.W.mg_of X G g_TAKEN,t_TAKEN:=λH=> .inr ⟨_,_,nT_TAKEN,l_TAKEN,rfl,rfl,by show 4<=sizeLine;decide,(.cons ⟨t0_TAKEN,rfl⟩ (.cons ⟨t1_TAKEN,rfl⟩ (.cons ⟨t2_TAKEN,rfl⟩ (.cons ⟨t3_TAKEN,rfl⟩ .nil))))⟩,
  isinstance:=PySem.W.mg_none_of X G z_isinstance,
  str:=PySem.W.mg_none_of X G z_str,
  len:=PySem.W.mg_none_of X G z_len,
  int:=PySem.W.mg_none_of X G z_int,
  tuple:=PySem.W.mg_none_of X G z_tuple,
  range:=PySem.W.mg_none_of X G z_range,
  max:=PySem.W.mg_none_of X G z_max,
  min:=PySem.W.mg_none_of X G z_min,
  sorted:=PySem.W.mg_none_of X G z_sorted,
  enumerate:=PySem.W.mg_none_of X G z_enumerate,
  zip:=PySem.W.mg_none_of X G z_zip,
  dict:=PySem.W.mg_none_of X G z_dict,
  all:=PySem.W.mg_none_of X G z_all,
  reversed:=PySem.W.mg_none_of X G z_reversed,
  repr:=PySem.W.mg_none_of X G z_repr,
  list:=PySem.W.mg_none_of X G z_list,
  bool:=PySem.W.mg_none_of X G z_bool}
 exact⟨PySem.W.fnOf "law" "law" (zo zdH) (zm zdH) (zc zdH) .none kV44 dc44 pm44 an44 cd44 ct44,λs v=> .of_eq rfl,λbase _ _=>zlP Y F44⟩
def vw:Program:={PySem.Challenge.pw_restways_k22_what_is_a_rest with main:={PySem.Challenge.pw_restways_k22_what_is_a_rest.main with body:=([1,2,3,5,6,11,12,13,14,15,17,18,20,21,22,24,25,27,28,30,31,32,33,34,35,36,37,38,39,40,41,42,43,44,45,46,47,48,49,50,51,52,53,54]:List Nat).filterMap λi=>PySem.Challenge.pw_restways_k22_what_is_a_rest.main.body[i]?}}
end K22
open PySem PySem.W PyProof.Rows
local macro_rules | `(tactic|o_head $H)=> `(tactic|(
 refine holds_open (N:=3008) (q:=K22.vw) (loose:=[(PySem.Str.ofString "holds"),(PySem.Str.ofString "all_hold")]) (YP:=Hook.says $H) (Ya:=Hook.val $H) (Yf:=Hook.obs $H) (XP:=XL K22.vw [])
  (Xt:=λz=>xlAt K22.vw [] z&&recOk [] z) (λw=>by kernel_rfl) (Hook.of $H) (Hook.keeps $H) (λz e=>xl_of z (Bool.and_eq_true_iff.mp e).1) XL.keeps
  (by rfl) (by rfl) (by rfl) (λz e=>recFacts_of (Bool.and_eq_true_iff.mp e).2) (by rfl) (by first|assumption|decide +kernel) (by decide +kernel)
  ⟨rfl,rfl,rfl,rfl,rfl,by decide +kernel⟩ ?hw ?hc))
set_option maxRecDepth 100000 in
set_option maxHeartbeats 0 in
theorem PySem.Challenge.cw_restways_k22_what_is_a_rest_holds : PySem.Challenge.rw_restways_k22_what_is_a_rest.Holds := by
 w_on;o_law;k_head;(case hw=>w_witness2)
 k_fill
 refine K22.walk (l:=PySem.Challenge.rw_restways_k22_what_is_a_rest) rfl rfl (λw h Y=>PySem.W.kIn_of Y) ?F
 case F=>
  intro w mg fa h KX G hmg
  refine' K22.all_mk KX G hmg ?a1 ?l1 ?c1 ?k1 ?a2 ?l2 ?c2 ?k2 ?a3 ?l3 ?c3 ?k3 ?a4 ?l4 ?c4 ?k4 ?ld4 ?a5 ?l5 ?c5 ?k5 ?ld5 ?a6 ?l6 ?c6 ?k6 ?a7 ?l7 ?c7 ?k7 ?a8 ?l8 ?c8 ?k8 ?a9 ?l9 ?c9 ?k9 ?a10 ?l10 ?c10 ?k10 ?a11 ?l11 ?c11 ?k11 ?a12 ?l12 ?c12 ?k12 ?a13 ?l13 ?c13 ?k13 ?a14 ?l14 ?c14 ?k14 ?a15 ?l15 ?c15 ?k15 ?a16 ?l16 ?c16 ?k16 ?a17 ?l17 ?c17 ?k17 ?a18 ?l18 ?c18 ?k18 ?a19 ?l19 ?c19 ?k19 ?a20 ?l20 ?c20 ?k20 ?a21 ?l21 ?c21 ?k21 ?a22 ?l22 ?c22 ?k22 ?a23 ?l23 ?c23 ?k23 ?a24 ?l24 ?c24 ?k24 ?a25 ?l25 ?c25 ?k25 ?a26 ?l26 ?c26 ?k26 ?a27 ?l27 ?c27 ?k27 ?a28 ?l28 ?c28 ?k28 ?a29 ?l29 ?c29 ?k29 ?a30 ?l30 ?c30 ?k30 ?a31 ?l31 ?c31 ?k31 ?a32 ?l32 ?c32 ?k32 ?a33 ?l33 ?c33 ?k33 ?a34 ?l34 ?c34 ?k34 ?a35 ?l35 ?c35 ?k35 ?a36 ?l36 ?c36 ?k36 ?a37 ?l37 ?c37 ?k37 ?a38 ?l38 ?c38 ?k38 ?a39 ?l39 ?c39 ?k39 ?a40 ?l40 ?c40 ?k40 ?a41 ?l41 ?c41 ?k41 ?a42 ?l42 ?c42 ?k42 ?a43 ?l43 ?c43 ?k43 ?a44 ?l44 ?c44 ?k44 ?g_LONGEST ?g_TAKEN ?l_TAKEN ?z_isinstance ?z_str ?z_len ?z_int ?z_tuple ?z_range ?z_max ?z_min ?z_sorted ?z_enumerate ?z_zip ?z_dict ?z_all ?z_reversed ?z_repr ?z_list ?z_bool
  (case a1=>k_is)
  (case l1=>k_is)
  (case c1=>k_is)
  (case k1=>k_is)
  (case a2=>k_is)
  (case l2=>k_is)
  (case c2=>k_is)
  (case k2=>k_is)
  (case a3=>k_is)
  (case l3=>k_is)
  (case c3=>k_is)
  (case k3=>k_is)
  (case a4=>k_is)
  (case l4=>k_is)
  (case c4=>k_is)
  (case k4=>k_is)
  (case ld4=>k_is)
  (case a5=>k_is)
  (case l5=>k_is)
  (case c5=>k_is)
  (case k5=>k_is)
  (case ld5=>k_is)
  (case a6=>k_is)
  (case l6=>k_is)
  (case c6=>k_is)
  (case k6=>k_is)
  (case a7=>k_is)
  (case l7=>k_is)
  (case c7=>k_is)
  (case k7=>k_is)
  (case a8=>k_is)
  (case l8=>k_is)
  (case c8=>k_is)
  (case k8=>k_is)
  (case a9=>k_is)
  (case l9=>k_is)
  (case c9=>k_is)
  (case k9=>k_is)
  (case a10=>k_is)
  (case l10=>k_is)
  (case c10=>k_is)
  (case k10=>k_is)
  (case a11=>k_is)
  (case l11=>k_is)
  (case c11=>k_is)
  (case k11=>k_is)
  (case a12=>k_is)
  (case l12=>k_is)
  (case c12=>k_is)
  (case k12=>k_is)
  (case a13=>k_is)
  (case l13=>k_is)
  (case c13=>k_is)
  (case k13=>k_is)
  (case a14=>k_is)
  (case l14=>k_is)
  (case c14=>k_is)
  (case k14=>k_is)
  (case a15=>k_is)
  (case l15=>k_is)
  (case c15=>k_is)
  (case k15=>k_is)
  (case a16=>k_is)
  (case l16=>k_is)
  (case c16=>k_is)
  (case k16=>k_is)
  (case a17=>k_is)
  (case l17=>k_is)
  (case c17=>k_is)
  (case k17=>k_is)
  (case a18=>k_is)
  (case l18=>k_is)
  (case c18=>k_is)
  (case k18=>k_is)
  (case a19=>k_is)
  (case l19=>k_is)
  (case c19=>k_is)
  (case k19=>k_is)
  (case a20=>k_is)
  (case l20=>k_is)
  (case c20=>k_is)
  (case k20=>k_is)
  (case a21=>k_is)
  (case l21=>k_is)
  (case c21=>k_is)
  (case k21=>k_is)
  (case a22=>k_is)
  (case l22=>k_is)
  (case c22=>k_is)
  (case k22=>k_is)
  (case a23=>k_is)
  (case l23=>k_is)
  (case c23=>k_is)
  (case k23=>k_is)
  (case a24=>k_is)
  (case l24=>k_is)
  (case c24=>k_is)
  (case k24=>k_is)
  (case a25=>k_is)
  (case l25=>k_is)
  (case c25=>k_is)
  (case k25=>k_is)
  (case a26=>k_is)
  (case l26=>k_is)
  (case c26=>k_is)
  (case k26=>k_is)
  (case a27=>k_is)
  (case l27=>k_is)
  (case c27=>k_is)
  (case k27=>k_is)
  (case a28=>k_is)
  (case l28=>k_is)
  (case c28=>k_is)
  (case k28=>k_is)
  (case a29=>k_is)
  (case l29=>k_is)
  (case c29=>k_is)
  (case k29=>k_is)
  (case a30=>k_is)
  (case l30=>k_is)
  (case c30=>k_is)
  (case k30=>k_is)
  (case a31=>k_is)
  (case l31=>k_is)
  (case c31=>k_is)
  (case k31=>k_is)
  (case a32=>k_is)
  (case l32=>k_is)
  (case c32=>k_is)
  (case k32=>k_is)
  (case a33=>k_is)
  (case l33=>k_is)
  (case c33=>k_is)
  (case k33=>k_is)
  (case a34=>k_is)
  (case l34=>k_is)
  (case c34=>k_is)
  (case k34=>k_is)
  (case a35=>k_is)
  (case l35=>k_is)
  (case c35=>k_is)
  (case k35=>k_is)
  (case a36=>k_is)
  (case l36=>k_is)
  (case c36=>k_is)
  (case k36=>k_is)
  (case a37=>k_is)
  (case l37=>k_is)
  (case c37=>k_is)
  (case k37=>k_is)
  (case a38=>k_is)
  (case l38=>k_is)
  (case c38=>k_is)
  (case k38=>k_is)
  (case a39=>k_is)
  (case l39=>k_is)
  (case c39=>k_is)
  (case k39=>k_is)
  (case a40=>k_is)
  (case l40=>k_is)
  (case c40=>k_is)
  (case k40=>k_is)
  (case a41=>k_is)
  (case l41=>k_is)
  (case c41=>k_is)
  (case k41=>k_is)
  (case a42=>k_is)
  (case l42=>k_is)
  (case c42=>k_is)
  (case k42=>k_is)
  (case a43=>k_is)
  (case l43=>k_is)
  (case c43=>k_is)
  (case k43=>k_is)
  (case a44=>k_is)
  (case l44=>k_is)
  (case c44=>k_is)
  (case k44=>k_is)
  (case g_LONGEST=>k_is)
  (case g_TAKEN=>k_is)
  (case l_TAKEN=>k_is)
  (case z_isinstance=>k_is)
  (case z_str=>k_is)
  (case z_len=>k_is)
  (case z_int=>k_is)
  (case z_tuple=>k_is)
  (case z_range=>k_is)
  (case z_max=>k_is)
  (case z_min=>k_is)
  (case z_sorted=>k_is)
  (case z_enumerate=>k_is)
  (case z_zip=>k_is)
  (case z_dict=>k_is)
  (case z_all=>k_is)
  (case z_reversed=>k_is)
  (case z_repr=>k_is)
  (case z_list=>k_is)
  (case z_bool=>k_is)
